/-
  A tree in a law; known.
-/
import Derived.Test.YtdcmkcplklkfmaaDoorTLook2
import Derived.Lib.SlBytesConst
namespace Go.Proofs.YtdcmkcplklkfmaaDoor
open Go.RowKit Go.Maps Go.Sort

/-- A law's tree: its blocks lie from N on, and nothing under N has changed. -/
structure Lw (N : Nat) (w0 w : World) (t : Nat) (T : Ts) (K : Nat) : Prop where
  ex : ∃ A O, Tr w t T.F A O T.bl T.ino K ∧ ∀ k, (O k).isSome = true → N ≤ k
  tab : Tab w
  pos : 0 < N
  bel : Below N w0 w
  le : N ≤ w.heap.size
theorem Lw.kept {N : Nat} {w0 w w' : World} {t : Nat} {T : Ts} {K : Nat} (h : Lw N w0 w t T K) (hb : Below w.heap.size w w') : Lw N w0 w' t T K := by
  obtain ⟨A, O, h1, h2⟩ := h.ex
  exact ⟨⟨A, O, h1.below hb, h2⟩, tab_below h.tab hb, h.pos, h.bel.trans (hb.mono h.le), Nat.le_trans h.le hb.size⟩
theorem Lw.tN {N : Nat} {w0 w : World} {t : Nat} {T : Ts} {K : Nat} (h : Lw N w0 w t T K) : N ≤ t ∧ t < w.heap.size := by
  obtain ⟨A, O, h1, h2⟩ := h.ex
  exact ⟨h2 t (by rw [h1.atT]; rfl), h1.lt _ _ h1.atT⟩
theorem Lw.do_ {N : Nat} {w0 w : World} {t : Nat} {T : Ts} {K : Nat} (h : Lw N w0 w t T K) (hK : K ≤ 60000) (o : Ac) (dv : Value) (hd : Bs w dv o.d) (hB : IsB o.d) (hdt : ∀ a n c, dv = .slice (some a) n c → 0 < n → ¬ a.block = t) (hp : o.p.size ≤ 3000) (hq : o.q.size ≤ 3000) {c : Int} {T' : Ts} (hr : doR T o = (c, T')) :
    Calls Tryd.prog 12 #[ptr t, .agg #[.int .i64 o.k, .string o.p, .string o.q, dv, .int .i64 o.n]] w fun e w' => e = .returned (.int .i64 c) ∧ Lw N w0 w' t T' (K + 2) ∧ Chg (fun b => N ≤ b ∧ b < w.heap.size) w w' := by
  obtain ⟨A, O, h1, h2⟩ := h.ex
  have hO0 : O 0 = none := by
    cases e : O 0 with
    | none => rfl
    | some z => have := h2 0 (by rw [e]; rfl); have := h.pos; omega
  refine (do_any (N := N) h1 h.tab hK hO0 o dv hd hB hdt hp hq h.le).mono ?_
  rintro e w' ⟨rfl, A', O', g1, g2, g3⟩
  rw [hr] at g1
  have g2' : Chg (fun b => N ≤ b ∧ b < w.heap.size) w w' := g2.mono (fun b _ hb => ⟨h2 b hb, by assumption⟩)
  refine ⟨by rw [hr], ⟨⟨A', O', g1, fun k hk => (g3 k hk).elim (h2 k) id⟩, fun j hj => g2'.cell (h.tab j hj) (fun e => ?_), h.pos, h.bel.trans (g2'.below h.le (fun k hk => hk.1)), Nat.le_trans h.le g2.size⟩, g2'⟩
  have h0 : N ≤ 0 := e.1
  have := h.pos
  omega
theorem Lw.new (b i : Int) (w : World) (hT : Tab w) (hb0 : 0 ≤ b) (hb1 : b ≤ 16384) (hi0 : 1 ≤ i) (hi1 : i ≤ 256) :
    Calls Tryd.prog 9 #[.int .i64 b, .int .i64 i] w fun e w' => ∃ t, e = .returned (.tuple #[ptr t, .int .i64 0]) ∧ Lw w.heap.size w w' t (tr0 b (i - 1)) 0 := by
  refine (new_any b i w hb0 hb1 hi0 hi1).mono ?_
  rintro e w' ⟨t, A, O, rfl, h1, h2, B⟩
  have hpos : 0 < w.heap.size := World.block_lt_of_cell? w ⟨0, 0, none⟩ (hT 0 (by omega))
  exact ⟨t, rfl, ⟨A, O, h1, h2⟩, tab_below hT B, hpos, B, B.size⟩
theorem Lw.free {N : Nat} {w0 w : World} {t : Nat} {T : Ts} {K : Nat} (h : Lw N w0 w t T K) :
    Calls Tryd.prog 11 #[ptr t] w fun e w' => e = .returned (.tuple #[.int .i64 T.bl, .int .i64 T.ino]) ∧ Below w.heap.size w w' := by
  obtain ⟨A, O, h1, h2⟩ := h.ex
  exact free_any t _ _ w h1.cbl h1.cin
theorem Lw.read {N : Nat} {w0 w : World} {t : Nat} {T : Ts} {K : Nat} (h : Lw N w0 w t T K) {s : ByteArray} (hs : s.size ≤ 3000) (hE : thE T.F s = 0) {bs : List Int} (hn : T.F (spN s) = some (.file bs)) :
    Calls Tryd.prog 17 #[ptr t, .string s] w fun e w' => ∃ v, e = .returned (.tuple #[v, .int .i64 0]) ∧ w'.ownsRow w.heap.size 5 1 v bs.length (bcells bs) ∧ Below w.heap.size w w' := by
  obtain ⟨A, O, h1, h2⟩ := h.ex
  exact read_ok h1 hs hE hn
theorem Lw.list {N : Nat} {w0 w : World} {t : Nat} {T : Ts} {K : Nat} (h : Lw N w0 w t T K) (hK : K ≤ 90000) {s : ByteArray} (hs : s.size ≤ 3000) (hE : thE T.F s = 0) {n : Nat} {kn : List ByteArray} (hn : T.F (spN s) = some (.dir n kn)) :
    Calls Tryd.prog 15 #[ptr t, .string s] w fun e w' => ∃ v, e = .returned (.tuple #[v, .int .i64 0]) ∧ w'.ownsRow w.heap.size 9 1 v kn.length ((nmL kn).map encStr) ∧ Below w.heap.size w w' := by
  obtain ⟨A, O, h1, h2⟩ := h.ex
  exact list_ok h1 hK hs hE hn
theorem Lw.stat {N : Nat} {w0 w : World} {t : Nat} {T : Ts} {K : Nat} (h : Lw N w0 w t T K) {s : ByteArray} (hs : s.size ≤ 3000) (hE : thE T.F s = 0) {nd : Nd} (hn : T.F (spN s) = some nd) :
    Calls Tryd.prog 14 #[ptr t, .string s] w fun e w' => e = .returned (.tuple #[nd.inf, .int .i64 0]) ∧ Below w.heap.size w w' := by
  obtain ⟨A, O, h1, h2⟩ := h.ex
  exact stat_ok h1 hs hE hn
theorem Lw.statno {N : Nat} {w0 w : World} {t : Nat} {T : Ts} {K : Nat} (h : Lw N w0 w t T K) {s : ByteArray} (hs : s.size ≤ 3000) {c : Int} (hE : thE T.F s = c) (hc : ¬ c = 0) :
    Calls Tryd.prog 14 #[ptr t, .string s] w fun e w' => e = .returned (.tuple #[inV false 0 0, .int .i64 c]) ∧ Below w.heap.size w w' := by
  obtain ⟨A, O, h1, h2⟩ := h.ex
  exact stat_no h1 hs hE hc
theorem Lw.donil {N : Nat} {w0 w : World} {t : Nat} {T : Ts} {K : Nat} (h : Lw N w0 w t T K) (hK : K ≤ 60000) (k : Int) (p q : ByteArray) (hp : p.size ≤ 3000) (hq : q.size ≤ 3000) {c : Int} {T' : Ts} (hr : doR T ⟨k, p, q, [], 0⟩ = (c, T')) :
    Calls Tryd.prog 12 #[ptr t, .agg #[.int .i64 k, .string p, .string q, .slice none 0 0, .int .i64 0]] w fun e w' => e = .returned (.int .i64 c) ∧ Lw N w0 w' t T' (K + 2) ∧ Chg (fun b => N ≤ b ∧ b < w.heap.size) w w' :=
  h.do_ hK ⟨k, p, q, [], 0⟩ (.slice none 0 0) (.inl ⟨rfl, rfl⟩) (fun _ h => by cases h) (fun a n c e _ => by cases e) hp hq hr

def kT1 : Ts := (doR (tr0 10 9) ⟨1, ⟨#[47, 97]⟩, ⟨#[]⟩, [], 0⟩).2
def kT2 : Ts := (doR kT1 ⟨3, ⟨#[47, 97]⟩, ⟨#[]⟩, [120, 121], 0⟩).2
def kT3 : Ts := (doR kT2 ⟨1, ⟨#[47, 98]⟩, ⟨#[]⟩, [], 0⟩).2
def kT4 : Ts := (doR kT3 ⟨7, ⟨#[47, 97]⟩, ⟨#[47, 98]⟩, [], 0⟩).2
theorem pair_of {α β : Type} {x : α × β} {a : α} (h : x.1 = a) : x = (a, x.2) := by rw [← h]
theorem kk1 : doR (tr0 10 9) ⟨1, ⟨#[47, 97]⟩, ⟨#[]⟩, [], 0⟩ = (0, kT1) := pair_of (by kernel_rfl)
theorem kk2 : doR kT1 ⟨3, ⟨#[47, 97]⟩, ⟨#[]⟩, [120, 121], 0⟩ = (0, kT2) := pair_of (by kernel_rfl)
theorem kk3 : doR kT2 ⟨1, ⟨#[47, 98]⟩, ⟨#[]⟩, [], 0⟩ = (0, kT3) := pair_of (by kernel_rfl)
theorem kk4 : doR kT3 ⟨7, ⟨#[47, 97]⟩, ⟨#[47, 98]⟩, [], 0⟩ = (0, kT4) := pair_of (by kernel_rfl)
theorem kk5 : thE kT4.F ⟨#[47, 98]⟩ = 0 := by kernel_rfl
theorem kk6 : kT4.F (spN ⟨#[47, 98]⟩) = some (.file [120, 121]) := by kernel_rfl
theorem kk7 : thE kT4.F ⟨#[47]⟩ = 0 := by kernel_rfl
theorem kk8 : kT4.F (spN ⟨#[47]⟩) = some (.dir 2 [⟨#[98]⟩]) := by kernel_rfl
theorem kk9 : kT4.bl = 8 := by kernel_rfl
theorem kk10 : kT4.ino = 8 := by kernel_rfl
theorem kk11 : strC [120, 121] = ⟨#[120, 121]⟩ := by kernel_rfl
set_option maxHeartbeats 3200000 in
set_option maxRecDepth 100000 in
theorem known_any (w : World) (hT : Tab w) : Calls Tryd.prog 7 #[] w fun e w' => e = .returned (.bool true) ∧ Below w.heap.size w w' := by
  have kc := fun (w : World) (C : Array Value) (n c : Nat) => Lib.run_convert_bytes_const (P := Tryd.prog) w 33 5 C n c Tryd.underlying33 Tryd.underlying5
  go_enter Tryd.func7, Tryd.ntmps7
  go_wp2_with fail
  refine (Lw.new 10 10 w hT (by omega) (by omega) (by omega) (by omega)).mono ?_
  rintro e w1 ⟨t, rfl, L1⟩
  have H1 : Hid (Lw w.heap.size w w1 t (tr0 10 9) 0) := L1
  clear L1
  go_wp2_with fail
  refine (H1.out.donil (by omega) 1 ⟨#[47, 97]⟩ ⟨#[]⟩ (by decide) (by decide) kk1).mono ?_
  clear H1
  rintro e w2 ⟨rfl, L, _⟩
  have H2 : Hid (Lw w.heap.size w w2 t kT1 2) := L
  clear L
  go_wp2_with fail
  have BL := below_alloc w2 (.cells #[.int .u8 120, .int .u8 121] 5 (2, 3))
  have hB : Bs (w2.alloc (.cells #[.int .u8 120, .int .u8 121] 5 (2, 3))) (.slice (some ⟨w2.heap.size, 0, none⟩) 2 2) [120, 121] := Bs.litC w2 [120, 121] (2, 3) (by decide)
  have htl := H2.out.tN.2
  refine ((H2.out.kept BL).do_ (by omega) ⟨3, ⟨#[47, 97]⟩, ⟨#[]⟩, [120, 121], 0⟩ (.slice (some ⟨w2.heap.size, 0, none⟩) 2 2) hB (fun x hx => by simp at hx; omega) (fun a n c e _ => by cases e; show ¬ w2.heap.size = t; omega) (by decide) (by decide) kk2).mono ?_
  clear H2 BL hB htl
  rintro e w3 ⟨rfl, L, _⟩
  have H3 : Hid (Lw w.heap.size w w3 t kT2 4) := L
  clear L kc
  go_wp2_with fail
  refine (H3.out.donil (by omega) 1 ⟨#[47, 98]⟩ ⟨#[]⟩ (by decide) (by decide) kk3).mono ?_
  clear H3
  rintro e w4 ⟨rfl, L, _⟩
  have H4 : Hid (Lw w.heap.size w w4 t kT3 6) := L
  clear L
  go_wp2_with fail
  refine (H4.out.donil (by omega) 7 ⟨#[47, 97]⟩ ⟨#[47, 98]⟩ (by decide) (by decide) kk4).mono ?_
  clear H4
  rintro e w5 ⟨rfl, L, _⟩
  have H5 : Hid (Lw w.heap.size w w5 t kT4 8) := L
  clear L
  go_wp2_with fail
  refine (H5.out.read (s := ⟨#[47, 98]⟩) (by decide) kk5 kk6).mono ?_
  rintro e w6 ⟨v, rfl, hv, B6⟩
  have H6 : Hid (Lw w.heap.size w w6 t kT4 8 ∧ Bs w6 v [120, 121]) := ⟨H5.out.kept B6, Bs.ofOwns hv⟩
  obtain ⟨a6, c6, rfl⟩ := own_form' hv
  clear H5 hv B6
  go_wp2_with fail
  refine (H6.out.1.list (s := ⟨#[47]⟩) (by omega) (by decide) kk7 kk8).mono ?_
  rintro e w7 ⟨v7, rfl, hv, B7⟩
  obtain ⟨a7, c7, rfl⟩ := own_sl1 hv
  have H7 : Hid (Lw w.heap.size w w7 t kT4 8 ∧ Bs w7 (.slice a6 [120, 121].length c6) [120, 121]) := ⟨H6.out.1.kept B7, H6.out.2.kept (Chg.ofBelowC B7) (fun _ _ _ _ _ h => h)⟩
  clear H6 hv B7
  go_wp2_with fail
  refine H7.out.1.free.mono ?_
  rw [kk9, kk10]
  rintro e w8 ⟨rfl, B8⟩
  have hr := run_strC (H7.out.2.kept (Chg.ofBelowC B8) (fun _ _ _ _ _ h => h))
  rw [kk11] at hr
  change (convert 33 9 (.slice a6 2 c6)).run Tryd.prog w8 = _ at hr
  have H8 : Hid (Below w.heap.size w w8) := H7.out.1.bel.trans (B8.mono H7.out.1.le)
  clear H7 B8
  go_wp2_with fail
  go_ret
  exact ⟨rfl, H8.out⟩
end Go.Proofs.YtdcmkcplklkfmaaDoor
