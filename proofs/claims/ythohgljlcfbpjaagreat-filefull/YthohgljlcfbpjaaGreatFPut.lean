/-
  Put of package file.
-/
import Derived.Test.YthohgljlcfbpjaaGreatFApp0
import Derived.Test.YthohgljlcfbpjaaGreatFCut
namespace Go.Proofs.YthohgljlcfbpjaaGreat
open Go.RowKit Go.Maps

theorem pad_splice {bs b : List Int} {off : Nat} (h : off + b.length ≤ bs.length) : pad (splice bs off b) = splice (pad bs) off b := by
  have e := splice_len h
  unfold pad
  rw [e]
  unfold splice
  rw [List.take_append_of_le_length (by omega), List.drop_append_of_le_length h, ← List.append_assoc]
section
variable {c : Cx} {X : Nat → Prop} {w : World} {V : Nat → List Int} {T : Nat → Bool} {nd : Nd} {B : Nat → Nat} {bs b : List Int}
set_option maxHeartbeats 800000 in
theorem put_ok (off : Nat) (u : Value) (hs : Fs c X w V T) (hF : File c V nd B T bs) (ho : c.Ok) (hl : off + b.length ≤ bs.length) (hb : Bs w u b) (hub : ∀ g, u.ownBlock = some g → 0 < b.length → X g) (hby : IsBy b) (hL : ∀ i, off / 512 ≤ i → 512 * i < off + b.length → B (2 * i) ∈ c.L) :
    Calls Tryz.prog 20 #[.pointer (some ⟨c.q, 0, none⟩), nd.v, .int .i64 (off : Int), u] w fun e w' => e = .returned (.int .i64 0) ∧
      ∃ V', Fs c X w' V' T ∧ File c V' nd B T (splice bs off b) ∧ (∀ n, (∀ i, i < blkC bs.length → B (2 * i) ≠ n) → V' n = V n) ∧ Sm X w w' := by
  have hsz := hF.sz
  have hlim := hF.lim
  have hc0 := Chg.alloc (fun _ => False) w (nd.o 29)
  have hbl : bs.length ≤ 512 * blkC bs.length := by unfold blkC; omega
  have MB : Hid (Calls Tryz.prog 49 #[nd.v] (w.alloc (nd.o 29)) fun e w1 => e = .returned (.bool true) ∧ Chg (fun _ => False) (w.alloc (nd.o 29)) w1) := maybe_any nd _ (by omega) (by omega)
  have LY : Hid (∀ w1, Chg (fun _ => False) w w1 → Calls Tryz.prog 47 #[tI c.q, nd.v, .int .i64 (off : Int), u] w1 fun e w' => e = .returned (.int .i64 0) ∧ Hid (∃ V', Fs c X w' V' T ∧ File c V' nd B T (splice bs off b) ∧ (∀ n, (∀ i, i < blkC bs.length → B (2 * i) ≠ n) → V' n = V n) ∧ Sm X w w')) := fun w1 h1 => by
    refine (lay_any off u b (hs.more h1) hF.fl ho hF.ct (hb.kept h1 (fun _ _ _ _ _ h => h)) hub (by omega) (by unfold blkC; omega) hby hL).mono ?_
    rintro e w' ⟨rfl, V', f1, f2, f3, f4, f5⟩
    have e := splice_len hl
    refine ⟨rfl, V', f1, ⟨by rw [e]; exact f2, by rw [e, pad_splice hl]; exact f3, by rw [e]; exact hsz, by rw [e]; exact hlim, fun y hy => ?_⟩, f4, (Sm.ofChg h1 hs.tv.xlt).trans f5⟩
    unfold splice at hy
    rcases List.mem_append.1 hy with hy | hy
    · rcases List.mem_append.1 hy with hy | hy
      · exact hF.by' y (List.mem_of_mem_take hy)
      · exact hby y hy
    · exact hF.by' y (List.mem_of_mem_drop hy)
  have hn1 : NdB 29 (w.alloc (nd.o 29)) w.heap.size nd := heap_alloc_new _ _
  obtain ⟨S0, hS0⟩ : ∃ S0, bs.length = S0 := ⟨_, rfl⟩
  rw [hS0] at hsz hl hlim
  obtain ⟨ua, uc, rfl, huc⟩ := hb.formB
  obtain ⟨lb, hlb⟩ : ∃ lb, b.length = lb := ⟨_, rfl⟩
  rw [hlb] at LY hl
  rw [hlb]
  obtain ⟨kd, lk, zz, e0, e1, e2, e3, e4, e5, e6, e7, on, tw⟩ := nd
  obtain rfl : zz = (S0 : Int) := hsz
  have HN1 : Hid (NdAt (w.alloc (Nd.o ⟨kd, lk, _, e0, e1, e2, e3, e4, e5, e6, e7, on, tw⟩ 29)) w.heap.size _) := hn1.at
  have HC0 : Hid _ := hc0
  have k0 : decide ((off : Int) < 0) = false := by simp
  have k1 : ¬ ((S0 : Int) - (off : Int) < (lb : Int)) := by omega
  have k2 : decide ((S0 : Int) - (off : Int) < (lb : Int)) = false := by simp; omega
  clear hs hF ho hb hub hby hL hc0 hbl hn1 hlb hS0 huc
  go_enter Tryz.func20, Tryz.ntmps20
  go_wp2_with fail
  refine (show Calls _ _ _ _ _ from MB.out).mono ?_
  clear MB
  rintro e w1 ⟨rfl, hc1⟩
  have hA := HN1.out.kept hc1 (fun h => h)
  have L1 : Hid _ := LY.out w1 ((show Chg _ _ _ from HC0.out).trans hc1 (fun _ _ h => h))
  obtain ⟨c0, c1, c2, c3, c4, c5, c6, c7, c8, c9, c10, c11, c12⟩ := hA
  simp only at c0 c1 c2 c3 c4 c5 c6 c7 c8 c9 c10 c11 c12
  clear HN1 HC0 hc1 LY
  go_wp2_with fail
  refine (show Calls _ _ _ _ _ from L1.out).mono ?_
  rintro e w2 ⟨rfl, HZ⟩
  go_wp2
  go_ret
  exact ⟨rfl, HZ.out⟩
set_option maxHeartbeats 800000 in
theorem put_bad (off : Int) (u : Value) (h0 : -9223372036854775808 ≤ off) (h1 : off < 9223372036854775808) (sz : Nat) (hsz : nd.sz = (sz : Int)) (hlim : sz ≤ 8458240) (hb : Bs w u b) (hbl : b.length ≤ 16777216) (hbad : off < 0 ∨ (sz : Int) < off + (b.length : Int)) (q : Nat) :
    Calls Tryz.prog 20 #[.pointer (some ⟨q, 0, none⟩), nd.v, .int .i64 off, u] w fun e w' => e = .returned (.int .i64 1) ∧ Chg (fun _ => False) w w' := by
  have hc0 := Chg.alloc (fun _ => False) w (nd.o 29)
  have MB : Hid (Calls Tryz.prog 49 #[nd.v] (w.alloc (nd.o 29)) fun e w1 => e = .returned (.bool true) ∧ Chg (fun _ => False) (w.alloc (nd.o 29)) w1) := maybe_any nd _ (by omega) (by omega)
  have hn1 : NdB 29 (w.alloc (nd.o 29)) w.heap.size nd := heap_alloc_new _ _
  obtain ⟨ua, uc, rfl, huc⟩ := hb.formB
  obtain ⟨lb, hlb⟩ : ∃ lb, b.length = lb := ⟨_, rfl⟩
  rw [hlb] at hbad hbl
  rw [hlb]
  obtain ⟨kd, lk, zz, e0, e1, e2, e3, e4, e5, e6, e7, on, tw⟩ := nd
  obtain rfl : zz = (sz : Int) := hsz
  have HN1 : Hid (NdAt (w.alloc (Nd.o ⟨kd, lk, _, e0, e1, e2, e3, e4, e5, e6, e7, on, tw⟩ 29)) w.heap.size _) := hn1.at
  have HC0 : Hid _ := hc0
  clear hb hc0 hn1 hlb huc
  by_cases hneg : off < 0
  · have k0 : decide (off < 0) = true := by simpa using hneg
    clear hbad MB HN1
    go_enter Tryz.func20, Tryz.ntmps20
    go_wp2
    go_ret
    exact ⟨rfl, HC0.out⟩
  · have k0 : decide (off < 0) = false := by simpa using hneg
    have k1 : (sz : Int) - off < (lb : Int) := by omega
    have k2 : decide ((sz : Int) - off < (lb : Int)) = true := by simp; omega
    clear hbad
    go_enter Tryz.func20, Tryz.ntmps20
    go_wp2_with fail
    refine (show Calls _ _ _ _ _ from MB.out).mono ?_
    clear MB
    rintro e w1 ⟨rfl, hc1⟩
    have hA := HN1.out.kept hc1 (fun h => h)
    have HC : Hid (Chg (fun _ => False) w w1) := (show Chg _ _ _ from HC0.out).trans hc1 (fun _ _ h => h)
    obtain ⟨c0, c1, c2, c3, c4, c5, c6, c7, c8, c9, c10, c11, c12⟩ := hA
    simp only at c0 c1 c2 c3 c4 c5 c6 c7 c8 c9 c10 c11 c12
    clear HN1 HC0 hc1
    go_wp2
    go_ret
    exact ⟨rfl, HC.out⟩
end
end Go.Proofs.YthohgljlcfbpjaaGreat

namespace Go.Proofs.YthohgljlcfbpjaaGreat
open Go.RowKit Go.Maps

theorem frN_pre {n a : Nat} {T : Nat → Bool} (h : ∀ j, T j = decide (j < a)) (ha : a < n) : frN n T = a := by
  have hc : cntT T n < n := by
    have hl := cntT_le T n
    rcases Nat.lt_or_ge (cntT T n) n with h1 | h1
    · exact h1
    · exfalso
      have := cntT_set (T := T) (j := a) (n := n) (by rw [h a]; simp) ha
      have := cntT_le (upd T a true) n
      omega
  obtain ⟨h1, h2, h3⟩ := frN_spec hc
  rw [h] at h2
  have h2' : ¬ frN n T < a := by simpa using h2
  by_cases e : a < frN n T
  · have := h3 a e
    rw [h a] at this
    simp at this
  · omega
theorem grw_pre (F n : Nat) : ∀ (ks : List Nat) (s : (Nat → Bool) × (Nat → Nat)) (a : Nat), (∀ j, s.1 j = decide (j < a)) → a + ks.length ≤ n →
    (∀ j, (grw F n s ks).1 j = decide (j < a + ks.length)) ∧ ∀ k, k ∈ ks → F + a ≤ (grw F n s ks).2 k ∧ (grw F n s ks).2 k < F + a + ks.length
  | [], s, a, h, _ => ⟨fun j => by rw [grw_nil]; exact h j, fun k hk => by cases hk⟩
  | b :: r, s, a, h, hn => by
    rw [List.length_cons] at hn
    have hf := frN_pre (n := n) h (by omega)
    have hs : ∀ j, (stp F n s b).1 j = decide (j < a + 1) := fun j => by
      show upd s.1 (frN n s.1) true j = _
      rw [hf]
      by_cases e : j = a
      · rw [e, upd_same]; simp
      · rw [upd_other _ _ e, h j]
        congr 1
        exact propext ⟨fun h => by omega, fun h => by omega⟩
    obtain ⟨h1, h2⟩ := grw_pre F n r (stp F n s b) (a + 1) hs (by omega)
    rw [show b :: r = [b] ++ r from rfl, grw_app, grw_one]
    refine ⟨fun j => ?_, fun k hk => ?_⟩
    · rw [h1 j]
      congr 1
      simp only [List.length_append, List.length_cons, List.length_nil]
      exact propext ⟨fun h => by omega, fun h => by omega⟩
    · have hl : ([b] ++ r).length = r.length + 1 := by simp
      rw [hl]
      by_cases hr : k ∈ r
      · have := h2 k hr; omega
      · have hka : k = b := by
          rcases List.mem_append.1 hk with e | e
          · exact List.mem_singleton.1 e
          · exact absurd e hr
        rw [grw_other F n r _ k hr, hka]
        have e2 : (stp F n s b).2 b = F + frN n s.1 := upd_same _ _ _
        rw [e2, hf]; omega
theorem cntT_pre {n a : Nat} {T : Nat → Bool} (h : ∀ j, T j = decide (j < a)) (ha : a ≤ n) : cntT T n = a := by
  have e : T = (grw 0 n ((fun _ => false), (fun _ => 0)) (List.range a)).1 := by
    funext j
    have := (grw_pre 0 n (List.range a) ((fun _ => false), (fun _ => 0)) 0 (fun j => by simp) (by simpa using ha)).1 j
    rw [this, h j]
    simp
  rw [e]
  have h0 : cntT (fun _ : Nat => false) n = 0 := cntT_none (fun _ _ => rfl)
  have := grw_cnt 0 n (List.range a) ((fun _ => false), (fun _ => 0)) (by simp only; rw [h0]; simpa using ha)
  rw [this]
  simp only
  rw [h0]; simp
theorem zero_in : 0 ∈ List.range 63 := by rw [List.mem_range]; omega
/-- A transaction with one file, in a pool that has nothing else; K stays as it is. -/
def Tp (K : Nat → Prop) (w0 : World) (bb pl q n : Nat) (nd : Nd) (bs : List Int) (w : World) : Prop :=
  ∃ X pd pr g U V T B f com pend N, Fs (cx8 (List.range 63) w0 pd pl q n f com pend N) X w V T ∧ File (cx8 (List.range 63) w0 pd pl q n f com pend N) V nd B T bs ∧ Bz X w0 bb pl pr g n U w ∧ (∀ j, T j = decide (j < allM (blkC bs.length))) ∧ (∀ b, K b → X b) ∧ allM (blkC bs.length) ≤ 62 ∧ 1 ≤ n ∧ n ≤ 4096
section
variable {K : Nat → Prop} {w0 w w' : World} {bb pl q n : Nat} {nd : Nd} {bs b : List Int}
theorem Tp.more (h : Tp K w0 bb pl q n nd bs w) (hc : Chg (fun _ => False) w w') : Tp K w0 bb pl q n nd bs w' := by
  obtain ⟨X, pd, pr, g, U, V, T, B, f, com, pend, N, h1, h2, h3, h4⟩ := h
  exact ⟨X, pd, pr, g, U, V, T, B, f, com, pend, N, h1.more hc, h2, h3.kept hc (fun h => h) (fun h => h) (fun h => h), h4⟩
theorem Tp.add (h : Tp K w0 bb pl q n nd bs w) (hc : Chg (fun _ => False) w w') : Tp (addX K w.heap.size w'.heap.size) w0 bb pl q n nd bs w' := by
  obtain ⟨X, pd, pr, g, U, V, T, B, f, com, pend, N, h1, h2, h3, h4, h5, h6⟩ := h
  refine ⟨_, pd, pr, g, U, V, T, B, f, com, pend, N, h1.add hc, h2, (h3.kept hc (fun h => h) (fun h => h) (fun h => h)).of (fun _ h => .inl h), h4, fun b hb => ?_, h6⟩
  rcases hb with hb | hb
  · exact .inl (h5 b hb)
  · exact .inr hb
theorem Tp.less {K' : Nat → Prop} (h : Tp K w0 bb pl q n nd bs w) (hk : ∀ b, K' b → K b) : Tp K' w0 bb pl q n nd bs w := by
  obtain ⟨X, pd, pr, g, U, V, T, B, f, com, pend, N, h1, h2, h3, h4, h5, h6⟩ := h
  exact ⟨X, pd, pr, g, U, V, T, B, f, com, pend, N, h1, h2, h3, h4, fun b hb => h5 b (hk b hb), h6⟩
theorem Tp.put {r : Nat} (h : Tp K w0 bb pl q n nd bs w) (hr : K r) (hlo : w0.heap.size ≤ r) (hc : Chg (fun b => b = r) w w') (hx : ∀ X pr g U, Bz X w0 bb pl pr g n U w → r ≠ bb ∧ r ≠ pr ∧ r ≠ g) : Tp K w0 bb pl q n nd bs w' := by
  obtain ⟨X, pd, pr, g, U, V, T, B, f, com, pend, N, h1, h2, h3, h4, h5, h6⟩ := h
  obtain ⟨x1, x2, x3⟩ := hx X pr g U h3
  exact ⟨X, pd, pr, g, U, V, T, B, f, com, pend, N, h1.put (h5 r hr) hlo hc, h2, h3.kept hc (Ne.symm x1) (Ne.symm x2) (Ne.symm x3), h4, h5, h6⟩
theorem Tp.chg (h : Tp K w0 bb pl q n nd bs w) : Chg (fun _ => False) w0 w := by
  obtain ⟨X, pd, pr, g, U, V, T, B, f, com, pend, N, h1, _⟩ := h
  exact h1.tv.chg
theorem Tp.bx (h : Tp K w0 bb pl q n nd bs w) : ∃ pr, w.heap[bb]? = some (.cells #[.pointer (some ⟨pl, 0, none⟩), .int .i64 0, .int .i64 1, .int .i64 (n : Int), .pointer (some ⟨pr, 0, none⟩)] 45 (0, 0)) := by
  obtain ⟨X, pd, pr, g, U, V, T, B, f, com, pend, N, _, _, h3, _⟩ := h
  exact ⟨pr, h3.bx⟩
theorem Tp.klt (h : Tp K w0 bb pl q n nd bs w) : ∀ b, K b → b < w.heap.size := by
  obtain ⟨X, pd, pr, g, U, V, T, B, f, com, pend, N, h1, _, _, _, h5, _⟩ := h
  exact fun b hb => h1.tv.xlt b (h5 b hb)
/-- Begin, behind made. -/
theorem tp_begin {X : Nat → Prop} {pd pr g : Nat} {V : Nat → List Int} {U : Nat → Bool} {w1 : World} (h : Md X w0 bb pd pl pr g n V (fun _ => false) U 1 w1) (h1 : 1 ≤ n) (h2 : n ≤ 4096) (hnd : nd.free) :
    Calls Tryz.prog 11 #[.pointer (some ⟨pl, 0, none⟩)] w1 fun e w2 => ∃ q, e = .returned (.tuple #[.pointer (some ⟨q, 0, none⟩), .int .i64 0]) ∧ Tp X w0 bb pl q n nd [] w2 := by
  refine (md_begin h h2 (by decide)).mono ?_
  rintro e w2 ⟨q, rfl, ⟨f, com, pend, N, hp, hN, hfs⟩, hbz, hs2⟩
  exact ⟨q, rfl, X, pd, pr, g, U, V, _, (fun _ => 0), f, com, pend, N, hfs (List.range 63) (by simp), File.empty hnd, hbz, fun j => by simp [allM, innM, blkC], fun b hb => hb, by decide, h1, h2⟩
theorem tp_append (u : Value) (h : Tp K w0 bb pl q n nd bs w) (hl : bs.length + b.length ≤ 8458240) (hb : Bs w u b) (hub : ∀ g, u.ownBlock = some g → 0 < b.length → K g) (hby : IsBy b) (hfit : allM (blkC (bs.length + b.length)) ≤ n) (h62 : allM (blkC (bs.length + b.length)) ≤ 62) :
    Calls Tryz.prog 17 #[.pointer (some ⟨q, 0, none⟩), PV 0 1 n, nd.v, u] w fun e w' => ∃ nd', e = .returned (.tuple #[nd'.v, .int .i64 0]) ∧ Tp K w0 bb pl q n nd' (bs ++ b) w' ∧ nd'.sz = ((bs.length + b.length : Nat) : Int) ∧ Sm K w w' := by
  obtain ⟨X, pd, pr, g, U, V, T, B, f, com, pend, N, f1, F1, bz, pre, hk, h6, n1, n2⟩ := h
  have hle : blkC bs.length ≤ blkC (bs.length + b.length) := by unfold blkC; omega
  have hkl := keysTo_len (blkC bs.length) (blkC (bs.length + b.length) - blkC bs.length)
  rw [show blkC bs.length + (blkC (bs.length + b.length) - blkC bs.length) = blkC (bs.length + b.length) by omega] at hkl
  have hct := cntT_pre (n := n) pre (by omega)
  have hgp := grw_pre 1 n (keysTo (blkC bs.length) (blkC (bs.length + b.length) - blkC bs.length)) (T, B) _ pre (by omega)
  rw [hkl] at hgp
  have hW : Wrt (cx8 (List.range 63) w0 pd pl q n f com pend N) (grw 1 n (T, B) (keysTo (blkC bs.length) (blkC (bs.length + b.length) - blkC bs.length))).2 (blkC bs.length) (blkC (bs.length + b.length)) := by
    intro k hk' _
    show _ ∈ List.range 63
    rw [List.mem_range]
    by_cases hm : k ∈ keysTo (blkC bs.length) (blkC (bs.length + b.length) - blkC bs.length)
    · have := hgp.2 k hm; omega
    · have hlv := (keysTo_live (blkC bs.length) (blkC (bs.length + b.length) - blkC bs.length) k).1 (by rw [show blkC bs.length + (blkC (bs.length + b.length) - blkC bs.length) = blkC (bs.length + b.length) by omega]; exact hk')
      have hl' := hlv.resolve_right hm
      rw [grw_other _ _ _ _ _ hm]
      have ho := F1.fl.own k hl'
      have hT : T (B k - 1) = true := ho.2.2
      rw [pre] at hT
      have : B k - 1 < allM (blkC bs.length) := by simpa using hT
      show B k < 63
      omega
  refine (append_ok u f1 F1 (cx8_ok n1 n2 zero_in) hl hb (fun g hg h0 => hk g (hub g hg h0)) hby (by show cntT T n + _ ≤ n + _; omega) hW).mono ?_
  rintro e w' ⟨nd', rfl, V', s', hs', f', F', k', fr', sm'⟩
  subst hs'
  have hlen : (bs ++ b).length = bs.length + b.length := List.length_append
  refine ⟨nd', rfl, ⟨X, pd, pr, g, U, V', _, _, f, com, pend, N, f', F', bz.sm sm', fun j => ?_, hk, by rw [hlen]; exact h62, n1, n2⟩, by rw [← hlen]; exact F'.sz, fun b hb => sm' b (hk b hb)⟩
  rw [hlen]
  exact hgp.1 j
theorem tp_full (u : Value) (h : Tp K w0 bb pl q n nd bs w) (hl : bs.length + b.length ≤ 8458240) (hb : Bs w u b) (hfit : n < allM (blkC (bs.length + b.length))) (ha : allM (blkC bs.length) ≤ n) :
    Calls Tryz.prog 17 #[.pointer (some ⟨q, 0, none⟩), PV 0 1 n, nd.v, u] w fun e w' => e = .returned (.tuple #[Nd.no.v, .int .i64 7]) ∧ Chg (fun _ => False) w w' := by
  obtain ⟨X, pd, pr, g, U, V, T, B, f, com, pend, N, f1, F1, bz, pre, hk, h6, n1, n2⟩ := h
  have hct := cntT_pre (n := n) pre ha
  have ho := cx8_ok (w0 := w0) (pd := pd) (pl := pl) (q := q) (f := f) (com := com) (pend := pend) (N := N) n1 n2 zero_in
  have h := append_full u f1 F1 ho hl hb (by show n + _ < cntT T n + _; omega)
  exact h
theorem tp_read (off cnt : Nat) (h : Tp K w0 bb pl q n nd bs w) (h1 : off < 9223372036854775808) (h2 : cnt < 9223372036854775808) :
    Calls Tryz.prog 19 #[tI q, nd.v, .int .i64 (off : Int), .int .i64 (cnt : Int)] w fun e w' => ∃ u, e = .returned (.tuple #[u, .int .i64 0]) ∧ Own w w' u ((bs.drop off).take cnt) := by
  obtain ⟨X, pd, pr, g, U, V, T, B, f, com, pend, N, f1, F1, bz, pre, hk, h6, n1, n2⟩ := h
  have ho := cx8_ok (w0 := w0) (pd := pd) (pl := pl) (q := q) (f := f) (com := com) (pend := pend) (N := N) n1 n2 zero_in
  have h := read_file off cnt f1 F1 ho h1 h2
  exact h
theorem tp_free (h : Tp K w0 bb pl q n nd bs w) (ha : allM (blkC bs.length) ≤ n) :
    Calls Tryz.prog 13 #[PV 0 1 n, .pointer (some ⟨q, 0, none⟩)] w fun e w' => e = .returned (.tuple #[.int .i64 ((n - allM (blkC bs.length) : Nat) : Int), .int .i64 0]) ∧ Chg (fun _ => False) w w' := by
  obtain ⟨X, pd, pr, g, U, V, T, B, f, com, pend, N, f1, F1, bz, pre, hk, h6, n1, n2⟩ := h
  have hct := cntT_pre (n := n) pre ha
  have ho := cx8_ok (w0 := w0) (pd := pd) (pl := pl) (q := q) (f := f) (com := com) (pend := pend) (N := N) n1 n2 zero_in
  have h := fs_free f1 ho
  rw [← hct]
  exact h
end
end Go.Proofs.YthohgljlcfbpjaaGreat

namespace Go.Proofs.YthohgljlcfbpjaaGreat
open Go.RowKit Go.Maps

theorem makeNc (z : Nat) (hz : z ≤ 16777216) : ∃ o : Obj, (∀ w : World, (Instr.makeSlice 33 (.int .i64 (z : Int)) (.int .i64 (z : Int))).run Tryz.prog w = .ok (.slice (some ⟨w.heap.size, 0, none⟩) z z) (w.alloc o)) ∧ ∀ (w : World) (g : Nat), w.heap[g]? = some o → Bs w (.slice (some ⟨g, 0, none⟩) z z) (zeros z) := by
  obtain ⟨i0, hi, hz0, hz1, hz2⟩ := info5_parts
  refine ⟨.cells (madeCells (Value.int .u8 0).cells (z * 1)) 5, fun w => ?_, fun w g hg => ?_⟩
  · have := run_make (P := Tryz.prog) w 33 5 i0 (.int .u8 0) Tryz.underlying33 hi hz0 .i64 .i64 (z : Int) (z : Int) (by omega) (by omega) (by rw [hz2]; omega) (by omega)
    rw [hz1] at this
    exact this
  · refine .inr ⟨_, z, by rw [zeros_len], by rw [zeros_len]; exact Nat.le_refl _, by unfold maxLen; omega, fun j hj => ?_⟩
    rw [show (⟨g, 0, none⟩ : Addr).add j = ⟨g, j, none⟩ by simp [Addr.add_lit], cell_of_row _ _ _ _ _ _ hg, ← Array.getElem?_toList, made_bytes]
    exact bcells_nth hj
theorem hn_al {w : World} {b : Nat} {o o' : Obj} (h : w.heap[b]? = some o) : (w.alloc o').heap[b]? = some o := (Below.heap_alloc w o' b (lt_of_block h)).trans h
theorem hn_dr {w : World} {b : Nat} {o : Obj} (h : w.heap[b]? = some o) : w.drew.heap[b]? = some o := h
theorem hn_set {w : World} {b r j : Nat} {v : Value} {o : Obj} (hr : ¬ r = b) (h : w.heap[b]? = some o) : (w.setCell ⟨r, j, none⟩ v).heap[b]? = some o := (Below.heap_setCell w ⟨r, j, none⟩ v b (fun e => hr e.symm)).trans h
/-- Behind the call: what was new ahead of it is as it was; whatever is written to such a block, or to a new one, Z holds. -/
structure Ret (w3 wb w5 : World) (Z : Nat → World → Prop) : Prop where
  keep : ∀ r, w3.heap.size ≤ r → r < wb.heap.size → w5.heap[r]? = wb.heap[r]?
  old : ∀ w6 r, w3.heap.size ≤ r → r < wb.heap.size → Chg (fun k => k = r) w5 w6 → Z r w6
  new : ∀ w6 r, w5.heap.size ≤ r → r < w6.heap.size → Chg (fun _ => False) w5 w6 → Z r w6
theorem Ret.from {w3 w4 wb w5 : World} {Z : Nat → World → Prop} (h : Ret w3 wb w5 Z) (hle : w3.heap.size ≤ w4.heap.size) : Ret w4 wb w5 Z :=
  ⟨fun r h1 h2 => h.keep r (by omega) h2, fun w6 r h1 h2 => h.old w6 r (by omega) h2, h.new⟩
/-- The box lies below the call: stored into it, Z holds. -/
theorem Ret.put {w3 wb w5 : World} {Z : Nat → World → Prop} {r : Nat} {n : Nd} (h : Ret w3 wb w5 Z) (hn : NdB 29 w5 r n) (h1 : w3.heap.size ≤ r) (h2 : r < wb.heap.size) (m : Nd) : NdB 29 (putNd w5 r m) r m ∧ Z r (putNd w5 r m) := by
  obtain ⟨p1, p2⟩ := hn.put m
  exact ⟨p1, h.old _ r h1 h2 p2⟩
theorem Ret.box {w3 wb w5 : World} {Z : Nat → World → Prop} {r : Nat} {n : Nd} (h : Ret w3 wb w5 Z) (hn : NdB 29 wb r n) (h1 : w3.heap.size ≤ r) : NdB 29 w5 r n ∧ ∀ m, NdB 29 (putNd w5 r m) r m ∧ Z r (putNd w5 r m) := by
  have h5 : NdB 29 w5 r n := (h.keep r h1 hn.lt).trans hn
  refine ⟨h5, fun m => ?_⟩
  obtain ⟨p1, p2⟩ := h5.put m
  exact ⟨p1, h.old _ r h1 hn.lt p2⟩
theorem Ret.box' {w3 wb w5 : World} {Z : Nat → World → Prop} (h : Ret w3 wb w5 Z) (m : Nd) : NdB 29 (putNd (w5.alloc (Nd.no.o 29)) w5.heap.size m) w5.heap.size m ∧ Z w5.heap.size (putNd (w5.alloc (Nd.no.o 29)) w5.heap.size m) := by
  have h5 : NdB 29 (w5.alloc (Nd.no.o 29)) w5.heap.size Nd.no := heap_alloc_new _ _
  obtain ⟨p1, p2⟩ := h5.put m
  exact ⟨p1, h.new _ _ (Nat.le_refl _) p1.lt ((Chg.alloc (fun _ => False) w5 _).trans p2 (fun i hi e => by omega))⟩
theorem Ret.boxA {w3 wb w5 : World} {Z : Nat → World → Prop} (h : Ret w3 wb w5 Z) (oz : Obj) (hb : wb.heap = ((w3.alloc oz).alloc (Nd.no.o 29)).heap) : NdB 29 w5 (w3.heap.size + 1) Nd.no := by
  refine (h.keep _ (by omega) (by rw [hb]; simp)).trans ?_
  rw [hb]
  exact heap_new' (by simp)
theorem Ret.boxB {w3 wb w5 : World} {Z : Nat → World → Prop} (h : Ret w3 wb w5 Z) (oz : Obj) (hb : wb.heap = ((w3.alloc (Nd.no.o 29)).alloc oz).heap) : NdB 29 w5 w3.heap.size Nd.no := by
  refine (h.keep _ (by omega) (by rw [hb]; simp; omega)).trans ?_
  rw [hb]
  exact hn_al (heap_alloc_new _ _)
theorem Ret.boxC {w3 wb w5 : World} {Z : Nat → World → Prop} (h : Ret w3 wb w5 Z) (hb : wb.heap = (w3.alloc (Nd.no.o 29)).heap) : NdB 29 w5 w3.heap.size Nd.no := by
  refine (h.keep _ (by omega) (by rw [hb]; simp)).trans ?_
  rw [hb]
  exact heap_alloc_new _ _
theorem Ret.shA {w3 w5 : World} {Z : Nat → World → Prop} {oz : Obj} (h : Ret w3 ((w3.alloc oz).alloc (.cells #[.int .i64 0, .int .i64 0, .int .i64 0, .int .i64 0, .int .i64 0, .int .i64 0, .int .i64 0, .int .i64 0, .int .i64 0, .int .i64 0, .int .i64 0, .int .i64 0, .int .i64 0] 29)).drew w5 Z) : NdB 29 w5 (w3.heap.size + 1) Nd.no := Ret.boxA h oz rfl
theorem Ret.shB {w3 w5 : World} {Z : Nat → World → Prop} {oz : Obj} (h : Ret w3 ((w3.alloc (.cells #[.int .i64 0, .int .i64 0, .int .i64 0, .int .i64 0, .int .i64 0, .int .i64 0, .int .i64 0, .int .i64 0, .int .i64 0, .int .i64 0, .int .i64 0, .int .i64 0, .int .i64 0] 29)).alloc oz).drew w5 Z) : NdB 29 w5 w3.heap.size Nd.no := Ret.boxB h oz rfl
theorem Ret.shC {w3 w5 : World} {Z : Nat → World → Prop} (h : Ret w3 (w3.alloc (.cells #[.int .i64 0, .int .i64 0, .int .i64 0, .int .i64 0, .int .i64 0, .int .i64 0, .int .i64 0, .int .i64 0, .int .i64 0, .int .i64 0, .int .i64 0, .int .i64 0, .int .i64 0] 29)).drew w5 Z) : NdB 29 w5 w3.heap.size Nd.no := Ret.boxC h rfl
theorem Ret.box1 {w3 wb w5 : World} {m : Nd} {Z : Nat → World → Prop} (h : Ret w3 wb w5 Z) : NdB 29 (w5.alloc (m.o 29)) w5.heap.size m ∧ Z w5.heap.size (w5.alloc (m.o 29)) :=
  ⟨heap_alloc_new _ _, h.new _ _ (Nat.le_refl _) (by simp) (Chg.alloc _ w5 _)⟩
theorem Ret.none {w3 wb w5 : World} {Z : Nat → World → Prop} (hc : Chg (fun _ => False) w3 wb) (h5 : Chg (fun _ => False) wb w5) (hz : ∀ w6 r, w3.heap.size ≤ r → r < w6.heap.size → Chg (fun _ => False) w3 w6 → Z r w6) : Ret w3 wb w5 Z := by
  have h35 := hc.trans h5 (fun _ _ h => h)
  refine ⟨fun r _ h2 => h5.block r h2 (fun h => h), fun w6 r h1 h2 c6 => hz _ _ h1 ?_ (h35.trans c6 (fun i hi e => by omega)), fun w6 r h1 h2 c6 => hz _ _ ?_ h2 (h35.trans c6 (fun _ _ h => h))⟩
  · have := h5.size; have := c6.size; omega
  · have := h35.size; omega
section
variable {K : Nat → Prop} {w0 w3 wb : World} {bb pl q n : Nat} {nd : Nd} {bs b : List Int}
/-- Append, whatever is laid ahead of its call. -/
theorem tp_box (h : Tp K w0 bb pl q n nd bs w3) (hl : bs.length + b.length ≤ 8458240) (hby : IsBy b) (hfit : allM (blkC (bs.length + b.length)) ≤ n) (h62 : allM (blkC (bs.length + b.length)) ≤ 62) (u : Value) (hc : Chg (fun _ => False) w3 wb) (hb : Bs wb u b) (hub : ∀ g, u.ownBlock = some g → 0 < b.length → K g ∨ (w3.heap.size ≤ g ∧ g < wb.heap.size)) :
    Calls Tryz.prog 17 #[.pointer (some ⟨q, 0, none⟩), PV 0 1 n, nd.v, u] wb fun e w5 => ∃ nd', e = .returned (.tuple #[nd'.v, .int .i64 0]) ∧ Ret w3 wb w5 (fun r w6 => Tp (fun k => K k ∨ k = r) w0 bb pl q n nd' (bs ++ b) w6 ∧ Sm K w3 w6) ∧ nd'.sz = ((bs.length + b.length : Nat) : Int) ∧ Sm K w3 w5 := by
  obtain ⟨X0, pd, pr, g, U, V, T, B, f, com, pend, N, f1, F1, bz, pre, hk, h6, n1, n2⟩ := h
  have lt1 := f1.tv.xlt
  have hw3 : w0.heap.size ≤ w3.heap.size := f1.tv.chg.size
  have bzb : Bz (addX X0 w3.heap.size wb.heap.size) w0 bb pl pr g n U wb := (bz.kept hc (fun h => h) (fun h => h) (fun h => h)).of (fun _ h => .inl h)
  have hT : Tp (addX X0 w3.heap.size wb.heap.size) w0 bb pl q n nd bs wb := ⟨_, pd, pr, g, U, V, T, B, f, com, pend, N, f1.add hc, F1, bzb, pre, fun b hb => hb, h6, n1, n2⟩
  have lb := lt1 _ bz.x.1
  have lp := lt1 _ bz.x.2.1
  have lg := lt1 _ bz.x.2.2.1
  refine (tp_append u hT hl hb (fun g hg h0 => ?_) hby hfit h62).mono ?_
  · rcases hub g hg h0 with h | h
    · exact .inl (hk g h)
    · exact .inr h
  · rintro e w5 ⟨nd', rfl, ht, hsz, hsm⟩
    have hK3 : ∀ k, K k → k < w3.heap.size := fun k hk' => lt1 _ (hk k hk')
    have hs5 : Sm K w3 w5 := fun k hk' => (hsm k (.inl (hk k hk'))).trans (hc.block k (hK3 k hk') (fun h => h))
    have bz5 := bzb.sm hsm
    have hl5 : ∀ k, K k → k < w5.heap.size := fun k hk' => ht.klt _ (.inl (hk k hk'))
    refine ⟨nd', rfl, ⟨fun r h1 h2 => hsm r (.inr ⟨h1, h2⟩), fun w6 r h1 h2 c6 => ⟨?_, fun k hk' => ?_⟩, fun w6 r h1 h2 c6 => ⟨(ht.add c6).less (fun k hk' => ?_), fun k hk' => (c6.block k (hl5 k hk') (fun h => h)).trans (hs5 k hk')⟩⟩, hsz, hs5⟩
    · obtain ⟨X', pd', pr', g', U', V', T', B', f', com', pend', N', a1, a2, a3, a4, a5, a6⟩ := ht
      have ebx : pr' = pr := by
        have := a3.bx.symm.trans bz5.bx
        simp at this
        exact this
      subst ebx
      have egx : g' = g := by
        have := a3.rp.at'.blk.symm.trans bz5.rp.at'.blk
        simp at this
        exact this
      subst egx
      refine ⟨X', pd', pr', g', U', V', T', B', f', com', pend', N', a1.put (a5 r (.inr ⟨h1, h2⟩)) (by show w0.heap.size ≤ r; omega) c6, a2, a3.kept c6 (by omega) (by omega) (by omega), a4, fun k hk' => ?_, a6⟩
      rcases hk' with hk' | hk'
      · exact a5 k (.inl (hk k hk'))
      · exact a5 k (.inr (by omega))
    · have := hK3 k hk'
      exact (c6.block k (hl5 k hk') (by omega)).trans (hs5 k hk')
    · rcases hk' with hk' | hk'
      · exact .inl (.inl (hk k hk'))
      · exact .inr (by omega)
end
end Go.Proofs.YthohgljlcfbpjaaGreat

namespace Go.Proofs.YthohgljlcfbpjaaGreat
open Go.RowKit Go.Maps

def hello : List Int := [104, 101, 108, 108, 111]
theorem hello_by : IsBy hello := by intro y hy; simp [hello] at hy; omega
theorem hello_bs (w : World) : Bs (w.alloc (.cells #[.int .u8 104, .int .u8 101, .int .u8 108, .int .u8 108, .int .u8 111] 5 (5, 6))) (.slice (some ⟨w.heap.size, 0, none⟩) 5 5) hello := by
  have hb := heap_alloc_new w (.cells #[.int .u8 104, .int .u8 101, .int .u8 108, .int .u8 108, .int .u8 111] 5 (5, 6))
  generalize w.alloc (.cells #[.int .u8 104, .int .u8 101, .int .u8 108, .int .u8 108, .int .u8 111] 5 (5, 6)) = W at *
  refine .inr ⟨_, 5, rfl, by decide, by decide, fun j hj => ?_⟩
  have hj' : j < 5 := hj
  rw [show (⟨w.heap.size, 0, none⟩ : Addr).add j = ⟨w.heap.size, j, none⟩ by simp [Addr.add_lit]]
  have hc : W.cell? ⟨w.heap.size, j, none⟩ = (#[.int .u8 104, .int .u8 101, .int .u8 108, .int .u8 108, .int .u8 111] : Array Value)[j]? := by
    simp only [World.cell?, hb]
    rfl
  rw [hc]
  match j, hj' with
  | 0, _ => rfl
  | 1, _ => rfl
  | 2, _ => rfl
  | 3, _ => rfl
  | 4, _ => rfl
theorem Bs.of {w w' : World} {u : Value} {xs : List Int} (h : Bs w u xs) (hs : ∀ g, u.ownBlock = some g → w'.heap[g]? = w.heap[g]?) : Bs w' u xs := by
  rcases h with e | ⟨a, cu, rfl, k1, k2, k3⟩
  · exact .inl e
  · refine .inr ⟨a, cu, rfl, k1, k2, fun j hj => ?_⟩
    rw [← k3 j hj]
    refine World.cell?_of_block ?_
    have e : (a.add j).block = a.block := by unfold Addr.add; split <;> rfl
    rw [e]
    exact hs a.block rfl
theorem Own.blk {w w' : World} {u : Value} {xs : List Int} (h : Own w w' u xs) {g : Nat} (e : u.ownBlock = some g) : w.heap.size ≤ g ∧ g < w'.heap.size := by
  rcases h.own.2 with ⟨e2, _⟩ | ⟨g', cap, cur, e2, hN, hg, _⟩
  · rw [e2] at e; cases e
  · rw [e2] at e
    simp [Value.ownBlock] at e
    subst e
    exact ⟨hN, lt_of_block hg⟩
theorem Own.bs {w w' : World} {u : Value} {xs : List Int} (h : Own w w' u xs) : Bs w' u xs := Bs.ofOwns h.own
/-- The node as known lays it. -/
abbrev ndK : Nd := ⟨1, 0, 0, 0, 0, 0, 0, 0, 0, 0, 0, 0, 0⟩
/-- Behind all calls. -/
structure KnZ (w0 : World) (nx : Nat) (nd : Nd) (u y v : Value) (w : World) : Prop where
  x : Bs w u [101, 108, 108]
  y : Bs w y [104, 101]
  v : ∃ N, OwI w N v [1]
  bx : NdB 29 w nx nd
  sz : nd.sz = 2
  chg : Chg (fun _ => False) w0 w
theorem known_chain {X : Nat → Prop} {w0 w1 : World} {bb pd pl pr g : Nat} {V : Nat → List Int} {U : Nat → Bool} (h : Md X w0 bb pd pl pr g 40 V (fun _ => false) U 1 w1) :
    Calls Tryz.prog 11 #[.pointer (some ⟨pl, 0, none⟩)] w1 fun e w2 => ∃ q, e = .returned (.tuple #[.pointer (some ⟨q, 0, none⟩), .int .i64 0]) ∧ w2.heap[bb]? = w1.heap[bb]? ∧
      Hid (Calls Tryz.prog 17 #[.pointer (some ⟨q, 0, none⟩), PV 0 1 (40 : Nat), ndK.v, .slice (some ⟨w2.heap.size, 0, none⟩) 5 5] (w2.alloc (.cells #[.int .u8 104, .int .u8 101, .int .u8 108, .int .u8 108, .int .u8 111] 5 (5, 6))) fun e w3 => ∃ nd1, e = .returned (.tuple #[nd1.v, .int .i64 0]) ∧ 
        Hid (Calls Tryz.prog 19 #[tI q, nd1.v, .int .i64 1, .int .i64 3] (w3.alloc (nd1.o 29)) fun e w4 => ∃ u, e = .returned (.tuple #[u, .int .i64 0]) ∧ w4.heap[bb]? = w1.heap[bb]? ∧ NdB 29 w4 w3.heap.size nd1 ∧
          Hid (∀ w4', Chg (fun _ => False) w4 w4' → Calls Tryz.prog 21 #[.pointer (some ⟨q, 0, none⟩), PV 0 1 (40 : Nat), nd1.v, .int .i64 2] w4' fun e w5 => ∃ nd2, e = .returned (.tuple #[nd2.v, .int .i64 0]) ∧ NdB 29 w5 w3.heap.size nd1 ∧
            Hid (∀ w6, Chg (fun k => k = w3.heap.size) w5 w6 → NdB 29 w6 w3.heap.size nd2 → Calls Tryz.prog 19 #[tI q, nd2.v, .int .i64 0, .int .i64 9] w6 fun e w7 => ∃ y, e = .returned (.tuple #[y, .int .i64 0]) ∧ NdB 29 w7 w3.heap.size nd2 ∧
              Hid (Calls Tryz.prog 23 #[tI q, nd2.v] w7 fun e w8 => ∃ v, e = .returned (.tuple #[v, .int .i64 0]) ∧ Hid (KnZ w0 w3.heap.size nd2 u y v w8)))))) := by
  refine (md_begin h (by decide) (by decide)).mono ?_
  rintro e w2 ⟨q, rfl, ⟨f, com, pend, N, hp, hN, hfs⟩, hbz, hs2⟩
  have hF2 := hfs (List.range 41) (by simp)
  refine ⟨q, rfl, hs2 _ h.x.1, ?_⟩
  have hco := Chg.alloc (fun _ => False) w2 (.cells #[.int .u8 104, .int .u8 101, .int .u8 108, .int .u8 108, .int .u8 111] 5 (5, 6))
  have hF3 := hF2.add hco
  obtain ⟨W3, hW3⟩ : ∃ W3, w2.alloc (.cells #[.int .u8 104, .int .u8 101, .int .u8 108, .int .u8 108, .int .u8 111] 5 (5, 6)) = W3 := ⟨_, rfl⟩
  have hbs := hello_bs w2
  rw [hW3] at hF3 hco hbs
  obtain ⟨X1, hX1⟩ : ∃ X1, addX X w2.heap.size W3.heap.size = X1 := ⟨_, rfl⟩
  rw [hX1] at hF3
  have hsz3 : W3.heap.size = w2.heap.size + 1 := by rw [← hW3]; simp
  have hx1 : X1 w2.heap.size := hX1 ▸ .inr ⟨Nat.le_refl _, by omega⟩
  have hxX : ∀ b, X b → X1 b := fun b hb => hX1 ▸ .inl hb
  have hE0 : File (cx8 (List.range 41) w0 pd pl q 40 f com pend N) V ndK (fun _ => 0) (fun _ => false) [] := File.empty (Nd.free_kind 1)
  have hok : (cx8 (List.range 41) w0 pd pl q 40 f com pend N).Ok := cx8_ok (by decide) (by decide) (by decide)
  rw [hW3]
  refine (app_all (n := 40) (b := hello) (bs := []) _ (by decide) (by decide) hF3 hE0 (by decide) hbs (fun g hg _ => by
    simp [Value.ownBlock] at hg
    subst hg; exact hx1) hello_by (by decide)).mono ?_
  rintro e w3 ⟨nd1, rfl, V3, s3, hs3, f3, F3, k3, fr3, sm3⟩
  refine ⟨nd1, rfl, ?_⟩
  have eT : s3 = (upd (fun _ => false) 0 true, upd (fun _ => 0) 0 1) := by rw [hs3]; rfl
  subst eT
  have F3' : File (cx8 (List.range 41) w0 pd pl q 40 f com pend N) V3 nd1 (upd (fun _ => 0) 0 1) (upd (fun _ => false) 0 true) hello := F3
  have hcn := Chg.alloc (fun _ => False) w3 (nd1.o 29)
  have f4 := f3.add hcn
  obtain ⟨W4, hW4⟩ : ∃ W4, w3.alloc (nd1.o 29) = W4 := ⟨_, rfl⟩
  have hnd4 : NdB 29 W4 w3.heap.size nd1 := hW4 ▸ heap_alloc_new _ _
  rw [hW4] at f4 hcn
  obtain ⟨X2, hX2⟩ : ∃ X2, addX X1 w3.heap.size W4.heap.size = X2 := ⟨_, rfl⟩
  rw [hX2] at f4
  have hsz4 : W4.heap.size = w3.heap.size + 1 := by rw [← hW4]; simp
  have hx2 : X2 w3.heap.size := hX2 ▸ .inr ⟨Nat.le_refl _, by omega⟩
  have hxX2 : ∀ b, X1 b → X2 b := fun b hb => hX2 ▸ .inl hb
  rw [hW4]
  refine (read_file 1 3 f4 F3' hok (by decide) (by decide)).mono ?_
  rintro e w4 ⟨u, rfl, hu⟩
  have hbb : w4.heap[bb]? = w1.heap[bb]? := by
    have e1 := hu.chg.block bb (f4.tv.xlt _ (hxX2 _ (hxX _ h.x.1))) (fun h => h)
    have e2 := hcn.block bb (f3.tv.xlt _ (hxX _ h.x.1)) (fun h => h)
    have e3 := sm3 bb (hxX _ h.x.1)
    have e4 := hco.block bb (hF2.tv.xlt _ h.x.1) (fun h => h)
    rw [e1, e2, e3, e4, hs2 _ h.x.1]
  have hnd5 : NdB 29 w4 w3.heap.size nd1 := hnd4.kept hu.chg (fun h => h)
  have f5 := f4.add hu.chg
  obtain ⟨X3, hX3⟩ : ∃ X3, addX X2 W4.heap.size w4.heap.size = X3 := ⟨_, rfl⟩
  rw [hX3] at f5
  have hxX3 : ∀ b, X2 b → X3 b := fun b hb => hX3 ▸ .inl hb
  have hu3 : ∀ g, u.ownBlock = some g → X3 g ∧ g ≠ w3.heap.size := fun g hg => by
    have := hu.blk hg
    exact ⟨hX3 ▸ .inr this, by omega⟩
  have hlo : w0.heap.size ≤ w3.heap.size := f3.tv.chg.size
  refine ⟨u, rfl, hbb, hnd5, fun w4' hc4 => ?_⟩
  have f5' := f5.more hc4
  refine (cut_all (n := 40) 2 (by decide) (by decide) f5' F3' (by decide)).mono ?_
  rintro e w5 ⟨nd2, rfl, V5, T5, hT5, f6, F6, k6, fr6, sm6⟩
  have hs45 : ∀ k, X3 k → w5.heap[k]? = w4.heap[k]? := fun k hk => (sm6 k hk).trans (hc4.block k (f5.tv.xlt k hk) (fun h => h))
  refine ⟨nd2, rfl, (hs45 _ (hxX3 _ hx2)).trans hnd5, fun w6 hc6 hnd6 => ?_⟩
  have f7 := f6.put (hxX3 _ hx2) hlo hc6
  refine (read_file 0 9 f7 F6 hok (by decide) (by decide)).mono ?_
  rintro e w7 ⟨y, rfl, hy⟩
  refine ⟨y, rfl, hnd6.kept hy.chg (fun h => h), ?_⟩
  have e2 : (hello.take 2).length = 2 := rfl
  have F6l := F6.fl
  rw [e2] at F6l
  refine (used_any (m := 1) (sz := 2) (f7.more hy.chg) F6l hok F6.sz rfl (by decide)).mono ?_
  rintro e w8 ⟨v, rfl, hv, hc8⟩
  have hc68 : Chg (fun _ => False) w6 w8 := hy.chg.trans hc8 (fun _ _ h => h)
  refine ⟨v, rfl, ⟨?_, ?_, ⟨_, hv⟩, hnd6.kept hc68 (fun h => h), F6.sz, f7.tv.chg.trans hc68 (fun _ _ h => h)⟩⟩
  · have hb : Bs w4 u [101, 108, 108] := hu.bs
    refine hb.of (fun g hg => ?_)
    obtain ⟨g1, g2⟩ := hu3 g hg
    exact (hc68.block g (f7.tv.xlt g g1) (fun h => h)).trans ((hc6.block g (f6.tv.xlt g g1) g2).trans (hs45 g g1))
  · have hb : Bs w7 y [104, 101] := hy.bs
    exact hb.kept hc8 (fun _ _ _ _ _ h => h)
end Go.Proofs.YthohgljlcfbpjaaGreat
