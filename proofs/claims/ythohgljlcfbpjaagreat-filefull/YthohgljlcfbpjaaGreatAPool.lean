/-
  A pool as a value and in memory; what Maps, Right, size, place of it do.
-/
import Derived.Test.YthohgljlcfbpjaaGreatWUp
import Derived.Test.YthohgljlcfbpjaaGreatBits
import Derived.Deep.RegionHeld
namespace Go.Proofs.YthohgljlcfbpjaaGreat
open Go.RowKit

/-- A pool. -/
def PV (M F n : Int) : Value := .agg #[.int .i64 M, .int .i64 F, .int .i64 n]
/-- .. and as it is laid. -/
def PO (M F n : Int) : Obj := .cells #[.int .i64 M, .int .i64 F, .int .i64 n] 42
structure PAt (w : World) (b : Nat) (M F n : Int) : Prop where
  c0 : w.cell? ⟨b, 0, none⟩ = some (.int .i64 M)
  c1 : w.cell? ⟨b, 1, none⟩ = some (.int .i64 F)
  c2 : w.cell? ⟨b, 2, none⟩ = some (.int .i64 n)
theorem PAt.kept {S : Nat → Prop} {w w' : World} {b : Nat} {M F n : Int} (h : PAt w b M F n) (hc : Chg S w w') (hn : ¬ S b) : PAt w' b M F n :=
  ⟨hc.cell h.c0 hn, hc.cell h.c1 hn, hc.cell h.c2 hn⟩
theorem PAt.box (w : World) (M F n : Int) : PAt (w.alloc (PO M F n)) w.heap.size M F n := by
  unfold PO
  exact ⟨by rw [World.cell?_alloc_at _ _ _ _ rfl]; rfl, by rw [World.cell?_alloc_at _ _ _ _ rfl]; rfl, by rw [World.cell?_alloc_at _ _ _ _ rfl]; rfl⟩

theorem maps_yes (M F : Int) (n : Nat) (w : World) (h1 : 1 ≤ n) (_h2 : n ≤ 16384) :
    Calls Tryz.prog 70 #[PV M F n] w fun e w' => e = .returned (.int .i64 (mapsN n : Int)) ∧ w' = w.alloc (PO M F n) := by
  have k1 : decide ((n : Int) < 1) = false := by simp; omega
  have e1 : (mapsN n : Int) = ((n : Int) - 1) / 4096 + 1 := by unfold mapsN; omega
  rw [e1]
  unfold PV PO
  go_enter Tryz.func70, Tryz.ntmps70
  go_wp2
  go_ret
  exact ⟨rfl, rfl⟩

theorem mapsN_le {n : Nat} (h : n ≤ 16384) : mapsN n ≤ 4 := by unfold mapsN; omega
theorem mapsN_pos (n : Nat) : 1 ≤ mapsN n := by unfold mapsN; omega

set_option maxHeartbeats 1600000 in
theorem right_yes (M F n K : Nat) (w : World) (hF : F ≤ 1073741824) (h1 : 1 ≤ n) (h2 : n ≤ 16384) (hM : M + mapsN n ≤ K) (hK : K ≤ 16384) :
    Calls Tryz.prog 69 #[PV M F n, .int .i64 (K : Int)] w fun e w' => e = .returned (.bool true) ∧ Chg (fun _ => False) w w' := by
  have k1 : decide ((M : Int) < 0) = false := by simp
  have k2 : decide ((F : Int) < 0) = false := by simp
  have k3 : decide ((1073741824 : Int) < F) = false := by simp; omega
  have k4 : decide ((n : Int) < 1) = false := by simp; omega
  have k5 : decide ((16384 : Int) < n) = false := by simp; omega
  have hm4 := mapsN_le h2
  have k6 : decide ((mapsN n : Int) ≤ K) = true := by simp; omega
  have k7 : decide ((M : Int) ≤ (K : Int) - (mapsN n : Int)) = true := by simp; omega
  have MP : Hid (∀ w : World, Calls Tryz.prog 70 #[.agg #[.int .i64 (M : Int), .int .i64 (F : Int), .int .i64 (n : Int)]] w fun e w' => e = .returned (.int .i64 (mapsN n : Int)) ∧ w' = w.alloc (PO M F n)) := fun w => maps_yes M F n w h1 h2
  have hb := PAt.box w M F n
  obtain ⟨m, hm⟩ : ∃ m, mapsN n = m := ⟨_, rfl⟩
  rw [hm] at k6 k7 hm4 hM MP
  clear hm
  have k6' : decide (m ≤ K) = true := by simp; omega
  have wr : IntKind.i64.wrap ((K : Int) - (m : Int)) = (K : Int) - (m : Int) := by rw [IntKind.wrap_i64]; omega
  unfold PV
  unfold PO at hb
  have hb0 := hb.c0
  have hb1 := hb.c1
  have hb2 := hb.c2
  go_enter Tryz.func69, Tryz.ntmps69
  go_wp2_with fail
  go_region_with (first | (go_at_call 70; refine (MP.out _).mono ?_; rintro e w2 ⟨rfl, rfl⟩))
  all_goals go_wp2
  all_goals go_ret
  all_goals exact ⟨by simp [Act.put], ((Chg.alloc (fun _ => False) _ _).trans (Chg.drew (fun _ => False) _) (fun _ _ h => h)).trans ((Chg.alloc (fun _ => False) _ _).trans (Chg.alloc (fun _ => False) _ _) (fun _ _ h => h)) (fun _ _ h => h)⟩

set_option maxHeartbeats 1600000 in
theorem right_no (M F n : Int) (K : Nat) (w : World) (hw : M ≤ 9223372036854775807) (h4 : 4 ≤ K) (hK : K ≤ 16384) (h : ¬ (0 ≤ M ∧ 0 ≤ F ∧ F ≤ 1073741824 ∧ 1 ≤ n ∧ n ≤ 16384 ∧ M + (mapsN n.toNat : Int) ≤ (K : Int))) :
    Calls Tryz.prog 69 #[PV M F n, .int .i64 (K : Int)] w fun e w' => e = .returned (.bool false) ∧ Chg (fun _ => False) w w' := by
  have hb := PAt.box w M F n
  unfold PV
  unfold PO at hb
  by_cases g1 : M < 0
  · clear h hb hK h4 hw
    have k1 : decide (M < 0) = true := by simpa using g1
    go_enter Tryz.func69, Tryz.ntmps69
    go_wp2
    go_ret
    exact ⟨rfl, Chg.alloc (fun _ => False) _ _⟩
  have k1 : decide (M < 0) = false := by simpa using g1
  by_cases g2 : F < 0
  · clear h hb hK h4 hw
    have k2 : decide (F < 0) = true := by simpa using g2
    go_enter Tryz.func69, Tryz.ntmps69
    go_wp2
    go_ret
    exact ⟨rfl, Chg.alloc (fun _ => False) _ _⟩
  have k2 : decide (F < 0) = false := by simpa using g2
  by_cases g3 : 1073741824 < F
  · clear h hb hK h4 hw
    have k3 : decide (1073741824 < F) = true := by simpa using g3
    go_enter Tryz.func69, Tryz.ntmps69
    go_wp2
    go_ret
    exact ⟨rfl, Chg.alloc (fun _ => False) _ _⟩
  have k3 : decide (1073741824 < F) = false := by simpa using g3
  by_cases g4 : n < 1
  · clear h hb hK h4 hw
    have k4 : decide (n < 1) = true := by simpa using g4
    go_enter Tryz.func69, Tryz.ntmps69
    go_wp2
    go_ret
    exact ⟨rfl, Chg.alloc (fun _ => False) _ _⟩
  have k4 : decide (n < 1) = false := by simpa using g4
  by_cases g5 : 16384 < n
  · clear h hb hK h4 hw
    have k5 : decide (16384 < n) = true := by simpa using g5
    go_enter Tryz.func69, Tryz.ntmps69
    go_wp2
    go_ret
    exact ⟨rfl, Chg.alloc (fun _ => False) _ _⟩
  have k5 : decide (16384 < n) = false := by simpa using g5
  obtain ⟨N, rfl⟩ : ∃ N : Nat, n = (N : Int) := ⟨n.toNat, by omega⟩
  have MP : Hid (∀ w : World, Calls Tryz.prog 70 #[.agg #[.int .i64 M, .int .i64 F, .int .i64 (N : Int)]] w fun e w' => e = .returned (.int .i64 (mapsN N : Int)) ∧ w' = w.alloc (PO M F N)) := fun w => maps_yes M F N w (by omega) (by omega)
  have hm4 : mapsN N ≤ 4 := mapsN_le (by omega)
  rw [Int.toNat_natCast] at h
  obtain ⟨m, hm⟩ : ∃ m, mapsN N = m := ⟨_, rfl⟩
  rw [hm] at hm4 h MP
  clear hm
  have hlt : (K : Int) - (m : Int) < M := by omega
  have k6 : decide (m ≤ K) = true := by simp; omega
  have k7 : decide (M ≤ (K : Int) - (m : Int)) = false := by simp; omega
  have wr : IntKind.i64.wrap ((K : Int) - (m : Int)) = (K : Int) - (m : Int) := by rw [IntKind.wrap_i64]; omega
  have hb0 := hb.c0
  have hb1 := hb.c1
  have hb2 := hb.c2
  clear h g1 g2 g3 g4 g5 hb
  go_enter Tryz.func69, Tryz.ntmps69
  go_wp2_with fail
  go_region_with (first | (go_at_call 70; refine (MP.out _).mono ?_; rintro e w2 ⟨rfl, rfl⟩))
  all_goals go_wp2
  all_goals go_ret
  all_goals exact ⟨by simp [Act.put], ((Chg.alloc (fun _ => False) _ _).trans (Chg.drew (fun _ => False) _) (fun _ _ h => h)).trans ((Chg.alloc (fun _ => False) _ _).trans (Chg.alloc (fun _ => False) _ _) (fun _ _ h => h)) (fun _ _ h => h)⟩

theorem size_any (M F : Int) (n i : Nat) (w : World) (h1 : 1 ≤ n) (h2 : n ≤ 16384) (hi : i < mapsN n) :
    Calls Tryz.prog 38 #[PV M F n, .int .i64 (i : Int)] w fun e w' => e = .returned (.int .i64 (sizeN n i : Int)) ∧ w' = w.alloc (PO M F n) := by
  have hin : i * 4096 < n := by unfold mapsN at hi; omega
  have e1 : (sizeN n i : Int) = min ((n : Int) - (i : Int) * 4096) 4096 := by unfold sizeN; omega
  rw [e1]
  clear e1 hi
  unfold PV PO
  go_enter Tryz.func38, Tryz.ntmps38
  go_wp2
  all_goals
    go_ret
  · rw [Int.min_eq_right (by omega)]; exact ⟨rfl, rfl⟩
  · rw [Int.min_eq_left (by omega)]; exact ⟨rfl, rfl⟩

theorem and_4095 (k : Nat) : bits .and .i64 (k : Int) 4095 = ((k % 4096 : Nat) : Int) := by
  have := and_low (k : Int) 12 (by decide)
  rw [show ((2 ^ 12 - 1 : Nat) : Int) = 4095 from rfl] at this
  rw [this]; omega
theorem place_any (M : Int) (F n k : Nat) (w : World) (hk : k < 16384) (_hF : F ≤ 1073741824) :
    Calls Tryz.prog 114 #[PV M F n, .int .i64 ((F + k : Nat) : Int)] w fun e w' => e = .returned (.tuple #[.int .i64 ((k / 4096 : Nat) : Int), .int .i64 ((k % 4096 : Nat) : Int)]) ∧ w' = w.alloc (PO M F n) := by
  have e1 : ((F + k : Nat) : Int) - (F : Int) = (k : Int) := by omega
  have e2 : ((k / 4096 : Nat) : Int) = (k : Int) / 4096 := by omega
  have e3 := and_4095 k
  rw [e2]
  clear e2
  generalize k % 4096 = r at *
  generalize F + k = fk at *
  unfold PV PO
  go_enter Tryz.func114, Tryz.ntmps114
  go_wp2
  go_ret2
  exact ⟨rfl, rfl⟩
end Go.Proofs.YthohgljlcfbpjaaGreat

namespace Go.Proofs.YthohgljlcfbpjaaGreat
open Go.RowKit Go.Maps

theorem MapIs.lookOut {w : World} {m nb : Nat} {f : Nat → Option Value} (h : MapIs w m nb f) (n : Int) (hw : -9223372036854775808 ≤ n ∧ n ≤ 9223372036854775807) (hn : ¬ (0 ≤ n ∧ n < nb)) :
    (Instr.lookup 83 (.map (some m)) (.int .i64 n) true).run Tryz.prog w = .ok (.tuple #[.slice none 0 0, .bool false]) w := by
  obtain ⟨c, D, ho, hD⟩ := h
  have hkey : keyOf Tryz.prog 3 (.int .i64 n) = some (.int .i64 n) := keyOf_int_mk Tryz.underlying3 (WalkArith.wf_i64 (by omega))
  obtain ⟨v, ps, hrun, hv⟩ := ho.look_ok law3 Tryz.underlying83 (zeroB w) (show hold (.slice none 0 0) = some (.held (.slice none 0 0), []) from rfl) hkey
  have hno : Maps.has D (.int .i64 n) = false := by
    cases hh : Maps.has D (.int .i64 n) with
    | false => rfl
    | true =>
      obtain ⟨k, hk, e⟩ := hD.keys _ hh
      simp [kn] at e
      exact absurd (show 0 ≤ n ∧ n < nb by omega) hn
  rw [hrun, hno]
  have e : DataW.held v = D.atKey (.int .i64 n) (.held (.slice none 0 0)) := by simpa [hold] using congrArg (Option.map Prod.fst) hv
  rw [atKey_of_not_has hno] at e
  cases e; rfl

section
variable {L : List Nat} {F G : Nat → Prop} {pd pl q K : Nat} {S : St} {com own : Nat → Option (List Int)} {pend wrote m mt N : Nat} {live : Bool} {V Vt : Nat → Value} {X : Nat → Prop} {w0 w w' : World} {f : Nat → List Int}
set_option maxHeartbeats 1600000 in
theorem tread_out (n : Int) (w : World) (h : Tk w F G pd pl q K S com pend live own wrote m V mt Vt) (hw : -9223372036854775808 ≤ n ∧ n ≤ 9223372036854775807) (hn : ¬ (0 ≤ n ∧ n < K)) (hoff : S.off = false) :
    Calls Tryz.prog 71 #[.pointer (some ⟨q, 0, none⟩), .int .i64 n] w fun e w' => e = .returned (.tuple #[.slice none 0 0, .int .i64 1]) ∧ w' = w := by
  have HK : Hid (Tk w F G pd pl q K S com pend live own wrote m V mt Vt) := h
  have t0 := h.tx.c0
  have t1 := h.tx.c1
  have c0 := h.lk.lg.c0
  have lk := h.tx.mb.map.lookOut n hw hn
  have HN : Hid (¬ (0 ≤ n ∧ n < K)) := hn
  clear h hn hw
  go_enter Tryz.func71, Tryz.ntmps71
  go_wp2_with fail
  refine (off_any F pd S w HK.out.lk.dk).mono ?_
  rintro e w2 ⟨rfl, rfl⟩
  rw [hoff]
  go_wp2_with fail
  refine (lread_out n w2 HK.out.lk HN.out).mono ?_
  rintro e w3 ⟨rfl, rfl⟩
  clear HK
  go_wp2
  go_ret2
  exact ⟨rfl, rfl⟩
theorem tread_out_up (n : Int) (h : TxUp X w0 w pd pl q K f com pend live own wrote N) (hw : -9223372036854775808 ≤ n ∧ n ≤ 9223372036854775807) (hn : ¬ (0 ≤ n ∧ n < K)) :
    Calls Tryz.prog 71 #[.pointer (some ⟨q, 0, none⟩), .int .i64 n] w fun e w' => e = .returned (.tuple #[.slice none 0 0, .int .i64 1]) ∧ w' = w := by
  obtain ⟨F, G, S, m, V, mt, Vt, h1, h2, h3, _⟩ := h
  exact tread_out n w h1 hw hn h3
end

/-- A transaction by what it reads: V; f lasts, com was committed; it can write all blocks of the log. -/
def Tv (L : List Nat) (X : Nat → Prop) (w0 w : World) (pd pl q K : Nat) (f : Nat → List Int) (com : Nat → Option (List Int)) (pend N : Nat) (V : Nat → List Int) : Prop :=
  ∃ own wrote, TxUp X w0 w pd pl q K f com pend true own wrote N ∧ (∀ n, ovr (ovr f com) own n = V n) ∧ N < 1000000000 ∧ K ≤ 16319 ∧ (∀ n, own n ≠ none → n ∈ L) ∧ L.length ≤ 63
section
variable {L : List Nat} {X X' : Nat → Prop} {w0 w w' w1 : World} {pd pl q K : Nat} {f : Nat → List Int} {com : Nat → Option (List Int)} {pend N : Nat} {V : Nat → List Int}
theorem Tv.more (h : Tv L X w0 w pd pl q K f com pend N V) (hc : Chg (fun _ => False) w w') : Tv L X w0 w' pd pl q K f com pend N V := by
  obtain ⟨own, wrote, h1, h2⟩ := h
  exact ⟨own, wrote, h1.more hc, h2⟩
theorem Tv.add (h : Tv L X w0 w pd pl q K f com pend N V) (hc : Chg (fun _ => False) w w') : Tv L (addX X w.heap.size w'.heap.size) w0 w' pd pl q K f com pend N V := by
  obtain ⟨own, wrote, h1, h2⟩ := h
  exact ⟨own, wrote, h1.add hc, h2⟩
theorem Tv.less (h : Tv L X w0 w pd pl q K f com pend N V) (hx : ∀ b, X' b → X b) : Tv L X' w0 w pd pl q K f com pend N V := by
  obtain ⟨own, wrote, h1, h2⟩ := h
  exact ⟨own, wrote, h1.less hx, h2⟩
theorem Tv.chg (h : Tv L X w0 w pd pl q K f com pend N V) : Chg (fun _ => False) w0 w := by
  obtain ⟨own, wrote, h1, h2⟩ := h
  exact h1.chg
theorem Tv.xlt (h : Tv L X w0 w pd pl q K f com pend N V) : ∀ b, X b → b < w.heap.size := by
  obtain ⟨own, wrote, ⟨F, G, S, m, Vv, mt, Vt, h1, h2, h3, h4, h5, h6, h7, h8⟩, _⟩ := h
  exact fun b hb => (h7.x b hb).1
theorem Tv.start (h : TxUp X w0 w pd pl q K f com pend true (fun _ => none) 0 N) (hN : N < 1000000000) (hK : K ≤ 16319) (hL : L.length ≤ 63) : Tv L X w0 w pd pl q K f com pend N (ovr f com) :=
  ⟨_, _, h, fun _ => ovr_none rfl, hN, hK, fun _ h => absurd rfl h, hL⟩
theorem Tv.len (h : Tv L X w0 w pd pl q K f com pend N V) {n : Nat} (hn : n < K) : (V n).length = 512 := by
  obtain ⟨own, wrote, h1, h2, _, _, _⟩ := h
  rw [← h2 n]
  have hl := h1.lt n
  cases ho : own n with
  | some b => rw [ovr_some ho]; exact (hl b ho).2
  | none =>
    rw [ovr_none ho]
    obtain ⟨F, G, S, m, Vv, mt, Vt, h3, h4, h5, h6, h7, h8, h9, h10⟩ := h1
    cases hc : com n with
    | some b => rw [ovr_some hc]; exact (h3.lk.lg.mb.row n b hc).2.1
    | none =>
      rw [ovr_none hc, ← h4.last hn]
      exact St.last_len h4.wf (by have := h4.nb; omega)
theorem ks_le (K : Nat) (own : Nat → Option (List Int)) : (ks K own).length ≤ K := by
  unfold ks
  exact Nat.le_trans (List.length_filter_le _ _) (by simp)
theorem len_le_of_sub : ∀ (l : List Nat), l.Nodup → ∀ L : List Nat, (∀ n, n ∈ l → n ∈ L) → l.length ≤ L.length := by
  intro l
  induction l with
  | nil => intro _ L _; simp
  | cons a r ih =>
    intro hnd L hs
    rw [List.nodup_cons] at hnd
    have ha := hs a List.mem_cons_self
    have := ih hnd.2 (L.erase a) (fun n hn => (List.mem_erase_of_ne (by intro e; subst e; exact hnd.1 hn)).2 (hs n (List.mem_cons_of_mem _ hn)))
    rw [List.length_erase_of_mem ha] at this
    have := List.length_pos_of_mem ha
    simp only [List.length_cons]; omega
theorem ks_lt_of {own : Nat → Option (List Int)} {n : Nat} (h5 : ∀ n, own n ≠ none → n ∈ L) (hL : n ∈ L) (ho : own n = none) : (ks K own).length < L.length := by
  have := len_le_of_sub (ks K own) (by unfold ks; exact List.nodup_range.filter _) (L.erase n) (fun m hm => by
    have hm' : own m ≠ none := by
      unfold ks at hm
      rw [List.mem_filter] at hm
      intro e; rw [e] at hm; simp at hm
    exact (List.mem_erase_of_ne (by intro e; subst e; exact hm' ho)).2 (h5 m hm'))
  rw [List.length_erase_of_mem hL] at this
  have := List.length_pos_of_mem hL
  omega
theorem tv_read (n : Nat) (h : Tv L X w0 w pd pl q K f com pend N V) (hn : n < K) :
    Calls Tryz.prog 71 #[.pointer (some ⟨q, 0, none⟩), .int .i64 (n : Int)] w fun e w' => ∃ u, e = .returned (.tuple #[u, .int .i64 0]) ∧ Fresh w w' u (V n) := by
  obtain ⟨own, wrote, h1, h2, h3, _⟩ := h
  rw [← h2 n]
  exact tread_up n h1 hn h3
theorem tv_read_out (n : Int) (h : Tv L X w0 w pd pl q K f com pend N V) (hw : -9223372036854775808 ≤ n ∧ n ≤ 9223372036854775807) (hn : ¬ (0 ≤ n ∧ n < K)) :
    Calls Tryz.prog 71 #[.pointer (some ⟨q, 0, none⟩), .int .i64 n] w fun e w' => e = .returned (.tuple #[.slice none 0 0, .int .i64 1]) ∧ w' = w := by
  obtain ⟨own, wrote, h1, h2, h3, _⟩ := h
  exact tread_out_up n h1 hw hn
theorem tv_write (n : Nat) (bs : List Int) (ua : Option Addr) (uc : Nat) (h : Tv L X w0 w1 pd pl q K f com pend N V) (hb : NewB w1 w (.slice ua 512 uc) bs) (hl : bs.length = 512) (hn : n < K) (hL : n ∈ L) :
    Calls Tryz.prog 79 #[.pointer (some ⟨q, 0, none⟩), .int .i64 (n : Int), .slice ua 512 uc] w fun e w' => e = .returned (.int .i64 0) ∧ Tv L X w0 w' pd pl q K f com pend N (upd V n bs) ∧ Sm X w w' := by
  obtain ⟨own, wrote, h1, h2, h3, h4, h5, h6⟩ := h
  have hi := h1.inv
  have hr : own n ≠ none ∨ wrote < 63 := by
    by_cases ho : own n = none
    · right
      have := ks_lt_of (K := K) h5 hL ho
      omega
    · exact .inl ho
  refine (write_up n bs ua uc h1 hb hl hn hr).mono ?_
  rintro e w' ⟨rfl, ht, hs⟩
  refine ⟨rfl, ⟨_, _, ht, fun k => ?_, h3, h4, fun k hk => ?_, h6⟩, hs⟩
  · by_cases e : k = n
    · subst e; rw [upd_same]; exact ovr_some (upd_same _ _ _)
    · rw [upd_other _ _ e, ← h2 k]; unfold ovr; rw [upd_other _ _ e]
  · by_cases e : k = n
    · subst e; exact hL
    · rw [upd_other _ _ e] at hk; exact h5 k hk
theorem Tv.wide {L' : List Nat} (h : Tv L X w0 w pd pl q K f com pend N V) (hL : ∀ n, n ∈ L → n ∈ L') (hl : L'.length ≤ 63) : Tv L' X w0 w pd pl q K f com pend N V := by
  obtain ⟨own, wrote, h1, h2, h3, h4, h5, h6⟩ := h
  exact ⟨own, wrote, h1, h2, h3, h4, fun n hn => hL n (h5 n hn), hl⟩
theorem Tv.kle (h : Tv L X w0 w pd pl q K f com pend N V) : K ≤ 16319 := by
  obtain ⟨own, wrote, h1, h2, h3, h4, h5, h6⟩ := h
  exact h4
end
end Go.Proofs.YthohgljlcfbpjaaGreat
