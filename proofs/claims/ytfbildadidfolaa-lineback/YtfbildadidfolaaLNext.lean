/-
  New, Most, Next of the splitter of package line.
-/
import Derived.Test.YtfbildadidfolaaLFeed
namespace Go.Proofs.Ytfbildadidfolaa
open Go.RowKit

/-- May a bound be? -/
def mayB (m : Int) : Bool := decide (2 ≤ m) && decide (m ≤ 65536)
theorem maybe_any (m : Int) (w : World) : Calls Try.prog 21 #[.int .i64 m] w fun e w' => e = .returned (.bool (mayB m)) ∧ w' = w := by
  unfold mayB
  by_cases h : 2 ≤ m
  · have h1 : m ≥ 2 := h
    go_enter Try.func21, Try.ntmps21
    go_wp2_with fail
    go_ret
    exact ⟨by rw [show (decide (2 ≤ m) && decide (m ≤ 65536)) = decide (m ≤ 65536) from by simp [h]]; rfl, rfl⟩
  · have h1 : ¬ m ≥ 2 := h
    go_enter Try.func21, Try.ntmps21
    go_wp2_with fail
    go_ret
    exact ⟨by rw [show (decide (2 ≤ m) && decide (m ≤ 65536)) = false from by rw [show decide (2 ≤ m) = false from by simpa using h]; rfl]; rfl, rfl⟩
theorem right_any (m : Int) (w : World) : Calls Try.prog 10 #[.int .i64 m] w fun e w' => e = .returned (.bool (mayB m)) ∧ w' = w := by
  unfold mayB
  by_cases h : 2 ≤ m
  · have h1 : m ≥ 2 := h
    go_enter Try.func10, Try.ntmps10
    go_wp2_with fail
    go_ret
    exact ⟨by rw [show (decide (2 ≤ m) && decide (m ≤ 65536)) = decide (m ≤ 65536) from by simp [h]]; rfl, rfl⟩
  · have h1 : ¬ m ≥ 2 := h
    go_enter Try.func10, Try.ntmps10
    go_wp2_with fail
    go_ret
    exact ⟨by rw [show (decide (2 ≤ m) && decide (m ≤ 65536)) = false from by rw [show decide (2 ≤ m) = false from by simpa using h]; rfl]; rfl, rfl⟩
abbrev Sp.new (m : Nat) : Sp := ⟨m, [], 0, false⟩
theorem mayB_nat {m : Int} (h : mayB m = true) : ∃ k : Nat, m = (k : Int) ∧ (Sp.new k).Wf := by
  unfold mayB at h
  simp at h
  obtain ⟨k, rfl⟩ : ∃ k : Nat, m = (k : Int) := ⟨m.toNat, by omega⟩
  exact ⟨k, rfl, by show 2 ≤ k; omega, by show k ≤ 65536; omega, by show 0 = min 0 (k - 2); omega⟩
set_option maxHeartbeats 800000 in
theorem new_no (m : Int) (h : mayB m = false) (w : World) : Calls Try.prog 9 #[.int .i64 m] w fun e w' => e = .returned (.tuple #[.pointer none, .int .i64 1]) ∧ w' = w := by
  have HM : Hid (mayB m = false) := h
  clear h
  go_enter Try.func9, Try.ntmps9
  go_wp2_with (go_at_call 21; refine (maybe_any m _).mono ?_; rintro e w1 ⟨rfl, rfl⟩; rw [HM.out])
  go_ret2
  exact ⟨rfl, rfl⟩
set_option maxHeartbeats 800000 in
theorem new_yes (m : Nat) (h : mayB m = true) (w : World) (N : Nat) (hN : N ≤ w.heap.size) : Calls Try.prog 9 #[.int .i64 m] w fun e w' => e = .returned (.tuple #[.pointer (some ⟨w.heap.size, 0, none⟩), .int .i64 0]) ∧ LsS N w.heap.size w' (.slice none 0 0) (Sp.new m) ∧ Chg (fun _ => False) w w' := by
  have HM : Hid (mayB m = true) := h
  clear h
  go_enter Try.func9, Try.ntmps9
  go_wp2_with (go_at_call 21; refine (maybe_any m _).mono ?_; rintro e w1 ⟨rfl, rfl⟩; rw [HM.out])
  go_ret2
  refine ⟨rfl, ?_, Chg.alloc _ _ _⟩
  have e : (Sp.new m).long = false := by simp [Sp.long]
  unfold LsS
  rw [e]
  exact ⟨hN, heap_alloc_new w1 _, World.ownsRow_nil _ _ _ _, by simp [Value.ownBlock]⟩
/-- What Most leaves. -/
def Sp.bound (S : Sp) (m : Int) : Sp := if (mayB m && (S.st == 0)) = true then ⟨m.toNat, S.held, S.n, S.cr⟩ else S
theorem Sp.bound_no (S : Sp) (m : Int) (h : (mayB m && (S.st == 0)) = false) : S.bound m = S := by unfold Sp.bound; rw [h]; rfl
theorem Sp.bound_yes (S : Sp) (m : Int) (h : (mayB m && (S.st == 0)) = true) : S.bound m = ⟨m.toNat, S.held, S.n, S.cr⟩ := by unfold Sp.bound; rw [h]; rfl
theorem st_zero {S : Sp} (h : S.st = 0) : S.n = 0 ∧ S.cr = false := by
  unfold Sp.st at h
  split at h
  · cases h
  · next hc =>
    split at h
    · next hn => exact ⟨hn, by simpa using hc⟩
    · cases h
theorem Sp.Wf.bound {S : Sp} (h : S.Wf) (m : Int) : (S.bound m).Wf := by
  cases hm : (mayB m && (S.st == 0)) with
  | false => rw [S.bound_no m hm]; exact h
  | true =>
    rw [S.bound_yes m hm]
    rw [Bool.and_eq_true] at hm
    obtain ⟨k, rfl, hk⟩ := mayB_nat hm.1
    have hn := st_zero (S := S) (by simpa using hm.2)
    have hl := h.len
    exact ⟨hk.lo, hk.hi, by show S.held.length = min S.n (k - 2); rw [hn.1] at hl ⊢; omega⟩
set_option maxHeartbeats 800000 in
theorem most_any (N p : Nat) (w : World) (v : Value) (S : Sp) (m : Int) (_hS : S.Wf) (h : LsS N p w v S) :
    Calls Try.prog 14 #[.pointer (some ⟨p, 0, none⟩), .int .i64 m] w fun e w' => e = .returned (.bool (mayB m && (S.st == 0))) ∧
      LsS N p w' v (S.bound m) ∧ To p w v w' v := by
  have h0 := h.c0
  have h1 := h.c1
  have f0 := h.fr 0
  obtain ⟨va, vc, rfl⟩ := own_sl h.own
  cases hm : mayB m with
  | false =>
    have HM : Hid (mayB m = false) := hm
    have HB : Hid (S.bound m = S) := S.bound_no m (by rw [hm]; rfl)
    clear hm
    go_enter Try.func14, Try.ntmps14
    go_wp2_with (go_at_call 21; refine (maybe_any m _).mono ?_; rintro e w1 ⟨rfl, rfl⟩; rw [HM.out])
    go_ret
    exact ⟨rfl, by rw [HB.out]; exact h, To.refl _ _ _⟩
  | true =>
    have HM : Hid (mayB m = true) := hm
    by_cases hs : S.st = 0
    · have q1 : (S.st == 0) = true := by simpa using hs
      have q2 : (S.st != 0) = false := by simpa using hs
      have HB : Hid (S.bound m = ⟨m.toNat, S.held, S.n, S.cr⟩) := S.bound_yes m (by rw [hm, q1]; rfl)
      obtain ⟨k, rfl, hk⟩ := mayB_nat hm
      have e : (S.bound k).long = S.long := by
        have h1 := st_zero hs
        rw [HB.out]
        show decide (k - 2 < S.n) = decide (S.most - 2 < S.n)
        rw [h1.1]
        simp
      have e2 : (S.bound k).st = S.st := by rw [HB.out]; rfl
      have HL : Hid (LsS N p (w.setCell ⟨p, 0, none⟩ (.int .i64 k)) (.slice va S.held.length vc) (S.bound k)) := by
        have := h.setM k
        unfold LsS
        rw [e, e2, HB.out]
        exact this
      clear hm hs e e2
      go_enter Try.func14, Try.ntmps14
      go_wp2_with (go_at_call 21; refine (maybe_any k _).mono ?_; rintro e w1 ⟨rfl, rfl⟩; rw [HM.out])
      go_ret
      exact ⟨by rw [q1]; rfl, HL.out, To.cell p 0 _ _ _⟩
    · have q1 : (S.st == 0) = false := by simpa using hs
      have q2 : (S.st != 0) = true := by simpa using hs
      have HB : Hid (S.bound m = S) := S.bound_no m (by rw [q1]; simp)
      clear hm
      go_enter Try.func14, Try.ntmps14
      go_wp2_with (go_at_call 21; refine (maybe_any m _).mono ?_; rintro e w1 ⟨rfl, rfl⟩; rw [HM.out])
      go_ret
      exact ⟨by rw [q1]; rfl, by rw [HB.out]; exact h, To.refl _ _ _⟩

theorem eq32_nil (w : World) : (binOp .eql 31 (.slice none 0 0) (.slice none 0 0)).run Try.prog w = .ok (.bool true) w := by kernel_rfl
theorem eq32_some (a : Addr) (n c : Nat) (w : World) : (binOp .eql 31 (.slice (some a) n c) (.slice none 0 0)).run Try.prog w = .ok (.bool false) w := by kernel_rfl
set_option maxHeartbeats 400000 in
set_option maxRecDepth 100000 in
/-- bytes.Clone: new memory that holds the same. -/
theorem cloneB_any (v : Value) (xs : List Int) (w : World) (h : Bs w v xs) (hlen : xs.length ≤ 1099511627776) :
    Calls Try.prog 25 #[v] w fun e w' => ∃ u, e = .returned u ∧ w'.ownsRow w.heap.size 5 1 u xs.length (bcells xs) ∧ Chg (fun _ => False) w w' ∧ (v = .slice none 0 0 → u = .slice none 0 0) := by
  obtain ⟨i0, hi, hz0, hz1, hz2⟩ := info5
  rcases h with ⟨rfl, rfl⟩ | ⟨a, c, rfl, hl, hm, hcell⟩
  · have hq := eq32_nil
    go_enter Try.func25, Try.ntmps25
    go_wp2
    go_ret
    exact ⟨_, rfl, World.ownsRow_nil _ _ _ _, Chg.refl _ _, fun _ => rfl⟩
  · have h2 : Bs (w.alloc (.cells #[] 5)) (.slice (some a) xs.length c) xs := Bs.kept (.inr ⟨a, c, rfl, hl, hm, hcell⟩) (Chg.alloc (fun _ => False) w _) (fun _ _ _ _ _ h => h)
    obtain ⟨v', w', hr, ho, hg, hat⟩ := run_app (w.alloc (.cells #[] 5)) w.heap.size 31 31 i0 Try.underlying31 hi hz0 hz1 hz2 (.slice (some ⟨w.heap.size, 0, none⟩) 0 0) _ 0 [] xs (by simpa [bcells] using World.ownsRow_made (size := 1) w #[] 0 (Nat.le_refl _) (by simp [maxLen]) rfl) h2 (by simpa using hlen) (by simp)
    simp only [Nat.zero_add, List.nil_append] at ho
    have hc : Chg (fun _ => False) w w' := ⟨hg.os, hg.tape, hg.output, Nat.le_trans (by simp) hg.size, fun k hk _ => (hg.block k (by simp; omega) (by simp [Value.ownBlock]; omega)).trans (Below.heap_alloc w _ k hk)⟩
    clear h2 hg hat hcell hlen hm
    have hq := eq32_some a xs.length c
    go_enter Try.func25, Try.ntmps25
    go_wp2_with (at_builtin; go_must (refine Lib.wpList_append_run _ rfl (.tmp 5) (.tmp 6) 31 31 rfl _ _ rfl rfl v' w' hr ?_))
    go_ret
    exact ⟨v', rfl, ho, hc, fun h => by cases h⟩

/-- What Next answers. -/
def NextR (N p : Nat) (w : World) (v : Value) (S : Sp) (bs : List Int) (v' : Value) (l : Ln) (ok : Bool) (u' : Value) (w' : World) : Prop :=
  LsS N p w' v' (S.next bs).1 ∧ To p w v w' v' ∧
      (((S.next bs).2 = none ∧ l = Ln.zero ∧ ok = false ∧ u' = .slice none 0 0) ∨ ∃ r, (S.next bs).2 = some (l, r) ∧ ok = true ∧ w'.ownsRow w.heap.size 5 1 u' r.length (bcells r) ∧ ∀ k, u'.ownBlock = some k → k ≠ p ∧ v'.ownBlock ≠ some k)

set_option maxHeartbeats 3200000 in
theorem next_any (N p : Nat) (w : World) (v u : Value) (S : Sp) (bs : List Int) (P : Nat → Prop) (hS : S.Wf) (h : LsS N p w v S) (hu : Bs w u bs) (hi : In P u)
    (hP : ∀ k, P k → k < w.heap.size ∧ k ≠ p ∧ v.ownBlock ≠ some k) (hb : bs.length ≤ 4294967296) :
    Calls Try.prog 22 #[.pointer (some ⟨p, 0, none⟩), u] w fun e w' => ∃ v' l ok u', e = .returned (.tuple #[Ln.v l, .bool ok, u']) ∧ NextR N p w v S bs v' l ok u' w' := by
  have C0 : Chg (fun _ => False) w (w.alloc (.cells #[.string ⟨#[]⟩, .bool false] 47)) := Chg.alloc (fun _ => False) w _
  have D0 : Bx 47 (w.alloc (.cells #[.string ⟨#[]⟩, .bool false] 47)) w.heap.size Ln.zero := heap_alloc_new w _
  obtain ⟨W, hW⟩ : ∃ W, Hid (w.alloc (.cells #[.string ⟨#[]⟩, .bool false] 47) = W) := ⟨_, rfl⟩
  rw [hW.out] at C0 D0
  have hP0 : ∀ k, (P k ∨ k = w.heap.size) → k < W.heap.size ∧ k ≠ p ∧ v.ownBlock ≠ some k := fun k hk => hk.elim (fun hk => ⟨Nat.lt_of_lt_of_le (hP k hk).1 C0.size, (hP k hk).2⟩) fun e => by
    subst e
    exact ⟨D0.lt, (fun e => by have := h.lt; omega), fun e => by have := (own_ge h.own e).2; omega⟩
  have L0 : LsS N p W v S := h.more C0
  have U0 : Bs W u bs := hu.stays hi C0 (fun _ _ h => h)
  have T0 : To p w v W v := (To.refl p w v).more C0
  obtain ⟨D, hD⟩ : ∃ D, w.heap.size = D := ⟨_, rfl⟩
  have HT : Hid (Calls Try.prog 24 #[.pointer (some ⟨p, 0, none⟩), u] W fun e w9 => ∃ v9 l ok u9, e = .returned (.tuple #[Ln.v l, .bool ok, u9]) ∧
      Hid (LsS N p w9 v9 (S.next bs).1 ∧ To p w v w9 v9 ∧ Bx 47 w9 D Ln.zero ∧ D ≠ p ∧ v9.ownBlock ≠ some D ∧ w.heap.size ≤ D ∧
        ∃ r, Bs w9 u9 r ∧ r.length ≤ bs.length ∧ (((S.next bs).2 = none ∧ l = Ln.zero ∧ ok = false ∧ u9 = .slice none 0 0) ∨ ((S.next bs).2 = some (l, r) ∧ ok = true)))) := by
    refine (take_any N p W v u S bs P hS L0 U0 hi (fun k hk => hP0 k (.inl hk)) hb).mono fun e w9 h9 => ?_
    obtain ⟨v9, l, ok, u9, he, hL9, hT9, hR⟩ := h9
    have hd := hP0 D (.inr hD.symm)
    refine ⟨v9, l, ok, u9, he, hL9, T0.trans hT9, ?_, hd.2.1, (fun e => (hT9.new D e).elim hd.2.2 (by have := hd.1; omega)), Nat.le_of_eq hD, ?_⟩
    · rw [hD] at D0
      exact D0.kept hT9.chg fun h => h.elim hd.2.1 hd.2.2
    · rcases hR with ⟨h1, h2, h3, rfl⟩ | ⟨r, h1, h2, h3, _⟩
      · exact ⟨[], .inl ⟨rfl, rfl⟩, Nat.zero_le _, .inl ⟨h1, h2, h3, rfl⟩⟩
      · have := (S.next_less bs l r h1).1
        exact ⟨r, h3, by omega, .inr ⟨h1, h2⟩⟩
  clear C0 D0 hP0 L0 U0 T0 h hu hi hP hS
  go_enter Try.func22, Try.ntmps22
  go_upto_region 1 with fail
  rw [hW.out]
  go_wp2_with (go_at_call 24; refine HT.out.mono ?_; clear HT; rintro e w9 ⟨v9, l, ok, u9, rfl, H9⟩)
  obtain ⟨E, hE⟩ : ∃ E, w9.heap.size = E := ⟨_, rfl⟩
  have C1 : Chg (fun _ => False) w9 (w9.alloc (.cells #[.string l.t, .bool l.long] 47)).drew := (Chg.alloc (fun _ => False) w9 _).trans (Chg.drew _ _) (fun _ _ h => h)
  have N1 : Bx 47 (w9.alloc (.cells #[.string l.t, .bool l.long] 47)).drew w9.heap.size l := heap_alloc_new w9 _
  have N2 : Bx 47 (w9.alloc (.cells #[.string l.t, .bool l.long] 47)) w9.heap.size l := heap_alloc_new w9 _
  obtain ⟨L9, T9, B9, hDp, hDv, hDw, r, U9, hrl, HR⟩ := H9.out
  have HC : Hid (Calls Try.prog 25 #[u9] (w9.alloc (.cells #[.string l.t, .bool l.long] 47)).drew fun e wc => ∃ uc, e = .returned uc ∧ wc.cell? ⟨E, 0, none⟩ = some (.string l.t) ∧ wc.cell? ⟨E, 1, none⟩ = some (.bool l.long) ∧
      wc.cell? ⟨D, 0, none⟩ = some (.string Ln.zero.t) ∧ wc.cell? ⟨D, 1, none⟩ = some (.bool Ln.zero.long) ∧ wc.frozen? ⟨D, 0, none⟩ = false ∧ wc.frozen? ⟨D, 1, none⟩ = false ∧
      Hid (NextR N p w v S bs v9 l ok uc ((wc.setCell ⟨D, 0, none⟩ (.string l.t)).setCell ⟨D, 1, none⟩ (.bool l.long)) ∧ Bx 47 ((wc.setCell ⟨D, 0, none⟩ (.string l.t)).setCell ⟨D, 1, none⟩ (.bool l.long)) D l)) := by
    refine (cloneB_any u9 r _ (U9.kept C1 (fun _ _ _ _ _ h => h)) (by omega)).mono fun e wc hc => ?_
    obtain ⟨uc, he, ho, hcg, hnil⟩ := hc
    have CC : Chg (fun _ => False) w9 wc := C1.trans hcg (fun _ _ h => h)
    rw [hE] at N1
    obtain ⟨e0, e1, _, _⟩ := (N1.kept hcg (fun h => h)).c
    obtain ⟨d0, d1, f0, f1⟩ := (B9.kept CC (fun h => h)).c
    obtain ⟨s1, s2⟩ := (B9.kept CC (fun h => h)).put l
    refine ⟨uc, he, e0, e1, d0, d1, f0, f1, ⟨(L9.more CC).kept s2 hDp.symm (fun k hk e => hDv (e ▸ hk)), (T9.more CC).fresh s2 hDw, ?_⟩, s1⟩
    have hsz : w.heap.size ≤ (w9.alloc (.cells #[.string l.t, .bool l.long] 47)).drew.heap.size := Nat.le_trans T9.chg.size C1.size
    rcases HR with ⟨h1, h2, h3, h4⟩ | ⟨h1, h2⟩
    · exact .inl ⟨h1, h2, h3, hnil h4⟩
    · refine .inr ⟨r, h1, h2, ?_, fun k hk => ?_⟩
      · refine own_kept (own_mono ho hsz) s2 fun k hk e => ?_
        have h5 := (own_ge ho hk).1
        have h6 := B9.lt
        have h7 := C1.size
        omega
      · have h5 := (own_ge ho hk).1
        have h7 := C1.size
        refine ⟨fun e => ?_, fun e => ?_⟩
        · have := L9.lt
          omega
        · have := (own_ge L9.own e).2
          omega
  obtain ⟨e0, e1, _, _⟩ := N2.c
  rw [hE] at e0 e1
  clear C1 N1 N2 L9 T9 B9 hDp hDv hDw U9 hrl HR H9 hD
  go_region_with (go_at_call 25; refine HC.out.mono ?_; clear HC; rintro e wc ⟨uc, rfl, g0, g1, g2, g3, g4, g5, HX⟩)
  all_goals
    go_wp2_with fail
    try simp only [Exit.inBlock, Exit.then]
    obtain ⟨HE, HB⟩ := HX.out
    obtain ⟨z0, z1, _, _⟩ := HB.c
    clear HB HX
    obtain ⟨w10, hw10⟩ : ∃ w10, (wc.setCell ⟨D, 0, none⟩ (.string l.t)).setCell ⟨D, 1, none⟩ (.bool l.long) = w10 := ⟨_, rfl⟩
    simp only [hw10] at z0 z1 HE ⊢
    refine bodyPost_ret (v := .tuple #[l.v, .bool ok, uc]) ?_ rfl ?_
    · simp [results, Try.results22, go_sem, z0, z1]
    · exact ⟨_, _, _, _, rfl, HE⟩
end Go.Proofs.Ytfbildadidfolaa
