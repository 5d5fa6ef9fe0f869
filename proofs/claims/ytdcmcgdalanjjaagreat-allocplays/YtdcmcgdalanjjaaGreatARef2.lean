/-
  What Is, Take, Give, Free, Clear of the document's own pool do.
-/
import Derived.Test.YtdcmcgdalanjjaaGreatAFree2
import Derived.BigRegion
namespace Go.Proofs.YtdcmcgdalanjjaaGreat
open Go.RowKit Go.Maps

/-- The document's pool, at T. -/
structure Rp (w : World) (pr M F n g c : Nat) (T : Nat → Bool) : Prop where
  at' : RAt w pr M F n (.slice (some ⟨g, 0, none⟩) n c)
  row : Bw w g n T
  cap : n ≤ c
  ne : pr ≠ g
  nn : n ≤ 16384
  ff : F ≤ 1073741824
section
variable {w w' : World} {pr M F n g c : Nat} {T : Nat → Bool}
theorem Rp.kept {S : Nat → Prop} (h : Rp w pr M F n g c T) (hc : Chg S w w') (h1 : ¬ S pr) (h2 : ¬ S g) : Rp w' pr M F n g c T := ⟨h.at'.kept hc h1, h.row.kept hc h2, h.cap, h.ne, h.nn, h.ff⟩
theorem Rp.sm {X : Nat → Prop} (h : Rp w pr M F n g c T) (hs : Sm X w w') (h1 : X pr) (h2 : X g) : Rp w' pr M F n g c T := ⟨h.at'.sm hs h1, h.row.sm hs h2, h.cap, h.ne, h.nn, h.ff⟩
theorem Rp.ext (h : Rp w pr M F n g c T) {U : Nat → Bool} (e : ∀ k, k < n → T k = U k) : Rp w pr M F n g c U := ⟨h.at', h.row.ext e, h.cap, h.ne, h.nn, h.ff⟩
theorem Rp.set (h : Rp w pr M F n g c T) {k : Nat} (hk : k < n) (b : Bool) : Rp (w.setCell ⟨g, k, none⟩ (.bool b)) pr M F n g c (upd T k b) :=
  ⟨h.at'.kept (Chg.setCell (S := fun b => b = g) w ⟨g, k, none⟩ _ rfl) h.ne, h.row.set hk b, h.cap, h.ne, h.nn, h.ff⟩

set_option maxHeartbeats 1600000 in
theorem ris_yes (x : Int) (h : Rp w pr M F n g c T) (k : Nat) (hk : k < n) (hx : x = ((F + k : Nat) : Int)) :
    Calls Tryz.prog 22 #[.pointer (some ⟨pr, 0, none⟩), .int .i64 x] w fun e w' => e = .returned (.bool true) ∧ ∃ n, w' = w.drewN n := by
  have c1 := h.at'.c1
  have c2 := h.at'.c2
  have k1 : decide ((F : Int) ≤ x) = true := by simp; omega
  have e1 : x - (F : Int) = (k : Int) := by omega
  have k2 : decide (k < n) = true := by simpa using hk
  have hn := h.nn
  have wr : IntKind.i64.wrap (k : Int) = (k : Int) := by rw [IntKind.wrap_i64]; omega
  clear h hx
  go_enter Tryz.func22, Tryz.ntmps22
  go_wp2_with fail
  go_quiet (fail)
  go_wp2
  go_ret
  exact ⟨rfl, _, rfl⟩
set_option maxHeartbeats 1600000 in
theorem ris_no (x : Int) (h : Rp w pr M F n g c T) (hw : x ≤ 9223372036854775807) (hx : x < (F : Int) ∨ ((F : Int) ≤ x ∧ (n : Int) ≤ x - (F : Int))) :
    Calls Tryz.prog 22 #[.pointer (some ⟨pr, 0, none⟩), .int .i64 x] w fun e w' => e = .returned (.bool false) ∧ ∃ n, w' = w.drewN n := by
  have c1 := h.at'.c1
  have c2 := h.at'.c2
  rcases hx with hx | ⟨h1, h2⟩
  · have k1 : decide ((F : Int) ≤ x) = false := by simp; omega
    clear h
    go_enter Tryz.func22, Tryz.ntmps22
    go_wp2_with fail
    go_quiet (fail)
    go_wp2
    go_ret
    exact ⟨rfl, _, rfl⟩
  · have k1 : decide ((F : Int) ≤ x) = true := by simpa using h1
    have wr : IntKind.i64.wrap (x - (F : Int)) = x - (F : Int) := by rw [IntKind.wrap_i64]; omega
    have k2 : decide (x - (F : Int) < (n : Int)) = false := by simp; omega
    clear h
    go_enter Tryz.func22, Tryz.ntmps22
    go_wp2_with fail
    go_quiet (fail)
    go_wp2
    go_ret
    exact ⟨rfl, _, rfl⟩

set_option maxHeartbeats 1600000 in
set_option maxRecDepth 100000 in
theorem rtake_ok (k : Nat) (h : Rp w pr M F n g c T) (hk : k < n) (hT : T k = false) (hall : ∀ j, j < k → T j = true) :
    Calls Tryz.prog 20 #[.pointer (some ⟨pr, 0, none⟩)] w fun e w' => e = .returned (.tuple #[.int .i64 ((F + k : Nat) : Int), .int .i64 0]) ∧ Rp w' pr M F n g c (upd T k true) ∧ Chg (fun b => b = g) w w' := by
  have c1 := h.at'.c1
  have c2 := h.at'.c2
  have c3 := h.at'.c3
  have hn := h.nn
  have hF := h.ff
  have hcc := h.cap
  have HP : Hid (Rp w pr M F n g c T) := h
  have HT : Hid (T k = false) := hT
  have HA : Hid (∀ j, j < k → T j = true) := hall
  have HNE : Hid (pr ≠ g) := h.ne
  have HQ : Hid (Rp (w.setCell ⟨g, k, none⟩ (.bool true)) pr M F n g c (upd T k true)) := h.set hk true
  have d1 := (h.at'.kept (Chg.setCell (S := fun b => b = g) w ⟨g, k, none⟩ (.bool true) rfl) h.ne).c1
  obtain ⟨fk, hfk⟩ : ∃ fk, F + k = fk := ⟨_, rfl⟩
  have efk : (F : Int) + (k : Int) = (fk : Int) := by omega
  rw [hfk]
  clear h hT hall hfk
  go_enter Tryz.func20, Tryz.ntmps20
  go_wp2
  go_loopw [4] (fun x wr => ∃ i, i ≤ k ∧ x = .int .i64 ((i : Nat) : Int) ∧ w = wr) (fun x _ => n - (intOf x).toNat)
  case atStart => exact ⟨0, by omega, rfl, rfl⟩
  case round =>
    obtain ⟨i, hi, rfl, hw⟩ := hrel
    subst hw
    have kin : (i : Int) < (n : Int) := by omega
    by_cases hik : i < k
    · have x0 := (HP.out.row.cell (show i < n by omega)).1
      rw [HA.out i hik] at x0
      clear d1
      go_wp2
      go_roundw
      case rel => exact ⟨i + 1, by omega, by go_num, trivial⟩
      case measure => simp [intOf]; omega
    · obtain rfl : i = k := by omega
      have x0 := (HP.out.row.cell hk).1
      have x1 := (HP.out.row.cell hk).2
      rw [HT.out] at x0
      go_wp2
      go_ret2
      exact ⟨rfl, HQ.out, Chg.setCell (S := fun b => b = g) w ⟨g, i, none⟩ _ rfl⟩
theorem rtake_full (h : Rp w pr M F n g c T) (hall : ∀ j, j < n → T j = true) :
    Calls Tryz.prog 20 #[.pointer (some ⟨pr, 0, none⟩)] w fun e w' => e = .returned (.tuple #[.int .i64 0, .int .i64 7]) ∧ w' = w := by
  have c1 := h.at'.c1
  have c2 := h.at'.c2
  have c3 := h.at'.c3
  have hn := h.nn
  have hcc := h.cap
  have HP : Hid (Rp w pr M F n g c T) := h
  have HA : Hid (∀ j, j < n → T j = true) := hall
  clear h hall
  go_enter Tryz.func20, Tryz.ntmps20
  go_wp2
  go_loopw [4] (fun x wr => ∃ i, i ≤ n ∧ x = .int .i64 ((i : Nat) : Int) ∧ w = wr) (fun x _ => n - (intOf x).toNat)
  case atStart => exact ⟨0, by omega, rfl, rfl⟩
  case round =>
    obtain ⟨i, hi, rfl, hw⟩ := hrel
    subst hw
    by_cases hik : i < n
    · have kin : (i : Int) < (n : Int) := by omega
      have x0 := (HP.out.row.cell hik).1
      rw [HA.out i hik] at x0
      go_wp2
      go_roundw
      case rel => exact ⟨i + 1, by omega, by go_num, trivial⟩
      case measure => simp [intOf]; omega
    · have kin : ¬ ((i : Int) < (n : Int)) := by omega
      go_wp2
      go_ret2
      exact ⟨rfl, rfl⟩
theorem rfree_any (h : Rp w pr M F n g c T) :
    Calls Tryz.prog 24 #[.pointer (some ⟨pr, 0, none⟩)] w fun e w' => e = .returned (.int .i64 ((n - cntT T n : Nat) : Int)) ∧ w' = w := by
  have c1 := h.at'.c1
  have c2 := h.at'.c2
  have c3 := h.at'.c3
  have hn := h.nn
  have hcc := h.cap
  have HP : Hid (Rp w pr M F n g c T) := h
  clear h
  go_enter Tryz.func24, Tryz.ntmps24
  go_wp2
  go_loopw [4, 3] (fun x xc wr => ∃ i d, i ≤ n ∧ d ≤ i ∧ x = .int .i64 ((i : Nat) : Int) ∧ xc = .int .i64 ((d : Nat) : Int) ∧ w = wr ∧ Hid (d = i - cntT T i)) (fun x _ _ => n - (intOf x).toNat)
  case atStart => exact ⟨0, 0, by omega, by omega, rfl, rfl, rfl, rfl⟩
  case round =>
    obtain ⟨i, d, hi, hdi, rfl, rfl, hw, HD⟩ := hrel
    subst hw
    by_cases hik : i < n
    · have kin : (i : Int) < (n : Int) := by omega
      have x0 := (HP.out.row.cell hik).1
      have hle := cntT_le T i
      cases hT : T i with
      | true =>
        rw [hT] at x0
        have HD2 : Hid (d = i + 1 - cntT T (i + 1)) := by
          have := HD.out
          show d = i + 1 - (cntT T i + (T i).toNat)
          rw [hT]; simp; omega
        clear HD hle hT
        go_wp2
        go_roundw
        case rel => exact ⟨i + 1, d, by omega, by omega, by go_num, rfl, trivial, HD2⟩
        case measure => simp [intOf]; omega
      | false =>
        rw [hT] at x0
        have HD2 : Hid (d + 1 = i + 1 - cntT T (i + 1)) := by
          have := HD.out
          show d + 1 = i + 1 - (cntT T i + (T i).toNat)
          rw [hT]; simp; omega
        clear HD hle hT
        go_wp2
        go_roundw
        case rel => exact ⟨i + 1, d + 1, by omega, by omega, by go_num, by go_num, trivial, HD2⟩
        case measure => simp [intOf]; omega
    · have kin : ¬ ((i : Int) < (n : Int)) := by omega
      obtain rfl : i = n := by omega
      go_wp2
      go_ret
      rw [← HD.out]
      exact ⟨rfl, rfl⟩
theorem rclear_any {tv : Value} (h : RAt w pr M F n tv) (hn : n ≤ 16384) (hF : F ≤ 1073741824) :
    Calls Tryz.prog 19 #[.pointer (some ⟨pr, 0, none⟩)] w fun e w' => e = .returned (.tuple #[]) ∧ Rp w' pr M F n w.heap.size n (fun _ => false) ∧ Chg (fun b => b = pr) w w' := by
  obtain ⟨ob, hmk, hbr⟩ := makeBools n hn
  have c2 := h.c2
  have c3 := h.c3
  have hlt := h.lt
  have hA := h.kept (Chg.alloc (fun _ => False) w ob) (fun h => h)
  have f3 := hA.fr 3
  have a3 := hA.c3
  have hne : ¬ w.heap.size = pr := by omega
  have hz : (w.setCell ⟨pr, 3, none⟩ (.slice (some ⟨w.heap.size, 0, none⟩) n n)).heap.size = w.heap.size := by simp
  have hrow := hbr (w.setCell ⟨pr, 3, none⟩ (.slice (some ⟨w.heap.size, 0, none⟩) n n))
  rw [hz] at hrow
  have HQ : Hid (Rp ((w.setCell ⟨pr, 3, none⟩ (.slice (some ⟨w.heap.size, 0, none⟩) n n)).alloc ob) pr M F n w.heap.size n (fun _ => false) ∧ Chg (fun b => b = pr) w ((w.setCell ⟨pr, 3, none⟩ (.slice (some ⟨w.heap.size, 0, none⟩) n n)).alloc ob)) :=
    ⟨⟨(h.set _).kept (Chg.alloc (fun _ => False) _ ob) (fun h => h), hrow.bw, Nat.le_refl _, by omega, hn, hF⟩, (Chg.setCell (S := fun b => b = pr) w ⟨pr, 3, none⟩ _ rfl).trans (Chg.alloc (fun b => b = pr) _ ob) (fun _ _ h => h)⟩
  clear hz hrow
  clear h hA hbr hne
  go_enter Tryz.func19, Tryz.ntmps19
  go_wp2
  go_end0
  exact ⟨rfl, HQ.out⟩
set_option maxHeartbeats 1600000 in
theorem rgive_out (x : Int) (h : Rp w pr M F n g c T) (hw : x ≤ 9223372036854775807) (hx : x < (F : Int) ∨ ((F : Int) ≤ x ∧ (n : Int) ≤ x - (F : Int))) :
    Calls Tryz.prog 21 #[.pointer (some ⟨pr, 0, none⟩), .int .i64 x] w fun e w' => e = .returned (.int .i64 1) ∧ ∃ n, w' = w.drewN n := by
  have c1 := h.at'.c1
  have c3 := h.at'.c3
  have IS : Hid (∀ k, Calls Tryz.prog 22 #[.pointer (some ⟨pr, 0, none⟩), .int .i64 x] (w.drewN k) fun e w' => e = .returned (.bool false) ∧ ∃ n, w' = (w.drewN k).drewN n) := fun k => ris_no x (h.kept (Chg.drewN (fun _ => False) w k) (fun h => h) (fun h => h)) hw hx
  clear h hx
  go_enter Tryz.func21, Tryz.ntmps21
  go_wp2_with fail
  go_quiet (first | (go_at_call 22; exact Calls.quiet_of (IS.out _)))
  go_wp2
  go_ret
  exact ⟨rfl, _, rfl⟩
set_option maxHeartbeats 1600000 in
theorem rgive_free (x : Int) (k : Nat) (h : Rp w pr M F n g c T) (hk : k < n) (hx : x = ((F + k : Nat) : Int)) (hT : T k = false) :
    Calls Tryz.prog 21 #[.pointer (some ⟨pr, 0, none⟩), .int .i64 x] w fun e w' => e = .returned (.int .i64 1) ∧ ∃ n, w' = w.drewN n := by
  have c1 := h.at'.c1
  have c3 := h.at'.c3
  have hn := h.nn
  have hcc := h.cap
  have IS : Hid (∀ j, Calls Tryz.prog 22 #[.pointer (some ⟨pr, 0, none⟩), .int .i64 x] (w.drewN j) fun e w' => e = .returned (.bool true) ∧ ∃ n, w' = (w.drewN j).drewN n) := fun j => ris_yes x (h.kept (Chg.drewN (fun _ => False) w j) (fun h => h) (fun h => h)) k hk hx
  have e1 : x - (F : Int) = (k : Int) := by omega
  have wr : IntKind.i64.wrap (k : Int) = (k : Int) := by rw [IntKind.wrap_i64]; omega
  have x0 := (h.row.cell hk).1
  rw [hT] at x0
  have kin : (k : Int) < (n : Int) := by omega
  clear h hx hT
  go_enter Tryz.func21, Tryz.ntmps21
  go_wp2_with fail
  go_quiet (first | (go_at_call 22; exact Calls.quiet_of (IS.out _)))
  go_wp2
  go_ret
  exact ⟨rfl, _, rfl⟩
set_option maxHeartbeats 1600000 in
theorem rgive_ok (x : Int) (k : Nat) (h : Rp w pr M F n g c T) (hk : k < n) (hx : x = ((F + k : Nat) : Int)) (hT : T k = true) :
    Calls Tryz.prog 21 #[.pointer (some ⟨pr, 0, none⟩), .int .i64 x] w fun e w' => e = .returned (.int .i64 0) ∧ Rp w' pr M F n g c (upd T k false) ∧ Chg (fun b => b = g) w w' := by
  have c1 := h.at'.c1
  have c3 := h.at'.c3
  have hn := h.nn
  have hcc := h.cap
  have IS : Hid (∀ j, Calls Tryz.prog 22 #[.pointer (some ⟨pr, 0, none⟩), .int .i64 x] (w.drewN j) fun e w' => e = .returned (.bool true) ∧ ∃ n, w' = (w.drewN j).drewN n) := fun j => ris_yes x (h.kept (Chg.drewN (fun _ => False) w j) (fun h => h) (fun h => h)) k hk hx
  have e1 : x - (F : Int) = (k : Int) := by omega
  have wr : IntKind.i64.wrap (k : Int) = (k : Int) := by rw [IntKind.wrap_i64]; omega
  have x0 := (h.row.cell hk).1
  have x1 := (h.row.cell hk).2
  rw [hT] at x0
  have kin : (k : Int) < (n : Int) := by omega
  have HQ : Hid (∀ j, Rp ((w.drewN j).setCell ⟨g, k, none⟩ (.bool false)) pr M F n g c (upd T k false) ∧ Chg (fun b => b = g) w ((w.drewN j).setCell ⟨g, k, none⟩ (.bool false))) := fun j => ⟨(h.kept (Chg.drewN (fun _ => False) w j) (fun h => h) (fun h => h)).set hk false, (Chg.drewN (fun b => b = g) w j).trans (Chg.setCell (S := fun b => b = g) _ ⟨g, k, none⟩ _ rfl) (fun _ _ h => h)⟩
  clear h hx hT
  go_enter Tryz.func21, Tryz.ntmps21
  go_wp2_with fail
  go_quiet (first | (go_at_call 22; exact Calls.quiet_of (IS.out _)))
  go_wp2_with fail
  go_region
  all_goals
    go_wp2
    go_ret
    exact ⟨rfl, HQ.out _⟩
end
end Go.Proofs.YtdcmcgdalanjjaaGreat
