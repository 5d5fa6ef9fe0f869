/-
  What Is, Take, Give, Free, Clear of the document's own pool do.
-/
import Derived.Test.YtnnaemlipahamaaGreatFBools
import Derived.BigRegion
import Derived.Test.YtnnaemlipahamaaGreatFApp1
namespace Go.Proofs.YtnnaemlipahamaaGreat
open Go.RowKit Go.Maps

/-- The document's pool, at T. -/
structure Rp (w : World) (pr M F n g c : Nat) (T : Nat → Bool) : Prop where
  at' : RAt w pr M F n (.slice (some ⟨g, 0, none⟩) n c)
  row : Bw w g n T
  cap : n ≤ c
  ne : pr ≠ g
  nn : n ≤ 16384
  ff : F ≤ 1073741824
section
variable {w w' : World} {pr M F n g c : Nat} {T : Nat → Bool}
theorem Rp.kept {S : Nat → Prop} (h : Rp w pr M F n g c T) (hc : Chg S w w') (h1 : ¬ S pr) (h2 : ¬ S g) : Rp w' pr M F n g c T := ⟨h.at'.kept hc h1, h.row.kept hc h2, h.cap, h.ne, h.nn, h.ff⟩
theorem Rp.sm {X : Nat → Prop} (h : Rp w pr M F n g c T) (hs : Sm X w w') (h1 : X pr) (h2 : X g) : Rp w' pr M F n g c T := ⟨h.at'.sm hs h1, h.row.sm hs h2, h.cap, h.ne, h.nn, h.ff⟩
theorem Rp.ext (h : Rp w pr M F n g c T) {U : Nat → Bool} (e : ∀ k, k < n → T k = U k) : Rp w pr M F n g c U := ⟨h.at', h.row.ext e, h.cap, h.ne, h.nn, h.ff⟩
theorem Rp.set (h : Rp w pr M F n g c T) {k : Nat} (hk : k < n) (b : Bool) : Rp (w.setCell ⟨g, k, none⟩ (.bool b)) pr M F n g c (upd T k b) :=
  ⟨h.at'.kept (Chg.setCell (S := fun b => b = g) w ⟨g, k, none⟩ _ rfl) h.ne, h.row.set hk b, h.cap, h.ne, h.nn, h.ff⟩

set_option maxHeartbeats 1600000 in
theorem ris_yes (x : Int) (h : Rp w pr M F n g c T) (k : Nat) (hk : k < n) (hx : x = ((F + k : Nat) : Int)) :
    Calls Tryz.prog 98 #[.pointer (some ⟨pr, 0, none⟩), .int .i64 x] w fun e w' => e = .returned (.bool true) ∧ ∃ n, w' = w.drewN n := by
  have c1 := h.at'.c1
  have c2 := h.at'.c2
  have k1 : decide ((F : Int) ≤ x) = true := by simp; omega
  have e1 : x - (F : Int) = (k : Int) := by omega
  have k2 : decide (k < n) = true := by simpa using hk
  have hn := h.nn
  have wr : IntKind.i64.wrap (k : Int) = (k : Int) := by rw [IntKind.wrap_i64]; omega
  clear h hx
  go_enter Tryz.func98, Tryz.ntmps98
  go_wp2_with fail
  go_quiet (fail)
  go_wp2
  go_ret
  exact ⟨rfl, _, rfl⟩
set_option maxHeartbeats 1600000 in
theorem ris_no (x : Int) (h : Rp w pr M F n g c T) (hw : x ≤ 9223372036854775807) (hx : x < (F : Int) ∨ ((F : Int) ≤ x ∧ (n : Int) ≤ x - (F : Int))) :
    Calls Tryz.prog 98 #[.pointer (some ⟨pr, 0, none⟩), .int .i64 x] w fun e w' => e = .returned (.bool false) ∧ ∃ n, w' = w.drewN n := by
  have c1 := h.at'.c1
  have c2 := h.at'.c2
  rcases hx with hx | ⟨h1, h2⟩
  · have k1 : decide ((F : Int) ≤ x) = false := by simp; omega
    clear h
    go_enter Tryz.func98, Tryz.ntmps98
    go_wp2_with fail
    go_quiet (fail)
    go_wp2
    go_ret
    exact ⟨rfl, _, rfl⟩
  · have k1 : decide ((F : Int) ≤ x) = true := by simpa using h1
    have wr : IntKind.i64.wrap (x - (F : Int)) = x - (F : Int) := by rw [IntKind.wrap_i64]; omega
    have k2 : decide (x - (F : Int) < (n : Int)) = false := by simp; omega
    clear h
    go_enter Tryz.func98, Tryz.ntmps98
    go_wp2_with fail
    go_quiet (fail)
    go_wp2
    go_ret
    exact ⟨rfl, _, rfl⟩

set_option maxHeartbeats 1600000 in
set_option maxRecDepth 100000 in
theorem rtake_ok (k : Nat) (h : Rp w pr M F n g c T) (hk : k < n) (hT : T k = false) (hall : ∀ j, j < k → T j = true) :
    Calls Tryz.prog 97 #[.pointer (some ⟨pr, 0, none⟩)] w fun e w' => e = .returned (.tuple #[.int .i64 ((F + k : Nat) : Int), .int .i64 0]) ∧ Rp w' pr M F n g c (upd T k true) ∧ Chg (fun b => b = g) w w' := by
  have c1 := h.at'.c1
  have c2 := h.at'.c2
  have c3 := h.at'.c3
  have hn := h.nn
  have hF := h.ff
  have hcc := h.cap
  have HP : Hid (Rp w pr M F n g c T) := h
  have HT : Hid (T k = false) := hT
  have HA : Hid (∀ j, j < k → T j = true) := hall
  have HNE : Hid (pr ≠ g) := h.ne
  have HQ : Hid (Rp (w.setCell ⟨g, k, none⟩ (.bool true)) pr M F n g c (upd T k true)) := h.set hk true
  have d1 := (h.at'.kept (Chg.setCell (S := fun b => b = g) w ⟨g, k, none⟩ (.bool true) rfl) h.ne).c1
  obtain ⟨fk, hfk⟩ : ∃ fk, F + k = fk := ⟨_, rfl⟩
  have efk : (F : Int) + (k : Int) = (fk : Int) := by omega
  rw [hfk]
  clear h hT hall hfk
  go_enter Tryz.func97, Tryz.ntmps97
  go_wp2
  go_loopw [4] (fun x wr => ∃ i, i ≤ k ∧ x = .int .i64 ((i : Nat) : Int) ∧ w = wr) (fun x _ => n - (intOf x).toNat)
  case atStart => exact ⟨0, by omega, rfl, rfl⟩
  case round =>
    obtain ⟨i, hi, rfl, hw⟩ := hrel
    subst hw
    have kin : (i : Int) < (n : Int) := by omega
    by_cases hik : i < k
    · have x0 := (HP.out.row.cell (show i < n by omega)).1
      rw [HA.out i hik] at x0
      clear d1
      go_wp2
      go_roundw
      case rel => exact ⟨i + 1, by omega, by go_num, trivial⟩
      case measure => simp [intOf]; omega
    · obtain rfl : i = k := by omega
      have x0 := (HP.out.row.cell hk).1
      have x1 := (HP.out.row.cell hk).2
      rw [HT.out] at x0
      go_wp2
      go_ret2
      exact ⟨rfl, HQ.out, Chg.setCell (S := fun b => b = g) w ⟨g, i, none⟩ _ rfl⟩
theorem rtake_full (h : Rp w pr M F n g c T) (hall : ∀ j, j < n → T j = true) :
    Calls Tryz.prog 97 #[.pointer (some ⟨pr, 0, none⟩)] w fun e w' => e = .returned (.tuple #[.int .i64 0, .int .i64 7]) ∧ w' = w := by
  have c1 := h.at'.c1
  have c2 := h.at'.c2
  have c3 := h.at'.c3
  have hn := h.nn
  have hcc := h.cap
  have HP : Hid (Rp w pr M F n g c T) := h
  have HA : Hid (∀ j, j < n → T j = true) := hall
  clear h hall
  go_enter Tryz.func97, Tryz.ntmps97
  go_wp2
  go_loopw [4] (fun x wr => ∃ i, i ≤ n ∧ x = .int .i64 ((i : Nat) : Int) ∧ w = wr) (fun x _ => n - (intOf x).toNat)
  case atStart => exact ⟨0, by omega, rfl, rfl⟩
  case round =>
    obtain ⟨i, hi, rfl, hw⟩ := hrel
    subst hw
    by_cases hik : i < n
    · have kin : (i : Int) < (n : Int) := by omega
      have x0 := (HP.out.row.cell hik).1
      rw [HA.out i hik] at x0
      go_wp2
      go_roundw
      case rel => exact ⟨i + 1, by omega, by go_num, trivial⟩
      case measure => simp [intOf]; omega
    · have kin : ¬ ((i : Int) < (n : Int)) := by omega
      go_wp2
      go_ret2
      exact ⟨rfl, rfl⟩
theorem rfree_any (h : Rp w pr M F n g c T) :
    Calls Tryz.prog 12 #[.pointer (some ⟨pr, 0, none⟩)] w fun e w' => e = .returned (.int .i64 ((n - cntT T n : Nat) : Int)) ∧ w' = w := by
  have c1 := h.at'.c1
  have c2 := h.at'.c2
  have c3 := h.at'.c3
  have hn := h.nn
  have hcc := h.cap
  have HP : Hid (Rp w pr M F n g c T) := h
  clear h
  go_enter Tryz.func12, Tryz.ntmps12
  go_wp2
  go_loopw [4, 3] (fun x xc wr => ∃ i d, i ≤ n ∧ d ≤ i ∧ x = .int .i64 ((i : Nat) : Int) ∧ xc = .int .i64 ((d : Nat) : Int) ∧ w = wr ∧ Hid (d = i - cntT T i)) (fun x _ _ => n - (intOf x).toNat)
  case atStart => exact ⟨0, 0, by omega, by omega, rfl, rfl, rfl, rfl⟩
  case round =>
    obtain ⟨i, d, hi, hdi, rfl, rfl, hw, HD⟩ := hrel
    subst hw
    by_cases hik : i < n
    · have kin : (i : Int) < (n : Int) := by omega
      have x0 := (HP.out.row.cell hik).1
      have hle := cntT_le T i
      cases hT : T i with
      | true =>
        rw [hT] at x0
        have HD2 : Hid (d = i + 1 - cntT T (i + 1)) := by
          have := HD.out
          show d = i + 1 - (cntT T i + (T i).toNat)
          rw [hT]; simp; omega
        clear HD hle hT
        go_wp2
        go_roundw
        case rel => exact ⟨i + 1, d, by omega, by omega, by go_num, rfl, trivial, HD2⟩
        case measure => simp [intOf]; omega
      | false =>
        rw [hT] at x0
        have HD2 : Hid (d + 1 = i + 1 - cntT T (i + 1)) := by
          have := HD.out
          show d + 1 = i + 1 - (cntT T i + (T i).toNat)
          rw [hT]; simp; omega
        clear HD hle hT
        go_wp2
        go_roundw
        case rel => exact ⟨i + 1, d + 1, by omega, by omega, by go_num, by go_num, trivial, HD2⟩
        case measure => simp [intOf]; omega
    · have kin : ¬ ((i : Int) < (n : Int)) := by omega
      obtain rfl : i = n := by omega
      go_wp2
      go_ret
      rw [← HD.out]
      exact ⟨rfl, rfl⟩
theorem rclear_any {tv : Value} (h : RAt w pr M F n tv) (hn : n ≤ 16384) (hF : F ≤ 1073741824) :
    Calls Tryz.prog 23 #[.pointer (some ⟨pr, 0, none⟩)] w fun e w' => e = .returned (.tuple #[]) ∧ Rp w' pr M F n w.heap.size n (fun _ => false) ∧ Chg (fun b => b = pr) w w' := by
  obtain ⟨ob, hmk, hbr⟩ := makeBools n hn
  have c2 := h.c2
  have c3 := h.c3
  have hlt := h.lt
  have hA := h.kept (Chg.alloc (fun _ => False) w ob) (fun h => h)
  have f3 := hA.fr 3
  have a3 := hA.c3
  have hne : ¬ w.heap.size = pr := by omega
  have hz : (w.setCell ⟨pr, 3, none⟩ (.slice (some ⟨w.heap.size, 0, none⟩) n n)).heap.size = w.heap.size := by simp
  have hrow := hbr (w.setCell ⟨pr, 3, none⟩ (.slice (some ⟨w.heap.size, 0, none⟩) n n))
  rw [hz] at hrow
  have HQ : Hid (Rp ((w.setCell ⟨pr, 3, none⟩ (.slice (some ⟨w.heap.size, 0, none⟩) n n)).alloc ob) pr M F n w.heap.size n (fun _ => false) ∧ Chg (fun b => b = pr) w ((w.setCell ⟨pr, 3, none⟩ (.slice (some ⟨w.heap.size, 0, none⟩) n n)).alloc ob)) :=
    ⟨⟨(h.set _).kept (Chg.alloc (fun _ => False) _ ob) (fun h => h), hrow.bw, Nat.le_refl _, by omega, hn, hF⟩, (Chg.setCell (S := fun b => b = pr) w ⟨pr, 3, none⟩ _ rfl).trans (Chg.alloc (fun b => b = pr) _ ob) (fun _ _ h => h)⟩
  clear hz hrow
  clear h hA hbr hne
  go_enter Tryz.func23, Tryz.ntmps23
  go_wp2
  go_end0
  exact ⟨rfl, HQ.out⟩
set_option maxHeartbeats 1600000 in
theorem rgive_out (x : Int) (h : Rp w pr M F n g c T) (hw : x ≤ 9223372036854775807) (hx : x < (F : Int) ∨ ((F : Int) ≤ x ∧ (n : Int) ≤ x - (F : Int))) :
    Calls Tryz.prog 65 #[.pointer (some ⟨pr, 0, none⟩), .int .i64 x] w fun e w' => e = .returned (.int .i64 1) ∧ ∃ n, w' = w.drewN n := by
  have c1 := h.at'.c1
  have c3 := h.at'.c3
  have IS : Hid (∀ k, Calls Tryz.prog 98 #[.pointer (some ⟨pr, 0, none⟩), .int .i64 x] (w.drewN k) fun e w' => e = .returned (.bool false) ∧ ∃ n, w' = (w.drewN k).drewN n) := fun k => ris_no x (h.kept (Chg.drewN (fun _ => False) w k) (fun h => h) (fun h => h)) hw hx
  clear h hx
  go_enter Tryz.func65, Tryz.ntmps65
  go_wp2_with fail
  go_quiet (first | (go_at_call 98; exact Calls.quiet_of (IS.out _)))
  go_wp2
  go_ret
  exact ⟨rfl, _, rfl⟩
set_option maxHeartbeats 1600000 in
theorem rgive_free (x : Int) (k : Nat) (h : Rp w pr M F n g c T) (hk : k < n) (hx : x = ((F + k : Nat) : Int)) (hT : T k = false) :
    Calls Tryz.prog 65 #[.pointer (some ⟨pr, 0, none⟩), .int .i64 x] w fun e w' => e = .returned (.int .i64 1) ∧ ∃ n, w' = w.drewN n := by
  have c1 := h.at'.c1
  have c3 := h.at'.c3
  have hn := h.nn
  have hcc := h.cap
  have IS : Hid (∀ j, Calls Tryz.prog 98 #[.pointer (some ⟨pr, 0, none⟩), .int .i64 x] (w.drewN j) fun e w' => e = .returned (.bool true) ∧ ∃ n, w' = (w.drewN j).drewN n) := fun j => ris_yes x (h.kept (Chg.drewN (fun _ => False) w j) (fun h => h) (fun h => h)) k hk hx
  have e1 : x - (F : Int) = (k : Int) := by omega
  have wr : IntKind.i64.wrap (k : Int) = (k : Int) := by rw [IntKind.wrap_i64]; omega
  have x0 := (h.row.cell hk).1
  rw [hT] at x0
  have kin : (k : Int) < (n : Int) := by omega
  clear h hx hT
  go_enter Tryz.func65, Tryz.ntmps65
  go_wp2_with fail
  go_quiet (first | (go_at_call 98; exact Calls.quiet_of (IS.out _)))
  go_wp2
  go_ret
  exact ⟨rfl, _, rfl⟩
set_option maxHeartbeats 1600000 in
theorem rgive_ok (x : Int) (k : Nat) (h : Rp w pr M F n g c T) (hk : k < n) (hx : x = ((F + k : Nat) : Int)) (hT : T k = true) :
    Calls Tryz.prog 65 #[.pointer (some ⟨pr, 0, none⟩), .int .i64 x] w fun e w' => e = .returned (.int .i64 0) ∧ Rp w' pr M F n g c (upd T k false) ∧ Chg (fun b => b = g) w w' := by
  have c1 := h.at'.c1
  have c3 := h.at'.c3
  have hn := h.nn
  have hcc := h.cap
  have IS : Hid (∀ j, Calls Tryz.prog 98 #[.pointer (some ⟨pr, 0, none⟩), .int .i64 x] (w.drewN j) fun e w' => e = .returned (.bool true) ∧ ∃ n, w' = (w.drewN j).drewN n) := fun j => ris_yes x (h.kept (Chg.drewN (fun _ => False) w j) (fun h => h) (fun h => h)) k hk hx
  have e1 : x - (F : Int) = (k : Int) := by omega
  have wr : IntKind.i64.wrap (k : Int) = (k : Int) := by rw [IntKind.wrap_i64]; omega
  have x0 := (h.row.cell hk).1
  have x1 := (h.row.cell hk).2
  rw [hT] at x0
  have kin : (k : Int) < (n : Int) := by omega
  have HQ : Hid (∀ j, Rp ((w.drewN j).setCell ⟨g, k, none⟩ (.bool false)) pr M F n g c (upd T k false) ∧ Chg (fun b => b = g) w ((w.drewN j).setCell ⟨g, k, none⟩ (.bool false))) := fun j => ⟨(h.kept (Chg.drewN (fun _ => False) w j) (fun h => h) (fun h => h)).set hk false, (Chg.drewN (fun b => b = g) w j).trans (Chg.setCell (S := fun b => b = g) _ ⟨g, k, none⟩ _ rfl) (fun _ _ h => h)⟩
  clear h hx hT
  go_enter Tryz.func65, Tryz.ntmps65
  go_wp2_with fail
  go_quiet (first | (go_at_call 98; exact Calls.quiet_of (IS.out _)))
  go_wp2_with fail
  go_region
  all_goals
    go_wp2
    go_ret
    exact ⟨rfl, HQ.out _⟩
end
end Go.Proofs.YtnnaemlipahamaaGreat

namespace Go.Proofs.YtnnaemlipahamaaGreat
open Go.RowKit Go.Maps

theorem eqL_some (a : Addr) (w : World) : (binOp .eql 40 (.pointer (some a)) (.pointer none)).run Tryz.prog w = .ok (.bool false) w := by kernel_rfl
theorem eqT_some (a : Addr) (w : World) : (binOp .eql 37 (.pointer (some a)) (.pointer none)).run Tryz.prog w = .ok (.bool false) w := by kernel_rfl
theorem eqB_some (a : Addr) (w : World) : (binOp .eql 25 (.pointer (some a)) (.pointer none)).run Tryz.prog w = .ok (.bool false) w := by kernel_rfl
theorem Nw.ofNew {w w' : World} {F : Nat → Prop} (hc : Chg (fun _ => False) w w') (hF : ∀ b, F b → w.heap.size ≤ b) : Nw (fun b => b < w.heap.size) w w' F (fun _ => False) :=
  ⟨hc, hF, fun _ h => h.elim, fun b hb => ⟨by have := hc.size; omega, fun hf => by have := hF b hf; omega, fun h => h⟩⟩
section
variable {X : Nat → Prop} {w0 w w' : World} {pd pl K : Nat} {f : Nat → List Int} {com : Nat → Option (List Int)} {pend N : Nat}
theorem LogUp.put {r : Nat} (h : LogUp X w0 w pd pl K f com pend N) (hx : X r) (hr : w0.heap.size ≤ r) (hc : Chg (fun b => b = r) w w') : LogUp X w0 w' pd pl K f com pend N := by
  obtain ⟨F, G, S, m, V, h1, h2, h3, h4, h5, h6, h7⟩ := h
  have hn := h7.x r hx
  exact ⟨F, G, S, m, V, ⟨h1.dk.kept hc (fun b hb e => hn.2.1 (e ▸ hb)), h1.lg.kept hc (fun b hb e => hn.2.2 (e ▸ hb)), h1.no, h1.nb⟩, h2, h3, h4, h5, h6, h7.put hx hr hc⟩
/-- .. with new blocks beside it. -/
theorem LogUp.addput {r : Nat} (h : LogUp X w0 w pd pl K f com pend N) (hx : X r) (hr : w0.heap.size ≤ r) (hc : Chg (fun b => b = r) w w') : LogUp (addX X w.heap.size w'.heap.size) w0 w' pd pl K f com pend N := by
  obtain ⟨F, G, S, m, V, h1, h2, h3, h4, h5, h6, h7⟩ := h
  have hn := h7.x r hx
  have hp := h7.put hx hr hc
  exact ⟨F, G, S, m, V, ⟨h1.dk.kept hc (fun b hb e => hn.2.1 (e ▸ hb)), h1.lg.kept hc (fun b hb e => hn.2.2 (e ▸ hb)), h1.no, h1.nb⟩, h2, h3, h4, h5, h6, ⟨hp.chg, hp.f, hp.g, fun b hb => hb.elim (hp.x b) (fun e => ⟨e.2, fun hf => by have := h1.dk.lt b hf; omega, fun hg => by have := h1.lg.lt b hg; omega⟩)⟩⟩
end
/-- Between two transactions: the log's blocks are V. -/
structure Lz (X : Nat → Prop) (w0 : World) (pd pl K : Nat) (V : Nat → List Int) (c : Nat) (w : World) : Prop where
  ex : ∃ f com pend N, LogUp X w0 w pd pl K f com pend N ∧ (∀ m, ovr f com m = V m) ∧ pend ≤ c ∧ N ≤ 20000 + 128 * c
section
variable {X Y : Nat → Prop} {w0 w w' : World} {pd pl K c : Nat} {V : Nat → List Int}
theorem Lz.more (h : Lz X w0 pd pl K V c w) (hc : Chg (fun _ => False) w w') : Lz X w0 pd pl K V c w' := by
  obtain ⟨f, com, pend, N, h1, h2⟩ := h.ex
  exact ⟨f, com, pend, N, h1.more hc, h2⟩
theorem Lz.add (h : Lz X w0 pd pl K V c w) (hc : Chg (fun _ => False) w w') : Lz (addX X w.heap.size w'.heap.size) w0 pd pl K V c w' := by
  obtain ⟨f, com, pend, N, h1, h2⟩ := h.ex
  exact ⟨f, com, pend, N, h1.add hc, h2⟩
theorem Lz.less (h : Lz X w0 pd pl K V c w) (hx : ∀ b, Y b → X b) : Lz Y w0 pd pl K V c w := by
  obtain ⟨f, com, pend, N, h1, h2⟩ := h.ex
  exact ⟨f, com, pend, N, h1.less hx, h2⟩
theorem Lz.put {r : Nat} (h : Lz X w0 pd pl K V c w) (hx : X r) (hr : w0.heap.size ≤ r) (hc : Chg (fun b => b = r) w w') : Lz X w0 pd pl K V c w' := by
  obtain ⟨f, com, pend, N, h1, h2⟩ := h.ex
  exact ⟨f, com, pend, N, h1.put hx hr hc, h2⟩
theorem Lz.addput {r : Nat} (h : Lz X w0 pd pl K V c w) (hx : X r) (hr : w0.heap.size ≤ r) (hc : Chg (fun b => b = r) w w') : Lz (addX X w.heap.size w'.heap.size) w0 pd pl K V c w' := by
  obtain ⟨f, com, pend, N, h1, h2⟩ := h.ex
  exact ⟨f, com, pend, N, h1.addput hx hr hc, h2⟩
theorem Lz.chg (h : Lz X w0 pd pl K V c w) : Chg (fun _ => False) w0 w := by
  obtain ⟨f, com, pend, N, ⟨F, G, S, m, V, h1, h2, h3, h4, h5, h6, h7⟩, _⟩ := h.ex
  exact h7.chg
theorem Lz.xlt (h : Lz X w0 pd pl K V c w) : ∀ b, X b → b < w.heap.size := by
  obtain ⟨f, com, pend, N, h1, h2⟩ := h.ex
  exact h1.xlt
/-- Begin: whatever few blocks are to be written. -/
theorem lz_begin (h : Lz X w0 pd pl K V c w) (hc : c ≤ 1000) (hK : K ≤ 16319) :
    Calls Tryz.prog 9 #[.pointer (some ⟨pl, 0, none⟩)] w fun e w' => ∃ q, e = .returned (.tuple #[.pointer (some ⟨q, 0, none⟩), .int .i64 0]) ∧ (∃ f com pend N, pend ≤ c ∧ N ≤ 20000 + 128 * c ∧ ∀ L : List Nat, L.length ≤ 63 → Tv L X w0 w' pd pl q K f com pend N V) ∧ Sm X w w' := by
  obtain ⟨f, com, pend, N, h1, h2, h3, h4⟩ := h.ex
  refine (begin_up h1).mono ?_
  rintro e w' ⟨q, rfl, ht, hs⟩
  refine ⟨q, rfl, ⟨f, com, pend, N, h3, h4, fun L hL => ?_⟩, hs⟩
  have := Tv.start ht (by omega) hK hL
  rw [show V = ovr f com from funext fun m => (h2 m).symm]
  exact this
theorem tv_commit {L : List Nat} {q : Nat} {f : Nat → List Int} {com : Nat → Option (List Int)} {pend N : Nat} (h : Tv L X w0 w pd pl q K f com pend N V) (hp : pend ≤ c) (hN : N ≤ 20000 + 128 * c) (hc : c ≤ 1000) :
    Calls Tryz.prog 14 #[.pointer (some ⟨q, 0, none⟩)] w fun e w' => e = .returned (.int .i64 0) ∧ Lz X w0 pd pl K V (c + 1) w' ∧ Sm X w w' := by
  obtain ⟨own, wrote, h1, h2, h3, h4, h5, h6⟩ := h
  refine (commit_up h1 h3 (by omega)).mono ?_
  rintro e w' ⟨rfl, f', com', pend', ht, hs, hv, hr⟩
  refine ⟨rfl, ⟨f', com', pend', _, ht.log, fun n => (hv n).trans (h2 n), ?_, ?_⟩, hs⟩
  · rcases hr with ⟨e, _⟩ | ⟨e, _⟩ <;> omega
  · omega
end
/-- What made leaves: the base with its log, its pool, the document's pool. -/
structure Md (X : Nat → Prop) (w0 : World) (bb pd pl pr g n : Nat) (V : Nat → List Int) (T U : Nat → Bool) (c : Nat) (w : World) : Prop where
  lz : Lz X w0 pd pl (n + 1) V c w
  bt : Bt V 0 n T
  by' : ∀ m, m < n + 1 → IsBy (V m)
  bx : w.heap[bb]? = some (.cells #[.pointer (some ⟨pl, 0, none⟩), .int .i64 0, .int .i64 1, .int .i64 (n : Int), .pointer (some ⟨pr, 0, none⟩)] 45 (0, 0))
  rp : Rp w pr 0 1 n g n U
  x : X bb ∧ X pr ∧ X g ∧ bb ≠ pr ∧ bb ≠ g
  lo : w0.heap.size ≤ bb ∧ w0.heap.size ≤ pr ∧ w0.heap.size ≤ g
  old : ∀ b, b < w0.heap.size → X b
theorem isBy_zero (m : Nat) : IsBy ((fun _ : Nat => zeros 512) m) := isBy_zeros 512
set_option maxHeartbeats 1600000 in
theorem made_any (n : Nat) (w : World) (h1 : 1 ≤ n) (h2 : n ≤ 4096) :
    Calls Tryz.prog 8 #[.int .i64 (n : Int)] w fun e w' => ∃ X bb pd pl pr g V, e = .returned (.pointer (some ⟨bb, 0, none⟩)) ∧ Md X w bb pd pl pr g n V (fun _ => false) (fun _ => false) 1 w' ∧ Chg (fun _ => False) w w' := by
  have hm : mapsN n = 1 := by unfold mapsN; omega
  obtain ⟨nb, hnb⟩ : ∃ nb, n + 66 = nb := ⟨_, rfl⟩
  have hw : IntKind.i64.wrap (66 + (n : Int)) = (nb : Int) := by rw [IntKind.wrap_i64]; omega
  have hw2 : 66 + (n : Int) = (nb : Int) := by omega
  have NW : Hid (Calls Tryz.prog 21 #[.int .i64 (nb : Int)] w fun e w1 => ∃ p, e = .returned (.tuple #[.pointer (some ⟨p, 0, none⟩), .int .i64 0]) ∧ Hid (Calls Tryz.prog 22 #[.pointer (some ⟨p, 0, none⟩)] w1 fun e w2 => ∃ pl, e = .returned (.tuple #[.pointer (some ⟨pl, 0, none⟩), .int .i64 0]) ∧ Hid (LogUp (fun b => b < w.heap.size) w w2 p pl (n + 1) (fun _ => zeros 512) (fun _ => none) 0 (n + 3)))) := by
    refine (new_ok nb w (by omega) (by omega)).mono ?_
    rintro e w1 ⟨F, p, rfl, hd, hc1, hF⟩
    refine ⟨p, rfl, ?_⟩
    refine (format_up (N := n + 3) (K := n + 1) F (St.new nb) hd (Nw.ofNew hc1 hF) (fun _ => rfl) (by show nb = n + 1 + 65; omega) (by omega) rfl (by show (0 : Int) < 1; decide) (by show 0 + (n + 1) + 2 ≤ n + 3; omega) (by omega)).mono ?_
    rintro e w2 ⟨pl, rfl, hl, _⟩
    exact ⟨pl, rfl, hl⟩
  have HN : Hid (1 ≤ n ∧ n ≤ 4096 ∧ mapsN n = 1) := ⟨h1, h2, hm⟩
  have hn0 : n ≤ 4096 := h2
  clear hm hnb h1 h2
  go_enter Tryz.func8, Tryz.ntmps8
  go_wp2_with fail
  refine (show Calls _ _ _ _ _ from NW.out).mono ?_
  clear NW
  rintro e w1 ⟨pd, rfl, FM⟩
  go_wp2_with fail
  refine (show Calls _ _ _ _ _ from FM.out).mono ?_
  clear FM
  rintro e w2 ⟨pl, rfl, HL⟩
  obtain ⟨o1, ho1⟩ : ∃ o1, Obj.cells #[.int .i64 0, .int .i64 1, .int .i64 (n : Int), .slice none 0 0] 79 = o1 := ⟨_, rfl⟩
  obtain ⟨o2, ho2⟩ : ∃ o2, Obj.cells #[.pointer (some ⟨pl, 0, none⟩), .int .i64 0, .int .i64 1, .int .i64 (n : Int), .pointer (some ⟨w2.heap.size, 0, none⟩)] 45 = o2 := ⟨_, rfl⟩
  have hr3 : RAt ((w2.alloc o1).alloc o2) w2.heap.size 0 1 n (.slice none 0 0) := ⟨by
    rw [(Chg.alloc (fun _ => False) (w2.alloc o1) o2).block w2.heap.size (by simp) (fun h => h), heap_alloc_new, ← ho1]⟩
  have hb3 : ((w2.alloc o1).alloc o2).heap[w2.heap.size + 1]? = some o2 := heap_new' (by simp)
  have CL : Hid (Calls Tryz.prog 23 #[.pointer (some ⟨w2.heap.size, 0, none⟩)] ((w2.alloc o1).alloc o2) fun e w4 => e = .returned (.tuple #[]) ∧ Hid (w4.heap[w2.heap.size + 1]? = some o2 ∧ ∃ X, X = addX (fun b => b < w.heap.size) w2.heap.size w4.heap.size ∧ Rp w4 w2.heap.size 0 1 n (w2.heap.size + 2) n (fun _ => false) ∧ Lz X w pd pl (n + 1) (fun _ => zeros 512) 0 w4)) := by
    refine (rclear_any (M := 0) (F := 1) hr3 (by omega) (by omega)).mono ?_
    rintro e w4 ⟨rfl, hrp, hc4⟩
    have hs4 : ((w2.alloc o1).alloc o2).heap.size = w2.heap.size + 2 := by simp
    rw [hs4] at hrp
    refine ⟨rfl, (hc4.block _ (by omega) (by omega)).trans hb3, _, rfl, hrp, ?_⟩
    have hl0 : Lz (fun b => b < w.heap.size) w pd pl (n + 1) (fun _ => zeros 512) 0 w2 := ⟨_, _, _, _, HL.out, fun _ => ovr_none rfl, Nat.le_refl _, by omega⟩
    have hl1 := hl0.add ((Chg.alloc (fun _ => False) w2 o1).al o2)
    have hle := hl0.chg.size
    have hl2 := hl1.addput (r := w2.heap.size) (.inr ⟨Nat.le_refl _, by omega⟩) hle hc4
    rw [addX_addX (by omega) hc4.size] at hl2
    exact hl2
  have HWW : Hid (w.heap.size ≤ w2.heap.size) := by
    obtain ⟨F, G, S, m, V, h1, h2, h3, h4, h5, h6, h7⟩ := HL.out
    exact h7.chg.size
  rw [← ho1, ← ho2] at CL
  clear hr3 hb3 ho1 ho2 HL
  have hq := eqL_some ⟨pl, 0, none⟩
  go_wp2_with fail
  refine (show Calls _ _ _ _ _ from CL.out).mono ?_
  clear CL
  rintro e w4 ⟨rfl, H4⟩
  obtain ⟨hb4, X, hX, hrp4, hlz4⟩ := H4.out
  have hx4 : X (w2.heap.size + 1) ∧ X w2.heap.size ∧ X (w2.heap.size + 2) := by
    have := lt_of_block hb4
    have := hrp4.row.lt
    rw [hX]
    exact ⟨.inr ⟨by omega, by omega⟩, .inr ⟨by omega, by omega⟩, .inr ⟨by omega, by omega⟩⟩
  have hold : ∀ b, b < w.heap.size → X b := fun b hb => hX ▸ .inl hb
  have BG : Hid (Calls Tryz.prog 9 #[.pointer (some ⟨pl, 0, none⟩)] w4 fun e w5 => ∃ q, e = .returned (.tuple #[.pointer (some ⟨q, 0, none⟩), .int .i64 0]) ∧ w5.heap[w2.heap.size + 1]? = w4.heap[w2.heap.size + 1]? ∧
      Hid (Calls Tryz.prog 24 #[PV 0 1 n, .pointer (some ⟨q, 0, none⟩)] w5 fun e w6 => e = .returned (.int .i64 0) ∧ Hid (Calls Tryz.prog 14 #[.pointer (some ⟨q, 0, none⟩)] w6 fun e w7 => e = .returned (.int .i64 0) ∧ Hid (∃ V, Md X w (w2.heap.size + 1) pd pl w2.heap.size (w2.heap.size + 2) n V (fun _ => false) (fun _ => false) 1 w7)))) := by
    refine (lz_begin hlz4 (by omega) (by omega)).mono ?_
    rintro e w5 ⟨q, rfl, ⟨f, com, pend, N, hp, hN, ht⟩, s5⟩
    refine ⟨q, rfl, s5 _ hx4.1, ?_⟩
    have hn := HN.out
    refine (pclear_ok 0 1 n (ht [0] (by decide)) ⟨by omega, hn.1, by omega, by omega, fun i hi => by rw [hn.2.2] at hi; simp; omega⟩).mono ?_
    rintro e w6 ⟨rfl, V', t6, b6, f6, s6⟩
    refine ⟨rfl, (tv_commit t6 hp hN (by omega)).mono ?_⟩
    rintro e w7 ⟨rfl, l7, s7⟩
    have hS : Sm X w4 w7 := (s5.trans s6).trans s7
    refine ⟨rfl, V', l7, b6, fun m hm => ?_, (hS _ hx4.1).trans hb4, hrp4.sm hS hx4.2.1 hx4.2.2, ⟨hx4.1, hx4.2.1, hx4.2.2, by omega, by omega⟩, ⟨by have := HWW.out; omega, HWW.out, by have := HWW.out; omega⟩, hold⟩
    by_cases e0 : m < 0 ∨ 0 + mapsN n ≤ m
    · rw [f6 m e0]; exact isBy_zeros _
    · have := b6.by' m (by omega)
      rw [Nat.zero_add] at this
      exact this.1
  have c0 : w4.cell? ⟨w2.heap.size + 1, 0, none⟩ = some (.pointer (some ⟨pl, 0, none⟩)) := by rw [cell_of_row _ _ _ _ _ _ hb4]; rfl
  have HB4 : Hid _ := hb4
  clear hx4 hold hX hrp4 hlz4 hb4 H4 HN hw hw2
  go_wp2_with fail
  refine (show Calls _ _ _ _ _ from BG.out).mono ?_
  clear BG
  rintro e w5 ⟨q, rfl, hb5, CL⟩
  have hb5' := hb5.trans HB4.out
  have d0 : w5.cell? ⟨w2.heap.size + 1, 1, none⟩ = some (.int .i64 0) := by rw [cell_of_row _ _ _ _ _ _ hb5']; rfl
  have d1 : w5.cell? ⟨w2.heap.size + 1, 2, none⟩ = some (.int .i64 1) := by rw [cell_of_row _ _ _ _ _ _ hb5']; rfl
  have d2 : w5.cell? ⟨w2.heap.size + 1, 3, none⟩ = some (.int .i64 (n : Int)) := by rw [cell_of_row _ _ _ _ _ _ hb5']; rfl
  have hq2 := eqT_some ⟨q, 0, none⟩
  unfold PV at CL
  clear hb5 hb5' HB4 c0
  go_wp2_with fail
  refine (show Calls _ _ _ _ _ from CL.out).mono ?_
  clear CL
  rintro e w6 ⟨rfl, CM⟩
  go_wp2_with fail
  refine (show Calls _ _ _ _ _ from CM.out).mono ?_
  clear CM
  rintro e w7 ⟨rfl, HZ⟩
  go_wp2
  go_ret
  obtain ⟨V, hz⟩ := HZ.out
  exact ⟨X, w2.heap.size + 1, pd, pl, w2.heap.size, w2.heap.size + 2, V, rfl, hz, hz.lz.chg⟩
end Go.Proofs.YtnnaemlipahamaaGreat
