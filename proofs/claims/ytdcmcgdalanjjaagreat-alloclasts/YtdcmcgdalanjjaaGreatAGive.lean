/-
  What partOf, Give, Has of a pool do.
-/
import Derived.Test.YtdcmcgdalanjjaaGreatAPart
namespace Go.Proofs.YtdcmcgdalanjjaaGreat
open Go.RowKit Go.Maps

section
variable {X : Nat → Prop} {w0 w w1 : World} {pd pl q K : Nat} {f : Nat → List Int} {com : Nat → Option (List Int)} {pend N : Nat} {V : Nat → List Int} {T : Nat → Bool}
theorem partOf_out (M F n : Int) (v : Value) (x : Int) (w : World) (hx : x < F ∨ (F ≤ x ∧ n ≤ x - F)) (hw : x - F ≤ 9223372036854775807) :
    Calls Tryz.prog 41 #[PV M F n, v, .int .i64 x] w fun e w' => e = .returned (.tuple #[.slice none 0 0, .int .i64 1]) ∧ Chg (fun _ => False) w w' := by
  unfold PV
  rcases hx with hx | ⟨h1, h2⟩
  · have k1 : decide (x < F) = true := by simpa using hx
    go_enter Tryz.func41, Tryz.ntmps41
    go_wp2
    go_ret2
    exact ⟨rfl, Chg.alloc (fun _ => False) w _⟩
  · have k1 : decide (x < F) = false := by simpa using h1
    have k2 : decide (n ≤ x - F) = true := by simpa using h2
    go_enter Tryz.func41, Tryz.ntmps41
    go_wp2
    go_ret2
    exact ⟨rfl, Chg.alloc (fun _ => False) w _⟩
theorem partOf_no (M F n : Int) (w : World) (h : Tv X w0 w pd pl q K f com pend N V) (hw : M ≤ 9223372036854775807) (hn : 0 < n) (hr : ¬ (0 ≤ M ∧ 0 ≤ F ∧ F ≤ 1073741824 ∧ 1 ≤ n ∧ n ≤ 16384 ∧ M + (mapsN n.toNat : Int) ≤ (K : Int))) :
    Calls Tryz.prog 41 #[PV M F n, .pointer (some ⟨q, 0, none⟩), .int .i64 F] w fun e w' => e = .returned (.tuple #[.slice none 0 0, .int .i64 1]) ∧ Chg (fun _ => False) w w' := by
  have ST : Hid (Calls Tryz.prog 32 #[PV M F n, .pointer (some ⟨q, 0, none⟩)] (w.alloc (PO M F n)) fun e w' => e = .returned (.int .i64 1) ∧ Chg (fun _ => False) (w.alloc (PO M F n)) w') := stands_no M F n (h.more (Chg.alloc (fun _ => False) w _)) hw hr
  have k2 : decide (n ≤ 0) = false := by simpa using hn
  have e1 : F - F = 0 := by omega
  clear h hr hw
  unfold PV PO at *
  go_enter Tryz.func41, Tryz.ntmps41
  go_wp2_with fail
  refine ST.out.mono ?_
  rintro e w2 ⟨rfl, hc⟩
  have HC : Hid (Chg (fun _ => False) w w2) := (Chg.alloc (fun _ => False) w _).trans hc (fun _ _ h => h)
  clear hc ST
  go_wp2
  go_ret2
  exact ⟨rfl, HC.out⟩
theorem partOf_ok (M F n k : Nat) (h : Tv X w0 w pd pl q K f com pend N V) (hp : Pr M F n K) (hk : k < n) :
    Calls Tryz.prog 41 #[PV M F n, .pointer (some ⟨q, 0, none⟩), .int .i64 ((F + k : Nat) : Int)] w fun e w' => ∃ u g, e = .returned (.tuple #[u, .int .i64 0]) ∧ NewM w w' u g (V (M + k / 4096)) := by
  have h1 := h.more (Chg.alloc (fun _ => False) w (PO M F n))
  have hbx := PAt.box w M F n
  have ST : Hid (Calls Tryz.prog 32 #[PV M F n, .pointer (some ⟨q, 0, none⟩)] (w.alloc (PO M F n)) fun e w' => e = .returned (.int .i64 0) ∧ Chg (fun _ => False) (w.alloc (PO M F n)) w') := stands_ok M F n h1 hp.f hp.one hp.top hp.in'
  have hn := hp.top
  have hF := hp.f
  have PL : Hid (∀ w : World, Calls Tryz.prog 42 #[PV M F n, .int .i64 ((F + k : Nat) : Int)] w fun e w' => e = .returned (.tuple #[.int .i64 ((k / 4096 : Nat) : Int), .int .i64 ((k % 4096 : Nat) : Int)]) ∧ w' = w.alloc (PO M F n)) := fun w => place_any M F n k w (by omega) hF
  have PT : Hid (∀ w' : World, Chg (fun _ => False) w w' → Calls Tryz.prog 33 #[PV M F n, .pointer (some ⟨q, 0, none⟩), .int .i64 ((k / 4096 : Nat) : Int)] w' fun e w'' => ∃ u g, e = .returned (.tuple #[u, .int .i64 0]) ∧ NewM w w'' u g (V (M + k / 4096))) := fun w' hc => by
    refine (part_any M (k / 4096) F n (h.more hc) (by have := maps_lt hk; have := hp.in'; omega)).mono ?_
    rintro e w'' ⟨u, g, rfl, hu⟩
    exact ⟨u, g, rfl, hu.mp, hc.trans hu.chg (fun _ _ h => h), by have := hu.new; have := hc.size; omega, hu.len, hu.form⟩
  have k1 : decide (((F + k : Nat) : Int) < (F : Int)) = false := by simp; omega
  have e1 : ((F + k : Nat) : Int) - (F : Int) = (k : Int) := by omega
  have k2 : decide ((n : Int) ≤ (k : Int)) = false := by simp; omega
  have k3 : decide (n ≤ k) = false := by simp; omega
  have k4 : ¬ (F + k < F) := by omega
  have hfk : F + k ≤ 1073758208 := by omega
  generalize F + k = fk at *
  generalize k % 4096 = r at *
  generalize k / 4096 = i at *
  clear h h1 hp
  unfold PV PO at *
  go_enter Tryz.func41, Tryz.ntmps41
  go_wp2_with fail
  refine ST.out.mono ?_
  rintro e w2 ⟨rfl, hc⟩
  have HC : Hid (Chg (fun _ => False) w w2) := (Chg.alloc (fun _ => False) w _).trans hc (fun _ _ h => h)
  have hb2 := hbx.kept hc (fun h => h)
  have p0 := hb2.c0
  have p1 := hb2.c1
  have p2 := hb2.c2
  clear hc ST
  go_wp2_with fail
  refine (PL.out _).mono ?_
  rintro e w3 ⟨rfl, hw3⟩
  have hc3 : Chg (fun _ => False) w2 w3 := hw3 ▸ Chg.alloc (fun _ => False) w2 _
  have hb3 := hb2.kept hc3 (fun h => h)
  have q0 := hb3.c0
  have q1 := hb3.c1
  have q2 := hb3.c2
  have HC3 : Hid (Chg (fun _ => False) w w3) := HC.out.trans hc3 (fun _ _ h => h)
  clear hb3 hb2 hbx p0 p1 p2 hw3 hc3 HC PL
  go_wp2_with fail
  refine (PT.out _ HC3.out).mono ?_
  rintro e w4 ⟨u, g, rfl, hu⟩
  have HU : Hid (NewM w w4 u g (V (M + i))) := hu
  clear hu PT
  go_wp2
  go_ret2
  exact ⟨_, _, rfl, HU.out⟩

/-- partOf refused: Give and Has say so. -/
theorem give_err (M F n : Int) (v : Value) (x : Int) (w : World) (h : Calls Tryz.prog 41 #[PV M F n, v, .int .i64 x] (w.alloc (PO M F n)) fun e w' => e = .returned (.tuple #[.slice none 0 0, .int .i64 1]) ∧ Chg (fun _ => False) (w.alloc (PO M F n)) w') :
    Calls Tryz.prog 16 #[PV M F n, v, .int .i64 x] w fun e w' => e = .returned (.int .i64 1) ∧ Chg (fun _ => False) w w' := by
  have HP : Hid _ := h
  clear h
  unfold PV PO at *
  go_enter Tryz.func16, Tryz.ntmps16
  go_wp2_with fail
  refine (show Calls _ _ _ _ _ from HP.out).mono ?_
  rintro e w2 ⟨rfl, hc⟩
  have HC : Hid (Chg (fun _ => False) w w2) := (Chg.alloc (fun _ => False) w _).trans hc (fun _ _ h => h)
  clear hc HP
  go_wp2
  go_ret
  exact ⟨rfl, HC.out⟩
theorem has_err (M F n : Int) (v : Value) (x : Int) (w : World) (h : Calls Tryz.prog 41 #[PV M F n, v, .int .i64 x] (w.alloc (PO M F n)) fun e w' => e = .returned (.tuple #[.slice none 0 0, .int .i64 1]) ∧ Chg (fun _ => False) (w.alloc (PO M F n)) w') :
    Calls Tryz.prog 14 #[PV M F n, v, .int .i64 x] w fun e w' => e = .returned (.tuple #[.bool false, .int .i64 1]) ∧ Chg (fun _ => False) w w' := by
  have HP : Hid _ := h
  clear h
  unfold PV PO at *
  go_enter Tryz.func14, Tryz.ntmps14
  go_wp2_with fail
  refine (show Calls _ _ _ _ _ from HP.out).mono ?_
  rintro e w2 ⟨rfl, hc⟩
  have HC : Hid (Chg (fun _ => False) w w2) := (Chg.alloc (fun _ => False) w _).trans hc (fun _ _ h => h)
  clear hc HP
  go_wp2
  go_ret2
  exact ⟨rfl, HC.out⟩
theorem give_out (M F n : Int) (v : Value) (x : Int) (w : World) (hx : x < F ∨ (F ≤ x ∧ n ≤ x - F)) (hw : x - F ≤ 9223372036854775807) :
    Calls Tryz.prog 16 #[PV M F n, v, .int .i64 x] w fun e w' => e = .returned (.int .i64 1) ∧ Chg (fun _ => False) w w' := give_err M F n v x w (partOf_out M F n v x _ hx hw)
theorem has_out' (M F n : Int) (v : Value) (x : Int) (w : World) (hx : x < F ∨ (F ≤ x ∧ n ≤ x - F)) (hw : x - F ≤ 9223372036854775807) :
    Calls Tryz.prog 14 #[PV M F n, v, .int .i64 x] w fun e w' => e = .returned (.tuple #[.bool false, .int .i64 1]) ∧ Chg (fun _ => False) w w' := has_err M F n v x w (partOf_out M F n v x _ hx hw)

/-- Place, Clear, store: what Give meets behind partOf. -/
theorem give_last {Y : Nat → Prop} (M F n k : Nat) (u : Value) (g : Nat) (w w2 : World) (h : Tv Y w0 w pd pl q K f com pend N V) (hu : NewM w w2 u g (V (M + k / 4096))) (hb : Bt V M n T) (hp : Pr M F n K) (hk : k < n) (hT : T k = true) :
    Calls Tryz.prog 46 #[u, .int .i64 ((k % 4096 : Nat) : Int)] w2 fun e w3 => e = .returned (.bool true) ∧ Chg (fun b => b = g) w2 w3 ∧
      Hid (Calls Tryz.prog 37 #[PV M F n, .pointer (some ⟨q, 0, none⟩), .int .i64 ((k / 4096 : Nat) : Int), u] w3 fun e w4 => e = .returned (.int .i64 0) ∧ Hid (PTo Y w0 w pd pl q K f com pend N V M n (upd T k false) w4)) := by
  have hi := maps_lt hk
  have hin := hp.in'
  have hx := hb.by' (k / 4096) hi
  have hbit : bitN (V (M + k / 4096)) (k % 4096) = true := by rw [← hT, ← hb.bit _ hk]
  refine (clear_old g u (V (M + k / 4096)) (k % 4096) w2 hu.mp hx.1 (by rw [hx.2]; omega) (by rw [hx.2]; omega) hbit).mono ?_
  rintro e w3 ⟨rfl, hm, hc⟩
  have hu3 := hu.step hm (by rw [flipN_len]; exact hx.2) hc (fun _ h => h)
  refine ⟨rfl, hc, (store_any M (k / 4096) F n u g _ h hu3 (by omega)).mono ?_⟩
  rintro e w4 ⟨rfl, ht, hsm⟩
  refine ⟨rfl, _, ht, ?_, fun m hm => upd_other _ _ (by omega), (Sm.ofChg hu3.chg h.xlt).trans hsm⟩
  have e := hb.flip hk
  rw [hT] at e
  exact e
set_option maxHeartbeats 1600000 in
theorem give_ok (M F n k : Nat) (h : Tv X w0 w pd pl q K f com pend N V) (hp : Pr M F n K) (hb : Bt V M n T) (hk : k < n) (hT : T k = true) :
    Calls Tryz.prog 16 #[PV M F n, .pointer (some ⟨q, 0, none⟩), .int .i64 ((F + k : Nat) : Int)] w fun e w' => e = .returned (.int .i64 0) ∧ PTo X w0 w pd pl q K f com pend N V M n (upd T k false) w' := by
  have hbx := PAt.box w M F n
  have hc1 := Chg.alloc (fun _ => False) w (PO M F n)
  have h1 := h.add hc1
  have hlt := h1.xlt _ (box_in X w (PO M F n))
  have PO' : Hid _ := partOf_ok M F n k h1 hp hk
  have hF := hp.f
  have hn := hp.top
  have PL : Hid (∀ w : World, Calls Tryz.prog 42 #[PV M F n, .int .i64 ((F + k : Nat) : Int)] w fun e w' => e = .returned (.tuple #[.int .i64 ((k / 4096 : Nat) : Int), .int .i64 ((k % 4096 : Nat) : Int)]) ∧ w' = w.alloc (PO M F n)) := fun w => place_any M F n k w (by omega) hF
  have GL : Hid (∀ u g w2, NewM (w.alloc (PO M F n)) w2 u g (V (M + k / 4096)) → Calls Tryz.prog 46 #[u, .int .i64 ((k % 4096 : Nat) : Int)] w2 fun e w3 => e = .returned (.bool true) ∧ Chg (fun b => b = g) w2 w3 ∧
      Hid (Calls Tryz.prog 37 #[PV M F n, .pointer (some ⟨q, 0, none⟩), .int .i64 ((k / 4096 : Nat) : Int), u] w3 fun e w4 => e = .returned (.int .i64 0) ∧ Hid (PTo X w0 w pd pl q K f com pend N V M n (upd T k false) w4))) := fun u g w2 hu => (give_last M F n k u g _ w2 h1 hu hb hp hk hT).mono (by
    rintro e w3 ⟨rfl, c3, SR⟩
    refine ⟨rfl, c3, SR.out.mono ?_⟩
    rintro e w4 ⟨rfl, HO⟩
    exact ⟨rfl, HO.out.less (fun b hb => .inl hb) hc1 h.xlt⟩)
  clear h h1 hp hb hT hc1 hn hF hk
  generalize F + k = fk at *
  generalize k % 4096 = r at *
  generalize k / 4096 = i at *
  unfold PV PO at *
  go_enter Tryz.func16, Tryz.ntmps16
  go_wp2_with fail
  refine (show Calls _ _ _ _ _ from PO'.out).mono ?_
  clear PO'
  rintro e w2 ⟨u, g, rfl, hu⟩
  have hb2 := hbx.kept hu.chg (fun h => h)
  have p0 := hb2.c0
  have p1 := hb2.c1
  have p2 := hb2.c2
  have hne : ¬ w.heap.size = g := by have := hu.new; simp at this; omega
  have HU : Hid _ := hu
  clear hu hbx
  go_wp2_with fail
  refine (PL.out _).mono ?_
  clear PL
  rintro e w3 ⟨rfl, hw3⟩
  have hc3 : Chg (fun _ => False) w2 w3 := hw3 ▸ Chg.alloc (fun _ => False) w2 _
  have hb3 := hb2.kept hc3 (fun h => h)
  have CL : Hid _ := GL.out u g w3 (HU.out.more hc3)
  clear hb2 p0 p1 p2 hw3 hc3 GL HU
  go_wp2_with fail
  refine (show Calls _ _ _ _ _ from CL.out).mono ?_
  clear CL
  rintro e w4 ⟨rfl, c4, SR⟩
  have hb4 := hb3.kept c4 hne
  have q0 := hb4.c0
  have q1 := hb4.c1
  have q2 := hb4.c2
  clear c4 hb3 hb4 hne
  go_wp2_with fail
  refine SR.out.mono ?_
  clear SR
  rintro e w5 ⟨rfl, HO⟩
  go_wp2
  go_ret
  exact ⟨rfl, HO.out⟩
set_option maxHeartbeats 1600000 in
theorem give_free (M F n k : Nat) (h : Tv X w0 w pd pl q K f com pend N V) (hp : Pr M F n K) (hb : Bt V M n T) (hk : k < n) (hT : T k = false) :
    Calls Tryz.prog 16 #[PV M F n, .pointer (some ⟨q, 0, none⟩), .int .i64 ((F + k : Nat) : Int)] w fun e w' => e = .returned (.int .i64 1) ∧ Chg (fun _ => False) w w' := by
  have hbx := PAt.box w M F n
  have hc1 := Chg.alloc (fun _ => False) w (PO M F n)
  have h1 := h.more hc1
  have PO' : Hid _ := partOf_ok M F n k h1 hp hk
  have hF := hp.f
  have hn := hp.top
  have PL : Hid (∀ w : World, Calls Tryz.prog 42 #[PV M F n, .int .i64 ((F + k : Nat) : Int)] w fun e w' => e = .returned (.tuple #[.int .i64 ((k / 4096 : Nat) : Int), .int .i64 ((k % 4096 : Nat) : Int)]) ∧ w' = w.alloc (PO M F n)) := fun w => place_any M F n k w (by omega) hF
  have GL : Hid (∀ u g w2, NewM (w.alloc (PO M F n)) w2 u g (V (M + k / 4096)) → Calls Tryz.prog 46 #[u, .int .i64 ((k % 4096 : Nat) : Int)] w2 fun e w3 => e = .returned (.bool false) ∧ Hid (Chg (fun _ => False) w w3)) := fun u g w2 hu => by
    have hx := hb.by' (k / 4096) (maps_lt hk)
    refine (clear_not u _ ((k % 4096 : Nat) : Int) w2 hu.mp.bs hx.1 (by rw [hx.2]; omega) (by rw [bitI_nat, hb.bit _ hk, hT])).mono ?_
    rintro e w3 ⟨rfl, j, rfl⟩
    exact ⟨rfl, (hc1.trans hu.chg (fun _ _ h => h)).trans (Chg.drewN _ _ j) (fun _ _ h => h)⟩
  clear h h1 hp hb hT hc1 hn hF hk
  generalize F + k = fk at *
  generalize k % 4096 = r at *
  generalize k / 4096 = i at *
  unfold PV PO at *
  go_enter Tryz.func16, Tryz.ntmps16
  go_wp2_with fail
  refine (show Calls _ _ _ _ _ from PO'.out).mono ?_
  clear PO'
  rintro e w2 ⟨u, g, rfl, hu⟩
  have hb2 := hbx.kept hu.chg (fun h => h)
  have p0 := hb2.c0
  have p1 := hb2.c1
  have p2 := hb2.c2
  have HU : Hid _ := hu
  clear hu hbx
  go_wp2_with fail
  refine (PL.out _).mono ?_
  clear PL
  rintro e w3 ⟨rfl, hw3⟩
  have hc3 : Chg (fun _ => False) w2 w3 := hw3 ▸ Chg.alloc (fun _ => False) w2 _
  have CL : Hid _ := GL.out u g w3 (HU.out.more hc3)
  clear hb2 p0 p1 p2 hw3 hc3 GL HU
  go_wp2_with fail
  refine (show Calls _ _ _ _ _ from CL.out).mono ?_
  clear CL
  rintro e w4 ⟨rfl, HO⟩
  go_wp2
  go_ret
  exact ⟨rfl, HO.out⟩
set_option maxHeartbeats 1600000 in
theorem has_ok (M F n k : Nat) (h : Tv X w0 w pd pl q K f com pend N V) (hp : Pr M F n K) (hb : Bt V M n T) (hk : k < n) :
    Calls Tryz.prog 14 #[PV M F n, .pointer (some ⟨q, 0, none⟩), .int .i64 ((F + k : Nat) : Int)] w fun e w' => e = .returned (.tuple #[.bool (T k), .int .i64 0]) ∧ Chg (fun _ => False) w w' := by
  have hbx := PAt.box w M F n
  have hc1 := Chg.alloc (fun _ => False) w (PO M F n)
  have h1 := h.more hc1
  have PO' : Hid _ := partOf_ok M F n k h1 hp hk
  have hF := hp.f
  have hn := hp.top
  have PL : Hid (∀ w : World, Calls Tryz.prog 42 #[PV M F n, .int .i64 ((F + k : Nat) : Int)] w fun e w' => e = .returned (.tuple #[.int .i64 ((k / 4096 : Nat) : Int), .int .i64 ((k % 4096 : Nat) : Int)]) ∧ w' = w.alloc (PO M F n)) := fun w => place_any M F n k w (by omega) hF
  have GL : Hid (∀ u g w2, NewM (w.alloc (PO M F n)) w2 u g (V (M + k / 4096)) → Calls Tryz.prog 43 #[u, .int .i64 ((k % 4096 : Nat) : Int)] w2 fun e w3 => e = .returned (.bool (T k)) ∧ Hid (Chg (fun _ => False) w w3)) := fun u g w2 hu => by
    have hx := hb.by' (k / 4096) (maps_lt hk)
    refine (bhas_any u _ ((k % 4096 : Nat) : Int) w2 hu.mp.bs hx.1 (by rw [hx.2]; omega)).mono ?_
    rintro e w3 ⟨rfl, j, rfl⟩
    rw [bitI_nat, hb.bit _ hk]
    exact ⟨rfl, (hc1.trans hu.chg (fun _ _ h => h)).trans (Chg.drewN _ _ j) (fun _ _ h => h)⟩
  clear h h1 hp hb hc1 hn hF hk
  generalize T k = tk at *
  generalize F + k = fk at *
  generalize k % 4096 = r at *
  generalize k / 4096 = i at *
  unfold PV PO at *
  go_enter Tryz.func14, Tryz.ntmps14
  go_wp2_with fail
  refine (show Calls _ _ _ _ _ from PO'.out).mono ?_
  clear PO'
  rintro e w2 ⟨u, g, rfl, hu⟩
  have hb2 := hbx.kept hu.chg (fun h => h)
  have p0 := hb2.c0
  have p1 := hb2.c1
  have p2 := hb2.c2
  have HU : Hid _ := hu
  clear hu hbx
  go_wp2_with fail
  refine (PL.out _).mono ?_
  clear PL
  rintro e w3 ⟨rfl, hw3⟩
  have hc3 : Chg (fun _ => False) w2 w3 := hw3 ▸ Chg.alloc (fun _ => False) w2 _
  have CL : Hid _ := GL.out u g w3 (HU.out.more hc3)
  clear hb2 p0 p1 p2 hw3 hc3 GL HU
  go_wp2_with fail
  refine (show Calls _ _ _ _ _ from CL.out).mono ?_
  clear CL
  rintro e w4 ⟨rfl, HO⟩
  go_wp2
  go_ret2
  exact ⟨rfl, HO.out⟩
end
end Go.Proofs.YtdcmcgdalanjjaaGreat

namespace Go.Proofs.YtdcmcgdalanjjaaGreat
open Go.RowKit Go.Maps

section
variable {X Y : Nat → Prop} {w0 w w1 ws : World} {pd pl q K : Nat} {f : Nat → List Int} {com : Nat → Option (List Int)} {pend N : Nat} {V : Nat → List Int} {T : Nat → Bool}
set_option maxHeartbeats 1600000 in
theorem each_claim (M F : Int) (n : Nat) (b0 b1 : Nat) (I : Nat → World → Prop) (w : World) (h1 : 1 ≤ n) (h2 : n ≤ 16384) (_h0 : I 0 w) (hI : ∀ w', Chg (fun _ => False) w w' → I 0 w')
    (hstep : ∀ i w, i < mapsN n → I i w → Calls Tryz.prog 72 #[.int .i64 (i : Int), .pointer (some ⟨b0, 0, none⟩), .pointer (some ⟨b1, 0, none⟩)] w fun e w' => e = .returned (.int .i64 0) ∧ I (i + 1) w') :
    Calls Tryz.prog 38 #[PV M F n, .func (.func 72) #[] #[.pointer (some ⟨b0, 0, none⟩), .pointer (some ⟨b1, 0, none⟩)]] w fun e w' => e = .returned (.int .i64 0) ∧ I (mapsN n) w' := by
  have MP : Hid (∀ w : World, Calls Tryz.prog 10 #[PV M F n] w fun e w' => e = .returned (.int .i64 (mapsN n : Int)) ∧ w' = w.alloc (PO M F n)) := fun w => maps_yes M F n w h1 h2
  have hm4 := mapsN_le h2
  obtain ⟨m, hm⟩ : ∃ m, mapsN n = m := ⟨_, rfl⟩
  rw [hm] at MP hm4 hstep ⊢
  have HI : Hid (∀ w', Chg (fun _ => False) w w' → I 0 w') := hI
  have HS : Hid (∀ i w, i < m → I i w → Calls Tryz.prog 72 #[.int .i64 (i : Int), .pointer (some ⟨b0, 0, none⟩), .pointer (some ⟨b1, 0, none⟩)] w fun e w' => e = .returned (.int .i64 0) ∧ I (i + 1) w') := hstep
  clear _h0 hI hstep hm
  unfold PV PO at *
  go_enter Tryz.func38, Tryz.ntmps38
  go_wp2_with fail
  refine (MP.out _).mono ?_
  clear MP
  rintro e w3 ⟨rfl, hw3⟩
  have H3 : Hid (I 0 w3) := HI.out w3 ((Chg.alloc (fun _ => False) w _).trans (hw3 ▸ Chg.alloc (fun _ => False) _ _) (fun _ _ h => h))
  clear hw3 HI
  go_wp2
  go_loopw [9] (fun x wr => ∃ i, i ≤ m ∧ x = .int .i64 ((i : Nat) : Int) ∧ Hid (I i wr)) (fun x _ => m - (intOf x).toNat)
  case atStart => exact ⟨0, by omega, rfl, H3⟩
  case round =>
    obtain ⟨i, hi, rfl, HR⟩ := hrel
    clear H3
    by_cases him : i < m
    · have kim : (i : Int) < (m : Int) := by omega
      go_wp2_with fail
      refine (HS.out i wr him HR.out).mono ?_
      rintro e w4 ⟨rfl, h4⟩
      have H4 : Hid (I (i + 1) w4) := h4
      clear h4 HR
      go_wp2
      go_roundw
      case rel => exact ⟨i + 1, by omega, by go_num, H4⟩
      case measure => simp [intOf]; omega
    · have kim : ¬ ((i : Int) < (m : Int)) := by omega
      obtain rfl : i = m := by omega
      go_wp2
      go_ret
      exact ⟨rfl, HR.out⟩
set_option maxHeartbeats 1600000 in
theorem each_clear (M F : Int) (n : Nat) (b0 b1 : Nat) (I : Nat → World → Prop) (w : World) (h1 : 1 ≤ n) (h2 : n ≤ 16384) (_h0 : I 0 w) (hI : ∀ w', Chg (fun _ => False) w w' → I 0 w')
    (hstep : ∀ i w, i < mapsN n → I i w → Calls Tryz.prog 45 #[.int .i64 (i : Int), .pointer (some ⟨b0, 0, none⟩), .pointer (some ⟨b1, 0, none⟩)] w fun e w' => e = .returned (.int .i64 0) ∧ I (i + 1) w') :
    Calls Tryz.prog 38 #[PV M F n, .func (.func 45) #[] #[.pointer (some ⟨b0, 0, none⟩), .pointer (some ⟨b1, 0, none⟩)]] w fun e w' => e = .returned (.int .i64 0) ∧ I (mapsN n) w' := by
  have MP : Hid (∀ w : World, Calls Tryz.prog 10 #[PV M F n] w fun e w' => e = .returned (.int .i64 (mapsN n : Int)) ∧ w' = w.alloc (PO M F n)) := fun w => maps_yes M F n w h1 h2
  have hm4 := mapsN_le h2
  obtain ⟨m, hm⟩ : ∃ m, mapsN n = m := ⟨_, rfl⟩
  rw [hm] at MP hm4 hstep ⊢
  have HI : Hid (∀ w', Chg (fun _ => False) w w' → I 0 w') := hI
  have HS : Hid (∀ i w, i < m → I i w → Calls Tryz.prog 45 #[.int .i64 (i : Int), .pointer (some ⟨b0, 0, none⟩), .pointer (some ⟨b1, 0, none⟩)] w fun e w' => e = .returned (.int .i64 0) ∧ I (i + 1) w') := hstep
  clear _h0 hI hstep hm
  unfold PV PO at *
  go_enter Tryz.func38, Tryz.ntmps38
  go_wp2_with fail
  refine (MP.out _).mono ?_
  clear MP
  rintro e w3 ⟨rfl, hw3⟩
  have H3 : Hid (I 0 w3) := HI.out w3 ((Chg.alloc (fun _ => False) w _).trans (hw3 ▸ Chg.alloc (fun _ => False) _ _) (fun _ _ h => h))
  clear hw3 HI
  go_wp2
  go_loopw [9] (fun x wr => ∃ i, i ≤ m ∧ x = .int .i64 ((i : Nat) : Int) ∧ Hid (I i wr)) (fun x _ => m - (intOf x).toNat)
  case atStart => exact ⟨0, by omega, rfl, H3⟩
  case round =>
    obtain ⟨i, hi, rfl, HR⟩ := hrel
    clear H3
    by_cases him : i < m
    · have kim : (i : Int) < (m : Int) := by omega
      go_wp2_with fail
      refine (HS.out i wr him HR.out).mono ?_
      rintro e w4 ⟨rfl, h4⟩
      have H4 : Hid (I (i + 1) w4) := h4
      clear h4 HR
      go_wp2
      go_roundw
      case rel => exact ⟨i + 1, by omega, by go_num, H4⟩
      case measure => simp [intOf]; omega
    · have kim : ¬ ((i : Int) < (m : Int)) := by omega
      obtain rfl : i = m := by omega
      go_wp2
      go_ret
      exact ⟨rfl, HR.out⟩
set_option maxHeartbeats 1600000 in
theorem each_free (M F : Int) (n : Nat) (b0 b1 b2 : Nat) (I : Nat → World → Prop) (w : World) (h1 : 1 ≤ n) (h2 : n ≤ 16384) (_h0 : I 0 w) (hI : ∀ w', Chg (fun _ => False) w w' → I 0 w')
    (hstep : ∀ i w, i < mapsN n → I i w → Calls Tryz.prog 39 #[.int .i64 (i : Int), .pointer (some ⟨b0, 0, none⟩), .pointer (some ⟨b1, 0, none⟩), .pointer (some ⟨b2, 0, none⟩)] w fun e w' => e = .returned (.int .i64 0) ∧ I (i + 1) w') :
    Calls Tryz.prog 38 #[PV M F n, .func (.func 39) #[] #[.pointer (some ⟨b0, 0, none⟩), .pointer (some ⟨b1, 0, none⟩), .pointer (some ⟨b2, 0, none⟩)]] w fun e w' => e = .returned (.int .i64 0) ∧ I (mapsN n) w' := by
  have MP : Hid (∀ w : World, Calls Tryz.prog 10 #[PV M F n] w fun e w' => e = .returned (.int .i64 (mapsN n : Int)) ∧ w' = w.alloc (PO M F n)) := fun w => maps_yes M F n w h1 h2
  have hm4 := mapsN_le h2
  obtain ⟨m, hm⟩ : ∃ m, mapsN n = m := ⟨_, rfl⟩
  rw [hm] at MP hm4 hstep ⊢
  have HI : Hid (∀ w', Chg (fun _ => False) w w' → I 0 w') := hI
  have HS : Hid (∀ i w, i < m → I i w → Calls Tryz.prog 39 #[.int .i64 (i : Int), .pointer (some ⟨b0, 0, none⟩), .pointer (some ⟨b1, 0, none⟩), .pointer (some ⟨b2, 0, none⟩)] w fun e w' => e = .returned (.int .i64 0) ∧ I (i + 1) w') := hstep
  clear _h0 hI hstep hm
  unfold PV PO at *
  go_enter Tryz.func38, Tryz.ntmps38
  go_wp2_with fail
  refine (MP.out _).mono ?_
  clear MP
  rintro e w3 ⟨rfl, hw3⟩
  have H3 : Hid (I 0 w3) := HI.out w3 ((Chg.alloc (fun _ => False) w _).trans (hw3 ▸ Chg.alloc (fun _ => False) _ _) (fun _ _ h => h))
  clear hw3 HI
  go_wp2
  go_loopw [9] (fun x wr => ∃ i, i ≤ m ∧ x = .int .i64 ((i : Nat) : Int) ∧ Hid (I i wr)) (fun x _ => m - (intOf x).toNat)
  case atStart => exact ⟨0, by omega, rfl, H3⟩
  case round =>
    obtain ⟨i, hi, rfl, HR⟩ := hrel
    clear H3
    by_cases him : i < m
    · have kim : (i : Int) < (m : Int) := by omega
      go_wp2_with fail
      refine (HS.out i wr him HR.out).mono ?_
      rintro e w4 ⟨rfl, h4⟩
      have H4 : Hid (I (i + 1) w4) := h4
      clear h4 HR
      go_wp2
      go_roundw
      case rel => exact ⟨i + 1, by omega, by go_num, H4⟩
      case measure => simp [intOf]; omega
    · have kim : ¬ ((i : Int) < (m : Int)) := by omega
      obtain rfl : i = m := by omega
      go_wp2
      go_ret
      exact ⟨rfl, HR.out⟩
end
end Go.Proofs.YtdcmcgdalanjjaaGreat

namespace Go.Proofs.YtdcmcgdalanjjaaGreat
open Go.RowKit Go.Maps

section
variable {X Y : Nat → Prop} {w0 w w1 ws : World} {pd pl q K : Nat} {f : Nat → List Int} {com : Nat → Option (List Int)} {pend N : Nat} {V : Nat → List Int} {T : Nat → Bool}
/-- A pool and a transaction in boxes. -/
structure Cap (w : World) (B D : Nat) (M F n : Int) (q : Nat) : Prop where
  p : PAt w B M F n
  t : w.cell? ⟨D, 0, none⟩ = some (.pointer (some ⟨q, 0, none⟩))
theorem Cap.kept {S : Nat → Prop} {w w' : World} {B D q : Nat} {M F n : Int} (h : Cap w B D M F n q) (hc : Chg S w w') (hB : ¬ S B) (hD : ¬ S D) : Cap w' B D M F n q := ⟨h.p.kept hc hB, hc.cell h.t hD⟩
theorem Cap.sm {w w' : World} {B D q : Nat} {M F n : Int} (h : Cap w B D M F n q) (hs : Sm Y w w') (hB : Y B) (hD : Y D) : Cap w' B D M F n q := ⟨h.p.sm hs hB, hs.cell h.t hD⟩
/-- The two boxes of a call. -/
def TO (q : Nat) : Obj := .cells #[.pointer (some ⟨q, 0, none⟩)] 27
theorem Cap.box (w : World) (M F n : Int) (q : Nat) : Cap ((w.alloc (PO M F n)).alloc (TO q)) w.heap.size (w.heap.size + 1) M F n q := by
  refine ⟨(PAt.box w M F n).kept (Chg.alloc (fun _ => False) _ _) (fun h => h), ?_⟩
  unfold TO
  rw [World.cell?_alloc_at _ _ _ _ (by simp)]; rfl
theorem boxes_chg (w : World) (M F n : Int) (q : Nat) : Chg (fun _ => False) w ((w.alloc (PO M F n)).alloc (TO q)) := (Chg.alloc (fun _ => False) w _).trans (Chg.alloc (fun _ => False) _ _) (fun _ _ h => h)

theorem upd_id (V : Nat → List Int) (n : Nat) : upd V n (V n) = V := by
  funext k
  by_cases e : k = n
  · subst e; rw [upd_same]
  · rw [upd_other _ _ e]
theorem claim1_any (M F n i B D : Nat) (h : Tv Y w0 w pd pl q K f com pend N V) (hc : Cap w B D M F n q) (hi : M + i < K) :
    Calls Tryz.prog 72 #[.int .i64 (i : Int), .pointer (some ⟨B, 0, none⟩), .pointer (some ⟨D, 0, none⟩)] w fun e w' => e = .returned (.int .i64 0) ∧ Tv Y w0 w' pd pl q K f com pend N V ∧ Sm Y w w' := by
  have PT : Hid (Calls Tryz.prog 33 #[PV M F n, .pointer (some ⟨q, 0, none⟩), .int .i64 (i : Int)] w fun e w2 => ∃ u, e = .returned (.tuple #[u, .int .i64 0]) ∧ Cap w2 B D M F n q ∧
      Hid (Calls Tryz.prog 37 #[PV M F n, .pointer (some ⟨q, 0, none⟩), .int .i64 (i : Int), u] w2 fun e w' => e = .returned (.int .i64 0) ∧ Hid (Tv Y w0 w' pd pl q K f com pend N V ∧ Sm Y w w'))) := by
    refine (part_any M i F n h hi).mono ?_
    rintro e w2 ⟨u, g, rfl, hu⟩
    refine ⟨u, rfl, hc.kept hu.chg (fun h => h) (fun h => h), (store_any M i F n u g _ h hu hi).mono ?_⟩
    rintro e w3 ⟨rfl, ht, hs⟩
    rw [upd_id] at ht
    exact ⟨rfl, ht, (Sm.ofChg hu.chg h.xlt).trans hs⟩
  have p0 := hc.p.c0
  have p1 := hc.p.c1
  have p2 := hc.p.c2
  have p3 := hc.t
  clear h hc
  unfold PV at PT
  go_enter Tryz.func72, Tryz.ntmps72
  go_wp2_with fail
  refine PT.out.mono ?_
  clear PT
  rintro e w2 ⟨u, rfl, hc2, SR⟩
  have q0 := hc2.p.c0
  have q1 := hc2.p.c1
  have q2 := hc2.p.c2
  have q3 := hc2.t
  clear hc2
  go_wp2_with fail
  refine SR.out.mono ?_
  clear SR
  rintro e w3 ⟨rfl, HT⟩
  go_wp2
  go_ret
  exact ⟨rfl, HT.out⟩
theorem claim_any (M F n : Nat) (h : Tv X w0 w pd pl q K f com pend N V) (hp : Pr M F n K) :
    Calls Tryz.prog 44 #[PV M F n, .pointer (some ⟨q, 0, none⟩)] w fun e w' => e = .returned (.int .i64 0) ∧ Tv X w0 w' pd pl q K f com pend N V ∧ Sm X w w' := by
  have hmf : ∀ (fn : Fn) (first cap : Array Value) (w : World), (Instr.makeFunc fn first cap).run Tryz.prog w = .ok (.func fn first cap) w := fun _ _ _ _ => rfl
  have cb := boxes_chg w M F n q
  have h1 := h.add cb
  have c1 := Cap.box w M F n q
  have EA : Hid (Calls Tryz.prog 38 #[PV M F n, .func (.func 72) #[] #[.pointer (some ⟨w.heap.size, 0, none⟩), .pointer (some ⟨w.heap.size + 1, 0, none⟩)]] ((w.alloc (PO M F n)).alloc (TO q)) fun e w' => e = .returned (.int .i64 0) ∧ Hid (Tv X w0 w' pd pl q K f com pend N V ∧ Sm X w w')) := by
    generalize hws : (w.alloc (PO M F n)).alloc (TO q) = ws at *
    have hz : ws.heap.size = w.heap.size + 2 := by rw [← hws]; simp
    rw [hz] at h1
    obtain ⟨Y, hY⟩ : ∃ Y, addX X w.heap.size (w.heap.size + 2) = Y := ⟨_, rfl⟩
    have y0 : Y w.heap.size := hY ▸ .inr ⟨Nat.le_refl _, by omega⟩
    have y1 : Y (w.heap.size + 1) := hY ▸ .inr ⟨by omega, by omega⟩
    have yx : ∀ b, X b → Y b := fun b hb => hY ▸ .inl hb
    rw [hY] at h1
    refine (each_claim M F n w.heap.size (w.heap.size + 1) (fun _ w' => Tv Y w0 w' pd pl q K f com pend N V ∧ Cap w' w.heap.size (w.heap.size + 1) M F n q ∧ Sm Y ws w') ws hp.one hp.top ⟨h1, c1, fun _ _ => rfl⟩ (fun w' hc => ⟨h1.more hc, c1.kept hc (fun h => h) (fun h => h), Sm.ofChg hc h1.xlt⟩) ?_).mono ?_
    · rintro i w' hi ⟨ht, hcp, hs⟩
      refine (claim1_any M F n i _ _ ht hcp (by have := hp.in'; omega)).mono ?_
      rintro e w'' ⟨rfl, ht2, hs2⟩
      exact ⟨rfl, ht2, hcp.sm hs2 y0 y1, hs.trans hs2⟩
    · rintro e w' ⟨rfl, ht, _, hs⟩
      exact ⟨rfl, ht.less yx, (Sm.ofChg cb h.xlt).trans (fun b hb => hs b (yx b hb))⟩
  have p0 := c1.p.c0
  have p1 := c1.p.c1
  have p2 := c1.p.c2
  clear h h1 hp cb c1
  unfold PV PO TO at *
  go_enter Tryz.func44, Tryz.ntmps44
  go_wp2_with fail
  refine EA.out.mono ?_
  clear EA
  rintro e w' ⟨rfl, HT⟩
  go_wp2
  go_ret
  exact ⟨rfl, HT.out⟩

theorem bcells_nth {xs : List Int} {j : Nat} (h : j < xs.length) : (bcells xs)[j]? = some (.int .u8 (xs.getD j 0)) := by simp [bcells, List.getD, h]
theorem info5_parts : ∃ i, Tryz.prog.info? 5 = some i ∧ i.zero = some (.int .u8 0) ∧ i.size = 1 ∧ i.bytes = 1 := info_parts info5
/-- A block of bytes 0, as it is made. -/
theorem make512 : ∃ o : Obj, (∀ w : World, (Instr.makeSlice 64 (.int .i64 512) (.int .i64 512)).run Tryz.prog w = .ok (.slice (some ⟨w.heap.size, 0, none⟩) 512 512) (w.alloc o)) ∧ ∀ w : World, NewM w (w.alloc o) (.slice (some ⟨w.heap.size, 0, none⟩) 512 512) w.heap.size (zeros 512) := by
  obtain ⟨i0, hi, hz0, hz1, hz2⟩ := info5_parts
  refine ⟨.cells (madeCells (Value.int .u8 0).cells (512 * 1)) 5, fun w => ?_, fun w => ?_⟩
  · have := run_make (P := Tryz.prog) w 64 5 i0 (.int .u8 0) Tryz.underlying64 hi hz0 .i64 .i64 512 512 (by decide) (by decide) (by rw [hz2]; decide) (by decide)
    rw [hz1] at this
    exact this
  · refine ⟨.inr ⟨512, _, 5, by rw [zeros_len], heap_alloc_new _ _, by rw [zeros_len]; exact Nat.le_refl _, by unfold maxLen; decide, fun j hj => ?_⟩, Chg.alloc _ _ _, Nat.le_refl _, zeros_len 512, 512, rfl⟩
    rw [← Array.getElem?_toList, made_bytes]
    exact bcells_nth hj
set_option maxHeartbeats 1600000 in
theorem clear1_any (M F n i B D : Nat) (h : Tv Y w0 w pd pl q K f com pend N V) (hc : Cap w B D M F n q) (hi : M + i < K) :
    Calls Tryz.prog 45 #[.int .i64 (i : Int), .pointer (some ⟨B, 0, none⟩), .pointer (some ⟨D, 0, none⟩)] w fun e w' => e = .returned (.int .i64 0) ∧ Tv Y w0 w' pd pl q K f com pend N (upd V (M + i) (zeros 512)) ∧ Sm Y w w' := by
  obtain ⟨o, hmk, hnew⟩ := make512
  have SR : Hid (∀ w1 : World, w1 = (w.alloc o).drew ∨ w1 = w.drew.alloc o → Calls Tryz.prog 37 #[PV M F n, .pointer (some ⟨q, 0, none⟩), .int .i64 (i : Int), .slice (some ⟨w.heap.size, 0, none⟩) 512 512] w1 fun e w' => e = .returned (.int .i64 0) ∧ Hid (Tv Y w0 w' pd pl q K f com pend N (upd V (M + i) (zeros 512)) ∧ Sm Y w w')) := fun w1 hw1 => by
    have hn : NewM w w1 (.slice (some ⟨w.heap.size, 0, none⟩) 512 512) w.heap.size (zeros 512) := by
      rcases hw1 with rfl | rfl
      · exact (hnew w).more (Chg.drew (fun _ => False) _)
      · have hh := hnew w.drew
        exact ⟨hh.mp, (Chg.drew (fun _ => False) w).trans hh.chg (fun _ _ h => h), hh.new, hh.len, hh.form⟩
    refine (store_any M i F n _ _ _ h hn hi).mono ?_
    rintro e w3 ⟨rfl, ht, hs⟩
    exact ⟨rfl, ht, (Sm.ofChg hn.chg h.xlt).trans hs⟩
  have p0 := hc.p.c0
  have p1 := hc.p.c1
  have p2 := hc.p.c2
  have p3 := hc.t
  have pa := fun o => hc.kept (Chg.alloc (fun _ => False) w o) (fun h => h) (fun h => h)
  have q0 := fun o => (pa o).p.c0
  have q1 := fun o => (pa o).p.c1
  have q2 := fun o => (pa o).p.c2
  have q3 := fun o => (pa o).t
  clear h hc hnew pa
  unfold PV at SR
  go_enter Tryz.func45, Tryz.ntmps45
  go_wp2_with fail
  go_region_with (first | (go_at_call 37; refine (SR.out _ (by first | exact .inl rfl | exact .inr rfl)).mono ?_; rintro e w3 ⟨rfl, HT⟩))
  all_goals
    go_wp2
    go_ret
    exact ⟨rfl, HT.out⟩
end
end Go.Proofs.YtdcmcgdalanjjaaGreat

namespace Go.Proofs.YtdcmcgdalanjjaaGreat
open Go.RowKit Go.Maps

section
variable {X Y : Nat → Prop} {w0 w w1 ws : World} {pd pl q K : Nat} {f : Nat → List Int} {com : Nat → Option (List Int)} {pend N : Nat} {V : Nat → List Int} {T : Nat → Bool}
set_option maxHeartbeats 1600000 in
theorem pclear_ok (M F n : Nat) (h : Tv X w0 w pd pl q K f com pend N V) (hp : Pr M F n K) :
    Calls Tryz.prog 15 #[PV M F n, .pointer (some ⟨q, 0, none⟩)] w fun e w' => e = .returned (.int .i64 0) ∧ PTo X w0 w pd pl q K f com pend N V M n (fun _ => false) w' := by
  have hmf : ∀ (fn : Fn) (first cap : Array Value) (w : World), (Instr.makeFunc fn first cap).run Tryz.prog w = .ok (.func fn first cap) w := fun _ _ _ _ => rfl
  have cb := boxes_chg w M F n q
  have h1 := h.add cb
  have c1 := Cap.box w M F n q
  have ALL : Hid (Calls Tryz.prog 32 #[PV M F n, .pointer (some ⟨q, 0, none⟩)] ((w.alloc (PO M F n)).alloc (TO q)) fun e w2 => e = .returned (.int .i64 0) ∧ Cap w2 w.heap.size (w.heap.size + 1) M F n q ∧
      Hid (Calls Tryz.prog 44 #[PV M F n, .pointer (some ⟨q, 0, none⟩)] w2 fun e w3 => e = .returned (.int .i64 0) ∧ Cap w3 w.heap.size (w.heap.size + 1) M F n q ∧
        Hid (Calls Tryz.prog 38 #[PV M F n, .func (.func 45) #[] #[.pointer (some ⟨w.heap.size, 0, none⟩), .pointer (some ⟨w.heap.size + 1, 0, none⟩)]] w3 fun e w' => e = .returned (.int .i64 0) ∧ Hid (PTo X w0 w pd pl q K f com pend N V M n (fun _ => false) w')))) := by
    generalize hws : (w.alloc (PO M F n)).alloc (TO q) = ws at *
    have hz : ws.heap.size = w.heap.size + 2 := by rw [← hws]; simp
    rw [hz] at h1
    obtain ⟨Y, hY⟩ : ∃ Y, addX X w.heap.size (w.heap.size + 2) = Y := ⟨_, rfl⟩
    have y0 : Y w.heap.size := hY ▸ .inr ⟨Nat.le_refl _, by omega⟩
    have y1 : Y (w.heap.size + 1) := hY ▸ .inr ⟨by omega, by omega⟩
    have yx : ∀ b, X b → Y b := fun b hb => hY ▸ .inl hb
    rw [hY] at h1
    refine (stands_ok M F n h1 hp.f hp.one hp.top hp.in').mono ?_
    rintro e w2 ⟨rfl, hc2⟩
    have c2 := c1.kept hc2 (fun h => h) (fun h => h)
    have h2 := h1.more hc2
    refine ⟨rfl, c2, (claim_any M F n h2 hp).mono ?_⟩
    rintro e w3 ⟨rfl, h3, s3⟩
    have c3 := c2.sm s3 y0 y1
    refine ⟨rfl, c3, ?_⟩
    have s03 : Sm X w w3 := (Sm.ofChg cb h.xlt).trans (fun b hb => ((Sm.ofChg hc2 h1.xlt).trans s3) b (yx b hb))
    refine (each_clear M F n w.heap.size (w.heap.size + 1) (fun i w' => ∃ V', Tv Y w0 w' pd pl q K f com pend N V' ∧ (∀ j, j < i → V' (M + j) = zeros 512) ∧ (∀ m, (m < M ∨ M + mapsN n ≤ m) → V' m = V m) ∧ Cap w' w.heap.size (w.heap.size + 1) M F n q ∧ Sm Y w3 w') w3 hp.one hp.top
      ⟨V, h3, fun j hj => by omega, fun _ _ => rfl, c3, fun _ _ => rfl⟩ (fun w' hc => ⟨V, h3.more hc, fun j hj => by omega, fun _ _ => rfl, c3.kept hc (fun h => h) (fun h => h), Sm.ofChg hc h3.xlt⟩) ?_).mono ?_
    · rintro i w' hi ⟨V', ht, hz, he, hcp, hs⟩
      refine (clear1_any M F n i _ _ ht hcp (by have := hp.in'; omega)).mono ?_
      rintro e w'' ⟨rfl, ht2, hs2⟩
      refine ⟨rfl, _, ht2, fun j hj => ?_, fun m hm => ?_, hcp.sm hs2 y0 y1, hs.trans hs2⟩
      · by_cases e : j = i
        · subst e; rw [upd_same]
        · rw [upd_other _ _ (by omega)]; exact hz j (by omega)
      · rw [upd_other _ _ (by omega)]; exact he m hm
    · rintro e w' ⟨rfl, V', ht, hz, he, _, hs⟩
      exact ⟨rfl, V', ht.less yx, Bt.zero hz, he, s03.trans (fun b hb => hs b (yx b hb))⟩
  have p0 := c1.p.c0
  have p1 := c1.p.c1
  have p2 := c1.p.c2
  have p3 := c1.t
  clear h h1 hp cb c1
  unfold PV PO TO at *
  go_enter Tryz.func15, Tryz.ntmps15
  go_wp2_with fail
  refine ALL.out.mono ?_
  clear ALL
  rintro e w2 ⟨rfl, c2, CL⟩
  have q0 := c2.p.c0
  have q1 := c2.p.c1
  have q2 := c2.p.c2
  have q3 := c2.t
  clear c2
  go_wp2_with fail
  refine CL.out.mono ?_
  clear CL
  rintro e w3 ⟨rfl, c3, EA⟩
  have r0 := c3.p.c0
  have r1 := c3.p.c1
  have r2 := c3.p.c2
  have r3 := c3.t
  clear c3
  go_wp2_with fail
  refine EA.out.mono ?_
  clear EA
  rintro e w4 ⟨rfl, HT⟩
  go_wp2
  go_ret
  exact ⟨rfl, HT.out⟩
theorem pclear_no (M F n : Int) (h : Tv X w0 w pd pl q K f com pend N V) (hw : M ≤ 9223372036854775807) (hr : ¬ (0 ≤ M ∧ 0 ≤ F ∧ F ≤ 1073741824 ∧ 1 ≤ n ∧ n ≤ 16384 ∧ M + (mapsN n.toNat : Int) ≤ (K : Int))) :
    Calls Tryz.prog 15 #[PV M F n, .pointer (some ⟨q, 0, none⟩)] w fun e w' => e = .returned (.int .i64 1) ∧ Chg (fun _ => False) w w' := by
  have cb := boxes_chg w M F n q
  have c1 := Cap.box w M F n q
  have ST : Hid (Calls Tryz.prog 32 #[PV M F n, .pointer (some ⟨q, 0, none⟩)] ((w.alloc (PO M F n)).alloc (TO q)) fun e w2 => e = .returned (.int .i64 1) ∧ Hid (Chg (fun _ => False) w w2)) := (stands_no M F n (h.more cb) hw hr).mono (by
    rintro e w2 ⟨rfl, hc⟩
    exact ⟨rfl, cb.trans hc (fun _ _ h => h)⟩)
  have p0 := c1.p.c0
  have p1 := c1.p.c1
  have p2 := c1.p.c2
  have p3 := c1.t
  clear h hr hw cb c1
  unfold PV PO TO at *
  go_enter Tryz.func15, Tryz.ntmps15
  go_wp2_with fail
  refine ST.out.mono ?_
  clear ST
  rintro e w2 ⟨rfl, HC⟩
  go_wp2
  go_ret
  exact ⟨rfl, HC.out⟩
theorem take_no (M F n : Int) (h : Tv X w0 w pd pl q K f com pend N V) (hw : M ≤ 9223372036854775807) (hr : ¬ (0 ≤ M ∧ 0 ≤ F ∧ F ≤ 1073741824 ∧ 1 ≤ n ∧ n ≤ 16384 ∧ M + (mapsN n.toNat : Int) ≤ (K : Int))) :
    Calls Tryz.prog 12 #[PV M F n, .pointer (some ⟨q, 0, none⟩)] w fun e w' => e = .returned (.tuple #[.int .i64 0, .int .i64 1]) ∧ Chg (fun _ => False) w w' := by
  have cb := Chg.alloc (fun _ => False) w (PO M F n)
  have ST : Hid (Calls Tryz.prog 32 #[PV M F n, .pointer (some ⟨q, 0, none⟩)] (w.alloc (PO M F n)) fun e w2 => e = .returned (.int .i64 1) ∧ Hid (Chg (fun _ => False) w w2)) := (stands_no M F n (h.more cb) hw hr).mono (by
    rintro e w2 ⟨rfl, hc⟩
    exact ⟨rfl, cb.trans hc (fun _ _ h => h)⟩)
  clear h hr hw cb
  unfold PV PO at *
  go_enter Tryz.func12, Tryz.ntmps12
  go_wp2_with fail
  refine ST.out.mono ?_
  clear ST
  rintro e w2 ⟨rfl, HC⟩
  go_wp2
  go_ret2
  exact ⟨rfl, HC.out⟩
theorem free_no (M F n : Int) (h : Tv X w0 w pd pl q K f com pend N V) (hw : M ≤ 9223372036854775807) (hr : ¬ (0 ≤ M ∧ 0 ≤ F ∧ F ≤ 1073741824 ∧ 1 ≤ n ∧ n ≤ 16384 ∧ M + (mapsN n.toNat : Int) ≤ (K : Int))) :
    Calls Tryz.prog 13 #[PV M F n, .pointer (some ⟨q, 0, none⟩)] w fun e w' => e = .returned (.tuple #[.int .i64 0, .int .i64 1]) ∧ Chg (fun _ => False) w w' := by
  have cb := boxes_chg w M F n q
  have c1 := Cap.box w M F n q
  have ST : Hid (Calls Tryz.prog 32 #[PV M F n, .pointer (some ⟨q, 0, none⟩)] ((w.alloc (PO M F n)).alloc (TO q)) fun e w2 => e = .returned (.int .i64 1) ∧ Hid (Chg (fun _ => False) w w2)) := (stands_no M F n (h.more cb) hw hr).mono (by
    rintro e w2 ⟨rfl, hc⟩
    exact ⟨rfl, cb.trans hc (fun _ _ h => h)⟩)
  have p0 := c1.p.c0
  have p1 := c1.p.c1
  have p2 := c1.p.c2
  have p3 := c1.t
  clear h hr hw cb c1
  unfold PV PO TO at *
  go_enter Tryz.func13, Tryz.ntmps13
  go_wp2_with fail
  refine ST.out.mono ?_
  clear ST
  rintro e w2 ⟨rfl, HC⟩
  go_wp2
  go_ret2
  exact ⟨rfl, HC.out⟩
end
end Go.Proofs.YtdcmcgdalanjjaaGreat
