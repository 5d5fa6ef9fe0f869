/-
  Any act of the play with the power going; all, true or false.
-/
import Derived.Test.YtmlhjcjonfalhaaGreatCCopy
import Derived.Test.YtmlhjcjonfalhaaGreatRef5
namespace Go.Proofs.YtmlhjcjonfalhaaGreat.C
open Go.RowKit Go.Maps

theorem str_ne2 {a b : ByteArray} (h : a ≠ b) : (a.toList == b.toList) = false := by
  cases hb : (a.toList == b.toList) with
  | false => rfl
  | true =>
    exfalso
    apply h
    have h2 : a.toList = b.toList := by simpa using hb
    rw [ByteArray.toList_eq, ByteArray.toList_eq] at h2
    cases a; cases b
    congr
    simpa using h2
section
variable {T : (Nat → List Int) → (Nat → Option (List Int)) → Nat → Prop} {Y : Nat → Prop} {wY : World} {dv mv cv : Value} {X : Nat → Prop} {w0 w w' : World} {pd pp pl q pr g : Nat} {tv : Value} {R : Rf} {lb lc db dc nb nc : Nat} {nv : Value} {f f' : Nat → List Int} {com own com' : Nat → Option (List Int)} {pend wrote N k : Nat} {live : Bool}
theorem pstep_any (d : ActD) (w : World) (h : Pl T Y wY dv mv cv w0 w pd pp k) (hk : k < 1000) (hb : Bs w0 d.bv d.bs) (hl : d.bs.length ≤ 64) (hw : -9223372036854775808 ≤ d.n ∧ d.n ≤ 9223372036854775807) :
    Calls Tryz.prog 56 #[.pointer (some ⟨pp, 1, none⟩), .agg #[.int .i64 d.op, .int .i64 d.n, d.bv]] w fun e w' => AcTo T Y wY dv mv cv w0 pd pp (k + 1) e w' := by
  obtain ⟨op, n, bv, bs⟩ := d
  show Calls Tryz.prog 56 #[.pointer (some ⟨pp, 1, none⟩), .agg #[.int .i64 op, .int .i64 n, bv]] w fun e w' => AcTo T Y wY dv mv cv w0 pd pp (k + 1) e w'
  have fin : ∀ {a : Array Value}, (Calls Tryz.prog 56 a w fun e w' => e = .returned (.bool true) ∧ Pl T Y wY dv mv cv w0 w' pd pp (k + 1)) → Calls Tryz.prog 56 a w fun e w' => AcTo T Y wY dv mv cv w0 pd pp (k + 1) e w' := fun h => h.mono (by
    rintro e w' ⟨rfl, h1⟩
    exact .inl ⟨rfl, h1.weak (fun _ com _ h => Tn.same h com)⟩)
  by_cases h1 : op = 1
  · subst h1; exact fin (pstep_begin n bv w h)
  by_cases h2 : op = 2
  · subst h2; exact fin (pstep_write2 n bv bs w h hb hl)
  by_cases h8 : op = 8
  · subst h8; exact fin (pstep_write8 n bv bs w h hb hl)
  by_cases h3 : op = 3
  · subst h3; exact pstep_commit n bv w h hk
  by_cases h4 : op = 4
  · subst h4; exact fin (pstep_abort n bv w h)
  by_cases h5 : op = 5
  · subst h5; exact pstep_sync n bv w h hk
  by_cases h6 : op = 6
  · subst h6; exact fin (pstep_read n bv w h hk)
  by_cases h7 : op = 7
  · subst h7; exact fin (pstep_tread n bv w h hk hw)
  refine (pstep_other op n bv w h1 h2 h8 h3 h4 h5 h6 h7).mono ?_
  rintro e w' ⟨rfl, hc⟩
  exact .inl ⟨rfl, ((h.more hc).up (by omega)).weak (fun _ com _ h => Tn.same h com)⟩
theorem blocksU (h : Up X w0 w pd pl tv f com pend live own wrote N) : Calls Tryz.prog 11 #[.pointer (some ⟨pl, 0, none⟩)] w fun e w' => e = .returned (.int .i64 70) ∧ w' = w := by
  rcases h with ⟨_, _, h⟩ | ⟨q, _, F, G, S, m, V, mt, Vt, h1, _⟩
  · refine (blocks_up h).mono ?_
    rintro e w' ⟨rfl, rfl⟩
    exact ⟨rfl, rfl⟩
  · refine (lblocks_any w h1.lk).mono ?_
    rintro e w' ⟨rfl, rfl⟩
    exact ⟨rfl, rfl⟩
set_option maxHeartbeats 3200000 in
set_option maxRecDepth 100000 in
theorem all_trueU (v : Value) (S : Nat → ByteArray) (w : World) (h : Up X w0 w pd pl tv f com pend live own wrote N) (hs : Ss w v S 70) (ht : ∀ n, n < 70 → S n = strOf (ovr f com n)) (hN : N < 1000000000) :
    Calls Tryz.prog 57 #[.pointer (some ⟨pl, 0, none⟩), v] w fun e w' => e = .returned (.bool true) ∧ Chg (fun _ => False) w w' := by
  obtain ⟨g, o, c, rfl, hc, hcell⟩ := hs
  have H0 : Hid (Up X w0 w pd pl tv f com pend live own wrote N ∧ (∀ n, n < 70 → w.cell? ⟨g, o + n, none⟩ = some (.string (S n))) ∧ (∀ n, n < 70 → S n = strOf (ovr f com n))) := ⟨h, hcell, ht⟩
  clear h hcell ht
  go_enter Tryz.func57, Tryz.ntmps57
  go_wp2
  go_loopw [5, 6, 7] (fun x _ _ wr => ∃ i, i ≤ 70 ∧ x = .int .i64 ((i : Nat) : Int) ∧ Hid (Up X w0 wr pd pl tv f com pend live own wrote N ∧ Chg (fun _ => False) w wr)) (fun x _ _ _ => 70 - (intOf x).toNat)
  case atStart => exact ⟨0, by omega, rfl, H0.out.1, Chg.refl _ _⟩
  case round =>
    obtain ⟨i, hi, rfl, HR⟩ := hrel
    by_cases hlt : i < 70
    · have hki : (i : Int) < (70 : Int) := by omega
      have hkn : i < 70 := hlt
      go_wp2_with fail
      refine (readU i HR.out.1 hlt hN).mono ?_
      rintro e w1 ⟨u, rfl, fr⟩
      have hch : Chg (fun _ => False) w w1 := HR.out.2.trans fr.chg (fun _ _ h => h)
      have cl := hch.cell (H0.out.2.1 i hlt) (fun h => h)
      have H1 : Hid (Up X w0 w1 pd pl tv f com pend live own wrote N ∧ Chg (fun _ => False) w w1) := ⟨HR.out.1.more fr.chg, hch⟩
      rw [H0.out.2.2 i hlt] at cl
      have s1 := run_str (fr.bs.kept (Chg.drew (fun _ => False) w1) (fun _ _ _ _ _ h => h))
      have s0 := run_str fr.bs
      obtain ⟨t, ht⟩ : ∃ t, strOf (ovr f com i) = t := ⟨_, rfl⟩
      rw [ht] at cl s1 s0
      have hse := str_same t
      clear ht fr hch HR
      go_wp2_with fail
      go_region_held (fun w' => (convert 50 9 u).run Tryz.prog w' = .ok (.string t) w' ∧ w'.cell? ⟨g, o + i, none⟩ = some (.string t))
        (first | assumption | exact ⟨s1, cl⟩ | exact ⟨s0, cl⟩)
        (fail)
      all_goals
        clear s1 s0 cl
        go_wp2
        go_roundw
        case rel => exact ⟨i + 1, by omega, by go_num, H1.out.1.more (Chg.drew (fun _ => False) w1), H1.out.2.trans (Chg.drew (fun _ => False) w1) (fun _ _ h => h)⟩
        case measure => simp [intOf]; omega
    · have hie : i = 70 := by omega
      subst hie
      go_wp2_with fail
      refine (read_outU 70 HR.out.1 (by omega)).mono ?_
      rintro e w1 ⟨rfl, rfl⟩
      go_wp2_with fail
      refine (blocksU HR.out.1).mono ?_
      rintro e w2 ⟨rfl, rfl⟩
      have HQ : Hid (Chg (fun _ => False) w w2) := HR.out.2
      clear HR
      go_wp2
      go_ret
      exact ⟨rfl, HQ.out⟩
set_option maxHeartbeats 3200000 in
set_option maxRecDepth 100000 in
theorem all_falseU (v : Value) (S : Nat → ByteArray) (w : World) (h : Up X w0 w pd pl tv f com pend live own wrote N) (hs : Ss w v S 70) (i0 : Nat) (hi0 : i0 < 70) (ht : ∀ n, n < i0 → S n = strOf (ovr f com n)) (hne : S i0 ≠ strOf (ovr f com i0)) (hN : N < 1000000000) :
    Calls Tryz.prog 57 #[.pointer (some ⟨pl, 0, none⟩), v] w fun e w' => e = .returned (.bool false) ∧ Chg (fun _ => False) w w' := by
  obtain ⟨g, o, c, rfl, hc, hcell⟩ := hs
  have H0 : Hid (Up X w0 w pd pl tv f com pend live own wrote N ∧ (∀ n, n < 70 → w.cell? ⟨g, o + n, none⟩ = some (.string (S n))) ∧ (∀ n, n < i0 → S n = strOf (ovr f com n)) ∧ S i0 ≠ strOf (ovr f com i0)) := ⟨h, hcell, ht, hne⟩
  clear h hcell ht hne
  go_enter Tryz.func57, Tryz.ntmps57
  go_wp2
  go_loopw [5, 6, 7] (fun x _ _ wr => ∃ i, i ≤ i0 ∧ x = .int .i64 ((i : Nat) : Int) ∧ Hid (Up X w0 wr pd pl tv f com pend live own wrote N ∧ Chg (fun _ => False) w wr)) (fun x _ _ _ => 70 - (intOf x).toNat)
  case atStart => exact ⟨0, by omega, rfl, H0.out.1, Chg.refl _ _⟩
  case round =>
    obtain ⟨i, hi, rfl, HR⟩ := hrel
    have hki : (i : Int) < (70 : Int) := by omega
    have hkn : i < 70 := by omega
    go_wp2_with fail
    refine (readU i HR.out.1 hkn hN).mono ?_
    rintro e w1 ⟨u, rfl, fr⟩
    have hch : Chg (fun _ => False) w w1 := HR.out.2.trans fr.chg (fun _ _ h => h)
    have cl := hch.cell (H0.out.2.1 i hkn) (fun h => h)
    have H1 : Hid (Up X w0 w1 pd pl tv f com pend live own wrote N ∧ Chg (fun _ => False) w w1) := ⟨HR.out.1.more fr.chg, hch⟩
    have s1 := run_str (fr.bs.kept (Chg.drew (fun _ => False) w1) (fun _ _ _ _ _ h => h))
    have s0 := run_str fr.bs
    by_cases hlt : i < i0
    · rw [H0.out.2.2.1 i hlt] at cl
      obtain ⟨t, ht⟩ : ∃ t, strOf (ovr f com i) = t := ⟨_, rfl⟩
      rw [ht] at cl s1 s0
      have hse := str_same t
      clear ht fr hch HR
      go_wp2_with fail
      go_region_held (fun w' => (convert 50 9 u).run Tryz.prog w' = .ok (.string t) w' ∧ w'.cell? ⟨g, o + i, none⟩ = some (.string t))
        (first | assumption | exact ⟨s1, cl⟩ | exact ⟨s0, cl⟩)
        (fail)
      all_goals
        clear s1 s0 cl
        go_wp2
        go_roundw
        case rel => exact ⟨i + 1, by omega, by go_num, H1.out.1.more (Chg.drew (fun _ => False) w1), H1.out.2.trans (Chg.drew (fun _ => False) w1) (fun _ _ h => h)⟩
        case measure => simp [intOf]; omega
    · obtain rfl : i = i0 := by omega
      have hne : strOf (ovr f com i) ≠ S i := fun e => H0.out.2.2.2 e.symm
      obtain ⟨t, ht⟩ : ∃ t, strOf (ovr f com i) = t := ⟨_, rfl⟩
      obtain ⟨t2, ht2⟩ : ∃ t, S i = t := ⟨_, rfl⟩
      rw [ht] at s1 s0 hne
      rw [ht2] at cl hne
      have hse := str_ne2 hne
      clear ht ht2 fr hch HR hne
      go_wp2_with fail
      go_region_held (fun w' => (convert 50 9 u).run Tryz.prog w' = .ok (.string t) w' ∧ w'.cell? ⟨g, o + i, none⟩ = some (.string t2))
        (first | assumption | exact ⟨s1, cl⟩ | exact ⟨s0, cl⟩)
        (fail)
      all_goals
        clear s1 s0 cl
        go_wp2
        go_ret
        exact ⟨rfl, H1.out.2.trans (Chg.drew (fun _ => False) w1) (fun _ _ h => h)⟩
/-- Does a log tell just these strings? -/
def tells (S : Nat → ByteArray) (g : Nat → List Int) : Prop := ∀ n, n < 70 → S n = strOf (g n)
theorem all_any (v : Value) (S : Nat → ByteArray) (w : World) (h : Up X w0 w pd pl tv f com pend live own wrote N) (hs : Ss w v S 70) (hN : N < 1000000000) :
    ∃ b : Bool, (b = true ↔ tells S (ovr f com)) ∧ Calls Tryz.prog 57 #[.pointer (some ⟨pl, 0, none⟩), v] w fun e w' => e = .returned (.bool b) ∧ Chg (fun _ => False) w w' := by
  by_cases ht : tells S (ovr f com)
  · exact ⟨true, ⟨fun _ => ht, fun _ => rfl⟩, all_trueU v S w h hs ht hN⟩
  · -- the least one that is unlike
    have hex : ∃ i0, i0 < 70 ∧ (∀ n, n < i0 → S n = strOf (ovr f com n)) ∧ S i0 ≠ strOf (ovr f com i0) := by
      have key : ∀ m, m ≤ 70 → (∀ n, n < m → S n = strOf (ovr f com n)) ∨ ∃ i0, i0 < m ∧ (∀ n, n < i0 → S n = strOf (ovr f com n)) ∧ S i0 ≠ strOf (ovr f com i0) := by
        intro m
        induction m with
        | zero => intro _; exact .inl (fun n hn => by omega)
        | succ m ih =>
          intro hm
          rcases ih (by omega) with h1 | ⟨i0, h1, h2, h3⟩
          · by_cases e : S m = strOf (ovr f com m)
            · exact .inl (fun n hn => by
                by_cases hnm : n = m
                · subst hnm; exact e
                · exact h1 n (by omega))
            · exact .inr ⟨m, by omega, h1, e⟩
          · exact .inr ⟨i0, by omega, h2, h3⟩
      rcases key 70 (Nat.le_refl _) with h1 | h1
      · exact absurd h1 ht
      · exact h1
    obtain ⟨i0, h1, h2, h3⟩ := hex
    exact ⟨false, ⟨(fun e => by cases e), fun e => absurd e ht⟩, all_falseU v S w h hs i0 h1 h2 h3 hN⟩
end
end Go.Proofs.YtmlhjcjonfalhaaGreat.C

namespace Go.Proofs.YtmlhjcjonfalhaaGreat.C
open Go.RowKit Go.Maps

theorem rowEq {w w' : World} {q m : Nat} {g : Nat → Value} (h : Row w q m g) (e : w'.heap[q]? = w.heap[q]?) : Row w' q m g := by
  obtain ⟨cs, ty, h1, h2⟩ := h
  exact ⟨cs, ty, e.trans h1, h2⟩
/-- Two that may be, in memory. -/
structure M2 (X : Nat → Prop) (w : World) (pp mb s1 d1 s2 d2 : Nat) (f1 f2 : Nat → List Int) : Prop where
  m : Row w mb 2 (fun i => if i = 0 then .slice (some ⟨s1, 0, none⟩) 70 d1 else .slice (some ⟨s2, 0, none⟩) 70 d2)
  r1 : Row w s1 70 (fun n => .string (strOf (f1 n)))
  r2 : Row w s2 70 (fun n => .string (strOf (f2 n)))
  c1 : 70 ≤ d1
  c2 : 70 ≤ d2
  xm : X mb ∧ mb ≠ pp
  x1 : X s1 ∧ s1 ≠ pp
  x2 : X s2 ∧ s2 ≠ pp
theorem M2.smB {X : Nat → Prop} {w w' : World} {pp mb s1 d1 s2 d2 : Nat} {f1 f2 : Nat → List Int} (h : M2 X w pp mb s1 d1 s2 d2 f1 f2) (hs : SmB X pp w w') : M2 X w' pp mb s1 d1 s2 d2 f1 f2 :=
  ⟨rowEq h.m (hs mb h.xm.1 h.xm.2), rowEq h.r1 (hs s1 h.x1.1 h.x1.2), rowEq h.r2 (hs s2 h.x2.1 h.x2.2), h.c1, h.c2, h.xm, h.x1, h.x2⟩
theorem M2.kept {X : Nat → Prop} {w w' : World} {pp mb s1 d1 s2 d2 : Nat} {f1 f2 : Nat → List Int} (h : M2 X w pp mb s1 d1 s2 d2 f1 f2) (hc : Chg (fun _ => False) w w') : M2 X w' pp mb s1 d1 s2 d2 f1 f2 :=
  ⟨h.m.kept hc (fun h => h), h.r1.kept hc (fun h => h), h.r2.kept hc (fun h => h), h.c1, h.c2, h.xm, h.x1, h.x2⟩
/-- One that may be, in memory. -/
structure M1 (w0 w : World) (mb sb sd : Nat) (f : Nat → List Int) : Prop where
  m : w.heap[mb]? = some (.cells #[.slice (some ⟨sb, 0, none⟩) 70 sd] 45 (0, 0))
  r : Row w sb 70 (fun n => .string (strOf (f n)))
  c : 70 ≤ sd
  lo : w0.heap.size ≤ mb
/-- The world between two steps. -/
def Wd (w0 w : World) (pd pp k : Nat) (cs : List CutD) : Prop :=
  ∃ f mb sb sd cv, Pl (fun g _ _ => g = f) (fun b => b = mb ∨ b = sb) w (.pointer (some ⟨pd, 0, none⟩)) (.slice (some ⟨mb, 0, none⟩) 1 1) cv w0 w pd pp k ∧ M1 w0 w mb sb sd f ∧ CutsAt w0 cv cs ∧ Few cs

section
variable {X : Nat → Prop} {w0 w w' : World} {pd pp pl : Nat} {f f1 f2 : Nat → List Int} {N k : Nat} {x1 x2 x3 mv cv : Value} {cs : List CutD} {mb mc s1 d1 s2 d2 : Nat}
/-- What a round of open begins with. -/
structure Ro (X : Nat → Prop) (w0 w : World) (pd pp : Nat) (f : Nat → List Int) (cs : List CutD) (x1 x2 x3 cv : Value) (mb mc s1 d1 s2 d2 : Nat) (f1 f2 : Nat → List Int) (N : Nat) : Prop where
  dk : DkUp X w0 w pd 70 f true N
  ff : f = f1 ∨ f = f2
  bl : WBlk w pp pd x1 x2 x3 (.slice (some ⟨mb, 0, none⟩) 2 mc) cv
  m : M2 X w pp mb s1 d1 s2 d2 f1 f2
  cu : CutsAt w0 cv cs
  fw : Few cs
  xp : X pp ∧ w0.heap.size ≤ pp
  mc : 2 ≤ mc
/-- An opening that was done. -/
structure Rd (X : Nat → Prop) (w0 w : World) (pd pp pl : Nat) (f : Nat → List Int) (cs : List CutD) (x1 x2 x3 cv : Value) (mb mc s1 d1 s2 d2 : Nat) (f1 f2 : Nat → List Int) (N : Nat) : Prop where
  lg : LogUp X w0 w pd pl 70 f (fun _ => none) 0 N
  ff : f = f1 ∨ f = f2
  bl : WBlk w pp pd x1 x2 x3 (.slice (some ⟨mb, 0, none⟩) 2 mc) cv
  m : M2 X w pp mb s1 d1 s2 d2 f1 f2
  cu : CutsAt w0 cv cs
  fw : Few cs
  xp : X pp ∧ w0.heap.size ≤ pp
  mc : 2 ≤ mc
theorem Rd.kept (h : Rd X w0 w pd pp pl f cs x1 x2 x3 cv mb mc s1 d1 s2 d2 f1 f2 N) (hc : Chg (fun _ => False) w w') : Rd X w0 w' pd pp pl f cs x1 x2 x3 cv mb mc s1 d1 s2 d2 f1 f2 N :=
  ⟨h.lg.more hc, h.ff, (hc.block pp h.bl.lt (fun h => h)).trans h.bl, h.m.kept hc, h.cu, h.fw, h.xp, h.mc⟩
/-- On, arm, Open. -/
def OpEnd (X : Nat → Prop) (w0 w : World) (pd pp : Nat) (f : Nat → List Int) (cs : List CutD) (x1 x2 x3 : Value) (mb mc s1 d1 s2 d2 : Nat) (f1 f2 : Nat → List Int) (N : Nat) (e : Ending) : Prop :=
  (∃ pl cs' cv', e = .returned (.tuple #[.pointer (some ⟨pl, 0, none⟩), .int .i64 0]) ∧ Rd X w0 w pd pp pl f cs' x1 x2 x3 cv' mb mc s1 d1 s2 d2 f1 f2 (N + 128) ∧ cs'.length ≤ cs.length) ∨
  (∃ cs' cv', e = .returned (.tuple #[.pointer none, .int .i64 6]) ∧ Ro X w0 w pd pp f cs' x1 x2 x3 cv' mb mc s1 d1 s2 d2 f1 f2 (N + 128) ∧ cs'.length + 1 = cs.length)
theorem round_open (h : Ro X w0 w pd pp f cs x1 x2 x3 cv mb mc s1 d1 s2 d2 f1 f2 N) (hN : N < 1000000) :
    Calls Tryz.prog 20 #[.pointer (some ⟨pd, 0, none⟩)] w fun e w1 => e = .returned (.tuple #[]) ∧
      Hid (Calls Tryz.prog 9 #[.pointer (some ⟨pp, 0, none⟩)] w1 fun e w2 => e = .returned (.tuple #[]) ∧ w2.cell? ⟨pp, 0, none⟩ = some (.pointer (some ⟨pd, 0, none⟩)) ∧
        Hid (Calls Tryz.prog 21 #[.pointer (some ⟨pd, 0, none⟩)] w2 fun e w3 => OpEnd X w0 w3 pd pp f cs x1 x2 x3 mb mc s1 d1 s2 d2 f1 f2 N e)) := by
  refine (on_up h.dk).mono ?_
  rintro e w1 ⟨rfl, k1, t1⟩
  have b1 := h.bl.sm t1 h.xp.1
  have m1 := h.m.smB (Sm.toB t1)
  refine ⟨rfl, ?_⟩
  refine Calls.mono (warm_disk k1 h.xp.1 h.xp.2 b1 h.cu h.fw) ?_
  rintro e w2 ⟨rfl, ⟨rfl, rfl⟩ | ⟨cv', d, cs', rfl, k2, t2, b2, c2, f2'⟩⟩
  · refine ⟨rfl, b1.c.1, ?_⟩
    refine Calls.mono (open_up0 k1 (by omega)) ?_
    rintro e w3 ⟨pl, rfl, l3, t3⟩
    exact .inl ⟨pl, [], cv, rfl, ⟨l3, h.ff, b1.sm t3 h.xp.1, m1.smB (Sm.toB t3), h.cu, h.fw, h.xp, h.mc⟩, Nat.le_refl _⟩
  · refine ⟨rfl, b2.c.1, ?_⟩
    refine Calls.mono (open_up k2 (by omega)) ?_
    rintro e w3 ⟨t3, ⟨pl, rfl, l3⟩ | ⟨rfl, o3⟩⟩
    · exact .inl ⟨pl, cs', cv', rfl, ⟨l3, h.ff, b2.sm t3 h.xp.1, (m1.smB t2).smB (Sm.toB t3), c2, f2', h.xp, h.mc⟩, by simp⟩
    · exact .inr ⟨cs', cv', rfl, ⟨o3, h.ff, b2.sm t3 h.xp.1, (m1.smB t2).smB (Sm.toB t3), c2, f2', h.xp, h.mc⟩, by simp⟩

/-- The document's log, as it is made anew of what was found. -/
def rfound (f : Nat → List Int) : Rf := { rnew with L := fun n => strOf (f n) }
theorem rfound_cor (f : Nat → List Int) : Cor (rfound f) f (fun _ => none) 0 false (fun _ => none) 0 :=
  ⟨fun n _ => rfl, fun n _ => by simp only [rfound, rnew]; rfl, by simp only [rfound, rnew], by simp only [rfound, rnew], (fun e => by cases e)⟩
set_option maxHeartbeats 1600000 in
theorem found_chain {w5 w6 : World} {pr lb lc db dc sj dj : Nat} (hR : Rd X w0 w5 pd pp pl f cs x1 x2 x3 cv mb mc s1 d1 s2 d2 f1 f2 N) (hrow : Row w5 sj 70 (fun n => .string (strOf (f n)))) (hr6 : RfAt w6 pr rnew lb lc db dc 0 0 (.slice none 0 0)) (hc6 : Chg (fun _ => False) w5 w6) (h61 : w5.heap.size ≤ pr) (h62 : w5.heap.size ≤ lb) (h63 : w5.heap.size ≤ db) (hN : N ≤ 1000 + 128 * k) :
    ∃ g1 c1 w7, (Builtin.append_ #[45, 45] 45 #[.slice (some ⟨w6.heap.size, 0, none⟩) 0 0, .slice (some ⟨sj, 0, none⟩) 70 dj]).run Tryz.prog (w6.alloc (.cells #[] 9)) = .ok (.slice (some ⟨g1, 0, none⟩) 70 c1) w7 ∧
      w7.cell? ⟨pr, 0, none⟩ = some (.slice (some ⟨lb, 0, none⟩) 70 lc) ∧ w7.frozen? ⟨pr, 0, none⟩ = false ∧ w7.cell? ⟨pp, 1, none⟩ = some x1 ∧ w7.cell? ⟨pp, 2, none⟩ = some x2 ∧ w7.cell? ⟨pp, 3, none⟩ = some x3 ∧ (∀ i, w7.frozen? ⟨pp, i, none⟩ = false) ∧ pr ≠ pp ∧ pr < w7.heap.size ∧ pp < w7.heap.size ∧
      ∃ g2 c2 w10, (Builtin.append_ #[45, 45] 45 #[.slice (some ⟨w7.heap.size, 0, none⟩) 0 0, .slice (some ⟨g1, 0, none⟩) 70 c1]).run Tryz.prog (((((w7.setCell ⟨pr, 0, none⟩ (.slice (some ⟨g1, 0, none⟩) 70 c1)).setCell ⟨pp, 1, none⟩ (.pointer (some ⟨pl, 0, none⟩))).setCell ⟨pp, 2, none⟩ (.pointer none)).setCell ⟨pp, 3, none⟩ (.pointer (some ⟨pr, 0, none⟩))).alloc (.cells #[] 9)) = .ok (.slice (some ⟨g2, 0, none⟩) 70 c2) w10 ∧
        w10.cell? ⟨pp, 4, none⟩ = some (.slice (some ⟨mb, 0, none⟩) 2 mc) ∧ w10.frozen? ⟨pp, 4, none⟩ = false ∧ pp < w10.heap.size ∧
        Hid (Wd w0 ((w10.setCell ⟨pp, 4, none⟩ (.slice (some ⟨w10.heap.size, 0, none⟩) 1 1)).alloc (.cells #[.slice (some ⟨g2, 0, none⟩) 70 c2] 45)) pd pp k cs) := by
  obtain ⟨g1, c1, w7, hr1, hc1, hro1, hc7, h71, h72⟩ := copy_strs (c := dj) (hrow.kept hc6 (fun h => h))
  have hp5 := hR.bl.lt
  have z6 := hc6.size
  have z7 := hc7.size
  have b6 : WBlk w6 pp pd x1 x2 x3 (.slice (some ⟨mb, 0, none⟩) 2 mc) cv := (hc6.block pp hp5 (fun h => h)).trans hR.bl
  have b7 : WBlk w7 pp pd x1 x2 x3 (.slice (some ⟨mb, 0, none⟩) 2 mc) cv := (hc7.block pp b6.lt (fun h => h)).trans b6
  have r7 := hr6.kept hc7 (fun h => h) (fun h => h) (fun h => h) (fun _ h => h)
  have hpr : pr ≠ pp := by omega
  refine ⟨g1, c1, w7, hr1, r7.c0, r7.fr 0, by rw [cell_of_row _ _ _ _ _ _ b7]; rfl, by rw [cell_of_row _ _ _ _ _ _ b7]; rfl, by rw [cell_of_row _ _ _ _ _ _ b7]; rfl, fun i => frozen_of_row w7 _ _ _ _ b7, hpr, r7.lt, b7.lt, ?_⟩
  -- the struct's list
  have k8 : Chg (fun b => b = pr) w7 (w7.setCell ⟨pr, 0, none⟩ (.slice (some ⟨g1, 0, none⟩) 70 c1)) := Chg.setCell _ _ _ rfl
  have b8 := (k8.block pp b7.lt (fun e => hpr e.symm)).trans b7
  have rb8 := heap_setCell_same w7 pr 0 _ 48 (.slice (some ⟨g1, 0, none⟩) 70 c1) r7.blk
  have ro8 := hro1.kept k8 (fun e => by have := hr6.lt; omega)
  have rd8 := r7.d.kept k8 (Ne.symm r7.pd)
  obtain ⟨w8, hw8⟩ : ∃ w8, w7.setCell ⟨pr, 0, none⟩ (.slice (some ⟨g1, 0, none⟩) 70 c1) = w8 := ⟨_, rfl⟩
  have z8 : w8.heap.size = w7.heap.size := by rw [← hw8]; simp
  rw [hw8] at k8 b8 rb8 ro8 rd8 ⊢
  -- the play
  have e1 := heap_setCell_same w8 pp 1 _ 44 (.pointer (some ⟨pl, 0, none⟩)) b8
  have e2 := heap_setCell_same _ pp 2 _ 44 (.pointer none) e1
  have e3 := heap_setCell_same _ pp 3 _ 44 (.pointer (some ⟨pr, 0, none⟩)) e2
  have k9 : Chg (fun b => b = pp) w8 (((w8.setCell ⟨pp, 1, none⟩ (.pointer (some ⟨pl, 0, none⟩))).setCell ⟨pp, 2, none⟩ (.pointer none)).setCell ⟨pp, 3, none⟩ (.pointer (some ⟨pr, 0, none⟩))) :=
    ((Chg.setCell (S := fun b => b = pp) _ _ _ rfl).trans (Chg.setCell (S := fun b => b = pp) _ _ _ rfl) (fun _ _ h => h)).trans (Chg.setCell (S := fun b => b = pp) _ _ _ rfl) (fun _ _ h => h)
  obtain ⟨w9, hw9⟩ : ∃ w9, ((w8.setCell ⟨pp, 1, none⟩ (.pointer (some ⟨pl, 0, none⟩))).setCell ⟨pp, 2, none⟩ (.pointer none)).setCell ⟨pp, 3, none⟩ (.pointer (some ⟨pr, 0, none⟩)) = w9 := ⟨_, rfl⟩
  have z9 : w9.heap.size = w8.heap.size := by rw [← hw9]; simp
  rw [hw9] at e3 k9 ⊢
  have b9 : WBlk w9 pp pd (.pointer (some ⟨pl, 0, none⟩)) (.pointer none) (.pointer (some ⟨pr, 0, none⟩)) (.slice (some ⟨mb, 0, none⟩) 2 mc) cv := by unfold WBlk; simpa using e3
  have rb9 := (k9.block pr (by have := r7.lt; omega) hpr).trans rb8
  have ro9 := ro8.kept k9 (fun e => by omega)
  have rd9 := rd8.kept k9 (fun e => by omega)
  obtain ⟨g2, c2, w10, hr2, hc2, hro2, hc10, h101, h102⟩ := copy_strs (c := c1) ro9
  rw [z9, z8] at hr2
  have b10 : WBlk w10 pp pd (.pointer (some ⟨pl, 0, none⟩)) (.pointer none) (.pointer (some ⟨pr, 0, none⟩)) (.slice (some ⟨mb, 0, none⟩) 2 mc) cv := (hc10.block pp b9.lt (fun h => h)).trans b9
  refine ⟨g2, c2, w10, hr2, b10.c.2.1, b10.c.2.2.2.1, b10.lt, ?_⟩
  have z10 := hc10.size
  -- what may be
  have k11 : Chg (fun b => b = pp) w10 (w10.setCell ⟨pp, 4, none⟩ (.slice (some ⟨w10.heap.size, 0, none⟩) 1 1)) := Chg.setCell _ _ _ rfl
  have b11 := heap_setCell_same w10 pp 4 _ 44 (.slice (some ⟨w10.heap.size, 0, none⟩) 1 1) b10
  have z11 : (w10.setCell ⟨pp, 4, none⟩ (.slice (some ⟨w10.heap.size, 0, none⟩) 1 1)).heap.size = w10.heap.size := by simp
  obtain ⟨w11, hw11⟩ : ∃ w11, w10.setCell ⟨pp, 4, none⟩ (.slice (some ⟨w10.heap.size, 0, none⟩) 1 1) = w11 := ⟨_, rfl⟩
  rw [hw11] at k11 b11 z11 ⊢
  have k12 := Chg.alloc (fun _ => False) w11 (.cells #[.slice (some ⟨g2, 0, none⟩) 70 c2] 45)
  have m12 := heap_alloc_new w11 (.cells #[.slice (some ⟨g2, 0, none⟩) 70 c2] 45)
  have z12 := World.size_alloc w11 (.cells #[.slice (some ⟨g2, 0, none⟩) 70 c2] 45)
  obtain ⟨w12, hw12⟩ : ∃ w12, w11.alloc (.cells #[.slice (some ⟨g2, 0, none⟩) 70 c2] 45) = w12 := ⟨_, rfl⟩
  rw [hw12] at k12 m12 z12 ⊢
  have b12 := (k12.block pp (by rw [z11]; exact b10.lt) (fun h => h)).trans b11
  rw [z11] at m12
  have hlr := r7.lt
  have hl6 := hr6.lt
  have kk : Chg (fun b => b = pp) w9 w12 := ((hc10.mono (fun _ _ h => h.elim)).trans k11 (fun _ _ h => h)).trans k12 (fun _ _ h => h.elim)
  have all : Chg (fun b => b = pp) w5 w12 := ((((hc6.trans hc7 (fun _ _ h => h)).mono (fun _ _ h => h.elim)).trans k8 (fun i hi e => by omega)).trans k9 (fun _ _ h => h)).trans kk (fun _ _ h => h)
  have hlog := hR.lg.ref all (fun b _ e => e ▸ hR.xp)
  have hlb := hr6.l.lt
  have hdb := hr6.d.lt
  have hmb : w12.heap[w10.heap.size]? = some (.cells #[.slice (some ⟨g2, 0, none⟩) 70 c2] 45 (0, 0)) := m12
  have hrow12 : Row w12 g2 70 (fun n => .string (strOf (f n))) := (hro2.kept k11 (fun e => by omega)).kept k12 (fun h => h)
  have hR12 : RfAt w12 pr (rfound f) g1 c1 db dc 0 0 (.slice none 0 0) := by
    refine ⟨?_, ro9.kept kk (fun e => by omega), ?_, (fun e => by cases e), ⟨_, _, _, rfl⟩, by omega, r7.pd, (fun e => by cases e), by omega, (fun e => by cases e), hc1, r7.dcc⟩
    · have := (kk.block pr (by omega) hpr).trans rb9
      simpa [rfound, rnew] using this
    · exact (rd9.kept kk (fun e => by omega)).congr (fun n _ => by simp only [rfound, rnew])
  refine ⟨f, w10.heap.size, g2, c2, cv, ⟨_, pl, .pointer none, pr, rfound f, g1, c1, db, dc, 0, 0, .slice none 0 0, f, (fun _ => none), 0, false, (fun _ => none), 0, ⟨?_, hR12, ⟨.inl hR.xp.1, hR.xp.2⟩, ?_, ?_, ?_, fun _ _ => rfl, .inl rfl⟩, .inl ⟨rfl, rfl, hlog.mono hN⟩, rfound_cor f, by omega, by simp only [rfound, rnew]; omega, rfl⟩, ⟨hmb, hrow12, hc2, by have := hR.lg.chg.size; omega⟩, hR.cu, hR.fw⟩
  · simpa using b12
  · have h0 := hR.lg.chg.size
    rintro b (e | e | e | ⟨e, _⟩)
    · exact ⟨.inr ⟨by omega, by omega⟩, by omega⟩
    · exact ⟨.inr ⟨by omega, by omega⟩, by omega⟩
    · exact ⟨.inr ⟨by omega, by omega⟩, by omega⟩
    · cases e
  · rintro b (e | e | e | ⟨e, _⟩)
    · omega
    · omega
    · omega
    · cases e
  · rintro b (e | e)
    · refine ⟨.inr ⟨by omega, by omega⟩, by omega, ?_, by omega⟩
      rintro (h | h | h | ⟨h, _⟩)
      · omega
      · omega
      · omega
      · cases h
    · refine ⟨.inr ⟨by omega, by omega⟩, by omega, ?_, by omega⟩
      rintro (h | h | h | ⟨h, _⟩)
      · omega
      · omega
      · omega
      · cases h

set_option maxHeartbeats 6400000 in
set_option maxRecDepth 100000 in
theorem wopen_any (w : World) (h : Ro X w0 w pd pp f cs x1 x2 x3 cv mb mc s1 d1 s2 d2 f1 f2 (1000 + 128 * k)) (hcs : cs.length ≤ 20) (hk : k < 900) :
    Calls Tryz.prog 33 #[.pointer (some ⟨pp, 0, none⟩)] w fun e w' => e = .returned (.bool true) ∧ ∃ cs' k', Wd w0 w' pd pp k' cs' ∧ cs'.length ≤ cs.length ∧ k' + cs'.length ≤ k + 1 + cs.length := by
  have H0 : Hid (Ro X w0 w pd pp f cs x1 x2 x3 cv mb mc s1 d1 s2 d2 f1 f2 (1000 + 128 * k)) := h
  have hmc := h.mc
  clear h
  go_enter Tryz.func33, Tryz.ntmps33
  go_wp2_with fail
  go_loopw [3, 4, 5, 6, 7] (fun x _ _ _ _ wr => ∃ i cs1 cv1, i + cs1.length = cs.length ∧ x = .int .i64 ((i : Nat) : Int) ∧ Hid (Ro X w0 wr pd pp f cs1 x1 x2 x3 cv1 mb mc s1 d1 s2 d2 f1 f2 (1000 + 128 * (k + i)))) (fun x _ _ _ _ _ => 40 - (intOf x).toNat)
  case atStart => exact ⟨0, cs, cv, by omega, rfl, H0⟩
  case round =>
    obtain ⟨i, cs1, cv1, hi, rfl, HR⟩ := hrel
    clear H0
    have hki : (i : Int) < 40 := by omega
    have e0 := HR.out.bl.c.1
    go_wp2_with fail
    refine (round_open HR.out (by omega)).mono ?_
    rintro e w1 ⟨rfl, HA⟩
    clear e0
    go_wp2_with fail
    refine (show Calls _ _ _ _ _ from HA.out).mono ?_
    rintro e w2 ⟨rfl, e0, HO⟩
    clear HA
    go_wp2_with fail
    refine (show Calls _ _ _ _ _ from HO.out).mono ?_
    rintro e w3 (⟨pl, cs2, cv2, rfl, hR, hl⟩ | ⟨cs2, cv2, rfl, hR, hl⟩)
    · have H3 : Hid (Rd X w0 w3 pd pp pl f cs2 x1 x2 x3 cv2 mb mc s1 d1 s2 d2 f1 f2 (1000 + 128 * (k + i) + 128)) := hR
      have g0 := hR.bl.c.1
      clear HO HR hR e0
      go_wp2_with fail
      refine (H3.out.lg.isOn).mono ?_
      rintro e w4 ⟨rfl, rfl⟩
      have hq := eqL_some ⟨pl, 0, none⟩
      clear g0
      go_wp2_with fail
      obtain ⟨N2, hN2⟩ : ∃ N2, 1000 + 128 * (k + i) + 128 = N2 := ⟨_, rfl⟩
      have HN : Hid (1000 + 128 * (k + i) + 128 = N2) := hN2
      rw [hN2] at H3
      clear hN2
      go_loopw [6, 7] (fun x _ wr => ∃ j, j ≤ 1 ∧ x = .int .i64 ((j : Nat) : Int) ∧ Hid (Rd X w0 wr pd pp pl f cs2 x1 x2 x3 cv2 mb mc s1 d1 s2 d2 f1 f2 N2 ∧ (j = 1 → ¬ tells (fun n => strOf (f1 n)) (ovr f (fun _ => none))))) (fun x _ _ => 2 - (intOf x).toNat)
      case atStart => exact ⟨0, by omega, rfl, H3.out, (fun e => by cases e)⟩
      case round =>
        obtain ⟨j, hj, rfl, HI⟩ := hrel
        clear H3
        have hkj : (j : Int) < 2 := by omega
        have b4 := HI.out.1.bl.c.2.1
        have bm := HI.out.1.m.m.cell (n := j) (by omega)
        have hjn : j < 2 := by omega
        obtain ⟨sj, dj, fj, hsl, hrow, hd70, hfj⟩ : ∃ sj dj fj, (if j = 0 then Value.slice (some ⟨s1, 0, none⟩) 70 d1 else .slice (some ⟨s2, 0, none⟩) 70 d2) = .slice (some ⟨sj, 0, none⟩) 70 dj ∧ Row wr sj 70 (fun n => .string (strOf (fj n))) ∧ 70 ≤ dj ∧ ((j = 0 ∧ fj = f1) ∨ (j = 1 ∧ fj = f2)) := by
          by_cases e : j = 0
          · exact ⟨s1, d1, f1, by rw [if_pos e], HI.out.1.m.r1, HI.out.1.m.c1, .inl ⟨e, rfl⟩⟩
          · exact ⟨s2, d2, f2, by rw [if_neg e], HI.out.1.m.r2, HI.out.1.m.c2, .inr ⟨by omega, rfl⟩⟩
        rw [hsl] at bm
        have hss : Ss wr (.slice (some ⟨sj, 0, none⟩) 70 dj) (fun n => strOf (fj n)) 70 := ⟨sj, 0, dj, rfl, hd70, fun n hn => by rw [Nat.zero_add]; exact hrow.cell hn⟩
        obtain ⟨b, hb, hall⟩ := all_any (tv := .pointer none) (own := fun _ => none) (wrote := 0) (live := false) _ _ wr (.inl ⟨rfl, rfl, HI.out.1.lg⟩) hss (by have := HN.out; omega)
        have HB : Hid ((b = true ↔ tells (fun n => strOf (fj n)) (ovr f (fun _ => none))) ∧ ((j = 0 ∧ fj = f1) ∨ (j = 1 ∧ fj = f2)) ∧ Row wr sj 70 (fun n => .string (strOf (fj n)))) := ⟨hb, hfj, hrow⟩
        clear hsl hrow hss hb hfj
        go_wp2_with fail
        refine hall.mono ?_
        rintro e w5 ⟨rfl, hc5⟩
        clear hall
        cases b with
        | false =>
          have hj0 : j = 0 := by
            rcases HB.out.2.1 with ⟨e, _⟩ | ⟨e1, e2⟩
            · exact e
            · exfalso
              rcases HI.out.1.ff with e | e
              · exact HI.out.2 e1 (fun n _ => by rw [e]; rfl)
              · have := HB.out.1.2 (fun n _ => by rw [e2, e]; rfl)
                cases this
          subst hj0
          have H5 : Hid (Rd X w0 w5 pd pp pl f cs2 x1 x2 x3 cv2 mb mc s1 d1 s2 d2 f1 f2 N2 ∧ ¬ tells (fun n => strOf (f1 n)) (ovr f (fun _ => none))) := by
            refine ⟨HI.out.1.kept hc5, fun e => ?_⟩
            rcases HB.out.2.1 with ⟨_, e2⟩ | ⟨e1, _⟩
            · rw [← e2] at e
              have := HB.out.1.2 e
              cases this
            · cases e1
          clear HI HB b4 bm hc5
          go_wp2
          go_roundw
          case rel => exact ⟨1, by omega, by go_num, H5.out.1, fun _ => H5.out.2⟩
          case measure => simp [intOf]
        | true =>
          have H5 : Hid (Rd X w0 w5 pd pp pl f cs2 x1 x2 x3 cv2 mb mc s1 d1 s2 d2 f1 f2 N2 ∧ Row w5 sj 70 (fun n => .string (strOf (f n)))) := by
            refine ⟨HI.out.1.kept hc5, ((HB.out.2.2.kept hc5 (fun h => h)).congr (fun n hn => ?_))⟩
            have e : strOf (fj n) = strOf (ovr f (fun _ => none) n) := HB.out.1.1 rfl n hn
            show Value.string (strOf (fj n)) = _
            rw [e]; rfl
          have b4' := hc5.cell b4 (fun h => h)
          have bm' := hc5.cell bm (fun h => h)
          clear HI HB b4 bm hc5
          go_wp2_with fail
          refine (rmake_any w5).mono ?_
          rintro e w6 ⟨pr, rfl, lb, lc, db, dc, hr6, hc6, h61, h62, h63⟩
          obtain ⟨g1, c1, w7, hr1, p7, q7, y1, y2, y3, yf, hpr, hprl, hppl, g2, c2, w10, hr2, p10, q10, hppl2, HQ⟩ := found_chain (k := k + i + 1) (dj := dj) H5.out.1 H5.out.2 hr6 hc6 h61 h62 h63 (by have := HN.out; omega)
          have a6 := hc6.trans (Chg.alloc (fun _ => False) w6 (.cells #[] 9)) (fun _ _ h => h)
          have a1 := a6.cell b4' (fun h => h)
          have a2 := a6.cell bm' (fun h => h)
          clear b4' bm' H5 hr6 hc6 h61 h62 h63 a6
          go_wp2_with (at_builtin; go_must (first | (refine Lib.wpList_append_run _ rfl _ _ _ _ rfl _ _ rfl rfl _ _ hr1 ?_; clear hr1 a1 a2) | (refine Lib.wpList_append_run _ rfl _ _ _ _ rfl _ _ rfl rfl _ _ hr2 ?_; clear hr2)))
          go_ret
          exact ⟨rfl, cs2, _, HQ.out, by omega, by omega⟩
    · have H3 : Hid (Ro X w0 w3 pd pp f cs2 x1 x2 x3 cv2 mb mc s1 d1 s2 d2 f1 f2 (1000 + 128 * (k + i) + 128)) := hR
      have g0 := hR.bl.c.1
      clear HO HR hR e0
      go_wp2_with fail
      refine (off_up H3.out.dk).mono ?_
      rintro e w4 ⟨rfl, rfl⟩
      clear g0
      go_wp2
      go_roundw
      case rel => exact ⟨i + 1, cs2, cv2, by omega, by go_num, by have := H3.out; rw [show 1000 + 128 * (k + i) + 128 = 1000 + 128 * (k + (i + 1)) by omega] at this; exact this⟩
      case measure => simp [intOf]; omega
end
end Go.Proofs.YtmlhjcjonfalhaaGreat.C
