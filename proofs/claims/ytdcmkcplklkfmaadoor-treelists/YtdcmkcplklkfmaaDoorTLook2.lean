/-
  New, Free, Stat, Read, List: contracts.
-/
import Derived.Test.YtdcmkcplklkfmaaDoorTKeys
import Derived.BigQuiet
import Derived.Deep.QuietTactic
namespace Go.Proofs.YtdcmkcplklkfmaaDoor
open Go.RowKit Go.Maps

abbrev trO (m : Nat) (b i : Int) : Obj := .cells #[.bool false, .slice none 0 0, .map (some m), .int .i64 0, .int .i64 b, .int .i64 i] 59
def tr0 (b i : Int) : Ts := ⟨fun q => if q = [] then some (.dir 0 []) else none, b, i⟩
set_option maxHeartbeats 1600000 in
theorem new_raw (b i : Int) (w : World) (hb0 : 0 ≤ b) (hb1 : b ≤ 16384) (hi0 : 1 ≤ i) (hi1 : i ≤ 256) :
    Calls Tryd.prog 9 #[.int .i64 b, .int .i64 i] w fun e w' => e = .returned (.tuple #[ptr (w.heap.size + 2), .int .i64 0]) ∧ w' = ((w.alloc (.map #[] 0)).alloc (ndO4 false (some w.heap.size))).alloc (trO w.heap.size b (i - 1)) := by
  have q1 : ¬ b < 0 := by omega
  have q2 : ¬ 16384 < b := by omega
  have q3 : ¬ i < 1 := by omega
  have q4 : ¬ 256 < i := by omega
  have wi : IntKind.i64.wrap (i - 1) = i - 1 := by rw [IntKind.wrap_i64]; omega
  go_enter Tryd.func9, Tryd.ntmps9
  go_wp2_with fail
  refine (newDir_any w).mono ?_
  rintro e w1 ⟨rfl, rfl⟩
  go_wp2_with fail
  go_ret2
  exact ⟨rfl, rfl⟩
set_option maxHeartbeats 1600000 in
theorem new_bad (b i : Int) (w : World) (h : b < 0 ∨ 16384 < b ∨ i < 1 ∨ 256 < i) :
    Calls Tryd.prog 9 #[.int .i64 b, .int .i64 i] w fun e w' => e = .returned (.tuple #[.pointer none, .int .i64 1]) ∧ w' = w := by
  by_cases q1 : b < 0
  · clear h
    go_enter Tryd.func9, Tryd.ntmps9
    go_wp2_with fail
    go_ret2
    exact ⟨rfl, rfl⟩
  by_cases q2 : 16384 < b
  · clear h
    go_enter Tryd.func9, Tryd.ntmps9
    go_wp2_with fail
    go_ret2
    exact ⟨rfl, rfl⟩
  by_cases q3 : i < 1
  · clear h
    go_enter Tryd.func9, Tryd.ntmps9
    go_wp2_with fail
    go_ret2
    exact ⟨rfl, rfl⟩
  have q4 : 256 < i := by omega
  clear h
  go_enter Tryd.func9, Tryd.ntmps9
  go_wp2_with fail
  go_ret2
  exact ⟨rfl, rfl⟩
/-- New: an empty tree. -/
theorem new_any (b i : Int) (w : World) (hb0 : 0 ≤ b) (hb1 : b ≤ 16384) (hi0 : 1 ≤ i) (hi1 : i ≤ 256) :
    Calls Tryd.prog 9 #[.int .i64 b, .int .i64 i] w fun e w' => ∃ t A O, e = .returned (.tuple #[ptr t, .int .i64 0]) ∧ Tr w' t (tr0 b (i - 1)).F A O b (i - 1) 0 ∧ (∀ k, (O k).isSome = true → w.heap.size ≤ k) ∧ Below w.heap.size w w' := by
  refine (new_raw b i w hb0 hb1 hi0 hi1).mono ?_
  rintro e w' ⟨rfl, rfl⟩
  have B1 := below_alloc w (.map #[] 0)
  have B2 := B1.trans ((below_alloc (w.alloc (.map #[] 0)) (ndO4 false (some w.heap.size))).mono B1.size)
  have B3 := B2.trans ((below_alloc ((w.alloc (.map #[] 0)).alloc (ndO4 false (some w.heap.size))) (trO w.heap.size b (i - 1))).mono B2.size)
  have hb := heap_alloc_new ((w.alloc (.map #[] 0)).alloc (ndO4 false (some w.heap.size))) (trO w.heap.size b (i - 1))
  have z2 : ((w.alloc (.map #[] 0)).alloc (ndO4 false (some w.heap.size))).heap.size = w.heap.size + 2 := by simp
  have z3 : (((w.alloc (.map #[] 0)).alloc (ndO4 false (some w.heap.size))).alloc (trO w.heap.size b (i - 1))).heap.size = w.heap.size + 3 := by simp
  rw [z2] at hb
  have hm := SMap.new w
  have hm2 := hm.kept ((Chg.ofBelowC (below_alloc (w.alloc (.map #[] 0)) (ndO4 false (some w.heap.size)))).block _ hm.lt (fun h => h))
  have hm3 := hm2.kept ((Chg.ofBelowC (below_alloc ((w.alloc (.map #[] 0)).alloc (ndO4 false (some w.heap.size))) (trO w.heap.size b (i - 1)))).block _ hm2.lt (fun h => h))
  generalize ((w.alloc (.map #[] 0)).alloc (ndO4 false (some w.heap.size))).alloc (trO w.heap.size b (i - 1)) = w' at *
  have hF : ∀ p nd, (tr0 b (i - 1)).F p = some nd → p = [] ∧ nd = .dir 0 [] := fun p nd h => by
    by_cases e : p = []
    · subst e; exact ⟨rfl, by simpa [tr0, eq_comm] using h⟩
    · simp [tr0, e] at h
  have hO : ∀ k y, (fun k => if k = w.heap.size + 2 then some (([] : Pth), 0) else if k = w.heap.size then some ([], 1) else none) k = some y → w.heap.size ≤ k ∧ k < w.heap.size + 3 := fun k y h => by
    by_cases e : k = w.heap.size + 2
    · omega
    · by_cases e2 : k = w.heap.size
      · omega
      · simp [e, e2] at h
  refine ⟨w.heap.size + 2, fun _ => w.heap.size + 2, fun k => if k = w.heap.size + 2 then some ([], 0) else if k = w.heap.size then some ([], 1) else none, rfl, ⟨rfl, ⟨0, [], rfl⟩, fun k y h => ?_, fun p nd h => ?_, fun p nd h => ?_, fun p nd h j => ?_, fun p nm h => ?_, fun p s ns nm h hn => ?_, fun p s ns h => ?_, fun p bs h => ?_, ?_, ?_, by omega, by omega⟩, fun k h => ?_, B3⟩
  · have := hO k y h; omega
  · obtain ⟨rfl, rfl⟩ := hF p nd h; simp
  · obtain ⟨rfl, rfl⟩ := hF p nd h
    refine ⟨?_, ?_, ⟨w.heap.size, ?_, ?_, hm3.ext (fun s _ => rfl)⟩, ?_⟩
    · rw [cell_of_row _ _ _ _ _ _ hb]; rfl
    · rw [cell_of_row _ _ _ _ _ _ hb]; rfl
    · rw [cell_of_row _ _ _ _ _ _ hb]; rfl
    · simp
    · rw [cell_of_row _ _ _ _ _ _ hb]; rfl
  · simp only [World.frozen?, hb]
    simp
  · obtain ⟨nd, hn⟩ := Option.isSome_iff_exists.1 h
    have := (hF _ _ hn).1
    simp at this
  · have := (hF _ _ h).2
    cases this
    cases hn
  · have := (hF _ _ h).2
    cases this
    exact ⟨List.nodup_nil, (fun _ h => by cases h), Nat.le_refl _, Nat.le_refl _⟩
  · have := (hF _ _ h).2
    cases this
  · rw [cell_of_row _ _ _ _ _ _ hb]; rfl
  · rw [cell_of_row _ _ _ _ _ _ hb]; rfl
  · obtain ⟨y, hy⟩ := Option.isSome_iff_exists.1 h
    exact (hO k y hy).1

set_option maxHeartbeats 1600000 in
theorem free_any (t : Nat) (bl ino : Int) (w : World) (c4 : w.cell? ⟨t, 4, none⟩ = some (.int .i64 bl)) (c5 : w.cell? ⟨t, 5, none⟩ = some (.int .i64 ino)) :
    Calls Tryd.prog 11 #[ptr t] w fun e w' => e = .returned (.tuple #[.int .i64 bl, .int .i64 ino]) ∧ Below w.heap.size w w' := by
  go_enter Tryd.func11, Tryd.ntmps11
  go_wp2_with fail
  go_quiet (fail)
  go_wp2_with fail
  go_ret2
  exact ⟨rfl, by first | exact below_drewN _ _ _ | exact below_drew _ _ | exact Below.refl _ _⟩

abbrev inO (d : Bool) (s k : Int) : Obj := .cells #[.bool d, .int .i64 s, .int .i64 k] 40
abbrev inV (d : Bool) (s k : Int) : Value := .agg #[.bool d, .int .i64 s, .int .i64 k]
def In (w : World) (b : Nat) (u0 u1 u2 : Value) : Prop := w.heap[b]? = some (.cells #[u0, u1, u2] 40 (0, 0))
theorem In.c {w : World} {b : Nat} {u0 u1 u2 : Value} (h : In w b u0 u1 u2) : w.cell? ⟨b, 0, none⟩ = some u0 ∧ w.cell? ⟨b, 1, none⟩ = some u1 ∧ w.cell? ⟨b, 2, none⟩ = some u2 := by
  unfold In at h
  refine ⟨?_, ?_, ?_⟩ <;> · rw [cell_of_row _ _ _ _ _ _ h]; rfl
theorem In.lt {w : World} {b : Nat} {u0 u1 u2 : Value} (h : In w b u0 u1 u2) : b < w.heap.size := World.block_lt_of_cell? w ⟨b, 0, none⟩ h.c.1
theorem In.fr {w : World} {b : Nat} {u0 u1 u2 : Value} (h : In w b u0 u1 u2) (j : Nat) : w.frozen? ⟨b, j, none⟩ = false := by
  unfold In at h
  simp [World.frozen?, h]
theorem In.kept {S : Nat → Prop} {w w' : World} {b : Nat} {u0 u1 u2 : Value} (h : In w b u0 u1 u2) (hc : Chg S w w') (hn : ¬ S b) : In w' b u0 u1 u2 := (hc.block b h.lt hn).trans h
theorem In.put {w : World} {b : Nat} {u0 u1 u2 : Value} (h : In w b u0 u1 u2) (v0 v1 v2 : Value) : In ((((w.setCell ⟨b, 0, none⟩ v0).setCell ⟨b, 1, none⟩ v1).setCell ⟨b, 2, none⟩ v2)) b v0 v1 v2 ∧ Chg (fun k => k = b) w ((((w.setCell ⟨b, 0, none⟩ v0).setCell ⟨b, 1, none⟩ v1).setCell ⟨b, 2, none⟩ v2)) := by
  have g0 := heap_setCell_same w b 0 _ _ v0 h
  have g1 := heap_setCell_same _ b 1 _ _ v1 g0
  have g2 := heap_setCell_same _ b 2 _ _ v2 g1
  refine ⟨?_, ((Chg.setCell (S := fun k => k = b) w ⟨b, 0, none⟩ v0 rfl).trans (Chg.setCell (S := fun k => k = b) _ ⟨b, 1, none⟩ v1 rfl) (fun _ _ h => h)).trans (Chg.setCell (S := fun k => k = b) _ ⟨b, 2, none⟩ v2 rfl) (fun _ _ h => h)⟩
  unfold In
  rw [g2]
  rfl
theorem In.alloc (w : World) (d : Bool) (s k : Int) : In (w.alloc (inO d s k)) w.heap.size (.bool d) (.int .i64 s) (.int .i64 k) := heap_alloc_new w _

set_option maxHeartbeats 3200000 in
theorem info_raw (b : Nat) (f : Bool) (a : Option Addr) (n c : Nat) (mv : Option Nat) (k : Int) (w : World) (c0 : w.cell? ⟨b, 0, none⟩ = some (.bool f)) (c1 : w.cell? ⟨b, 1, none⟩ = some (.slice a n c)) (c2 : w.cell? ⟨b, 2, none⟩ = some (.map mv)) (HL : ∀ wb, Below w.heap.size w wb → (Builtin.len_ #[53] 3 #[.map mv]).run Tryd.prog wb = .ok (.int .i64 k) wb) :
    Calls Tryd.prog 30 #[ptr b] w fun e w' => e = .returned (inV (!f) n k) ∧ Below w.heap.size w w' := by
  have A0 := below_alloc w (inO false 0 0)
  have I0 := In.alloc w false 0 0
  obtain ⟨wa, hwa⟩ : ∃ wa, Hid (w.alloc (inO false 0 0) = wa) := ⟨_, rfl⟩
  rw [hwa.out] at A0 I0
  have g0 := (Chg.ofBelowC A0).cell c0 (fun h => h)
  have g1 := (Chg.ofBelowC A0).cell c1 (fun h => h)
  have g2 := (Chg.ofBelowC A0).cell c2 (fun h => h)
  have hl := HL wa.drew (A0.trans (below_drew _ _))
  obtain ⟨d0, d1, d2⟩ := I0.c
  have fr := I0.fr
  have HA : Hid (Below w.heap.size w wa ∧ In wa w.heap.size (.bool false) (.int .i64 0) (.int .i64 0)) := ⟨A0, I0⟩
  clear A0 I0 HL c0 c1 c2
  go_enter Tryd.func30, Tryd.ntmps30
  go_wp2_with fail
  rw [hwa.out]
  go_region
  obtain ⟨s1, s2⟩ := HA.out.2.put (.bool (!f)) (.int .i64 n) (.int .i64 k)
  all_goals
    go_wp2_with fail
    try simp only [Exit.inBlock, Exit.then]
    have s1' : In ((((wa.setCell ⟨w.heap.size, 0, none⟩ (.bool (!f))).setCell ⟨w.heap.size, 1, none⟩ (.int .i64 n)).setCell ⟨w.heap.size, 2, none⟩ (.int .i64 k)).drew) w.heap.size (.bool (!f)) (.int .i64 n) (.int .i64 k) := s1
    obtain ⟨e0, e1, e2⟩ := s1'.c
    refine bodyPost_ret (v := inV (!f) n k) ?_ rfl ?_
    · simp [results, Tryd.results30, go_sem, e0, e1, e2]
    · exact ⟨rfl, (HA.out.1.trans (s2.below HA.out.1.size (fun k hk => by rw [hk]; exact Nat.le_refl _))).trans (below_drew _ _)⟩
end Go.Proofs.YtdcmkcplklkfmaaDoor

namespace Go.Proofs.YtdcmkcplklkfmaaDoor
open Go.RowKit Go.Maps Go.Sort

set_option maxHeartbeats 1600000 in
theorem stat_no_raw (t : Nat) (s : ByteArray) (c : Int) (w : World) (hc : ¬ c = 0) (HT : ∀ wb, Below w.heap.size w wb → Calls Tryd.prog 29 #[ptr t, .string s] wb fun e w' => e = .returned (.tuple #[.pointer none, .int .i64 c]) ∧ Below wb.heap.size wb w') :
    Calls Tryd.prog 14 #[ptr t, .string s] w fun e w' => e = .returned (.tuple #[inV false 0 0, .int .i64 c]) ∧ Below w.heap.size w w' := by
  have hc1 : decide (c = 0) = false := by simpa using hc
  have A0 := below_alloc w (inO false 0 0)
  have I0 := In.alloc w false 0 0
  go_enter Tryd.func14, Tryd.ntmps14
  go_wp2_with fail
  refine (HT _ A0).mono ?_
  clear HT
  rintro e w1 ⟨rfl, B1⟩
  have I1 := I0.kept (Chg.ofBelowC B1) (fun h => h)
  have HA : Hid (Below w.heap.size w w1 ∧ In w1 w.heap.size (.bool false) (.int .i64 0) (.int .i64 0)) := ⟨A0.trans (B1.mono A0.size), I1⟩
  obtain ⟨d0, d1, d2⟩ := I1.c
  have fr := I1.fr
  clear A0 I0 B1 I1
  go_wp2_with fail
  obtain ⟨s1, s2⟩ := HA.out.2.put (.bool false) (.int .i64 0) (.int .i64 0)
  try simp only [Exit.inBlock, Exit.then]
  generalize World.setCell _ ⟨w.heap.size, 2, none⟩ _ = w9 at *
  obtain ⟨e0, e1, e2⟩ := s1.c
  refine bodyPost_ret (v := .tuple #[inV false 0 0, .int .i64 c]) ?_ rfl ?_
  · simp [results, Tryd.results14, go_sem, e0, e1, e2]
  · exact ⟨rfl, HA.out.1.trans (s2.below HA.out.1.size (fun k hk => by rw [hk]; exact Nat.le_refl _))⟩
set_option maxHeartbeats 1600000 in
theorem stat_ok_raw (t b : Nat) (s : ByteArray) (d : Bool) (n k : Int) (w : World) (HT : ∀ wb, Below w.heap.size w wb → Calls Tryd.prog 29 #[ptr t, .string s] wb fun e w' => e = .returned (.tuple #[ptr b, .int .i64 0]) ∧ Below wb.heap.size wb w') (HI : ∀ wb, Below w.heap.size w wb → Calls Tryd.prog 30 #[ptr b] wb fun e w' => e = .returned (inV d n k) ∧ Below wb.heap.size wb w') :
    Calls Tryd.prog 14 #[ptr t, .string s] w fun e w' => e = .returned (.tuple #[inV d n k, .int .i64 0]) ∧ Below w.heap.size w w' := by
  have A0 := below_alloc w (inO false 0 0)
  have I0 := In.alloc w false 0 0
  go_enter Tryd.func14, Tryd.ntmps14
  go_wp2_with fail
  refine (HT _ A0).mono ?_
  clear HT
  rintro e w1 ⟨rfl, B1⟩
  have I1 := I0.kept (Chg.ofBelowC B1) (fun h => h)
  have HA : Hid (Below w.heap.size w w1 ∧ In w1 w.heap.size (.bool false) (.int .i64 0) (.int .i64 0)) := ⟨A0.trans (B1.mono A0.size), I1⟩
  clear A0 I0 B1 I1
  go_wp2_with fail
  refine (HI _ HA.out.1).mono ?_
  clear HI
  rintro e w2 ⟨rfl, B2⟩
  have I2 := HA.out.2.kept (Chg.ofBelowC B2) (fun h => h)
  have HB : Hid (Below w.heap.size w w2 ∧ In w2 w.heap.size (.bool false) (.int .i64 0) (.int .i64 0)) := ⟨HA.out.1.trans (B2.mono HA.out.1.size), I2⟩
  obtain ⟨d0, d1, d2⟩ := I2.c
  have fr := I2.fr
  clear HA B2 I2
  go_wp2_with fail
  obtain ⟨s1, s2⟩ := HB.out.2.put (.bool d) (.int .i64 n) (.int .i64 k)
  try simp only [Exit.inBlock, Exit.then]
  generalize World.setCell _ ⟨w.heap.size, 2, none⟩ _ = w9 at *
  obtain ⟨e0, e1, e2⟩ := s1.c
  refine bodyPost_ret (v := .tuple #[inV d n k, .int .i64 0]) ?_ rfl ?_
  · simp [results, Tryd.results14, go_sem, e0, e1, e2]
  · exact ⟨rfl, HB.out.1.trans (s2.below HB.out.1.size (fun k hk => by rw [hk]; exact Nat.le_refl _))⟩
/-- What Stat tells of a node. -/
def Nd.inf : Nd → Value
  | .file bs => inV false bs.length 0
  | .dir _ kn => inV true 0 kn.length
theorem Tr.info {w : World} {t : Nat} {F : Pth → Option Nd} {A : Pth → Nat} {O : Nat → Option (Pth × Nat)} {bl ino : Int} {K : Nat} (h : Tr w t F A O bl ino K) {p : Pth} {nd : Nd} (hp : F p = some nd) :
    Calls Tryd.prog 30 #[ptr (A p)] w fun e w' => e = .returned nd.inf ∧ Below w.heap.size w w' := by
  cases nd with
  | file bs =>
    obtain ⟨m0, ⟨v, m1, m2, m3⟩, m4, m5⟩ := h.nd _ _ hp
    obtain ⟨a, c, rfl⟩ := own_form' m2
    exact info_raw (A p) true a bs.length c none 0 w m0 m1 m4 (fun wb _ => len_nil wb)
  | dir s kn =>
    obtain ⟨m, m0, m1, m2, m3, mO, mM, htm, hAm⟩ := h.dirM hp
    exact info_raw (A p) false none 0 0 (some m) kn.length w m0 m1 m2 (fun wb hb => (mM.kept ((Chg.ofBelowC hb).block m mM.lt (fun h => h))).len 3)
theorem stat_no {s : ByteArray} {t : Nat} {F : Pth → Option Nd} {A : Pth → Nat} {O : Nat → Option (Pth × Nat)} {bl ino : Int} {K : Nat} {w : World} (h : Tr w t F A O bl ino K) (hs : s.size ≤ 3000) {c : Int} (hE : thE F s = c) (hc : ¬ c = 0) :
    Calls Tryd.prog 14 #[ptr t, .string s] w fun e w' => e = .returned (.tuple #[inV false 0 0, .int .i64 c]) ∧ Below w.heap.size w w' :=
  stat_no_raw t s c w hc fun _wb hb => there_no (h.below hb) hs hE hc
theorem inf_form (nd : Nd) : ∃ d n k, nd.inf = inV d n k := by cases nd <;> exact ⟨_, _, _, rfl⟩
theorem stat_ok {s : ByteArray} {t : Nat} {F : Pth → Option Nd} {A : Pth → Nat} {O : Nat → Option (Pth × Nat)} {bl ino : Int} {K : Nat} {w : World} (h : Tr w t F A O bl ino K) (hs : s.size ≤ 3000) (hE : thE F s = 0) {nd : Nd} (hn : F (spN s) = some nd) :
    Calls Tryd.prog 14 #[ptr t, .string s] w fun e w' => e = .returned (.tuple #[nd.inf, .int .i64 0]) ∧ Below w.heap.size w w' := by
  obtain ⟨d, n, k, e⟩ := inf_form nd
  rw [e]
  refine stat_ok_raw t (A (spN s)) s d n k w (fun wb hb => (there_ok (h.below hb) hs hE).2) (fun wb hb => ?_)
  rw [← e]
  exact (h.below hb).info hn

set_option maxHeartbeats 1600000 in
theorem read_no {s : ByteArray} {t : Nat} {F : Pth → Option Nd} {A : Pth → Nat} {O : Nat → Option (Pth × Nat)} {bl ino : Int} {K : Nat} {w : World} (h : Tr w t F A O bl ino K) (hs : s.size ≤ 3000) {c : Int} (hE : thE F s = c) (hc : ¬ c = 0) :
    Calls Tryd.prog 17 #[ptr t, .string s] w fun e w' => e = .returned (.tuple #[.slice none 0 0, .int .i64 c]) ∧ Below w.heap.size w w' := by
  have HT : Hid (Calls Tryd.prog 29 #[ptr t, .string s] w fun e w' => e = .returned (.tuple #[.pointer none, .int .i64 c]) ∧ Below w.heap.size w w') := there_no h hs hE hc
  have hc1 : decide (c = 0) = false := by simpa using hc
  clear h hE
  go_enter Tryd.func17, Tryd.ntmps17
  go_wp2_with fail
  refine HT.out.mono ?_
  rintro e w1 ⟨rfl, B1⟩
  clear HT
  have HB : Hid (Below w.heap.size w w1) := B1
  clear B1
  go_wp2_with fail
  go_ret2
  exact ⟨rfl, HB.out⟩
set_option maxHeartbeats 1600000 in
theorem read_dir {s : ByteArray} {t : Nat} {F : Pth → Option Nd} {A : Pth → Nat} {O : Nat → Option (Pth × Nat)} {bl ino : Int} {K : Nat} {w : World} (h : Tr w t F A O bl ino K) (hs : s.size ≤ 3000) (hE : thE F s = 0) {n : Nat} {kn : List ByteArray} (hn : F (spN s) = some (.dir n kn)) :
    Calls Tryd.prog 17 #[ptr t, .string s] w fun e w' => e = .returned (.tuple #[.slice none 0 0, .int .i64 10]) ∧ Below w.heap.size w w' := by
  have HT : Hid (Calls Tryd.prog 29 #[ptr t, .string s] w fun e w' => e = .returned (.tuple #[ptr (A (spN s)), .int .i64 0]) ∧ Below w.heap.size w w') := (there_ok h hs hE).2
  have c0 := (h.nd _ _ hn).1
  clear h hE hn
  go_enter Tryd.func17, Tryd.ntmps17
  go_wp2_with fail
  refine HT.out.mono ?_
  rintro e w1 ⟨rfl, B1⟩
  have g0 := (Chg.ofBelowC B1).cell c0 (fun h => h)
  clear HT
  have HB : Hid (Below w.heap.size w w1) := B1
  clear B1
  go_wp2_with fail
  go_ret2
  exact ⟨rfl, HB.out⟩
set_option maxHeartbeats 1600000 in
theorem read_ok {s : ByteArray} {t : Nat} {F : Pth → Option Nd} {A : Pth → Nat} {O : Nat → Option (Pth × Nat)} {bl ino : Int} {K : Nat} {w : World} (h : Tr w t F A O bl ino K) (hs : s.size ≤ 3000) (hE : thE F s = 0) {bs : List Int} (hn : F (spN s) = some (.file bs)) :
    Calls Tryd.prog 17 #[ptr t, .string s] w fun e w' => ∃ v, e = .returned (.tuple #[v, .int .i64 0]) ∧ w'.ownsRow w.heap.size 5 1 v bs.length (bcells bs) ∧ Below w.heap.size w w' := by
  have HT : Hid (Calls Tryd.prog 29 #[ptr t, .string s] w fun e w' => e = .returned (.tuple #[ptr (A (spN s)), .int .i64 0]) ∧ Below w.heap.size w w') := (there_ok h hs hE).2
  obtain ⟨c0, ⟨v, c1, m2, m3⟩, m4, m5⟩ := h.nd _ _ hn
  have hl := (h.fil _ _ hn).1
  have HM : Hid (∀ wb, Below w.heap.size w wb → Calls Tryd.prog 34 #[v] wb fun e w' => ∃ u, e = .returned u ∧ w'.ownsRow wb.heap.size 5 1 u bs.length (bcells bs) ∧ Chg (fun _ => False) wb w') := fun wb hb => cloneB_any v bs wb (Bs.ofOwns (own_far m2 (Chg.ofBelowC hb) (fun _ _ h => h))) (by omega)
  obtain ⟨a, c, rfl⟩ := own_form' m2
  clear h hE hn m2 m3 m4 m5 hl
  go_enter Tryd.func17, Tryd.ntmps17
  go_wp2_with fail
  refine HT.out.mono ?_
  rintro e w1 ⟨rfl, B1⟩
  have g0 := (Chg.ofBelowC B1).cell c0 (fun h => h)
  have g1 := (Chg.ofBelowC B1).cell c1 (fun h => h)
  clear HT
  have HB : Hid (Below w.heap.size w w1) := B1
  clear B1
  go_wp2_with fail
  refine (HM.out w1 HB.out).mono ?_
  rintro e w2 ⟨u, rfl, ho, C⟩
  have HO : Hid (w2.ownsRow w.heap.size 5 1 u bs.length (bcells bs) ∧ Below w.heap.size w w2) := ⟨own_monoT ho HB.out.size, HB.out.trans (C.below HB.out.size (fun _ h => h.elim))⟩
  clear HM ho C HB
  go_wp2_with fail
  go_ret2
  exact ⟨u, rfl, HO.out⟩
set_option maxHeartbeats 1600000 in
theorem list_no {s : ByteArray} {t : Nat} {F : Pth → Option Nd} {A : Pth → Nat} {O : Nat → Option (Pth × Nat)} {bl ino : Int} {K : Nat} {w : World} (h : Tr w t F A O bl ino K) (hs : s.size ≤ 3000) {c : Int} (hE : thE F s = c) (hc : ¬ c = 0) :
    Calls Tryd.prog 15 #[ptr t, .string s] w fun e w' => e = .returned (.tuple #[.slice none 0 0, .int .i64 c]) ∧ Below w.heap.size w w' := by
  have HT : Hid (Calls Tryd.prog 29 #[ptr t, .string s] w fun e w' => e = .returned (.tuple #[.pointer none, .int .i64 c]) ∧ Below w.heap.size w w') := there_no h hs hE hc
  have hc1 : decide (c = 0) = false := by simpa using hc
  clear h hE
  go_enter Tryd.func15, Tryd.ntmps15
  go_wp2_with fail
  refine HT.out.mono ?_
  rintro e w1 ⟨rfl, B1⟩
  clear HT
  have HB : Hid (Below w.heap.size w w1) := B1
  clear B1
  go_wp2_with fail
  go_ret2
  exact ⟨rfl, HB.out⟩
set_option maxHeartbeats 1600000 in
theorem list_file {s : ByteArray} {t : Nat} {F : Pth → Option Nd} {A : Pth → Nat} {O : Nat → Option (Pth × Nat)} {bl ino : Int} {K : Nat} {w : World} (h : Tr w t F A O bl ino K) (hs : s.size ≤ 3000) (hE : thE F s = 0) {bs : List Int} (hn : F (spN s) = some (.file bs)) :
    Calls Tryd.prog 15 #[ptr t, .string s] w fun e w' => e = .returned (.tuple #[.slice none 0 0, .int .i64 11]) ∧ Below w.heap.size w w' := by
  have HT : Hid (Calls Tryd.prog 29 #[ptr t, .string s] w fun e w' => e = .returned (.tuple #[ptr (A (spN s)), .int .i64 0]) ∧ Below w.heap.size w w') := (there_ok h hs hE).2
  have c0 := (h.nd _ _ hn).1
  clear h hE hn
  go_enter Tryd.func15, Tryd.ntmps15
  go_wp2_with fail
  refine HT.out.mono ?_
  rintro e w1 ⟨rfl, B1⟩
  have g0 := (Chg.ofBelowC B1).cell c0 (fun h => h)
  clear HT
  have HB : Hid (Below w.heap.size w w1) := B1
  clear B1
  go_wp2_with fail
  go_ret2
  exact ⟨rfl, HB.out⟩
set_option maxHeartbeats 1600000 in
theorem list_ok {s : ByteArray} {t : Nat} {F : Pth → Option Nd} {A : Pth → Nat} {O : Nat → Option (Pth × Nat)} {bl ino : Int} {K : Nat} {w : World} (h : Tr w t F A O bl ino K) (hK : K ≤ 90000) (hs : s.size ≤ 3000) (hE : thE F s = 0) {n : Nat} {kn : List ByteArray} (hn : F (spN s) = some (.dir n kn)) :
    Calls Tryd.prog 15 #[ptr t, .string s] w fun e w' => ∃ v, e = .returned (.tuple #[v, .int .i64 0]) ∧ w'.ownsRow w.heap.size 9 1 v kn.length ((nmL kn).map encStr) ∧ Below w.heap.size w w' := by
  have HT : Hid (Calls Tryd.prog 29 #[ptr t, .string s] w fun e w' => e = .returned (.tuple #[ptr (A (spN s)), .int .i64 0]) ∧ Below w.heap.size w w') := (there_ok h hs hE).2
  have c0 := (h.nd _ _ hn).1
  have HM : Hid (∀ wb, Below w.heap.size w wb → Calls Tryd.prog 31 #[ptr (A (spN s))] wb fun e w' => ∃ v, e = .returned v ∧ w'.ownsRow wb.heap.size 9 1 v kn.length ((nmL kn).map encStr) ∧ Below wb.heap.size wb w') := fun wb hb => by
    obtain ⟨m, m0, m1, m2, m3, mO, mM, htm, hAm⟩ := (h.below hb).dirM hn
    obtain ⟨a1, a2, a3, a4⟩ := h.nms _ _ _ hn
    exact tnames_any _ m A _ kn wb m2 mM (by omega) a1 (fun x hx => name_size (a2 x hx))
  clear h hE hn
  go_enter Tryd.func15, Tryd.ntmps15
  go_wp2_with fail
  refine HT.out.mono ?_
  rintro e w1 ⟨rfl, B1⟩
  have g0 := (Chg.ofBelowC B1).cell c0 (fun h => h)
  clear HT
  have HB : Hid (Below w.heap.size w w1) := B1
  clear B1
  go_wp2_with fail
  refine (HM.out w1 HB.out).mono ?_
  rintro e w2 ⟨v, rfl, ho, B⟩
  have HO : Hid (w2.ownsRow w.heap.size 9 1 v kn.length ((nmL kn).map encStr) ∧ Below w.heap.size w w2) := ⟨own_monoT ho HB.out.size, HB.out.trans (B.mono HB.out.size)⟩
  clear HM ho B HB
  go_wp2_with fail
  go_ret2
  exact ⟨v, rfl, HO.out⟩
end Go.Proofs.YtdcmkcplklkfmaaDoor
