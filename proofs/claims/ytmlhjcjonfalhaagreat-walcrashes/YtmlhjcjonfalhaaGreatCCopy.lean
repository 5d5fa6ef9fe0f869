/-
  Rows copied into new memory: append([]T{}, x...); Twin of the document's log.
-/
import Derived.Test.YtmlhjcjonfalhaaGreatCPlay9
import Derived.Test.YtmlhjcjonfalhaaGreatLists
namespace Go.Proofs.YtmlhjcjonfalhaaGreat.C
open Go.RowKit Go.Maps

theorem info4' : (Tryz.prog.info? 4).map (fun i => (i.zero, i.size, i.bytes)) = some (some (.bool false), 1, 1) := by kernel_rfl
/-- A row of 70 copied. -/
theorem copy_row {w : World} {b c : Nat} {g : Nat → Value} (h : Row w b 70 g) (h1 : ∀ n, (g n).oneCell' = true) (t e : TypeId) (i : TypeInfo) (z : Value) (bytes : Nat) (ht : Tryz.prog.underlying t = some (.slice e)) (hi : Tryz.prog.info? e = some i) (hz : i.zero = some z) (hs : i.size = 1) (hb : i.bytes = bytes) (hzs : z.cells.size = 1) (hbb : bytes ≤ 100) :
    ∃ (g' c' : Nat) (w' : World), (Builtin.append_ #[t, t] t #[.slice (some ⟨w.heap.size, 0, none⟩) 0 0, .slice (some ⟨b, 0, none⟩) 70 c]).run Tryz.prog (w.alloc (.cells #[] e)) = .ok (.slice (some ⟨g', 0, none⟩) 70 c') w' ∧ 70 ≤ c' ∧ Row w' g' 70 g ∧ Chg (fun _ => False) w w' ∧ w.heap.size ≤ g' ∧ g' < w'.heap.size := by
  have hown : (w.alloc (.cells #[] e)).ownsRow w.heap.size e 1 (.slice (some ⟨w.heap.size, 0, none⟩) 0 0) 0 [] := World.ownsRow_lit (base := w.heap.size) (e := e) (size := 1) w #[] 0 (Nat.le_refl _) (by simp [maxLen]) rfl
  have h2 := h.kept (Chg.alloc (fun _ => False) w (.cells #[] e)) (fun h => h)
  obtain ⟨v', w', hr, ho, hg, hne, hob⟩ := run_append_own_at (P := Tryz.prog) (w.alloc (.cells #[] e)) w.heap.size t t e i z 1 bytes ht hi hz hs hb hzs (by decide) _ 0 [] hown ⟨b, 0, none⟩ 70 c ((List.range 70).map g) (by simp)
    (fun j u hu => by
      have hj : j < 70 := by have := (List.getElem?_eq_some_iff.1 hu).1; simpa using this
      have e1 : u = g j := by simp [hj] at hu; exact hu.symm
      rw [add_zero_off, e1]
      exact h2.cell hj)
    (fun u hu => by obtain ⟨n, _, rfl⟩ := List.mem_map.1 hu; exact h1 n) (by simp [maxLen]) (by simp; omega) (by simp)
  have hc : Chg (fun _ => False) w w' := (Chg.alloc (fun _ => False) w (.cells #[] e)).trans (Chg.ofGrown hg) (fun k hk e => by simp [Value.ownBlock] at e; omega)
  simp only [Nat.zero_add, List.nil_append] at ho
  rcases ho.2 with ⟨_, h0⟩ | ⟨g', cap, cur, rfl, hb', hg', hnc, hcm, hcs, htake⟩
  · omega
  · exact ⟨g', cap, w', hr, hnc, Row.own ho (fun j hj => by simp [hj]), hc, hb', (Array.getElem?_eq_some_iff.1 hg').1⟩
/-- .. of none. -/
theorem copy_nil (w : World) (t e : TypeId) (i : TypeInfo) (ht : Tryz.prog.underlying t = some (.slice e)) (hi : Tryz.prog.info? e = some i) :
    (Builtin.append_ #[t, t] t #[.slice (some ⟨w.heap.size, 0, none⟩) 0 0, .slice none 0 0]).run Tryz.prog (w.alloc (.cells #[] e)) = .ok (.slice (some ⟨w.heap.size, 0, none⟩) 0 0) (w.alloc (.cells #[] e)) :=
  run_append_owned_none (w.alloc (.cells #[] e)) w.heap.size t t e i 1 ht hi _ _ [] (World.ownsRow_lit (base := w.heap.size) (e := e) (size := 1) w #[] 0 (Nat.le_refl _) (by simp [maxLen]) rfl)
theorem copy_strs {w : World} {b c : Nat} {T : Nat → ByteArray} (h : Row w b 70 (fun n => .string (T n))) :
    ∃ (g' c' : Nat) (w' : World), (Builtin.append_ #[45, 45] 45 #[.slice (some ⟨w.heap.size, 0, none⟩) 0 0, .slice (some ⟨b, 0, none⟩) 70 c]).run Tryz.prog (w.alloc (.cells #[] 9)) = .ok (.slice (some ⟨g', 0, none⟩) 70 c') w' ∧ 70 ≤ c' ∧ Row w' g' 70 (fun n => .string (T n)) ∧ Chg (fun _ => False) w w' ∧ w.heap.size ≤ g' ∧ g' < w'.heap.size := by
  obtain ⟨i9, hi9, hz90, hz91, hz92⟩ := info_parts info9
  exact copy_row h (fun _ => rfl) 45 9 i9 (.string ByteArray.empty) 16 Tryz.underlying45 hi9 hz90 hz91 hz92 rfl (by omega)
theorem copy_bools {w : World} {b c : Nat} {T : Nat → Bool} (h : Row w b 70 (fun n => .bool (T n))) :
    ∃ (g' c' : Nat) (w' : World), (Builtin.append_ #[46, 46] 46 #[.slice (some ⟨w.heap.size, 0, none⟩) 0 0, .slice (some ⟨b, 0, none⟩) 70 c]).run Tryz.prog (w.alloc (.cells #[] 4)) = .ok (.slice (some ⟨g', 0, none⟩) 70 c') w' ∧ 70 ≤ c' ∧ Row w' g' 70 (fun n => .bool (T n)) ∧ Chg (fun _ => False) w w' ∧ w.heap.size ≤ g' ∧ g' < w'.heap.size := by
  obtain ⟨i4, hi4, hz40, hz41, hz42⟩ := info_parts info4'
  exact copy_row h (fun _ => rfl) 46 4 i4 (.bool false) 1 Tryz.underlying46 hi4 hz40 hz41 hz42 rfl (by omega)
/-- What the document's log keeps of its transactions, copied. -/
theorem copy_news {w : World} {nv : Value} (h : nv = .slice none 0 0 ∨ ∃ (b c : Nat) (T : Nat → ByteArray), nv = .slice (some ⟨b, 0, none⟩) 70 c ∧ Row w b 70 (fun n => .string (T n))) :
    ∃ (v' : Value) (w' : World), (Builtin.append_ #[45, 45] 45 #[.slice (some ⟨w.heap.size, 0, none⟩) 0 0, nv]).run Tryz.prog (w.alloc (.cells #[] 9)) = .ok v' w' ∧ Chg (fun _ => False) w w' ∧ ∃ a n c, v' = .slice a n c := by
  obtain ⟨i9, hi9, hz90, hz91, hz92⟩ := info_parts info9
  rcases h with rfl | ⟨b, c, T, rfl, h⟩
  · exact ⟨_, _, copy_nil w 45 9 i9 Tryz.underlying45 hi9, Chg.alloc _ _ _, _, _, _, rfl⟩
  · obtain ⟨g', c', w', hr, _, _, hc, _⟩ := copy_strs (c := c) h
    exact ⟨_, w', hr, hc, _, _, _, rfl⟩

section
variable {X : Nat → Prop} {w0 w w' : World} {pp pr : Nat} {R : Rf} {lb lc db dc nb nc : Nat} {nv : Value}
set_option maxHeartbeats 3200000 in
set_option maxRecDepth 100000 in
theorem twin_any (w : World) (h : RfAt w pr R lb lc db dc nb nc nv) (hn : NvOk X w0 w pp pr lb db nv) : Calls Tryz.prog 30 #[.pointer (some ⟨pr, 0, none⟩)] w fun e w' => ∃ pt, e = .returned (.pointer (some ⟨pt, 0, none⟩)) ∧ Chg (fun _ => False) w w' := by
  obtain ⟨na, nn, ncc, rfl⟩ := h.nvf
  have c0 := h.c0
  have c1 := h.c1
  have c2 := h.c2
  have c3 := h.c3
  have c4 := h.c4
  have c5 := h.c5
  have c6 := h.c6
  obtain ⟨L, hL⟩ : ∃ L, Value.slice (some ⟨lb, 0, none⟩) 70 lc = L := ⟨_, rfl⟩
  have hpr := h.lt
  -- the struct
  have k1 := Chg.alloc (fun _ => False) w (.cells #[.slice (some ⟨lb, 0, none⟩) 70 lc, .slice (some ⟨db, 0, none⟩) 70 dc, .int .i64 (R.pend : Int), .bool R.op, .slice na nn ncc, .int .i64 (R.wrote : Int), .int .i64 (R.syncs : Int)] 48)
  have b1 := heap_alloc_new w (.cells #[.slice (some ⟨lb, 0, none⟩) 70 lc, .slice (some ⟨db, 0, none⟩) 70 dc, .int .i64 (R.pend : Int), .bool R.op, .slice na nn ncc, .int .i64 (R.wrote : Int), .int .i64 (R.syncs : Int)] 48)
  have hz1 := World.size_alloc w (.cells #[.slice (some ⟨lb, 0, none⟩) 70 lc, .slice (some ⟨db, 0, none⟩) 70 dc, .int .i64 (R.pend : Int), .bool R.op, .slice na nn ncc, .int .i64 (R.wrote : Int), .int .i64 (R.syncs : Int)] 48)
  obtain ⟨W1, hW1⟩ : ∃ W1, w.alloc (.cells #[.slice (some ⟨lb, 0, none⟩) 70 lc, .slice (some ⟨db, 0, none⟩) 70 dc, .int .i64 (R.pend : Int), .bool R.op, .slice na nn ncc, .int .i64 (R.wrote : Int), .int .i64 (R.syncs : Int)] 48) = W1 := ⟨_, rfl⟩
  rw [hW1] at k1 b1 hz1
  -- L
  obtain ⟨g1, d1, w1, hr1, _, _, q1, _, _⟩ := copy_strs (c := lc) (h.l.kept k1 (fun h => h))
  have l1 : w.heap.size < W1.heap.size := by omega
  have b2 := (q1.block w.heap.size l1 (fun h => h)).trans b1
  have k2 : Chg (fun b => b = w.heap.size) w1 (w1.setCell ⟨w.heap.size, 0, none⟩ (.slice (some ⟨g1, 0, none⟩) 70 d1)) := Chg.setCell _ _ _ rfl
  have b3 := heap_setCell_same w1 w.heap.size 0 _ 48 (.slice (some ⟨g1, 0, none⟩) 70 d1) b2
  have kk2 : Chg (fun b => b = w.heap.size) w (w1.setCell ⟨w.heap.size, 0, none⟩ (.slice (some ⟨g1, 0, none⟩) 70 d1)) := ((k1.trans q1 (fun _ _ h => h)).mono (fun _ _ h => h.elim)).trans k2 (fun _ _ h => h)
  -- Dirty
  obtain ⟨g2, d2, w3, hr2, _, _, q2, _, _⟩ := copy_bools (c := dc) (h.d.kept kk2 (fun e => by have := h.d.lt; omega))
  have z2 : (w1.setCell ⟨w.heap.size, 0, none⟩ (.slice (some ⟨g1, 0, none⟩) 70 d1)).heap.size = w1.heap.size := by simp
  rw [z2] at hr2
  have l2 : w.heap.size < (w1.setCell ⟨w.heap.size, 0, none⟩ (.slice (some ⟨g1, 0, none⟩) 70 d1)).heap.size := by rw [z2]; have := q1.size; omega
  have b4 := (q2.block w.heap.size l2 (fun h => h)).trans b3
  have k3 : Chg (fun b => b = w.heap.size) w3 (w3.setCell ⟨w.heap.size, 1, none⟩ (.slice (some ⟨g2, 0, none⟩) 70 d2)) := Chg.setCell _ _ _ rfl
  have b5 := heap_setCell_same w3 w.heap.size 1 _ 48 (.slice (some ⟨g2, 0, none⟩) 70 d2) b4
  have kk3 : Chg (fun b => b = w.heap.size) w (w3.setCell ⟨w.heap.size, 1, none⟩ (.slice (some ⟨g2, 0, none⟩) 70 d2)) := (kk2.trans q2 (fun _ _ h => h.elim)).trans k3 (fun _ _ h => h)
  -- New
  obtain ⟨v3, w5, hr3, q3, fa, fn, fc, hv3⟩ : ∃ (v' : Value) (w' : World), (Builtin.append_ #[45, 45] 45 #[.slice (some ⟨(w3.setCell ⟨w.heap.size, 1, none⟩ (.slice (some ⟨g2, 0, none⟩) 70 d2)).heap.size, 0, none⟩) 0 0, .slice na nn ncc]).run Tryz.prog ((w3.setCell ⟨w.heap.size, 1, none⟩ (.slice (some ⟨g2, 0, none⟩) 70 d2)).alloc (.cells #[] 9)) = .ok v' w' ∧ Chg (fun _ => False) (w3.setCell ⟨w.heap.size, 1, none⟩ (.slice (some ⟨g2, 0, none⟩) 70 d2)) w' ∧ ∃ a n c, v' = .slice a n c := by
    refine copy_news ?_
    rcases hn with hn | ⟨b, c, T, e1, e2, e3, _⟩
    · exact .inl hn
    · have := e3.lt
      exact .inr ⟨b, c, T, e1, e3.kept kk3 (fun e => by omega)⟩
  subst hv3
  have z3 : (w3.setCell ⟨w.heap.size, 1, none⟩ (.slice (some ⟨g2, 0, none⟩) 70 d2)).heap.size = w3.heap.size := by simp
  rw [z3] at hr3
  have l3 : w.heap.size < (w3.setCell ⟨w.heap.size, 1, none⟩ (.slice (some ⟨g2, 0, none⟩) 70 d2)).heap.size := by rw [z3]; have := q2.size; omega
  have b6 := (q3.block w.heap.size l3 (fun h => h)).trans b5
  have k4 : Chg (fun b => b = w.heap.size) w5 (w5.setCell ⟨w.heap.size, 4, none⟩ (.slice fa fn fc)) := Chg.setCell _ _ _ rfl
  have HQ : Hid (Chg (fun _ => False) w (w5.setCell ⟨w.heap.size, 4, none⟩ (.slice fa fn fc))) := (((kk3.trans q3 (fun _ _ h => h.elim)).trans k4 (fun _ _ h => h)).mono (fun i hi e => by omega))
  rw [hz1, ← hW1] at hr1
  have s1 : w1.cell? ⟨w.heap.size, 0, none⟩ = some (.slice (some ⟨lb, 0, none⟩) 70 lc) := by rw [cell_of_row _ _ _ _ _ _ b2]; rfl
  have s2 : w1.frozen? ⟨w.heap.size, 0, none⟩ = false := frozen_of_row w1 _ _ _ _ b2
  have s3 : w3.cell? ⟨w.heap.size, 1, none⟩ = some (.slice (some ⟨db, 0, none⟩) 70 dc) := by rw [cell_of_row _ _ _ _ _ _ b4]; rfl
  have s4 : w3.frozen? ⟨w.heap.size, 1, none⟩ = false := frozen_of_row w3 _ _ _ _ b4
  have s5 : w5.cell? ⟨w.heap.size, 4, none⟩ = some (.slice na nn ncc) := by rw [cell_of_row _ _ _ _ _ _ b6]; rfl
  have s6 : w5.frozen? ⟨w.heap.size, 4, none⟩ = false := frozen_of_row w5 _ _ _ _ b6
  have hne : pr ≠ w.heap.size := by omega
  have t1 := (kk2.trans (Chg.alloc (fun _ => False) _ (.cells #[] 4)) (fun _ _ h => h.elim)).cell c1 (fun e => hne e)
  have t4 := (kk3.trans (Chg.alloc (fun _ => False) _ (.cells #[] 9)) (fun _ _ h => h.elim)).cell c4 (fun e => hne e)
  clear h hn k1 b1 hz1 hW1 q1 l1 b2 k2 b3 kk2 q2 z2 l2 b4 k3 b5 kk3 q3 z3 l3 b6 k4 hL L
  go_enter Tryz.func30, Tryz.ntmps30
  go_wp2_with (at_builtin; go_must (first | (refine Lib.wpList_append_run _ rfl _ _ _ _ rfl _ _ rfl rfl _ _ hr1 ?_; clear hr1) | (refine Lib.wpList_append_run _ rfl _ _ _ _ rfl _ _ rfl rfl _ _ hr2 ?_; clear hr2) | (refine Lib.wpList_append_run _ rfl _ _ _ _ rfl _ _ rfl rfl _ _ hr3 ?_; clear hr3)))
  go_ret
  exact ⟨_, rfl, HQ.out⟩
end
end Go.Proofs.YtmlhjcjonfalhaaGreat.C

namespace Go.Proofs.YtmlhjcjonfalhaaGreat.C
open Go.RowKit Go.Maps

/-- Where the power goes. -/
structure CutD where
  n : Int
  pv : Value
  ps : List Int
structure CutAt (w : World) (b o : Nat) (d : CutD) : Prop where
  c0 : w.cell? ⟨b, o, none⟩ = some (.int .i64 d.n)
  c1 : w.cell? ⟨b, o + 1, none⟩ = some d.pv
  is : Is w d.pv d.ps
  n0 : -9223372036854775808 ≤ d.n ∧ d.n < 9223372036854775808
/-- v is a slice of cuts that reads l. -/
def CutsAt (w : World) (v : Value) (l : List CutD) : Prop :=
  ((∃ a c, v = .slice a 0 c) ∧ l = []) ∨
  ∃ b off c, v = .slice (some ⟨b, off, none⟩) l.length c ∧ l.length ≤ c ∧ ∀ (j : Nat) d, l[j]? = some d → CutAt w b (off + j * 2) d
theorem CutAt.kept {w w' : World} {b o : Nat} {d : CutD} (h : CutAt w b o d) (hc : Chg (fun _ => False) w w') : CutAt w' b o d :=
  ⟨hc.cell h.c0 (fun h => h), hc.cell h.c1 (fun h => h), h.is.kept hc (fun _ _ h => h), h.n0⟩
theorem CutsAt.kept {w w' : World} {v : Value} {l : List CutD} (h : CutsAt w v l) (hc : Chg (fun _ => False) w w') : CutsAt w' v l := by
  rcases h with h | ⟨b, off, c, e, hl, hd⟩
  · exact .inl h
  · exact .inr ⟨b, off, c, e, hl, fun j d hj => (hd j d hj).kept hc⟩
theorem CutsAt.form {w : World} {v : Value} {l : List CutD} (h : CutsAt w v l) : ∃ a c, v = .slice a l.length c := by
  rcases h with ⟨⟨a, c, rfl⟩, rfl⟩ | ⟨b, off, c, rfl, _⟩
  · exact ⟨a, c, rfl⟩
  · exact ⟨_, _, rfl⟩
theorem CutsAt.tail {w : World} {b off c : Nat} {d : CutD} {l : List CutD} (h : CutsAt w (.slice (some ⟨b, off, none⟩) (l.length + 1) c) (d :: l)) : CutsAt w (.slice (some ⟨b, off + 2, none⟩) l.length (c - 1)) l ∧ CutAt w b off d := by
  rcases h with ⟨_, e⟩ | ⟨b', off', c', e, hl, hd⟩
  · cases e
  · cases e
    refine ⟨.inr ⟨b, off + 2, c - 1, rfl, by simp at hl; omega, fun j x hj => ?_⟩, ?_⟩
    · have := hd (j + 1) x (by simpa using hj)
      rw [show off + (j + 1) * 2 = off + 2 + j * 2 by omega] at this
      exact this
    · simpa using hd 0 d rfl

/-- The slice of the cuts behind the first. -/
def NextC (b off n c : Nat) (v : Value) : Prop := v = .slice (some ⟨b, off + 2, none⟩) n (c - 1) ∨ (n = 0 ∧ ∃ a k, v = .slice a 0 k)
theorem NextC.cuts {w : World} {b off c : Nat} {d : CutD} {l : List CutD} {v : Value} (h : NextC b off l.length c v) (hc : CutsAt w (.slice (some ⟨b, off, none⟩) (l.length + 1) c) (d :: l)) : CutsAt w v l := by
  rcases h with rfl | ⟨h, a, k, rfl⟩
  · exact hc.tail.1
  · exact .inl ⟨⟨a, k, rfl⟩, List.eq_nil_of_length_eq_zero h⟩

section
variable {pp pd : Nat} {w w' : World}
set_option maxHeartbeats 1600000 in
theorem warm_none (a : Option Addr) (c : Nat) (w : World) (h5 : w.cell? ⟨pp, 5, none⟩ = some (.slice a 0 c)) : Calls Tryz.prog 9 #[.pointer (some ⟨pp, 0, none⟩)] w fun e w' => e = .returned (.tuple #[]) ∧ w' = w := by
  go_enter Tryz.func9, Tryz.ntmps9
  go_wp2
  go_end0
  exact ⟨rfl, rfl⟩
set_option maxHeartbeats 3200000 in
set_option maxRecDepth 100000 in
theorem warm_some {Q : World → Prop} {b off c n : Nat} {d : CutD} (w : World) (h0 : w.cell? ⟨pp, 0, none⟩ = some (.pointer (some ⟨pd, 0, none⟩))) (h5 : w.cell? ⟨pp, 5, none⟩ = some (.slice (some ⟨b, off, none⟩) (n + 1) c)) (hc : n + 1 ≤ c) (hd : CutAt w b off d)
    (hA : Calls Tryz.prog 29 #[.pointer (some ⟨pd, 0, none⟩), .int .i64 d.n, d.pv] w.drew fun e w' => e = .returned (.tuple #[]) ∧ Q w') (hQ : ∀ w', Q w' → w'.cell? ⟨pp, 5, none⟩ = some (.slice (some ⟨b, off, none⟩) (n + 1) c) ∧ w'.frozen? ⟨pp, 5, none⟩ = false ∧ w'.cell? ⟨pp, 0, none⟩ = some (.pointer (some ⟨pd, 0, none⟩)) ∧ w'.cell? ⟨b, off, none⟩ = some (.int .i64 d.n) ∧ w'.cell? ⟨b, off + 1, none⟩ = some d.pv) :
    Calls Tryz.prog 9 #[.pointer (some ⟨pp, 0, none⟩)] w fun e w' => e = .returned (.tuple #[]) ∧ ∃ w1 cv', Q w1 ∧ w' = w1.setCell ⟨pp, 5, none⟩ cv' ∧ NextC b off n c cv' := by
  obtain ⟨pa, pn, pc, hpv⟩ : ∃ a n c, d.pv = .slice a n c := by
    obtain ⟨a, c, e, _⟩ := hd.is.form
    exact ⟨a, _, c, e⟩
  have e0 := hd.c0
  have e1 := hd.c1
  rw [hpv] at e1 hA hQ
  obtain ⟨dn, hdn⟩ : ∃ x, d.n = x := ⟨_, rfl⟩
  rw [hdn] at e0 hA hQ
  have HA : Hid (Calls Tryz.prog 29 #[.pointer (some ⟨pd, 0, none⟩), .int .i64 dn, .slice pa pn pc] w.drew fun e w' => e = .returned (.tuple #[]) ∧ Q w') := hA
  have HQ : Hid (∀ w', Q w' → w'.cell? ⟨pp, 5, none⟩ = some (.slice (some ⟨b, off, none⟩) (n + 1) c) ∧ w'.frozen? ⟨pp, 5, none⟩ = false ∧ w'.cell? ⟨pp, 0, none⟩ = some (.pointer (some ⟨pd, 0, none⟩)) ∧ w'.cell? ⟨b, off, none⟩ = some (.int .i64 dn) ∧ w'.cell? ⟨b, off + 1, none⟩ = some (.slice pa pn pc)) := hQ
  clear hd hA hQ hpv hdn
  have k0 : (0 : Int) < ((n + 1 : Nat) : Int) := by omega
  go_enter Tryz.func9, Tryz.ntmps9
  go_wp2_with fail
  go_region_held (fun w' => w'.cell? ⟨pp, 0, none⟩ = some (.pointer (some ⟨pd, 0, none⟩)) ∧ w'.cell? ⟨pp, 5, none⟩ = some (.slice (some ⟨b, off, none⟩) (n + 1) c) ∧ w'.cell? ⟨b, off, none⟩ = some (.int .i64 dn) ∧ w'.cell? ⟨b, off + 1, none⟩ = some (.slice pa pn pc))
    (first | assumption | exact ⟨h0, h5, e0, e1⟩ | exact ⟨(HQ.out _ hq).2.2.1, (HQ.out _ hq).1, (HQ.out _ hq).2.2.2⟩)
    (first | (go_at_call 29; refine HA.out.mono ?_; clear HA; rintro e w2 ⟨rfl, hq⟩))
  obtain ⟨q5, qf, _⟩ := HQ.out _ hq
  have HH : Hid (Q w2) := hq
  clear HQ hq h0 h5 e0 e1
  by_cases hc1 : c = 1
  · subst hc1
    have hn : n = 0 := by omega
    subst hn
    go_wp2
    go_end0
    exact ⟨rfl, w2, _, HH.out, rfl, .inr ⟨rfl, _, _, rfl⟩⟩
  · have hc2 : ¬ (c - 1 = 0) := by omega
    go_wp2
    all_goals
      go_end0
      first
        | exact ⟨rfl, w2, _, HH.out, rfl, .inl rfl⟩
        | exact ⟨rfl, w2, _, HH.out, rfl, .inr ⟨by omega, _, _, rfl⟩⟩
end

section
variable {X : Nat → Prop} {w0 w w' : World} {pd pp pl : Nat} {f : Nat → List Int} {com : Nat → Option (List Int)} {pend N : Nat} {x1 x2 x3 mv cv : Value} {cs : List CutD}
/-- The world's block. -/
def WBlk (w : World) (pp pd : Nat) (x1 x2 x3 mv cv : Value) : Prop := w.heap[pp]? = some (.cells #[.pointer (some ⟨pd, 0, none⟩), x1, x2, x3, mv, cv] 44 (0, 0))
theorem WBlk.c (h : WBlk w pp pd x1 x2 x3 mv cv) : w.cell? ⟨pp, 0, none⟩ = some (.pointer (some ⟨pd, 0, none⟩)) ∧ w.cell? ⟨pp, 4, none⟩ = some mv ∧ w.cell? ⟨pp, 5, none⟩ = some cv ∧ w.frozen? ⟨pp, 4, none⟩ = false ∧ w.frozen? ⟨pp, 5, none⟩ = false :=
  ⟨by rw [cell_of_row _ _ _ _ _ _ h]; rfl, by rw [cell_of_row _ _ _ _ _ _ h]; rfl, by rw [cell_of_row _ _ _ _ _ _ h]; rfl, frozen_of_row w _ _ _ _ h, frozen_of_row w _ _ _ _ h⟩
theorem WBlk.lt (h : WBlk w pp pd x1 x2 x3 mv cv) : pp < w.heap.size := (Array.getElem?_eq_some_iff.1 h).1
theorem WBlk.sm (h : WBlk w pp pd x1 x2 x3 mv cv) (hs : Sm X w w') (hx : X pp) : WBlk w' pp pd x1 x2 x3 mv cv := (hs pp hx).trans h
theorem WBlk.cut (h : WBlk w pp pd x1 x2 x3 mv cv) (v : Value) : WBlk (w.setCell ⟨pp, 5, none⟩ v) pp pd x1 x2 x3 mv v := by
  have := heap_setCell_same w pp 5 _ 44 v h
  unfold WBlk
  simpa using this
/-- Few picks each. -/
def Few (cs : List CutD) : Prop := ∀ d ∈ cs, d.ps.length ≤ 100
/-- Blocks of X but pp are as they were. -/
def SmB (X : Nat → Prop) (pp : Nat) (w w' : World) : Prop := ∀ b, X b → b ≠ pp → w'.heap[b]? = w.heap[b]?
theorem SmB.trans {a b c : World} (h : SmB X pp a b) (k : SmB X pp b c) : SmB X pp a c := fun x hx hn => (k x hx hn).trans (h x hx hn)
theorem Sm.toB (h : Sm X w w') : SmB X pp w w' := fun b hb _ => h b hb
theorem SmB.set (w : World) (i : Nat) (v : Value) : SmB X pp w (w.setCell ⟨pp, i, none⟩ v) := fun b _ hn => Below.heap_setCell w _ v b hn
theorem DkArm.put {K r : Nat} (h : DkArm X w0 w pd K f N) (hx : X r) (hr : w0.heap.size ≤ r) (hc : Chg (fun b => b = r) w w') : DkArm X w0 w' pd K f N := by
  obtain ⟨F, S, h1, h2, h3, h5, h7⟩ := h
  refine ⟨F, S, h1.kept hc (fun b hb e => (h7.x r hx).2.1 (e ▸ hb)), h2, h3, h5, h7.chg.trans hc (fun i hi e => by omega), h7.f, h7.g, fun b hb => ?_⟩
  exact ⟨by have := (h7.x b hb).1; have := hc.size; omega, (h7.x b hb).2⟩
/-- arm of the world, a log being there. -/
theorem warm_log (h : LogUp X w0 w pd pl 70 f com pend N) (hx : X pp) (hp : w0.heap.size ≤ pp) (hb : WBlk w pp pd x1 x2 x3 mv cv) (hc : CutsAt w0 cv cs) (hf : Few cs) :
    Calls Tryz.prog 9 #[.pointer (some ⟨pp, 0, none⟩)] w fun e w' => e = .returned (.tuple #[]) ∧ ∃ cv' cs', LogUp X w0 w' pd pl 70 f com pend N ∧ SmB X pp w w' ∧ WBlk w' pp pd x1 x2 x3 mv cv' ∧ CutsAt w0 cv' cs' ∧ Few cs' ∧ cs'.length ≤ cs.length := by
  cases cs with
  | nil =>
    obtain ⟨a, c, rfl⟩ := hc.form
    refine (warm_none a c w hb.c.2.2.1).mono ?_
    rintro e w' ⟨rfl, rfl⟩
    exact ⟨rfl, _, [], h, fun _ _ _ => rfl, hb, hc, hf, Nat.le_refl _⟩
  | cons d l =>
    rcases hc with ⟨_, e⟩ | ⟨b, off, c, rfl, hl, hd⟩
    · cases e
    have hcu : CutsAt w0 (.slice (some ⟨b, off, none⟩) (l.length + 1) c) (d :: l) := .inr ⟨b, off, c, rfl, hl, hd⟩
    have hch := h.chg
    have hd0 := hcu.tail.2.kept hch
    have kd := Chg.drew (fun _ => False) w
    refine (warm_some (Q := fun w1 => LogUp X w0 w1 pd pl 70 f com pend N ∧ Sm X w.drew w1) (n := l.length) w hb.c.1 hb.c.2.2.1 (by simpa using hl) hd0 ((larm_up d.n d.pv d.ps (h.more kd) (hd0.is.kept kd (fun _ _ h => h)) (by have := hf d (by simp); omega) hd0.n0.1 hd0.n0.2).mono (by rintro e w1 ⟨rfl, h1, h2⟩; exact ⟨rfl, h1, h2⟩)) ?_).mono ?_
    · rintro w1 ⟨l1, s1⟩
      have b1 := WBlk.sm (w := w.drew) hb s1 hx
      have d1 := hcu.tail.2.kept l1.chg
      exact ⟨b1.c.2.2.1, b1.c.2.2.2.2, b1.c.1, d1.c0, d1.c1⟩
    · rintro e w' ⟨rfl, w1, cv', ⟨l1, s1⟩, rfl, hn⟩
      have b1 := WBlk.sm (w := w.drew) hb s1 hx
      exact ⟨rfl, cv', l, l1.put hx hp (Chg.setCell _ _ _ rfl), SmB.trans (fun b hb _ => s1 b hb) (SmB.set w1 5 cv'), b1.cut cv', hn.cuts hcu, fun x hx => hf x (by simp [hx]), by simp⟩
/-- .. the power just having come. -/
theorem warm_disk (h : DkUp X w0 w pd 70 f false N) (hx : X pp) (hp : w0.heap.size ≤ pp) (hb : WBlk w pp pd x1 x2 x3 mv cv) (hc : CutsAt w0 cv cs) (hf : Few cs) :
    Calls Tryz.prog 9 #[.pointer (some ⟨pp, 0, none⟩)] w fun e w' => e = .returned (.tuple #[]) ∧ ((cs = [] ∧ w' = w) ∨ ∃ cv' d cs', cs = d :: cs' ∧ DkArm X w0 w' pd 70 f N ∧ SmB X pp w w' ∧ WBlk w' pp pd x1 x2 x3 mv cv' ∧ CutsAt w0 cv' cs' ∧ Few cs') := by
  cases cs with
  | nil =>
    obtain ⟨a, c, rfl⟩ := hc.form
    refine (warm_none a c w hb.c.2.2.1).mono ?_
    rintro e w' ⟨rfl, rfl⟩
    exact ⟨rfl, .inl ⟨rfl, rfl⟩⟩
  | cons d l =>
    rcases hc with ⟨_, e⟩ | ⟨b, off, c, rfl, hl, hd⟩
    · cases e
    have hcu : CutsAt w0 (.slice (some ⟨b, off, none⟩) (l.length + 1) c) (d :: l) := .inr ⟨b, off, c, rfl, hl, hd⟩
    have hch := DkUp.chg h
    have hd0 := hcu.tail.2.kept hch
    have kd := Chg.drew (fun _ => False) w
    have hdr : DkUp X w0 w.drew pd 70 f false N := by
      obtain ⟨F, S, a1, a2, a3, a4, a5, a6⟩ := h
      exact ⟨F, S, a1.kept kd (fun _ _ h => h), a2, a3, a4, a5, a6.more kd⟩
    refine (warm_some (Q := fun w1 => DkArm X w0 w1 pd 70 f N ∧ Sm X w.drew w1) (n := l.length) w hb.c.1 hb.c.2.2.1 (by simpa using hl) hd0 ((darm_up d.n d.pv d.ps hdr (hd0.is.kept kd (fun _ _ h => h)) (by have := hf d (by simp); omega) hd0.n0.1 hd0.n0.2).mono (by rintro e w1 ⟨rfl, h1, h2⟩; exact ⟨rfl, h1, h2⟩)) ?_).mono ?_
    · rintro w1 ⟨l1, s1⟩
      have b1 := WBlk.sm (w := w.drew) hb s1 hx
      obtain ⟨F, S, a1, a2, a3, a5, a6⟩ := l1
      have d1 := hcu.tail.2.kept a6.chg
      exact ⟨b1.c.2.2.1, b1.c.2.2.2.2, b1.c.1, d1.c0, d1.c1⟩
    · rintro e w' ⟨rfl, w1, cv', ⟨l1, s1⟩, rfl, hn⟩
      have b1 := WBlk.sm (w := w.drew) hb s1 hx
      exact ⟨rfl, .inr ⟨cv', d, l, rfl, l1.put hx hp (Chg.setCell _ _ _ rfl), SmB.trans (fun b hb _ => s1 b hb) (SmB.set w1 5 cv'), b1.cut cv', hn.cuts hcu, fun x hx => hf x (by simp [hx])⟩⟩
end
end Go.Proofs.YtmlhjcjonfalhaaGreat.C
