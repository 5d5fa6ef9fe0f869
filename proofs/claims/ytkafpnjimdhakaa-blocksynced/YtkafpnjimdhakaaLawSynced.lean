/-
  BlockSynced answers true.
-/
import Derived.Test.YtkafpnjimdhakaaActs
namespace Go.Proofs.Ytkafpnjimdhakaa
open Go.RowKit Go.Maps
attribute [local go_sem ↓] Go.wp_at_zero Go.wp_at_succ

/-- What the first loop keeps. -/
structure L1 (S : St) (i : Nat) : Prop where
  nb : S.nb = 8
  off : S.off = false
  arm : S.arm = 0
  wr : S.writes ≤ i
theorem L1.more {S : St} {i j : Nat} (h : L1 S i) (hj : i ≤ j) : L1 S j := ⟨h.nb, h.off, h.arm, Nat.le_trans h.wr hj⟩
theorem L1.write {S : St} {i : Nat} (h : L1 S i) (n : Int) (b : List Int) : L1 (S.write n b) (i + 1) := by
  unfold St.write
  rw [if_neg (by simp [h.off])]
  split
  · exact h.more (by omega)
  · rw [if_neg (by rw [h.arm]; decide)]
    exact ⟨h.nb, h.off, by show (if S.arm < 1 then S.arm else S.arm - 1) = 0; rw [h.arm]; rfl, by show S.writes + 1 ≤ i + 1; have := h.wr; omega⟩
theorem L1.sync {S : St} {i : Nat} (h : L1 S i) : L1 S.sync i ∧ ∀ n, S.sync.wait n = [] := by
  unfold St.sync
  rw [if_neg (by simp [h.off])]
  exact ⟨⟨h.nb, h.off, h.arm, h.wr⟩, fun _ => rfl⟩

/-- What the second loop keeps: T is the disk as it was synced, m what was written. -/
structure L2 (T S : St) (m : List Bool) (i : Nat) : Prop where
  st : L1 S i
  len : m.length = 8
  syn : S.syn = T.syn
  none : ∀ n, n < 8 → m.getD n false = false → S.wait n = []
theorem L2.more {T S : St} {m : List Bool} {i j : Nat} (h : L2 T S m i) (hj : i ≤ j) : L2 T S m j := ⟨h.st.more hj, h.len, h.syn, h.none⟩
theorem L2.write {T S : St} {m : List Bool} {i : Nat} (h : L2 T S m i) {n : Nat} (hn : n < 8) {b : List Int} (hb : b.length = 512) : L2 T (S.write (n : Int) b) (m.set n true) (i + 1) := by
  refine ⟨h.st.write _ _, by simp [h.len], ?_, fun k hk hm => ?_⟩
  · rw [write_of h.st.off (by rw [h.st.nb]; exact hn) hb (by rw [h.st.arm]; decide)]; exact h.syn
  · rw [write_of h.st.off (by rw [h.st.nb]; exact hn) hb (by rw [h.st.arm]; decide)]
    have hl := h.len
    by_cases e : k = n
    · subst e
      simp [List.getD, hl, hk] at hm
    · show upd S.wait n _ k = []
      rw [upd_other _ _ e]
      refine h.none k hk ?_
      have e2 : ¬ n = k := fun x => e x.symm
      simpa [List.getD, List.getElem?_set, e2] using hm
theorem L2.start {T : St} {i : Nat} (h : L1 T i) (hT : ∀ n, T.wait n = []) : L2 T T (List.replicate 8 false) i := ⟨h, rfl, rfl, fun n _ _ => hT n⟩

theorem cutTo_syn : ∀ (ks : List Nat) (S : St) (ps : List Int) (n : Nat), n ∉ ks → (S.cutTo ps ks).syn n = S.syn n
  | [], _, _, _, _ => rfl
  | k :: ks, S, ps, n, h => by
    rw [St.cutTo, cutTo_syn ks _ _ n (fun e => h (by simp [e]))]
    show upd S.syn k _ n = S.syn n
    exact upd_other _ _ (fun e => h (by simp [e]))
theorem last_none {S : St} {n : Nat} (h : S.wait n = []) : S.last n = S.syn n := by unfold St.last St.ver; rw [h]; rfl
theorem synced_same {T S : St} {m : List Bool} {i : Nat} (h : L2 T S m i) (hw : S.Wf) (hT : ∀ n, T.wait n = []) (ps : List Int) {n : Nat} (hn : n < 8) (hm : m.getD n false = false) : (S.cut ps).on.last n = T.last n := by
  have hwt : (S.cut ps).on.wait n = [] := St.cut_wait hw ps h.st.off n
  rw [last_none hwt, last_none (hT n)]
  show (S.cut ps).syn n = _
  unfold St.cut
  rw [if_neg (by simp [h.st.off])]
  show (S.cutTo ps S.keys).syn n = _
  rw [cutTo_syn S.keys S ps n (fun hk => (St.keys_lt hk).2 (h.none n hn hm)), h.syn]
theorem waiting_none {S : St} (h : ∀ n, S.wait n = []) : S.waiting = 0 := by
  unfold St.waiting
  have e : (fun n => (S.wait n).length) = fun _ => 0 := by funext n; rw [h n]; rfl
  rw [e]
  generalize S.nb = k
  induction k with
  | zero => rfl
  | succ k ih => rw [List.range_succ, List.map_append, List.sum_append, ih]; rfl

theorem info4 : (Try.prog.info? 4).map (fun i => (i.zero, i.size, i.bytes)) = some (some (.bool false), 1, 1) := by kernel_rfl

/-- Full of an act's bytes, then Write of it: all that the statement meets. -/
theorem full_write {w wr : World} {F : Nat → Prop} {p : Nat} {S : St} {b o : Nat} {d : ActD} (h : Dk wr F p S) (hc : Chg (fun _ => False) w wr ∧ ∀ b, F b → w.heap.size ≤ b) (ha : ActAt w b o d) (hl : d.bs.length ≤ 512) (hx : S.writes < 1099511627776) :
    Calls Try.prog 22 #[d.bv] wr.drew fun e w1 => ∃ ub ud, e = .returned (.slice ub 512 ud) ∧ w1.cell? ⟨b, o + 1, none⟩ = some (.int .i64 d.n) ∧ w1.cell? ⟨b, o + 2, none⟩ = some d.bv ∧
      Hid (Calls Try.prog 21 #[.pointer (some ⟨p, 0, none⟩), .int .i64 d.n, .slice ub 512 ud] w1 fun e w2 => ∃ z, e = .returned (.int .i64 z) ∧ w2.cell? ⟨b, o + 1, none⟩ = some (.int .i64 d.n) ∧ w2.cell? ⟨b, o + 2, none⟩ = some d.bv ∧
        Hid (∃ F', Dk w2 F' p (S.write d.n (full d.bs)) ∧ Chg (fun _ => False) w w2 ∧ ∀ b, F' b → w.heap.size ≤ b)) := by
  have c0 : Chg (fun _ => False) w wr.drew := hc.1.trans (Chg.drew (fun _ => False) wr) (fun _ _ h => h)
  have h0 : Dk wr.drew F p S := h.kept (Chg.drew (fun _ => False) wr) (fun _ _ h => h)
  refine (full_any d.bv d.bs wr.drew (ha.bs.kept c0 (fun _ _ _ _ _ h => h)) (by omega)).mono ?_
  rintro e w1 ⟨u, rfl, fr⟩
  obtain ⟨ub, ud, rfl, hu⟩ := fr.form
  have c1 : Chg (fun _ => False) w w1 := c0.trans fr.chg (fun _ _ h => h)
  have a1 := ha.kept c1
  refine ⟨ub, ud, rfl, a1.n, a1.bc, ?_⟩
  refine (write_any F p S d.n _ (full d.bs) w1 (h0.kept fr.chg (fun _ _ h => h)) fr.bs (Bs.off h0 (Chg.refl _ _) fr) hx).mono ?_
  rintro e w2 ⟨rfl, h2⟩
  obtain ⟨F2, d2, c2, f2⟩ := step_next ⟨c1, hc.2⟩ h2
  have a2 := ha.kept c2
  exact ⟨_, rfl, a2.n, a2.bc, F2, d2, c2, f2⟩

theorem slice_mid (ga ca n : Nat) (hn : n < 8) (hc : 4096 ≤ ca) (z z2 : Int) (hz : z = ((512 * n : Nat) : Int)) (hz2 : z2 = ((512 * n + 512 : Nat) : Int)) (w : World) :
    (Instr.slice 32 (.slice (some ⟨ga, 0, none⟩) 4096 ca) (some (.int .i64 z)) (some (.int .i64 z2)) none).run Try.prog w = .ok (.slice (some ⟨ga, 512 * n, none⟩) 512 (ca - 512 * n)) w := by
  have h0 : 0 ≤ z := by omega
  have h0' : 0 ≤ z2 := by omega
  have h1 : z ≤ ((512 * n + 512 : Nat) : Int) := by omega
  have h1' : z2 ≤ (ca : Int) := by omega
  have hzn : z.toNat = 512 * n := by omega
  have hzn2 : z2.toNat = 512 * n + 512 := by omega
  have hb : (Instr.sliceBounds true 4096 ca (some (.int .i64 z)) (some (.int .i64 z2)) none).run Try.prog w = .ok (512 * n, 512 * n + 512, ca) w := by
    have hs1 : ∀ code, (Instr.sliceBound (.int .i64 z2) ca code).run Try.prog w = .ok (512 * n + 512) w := fun code => by rw [run_sliceBound (P := Try.prog) w .i64 z2 ca code h0' h1', hzn2]
    have hs2 : ∀ code, (Instr.sliceBound (.int .i64 z) (512 * n + 512) code).run Try.prog w = .ok (512 * n) w := fun code => by rw [run_sliceBound (P := Try.prog) w .i64 z (512 * n + 512) code h0 h1, hzn]
    simp [Instr.sliceBounds, hs1, hs2]
  rw [run_slice_any w 32 _ _ _ (by kernel_rfl), hb]
  have hsz : (sizeOf (Try.prog.elem 32)).run Try.prog w = .ok 1 w := by kernel_rfl
  simp only [Result.andThen, hsz, sliced]
  rw [if_neg (by omega)]
  show Result.ok (Value.slice (some ((⟨ga, 0, none⟩ : Addr).add (512 * n * 1))) _ _) w = _
  rw [Nat.mul_one, add_zero_off, Nat.add_sub_cancel_left]

/-- A block of an image. -/
theorem Bs.blockOf {w : World} {ga ca n : Nat} {f : Nat → List Int} (h : Bs w (.slice (some ⟨ga, 0, none⟩) 4096 ca) (St.flat 8 f)) (hf : ∀ n, n < 8 → (f n).length = 512) (hn : n < 8) : Bs w (.slice (some ⟨ga, 512 * n, none⟩) 512 (ca - 512 * n)) (f n) := by
  have fl := St.flat_length hf
  rcases h with ⟨e, _⟩ | ⟨a, c, e, h1, h2, h3⟩
  · cases e
  injection e with e1 e2 e3
  cases e1
  subst e3
  have hfn := hf n hn
  refine .inr ⟨⟨ga, 512 * n, none⟩, ca - 512 * n, by rw [hfn], by omega, by omega, fun j hj => ?_⟩
  have h4 := h3 (512 * n + j) (by omega)
  have e1 : (⟨ga, 512 * n, none⟩ : Addr).add j = (⟨ga, 0, none⟩ : Addr).add (512 * n + j) := by
    rw [add_zero_off]; unfold Addr.add; split <;> simp_all
  rw [e1, h4]
  have := St.flat_get hn hf
  congr 2
  rw [← this]
  have hj2 : j < 512 := by omega
  simp [List.getD, hj2, List.getElem?_drop]
/-- What the second loop keeps in memory. -/
def Rel2 (w : World) (T : St) (p bo ha ka i : Nat) (wr : World) : Prop :=
  ∃ S F m, Dk wr F p S ∧ (Chg (fun _ => False) w wr ∧ ∀ b, F b → w.heap.size ≤ b ∧ b ≠ bo ∧ b ≠ ha) ∧ wr.ownsRow w.heap.size 4 1 (.slice (some ⟨bo, 0, none⟩) 8 8) 8 (m.map Value.bool) ∧ L2 T S m (150 + i) ∧ Bs wr (.slice (some ⟨ha, 0, none⟩) 4096 ka) (St.flat 8 T.last)
/-- Full, Write and the note that it was written. -/
def SynStep (w : World) (T : St) (p bo ha ka i n : Nat) (e : Ending) (w1 : World) : Prop :=
  ∃ ub ud, e = .returned (.slice ub 512 ud) ∧ Hid (Calls Try.prog 21 #[.pointer (some ⟨p, 0, none⟩), .int .i64 (n : Int), .slice ub 512 ud] w1 fun e w2 => ∃ z y, e = .returned (.int .i64 z) ∧ w2.cell? ⟨bo, n, none⟩ = some (.bool y) ∧ w2.frozen? ⟨bo, n, none⟩ = false ∧
    Hid (Rel2 w T p bo ha ka (i + 1) (w2.setCell ⟨bo, n, none⟩ (.bool true))))
theorem synced_step {w wr : World} {F : Nat → Prop} {p bo ha ka i n L b o : Nat} {S T : St} {m : List Bool} {d : ActD} (h : Dk wr F p S) (hc : Chg (fun _ => False) w wr ∧ ∀ b, F b → w.heap.size ≤ b ∧ b ≠ bo ∧ b ≠ ha)
    (hr : wr.ownsRow w.heap.size 4 1 (.slice (some ⟨bo, 0, none⟩) 8 8) 8 (m.map Value.bool)) (hA : L2 T S m (150 + i)) (hb : Bs wr (.slice (some ⟨ha, 0, none⟩) 4096 ka) (St.flat 8 T.last)) (ha' : ActAt w b o d) (hl : d.bs.length ≤ 512) (_hn : d.n = (n : Int)) (hn8 : n < 8)
    (hL : L ≤ 150) (hi : i ≤ L) (hne : bo ≠ ha) : Calls Try.prog 22 #[d.bv] wr (SynStep w T p bo ha ka i n) := by
  have hbo := hr.lt bo rfl
  have hbl : ha < wr.heap.size := by
    rcases hb with ⟨e, _⟩ | ⟨a, c, e, _, _, h3⟩
    · cases e
    · injection e with e1 e2 e3
      cases e1
      have := World.block_lt_of_cell? wr _ (h3 0 (by omega))
      rwa [add_zero_off] at this
  refine (full_any d.bv d.bs wr (ha'.bs.kept hc.1 (fun _ _ _ _ _ h => h)) (by omega)).mono ?_
  rintro e w1 ⟨u, rfl, fr⟩
  obtain ⟨ub, ud, rfl, hu⟩ := fr.form
  have c1 : Chg (fun _ => False) w w1 := hc.1.trans fr.chg (fun _ _ h => h)
  refine ⟨ub, ud, rfl, ?_⟩
  refine (write_any F p S (n : Int) _ (full d.bs) w1 (h.kept fr.chg (fun _ _ h => h)) fr.bs (Bs.off h (Chg.refl _ _) fr) (by have := hA.st.wr; omega)).mono ?_
  rintro e w2 ⟨rfl, F2, d2, c2, f2⟩
  have r2 : w2.ownsRow w.heap.size 4 1 (.slice (some ⟨bo, 0, none⟩) 8 8) 8 (m.map Value.bool) := own_same (own_same hr (fun g hg => fr.chg.block g (hr.lt g hg).2 (fun h => h))) (fun g hg => by cases hg; exact c2.block bo (Nat.lt_of_lt_of_le hbo.2 fr.chg.size) (fun hf => (hc.2 bo hf).2.1 rfl))
  have b2 := (hb.kept fr.chg (fun _ _ _ _ _ h => h)).kept c2 (fun a n c e _ hf => by cases e; exact (hc.2 ha hf).2.2 rfl)
  have oc := r2.cells (g := bo) rfl n (.bool (m.getD n false)) (by simp [List.getD, hA.len, hn8])
  rw [add_zero_off] at oc
  have hfz : w2.frozen? ⟨bo, n, none⟩ = false := by
    obtain ⟨cu, hcu⟩ := own_obj r2 rfl
    simp [World.frozen?, hcu]
  have st := r2.stored n (.bool true)
  have c3 := Chg.of_grown st.2
  have s1 := fr.chg.size
  refine ⟨_, _, rfl, oc, hfz, _, F2, m.set n true, d2.kept c3 (fun b hb e => ?_), ⟨(c1.trans c2 (fun k hk hf => by have := (hc.2 k hf).1; omega)).trans c3 (fun k hk e => by omega), fun b hb => ?_⟩, ?_, hA.write hn8 (full_len d.bs), b2.kept c3 (fun a n c e _ hf => by cases e; exact hne hf.symm)⟩
  · have hb' := f2 b hb
    rcases hb' with h' | h'
    · exact (hc.2 b h').2.1 e
    · omega
  · rcases f2 b hb with h' | h'
    · exact hc.2 b h'
    · exact ⟨by have := c1.size; omega, by omega, by omega⟩
  · have := st.1
    rw [List.map_set]
    exact this

/-- Behind a call of the disk. -/
theorem rel_next {w w1 w2 : World} {F : Nat → Prop} {p bo ha ka : Nat} {S : St} {m : List Bool} {X : List Int} (hc : Chg (fun _ => False) w w1 ∧ ∀ b, F b → w.heap.size ≤ b ∧ b ≠ bo ∧ b ≠ ha) (hr : w1.ownsRow w.heap.size 4 1 (.slice (some ⟨bo, 0, none⟩) 8 8) 8 (m.map Value.bool))
    (hb : Bs w1 (.slice (some ⟨ha, 0, none⟩) 4096 ka) X) (h : To F p w1 w2 S) :
    ∃ F', Dk w2 F' p S ∧ (Chg (fun _ => False) w w2 ∧ ∀ b, F' b → w.heap.size ≤ b ∧ b ≠ bo ∧ b ≠ ha) ∧ w2.ownsRow w.heap.size 4 1 (.slice (some ⟨bo, 0, none⟩) 8 8) 8 (m.map Value.bool) ∧ Bs w2 (.slice (some ⟨ha, 0, none⟩) 4096 ka) X := by
  obtain ⟨F2, d2, c2, f2⟩ := h
  have hbo := hr.lt bo rfl
  have hbl : ha < w1.heap.size := by
    rcases hb with ⟨e, _⟩ | ⟨a, c, e, _, _, h3⟩
    · cases e
    · injection e with e1 e2 e3
      cases e1
      have := World.block_lt_of_cell? w1 _ (h3 0 (by omega))
      rwa [add_zero_off] at this
  refine ⟨F2, d2, ⟨hc.1.trans c2 (fun k hk hf => by have := (hc.2 k hf).1; omega), fun b hb => ?_⟩, own_same hr (fun g hg => by cases hg; exact c2.block bo hbo.2 (fun hf => (hc.2 bo hf).2.1 rfl)), hb.kept c2 (fun a n c e _ hf => by cases e; exact (hc.2 ha hf).2.2 rfl)⟩
  rcases f2 b hb with h' | h'
  · exact hc.2 b h'
  · exact ⟨by have := hc.1.size; omega, by omega, by omega⟩
theorem made_bools : (madeCells (Value.bool false).cells (8 * 1)).toList = (List.replicate 8 false).map Value.bool := by kernel_rfl

set_option maxHeartbeats 1600000 in
set_option maxRecDepth 100000 in
theorem synced_out1 (lv tv pv : Value) (l : List ActD) (w : World) (hl : Acts w lv l) (hf : fewA l = false) :
    Calls Try.prog 4 #[lv, tv, pv] w fun e w' => e = .returned (.bool true) ∧ Chg (fun _ => False) w w' := by
  have HL : Hid (Acts w lv l) := hl
  clear hl
  go_enter Try.func4, Try.ntmps4
  go_wp2_with fail
  refine (known_any w).mono ?_
  rintro e w1 ⟨rfl, c1⟩
  go_wp2_with fail
  refine (few_any lv l w1 (HL.out.kept c1)).mono ?_
  rintro e w2 ⟨rfl, rfl⟩
  rw [hf]
  go_wp2
  go_ret
  exact ⟨rfl, c1⟩
set_option maxHeartbeats 1600000 in
set_option maxRecDepth 100000 in
theorem synced_out2 (lv tv pv : Value) (l t : List ActD) (w : World) (hl : Acts w lv l) (ht : Acts w tv t) (hf : fewA l = true) (hg : fewA t = false) :
    Calls Try.prog 4 #[lv, tv, pv] w fun e w' => e = .returned (.bool true) ∧ Chg (fun _ => False) w w' := by
  have HL : Hid (Acts w lv l) := hl
  have HT : Hid (Acts w tv t) := ht
  clear hl ht
  go_enter Try.func4, Try.ntmps4
  go_wp2_with fail
  refine (known_any w).mono ?_
  rintro e w1 ⟨rfl, c1⟩
  go_wp2_with fail
  refine (few_any lv l w1 (HL.out.kept c1)).mono ?_
  rintro e w2 ⟨rfl, rfl⟩
  rw [hf]
  go_wp2_with fail
  refine (few_any tv t w2 (HT.out.kept c1)).mono ?_
  rintro e w3 ⟨rfl, rfl⟩
  rw [hg]
  go_wp2
  go_ret
  exact ⟨rfl, c1⟩
set_option maxHeartbeats 1600000 in
set_option maxRecDepth 100000 in
theorem synced_out3 (lv tv : Value) (pa : Option Addr) (pn pc : Nat) (l t : List ActD) (w : World) (hl : Acts w lv l) (ht : Acts w tv t) (hf : fewA l = true) (hg : fewA t = true) (k1 : (100 : Int) < (pn : Int)) :
    Calls Try.prog 4 #[lv, tv, .slice pa pn pc] w fun e w' => e = .returned (.bool true) ∧ Chg (fun _ => False) w w' := by
  have HL : Hid (Acts w lv l) := hl
  have HT : Hid (Acts w tv t) := ht
  clear hl ht
  go_enter Try.func4, Try.ntmps4
  go_wp2_with fail
  refine (known_any w).mono ?_
  rintro e w1 ⟨rfl, c1⟩
  go_wp2_with fail
  refine (few_any lv l w1 (HL.out.kept c1)).mono ?_
  rintro e w2 ⟨rfl, rfl⟩
  rw [hf]
  go_wp2_with fail
  refine (few_any tv t w2 (HT.out.kept c1)).mono ?_
  rintro e w3 ⟨rfl, rfl⟩
  rw [hg]
  go_wp2
  go_ret
  exact ⟨rfl, c1⟩

theorem few_len {l : List ActD} (h : fewA l = true) : l.length ≤ 150 ∧ ∀ i (hi : i < l.length), l[i].bs.length ≤ 512 ∧ l[i].ps.length ≤ 100 := by
  simp [fewA] at h
  refine ⟨h.1, fun i hi => ?_⟩
  have := h.2 l[i] (List.getElem_mem hi)
  simpa [ActD.few] using this

/-- What goes through the third loop. -/
structure L3 (w wr : World) (F : Nat → Prop) (p : Nat) (ga ca ha ka bo : Nat) (m : List Bool) (S T : St) : Prop where
  dk : Dk wr F p S
  chg : Chg (fun _ => False) w wr
  got : Bs wr (.slice (some ⟨ga, 0, none⟩) 4096 ca) (St.flat 8 S.last)
  want : Bs wr (.slice (some ⟨ha, 0, none⟩) 4096 ka) (St.flat 8 T.last)
  row : wr.ownsRow w.heap.size 4 1 (.slice (some ⟨bo, 0, none⟩) 8 8) 8 (m.map Value.bool)
  lenS : ∀ n, n < 8 → (S.last n).length = 512
  lenT : ∀ n, n < 8 → (T.last n).length = 512
  same : ∀ n, n < 8 → m.getD n false = false → S.last n = T.last n
theorem L3.drew {w wr : World} {F : Nat → Prop} {p : Nat} {ga ca ha ka bo : Nat} {m : List Bool} {S T : St} (h : L3 w wr F p ga ca ha ka bo m S T) : L3 w wr.drew F p ga ca ha ka bo m S T := by
  have c := Chg.drew (fun _ => False) wr
  exact ⟨h.dk.kept c (fun _ _ h => h), h.chg.trans c (fun _ _ h => h), h.got.kept c (fun _ _ _ _ _ h => h), h.want.kept c (fun _ _ _ _ _ h => h), own_same h.row (fun _ _ => rfl), h.lenS, h.lenT, h.same⟩

set_option maxHeartbeats 3200000 in
set_option maxRecDepth 100000 in
theorem synced_loop (lv tv pv : Value) (l t : List ActD) (ps : List Int) (w : World) (hl : Acts w lv l) (ht : Acts w tv t) (hp : Is w pv ps) (hf : fewA l = true) (hg : fewA t = true) (hps : ps.length ≤ 100) :
    Calls Try.prog 4 #[lv, tv, pv] w fun e w' => e = .returned (.bool true) ∧ Chg (fun _ => False) w w' := by
  obtain ⟨hl1, hl2⟩ := few_len hf
  obtain ⟨ht1, ht2⟩ := few_len hg
  obtain ⟨i0, hi4, hz0, hz1, hz2⟩ := info_parts info4
  obtain ⟨la, lc, rfl⟩ := hl.form
  obtain ⟨ta, tc, rfl⟩ := ht.form
  obtain ⟨pa, pc, rfl, hpc⟩ := hp.form
  have k4 : ¬ (100 : Int) < (ps.length : Int) := by omega
  have HL : Hid (Acts w (.slice la l.length lc) l ∧ ∀ i (hi : i < l.length), l[i].bs.length ≤ 512 ∧ l[i].ps.length ≤ 100) := ⟨hl, hl2⟩
  have HT : Hid (Acts w (.slice ta t.length tc) t ∧ ∀ i (hi : i < t.length), t[i].bs.length ≤ 512 ∧ t[i].ps.length ≤ 100) := ⟨ht, ht2⟩
  have HP : Hid (Is w (.slice pa ps.length pc) ps) := hp
  clear hl ht hp hl2 ht2
  go_enter Try.func4, Try.ntmps4
  go_wp2_with fail
  refine (known_any w).mono ?_
  rintro e w1 ⟨rfl, c1⟩
  go_wp2_with fail
  refine (few_any _ l w1 (HL.out.1.kept c1)).mono ?_
  rintro e w2 ⟨rfl, rfl⟩
  rw [hf]
  go_wp2_with fail
  refine (few_any _ t w2 (HT.out.1.kept c1)).mono ?_
  rintro e w3 ⟨rfl, rfl⟩
  rw [hg]
  clear hf hg
  go_wp2_with fail
  refine (new_ok 8 w3 (by decide) (by decide)).mono ?_
  rintro e w4 ⟨F, p, rfl, h4, c4, hF⟩
  have hq := eq25_some ⟨p, 0, none⟩
  have REL0 : ∃ S F, Dk w4 F p S ∧ (Chg (fun _ => False) w w4 ∧ ∀ b, F b → w.heap.size ≤ b) ∧ L1 S 0 := ⟨_, F, h4, ⟨c1.trans c4 (fun _ _ h => h), fun b hb => Nat.le_trans c1.size (hF b hb)⟩, rfl, rfl, rfl, Nat.le_refl _⟩
  clear h4 c1 c4 hF k4
  go_wp2_with fail
  clear hq
  go_loopw [9] (fun x wr => ∃ i : Nat, i ≤ l.length ∧ x = .int .i64 (i : Int) ∧ ∃ S F, Dk wr F p S ∧ (Chg (fun _ => False) w wr ∧ ∀ b, F b → w.heap.size ≤ b) ∧ L1 S i) (fun x _ => l.length - (intOf x).toNat)
  case atStart => exact ⟨0, Nat.zero_le _, rfl, REL0⟩
  case round =>
    clear REL0
    obtain ⟨i, hiL, rfl, S6, F6, h6, c6, A6⟩ := hrel
    by_cases hlt : i < l.length
    · obtain ⟨b, off, rfl, hat⟩ := HL.out.1.at hlt
      have hbl := (HL.out.2 i hlt).1
      have hli : (i : Int) < (l.length : Int) := by omega
      obtain ⟨d, hd⟩ : ∃ d, l[i] = d := ⟨_, rfl⟩
      rw [hd] at hat hbl
      have a6 := hat.kept c6.1
      have q0 := a6.op
      have q1 := a6.n
      have q2 := a6.bc
      by_cases hop : d.op = 1
      · rw [hop] at q0
        have FW := full_write h6 c6 hat hbl (by have := A6.wr; omega)
        have HW : Hid (Calls Try.prog 22 #[d.bv] wr.drew fun e w1 => ∃ ub ud, e = .returned (.slice ub 512 ud) ∧ w1.cell? ⟨b, off + i * 4 + 1, none⟩ = some (.int .i64 d.n) ∧ w1.cell? ⟨b, off + i * 4 + 2, none⟩ = some d.bv ∧
      Hid (Calls Try.prog 21 #[.pointer (some ⟨p, 0, none⟩), .int .i64 d.n, .slice ub 512 ud] w1 fun e w2 => ∃ z, e = .returned (.int .i64 z) ∧ w2.cell? ⟨b, off + i * 4 + 1, none⟩ = some (.int .i64 d.n) ∧ w2.cell? ⟨b, off + i * 4 + 2, none⟩ = some d.bv ∧
        Hid (∃ F', Dk w2 F' p (S6.write d.n (full d.bs)) ∧ Chg (fun _ => False) w w2 ∧ ∀ b, F' b → w.heap.size ≤ b))) := FW
        have A7 := A6.write d.n (full d.bs)
        obtain ⟨S7, hS7⟩ : ∃ S, S6.write d.n (full d.bs) = S := ⟨_, rfl⟩
        rw [hS7] at HW A7
        clear FW hS7 a6 hat hd h6 c6 A6 hop hbl
        generalize d.n = dn at *
        generalize d.bv = dv at *
        go_wp2_with fail
        go_region_held (fun w' => w'.cell? ⟨b, off + i * 4 + 1, none⟩ = some (.int .i64 dn) ∧ w'.cell? ⟨b, off + i * 4 + 2, none⟩ = some dv)
          (first | exact ⟨q1, q2⟩ | exact ⟨x1, x2⟩ | exact ⟨y1, y2⟩)
          (first | (go_at_call 22; refine HW.out.mono ?_; clear HW; rintro e w7 ⟨ub, ud, rfl, x1, x2, HM⟩) | (go_at_call 21; refine HM.out.mono ?_; clear HM; rintro e w8 ⟨z, rfl, y1, y2, HE⟩))
        all_goals
          go_wp2
          go_roundw
          case rel => exact ⟨i + 1, by omega, by go_num, S7, by obtain ⟨F', d', c'⟩ := HE.out; exact ⟨F', d', c', A7⟩⟩
          case measure => simp [intOf]; omega
      · have H6 : Hid (Dk wr F6 p S6 ∧ (Chg (fun _ => False) w wr ∧ ∀ b, F6 b → w.heap.size ≤ b) ∧ L1 S6 (i + 1)) := ⟨h6, c6, A6.more (by omega)⟩
        clear a6 hat hd h6 c6 A6 q1 q2 hbl
        generalize d.op = dop at *
        go_wp2
        go_roundw
        case rel => exact ⟨i + 1, by omega, by go_num, S6, F6, H6.out⟩
        case measure => simp [intOf]; omega
    · have H6 : Hid (Dk wr F6 p S6 ∧ (Chg (fun _ => False) w wr ∧ ∀ b, F6 b → w.heap.size ≤ b) ∧ L1 S6 150) := ⟨h6, c6, A6.more (by omega)⟩
      have g3 : ¬ (i : Int) < (l.length : Int) := by omega
      clear h6 c6 A6 HL
      go_wp2_with fail
      refine (sync_any F6 p S6 wr H6.out.1 (by have := H6.out.2.2.wr; omega)).mono ?_
      rintro e w7 ⟨rfl, h7⟩
      obtain ⟨F7, d7, c7⟩ := step_next H6.out.2.1 h7
      obtain ⟨T, hT⟩ : ∃ T, S6.sync = T := ⟨_, rfl⟩
      have A7 := H6.out.2.2.sync
      rw [hT] at A7 d7
      have H7 : Hid (Dk w7 F7 p T ∧ (Chg (fun _ => False) w w7 ∧ ∀ b, F7 b → w.heap.size ≤ b) ∧ L1 T 150 ∧ ∀ n, T.wait n = []) := ⟨d7, c7, A7⟩
      clear H6 h7 d7 c7 A7 hT g3 hlt hiL
      go_wp2_with fail
      refine (image_any F7 p T w7 H7.out.1 (by have := H7.out.2.2.1.wr; omega)).mono ?_
      rintro e w8 ⟨ha, ka, rfl, fr8⟩
      have hTn : 512 * T.nb = 4096 := by rw [H7.out.2.2.1.nb]
      have hTi : T.image = St.flat 8 T.last := by unfold St.image; rw [H7.out.2.2.1.nb]
      rw [hTn, hTi] at fr8
      rw [hTn]
      have H8 : Hid (Dk w8 F7 p T ∧ (Chg (fun _ => False) w w8 ∧ ∀ b, F7 b → w.heap.size ≤ b) ∧ Fresh w7 w8 (.slice (some ⟨ha, 0, none⟩) 4096 ka) (St.flat 8 T.last) ∧ ∀ b, F7 b → b < w7.heap.size) :=
        ⟨H7.out.1.kept fr8.chg (fun _ _ h => h), ⟨H7.out.2.1.1.trans fr8.chg (fun _ _ h => h), H7.out.2.1.2⟩, fr8, H7.out.1.lt⟩
      have hka : 4096 ≤ ka := by
        obtain ⟨a, c, e, hc⟩ := fr8.bs.form
        rw [St.flat_length (fun n hn => St.last_len H7.out.1.wf (by rw [H7.out.2.2.1.nb]; exact hn))] at e hc
        cases e; exact hc
      have HTf : Hid ((∀ n, n < 8 → (T.last n).length = 512) ∧ L1 T 150 ∧ ∀ n, T.wait n = []) := ⟨fun n hn => St.last_len H7.out.1.wf (by rw [H7.out.2.2.1.nb]; exact hn), H7.out.2.2⟩
      clear fr8 H7 hTn hTi
      go_wp2_with (refine wpList_make_full _ rfl _ _ 50 rfl w8.heap.size 4 i0 (.bool false) 1 Try.underlying50 hi4 hz0 hz1 .i64 .i64 _ _ 8 rfl rfl rfl rfl (by rw [hz2]; omega) (by unfold maxLen; omega) (Nat.le_refl _) ?_; intro w9 own9 grow9)
      have c9 := Chg.of_none grow9
      obtain ⟨bo, hbo⟩ : ∃ bo, w8.heap.size = bo := ⟨_, rfl⟩
      have own9' := own_mono own9 H8.out.2.1.1.size
      rw [hbo, made_bools] at own9'
      have hne : bo ≠ ha := by
        have := (H8.out.2.2.1.own.lt ha rfl).2
        omega
      have REL1 : ∃ S F m, Dk w9 F p S ∧ (Chg (fun _ => False) w w9 ∧ ∀ b, F b → w.heap.size ≤ b ∧ b ≠ bo ∧ b ≠ ha) ∧ w9.ownsRow w.heap.size 4 1 (.slice (some ⟨bo, 0, none⟩) 8 8) 8 (m.map Value.bool) ∧ L2 T S m 150 ∧ Bs w9 (.slice (some ⟨ha, 0, none⟩) 4096 ka) (St.flat 8 T.last) := by
        have hn := H8.out.2.2.1.new ha rfl
        have hs8 := H8.out.2.2.1.chg.size
        refine ⟨T, F7, List.replicate 8 false, H8.out.1.kept c9 (fun _ _ h => h), ⟨H8.out.2.1.1.trans c9 (fun _ _ h => h), fun b hb => ?_⟩, own9', L2.start HTf.out.2.1 HTf.out.2.2, H8.out.2.2.1.bs.kept c9 (fun _ _ _ _ _ h => h)⟩
        have := H8.out.2.2.2 b hb
        exact ⟨H8.out.2.1.2 b hb, by omega, by omega⟩
      rw [hbo]
      clear c9 own9 own9' grow9 hbo H8
      go_loopw [12, 13] (fun x _ wr => ∃ i : Nat, i ≤ t.length ∧ x = .int .i64 (i : Int) ∧ Rel2 w T p bo ha ka i wr) (fun x _ _ => t.length - (intOf x).toNat)
      case atStart => exact ⟨0, Nat.zero_le _, rfl, REL1⟩
      case round =>
        clear REL1
        obtain ⟨i, hiL, rfl, S6, F6, m6, h6, c6, r6, A6, b6⟩ := hrel
        by_cases hlt : i < t.length
        · obtain ⟨b, off, rfl, hat⟩ := HT.out.1.at hlt
          have hbl := (HT.out.2 i hlt).1
          have hli : (i : Int) < (t.length : Int) := by omega
          obtain ⟨d, hd⟩ : ∃ d, t[i] = d := ⟨_, rfl⟩
          rw [hd] at hat hbl
          have a6 := hat.kept c6.1
          have q0 := a6.op
          have q1 := a6.n
          have q2 := a6.bc
          have H6 : Hid (Dk wr F6 p S6 ∧ (Chg (fun _ => False) w wr ∧ ∀ b, F6 b → w.heap.size ≤ b ∧ b ≠ bo ∧ b ≠ ha) ∧ wr.ownsRow w.heap.size 4 1 (.slice (some ⟨bo, 0, none⟩) 8 8) 8 (m6.map Value.bool) ∧ L2 T S6 m6 (150 + (i + 1)) ∧ Bs wr (.slice (some ⟨ha, 0, none⟩) 4096 ka) (St.flat 8 T.last)) :=
            ⟨h6, c6, r6, A6.more (by omega), b6⟩
          by_cases hop : d.op = 1 ∧ 0 ≤ d.n ∧ d.n < 8
          · obtain ⟨hop, hn0, hn8⟩ := hop
            obtain ⟨n, hn⟩ := Int.eq_ofNat_of_zero_le hn0
            rw [hop] at q0
            rw [hn] at q1
            have hn8' : n < 8 := by omega
            have hnI : (n : Int) < 8 := by omega
            have FW := synced_step h6 c6 r6 A6 b6 hat hbl hn hn8' ht1 hiL hne
            have HW : Hid (Calls Try.prog 22 #[d.bv] wr (SynStep w T p bo ha ka i n)) := FW
            clear FW a6 hat hd h6 c6 r6 A6 b6 hop hbl hn hn0 hn8 H6
            generalize d.bv = dv at *
            go_wp2_with fail
            refine HW.out.mono ?_
            clear HW
            rintro e w7 ⟨ub, ud, rfl, HM⟩
            go_wp2_with fail
            refine HM.out.mono ?_
            clear HM
            rintro e w8 ⟨z, y, rfl, x1, x2, HE⟩
            go_wp2
            go_roundw
            case rel => exact ⟨i + 1, by omega, by go_num, HE.out⟩
            case measure => simp [intOf]; omega
          · clear a6 hat hd h6 c6 r6 A6 b6 hbl q2
            generalize d.op = dop at *
            generalize d.n = dn at *
            by_cases e1 : dop = 1
            · subst e1
              by_cases e2 : 0 ≤ dn
              · have e3 : ¬ dn < 8 := by omega
                clear hop
                go_wp2
                go_roundw
                case rel => exact ⟨i + 1, by omega, by go_num, S6, F6, m6, H6.out⟩
                case measure => simp [intOf]; omega
              · clear hop
                go_wp2
                go_roundw
                case rel => exact ⟨i + 1, by omega, by go_num, S6, F6, m6, H6.out⟩
                case measure => simp [intOf]; omega
            · clear hop
              go_wp2
              go_roundw
              case rel => exact ⟨i + 1, by omega, by go_num, S6, F6, m6, H6.out⟩
              case measure => simp [intOf]; omega
        · have g3 : ¬ (i : Int) < (t.length : Int) := by omega
          have hIs := HP.out.kept c6.1 (fun _ _ h => h)
          have hW6 := h6.wf
          have hx6 : S6.writes < 1099511627776 := by have := A6.st.wr; omega
          have hv : ps ≠ [] → ∀ g, (Value.slice pa ps.length pc).ownBlock = some g → ¬ F6 g := fun hne' g hg hf => by
            have h1 := (c6.2 g hf).1
            have hpl : 0 < ps.length := List.length_pos_iff.2 hne'
            rcases HP.out with ⟨e, e2⟩ | ⟨a, c, e, _, _, h3⟩
            · exact hne' e2
            · injection e with e1 _ _
              rw [e1] at hg
              have h4 := World.block_lt_of_cell? w _ (h3 0 hpl)
              have e5 : (a.add 0).block = a.block := by unfold Addr.add; split <;> rfl
              rw [e5] at h4
              have : a.block = g := by simpa [Value.ownBlock] using hg
              omega
          have H6 : Hid (Dk wr F6 p S6 ∧ (Chg (fun _ => False) w wr ∧ ∀ b, F6 b → w.heap.size ≤ b ∧ b ≠ bo ∧ b ≠ ha) ∧ wr.ownsRow w.heap.size 4 1 (.slice (some ⟨bo, 0, none⟩) 8 8) 8 (m6.map Value.bool) ∧ L2 T S6 m6 (150 + i) ∧ Bs wr (.slice (some ⟨ha, 0, none⟩) 4096 ka) (St.flat 8 T.last) ∧ Is wr (.slice pa ps.length pc) ps) := ⟨h6, c6, r6, A6, b6, hIs⟩
          have HV : Hid (ps ≠ [] → ∀ g, (Value.slice pa ps.length pc).ownBlock = some g → ¬ F6 g) := hv
          have HS : Hid (S6.Wf) := hW6
          clear h6 c6 r6 A6 b6 hIs HT HP hv hW6
          go_wp2_with fail
          refine (cut_arg F6 p S6 _ ps wr H6.out.1 H6.out.2.2.2.2.2 HV.out hx6).mono ?_
          rintro e w7 ⟨rfl, h7⟩
          obtain ⟨F7, d7, c7, r7, b7⟩ := rel_next H6.out.2.1 H6.out.2.2.1 H6.out.2.2.2.2.1 h7
          have H7 : Hid (Dk w7 F7 p (S6.cut ps) ∧ (Chg (fun _ => False) w w7 ∧ ∀ b, F7 b → w.heap.size ≤ b ∧ b ≠ bo ∧ b ≠ ha) ∧ w7.ownsRow w.heap.size 4 1 (.slice (some ⟨bo, 0, none⟩) 8 8) 8 (m6.map Value.bool) ∧ Bs w7 (.slice (some ⟨ha, 0, none⟩) 4096 ka) (St.flat 8 T.last)) := ⟨d7, c7, r7, b7⟩
          have HA : Hid (L2 T S6 m6 (150 + i)) := H6.out.2.2.2.1
          clear H6 h7 d7 c7 r7 b7 HV
          go_wp2_with fail
          refine (on_any F7 p (S6.cut ps) w7 H7.out.1).mono ?_
          rintro e w8 ⟨rfl, d8, c8⟩
          obtain ⟨F8, d8', c8', r8, b8⟩ := rel_next H7.out.2.1 H7.out.2.2.1 H7.out.2.2.2 (To.own H7.out.1.fp d8 c8)
          obtain ⟨S8, hS8⟩ : ∃ S8, (S6.cut ps).on = S8 := ⟨_, rfl⟩
          have HF : Hid (S8.nb = 8 ∧ S8.off = false ∧ S8.waiting = 0 ∧ S8.writes < 1099511627776 ∧ ∀ n, n < 8 → m6.getD n false = false → S8.last n = T.last n) := by
            rw [← hS8]
            refine ⟨by show (S6.cut ps).nb = 8; rw [St.cut_nb]; exact HA.out.st.nb, rfl, waiting_none (fun n => St.cut_wait HS.out ps HA.out.st.off n), by show (S6.cut ps).writes < _; rw [St.cut_writes]; exact hx6, fun n hn hm => synced_same HA.out HS.out HTf.out.2.2 ps hn hm⟩
          rw [hS8] at d8'
          have H8 : Hid (Dk w8 F8 p S8 ∧ (Chg (fun _ => False) w w8 ∧ ∀ b, F8 b → w.heap.size ≤ b ∧ b ≠ bo ∧ b ≠ ha) ∧ w8.ownsRow w.heap.size 4 1 (.slice (some ⟨bo, 0, none⟩) 8 8) 8 (m6.map Value.bool) ∧ Bs w8 (.slice (some ⟨ha, 0, none⟩) 4096 ka) (St.flat 8 T.last)) := ⟨d8', c8', r8, b8⟩
          have hlm : m6.length = 8 := HA.out.len
          clear H7 d8 c8 d8' c8' r8 b8 hS8 HA HS hx6
          go_wp2_with fail
          refine (image_any F8 p S8 w8 H8.out.1 HF.out.2.2.2.1).mono ?_
          rintro e w9 ⟨ga, ca, rfl, fr9⟩
          have hTn : 512 * S8.nb = 4096 := by rw [HF.out.1]
          have hTi : S8.image = St.flat 8 S8.last := by unfold St.image; rw [HF.out.1]
          rw [hTn, hTi] at fr9
          rw [hTn]
          have hlS : ∀ n, n < 8 → (S8.last n).length = 512 := fun n hn => St.last_len H8.out.1.wf (by rw [HF.out.1]; exact hn)
          have hca : 4096 ≤ ca := by
            obtain ⟨a, c, e, hc⟩ := fr9.bs.form
            rw [St.flat_length hlS] at e hc
            cases e; exact hc
          have cf := fr9.chg
          have REL3 : L3 w w9 F8 p ga ca ha ka bo m6 S8 T := ⟨H8.out.1.kept cf (fun _ _ h => h), H8.out.2.1.1.trans cf (fun _ _ h => h), fr9.bs, H8.out.2.2.2.kept cf (fun _ _ _ _ _ h => h), own_same H8.out.2.2.1 (fun g hg => cf.block g (H8.out.2.2.1.lt g hg).2 (fun h => h)), hlS, HTf.out.1, HF.out.2.2.2.2⟩
          clear H8 fr9 hTn hTi hlS cf HTf
          go_wp2_with fail
          go_loopw [15, 16] (fun x _ wr => ∃ i : Nat, i ≤ 8 ∧ x = .int .i64 (i : Int) ∧ L3 w wr F8 p ga ca ha ka bo m6 S8 T) (fun x _ _ => 8 - (intOf x).toNat)
          case atStart => exact ⟨0, Nat.zero_le _, rfl, REL3⟩
          case round =>
            clear REL3
            obtain ⟨j, hj8, rfl, h3⟩ := hrel
            by_cases hjl : j < 8
            · have g4 : (j : Int) < 8 := by omega
              have sl1 : ∀ w, (Instr.slice 32 (.slice (some ⟨ga, 0, none⟩) 4096 ca) (some (.int .i64 ((j : Int) * 512))) (some (.int .i64 (((j : Int) + 1) * 512))) none).run Try.prog w = .ok (.slice (some ⟨ga, 512 * j, none⟩) 512 (ca - 512 * j)) w := fun w => slice_mid ga ca j hjl hca _ _ (by omega) (by omega) w
              have sl2 : ∀ w, (Instr.slice 32 (.slice (some ⟨ha, 0, none⟩) 4096 ka) (some (.int .i64 ((j : Int) * 512))) (some (.int .i64 (((j : Int) + 1) * 512))) none).run Try.prog w = .ok (.slice (some ⟨ha, 512 * j, none⟩) 512 (ka - 512 * j)) w := fun w => slice_mid ha ka j hjl hka _ _ (by omega) (by omega) w
              have wr1 : IntKind.i64.wrap ((j : Int) * 512) = (j : Int) * 512 := by rw [IntKind.wrap_i64]; omega
              have wr2 : IntKind.i64.wrap ((j : Int) + 1) = (j : Int) + 1 := by rw [IntKind.wrap_i64]; omega
              have wr3 : IntKind.i64.wrap (((j : Int) + 1) * 512) = ((j : Int) + 1) * 512 := by rw [IntKind.wrap_i64]; omega
              have bg := run_str (w := wr.drew) (h3.drew.got.blockOf h3.lenS hjl)
              have bw := run_str (w := wr.drew) (h3.drew.want.blockOf h3.lenT hjl)
              have oc := h3.drew.row.cells (g := bo) rfl j (.bool (m6.getD j false)) (by simp [List.getD, hlm, hjl])
              rw [add_zero_off] at oc
              have H3 : Hid (L3 w wr.drew F8 p ga ca ha ka bo m6 S8 T) := h3.drew
              have hsm := h3.same j hjl
              obtain ⟨tg, qg⟩ : ∃ t, strOf (S8.last j) = t := ⟨_, rfl⟩
              obtain ⟨tw, qw⟩ : ∃ t, strOf (T.last j) = t := ⟨_, rfl⟩
              rw [qg] at bg
              rw [qw] at bw
              by_cases hm : m6.getD j false = false
              · have hgw : tg = tw := by rw [← qg, ← qw, hsm hm]
                subst hgw
                rw [hm] at oc
                clear h3 hsm qg qw hm
                go_wp2_with fail
                go_region_held (fun w' => (convert 32 9 (.slice (some ⟨ga, 512 * j, none⟩) 512 (ca - 512 * j))).run Try.prog w' = .ok (.string tg) w' ∧ (convert 32 9 (.slice (some ⟨ha, 512 * j, none⟩) 512 (ka - 512 * j))).run Try.prog w' = .ok (.string tg) w')
                  (first | exact ⟨bg, bw⟩) (fail)
                all_goals
                  go_wp2
                  go_roundw
                  case rel => exact ⟨j + 1, by omega, by go_num, H3.out⟩
                  case measure => simp [intOf]; omega
              · have hm2 : m6.getD j false = true := by simpa using hm
                rw [hm2] at oc
                clear h3 hsm qg qw hm hm2
                go_wp2_with fail
                go_region_held (fun w' => (convert 32 9 (.slice (some ⟨ga, 512 * j, none⟩) 512 (ca - 512 * j))).run Try.prog w' = .ok (.string tg) w' ∧ (convert 32 9 (.slice (some ⟨ha, 512 * j, none⟩) 512 (ka - 512 * j))).run Try.prog w' = .ok (.string tw) w')
                  (first | exact ⟨bg, bw⟩) (fail)
                all_goals
                  go_wp2
                  go_roundw
                  case rel => exact ⟨j + 1, by omega, by go_num, H3.out⟩
                  case measure => simp [intOf]; omega
            · have g4 : ¬ (j : Int) < 8 := by omega
              have H3 : Hid (L3 w wr F8 p ga ca ha ka bo m6 S8 T) := h3
              clear h3
              go_wp2_with fail
              refine (waiting_any F8 p S8 wr H3.out.dk HF.out.2.2.2.1).mono ?_
              rintro e w10 ⟨rfl, c10⟩
              rw [HF.out.2.2.1]
              go_wp2_with fail
              refine (off_any F8 p S8 w10 (H3.out.dk.kept c10 (fun _ _ h => h))).mono ?_
              rintro e w11 ⟨rfl, rfl⟩
              rw [HF.out.2.1]
              go_wp2
              go_ret
              exact ⟨rfl, H3.out.chg.trans c10 (fun _ _ h => h)⟩

theorem law_synced (lv tv pv : Value) (l t : List ActD) (ps : List Int) (w : World) (hl : Acts w lv l) (ht : Acts w tv t) (hp : Is w pv ps) :
    Calls Try.prog 4 #[lv, tv, pv] w fun e w' => e = .returned (.bool true) ∧ Chg (fun _ => False) w w' := by
  cases hf : fewA l
  · exact synced_out1 lv tv pv l w hl hf
  cases hg : fewA t
  · exact synced_out2 lv tv pv l t w hl ht hf hg
  by_cases h4 : 100 < ps.length
  · obtain ⟨pa, pc, rfl, _⟩ := hp.form
    exact synced_out3 lv tv pa ps.length pc l t w hl ht hf hg (by omega)
  · exact synced_loop lv tv pv l t ps w hl ht hp hf hg (by omega)
end Go.Proofs.Ytkafpnjimdhakaa
