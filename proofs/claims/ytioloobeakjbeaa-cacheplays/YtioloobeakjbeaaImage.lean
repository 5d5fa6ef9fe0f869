/-
  Contracts of Waiting and Image of package block.
-/
import Derived.Test.YtioloobeakjbeaaHelp
import Derived.Deep.RegionHeldLaw
namespace Go.Proofs.Ytioloobeakjbeaa
open Go.RowKit Go.Maps
attribute [local go_sem ↓] Go.wp_at_zero Go.wp_at_succ

def sumTo (nb : Nat) (f : Nat → Nat) : Nat := ((List.range nb).map f).sum
theorem sumTo_succ (nb : Nat) (f : Nat → Nat) : sumTo (nb + 1) f = sumTo nb f + f nb := by simp [sumTo, List.range_succ]
theorem sumTo_congr {nb : Nat} {f g : Nat → Nat} (h : ∀ n, n < nb → f n = g n) : sumTo nb f = sumTo nb g := by
  induction nb with
  | zero => rfl
  | succ k ih => rw [sumTo_succ, sumTo_succ, ih (fun n hn => h n (by omega)), h k (by omega)]
theorem sumTo_upd {nb n : Nat} {f : Nat → Nat} (hn : n < nb) (h0 : f n = 0) (v : Nat) : sumTo nb (upd f n v) = sumTo nb f + v := by
  induction nb with
  | zero => omega
  | succ k ih =>
    rw [sumTo_succ, sumTo_succ]
    by_cases e : n = k
    · subst e
      rw [upd_same, sumTo_congr (g := f) (fun j hj => upd_other f v (by omega)), h0]; omega
    · rw [ih (by omega), upd_other f v (fun e2 => e e2.symm)]; omega
theorem sumTo_le {nb W : Nat} {f : Nat → Nat} (h : ∀ n, f n ≤ W) : sumTo nb f ≤ nb * W := by
  induction nb with
  | zero => simp [sumTo]
  | succ k ih => rw [sumTo_succ, Nat.succ_mul]; have := h k; omega
/-- How many versions of the blocks that have come. -/
def cnts (S : St) (g : Nat → Bool) : Nat := sumTo S.nb fun n => if g n then 0 else (S.wait n).length
theorem cnts_start {S : St} {g : Nat → Bool} (h : ∀ n, g n = false → S.wait n = []) : cnts S g = 0 := by
  unfold cnts
  rw [sumTo_congr (g := fun _ => 0) (fun n _ => by
    cases hg : g n
    · simp [h n hg]
    · simp)]
  induction S.nb with
  | zero => rfl
  | succ k ih => rw [sumTo_succ, ih]
theorem cnts_end {S : St} {g : Nat → Bool} (h : ∀ n, n < S.nb → g n = false) : cnts S g = S.waiting := by
  unfold cnts St.waiting
  exact sumTo_congr (fun n hn => by simp [h n hn])
theorem cnts_step {S : St} {g : Nat → Bool} {n : Nat} (hn : n < S.nb) (hg : g n = true) : cnts S (upd g n false) = cnts S g + (S.wait n).length := by
  unfold cnts
  rw [← sumTo_upd (f := fun n => if g n then 0 else (S.wait n).length) hn (by simp [hg])]
  refine sumTo_congr (fun k _ => ?_)
  by_cases e : k = n
  · subst e; simp [upd_same]
  · simp [upd_other _ _ e]
theorem cnts_le {S : St} (h : S.Wf) (g : Nat → Bool) : cnts S g ≤ S.nb * S.writes := sumTo_le (fun n => by
  have := h.few n
  show (if g n then 0 else (S.wait n).length) ≤ S.writes
  split <;> omega)

set_option maxHeartbeats 1600000 in
theorem waiting_any (F : Nat → Prop) (p : Nat) (S : St) (w : World) (h : Dk w F p S) (hx : S.writes < 1099511627776) :
    Calls Try.prog 23 #[.pointer (some ⟨p, 0, none⟩)] w fun e w' => e = .returned (.int .i64 (S.waiting : Int)) ∧ Chg (fun _ => False) w w' := by
  obtain ⟨s, sc, m, pv, V, h⟩ := h
  have c1 := h.c1
  have hlt := h.lt
  have HH : Hid (DkAt w F p S s sc m pv V) := h
  have hmap := h.map
  have htop := h.wf.top
  have hprod : S.nb * S.writes ≤ 16384 * 1099511627776 := Nat.mul_le_mul htop (by omega)
  clear h
  go_enter Try.func23, Try.ntmps23
  go_wp2_with (at_range; refine wpList_range_is _ rfl (.tmp 9) rfl m S.nb (mf S V) rfl hmap ?_; intro w0 cnt0 hrg0 hg0 hs0)
  go_frame
  have hst : cnts S (fun n => (mf S V n).isSome) = 0 := cnts_start (fun n hn => by
    by_cases hw : S.wait n = []
    · exact hw
    · rw [mf_some hw] at hn; cases hn)
  have REL0 : Rng w0 m w.heap.size S.nb (mf S V) (fun n => (mf S V n).isSome) cnt0 ∧ DkAt w0 F p S s sc m pv V ∧ Chg (fun _ => False) w w0 :=
    ⟨hrg0, HH.out.kept (Chg.of_none hg0) (fun _ _ h => h), Chg.of_none hg0⟩
  have HW : Hid S.Wf := HH.out.wf
  clear HH hmap hrg0 hg0 hs0 c1
  go_loopw [3, 5] (fun x _ wr => ∃ g cnt, x = .int .i64 (cnts S g : Int) ∧ Rng wr m w.heap.size S.nb (mf S V) g cnt ∧ DkAt wr F p S s sc m pv V ∧ Chg (fun _ => False) w wr) (fun _ _ wr => wr.rangeLeft m w.heap.size)
  case atStart => exact ⟨_, _, by rw [hst]; rfl, REL0⟩
  case round =>
    clear REL0 hst
    obtain ⟨g, cnt, rfl, hrg, hdk, hch⟩ := hrel
    have hform := hdk.form
    have hcl := cnts_le HW.out g
    go_wp2_with (first
      | (at_next; refine wpList_next_sl _ rfl (.tmp 10) rfl m w.heap.size S.nb (mf S V) g cnt (fun n => (S.wait n).length) htop rfl hrg hform ?_ ?_)
      | go_in)
    · intro hdone
      clear hform
      go_wp2
      go_ret
      rw [cnts_end hdone]
      exact ⟨rfl, hch⟩
    · intro n x c w2 cnt2 hn hgn hf hrg2 hlt2 hg2 hs2 hen
      have hdk2 := hdk.kept (Chg.of_grown hg2) (fun b hb e => by have := hlt b hb; omega)
      have hch2 : Chg (fun _ => False) w w2 := hch.trans (Chg.of_grown hg2) (fun i hi e => by omega)
      have hl := hrg.left
      have hfw := HW.out.few n
      have hstep := cnts_step (S := S) hn hgn
      obtain ⟨L, hL⟩ : ∃ L, (S.wait n).length = L := ⟨_, rfl⟩
      obtain ⟨C, hC⟩ : ∃ C, cnts S g = C := ⟨_, rfl⟩
      rw [hL, hC] at hstep
      rw [hL] at hfw
      rw [hC] at hcl
      simp only [hL, hC] at hen ⊢
      clear hform hf hs2 hrg hdk hch hg2 hL hC
      have HST : Hid (cnts S (upd g n false) = C + L) := hstep
      clear hstep
      go_wp2
      go_roundw
      case rel => exact ⟨_, cnt2, by rw [HST.out]; go_num, hrg2, hdk2, hch2⟩
      case measure => rw [hrg2.left, hl]; omega

theorem step_copy_eq {P : Program} {w : World} {ops : Array Oper} {o : Oper} {a : Act} {K : Act → World → Prop} {Q : Exit → Act → World → Prop} {E : Prop} (hgd : o.guard = none) (d s : Operand) (t : TypeId)
    (ho : o.op = .call { callee := .builtin .copy, args := #[d, s], argTypes := #[t, t] }) (vd vs : Value) (hd : a.eval d = vd) (hs : a.eval s = vs) (v' : Value) (w' : World)
    (hr : (Builtin.copy_ #[t, t] o.type #[vd, vs]).run P w = .ok v' w') (h : K (a.put o.dst v') w') : if Region.wanted o (yielded ops a.tmps) = true then Oper.wp P o a w K Q else E := by
  have hw : Region.wanted o (yielded ops a.tmps) = true := by simp [Region.wanted, hgd]
  rw [if_pos hw]
  unfold Oper.wp
  simp [execOp, ho, resolve, invoke, builtin, hd, hs, hr, Result.andThen]
  exact h

/-- A block is copied into its place of an image. -/
theorem image_copy {w wr : World} {S : St} (hwf : S.Wf) {f : Nat → List Int} (hf : ∀ n, n < S.nb → (f n).length = 512) {ga ca n : Nat} (hn : n < S.nb) {b : List Int} (hb : b.length = 512)
    (hown : wr.ownsRow w.heap.size 5 1 (.slice (some ⟨ga, 0, none⟩) (512 * S.nb) ca) (512 * S.nb) (bcells (St.flat S.nb f))) {a : Addr} {c : Nat} (hs : Bs wr (.slice (some a) 512 c) b) :
    ∃ w', (Builtin.copy_ #[39, 39] 3 #[.slice (some ⟨ga, 512 * n, none⟩) (512 * S.nb - 512 * n) (ca - 512 * n), .slice (some a) 512 c]).run Try.prog wr = .ok (goInt 512) w' ∧
      w'.ownsRow w.heap.size 5 1 (.slice (some ⟨ga, 0, none⟩) (512 * S.nb) ca) (512 * S.nb) (bcells (St.flat S.nb (upd f n b))) ∧ Chg (fun k => k = ga) wr w' ∧ w'.heap.size = wr.heap.size := by
  have _t := hwf.top
  have hbl : (bcells b).length = 512 := by simp [bcells]; exact hb
  rcases hown.2 with ⟨e, _⟩ | ⟨g, cap, cur, e, hbase, hg, h1, h2, h3, h4⟩
  · cases e
  cases e
  have h3' : cur.size = ca := by simpa using h3
  have h4' : cur.toList.take (512 * S.nb) = bcells (St.flat S.nb f) := by simpa using h4
  have hcl : cur.toList.length = ca := by simpa using h3'
  have hmin : (bcells b).length = Nat.min 512 (512 * S.nb - 512 * n) := by
    rw [hbl]
    exact (Nat.min_eq_left (by omega)).symm
  have hr := run_copy_row (P := Try.prog) wr 39 39 3 5 ga (512 * n) (512 * S.nb - 512 * n) (ca - 512 * n) a 512 c cur 5 (bcells b) Try.underlying39 (by kernel_rfl) hg hmin (fun i u hu => by
    obtain ⟨hi, rfl⟩ := bcells_get hu
    rcases hs with ⟨e, _⟩ | ⟨a', c', e, _, _, hc⟩
    · cases e
    · simp at e; obtain ⟨rfl, _⟩ := e; exact hc i hi) (by rw [hbl, h3']; omega) (bcells_one _)
  refine ⟨_, by rw [hr, hbl]; rfl, ⟨?_, .inr ⟨ga, ca, _, rfl, hbase, setRow_heap wr ga cur _ 5 _ hg, h1, h2, ?_, ?_⟩⟩, ?_, by simp⟩
  · have hl2 := St.flat_length (nb := S.nb) (f := upd f n b) (fun k hk => by
      unfold upd; split
      · exact hb
      · exact hf k hk)
    simp only [bcells, List.length_map, Nat.mul_one]
    exact hl2
  · simp [hbl, List.length_take, hcl]; omega
  · rw [St.flat_set hn hf]
    have e1 : bcells ((St.flat S.nb f).take (512 * n) ++ b ++ (St.flat S.nb f).drop (512 * n + 512)) = (bcells (St.flat S.nb f)).take (512 * n) ++ bcells b ++ (bcells (St.flat S.nb f)).drop (512 * n + 512) := by
      simp [bcells, List.map_take, List.map_drop]
    rw [e1, ← h4', Nat.mul_one]
    have e2 : (cur.toList.take (512 * S.nb)).take (512 * n) = cur.toList.take (512 * n) := by rw [List.take_take, Nat.min_eq_left (by omega)]
    have e3 : (cur.toList.take (512 * S.nb)).drop (512 * n + 512) = (cur.toList.drop (512 * n + 512)).take (512 * S.nb - (512 * n + 512)) := by rw [List.drop_take]
    have hl : (cur.toList.take (512 * n) ++ bcells b).length = 512 * n + 512 := by simp [hbl, hcl]; omega
    rw [e2, e3]
    show (cur.toList.take (512 * n) ++ bcells b ++ cur.toList.drop (512 * n + 512)).take (512 * S.nb) = _
    rw [List.take_append, hl, List.take_of_length_le (by rw [hl]; omega)]
  · exact ⟨rfl, rfl, rfl, by simp, fun k _ hne => setRow_other wr ga k _ hne⟩

theorem slice_from (ga nb ca n : Nat) (hn : n < nb) (hc : 512 * nb ≤ ca) (z : Int) (hz : z = ((512 * n : Nat) : Int)) (w : World) : (Instr.slice 39 (.slice (some ⟨ga, 0, none⟩) (512 * nb) ca) (some (.int .i64 z)) none none).run Try.prog w = .ok (.slice (some ⟨ga, 512 * n, none⟩) (512 * nb - 512 * n) (ca - 512 * n)) w := by
  have h0 : 0 ≤ z := by omega
  have h1 : z ≤ ((512 * nb : Nat) : Int) := by omega
  have hzn : z.toNat = 512 * n := by omega
  have hb : (Instr.sliceBounds true (512 * nb) ca (some (.int .i64 z)) none none).run Try.prog w = .ok (512 * n, 512 * nb, ca) w := by
    have hs2 : ∀ code, (Instr.sliceBound (.int .i64 z) (512 * nb) code).run Try.prog w = .ok (512 * n) w := fun code => by rw [run_sliceBound (P := Try.prog) w .i64 z (512 * nb) code h0 h1, hzn]
    simp [Instr.sliceBounds, hs2]
  rw [run_slice_any w 39 _ _ _ (by kernel_rfl), hb]
  have hsz : (sizeOf (Try.prog.elem 39)).run Try.prog w = .ok 1 w := by kernel_rfl
  simp only [Result.andThen, hsz, sliced]
  rw [if_neg (by omega)]
  show Result.ok (Value.slice (some ((⟨ga, 0, none⟩ : Addr).add (512 * n * 1))) _ _) w = _
  rw [Nat.mul_one, add_zero_off]

theorem mask_syn_step {S : St} {g : Nat → Bool} {n : Nat} : upd (mask S g).syn n (S.last n) = (mask S (upd g n false)).syn := by
  funext k
  by_cases e : k = n
  · subst e; simp [mask, upd_same]
  · simp [mask, upd_other _ _ e]
theorem mask_len {S : St} (h : S.Wf) (g : Nat → Bool) : ∀ n, n < S.nb → ((mask S g).syn n).length = 512 := fun n hn => by
  show (if g n then S.syn n else S.last n).length = 512
  split
  · exact h.syn n hn
  · exact St.last_len h hn

set_option maxHeartbeats 3200000 in
set_option maxRecDepth 100000 in
theorem image_any (F : Nat → Prop) (p : Nat) (S : St) (w : World) (h : Dk w F p S) (hx : S.writes < 1099511627776) :
    Calls Try.prog 21 #[.pointer (some ⟨p, 0, none⟩)] w fun e w' => ∃ a c, e = .returned (.slice (some ⟨a, 0, none⟩) (512 * S.nb) c) ∧ Fresh w w' (.slice (some ⟨a, 0, none⟩) (512 * S.nb) c) S.image := by
  obtain ⟨s, sc, m, pv, V, h⟩ := h
  have c0 := h.c0
  have hlt := h.lt
  have htop := h.wf.top
  have hpos := h.wf.pos
  have fl := St.flat_length (nb := S.nb) (f := S.syn) h.wf.syn
  have HH : Hid (DkAt w F p S s sc m pv V) := h
  clear h
  go_enter Try.func21, Try.ntmps21
  go_wp2_with fail
  refine (cloneB_any _ (St.flat S.nb S.syn) w (Bs.ofOwns HH.out.syn) (by omega)).mono ?_
  rintro e w1 ⟨u, rfl, ho, hc⟩
  have hu : ∃ g c, u = .slice (some ⟨g, 0, none⟩) (512 * S.nb) c := by
    rcases ho.2 with ⟨_, h0⟩ | ⟨g, c, cur, e, _⟩
    · omega
    · exact ⟨g, c, by rw [e, fl]⟩
  obtain ⟨ga, ca, rfl⟩ := hu
  rw [fl] at ho
  have D1 := HH.out.kept hc (fun _ _ h => h)
  have c1 := D1.c1
  have hmap := D1.map
  have hga := ho.lt ga rfl
  have hca : 512 * S.nb ≤ ca ∧ ca ≤ maxLen := by
    rcases ho.2 with ⟨e, _⟩ | ⟨g, cap, cur, e, _, _, h1, h2, _⟩
    · cases e
    · cases e; exact ⟨h1, h2⟩
  obtain ⟨hca1, hca2⟩ := hca
  unfold maxLen at hca2
  have HO : Hid (w1.ownsRow w.heap.size 5 1 (.slice (some ⟨ga, 0, none⟩) (512 * S.nb) ca) (512 * S.nb) (bcells (St.flat S.nb S.syn)) ∧ DkAt w1 F p S s sc m pv V ∧ Chg (fun _ => False) w w1) := ⟨ho, D1, hc⟩
  clear HH ho D1 hc c0 fl
  go_wp2_with (at_range; refine wpList_range_is _ rfl (.tmp 14) rfl m S.nb (mf S V) rfl hmap ?_; intro w0 cnt0 hrg0 hg0 hs0)
  go_frame
  have hst : mask S (fun n => (mf S V n).isSome) = S := mask_start (fun n hn => by
    by_cases hw : S.wait n = []
    · exact hw
    · rw [mf_some hw] at hn; cases hn)
  obtain ⟨r, hr⟩ : ∃ r, w1.heap.size = r := ⟨_, rfl⟩
  rw [hr] at hrg0 hs0 hga ⊢
  have hrw : w.heap.size ≤ r := by rw [← hr]; exact HO.out.2.2.size
  have REL0 : Rng w0 m r S.nb (mf S V) (fun n => (mf S V n).isSome) cnt0 ∧ DkAt w0 F p S s sc m pv V ∧ Chg (fun _ => False) w w0 ∧ w0.ownsRow w.heap.size 5 1 (.slice (some ⟨ga, 0, none⟩) (512 * S.nb) ca) (512 * S.nb) (bcells (St.flat S.nb (mask S fun n => (mf S V n).isSome).syn)) := by
    have cg := Chg.of_none hg0
    rw [hst]
    exact ⟨hrg0, HO.out.2.1.kept cg (fun _ _ h => h), HO.out.2.2.trans cg (fun _ _ h => h), own_same HO.out.1 (fun g' hg' => cg.block g' (HO.out.1.lt g' hg').2 (fun h => h))⟩
  have HW : Hid S.Wf := HO.out.2.1.wf
  clear HO hmap hrg0 hg0 hs0 c1 hst hr
  go_loopw [4, 5] (fun _ _ wr => ∃ g cnt, Rng wr m r S.nb (mf S V) g cnt ∧ DkAt wr F p S s sc m pv V ∧ Chg (fun _ => False) w wr ∧ wr.ownsRow w.heap.size 5 1 (.slice (some ⟨ga, 0, none⟩) (512 * S.nb) ca) (512 * S.nb) (bcells (St.flat S.nb (mask S g).syn))) (fun _ _ wr => wr.rangeLeft m r)
  case atStart => exact ⟨_, _, REL0⟩
  case round =>
    clear REL0
    obtain ⟨g, cnt, hrg, hdk, hch, hown⟩ := hrel
    have hform := hdk.form
    go_wp2_with (first
      | (at_next; refine wpList_next_sl _ rfl (.tmp 15) rfl m r S.nb (mf S V) g cnt (fun n => (S.wait n).length) htop rfl hrg hform ?_ ?_)
      | go_in)
    · intro hdone
      clear hform
      go_wp2
      go_ret
      have e : (mask S g).syn = S.last := by
        rw [mask_end (g := g) (fun n hn => by
          by_cases h : n < S.nb
          · rw [hdone n h] at hn; cases hn
          · exact HW.out.out n (by omega))]
        rfl
      rw [e] at hown
      have hil : (S.image).length = 512 * S.nb := St.flat_length (fun n hn => St.last_len HW.out hn)
      exact ⟨ga, ca, rfl, by rw [hil]; exact hown, hch⟩
    · intro n x c w2 cnt2 hn hgn hf hrg2 hlt2 hg2 hs2 hen
      have cg := Chg.of_grown hg2
      have hdk2 := hdk.kept cg (fun b hb e => by have := hlt b hb; omega)
      have hch2 : Chg (fun _ => False) w w2 := hch.trans cg (fun i hi e => by omega)
      have hown2 := own_same hown (fun g' hg' => cg.block g' (hown.lt g' hg').2 (fun e => by simp [Value.ownBlock] at hg'; omega))
      have hl := hrg.left
      have HP := pick_any F p S n (S.wait n).length w2.drew (hdk2.kept (Chg.drew (fun _ => False) w2) (fun _ _ h => h)) hn (Nat.le_refl _) hx
      have HP2 : Hid (Calls Try.prog 51 #[.pointer (some ⟨p, 0, none⟩), .int .i64 (n : Int), .int .i64 ((S.wait n).length : Int)] w2.drew fun e w' => ∃ (a : Addr) (c : Nat) (w3 : World), e = .returned (.slice (some a) 512 c) ∧ w' = w2.drew ∧
          (Builtin.copy_ #[39, 39] 3 #[.slice (some ⟨ga, 512 * n, none⟩) (512 * S.nb - 512 * n) (ca - 512 * n), .slice (some a) 512 c]).run Try.prog w2.drew = .ok (goInt 512) w3 ∧
          Hid (Rng w3 m r S.nb (mf S V) (upd g n false) cnt2 ∧ DkAt w3 F p S s sc m pv V ∧ Chg (fun _ => False) w w3 ∧ w3.ownsRow w.heap.size 5 1 (.slice (some ⟨ga, 0, none⟩) (512 * S.nb) ca) (512 * S.nb) (bcells (St.flat S.nb (mask S (upd g n false)).syn)))) := by
        refine HP.mono ?_
        rintro e w' ⟨a, c, rfl, rfl, hb, _⟩
        obtain ⟨w3, hr3, ho3, hc3, hs3⟩ := image_copy (w := w) HW.out (mask_len HW.out g) hn (St.last_len HW.out hn) (wr := w2.drew) hown2 hb
        have hmb := hlt m hdk2.fm
        refine ⟨a, c, w3, rfl, rfl, hr3, hrg2.kept (hc3.block m (by show m < w2.heap.size; have := hch2.size; omega) (by omega)) (hc3.block r hrg2.lt (by omega)), (hdk2.kept (Chg.drew (fun _ => False) w2) (fun _ _ h => h)).kept hc3 (fun b hb e => by have := hlt b hb; omega), (hch2.trans (Chg.drew (fun _ => False) w2) (fun _ _ h => h)).trans hc3 (fun i hi e => by omega), ?_⟩
        rw [mask_syn_step] at ho3
        exact ho3
      clear HP hform hf hs2 hrg hdk hch hg2 hown cg hrg2 hdk2 hch2 hown2
      have g1 : ¬ ca = 512 * n := by omega
      have g2 : (512 : Int) * (n : Int) ≤ (512 : Int) * (S.nb : Int) := by omega
      have g6 : 512 * n ≤ 512 * S.nb := by omega
      have g7 : n ≤ S.nb := by omega
      have sl2 : ∀ w, (Instr.slice 39 (.slice (some ⟨ga, 0, none⟩) (512 * S.nb) ca) (some (.int .i64 ((n : Int) * 512))) none none).run Try.prog w = .ok (.slice (some ⟨ga, 512 * n, none⟩) (512 * S.nb - 512 * n) (ca - 512 * n)) w := fun w => slice_from ga S.nb ca n hn hca1 _ (by omega) w
      have sl3 : ∀ w, (Instr.slice 39 (.slice (some ⟨ga, 0, none⟩) (512 * S.nb) ca) (some (.int .i64 (512 * (n : Int)))) none none).run Try.prog w = .ok (.slice (some ⟨ga, 512 * n, none⟩) (512 * S.nb - 512 * n) (ca - 512 * n)) w := fun w => slice_from ga S.nb ca n hn hca1 _ (by omega) w
      have wr1 : IntKind.i64.wrap ((n : Int) * 512) = (n : Int) * 512 := by rw [IntKind.wrap_i64]; omega
      clear g2
      have g8 : (n : Int) ≤ (S.nb : Int) := by omega
      obtain ⟨L, hL⟩ : ∃ L, (S.wait n).length = L := ⟨_, rfl⟩
      simp only [hL] at hen HP2 ⊢
      clear hL
      go_wp2_with fail
      go_region_held_law (fun _ => True) (trivial)
        (first
          | (go_at_call 51; refine HP2.out.mono ?_; clear HP2; rintro e w5 ⟨a5, c5, w6, rfl, rfl, k5, HQ⟩)
          | (refine step_copy_eq (by rfl) _ _ _ (by rfl) _ _ (by rfl) (by rfl) _ _ k5 ?_; simp only [List.getElem_toArray, List.getElem_cons_succ, List.getElem_cons_zero, Act.put, List.setIfInBounds_toArray, List.set_cons_zero, List.set_cons_succ]))
      all_goals
        go_wp2
        go_roundw
        case rel => exact ⟨_, cnt2, HQ.out⟩
        case measure => rw [HQ.out.1.left, hl]; omega
end Go.Proofs.Ytioloobeakjbeaa

namespace Go.Proofs.Ytioloobeakjbeaa
open Go.RowKit Go.Maps

/-- An act as it lies in memory. -/
structure ActD where
  op : Int
  n : Int
  bv : Value
  bs : List Int
  pv : Value
  ps : List Int

/-- An act's four cells at ⟨b, o⟩. -/
structure ActAt (w : World) (b o : Nat) (d : ActD) : Prop where
  op : w.cell? ⟨b, o, none⟩ = some (.int .i64 d.op)
  n : w.cell? ⟨b, o + 1, none⟩ = some (.int .i64 d.n)
  bc : w.cell? ⟨b, o + 2, none⟩ = some d.bv
  pc : w.cell? ⟨b, o + 3, none⟩ = some d.pv
  bs : Bs w d.bv d.bs
  ps : Is w d.pv d.ps
  n0 : -9223372036854775808 ≤ d.n
  n1 : d.n < 9223372036854775808

/-- v is a slice of acts that reads l. -/
def Acts (w : World) (v : Value) (l : List ActD) : Prop :=
  ((∃ a c, v = .slice a 0 c) ∧ l = []) ∨
  ∃ b off c, v = .slice (some ⟨b, off, none⟩) l.length c ∧ ∀ (j : Nat) d, l[j]? = some d → ActAt w b (off + j * 4) d
theorem ActAt.kept {w w' : World} {b o : Nat} {d : ActD} (h : ActAt w b o d) (hc : Chg (fun _ => False) w w') : ActAt w' b o d :=
  ⟨hc.cell h.op (fun h => h), hc.cell h.n (fun h => h), hc.cell h.bc (fun h => h), hc.cell h.pc (fun h => h), h.bs.kept hc (fun _ _ _ _ _ h => h), h.ps.kept hc (fun _ _ h => h), h.n0, h.n1⟩
theorem Acts.kept {w w' : World} {v : Value} {l : List ActD} (h : Acts w v l) (hc : Chg (fun _ => False) w w') : Acts w' v l := by
  rcases h with h | ⟨b, off, c, e, hd⟩
  · exact .inl h
  · exact .inr ⟨b, off, c, e, fun j d hj => (hd j d hj).kept hc⟩
theorem Acts.form {w : World} {v : Value} {l : List ActD} (h : Acts w v l) : ∃ a c, v = .slice a l.length c := by
  rcases h with ⟨⟨a, c, rfl⟩, rfl⟩ | ⟨b, off, c, rfl, _⟩
  · exact ⟨a, c, rfl⟩
  · exact ⟨_, _, rfl⟩
theorem Acts.at {w : World} {a : Option Addr} {n c i : Nat} {l : List ActD} (h : Acts w (.slice a n c) l) (hi : i < l.length) : ∃ b off, a = some ⟨b, off, none⟩ ∧ ActAt w b (off + i * 4) l[i] := by
  rcases h with ⟨_, rfl⟩ | ⟨b, off, c', e, hd⟩
  · simp at hi
  · cases e
    exact ⟨b, off, rfl, hd i l[i] (by simp [hi])⟩

/-- An act that is short enough. -/
def ActD.few (d : ActD) : Bool := decide (d.bs.length ≤ 512) && decide (d.ps.length ≤ 50)
def fewA (l : List ActD) : Bool := decide (l.length ≤ 150) && l.all ActD.few

set_option maxHeartbeats 1600000 in
set_option maxRecDepth 100000 in
theorem few_any (v : Value) (l : List ActD) (w : World) (h : Acts w v l) : Calls Try.prog 10 #[v] w fun e w' => e = .returned (.bool (fewA l)) ∧ w' = w := by
  obtain ⟨a, c, rfl⟩ := h.form
  by_cases h150 : 150 < l.length
  · have k1 : (150 : Int) < (l.length : Int) := by omega
    have e : fewA l = false := by simp [fewA]; omega
    rw [e]
    clear h e
    go_enter Try.func10, Try.ntmps10
    go_wp2
    go_ret
    exact ⟨rfl, rfl⟩
  have k1 : ¬ (150 : Int) < (l.length : Int) := by omega
  have HH : Hid (Acts w (.slice a l.length c) l) := h
  clear h
  go_enter Try.func10, Try.ntmps10
  go_wp2_with fail
  go_loop [3] (fun x => ∃ i : Nat, i ≤ l.length ∧ x = .int .i64 (i : Int) ∧ Hid ((l.take i).all ActD.few = true)) (fun x => l.length - (intOf x).toNat)
  case atStart => exact ⟨0, Nat.zero_le _, rfl, rfl⟩
  case round =>
    obtain ⟨i, hiL, rfl, hall⟩ := hrel
    by_cases hlt : i < l.length
    · obtain ⟨b, off, rfl, hat⟩ := HH.out.at hlt
      have hli : (i : Int) < (l.length : Int) := by omega
      obtain ⟨d, hd⟩ : ∃ d, l[i] = d := ⟨_, rfl⟩
      rw [hd] at hat
      have HT : Hid ((l.take (i + 1)).all ActD.few = ((l.take i).all ActD.few && d.few)) := by
        have : l.take (i + 1) = l.take i ++ [d] := by rw [List.take_add_one]; simp [hlt, hd]
        show (l.take (i + 1)).all ActD.few = _
        rw [this, List.all_append]; simp
      have HN : Hid (d.few = false → fewA l = false) := fun hf => by
        have hm : d ∈ l := by rw [← hd]; exact List.getElem_mem hlt
        have : l.all ActD.few = false := by
          rw [List.all_eq_false]
          exact ⟨d, hm, by simp [hf]⟩
        simp [fewA, this]
      obtain ⟨ba, bc, hbv, _⟩ := hat.bs.form
      obtain ⟨pa, pc, hpv, _⟩ := hat.ps.form
      have cb := hat.bc
      have cp := hat.pc
      rw [hbv] at cb
      rw [hpv] at cp
      have HF : Hid (d.few = (decide (d.bs.length ≤ 512) && decide (d.ps.length ≤ 50))) := rfl
      obtain ⟨L1, hL1⟩ : ∃ L, d.bs.length = L := ⟨_, rfl⟩
      obtain ⟨L2, hL2⟩ : ∃ L, d.ps.length = L := ⟨_, rfl⟩
      rw [hL1] at cb HF
      rw [hL2] at cp HF
      clear hat hbv hpv hd hL1 hL2 HH
      by_cases g1 : 512 < L1
      · have k2 : decide ((512 : Int) < (L1 : Int)) = true := by simp; omega
        have e : fewA l = false := HN.out (by rw [HF.out]; simp; omega)
        clear HN HT HF hall
        go_wp2
        go_ret
        first | exact ⟨rfl, rfl⟩ | exact ⟨by rw [e], rfl⟩
      · have k2 : decide ((512 : Int) < (L1 : Int)) = false := by simp; omega
        by_cases g2 : 50 < L2
        · have k3 : (50 : Int) < (L2 : Int) := by omega
          have e : fewA l = false := HN.out (by rw [HF.out]; simp; omega)
          clear HN HT HF hall
          go_wp2
          go_ret
          first | exact ⟨rfl, rfl⟩ | exact ⟨by rw [e], rfl⟩
        · have k3 : ¬ (50 : Int) < (L2 : Int) := by omega
          have e : (l.take (i + 1)).all ActD.few = true := by rw [HT.out, hall.out, HF.out]; simp; omega
          have HE : Hid ((l.take (i + 1)).all ActD.few = true) := e
          clear HN HT HF hall e
          go_wp2
          go_roundw
          case rel => exact ⟨i + 1, by omega, by go_num, HE⟩
          case measure => simp [intOf]; omega
    · have e : fewA l = true := by
        have h1 := hall.out
        rw [List.take_of_length_le (by omega)] at h1
        simp [fewA, h1]; omega
      have hli : ¬ (i : Int) < (l.length : Int) := by omega
      clear HH hall
      go_wp2
      go_ret
      first | exact ⟨rfl, rfl⟩ | exact ⟨by rw [e], rfl⟩
end Go.Proofs.Ytioloobeakjbeaa
