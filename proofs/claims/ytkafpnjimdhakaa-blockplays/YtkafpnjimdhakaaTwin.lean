/-
  The contract of Twin of package block.
-/
import Derived.Test.YtkafpnjimdhakaaRead
namespace Go.Proofs.Ytkafpnjimdhakaa
open Go.RowKit Go.Maps

/-- S, other versions waiting. -/
def St.withW (S : St) (f : Nat → List (List Int)) : St := { S with wait := f }
/-- The versions of the blocks that have come. -/
def come (S : St) (g : Nat → Bool) : Nat → List (List Int) := fun n => if g n then [] else S.wait n
theorem come_start {S : St} {g : Nat → Bool} (h : ∀ n, g n = false → S.wait n = []) : come S g = fun _ => [] := by
  funext n
  unfold come
  cases hg : g n
  · simp [h n hg]
  · simp
theorem come_end {S : St} {g : Nat → Bool} (h : ∀ n, g n = true → S.wait n = []) : S.withW (come S g) = S := by
  have e : come S g = S.wait := by
    funext n
    unfold come
    cases hg : g n
    · simp
    · simp [h n hg]
  unfold St.withW
  rw [e]
theorem come_first {S : St} {g : Nat → Bool} {n : Nat} (hg : g n = true) : upd (come S g) n ((S.wait n).take 0) = come S g := by
  funext k
  by_cases e : k = n
  · subst e; rw [upd_same]; simp [come, hg]
  · rw [upd_other _ _ e]
theorem come_last {S : St} {g : Nat → Bool} {n : Nat} : upd (come S g) n ((S.wait n).take (S.wait n).length) = come S (upd g n false) := by
  funext k
  by_cases e : k = n
  · subst e; rw [upd_same, List.take_length]; simp [come, upd_same]
  · rw [upd_other _ _ e]; simp [come, upd_other _ _ e]
theorem withW_wf {S : St} (h : S.Wf) {f : Nat → List (List Int)} (hf : ∀ n, ∃ k, f n = (S.wait n).take k) : (S.withW f).Wf := by
  refine ⟨h.pos, h.top, h.syn, fun n b hb => ?_, fun n hn => ?_, fun n => ?_, h.arm0, h.arm1⟩
  · obtain ⟨k, e⟩ := hf n
    have hb' : b ∈ f n := hb
    rw [e] at hb'
    exact h.ver n b (List.mem_of_mem_take hb')
  · obtain ⟨k, e⟩ := hf n
    show f n = []
    rw [e, h.out n hn]; simp
  · obtain ⟨k, e⟩ := hf n
    show (f n).length ≤ S.writes
    rw [e, List.length_take]
    have := h.few n
    omega
theorem come_take (S : St) (g : Nat → Bool) (n j : Nat) : ∀ k, ∃ i, upd (come S g) n ((S.wait n).take j) k = (S.wait k).take i := fun k => by
  by_cases e : k = n
  · subst e; exact ⟨j, by rw [upd_same]⟩
  · rw [upd_other _ _ e]
    unfold come
    split
    · exact ⟨0, by simp⟩
    · exact ⟨(S.wait k).length, by rw [List.take_length]⟩
/-- One version more. -/
theorem come_step (S : St) (g : Nat → Bool) {n j : Nat} (hj : j < (S.wait n).length) : (S.withW (upd (come S g) n ((S.wait n).take j))).added n ((S.wait n).getD j []) S.writes = S.withW (upd (come S g) n ((S.wait n).take (j + 1))) := by
  have e : upd (upd (come S g) n ((S.wait n).take j)) n (upd (come S g) n ((S.wait n).take j) n ++ [(S.wait n).getD j []]) = upd (come S g) n ((S.wait n).take (j + 1)) := by
    rw [upd_upd, upd_same]
    congr 1
    rw [List.take_add_one]
    simp [List.getD, hj]
  unfold St.added St.withW
  show ({ S with wait := _, writes := _ } : St) = _
  rw [e]

/-- The twin's struct, as its making goes on. -/
def twinBlk (w : World) (q : Nat) (a b c d e f : Value) : Prop := w.heap[q]? = some (.cells #[a, b, c, d, e, f] 62 (0, 0))

/-- What bytes.Clone of a version leaves behind it in Twin: all that the rest of the statement meets. -/
def ClonedT (F : Nat → Prop) (p : Nat) (S : St) (m n L : Nat) (oa : Option Addr) (oc : Nat) (b : List Int) (w : World) (e : Ending) (w2 : World) : Prop :=
  ∃ g c v' w4 w5, e = .returned (.slice (some ⟨g, 0, none⟩) 512 c) ∧ w2.cell? ⟨p, 1, none⟩ = some (.map (some m)) ∧ (Instr.lookup 60 (.map (some m)) (.int .i64 (n : Int)) false).run Try.prog w2 = .ok (.slice oa L oc) w2 ∧
    (∀ o, (w2.alloc o).cell? ⟨p, 1, none⟩ = some (.map (some m))) ∧ (∀ o, (Instr.lookup 60 (.map (some m)) (.int .i64 (n : Int)) false).run Try.prog (w2.alloc o) = .ok (.slice oa L oc) (w2.alloc o)) ∧
    (Builtin.append_ #[55, 55] 55 #[.slice oa L oc, .slice (some ⟨w2.heap.size, 0, none⟩) 1 1]).run Try.prog (w2.alloc (.cells #[.slice (some ⟨g, 0, none⟩) 512 c] 32)) = .ok v' w4 ∧
    (Instr.mapUpdate 60 (.map (some m)) (.int .i64 (n : Int)) v').run Try.prog w4 = .ok () w5 ∧ w4.cell? ⟨p, 1, none⟩ = some (.map (some m)) ∧ w5.cell? ⟨p, 1, none⟩ = some (.map (some m)) ∧
    Hid (To F p w w5 (S.added n b S.writes))

theorem cloned_callT {w : World} {F : Nat → Prop} {p : Nat} {S : St} {s sc m : Nat} {pv : Value} {V : Nat → Value} (h : DkAt w F p S s sc m pv V) {n : Nat} (hn : n < S.nb) {v : Value} {b : List Int} (hv : Bs w v b) (hb : b.length = 512) (hx : S.writes < 1099511627776) (hwf : (S.added n b S.writes).Wf)
    {oa : Option Addr} {oc : Nat} (ho : (mf S V n).getD (.slice none 0 0) = .slice oa (S.wait n).length oc) (hvers : Vers w F s (.slice oa (S.wait n).length oc) (S.wait n)) (hob : ∀ g, (Value.slice oa (S.wait n).length oc).ownBlock = some g → S.wait n ≠ [] ∧ (V n).ownBlock = some g) :
    Calls Try.prog 28 #[v] w.drew (ClonedT F p S m n (S.wait n).length oa oc b w) := by
  refine (cloneB_any v b w.drew hv (by omega)).mono ?_
  rintro e w2 ⟨u, rfl, hu, hc0⟩
  have hc : Chg (fun _ => False) w w2 := (Chg.drew (fun _ => False) w).trans hc0 (fun _ _ h => h)
  have hu' : w2.ownsRow w.heap.size 5 1 u b.length (bcells b) := hu
  rw [hb] at hu'
  rcases hu'.2 with ⟨_, h0⟩ | ⟨g, c, cur, rfl, hr⟩
  · omega
  obtain ⟨v', w4, w5, h1, h2, p4, p5, h5⟩ := push_core h hn hb hx ho hvers hob hu' hc
  have d2 := h.kept hc (fun _ _ h => h)
  have l2 := d2.look hn
  rw [ho] at l2
  refine ⟨g, c, v', w4, w5, rfl, d2.c1, l2, fun o => ?_, fun o => ?_, h1, h2, ?_, ?_, h5 w5 S.writes (Chg.refl _ _) rfl hwf (p5.trans h.blk)⟩
  · exact (d2.kept (Chg.alloc (fun _ => False) w2 o) (fun _ _ h => h)).c1
  · have := (d2.kept (Chg.alloc (fun _ => False) w2 o) (fun _ _ h => h)).look hn
    rw [ho] at this
    exact this
  · rw [World.cell?_of_block (a := ⟨p, 1, none⟩) p4]; exact h.c1
  · rw [World.cell?_of_block (a := ⟨p, 1, none⟩) p5]; exact h.c1

/-- The twin is laid out: nothing waits yet. -/
theorem twin_laid {w w1 w2 : World} {F : Nat → Prop} {p : Nat} {S : St} {s sc m : Nat} {pv : Value} {V : Nat → Value} (h : DkAt w F p S s sc m pv V) {q : Nat} (hq : q = w.heap.size) {g c : Nat} {pv' : Value} {N : Nat}
    (hs : w1.ownsRow N 5 1 (.slice (some ⟨g, 0, none⟩) (512 * S.nb) c) (512 * S.nb) (bcells (St.flat S.nb S.syn))) (hN : q < N)
    (hp : w1.ownsRow N 3 1 pv' S.picks.length (S.picks.map (Value.int .i64))) (hsz : q < w1.heap.size)
    (hb2 : w2.heap[q]? = some (.cells #[.slice (some ⟨g, 0, none⟩) (512 * S.nb) c, .map (some w1.heap.size), .int .i64 (S.writes : Int), .bool S.off, .int .i64 S.arm, pv'] 62 (0, 0))) (hc : Chg (fun k => k = q) (w1.alloc (.map #[] 0)) w2) :
    Dk w2 (fun b => w.heap.size ≤ b ∧ b < w2.heap.size) q (S.withW fun _ => []) := by
  have hz2 := hc.size
  simp at hz2
  have hk : ∀ k, k < w1.heap.size → k ≠ q → w2.heap[k]? = w1.heap[k]? := fun k hk hne => (hc.block k (by simp; omega) hne).trans (Below.heap_alloc w1 _ k hk)
  have hm : MapIs w2 w1.heap.size S.nb (fun _ => none) := (MapIs.new w1 S.nb).kept (hc.block _ (by simp) (by omega))
  have emf : mf (S.withW fun _ => []) V = fun _ => none := by funext n; exact mf_none rfl
  refine ⟨g, c, w1.heap.size, pv', V, ⟨withW_wf h.wf (fun n => ⟨0, by simp⟩), hb2, ?_, by rw [emf]; exact hm, fun n hn => absurd rfl hn, fun n k g hn => absurd rfl hn, ?_, ⟨by omega, by omega⟩, ?_, ⟨by omega, by omega⟩, fun n g hn => absurd rfl hn, fun g' hg' => ?_, fun b hb => hb.2⟩⟩
  · refine own_same (own_mono hs (Nat.zero_le _)) (fun g' hg' => ?_)
    have := hs.lt g' hg'
    exact hk g' this.2 (by omega)
  · refine own_same (own_mono hp (Nat.zero_le _)) (fun g' hg' => ?_)
    have := hp.lt g' hg'
    exact hk g' this.2 (by omega)
  · have := hs.lt g rfl
    exact ⟨by omega, by omega⟩
  · have := hp.lt g' hg'
    exact ⟨by omega, by omega⟩

theorem twin_chg (w2 : World) {q : Nat} (_hq : q < w2.heap.size) (u v : Value) : Chg (fun k => k = q) (w2.alloc (.map #[] 0)) (((w2.setCell ⟨q, 5, none⟩ u).setCell ⟨q, 1, none⟩ v).alloc (.map #[] 0)) := by
  refine ⟨rfl, rfl, rfl, by simp, fun k hk hne => ?_⟩
  simp at hk
  by_cases h : k < w2.heap.size
  · rw [Below.heap_alloc _ _ k (by simpa using h), Below.heap_alloc _ _ k h, Below.heap_setCell _ _ _ _ (by simpa using hne), Below.heap_setCell _ _ _ _ (by simpa using hne)]
  · have e : k = w2.heap.size := by omega
    subst e
    have h1 := heap_alloc_new w2 (.map #[] 0)
    have h2 := heap_alloc_new ((w2.setCell ⟨q, 5, none⟩ u).setCell ⟨q, 1, none⟩ v) (.map #[] 0)
    simp only [World.size_setCell] at h2
    rw [h1, h2]

theorem twin_step {w wr wc : World} {F Ft3 : Nat → Prop} {p : Nat} {S S2 : St} {s sc m r cnt : Nat} {pv : Value} {V : Nat → Value} {gl : Nat → Bool} (hrg3 : Rng wr m r S.nb (mf S V) gl cnt) (hdk3 : DkAt wr F p S s sc m pv V) (hch3 : Chg (fun _ => False) w wr) (hFt3 : ∀ b, Ft3 b → w.heap.size ≤ b ∧ b ≠ r)
    (hlt : ∀ b, F b → b < w.heap.size) (hto : To Ft3 w.heap.size wr wc S2) :
    Rng wc m r S.nb (mf S V) gl cnt ∧ DkAt wc F p S s sc m pv V ∧ Chg (fun _ => False) w wc ∧ ∃ Ft, Dk wc Ft w.heap.size S2 ∧ ∀ b, Ft b → w.heap.size ≤ b ∧ b ≠ r := by
  obtain ⟨F4, h4, hc4, hF4⟩ := hto
  have hmF := hlt m hdk3.fm
  have hrl := hrg3.lt
  refine ⟨hrg3.kept (hc4.block m (by have := hch3.size; omega) (fun e => by have := (hFt3 m e).1; omega)) (hc4.block r hrl (fun e => (hFt3 r e).2 rfl)), hdk3.kept hc4 (fun b hb e => by have := hlt b hb; have := (hFt3 b e).1; omega), hch3.trans hc4 (fun i hi e => by have := (hFt3 i e).1; omega), F4, h4, fun b hb => ?_⟩
  rcases hF4 b hb with h | h
  · exact hFt3 b h
  · have := hch3.size; exact ⟨by omega, by omega⟩

set_option maxHeartbeats 3200000 in
set_option maxRecDepth 100000 in
theorem twin_any (F : Nat → Prop) (p : Nat) (S : St) (w : World) (h : Dk w F p S) (hx : S.writes < 1099511627776) (hxp : S.picks.length ≤ 1099511627776) :
    Calls Try.prog 12 #[.pointer (some ⟨p, 0, none⟩)] w fun e w' => ∃ F' q, e = .returned (.pointer (some ⟨q, 0, none⟩)) ∧ Dk w' F' q S ∧ Chg (fun _ => False) w w' ∧ ∀ b, F' b → w.heap.size ≤ b := by
  obtain ⟨s, sc, m, pv, V, h⟩ := h
  have hmm := @run_makeMap Try.prog
  have c0 := h.c0
  have c1 := h.c1
  have c2 := h.c2
  have c3 := h.c3
  have c4 := h.c4
  have c5 := h.c5
  have hpl := h.pobj
  have hne1 : ¬ w.heap.size = p := by omega
  have hne2 : ¬ p = w.heap.size := by omega
  have HD : Hid (DkAt w F p S s sc m pv V) := h
  have hlt := h.lt
  have htop := h.wf.top
  obtain ⟨pa, pc, hpf, hpc⟩ := (Is.ofOwns h.pk).form
  have fl := St.flat_length (nb := S.nb) (f := S.syn) h.wf.syn
  have hnb0 := h.wf.pos
  clear h
  subst hpf
  go_enter Try.func12, Try.ntmps12
  go_wp2_with fail
  have C0 : Chg (fun _ => False) w (w.alloc (.cells #[.slice (some ⟨s, 0, none⟩) (512 * S.nb) sc, .map (some m), .int .i64 (S.writes : Int), .bool S.off, .int .i64 S.arm, .slice pa S.picks.length pc] 62)) := Chg.alloc _ w _
  have B0 := heap_alloc_new w (.cells #[.slice (some ⟨s, 0, none⟩) (512 * S.nb) sc, .map (some m), .int .i64 (S.writes : Int), .bool S.off, .int .i64 S.arm, .slice pa S.picks.length pc] 62)
  have hsz0 : (w.alloc (.cells #[.slice (some ⟨s, 0, none⟩) (512 * S.nb) sc, .map (some m), .int .i64 (S.writes : Int), .bool S.off, .int .i64 S.arm, .slice pa S.picks.length pc] 62)).heap.size = w.heap.size + 1 := by simp
  generalize w.alloc (.cells #[.slice (some ⟨s, 0, none⟩) (512 * S.nb) sc, .map (some m), .int .i64 (S.writes : Int), .bool S.off, .int .i64 S.arm, .slice pa S.picks.length pc] 62) = w0 at *
  have D0 := HD.out.kept C0 (fun _ _ h => h)
  refine (cloneB_any _ (St.flat S.nb S.syn) w0 (Bs.ofOwns D0.syn) (by omega)).mono ?_
  rintro e w1 ⟨u, rfl, ho, hc⟩
  have hu : ∃ g c, u = .slice (some ⟨g, 0, none⟩) (512 * S.nb) c := by
    rcases ho.2 with ⟨_, h0⟩ | ⟨g, c, cur, e, _⟩
    · omega
    · exact ⟨g, c, by rw [e, fl]⟩
  obtain ⟨g, c, rfl⟩ := hu
  rw [fl] at ho
  have D1 := D0.kept hc (fun _ _ h => h)
  have C1 : Chg (fun _ => False) w w1 := C0.trans hc (fun _ _ h => h)
  have B1 := (hc.block w.heap.size (by omega) (fun h => h)).trans B0
  have q0 : w1.cell? ⟨w.heap.size, 0, none⟩ = some (.slice (some ⟨s, 0, none⟩) (512 * S.nb) sc) := by rw [cell_of_row w1 _ 0 _ _ _ B1]; rfl
  have f0 : w1.frozen? ⟨w.heap.size, 0, none⟩ = false := by simp [World.frozen?, B1]
  have hsz1 : w.heap.size < w1.heap.size := by have := hc.size; omega
  have cc1 : Chg (fun k => k = w.heap.size) w1 (w1.setCell ⟨w.heap.size, 0, none⟩ (.slice (some ⟨g, 0, none⟩) (512 * S.nb) c)) := Chg.setCell _ _ _ rfl
  have B1' := heap_setCell_same w1 w.heap.size 0 _ _ (.slice (some ⟨g, 0, none⟩) (512 * S.nb) c) B1
  have D1' := D1.kept cc1 (fun b hb e => by have := hlt b hb; omega)
  have p5 := D1'.c5
  have ho1 : (w1.setCell ⟨w.heap.size, 0, none⟩ (.slice (some ⟨g, 0, none⟩) (512 * S.nb) c)).ownsRow w0.heap.size 5 1 (.slice (some ⟨g, 0, none⟩) (512 * S.nb) c) (512 * S.nb) (bcells (St.flat S.nb S.syn)) :=
    own_same ho (fun g' hg' => cc1.block g' (ho.lt g' hg').2 (by have := ho.lt g' hg'; omega))
  have HO1 : Hid ((w1.setCell ⟨w.heap.size, 0, none⟩ (.slice (some ⟨g, 0, none⟩) (512 * S.nb) c)).ownsRow w0.heap.size 5 1 (.slice (some ⟨g, 0, none⟩) (512 * S.nb) c) (512 * S.nb) (bcells (St.flat S.nb S.syn))) := ho1
  have HD1 : Hid (DkAt (w1.setCell ⟨w.heap.size, 0, none⟩ (.slice (some ⟨g, 0, none⟩) (512 * S.nb) c)) F p S s sc m (.slice pa S.picks.length pc) V) := D1'
  have HB1 : Hid (_ = _) := B1'
  have HC1 : Hid (Chg (fun _ => False) w (w1.setCell ⟨w.heap.size, 0, none⟩ (.slice (some ⟨g, 0, none⟩) (512 * S.nb) c))) := C1.trans cc1 (fun i hi e => by omega)
  clear ho ho1 D1 D1' B1 B1' C1 C0 B0 D0 hc cc1 c0 c1 c2 c3 c4 c5
  go_wp2_with fail
  generalize w1.setCell ⟨w.heap.size, 0, none⟩ (.slice (some ⟨g, 0, none⟩) (512 * S.nb) c) = w1' at *
  refine (cloneI_any _ S.picks w1' (Is.ofOwns HD1.out.pk) hxp).mono ?_
  rintro e w2 ⟨u2, rfl, ho2, hc2⟩
  have hu2 : ∃ ua uc, u2 = .slice ua S.picks.length uc := by
    rcases ho2.2 with ⟨rfl, e⟩ | ⟨g, cap, cur, rfl, _⟩
    · exact ⟨none, 0, by rw [e]⟩
    · exact ⟨_, _, rfl⟩
  obtain ⟨ua, uc, rfl⟩ := hu2
  have hsz2 : w.heap.size + 1 ≤ w1'.heap.size := by
    have h1 := (Array.getElem?_eq_some_iff.1 HB1.out).1
    omega
  have B2 := (hc2.block w.heap.size (by omega) (fun h => h)).trans HB1.out
  have q5 : w2.cell? ⟨w.heap.size, 5, none⟩ = some (.slice pa S.picks.length pc) := by rw [cell_of_row w2 _ 5 _ _ _ B2]; rfl
  have f5 : w2.frozen? ⟨w.heap.size, 5, none⟩ = false := by simp [World.frozen?, B2]
  have hq2 : w.heap.size < w2.heap.size := by have := hc2.size; omega
  have B2a := heap_setCell_same w2 w.heap.size 5 _ _ (.slice ua S.picks.length uc) B2
  have q1 : ∀ o, ((w2.setCell ⟨w.heap.size, 5, none⟩ (.slice ua S.picks.length uc)).alloc o).cell? ⟨w.heap.size, 1, none⟩ = some (.map (some m)) := fun o => by
    have := (Below.heap_alloc (w2.setCell ⟨w.heap.size, 5, none⟩ (.slice ua S.picks.length uc)) o w.heap.size (by simpa using hq2)).trans B2a
    rw [cell_of_row _ _ 1 _ _ _ this]; rfl
  have f1 : ∀ o, ((w2.setCell ⟨w.heap.size, 5, none⟩ (.slice ua S.picks.length uc)).alloc o).frozen? ⟨w.heap.size, 1, none⟩ = false := fun o => by
    have := (Below.heap_alloc (w2.setCell ⟨w.heap.size, 5, none⟩ (.slice ua S.picks.length uc)) o w.heap.size (by simpa using hq2)).trans B2a
    simp [World.frozen?, this]
  obtain ⟨W3, hW3⟩ : ∃ W3, ((w2.setCell ⟨w.heap.size, 5, none⟩ (.slice ua S.picks.length uc)).setCell ⟨w.heap.size, 1, none⟩ (.map (some w2.heap.size))).alloc (.map #[] 0) = W3 := ⟨_, rfl⟩
  have cc3 : Chg (fun k => k = w.heap.size) (w2.alloc (.map #[] 0)) W3 := by rw [← hW3]; exact twin_chg w2 hq2 _ _
  have C3 : Chg (fun k => k = w.heap.size) w2 W3 := (Chg.alloc _ w2 _).trans cc3 (fun _ _ h => h)
  have D3 := (HD1.out.kept hc2 (fun _ _ h => h)).kept C3 (fun b hb e => by have := hlt b hb; omega)
  have B3 : W3.heap[w.heap.size]? = some (.cells #[.slice (some ⟨g, 0, none⟩) (512 * S.nb) c, .map (some w2.heap.size), .int .i64 (S.writes : Int), .bool S.off, .int .i64 S.arm, .slice ua S.picks.length uc] 62 (0, 0)) := by
    have h1 := heap_setCell_same _ w.heap.size 1 _ _ (.map (some w2.heap.size)) B2a
    rw [← hW3, Below.heap_alloc _ _ _ (by simpa using hq2), h1]
    simp
  have T3 : Dk W3 (fun b => w.heap.size ≤ b ∧ b < W3.heap.size) w.heap.size (S.withW fun _ => []) :=
    twin_laid (w1 := w2) HD.out rfl (own_same (own_mono HO1.out (Nat.le_refl _)) (fun g' hg' => hc2.block g' (HO1.out.lt g' hg').2 (fun h => h))) (by omega) (own_mono ho2 (by omega)) hq2 B3 cc3
  have CW3 : Chg (fun _ => False) w W3 := (HC1.out.trans hc2 (fun _ _ h => h)).trans C3 (fun i hi e => by omega)
  have P1 := D3.c1
  have HD3 : Hid (DkAt W3 F p S s sc m (.slice pa S.picks.length pc) V) := D3
  have hmap3 := D3.map
  clear ho2 hc2 B2 B2a HO1 HD1 HB1 HC1 C3 D3 q0 f0 p5 B3 cc3 HD
  go_wp2_with (at_range; refine wpList_range_is _ rfl (.tmp 28) rfl m S.nb (mf S V) rfl hmap3 ?_; intro w4 cnt0 hrg0 hg0 hs0)
  go_frame
  clear hW3 q1 f1 q5 f5 P1 hmap3 hmm
  have hst : come S (fun n => (mf S V n).isSome) = fun _ => [] := come_start (fun n hn => by
    by_cases hw : S.wait n = []
    · exact hw
    · rw [mf_some hw] at hn; cases hn)
  obtain ⟨r, hr⟩ : ∃ r, W3.heap.size = r := ⟨_, rfl⟩
  rw [hr] at hrg0 hs0 ⊢
  have hrw : w.heap.size ≤ r := by rw [← hr]; exact CW3.size
  have REL0 : Rng w4 m r S.nb (mf S V) (fun n => (mf S V n).isSome) cnt0 ∧ DkAt w4 F p S s sc m (.slice pa S.picks.length pc) V ∧ Chg (fun _ => False) w w4 ∧ ∃ Ft, Dk w4 Ft w.heap.size (S.withW (come S fun n => (mf S V n).isSome)) ∧ ∀ b, Ft b → w.heap.size ≤ b ∧ b ≠ r := by
    have cg := Chg.of_none hg0
    refine ⟨hrg0, HD3.out.kept cg (fun _ _ h => h), CW3.trans cg (fun _ _ h => h), fun b => w.heap.size ≤ b ∧ b < W3.heap.size, by rw [hst]; exact T3.kept cg (fun _ _ h => h), fun b hb => ⟨hb.1, by have := hb.2; omega⟩⟩
  have HS : Hid (S.Wf) := HD3.out.wf
  clear HD3 T3 CW3 hrg0 hg0 hs0 hst hr hsz0 hsz1 hsz2 hq2
  go_loopw [4, 5, 7] (fun _ _ _ wr => ∃ gl cnt, Rng wr m r S.nb (mf S V) gl cnt ∧ DkAt wr F p S s sc m (.slice pa S.picks.length pc) V ∧ Chg (fun _ => False) w wr ∧ ∃ Ft, Dk wr Ft w.heap.size (S.withW (come S gl)) ∧ ∀ b, Ft b → w.heap.size ≤ b ∧ b ≠ r) (fun _ _ _ wr => wr.rangeLeft m r)
  case atStart => exact ⟨_, _, REL0⟩
  case round =>
    clear REL0
    obtain ⟨gl, cnt, hrg, hdk, hch, Ft, htw, hFt⟩ := hrel
    have hform := hdk.form
    go_wp2_with (first
      | (at_next; refine wpList_next_sl _ rfl (.tmp 29) rfl m r S.nb (mf S V) gl cnt (fun n => (S.wait n).length) htop rfl hrg hform ?_ ?_)
      | go_in)
    · intro hdone
      clear hform
      go_wp2
      go_ret
      refine ⟨Ft, _, rfl, ?_, hch, fun b hb => (hFt b hb).1⟩
      rw [come_end (g := gl) (fun n hn => by
        by_cases h : n < S.nb
        · rw [hdone n h] at hn; cases hn
        · exact HS.out.out n (by omega))] at htw
      exact htw
    · intro n x c0 w5 cnt2 hn hgn hf hrg2 hlt2 hg2 hs2 hen
      have cg := Chg.of_grown hg2
      have hdk2 := hdk.kept cg (fun b hb e => by have := hlt b hb; omega)
      have hch2 : Chg (fun _ => False) w w5 := hch.trans cg (fun i hi e => by omega)
      have htw2 := htw.kept cg (fun b hb e => (hFt b hb).2 e)
      have hl := hrg.left
      have hw : S.wait n ≠ [] := fun e => by rw [mf_none e] at hf; cases hf
      rw [mf_some hw] at hf
      have hV : V n = .slice x (S.wait n).length c0 := Option.some.inj hf
      have REL1 : Rng w5 m r S.nb (mf S V) (upd gl n false) cnt2 ∧ DkAt w5 F p S s sc m (.slice pa S.picks.length pc) V ∧ Chg (fun _ => False) w w5 ∧ ∃ Ft, Dk w5 Ft w.heap.size (S.withW (upd (come S gl) n ((S.wait n).take 0))) ∧ ∀ b, Ft b → w.heap.size ≤ b ∧ b ≠ r := by
        rw [come_first hgn]
        exact ⟨hrg2, hdk2, hch2, Ft, htw2, hFt⟩
      have hfw := hdk2.wf.few n
      obtain ⟨L, hL⟩ : ∃ L, (S.wait n).length = L := ⟨_, rfl⟩
      simp only [hL] at hen hV hfw ⊢
      clear hform hf hs2 hrg hdk hch hg2 htw hFt cg hrg2 hdk2 hch2 htw2
      go_wp2_with fail
      go_loopw [7, 37] (fun _ x37 wr => ∃ j : Nat, j ≤ L ∧ x37 = .int .i64 (j : Int) ∧ Rng wr m r S.nb (mf S V) (upd gl n false) cnt2 ∧ DkAt wr F p S s sc m (.slice pa S.picks.length pc) V ∧ Chg (fun _ => False) w wr ∧ ∃ Ft, Dk wr Ft w.heap.size (S.withW (upd (come S gl) n ((S.wait n).take j))) ∧ ∀ b, Ft b → w.heap.size ≤ b ∧ b ≠ r) (fun _ x37 _ => L - (intOf x37).toNat)
      case atStart => exact ⟨0, Nat.zero_le _, rfl, REL1⟩
      case round =>
        clear REL1
        obtain ⟨j, hjL, rfl, hrg3, hdk3, hch3, Ft3, htw3, hFt3⟩ := hrel
        by_cases hlj : j < L
        · obtain ⟨g1, cc, go, co, hV', hle, _, hcell, hrow, _, _⟩ := hdk3.verAt (j := j + 1) hw (by omega) (by omega)
          rw [hV, hL] at hV'
          simp only [Value.slice.injEq, true_and] at hV'
          obtain ⟨hxe, hce⟩ := hV'
          subst hxe
          subst hce
          simp only [Nat.add_sub_cancel] at hcell
          have hb0 : S.ver n (j + 1) = (S.wait n).getD j [] := by simp [St.ver]
          have hbl : ((S.wait n).getD j []).length = 512 := by rw [← hb0]; exact St.ver_len HS.out hn (by omega)
          rw [hb0] at hrow
          have hstep := come_step S gl (n := n) (j := j) (by omega)
          have hTl : ((S.withW (upd (come S gl) n ((S.wait n).take j))).wait n).length = j := by
            show (upd (come S gl) n ((S.wait n).take j) n).length = j
            rw [upd_same, List.length_take]; omega
          have hwf' : ((S.withW (upd (come S gl) n ((S.wait n).take j))).added n ((S.wait n).getD j []) (S.withW (upd (come S gl) n ((S.wait n).take j))).writes).Wf := by
            have : (S.withW (upd (come S gl) n ((S.wait n).take j))).writes = S.writes := rfl
            rw [this, hstep]
            exact withW_wf HS.out (come_take S gl n (j + 1))
          obtain ⟨s2, sc2, m2, pv2, V2, ht⟩ := htw3
          have hn2 : n < (S.withW (upd (come S gl) n ((S.wait n).take j))).nb := hn
          obtain ⟨oa, oc, ho, hvers, hob⟩ := ht.old hn2
          have HC := cloned_callT ht hn2 (Bs.ofOwns hrow) hbl hx hwf' ho hvers hob
          have q1 := ht.c1
          have lk := (ht.kept (Chg.drew (fun _ => False) wr) (fun _ _ h => h)).look hn2
          rw [ho] at lk
          rw [hTl] at HC lk
          have e9 : (S.withW (upd (come S gl) n ((S.wait n).take j))).writes = S.writes := rfl
          have HC2 : Hid (Calls Try.prog 28 #[.slice (some ⟨g1, 0, none⟩) 512 cc] wr.drew (ClonedT Ft3 w.heap.size (S.withW (upd (come S gl) n ((S.wait n).take j))) m2 n j oa oc ((S.wait n).getD j []) wr)) := HC
          have HST : Hid ((S.withW (upd (come S gl) n ((S.wait n).take j))).added n ((S.wait n).getD j []) S.writes = S.withW (upd (come S gl) n ((S.wait n).take (j + 1)))) := hstep
          have HR : Hid (Rng wr m r S.nb (mf S V) (upd gl n false) cnt2 ∧ DkAt wr F p S s sc m (.slice pa S.picks.length pc) V ∧ Chg (fun _ => False) w wr ∧ ∀ b, Ft3 b → w.heap.size ≤ b ∧ b ≠ r) := ⟨hrg3, hdk3, hch3, hFt3⟩
          have hji : (j : Int) < (L : Int) := by omega
          clear hstep hTl hwf' ht ho hvers hob HC hrow hbl hb0 hrg3 hdk3 hch3 hFt3 hen hV
          obtain ⟨T, hT⟩ : ∃ T, S.withW (upd (come S gl) n ((S.wait n).take j)) = T := ⟨_, rfl⟩
          rw [hT] at HC2 HST e9
          clear hT hn2
          go_wp2_with fail
          go_region_held_law (fun w' => w'.cell? ⟨w.heap.size, 1, none⟩ = some (.map (some m2)))
            (first | assumption | exact k3 _)
            (first
              | (go_at_call 28; refine HC2.out.mono ?_; rintro e w3 ⟨g4, c4, v', w4, wc, rfl, k1, k2, k3, k4, k5, k6, k7, k8, HQ⟩)
              | (refine step_append_eq (by rfl) _ _ _ (by rfl) _ _ (by rfl) (by rfl) _ _ k5 ?_))
          all_goals
            rw [e9, HST.out] at HQ
            obtain ⟨hrg3, hdk3, hch3, hFt3⟩ := HR.out
            have REL2 := twin_step hrg3 hdk3 hch3 hFt3 hlt HQ.out
            clear HC2 lk q1 hcell HR hrg3 hdk3 hch3 hFt3 HQ k1 k2 k3 k4 k5 k6 k7 k8
            go_wp2
            go_roundw
            case rel => exact ⟨j + 1, by omega, by go_num, REL2⟩
            case measure => simp [intOf]; omega
        · have hje : j = L := by omega
          subst hje
          rw [← hL, come_last] at htw3
          clear hen
          go_wp2
          go_roundw
          case rel => exact ⟨_, cnt2, hrg3, hdk3, hch3, Ft3, htw3, hFt3⟩
          case measure => rw [hrg3.left, hl]; omega
end Go.Proofs.Ytkafpnjimdhakaa
