/-
  The contracts of end, as it is deferred, and of Abort of a transaction of package wal.
-/
import Derived.Test.YtkkmdmnjlncgfaaWTWr
import Derived.Defers
namespace Go.Proofs.Ytkkmdmnjlncgfaa
open Go.RowKit Go.Maps

/-- own, as far as g says. -/
def mk (own : Nat → Option (List Int)) (g : Nat → Bool) (n : Nat) : Option (List Int) := if g n then own n else none
theorem mk_start (own : Nat → Option (List Int)) (Vt : Nat → Value) : mk own (fun n => (vf own Vt n).isSome) = own := by
  funext n
  unfold mk vf
  cases h : own n <;> simp [h]
theorem mk_step {own : Nat → Option (List Int)} {g : Nat → Bool} {n : Nat} : upd (mk own g) n none = mk own (upd g n false) := by
  funext k
  by_cases e : k = n
  · subst e; rw [upd_same]; simp [mk, upd_same]
  · rw [upd_other _ _ e]; simp [mk, upd_other _ _ e]

section
variable {F G : Nat → Prop} {pd pl q K : Nat} {S : St} {com own : Nat → Option (List Int)} {pend wrote : Nat} {ov : Value} {live : Bool} {m mt : Nat} {V Vt : Nat → Value}
theorem Tk.keptE {w w' : World} {E : Nat → Prop} (h : Tk w F G pd pl q K S com pend live own wrote m V mt Vt) (hc : Chg E w w') (hF : ∀ b, F b → ¬ E b) (hG : ∀ b, G b → ¬ E b) : Tk w' F G pd pl q K S com pend live own wrote m V mt Vt :=
  ⟨⟨h.lk.dk.kept hc hF, h.lk.lg.kept hc hG, h.lk.no, h.lk.nb⟩, h.tx.kept hc hG, h.ne⟩
theorem Tk.remapT {w w' : World} {own' : Nat → Option (List Int)} (h : Tk w F G pd pl q K S com pend live own wrote m V mt Vt) (hc : Chg (fun b => b = mt) w w') (hm : MapIs w' mt K (vf own' Vt)) (hs : ∀ n b, own' n = some b → own n = some b) : Tk w' F G pd pl q K S com pend live own' wrote m V mt Vt := by
  obtain ⟨et, ct, homt⟩ := h.tx.mb.map.obj
  have hr : ∀ x, (∃ cur, w.heap[x]? = some (.cells cur 5 (0, 0))) → ¬ x = mt := fun x ⟨cur, hcur⟩ e => by rw [e, homt] at hcur; cases hcur
  refine ⟨⟨h.lk.dk.kept hc h.mtF, ⟨(hc.block pl h.lk.lg.pl_lt (Ne.symm h.mtpl)).trans h.lk.lg.blk, h.lk.lg.mb.kept hc (Ne.symm h.ne) (fun x _ hx => hr x hx), h.lk.lg.fp, fun b hb => Nat.lt_of_lt_of_le (h.lk.lg.lt b hb) hc.size⟩, h.lk.no, h.lk.nb⟩,
    ⟨(hc.block q (h.tx.lt q h.tx.fp) (Ne.symm h.mtq)).trans h.tx.blk, ⟨hm, fun n b hb => ?_, h.tx.mb.fm⟩, h.tx.fp, fun b hb => Nat.lt_of_lt_of_le (h.tx.lt b hb) hc.size⟩, h.ne⟩
  obtain ⟨h1, h2, g, c, e, ho, hg⟩ := h.tx.mb.row n b (hs n b hb)
  rw [e] at ho ⊢
  refine ⟨h1, h2, g, c, rfl, own_same ho (fun z hz => ?_), hg⟩
  have e := own_at hz
  subst e
  exact hc.block _ (ho.lt _ rfl).2 (hr _ (own_obj ho rfl))
/-- The log lets go of it. -/
theorem Tk.close {w : World} (h : Tk w F G pd pl q K S com pend live own wrote m V mt Vt) : Tk (w.setCell ⟨pl, 3, none⟩ (.pointer none)) F G pd pl q K S com pend false own wrote m V mt Vt ∧ Chg (fun b => b = pl) w (w.setCell ⟨pl, 3, none⟩ (.pointer none)) := by
  have hc : Chg (fun b => b = pl) w (w.setCell ⟨pl, 3, none⟩ (.pointer none)) := Chg.setCell _ _ _ rfl
  refine ⟨⟨h.lk.restruct hc ?_, ?_, h.ne⟩, hc⟩
  · have := heap_setCell_same w pl 3 _ 76 (.pointer none) h.lk.lg.blk
    simpa [ovOf] using this
  · exact h.tx.beside h.lk.lg h.ne (hc.mono (fun _ _ h => .inl h))
theorem Tk.formT {w : World} (h : Tk w F G pd pl q K S com pend live own wrote m V mt Vt) : ∀ n v, n < K → vf own Vt n = some v → ∃ a c, v = .slice a ((fun _ => 512) n) c := fun n v _ hv => by
  unfold vf at hv
  split at hv
  · rename_i hs
    obtain ⟨b, hb⟩ := Option.isSome_iff_exists.1 hs
    obtain ⟨_, _, g, c, e, _⟩ := h.tx.mb.row n b hb
    injection hv with hv
    exact ⟨some ⟨g, 0, none⟩, c, by rw [← hv, e]⟩
  · cases hv

/-- What the end leaves. -/
def EnTo (F G : Nat → Prop) (pd pl q K : Nat) (S : St) (com : Nat → Option (List Int)) (pend wrote m : Nat) (V : Nat → Value) (mt : Nat) (Vt : Nat → Value) (w w' : World) : Prop :=
  Tk w' F G pd pl q K S com pend false (fun _ => none) wrote m V mt Vt ∧ Chg (fun b => b = pl ∨ b = mt) w w'

set_option maxHeartbeats 3200000 in
set_option maxRecDepth 100000 in
theorem end_d (u : FrameMode) (w : World) (h : Tk w F G pd pl q K S com pend live own wrote m V mt Vt) :
    CallsD Try.prog 49 #[.pointer (some ⟨q, 0, none⟩)] u w fun e u' w' => u' = u ∧ (e = .returned (.tuple #[]) ∧ EnTo F G pd pl q K S com pend wrote m V mt Vt w w') := by
  have t0 := h.tx.c0
  have c3 := h.lk.lg.c3
  have f3 := h.lk.lg.fr 3
  have hK := h.lk.top
  have hcl := h.close
  have HK : Hid (Tk (w.setCell ⟨pl, 3, none⟩ (.pointer none)) F G pd pl q K S com pend false own wrote m V mt Vt ∧ Chg (fun b => b = pl) w (w.setCell ⟨pl, 3, none⟩ (.pointer none))) := hcl
  have t1 := hcl.1.tx.c1
  have hmap := hcl.1.tx.mb.map
  have HO : Hid (∀ n b, own n = some b → n < K) := fun n b hb => (h.tx.mb.row n b hb).1
  have hsz : (w.setCell ⟨pl, 3, none⟩ (.pointer none)).heap.size = w.heap.size := by simp
  have HL : Hid ((∀ b, F b → b < w.heap.size) ∧ ∀ b, G b → b < w.heap.size) := ⟨h.lk.dk.lt, h.lk.lg.lt⟩
  clear h hcl
  go_enter_d Try.func49, Try.ntmps49
  go_wp2_with (at_range; refine wpList_range_isB _ rfl (.tmp 12) rfl mt K (vf own Vt) rfl hmap ?_; intro w0 cnt0 hrg0 hg0 hs0)
  go_frame
  rw [hsz]
  obtain ⟨w1, hw1⟩ : ∃ w1, w.setCell ⟨pl, 3, none⟩ (.pointer none) = w1 := ⟨_, rfl⟩
  rw [hw1] at hrg0 hg0 hs0 HK hsz hmap t1
  have REL0 : Hid (Rng w0 mt w.heap.size K (vf (mk own fun n => (vf own Vt n).isSome) Vt) (fun n => (vf own Vt n).isSome) cnt0 ∧ Tk w0 F G pd pl q K S com pend false (mk own fun n => (vf own Vt n).isSome) wrote m V mt Vt ∧ Chg (fun b => b = pl ∨ b = mt) w w0) := by
    rw [mk_start]
    rw [hsz] at hrg0
    exact ⟨hrg0, HK.out.1.kept (Chg.of_none hg0), (HK.out.2.mono (fun _ _ h => .inl h)).trans (Chg.of_none hg0) (fun _ _ h => h.elim)⟩
  clear hmap hrg0 hg0 hs0 t1 c3 f3 t0 HK
  go_loopw [2] (fun _ wr => ∃ g cnt, Hid (Rng wr mt w.heap.size K (vf (mk own g) Vt) g cnt ∧ Tk wr F G pd pl q K S com pend false (mk own g) wrote m V mt Vt ∧ Chg (fun b => b = pl ∨ b = mt) w wr)) (fun _ wr => wr.rangeLeft mt w.heap.size)
  case atStart => exact ⟨_, _, REL0⟩
  case round =>
    clear REL0
    obtain ⟨g, cnt, HR⟩ := hrel
    have hform := HR.out.2.1.formT
    have hrg := HR.out.1
    go_wp2_with (first
      | (at_next; refine wpList_next_sl _ rfl (.tmp 13) rfl mt w.heap.size K (vf (mk own g) Vt) g cnt (fun _ => 512) hK rfl hrg hform ?_ ?_)
      | go_in)
    · intro hdone
      have HQ : Hid (EnTo F G pd pl q K S com pend wrote m V mt Vt w wr) := by
        have e : mk own g = fun _ => none := by
          funext n
          unfold mk
          split
          · rename_i hg
            cases ho : own n with
            | none => rfl
            | some b =>
              have := hdone n (HO.out n b ho)
              rw [this] at hg; cases hg
          · rfl
        have h2 := HR.out.2.1
        rw [e] at h2
        exact ⟨h2, HR.out.2.2⟩
      clear hform hrg HR
      go_wp2
      go_end0
      exact ⟨rfl, HQ.out⟩
    · intro n x c w2 cnt2 hn hgn hf hrg2 hlt2 hg2 hs2 hen
      have hl := hrg.left
      have tk2 := HR.out.2.1.keptE (Chg.of_grown hg2) (fun b hb e => by have := HL.out.1 b hb; omega) (fun b hb e => by have := HL.out.2 b hb; omega)
      have t0 := tk2.tx.c0
      have t1 := tk2.tx.c1
      have hch2 : Chg (fun b => b = pl ∨ b = mt) w w2 := HR.out.2.2.trans (Chg.of_grown hg2) (fun i hi e => by omega)
      obtain ⟨w3, hrun, hm3, hg3, hz3, hr3⟩ := tk2.tx.mb.map.deleteB hK hn 0
      obtain ⟨cnt3, hrg3, hle3⟩ := hr3 _ _ _ hrg2
      rw [upd_upd, ← vf_del, mk_step] at hrg3
      rw [← vf_del, mk_step] at hm3
      have tk3 := tk2.remapT (Chg.of_grown hg3) hm3 (fun k b hb => by
        rw [← mk_step] at hb
        by_cases e : k = n
        · subst e; rw [upd_same] at hb; cases hb
        · rw [upd_other _ _ e] at hb; exact hb)
      have H3 : Hid (Rng w3 mt w.heap.size K (vf (mk own (upd g n false)) Vt) (upd g n false) cnt3 ∧ Tk w3 F G pd pl q K S com pend false (mk own (upd g n false)) wrote m V mt Vt ∧ Chg (fun b => b = pl ∨ b = mt) w w3) :=
        ⟨hrg3, tk3, hch2.trans (Chg.of_grown hg3) (fun _ _ h => .inr h)⟩
      have hl3 := hrg3.left
      have hcnt : cnt3 < cnt := by omega
      clear hform hf hs2 hrg HR hg2 tk2 hch2 hm3 hg3 hz3 hr3 hrg3 tk3 hrg2 hle3 hlt2
      go_wp2_with (refine wpList_delete_eq _ rfl _ _ _ _ rfl _ _ rfl rfl _ hrun ?_)
      simp only [Act.put]
      go_wp2
      go_roundw
      case rel => exact ⟨_, cnt3, H3⟩
      case measure => rw [hl3, hl]; exact hcnt

set_option maxHeartbeats 1600000 in
theorem abort_dead (w : World) (h : Tk w F G pd pl q K S com pend false own wrote m V mt Vt) :
    Calls Try.prog 16 #[.pointer (some ⟨q, 0, none⟩)] w fun e w' => e = .returned (.tuple #[]) ∧ w' = w := by
  have HK : Hid (Tk w F G pd pl q K S com pend false own wrote m V mt Vt) := h
  clear h
  go_enter_defers Try.func16, Try.ntmps16
  go_wp2_with fail
  refine (isOpen_any w HK.out).mono ?_
  rintro e w1 ⟨rfl, rfl⟩
  clear HK
  go_wp2
  exact ⟨_, results_none rfl _ _ _, rfl, rfl⟩

set_option maxHeartbeats 1600000 in
theorem abort_live (w : World) (h : Tk w F G pd pl q K S com pend true own wrote m V mt Vt) :
    Calls Try.prog 16 #[.pointer (some ⟨q, 0, none⟩)] w fun e w' => e = .returned (.tuple #[]) ∧ Tk w' F G pd pl q K S com pend false (fun _ => none) 0 m V mt Vt ∧ Chg (fun b => b = pl ∨ b = mt ∨ b = q) w w' := by
  have HK : Hid (Tk w F G pd pl q K S com pend true own wrote m V mt Vt) := h
  have t2 := h.tx.c2
  have fr2 := h.tx.fr 2
  clear h
  go_enter_defers Try.func16, Try.ntmps16
  go_wp2_with fail
  refine (isOpen_any w HK.out).mono ?_
  rintro e w1 ⟨rfl, rfl⟩
  have HC := HK.out.count 0
  have HC' : Hid (Tk (w1.setCell ⟨q, 2, none⟩ (.int .i64 0)) F G pd pl q K S com pend true own 0 m V mt Vt ∧ Chg (fun b => b = q) w1 (w1.setCell ⟨q, 2, none⟩ (.int .i64 0))) := HC
  clear HK HC
  go_wp2
  refine leaves_cons (f := 49) (args := #[.pointer (some ⟨q, 0, none⟩)]) (by simp) (by simp [go_sem]) ?_
  refine (end_d .returning _ HC'.out.1).mono ?_
  rintro e u' w2 ⟨rfl, rfl, h1, h2⟩
  exact ⟨_, results_none rfl _ _ _, rfl, h1, (HC'.out.2.mono (fun _ _ h => .inr (.inr h))).trans h2 (fun _ _ h => by rcases h with h | h; exact .inl h; exact .inr (.inl h))⟩
end
end Go.Proofs.Ytkkmdmnjlncgfaa
