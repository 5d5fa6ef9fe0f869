/-
  Contracts of Write of a transaction of package wal.
-/
import Derived.Test.YtnnaemlipahamaaGreatWFormat
namespace Go.Proofs.YtnnaemlipahamaaGreat
open Go.RowKit Go.Maps

section
variable {F G : Nat → Prop} {pd pl q K : Nat} {S : St} {com own : Nat → Option (List Int)} {pend wrote : Nat} {ov : Value} {live : Bool} {m mt : Nat} {V Vt : Nat → Value}

theorem Tk.qF {w : World} (h : Tk w F G pd pl q K S com pend live own wrote m V mt Vt) : ∀ b, F b → ¬ b = q := fun b hf e => h.lk.no b hf (e ▸ h.tx.fp)
theorem Tk.mtF {w : World} (h : Tk w F G pd pl q K S com pend live own wrote m V mt Vt) : ∀ b, F b → ¬ b = mt := fun b hf e => h.lk.no b hf (e ▸ h.tx.mb.fm)
theorem Tk.qpl {w : World} (h : Tk w F G pd pl q K S com pend live own wrote m V mt Vt) : pl ≠ q := fun e => by have := h.lk.lg.blk; rw [e, h.tx.blk] at this; simp at this
theorem Tk.mq {w : World} (h : Tk w F G pd pl q K S com pend live own wrote m V mt Vt) : m ≠ q := fun e => by obtain ⟨a, b, c⟩ := h.lk.lg.mb.map.obj; rw [e, h.tx.blk] at c; cases c
theorem Tk.mtq {w : World} (h : Tk w F G pd pl q K S com pend live own wrote m V mt Vt) : mt ≠ q := fun e => by obtain ⟨a, b, c⟩ := h.tx.mb.map.obj; rw [e, h.tx.blk] at c; cases c
theorem Tk.mtpl {w : World} (h : Tk w F G pd pl q K S com pend live own wrote m V mt Vt) : mt ≠ pl := fun e => by obtain ⟨a, b, c⟩ := h.tx.mb.map.obj; rw [e, h.lk.lg.blk] at c; cases c
/-- The transaction's struct alone has changed. -/
theorem Tk.retx {w w' : World} {wrote' : Nat} (h : Tk w F G pd pl q K S com pend live own wrote m V mt Vt) (hc : Chg (fun b => b = q) w w') (hb : w'.heap[q]? = some (.cells #[.pointer (some ⟨pl, 0, none⟩), .map (some mt), .int .i64 (wrote' : Int)] 85 (0, 0))) : Tk w' F G pd pl q K S com pend live own wrote' m V mt Vt := by
  have hr : ∀ g, (∃ cur, w.heap[g]? = some (.cells cur 5 (0, 0))) → ¬ g = q := fun g ⟨cur, hcur⟩ e => by rw [e, h.tx.blk] at hcur; cases hcur
  exact ⟨⟨h.lk.dk.kept hc h.qF, ⟨(hc.block pl h.lk.lg.pl_lt h.qpl).trans h.lk.lg.blk, h.lk.lg.mb.kept hc h.mq (fun g _ ho => hr g ho), h.lk.lg.fp, fun b hb => Nat.lt_of_lt_of_le (h.lk.lg.lt b hb) hc.size⟩, h.lk.no, h.lk.nb⟩,
    ⟨hb, h.tx.mb.kept hc h.mtq (fun g _ ho => hr g ho), h.tx.fp, fun b hb => Nat.lt_of_lt_of_le (h.tx.lt b hb) hc.size⟩, h.ne⟩
theorem Tk.count {w : World} (h : Tk w F G pd pl q K S com pend live own wrote m V mt Vt) (wrote' : Nat) : Tk (w.setCell ⟨q, 2, none⟩ (.int .i64 (wrote' : Int))) F G pd pl q K S com pend live own wrote' m V mt Vt ∧ Chg (fun b => b = q) w (w.setCell ⟨q, 2, none⟩ (.int .i64 (wrote' : Int))) := by
  have hc : Chg (fun b => b = q) w (w.setCell ⟨q, 2, none⟩ (.int .i64 (wrote' : Int))) := Chg.setCell _ _ _ rfl
  refine ⟨h.retx hc ?_, hc⟩
  have := heap_setCell_same w q 2 _ 85 (.int .i64 (wrote' : Int)) h.tx.blk
  simpa using this

/-- New bytes are stored into the transaction's map. -/
theorem Tk.stored {w w2 w3 : World} {n : Nat} {bs : List Int} {g c : Nat} (h : Tk w F G pd pl q K S com pend live own wrote m V mt Vt) (hn : n < K) (hl : bs.length = 512) (hc2 : Chg (fun _ => False) w w2) (ho : w2.ownsRow w.heap.size 5 1 (.slice (some ⟨g, 0, none⟩) 512 c) 512 (bcells bs))
    (hm : MapIs w3 mt K (upd (vf own Vt) n (some (.slice (some ⟨g, 0, none⟩) 512 c)))) (hg3 : w2.grownBy w3 (some mt)) :
    Tk w3 F (fun b => G b ∨ b = g) pd pl q K S com pend live (upd own n (some bs)) wrote m V mt (upd Vt n (.slice (some ⟨g, 0, none⟩) 512 c)) ∧ Chg (fun b => b = mt) w w3 ∧ w.heap.size ≤ g := by
  have h2 := h.kept hc2
  have hc3 := Chg.of_grown hg3
  have hgl := ho.lt g rfl
  obtain ⟨et, ct, homt⟩ := h2.tx.mb.map.obj
  have hr : ∀ x, (∃ cur, w2.heap[x]? = some (.cells cur 5 (0, 0))) → ¬ x = mt := fun x ⟨cur, hcur⟩ e => by rw [e, homt] at hcur; cases hcur
  have hlt : ∀ b, (G b ∨ b = g) → b < w3.heap.size := fun b hb => by
    have := hg3.size
    rcases hb with e | e
    · have := h2.tx.lt b e; omega
    · omega
  refine ⟨⟨⟨h2.lk.dk.kept hc3 h2.mtF, ⟨(hc3.block pl h2.lk.lg.pl_lt (Ne.symm h.mtpl)).trans h2.lk.lg.blk, (h2.lk.lg.mb.kept hc3 (Ne.symm h.ne) (fun x _ hx => hr x hx)).mono (fun b hb => .inl hb), .inl h2.lk.lg.fp, hlt⟩, fun b hf hg => ?_, h.lk.nb⟩, ⟨(hc3.block q (h2.tx.lt q h2.tx.fp) (Ne.symm h.mtq)).trans h2.tx.blk, ⟨?_, fun k b hb => ?_, .inl h.tx.mb.fm⟩, .inl h.tx.fp, hlt⟩, h.ne⟩, hc2.trans' hc3, hgl.1⟩
  · rcases hg with e | e
    · exact h.lk.no b hf e
    · have := h.lk.dk.lt b hf; omega
  · rw [vf_upd]; exact hm
  · by_cases e : k = n
    · subst e
      rw [upd_same] at hb ⊢
      injection hb with hb
      subst hb
      refine ⟨hn, hl, g, c, rfl, own_mono (own_same ho (fun x hx => ?_)) (Nat.zero_le _), .inr rfl⟩
      have e := own_at hx
      subst e
      exact hc3.block _ (ho.lt _ rfl).2 (hr _ (own_obj ho rfl))
    · rw [upd_other _ _ e] at hb ⊢
      obtain ⟨h1, h3, x, y, e2, ho2, hx⟩ := (h2.tx.mb.kept (E := fun _ => False) (Chg.refl _ w2) (fun h => h) (fun _ _ _ h => h)).row k b hb
      rw [e2] at ho2 ⊢
      refine ⟨h1, h3, x, y, rfl, own_same ho2 (fun z hz => ?_), .inl hx⟩
      have e := own_at hz
      subst e
      exact hc3.block _ (ho2.lt _ rfl).2 (hr _ (own_obj ho2 rfl))

/-- What a Write that is done leaves. -/
def WtTo (F G : Nat → Prop) (pd pl q K : Nat) (S : St) (com : Nat → Option (List Int)) (pend : Nat) (own' : Nat → Option (List Int)) (wrote' m : Nat) (V : Nat → Value) (mt : Nat) (w : World) (e : Ending) (w' : World) : Prop :=
  ∃ G' Vt', e = .returned (.int .i64 0) ∧ Tk w' F G' pd pl q K S com pend true own' wrote' m V mt Vt' ∧ Chg (fun b => b = q ∨ b = mt) w w' ∧ ∀ b, G' b → G b ∨ w.heap.size ≤ b

theorem WtTo.clone (n : Nat) (bs : List Int) (va : Option Addr) (vc : Nat) (w1 : World) (h : Tk w1 F G pd pl q K S com pend true own wrote m V mt Vt) (hn : n < K) (hb : Bs w1 (.slice va 512 vc) bs) (hl : bs.length = 512) :
    Calls Tryz.prog 88 #[.slice va 512 vc] w1.drew fun e w2 => ∃ g c w3, e = .returned (.slice (some ⟨g, 0, none⟩) 512 c) ∧ w2.cell? ⟨q, 1, none⟩ = some (.map (some mt)) ∧
      (Instr.mapUpdate 81 (.map (some mt)) (.int .i64 (n : Int)) (.slice (some ⟨g, 0, none⟩) 512 c)).run Tryz.prog w2 = .ok () w3 ∧ w3.cell? ⟨q, 1, none⟩ = some (.map (some mt)) ∧
      Hid (WtTo F G pd pl q K S com pend (upd own n (some bs)) wrote m V mt w1 (.returned (.int .i64 0)) w3) := by
  have hcd := Chg.drew (fun _ => False) w1
  refine (cloneB_any (.slice va 512 vc) bs w1.drew (hb.kept hcd (fun _ _ _ _ _ h => h)) (by omega)).mono ?_
  rintro e w2 ⟨u, rfl, ho, hc⟩
  rw [hl] at ho
  have hc2 : Chg (fun _ => False) w1 w2 := hcd.trans hc (fun _ _ h => h)
  have ho' : w2.ownsRow w1.heap.size 5 1 u 512 (bcells bs) := ho
  obtain ⟨g, c, rfl⟩ := own_form ho' (by omega)
  have h2 := h.kept hc2
  obtain ⟨w3, hrun, hm, hg3, hz⟩ := h2.tx.mb.map.storeB h.lk.top hn (.slice (some ⟨g, 0, none⟩) 512 c)
  obtain ⟨ht, hch, hge⟩ := h.stored hn hl hc2 ho' hm hg3
  refine ⟨g, c, w3, rfl, h2.tx.c1, hrun, ht.tx.c1, fun b => G b ∨ b = g, _, rfl, ht, hch.mono (fun _ _ h => .inr h), fun b hb => ?_⟩
  rcases hb with e | e
  · exact .inl e
  · exact .inr (by omega)

set_option maxHeartbeats 3200000 in
set_option maxRecDepth 100000 in
theorem twrite_again (n : Nat) (bs b0 : List Int) (va : Option Addr) (vc : Nat) (w : World) (h : Tk w F G pd pl q K S com pend true own wrote m V mt Vt) (hn : n < K) (hb : Bs w (.slice va 512 vc) bs) (hl : bs.length = 512) (hoff : S.off = false) (hw : own n = some b0) :
    Calls Tryz.prog 77 #[.pointer (some ⟨q, 0, none⟩), .int .i64 (n : Int), .slice va 512 vc] w fun e w' => WtTo F G pd pl q K S com pend (upd own n (some bs)) wrote m V mt w e w' := by
  have HK : Hid (Tk w F G pd pl q K S com pend true own wrote m V mt Vt) := h
  have t0 := h.tx.c0
  have t1 := h.tx.c1
  have c0 := h.lk.lg.c0
  have kd : decide (0 ≤ (n : Int) ∧ (n : Int) < K) = true := by simp; omega
  have lk := h.tx.mb.map.lookB2 h.lk.top hn
  obtain ⟨_, _, g0, c0', e0, _, _⟩ := h.tx.mb.row n b0 hw
  rw [vf_some hw, Option.getD_some, e0] at lk
  have CL : Hid (Calls Tryz.prog 88 #[.slice va 512 vc] w.drew fun e w2 => ∃ g c w3, e = .returned (.slice (some ⟨g, 0, none⟩) 512 c) ∧ w2.cell? ⟨q, 1, none⟩ = some (.map (some mt)) ∧
      (Instr.mapUpdate 81 (.map (some mt)) (.int .i64 (n : Int)) (.slice (some ⟨g, 0, none⟩) 512 c)).run Tryz.prog w2 = .ok () w3 ∧ w3.cell? ⟨q, 1, none⟩ = some (.map (some mt)) ∧
      Hid (WtTo F G pd pl q K S com pend (upd own n (some bs)) wrote m V mt w (.returned (.int .i64 0)) w3)) := WtTo.clone n bs va vc w h hn hb hl
  clear h hb e0 hw
  go_enter Tryz.func77, Tryz.ntmps77
  go_wp2_with fail
  refine (off_any F pd S w HK.out.lk.dk).mono ?_
  rintro e w1 ⟨rfl, rfl⟩
  rw [hoff]
  go_wp2_with fail
  refine (lhas_any (n : Int) w1 HK.out.lk).mono ?_
  rintro e w2 ⟨rfl, rfl⟩
  rw [kd]
  go_wp2_with fail
  refine (isOpen_any w2 HK.out).mono ?_
  rintro e w3 ⟨rfl, rfl⟩
  clear HK
  go_wp2_with fail
  clear lk t0 c0
  go_region_held_law (fun w' => w'.cell? ⟨q, 1, none⟩ = some (.map (some mt)))
    (first | assumption | exact t1 | exact q1 | exact q3)
    (first | (go_at_call 88; refine CL.out.mono ?_; clear CL; rintro e w4 ⟨g, c, w5, rfl, q1, q2, q3, HQ⟩))
  all_goals
    clear t1 q1 q2 q3
    go_wp2
    go_ret
    exact HQ.out

set_option maxHeartbeats 3200000 in
set_option maxRecDepth 100000 in
theorem twrite_first (n : Nat) (bs : List Int) (va : Option Addr) (vc : Nat) (w : World) (h : Tk w F G pd pl q K S com pend true own wrote m V mt Vt) (hn : n < K) (hb : Bs w (.slice va 512 vc) bs) (hl : bs.length = 512) (hoff : S.off = false) (hw : own n = none) (hr : wrote < 63) (hbq : ∀ a, va = some a → a.block ≠ q) :
    Calls Tryz.prog 77 #[.pointer (some ⟨q, 0, none⟩), .int .i64 (n : Int), .slice va 512 vc] w fun e w' => WtTo F G pd pl q K S com pend (upd own n (some bs)) (wrote + 1) m V mt w e w' := by
  have HK : Hid (Tk w F G pd pl q K S com pend true own wrote m V mt Vt) := h
  have t0 := h.tx.c0
  have t1 := h.tx.c1
  have t2 := h.tx.c2
  have fr2 := h.tx.fr 2
  have c0 := h.lk.lg.c0
  have kd : decide (0 ≤ (n : Int) ∧ (n : Int) < K) = true := by simp; omega
  have lk := h.tx.mb.map.lookB2 h.lk.top hn
  rw [vf_none hw] at lk
  have k63 : ((wrote : Int) == 63) = false := by rw [beq_eq_false_iff_ne]; omega
  have hq := h.count (wrote + 1)
  have e1 : ((wrote + 1 : Nat) : Int) = (wrote : Int) + 1 := by omega
  rw [e1] at hq
  have hb2 : Bs (w.setCell ⟨q, 2, none⟩ (.int .i64 ((wrote : Int) + 1))) (.slice va 512 vc) bs := hb.kept hq.2 (fun a _ _ e _ => hbq a (by cases e; rfl))
  have CL0 := WtTo.clone n bs va vc _ hq.1 hn hb2 hl
  have CL : Hid (Calls Tryz.prog 88 #[.slice va 512 vc] (w.setCell ⟨q, 2, none⟩ (.int .i64 ((wrote : Int) + 1))).drew fun e w2 => ∃ g c w3, e = .returned (.slice (some ⟨g, 0, none⟩) 512 c) ∧ w2.cell? ⟨q, 1, none⟩ = some (.map (some mt)) ∧
      (Instr.mapUpdate 81 (.map (some mt)) (.int .i64 (n : Int)) (.slice (some ⟨g, 0, none⟩) 512 c)).run Tryz.prog w2 = .ok () w3 ∧ w3.cell? ⟨q, 1, none⟩ = some (.map (some mt)) ∧
      Hid (WtTo F G pd pl q K S com pend (upd own n (some bs)) (wrote + 1) m V mt w (.returned (.int .i64 0)) w3)) := by
    refine CL0.mono ?_
    rintro e w2 ⟨g, c, w3, rfl, z1, z2, z3, G', Vt', he, z4, z5, z6⟩
    refine ⟨g, c, w3, rfl, z1, z2, z3, G', Vt', he, z4, (hq.2.mono (fun _ _ h => .inl h)).trans z5 (fun _ _ h => h), fun b hb => ?_⟩
    · rcases z6 b hb with e | e
      · exact .inl e
      · exact .inr (by simpa using e)
  have q1' := hq.1.tx.c1
  clear h hb hw hq hb2 CL0 e1
  go_enter Tryz.func77, Tryz.ntmps77
  go_wp2_with fail
  refine (off_any F pd S w HK.out.lk.dk).mono ?_
  rintro e w1 ⟨rfl, rfl⟩
  rw [hoff]
  go_wp2_with fail
  refine (lhas_any (n : Int) w1 HK.out.lk).mono ?_
  rintro e w2 ⟨rfl, rfl⟩
  rw [kd]
  go_wp2_with fail
  refine (isOpen_any w2 HK.out).mono ?_
  rintro e w3 ⟨rfl, rfl⟩
  clear HK
  go_wp2_with fail
  clear lk t0 c0 t2 fr2 t1
  go_region_held_law (fun w' => w'.cell? ⟨q, 1, none⟩ = some (.map (some mt)))
    (first | assumption | exact q1' | exact q1 | exact q3)
    (first | (go_at_call 88; refine CL.out.mono ?_; clear CL; rintro e w4 ⟨g, c, w5, rfl, q1, q2, q3, HQ⟩))
  all_goals
    clear q1' q1 q2 q3
    go_wp2
    go_ret
    exact HQ.out

set_option maxHeartbeats 1600000 in
theorem twrite_out (n : Int) (v : Value) (w : World) (h : Tk w F G pd pl q K S com pend live own wrote m V mt Vt) (hn : ¬ (0 ≤ n ∧ n < K)) (hoff : S.off = false) :
    Calls Tryz.prog 77 #[.pointer (some ⟨q, 0, none⟩), .int .i64 n, v] w fun e w' => e = .returned (.int .i64 1) ∧ w' = w := by
  have HK : Hid (Tk w F G pd pl q K S com pend live own wrote m V mt Vt) := h
  have t0 := h.tx.c0
  have c0 := h.lk.lg.c0
  have kd : decide (0 ≤ n ∧ n < K) = false := by simpa using hn
  clear h hn
  go_enter Tryz.func77, Tryz.ntmps77
  go_wp2_with fail
  refine (off_any F pd S w HK.out.lk.dk).mono ?_
  rintro e w1 ⟨rfl, rfl⟩
  rw [hoff]
  go_wp2_with fail
  refine (lhas_any n w1 HK.out.lk).mono ?_
  rintro e w2 ⟨rfl, rfl⟩
  rw [kd]
  clear HK
  go_wp2
  go_ret
  exact ⟨rfl, rfl⟩
set_option maxHeartbeats 1600000 in
theorem twrite_dead (n : Nat) (va : Option Addr) (vc : Nat) (w : World) (h : Tk w F G pd pl q K S com pend false own wrote m V mt Vt) (hn : n < K) (hoff : S.off = false) :
    Calls Tryz.prog 77 #[.pointer (some ⟨q, 0, none⟩), .int .i64 (n : Int), .slice va 512 vc] w fun e w' => e = .returned (.int .i64 15) ∧ w' = w := by
  have HK : Hid (Tk w F G pd pl q K S com pend false own wrote m V mt Vt) := h
  have t0 := h.tx.c0
  have c0 := h.lk.lg.c0
  have kd : decide (0 ≤ (n : Int) ∧ (n : Int) < K) = true := by simp; omega
  clear h
  go_enter Tryz.func77, Tryz.ntmps77
  go_wp2_with fail
  refine (off_any F pd S w HK.out.lk.dk).mono ?_
  rintro e w1 ⟨rfl, rfl⟩
  rw [hoff]
  go_wp2_with fail
  refine (lhas_any (n : Int) w1 HK.out.lk).mono ?_
  rintro e w2 ⟨rfl, rfl⟩
  rw [kd]
  go_wp2_with fail
  refine (isOpen_any w2 HK.out).mono ?_
  rintro e w3 ⟨rfl, rfl⟩
  clear HK
  go_wp2
  go_ret
  exact ⟨rfl, rfl⟩
set_option maxHeartbeats 1600000 in
theorem twrite_full (n : Nat) (va : Option Addr) (vc : Nat) (w : World) (h : Tk w F G pd pl q K S com pend true own wrote m V mt Vt) (hn : n < K) (hoff : S.off = false) (hw : own n = none) (hr : wrote = 63) :
    Calls Tryz.prog 77 #[.pointer (some ⟨q, 0, none⟩), .int .i64 (n : Int), .slice va 512 vc] w fun e w' => e = .returned (.int .i64 7) ∧ w' = w := by
  have HK : Hid (Tk w F G pd pl q K S com pend true own wrote m V mt Vt) := h
  have t0 := h.tx.c0
  have t1 := h.tx.c1
  have t2 := h.tx.c2
  have c0 := h.lk.lg.c0
  have kd : decide (0 ≤ (n : Int) ∧ (n : Int) < K) = true := by simp; omega
  have lk := h.tx.mb.map.lookB2 h.lk.top hn
  rw [vf_none hw] at lk
  rw [hr] at t2
  clear h hw
  go_enter Tryz.func77, Tryz.ntmps77
  go_wp2_with fail
  refine (off_any F pd S w HK.out.lk.dk).mono ?_
  rintro e w1 ⟨rfl, rfl⟩
  rw [hoff]
  go_wp2_with fail
  refine (lhas_any (n : Int) w1 HK.out.lk).mono ?_
  rintro e w2 ⟨rfl, rfl⟩
  rw [kd]
  go_wp2_with fail
  refine (isOpen_any w2 HK.out).mono ?_
  rintro e w3 ⟨rfl, rfl⟩
  clear HK
  go_wp2
  go_ret
  exact ⟨rfl, rfl⟩
end
end Go.Proofs.YtnnaemlipahamaaGreat
