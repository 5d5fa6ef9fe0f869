/-
  The contract of Write of package block.
-/
import Derived.Test.YtkkmdmnjlncgfaaPush
import Derived.Deep.RegionHeldLaw
import Derived.Deep.DeepCutAuto
namespace Go.Proofs.Ytkkmdmnjlncgfaa
open Go.RowKit Go.Maps

theorem step_append_eq {P : Program} {w : World} {ops : Array Oper} {o : Oper} {a : Act} {K : Act → World → Prop} {Q : Exit → Act → World → Prop} {E : Prop} (hgd : o.guard = none) (s x : Operand) (t : TypeId)
    (ho : o.op = .call { callee := .builtin .append, args := #[s, x], argTypes := #[t, t] }) (vs vx : Value) (hs : a.eval s = vs) (hx : a.eval x = vx) (v' : Value) (w' : World)
    (hr : (Builtin.append_ #[t, t] o.type #[vs, vx]).run P w = .ok v' w') (h : K (a.put o.dst v') w') : if Region.wanted o (yielded ops a.tmps) = true then Oper.wp P o a w K Q else E := by
  have hw : Region.wanted o (yielded ops a.tmps) = true := by simp [Region.wanted, hgd]
  rw [if_pos hw]
  exact Lib.wp_append_run w s x t t ho vs vx hs hx v' w' hr h

theorem cutTo_arm : ∀ (ks : List Nat) (S : St) (a : Int) (ps : List Int), St.cutTo { S with arm := a } ps ks = { S.cutTo ps ks with arm := a }
  | [], _, _, _ => rfl
  | n :: ks, S, a, ps => cutTo_arm ks (S.settle n (St.pickN (ps.headD 0) (S.wait n).length)) a ps.tail
theorem struck_cut (S : St) (h : S.off = false) (ps : List Int) : S.struck.cut ps = S.cut ps := by
  have e : S.struck.keys = S.keys := rfl
  have e1 : S.struck.off = false := h
  unfold St.cut
  rw [e, h, e1]
  have := cutTo_arm S.keys S (if S.arm < 1 then S.arm else S.arm - 1) ps
  unfold St.struck
  rw [this]
  rfl

/-- What bytes.Clone leaves behind it in a Write: all that the rest of the statement meets. -/
def Cloned (F : Nat → Prop) (p : Nat) (S : St) (m n : Nat) (oa : Option Addr) (oc : Nat) (b : List Int) (w : World) (e : Ending) (w2 : World) : Prop :=
  ∃ g c v' w4 w5, e = .returned (.slice (some ⟨g, 0, none⟩) 512 c) ∧ w2.cell? ⟨p, 1, none⟩ = some (.map (some m)) ∧ (Instr.lookup 64 (.map (some m)) (.int .i64 (n : Int)) false).run Try.prog w2 = .ok (.slice oa (S.wait n).length oc) w2 ∧
    (∀ o, (w2.alloc o).cell? ⟨p, 1, none⟩ = some (.map (some m))) ∧ (∀ o, (Instr.lookup 64 (.map (some m)) (.int .i64 (n : Int)) false).run Try.prog (w2.alloc o) = .ok (.slice oa (S.wait n).length oc) (w2.alloc o)) ∧
    (Builtin.append_ #[89, 89] 89 #[.slice oa (S.wait n).length oc, .slice (some ⟨w2.heap.size, 0, none⟩) 1 1]).run Try.prog (w2.alloc (.cells #[.slice (some ⟨g, 0, none⟩) 512 c] 39)) = .ok v' w4 ∧
    (Instr.mapUpdate 64 (.map (some m)) (.int .i64 (n : Int)) v').run Try.prog w4 = .ok () w5 ∧ w4.cell? ⟨p, 1, none⟩ = some (.map (some m)) ∧ w5.cell? ⟨p, 1, none⟩ = some (.map (some m)) ∧
    Hid (w5.cell? ⟨p, 2, none⟩ = some (.int .i64 (S.writes : Int)) ∧ w5.frozen? ⟨p, 2, none⟩ = false ∧ To F p w (w5.setCell ⟨p, 2, none⟩ (.int .i64 ((S.writes : Int) + 1))) (S.wrote n b))

theorem cloned_call {w : World} {F : Nat → Prop} {p : Nat} {S : St} {s sc m : Nat} {pv : Value} {V : Nat → Value} (h : DkAt w F p S s sc m pv V) {n : Nat} (hn : n < S.nb) {v : Value} {b : List Int} (hv : Bs w v b) (hb : b.length = 512) (hx : S.writes < 1099511627776)
    {oa : Option Addr} {oc : Nat} (ho : (mf S V n).getD (.slice none 0 0) = .slice oa (S.wait n).length oc) (hvers : Vers w F s (.slice oa (S.wait n).length oc) (S.wait n)) (hob : ∀ g, (Value.slice oa (S.wait n).length oc).ownBlock = some g → S.wait n ≠ [] ∧ (V n).ownBlock = some g) :
    Calls Try.prog 56 #[v] w.drew (Cloned F p S m n oa oc b w) := by
  refine (cloneB_any v b w.drew hv (by omega)).mono ?_
  rintro e w2 ⟨u, rfl, hu, hc0⟩
  have hc : Chg (fun _ => False) w w2 := (Chg.drew (fun _ => False) w).trans hc0 (fun _ _ h => h)
  have hu' : w2.ownsRow w.heap.size 5 1 u b.length (bcells b) := hu
  rw [hb] at hu'
  rcases hu'.2 with ⟨_, h0⟩ | ⟨g, c, cur, rfl, hr⟩
  · omega
  obtain ⟨v', w4, w5, h1, h2, h3, h4, h5⟩ := push_facts h hn hb hx ho hvers hob hu' hc
  have d2 := h.kept hc (fun _ _ h => h)
  have l2 := d2.look hn
  rw [ho] at l2
  refine ⟨g, c, v', w4, w5, rfl, d2.c1, l2, fun o => ?_, fun o => ?_, h1, h2, h3, h4, h5⟩
  · exact (d2.kept (Chg.alloc (fun _ => False) w2 o) (fun _ _ h => h)).c1
  · have := (d2.kept (Chg.alloc (fun _ => False) w2 o) (fun _ _ h => h)).look hn
    rw [ho] at this
    exact this

set_option maxHeartbeats 3200000 in
set_option maxRecDepth 100000 in
theorem write_done (F : Nat → Prop) (p : Nat) (S : St) (n : Nat) (v : Value) (bs : List Int) (w : World) (h : Dk w F p S) (hb : Bs w v bs) (hv : ∀ g, v.ownBlock = some g → ¬ F g) (hx : S.writes < 1099511627776) (hoff : S.off = false) (hn : n < S.nb) (hl : bs.length = 512) (ha : ¬ S.arm = 1) :
    Calls Try.prog 37 #[.pointer (some ⟨p, 0, none⟩), .int .i64 (n : Int), v] w fun e w' => e = .returned (.int .i64 0) ∧ To F p w w' (S.pushed n bs) := by
  obtain ⟨va, vc, hvf, hvc⟩ := hb.form
  rw [hl] at hvf hvc
  subst hvf
  have HH := h
  obtain ⟨s, sc, m, pv, V, h⟩ := h
  have c3 := h.c3
  rw [hoff] at c3
  have hfp := h.fp
  have kd : decide (0 ≤ (n : Int) ∧ (n : Int) < S.nb) = true := by simp; omega
  have ka : decide (S.arm = 1) = false := by simpa using ha
  have HD : Hid (Dk w F p S) := HH
  have HB : Hid (Bs w (.slice va 512 vc) bs) := hb
  clear h HH hb
  go_enter Try.func37, Try.ntmps37
  go_wp2_with fail
  refine (has_any F p S n w HD.out).mono ?_
  rintro e w1 ⟨rfl, rfl⟩
  rw [kd]
  go_wp2_with fail
  refine (strikes_any F p S w1 HD.out).mono ?_
  rintro e w2 ⟨rfl, h2, hc2⟩
  rw [ka]
  have hb2 : Bs w2 (.slice va 512 vc) bs := HB.out.kept hc2 (fun a _ _ e _ e2 => by cases e; exact hv _ rfl (by rw [e2]; exact hfp))
  obtain ⟨s, sc, m, pv, V, h2⟩ := h2
  obtain ⟨oa, oc, ho, hvers, hob⟩ := h2.old (n := n) hn
  have HC : Hid (Calls Try.prog 56 #[.slice va 512 vc] w2.drew (Cloned F p S.struck m n oa oc bs w2)) := cloned_call h2 hn hb2 hl hx ho hvers hob
  have c1 := h2.c1
  have lk := (h2.kept (Chg.drew (fun _ => False) w2) (fun _ _ h => h)).look (n := n) hn
  rw [ho] at lk
  have hfw : (S.struck.wait n).length ≤ S.writes := h2.wf.few n
  clear c3 h2 hb2 HB ho hvers hob kd ka HD
  obtain ⟨S1, hS1⟩ : ∃ S1, S.struck = S1 := ⟨_, rfl⟩
  have HS : Hid (S.pushed n bs = S1.wrote n bs) := by rw [St.pushed_eq, hS1]; rfl
  have e5 : S1.writes = S.writes := by rw [← hS1]; rfl
  rw [hS1] at HC lk hfw
  clear hS1
  obtain ⟨L, hL⟩ : ∃ L, (S1.wait n).length = L := ⟨_, rfl⟩
  rw [hL] at lk hfw
  have HL : Hid ((S1.wait n).length = L) := hL
  clear hL
  go_wp2_with fail
  go_cut [42] (fun _ wc => wc.cell? ⟨p, 2, none⟩ = some (.int .i64 (S1.writes : Int)) ∧ wc.frozen? ⟨p, 2, none⟩ = false ∧ Hid (To F p w2 (wc.setCell ⟨p, 2, none⟩ (.int .i64 ((S1.writes : Int) + 1))) (S1.wrote n bs)))
  case first =>
    go_region_held_law (fun w' => w'.cell? ⟨p, 1, none⟩ = some (.map (some m)))
      (first | assumption | exact k3 _)
      (first
        | (go_at_call 56; refine HC.out.mono ?_; rintro e w3 ⟨g, c, v', w4, w5, rfl, k1, k2, k3, k4, k5, k6, k7, k8, HQ⟩; rw [HL.out] at k2 k4 k5)
        | (refine step_append_eq (by rfl) _ _ _ (by rfl) _ _ (by rfl) (by rfl) _ _ k5 ?_))
    all_goals (go_wp2_with fail; go_meet; exact HQ.out)
  case rest =>
    obtain ⟨c2, f2, HQ⟩ := hcut
    rw [e5] at HQ
    have hw1 : (S1.writes : Int) < 1099511627776 := by omega
    clear HC lk c1 HL
    go_wp2
    go_ret
    refine ⟨rfl, ?_⟩
    rw [HS.out]
    exact To.trans (hc2.mono (fun i _ e => by rw [e]; exact hfp)) (fun b h => .inl h) HQ.out

set_option maxHeartbeats 800000 in
set_option maxRecDepth 100000 in
theorem write_struck (F : Nat → Prop) (p : Nat) (S : St) (n : Nat) (v : Value) (bs : List Int) (w : World) (h : Dk w F p S) (hb : Bs w v bs) (hx : S.writes < 1099511627776) (hoff : S.off = false) (hn : n < S.nb) (hl : bs.length = 512) (ha : S.arm = 1) :
    Calls Try.prog 37 #[.pointer (some ⟨p, 0, none⟩), .int .i64 (n : Int), v] w fun e w' => e = .returned (.int .i64 6) ∧ To F p w w' (S.cut S.picks) := by
  obtain ⟨va, vc, hvf, hvc⟩ := hb.form
  rw [hl] at hvf hvc
  subst hvf
  have HH := h
  obtain ⟨s, sc, m, pv, V, h⟩ := h
  have c3 := h.c3
  rw [hoff] at c3
  have hfp := h.fp
  have kd : decide (0 ≤ (n : Int) ∧ (n : Int) < S.nb) = true := by simp; omega
  have ka : decide (S.arm = 1) = true := by simpa using ha
  have HD : Hid (Dk w F p S) := HH
  have HP : Hid (S.struck.cut S.struck.picks = S.cut S.picks) := struck_cut S hoff S.picks
  clear h HH hb
  go_enter Try.func37, Try.ntmps37
  go_wp2_with fail
  refine (has_any F p S n w HD.out).mono ?_
  rintro e w1 ⟨rfl, rfl⟩
  rw [kd]
  go_wp2_with fail
  refine (strikes_any F p S w1 HD.out).mono ?_
  rintro e w2 ⟨rfl, h2, hc2⟩
  rw [ka]
  obtain ⟨s, sc, m, pv, V, h2⟩ := h2
  have c5 := h2.c5
  have H2 : Hid (DkAt w2 F p S.struck s sc m pv V) := h2
  obtain ⟨pa, pc, hpf, _⟩ := (Is.ofOwns h2.pk).form
  clear c3 h2 kd ka HD
  subst hpf
  go_wp2_with fail
  refine (cut_own F p S.struck w2 H2.out hx).mono ?_
  rintro e w3 ⟨rfl, h3⟩
  rw [HP.out] at h3
  clear c5 H2
  go_wp2
  go_ret
  exact ⟨rfl, To.trans (hc2.mono (fun i _ e => by rw [e]; exact hfp)) (fun b h => .inl h) h3⟩

set_option maxHeartbeats 800000 in
set_option maxRecDepth 100000 in
/-- Write, whatever it is handed. -/
theorem write_any (F : Nat → Prop) (p : Nat) (S : St) (n : Int) (v : Value) (bs : List Int) (w : World) (h : Dk w F p S) (hb : Bs w v bs) (hv : ∀ g, v.ownBlock = some g → ¬ F g) (hx : S.writes < 1099511627776) :
    Calls Try.prog 37 #[.pointer (some ⟨p, 0, none⟩), .int .i64 n, v] w fun e w' => e = .returned (.int .i64 (S.writeE n bs)) ∧ To F p w w' (S.write n bs) := by
  by_cases hoff : S.off = true
  · have e1 : S.writeE n bs = 6 := by simp [St.writeE, hoff]
    have e2 : S.write n bs = S := by simp [St.write, hoff]
    rw [e1, e2]
    have HH : Hid (Dk w F p S) := h
    obtain ⟨s, sc, m, pv, V, h⟩ := h
    have c3 := h.c3
    rw [hoff] at c3
    clear h e1 e2 hb hv
    go_enter Try.func37, Try.ntmps37
    go_wp2
    go_ret
    exact ⟨rfl, To.refl HH.out⟩
  have hof : S.off = false := by simpa using hoff
  by_cases hok : S.okW n bs
  · obtain ⟨h0, h1, hl⟩ := hok
    obtain ⟨k, rfl⟩ := Int.eq_ofNat_of_zero_le h0
    have hk : k < S.nb := by omega
    by_cases ha : S.arm = 1
    · have e1 : S.writeE k bs = 6 := by
        unfold St.writeE
        rw [if_neg hoff, if_neg (by simp [St.okW, h1, hl]), if_pos ha]
      have e2 : S.write k bs = S.cut S.picks := by
        unfold St.write
        rw [if_neg hoff, if_neg (by simp [St.okW, h1, hl]), if_pos ha]
      rw [e1, e2]
      exact write_struck F p S k v bs w h hb hx hof hk hl ha
    · have e1 : S.writeE k bs = 0 := by
        unfold St.writeE
        rw [if_neg hoff, if_neg (by simp [St.okW, h1, hl]), if_neg ha]
      have e2 : S.write k bs = S.pushed k bs := by
        unfold St.write
        rw [if_neg hoff, if_neg (by simp [St.okW, h1, hl]), if_neg ha]; rfl
      rw [e1, e2]
      exact write_done F p S k v bs w h hb hv hx hof hk hl ha
  · have e1 : S.writeE n bs = 1 := by unfold St.writeE; rw [if_neg hoff, if_pos hok]
    have e2 : S.write n bs = S := by unfold St.write; rw [if_neg hoff, if_pos hok]
    rw [e1, e2]
    have HH : Hid (Dk w F p S) := h
    obtain ⟨s, sc, m, pv, V, h⟩ := h
    have c3 := h.c3
    rw [hof] at c3
    obtain ⟨va, vc, rfl, hvc⟩ := hb.form
    by_cases hn : 0 ≤ n ∧ n < S.nb
    · have hl : ¬ bs.length = 512 := fun hl => hok ⟨hn.1, hn.2, hl⟩
      have kd : decide (0 ≤ n ∧ n < S.nb) = true := by simp; omega
      have hli : ((bs.length : Int) == 512) = false := by simp; omega
      clear h e1 e2 hb hv
      go_enter Try.func37, Try.ntmps37
      go_wp2_with fail
      refine (has_any F p S n w HH.out).mono ?_
      rintro e w1 ⟨rfl, rfl⟩
      rw [kd]
      clear kd hn hok
      go_wp2
      go_ret
      exact ⟨rfl, To.refl HH.out⟩
    · have kd : decide (0 ≤ n ∧ n < S.nb) = false := by simpa using hn
      clear h e1 e2 hb hv
      go_enter Try.func37, Try.ntmps37
      go_wp2_with fail
      refine (has_any F p S n w HH.out).mono ?_
      rintro e w1 ⟨rfl, rfl⟩
      rw [kd]
      clear kd hn hok
      go_wp2
      go_ret
      exact ⟨rfl, To.refl HH.out⟩
end Go.Proofs.Ytkkmdmnjlncgfaa
