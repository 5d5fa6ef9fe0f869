/-
  The contract of Write of package block.
-/
import Derived.Test.YtnnaemlipahamaaGreatCut
import Derived.Deep.RegionHeldLaw
import Derived.Deep.DeepCutAuto
namespace Go.Proofs.YtnnaemlipahamaaGreat
open Go.RowKit Go.Maps

theorem step_append_eq {P : Program} {w : World} {ops : Array Oper} {o : Oper} {a : Act} {K : Act → World → Prop} {Q : Exit → Act → World → Prop} {E : Prop} (hgd : o.guard = none) (s x : Operand) (t : TypeId)
    (ho : o.op = .call { callee := .builtin .append, args := #[s, x], argTypes := #[t, t] }) (vs vx : Value) (hs : a.eval s = vs) (hx : a.eval x = vx) (v' : Value) (w' : World)
    (hr : (Builtin.append_ #[t, t] o.type #[vs, vx]).run P w = .ok v' w') (h : K (a.put o.dst v') w') : if Region.wanted o (yielded ops a.tmps) = true then Oper.wp P o a w K Q else E := by
  have hw : Region.wanted o (yielded ops a.tmps) = true := by simp [Region.wanted, hgd]
  rw [if_pos hw]
  exact Lib.wp_append_run w s x t t ho vs vx hs hx v' w' hr h

theorem cutTo_arm : ∀ (ks : List Nat) (S : St) (a : Int) (ps : List Int), St.cutTo { S with arm := a } ps ks = { S.cutTo ps ks with arm := a }
  | [], _, _, _ => rfl
  | n :: ks, S, a, ps => cutTo_arm ks (S.settle n (St.pickN (ps.headD 0) (S.wait n).length)) a ps.tail
theorem struck_cut (S : St) (h : S.off = false) (ps : List Int) : S.struck.cut ps = S.cut ps := by
  have e : S.struck.keys = S.keys := rfl
  have e1 : S.struck.off = false := h
  unfold St.cut
  rw [e, h, e1]
  have := cutTo_arm S.keys S (if S.arm < 1 then S.arm else S.arm - 1) ps
  unfold St.struck
  rw [this]
  rfl

/-- What bytes.Clone leaves behind it in a Write: all that the rest of the statement meets. -/
def Cloned (F : Nat → Prop) (p : Nat) (S : St) (m n : Nat) (oa : Option Addr) (oc : Nat) (b : List Int) (w : World) (e : Ending) (w2 : World) : Prop :=
  ∃ g c v' w4 w5, e = .returned (.slice (some ⟨g, 0, none⟩) 512 c) ∧ w2.cell? ⟨p, 1, none⟩ = some (.map (some m)) ∧ (Instr.lookup 114 (.map (some m)) (.int .i64 (n : Int)) false).run Tryz.prog w2 = .ok (.slice oa (S.wait n).length oc) w2 ∧
    (∀ o, (w2.alloc o).cell? ⟨p, 1, none⟩ = some (.map (some m))) ∧ (∀ o, (Instr.lookup 114 (.map (some m)) (.int .i64 (n : Int)) false).run Tryz.prog (w2.alloc o) = .ok (.slice oa (S.wait n).length oc) (w2.alloc o)) ∧
    (Builtin.append_ #[57, 57] 57 #[.slice oa (S.wait n).length oc, .slice (some ⟨w2.heap.size, 0, none⟩) 1 1]).run Tryz.prog (w2.alloc (.cells #[.slice (some ⟨g, 0, none⟩) 512 c] 33)) = .ok v' w4 ∧
    (Instr.mapUpdate 114 (.map (some m)) (.int .i64 (n : Int)) v').run Tryz.prog w4 = .ok () w5 ∧ w4.cell? ⟨p, 1, none⟩ = some (.map (some m)) ∧ w5.cell? ⟨p, 1, none⟩ = some (.map (some m)) ∧
    Hid (w5.cell? ⟨p, 2, none⟩ = some (.int .i64 (S.writes : Int)) ∧ w5.frozen? ⟨p, 2, none⟩ = false ∧ To F p w (w5.setCell ⟨p, 2, none⟩ (.int .i64 ((S.writes : Int) + 1))) (S.wrote n b))

theorem cloned_call {w : World} {F : Nat → Prop} {p : Nat} {S : St} {s sc m : Nat} {pv : Value} {V : Nat → Value} (h : DkAt w F p S s sc m pv V) {n : Nat} (hn : n < S.nb) {v : Value} {b : List Int} (hv : Bs w v b) (hb : b.length = 512) (hx : S.writes < 1099511627776)
    {oa : Option Addr} {oc : Nat} (ho : (mf S V n).getD (.slice none 0 0) = .slice oa (S.wait n).length oc) (hvers : Vers w F s (.slice oa (S.wait n).length oc) (S.wait n)) (hob : ∀ g, (Value.slice oa (S.wait n).length oc).ownBlock = some g → S.wait n ≠ [] ∧ (V n).ownBlock = some g) :
    Calls Tryz.prog 88 #[v] w.drew (Cloned F p S m n oa oc b w) := by
  refine (cloneB_any v b w.drew hv (by omega)).mono ?_
  rintro e w2 ⟨u, rfl, hu, hc0⟩
  have hc : Chg (fun _ => False) w w2 := (Chg.drew (fun _ => False) w).trans hc0 (fun _ _ h => h)
  have hu' : w2.ownsRow w.heap.size 5 1 u b.length (bcells b) := hu
  rw [hb] at hu'
  rcases hu'.2 with ⟨_, h0⟩ | ⟨g, c, cur, rfl, hr⟩
  · omega
  obtain ⟨v', w4, w5, h1, h2, h3, h4, h5⟩ := push_facts h hn hb hx ho hvers hob hu' hc
  have d2 := h.kept hc (fun _ _ h => h)
  have l2 := d2.look hn
  rw [ho] at l2
  refine ⟨g, c, v', w4, w5, rfl, d2.c1, l2, fun o => ?_, fun o => ?_, h1, h2, h3, h4, h5⟩
  · exact (d2.kept (Chg.alloc (fun _ => False) w2 o) (fun _ _ h => h)).c1
  · have := (d2.kept (Chg.alloc (fun _ => False) w2 o) (fun _ _ h => h)).look hn
    rw [ho] at this
    exact this

set_option maxHeartbeats 3200000 in
set_option maxRecDepth 100000 in
theorem write_done (F : Nat → Prop) (p : Nat) (S : St) (n : Nat) (v : Value) (bs : List Int) (w : World) (h : Dk w F p S) (hb : Bs w v bs) (hv : ∀ g, v.ownBlock = some g → ¬ F g) (hx : S.writes < 1099511627776) (hoff : S.off = false) (hn : n < S.nb) (hl : bs.length = 512) (ha : ¬ S.arm = 1) :
    Calls Tryz.prog 55 #[.pointer (some ⟨p, 0, none⟩), .int .i64 (n : Int), v] w fun e w' => e = .returned (.int .i64 0) ∧ To F p w w' (S.pushed n bs) := by
  obtain ⟨va, vc, hvf, hvc⟩ := hb.form
  rw [hl] at hvf hvc
  subst hvf
  have HH := h
  obtain ⟨s, sc, m, pv, V, h⟩ := h
  have c3 := h.c3
  rw [hoff] at c3
  have hfp := h.fp
  have kd : decide (0 ≤ (n : Int) ∧ (n : Int) < S.nb) = true := by simp; omega
  have ka : decide (S.arm = 1) = false := by simpa using ha
  have HD : Hid (Dk w F p S) := HH
  have HB : Hid (Bs w (.slice va 512 vc) bs) := hb
  clear h HH hb
  go_enter Tryz.func55, Tryz.ntmps55
  go_wp2_with fail
  refine (has_any F p S n w HD.out).mono ?_
  rintro e w1 ⟨rfl, rfl⟩
  rw [kd]
  go_wp2_with fail
  refine (strikes_any F p S w1 HD.out).mono ?_
  rintro e w2 ⟨rfl, h2, hc2⟩
  rw [ka]
  have hb2 : Bs w2 (.slice va 512 vc) bs := HB.out.kept hc2 (fun a _ _ e _ e2 => by cases e; exact hv _ rfl (by rw [e2]; exact hfp))
  obtain ⟨s, sc, m, pv, V, h2⟩ := h2
  obtain ⟨oa, oc, ho, hvers, hob⟩ := h2.old (n := n) hn
  have HC : Hid (Calls Tryz.prog 88 #[.slice va 512 vc] w2.drew (Cloned F p S.struck m n oa oc bs w2)) := cloned_call h2 hn hb2 hl hx ho hvers hob
  have c1 := h2.c1
  have lk := (h2.kept (Chg.drew (fun _ => False) w2) (fun _ _ h => h)).look (n := n) hn
  rw [ho] at lk
  have hfw : (S.struck.wait n).length ≤ S.writes := h2.wf.few n
  clear c3 h2 hb2 HB ho hvers hob kd ka HD
  obtain ⟨S1, hS1⟩ : ∃ S1, S.struck = S1 := ⟨_, rfl⟩
  have HS : Hid (S.pushed n bs = S1.wrote n bs) := by rw [St.pushed_eq, hS1]; rfl
  have e5 : S1.writes = S.writes := by rw [← hS1]; rfl
  rw [hS1] at HC lk hfw
  clear hS1
  obtain ⟨L, hL⟩ : ∃ L, (S1.wait n).length = L := ⟨_, rfl⟩
  rw [hL] at lk hfw
  have HL : Hid ((S1.wait n).length = L) := hL
  clear hL
  go_wp2_with fail
  go_cut [42] (fun _ wc => wc.cell? ⟨p, 2, none⟩ = some (.int .i64 (S1.writes : Int)) ∧ wc.frozen? ⟨p, 2, none⟩ = false ∧ Hid (To F p w2 (wc.setCell ⟨p, 2, none⟩ (.int .i64 ((S1.writes : Int) + 1))) (S1.wrote n bs)))
  case first =>
    go_region_held_law (fun w' => w'.cell? ⟨p, 1, none⟩ = some (.map (some m)))
      (first | assumption | exact k3 _)
      (first
        | (go_at_call 88; refine HC.out.mono ?_; rintro e w3 ⟨g, c, v', w4, w5, rfl, k1, k2, k3, k4, k5, k6, k7, k8, HQ⟩; rw [HL.out] at k2 k4 k5)
        | (refine step_append_eq (by rfl) _ _ _ (by rfl) _ _ (by rfl) (by rfl) _ _ k5 ?_))
    all_goals (go_wp2_with fail; go_meet; exact HQ.out)
  case rest =>
    obtain ⟨c2, f2, HQ⟩ := hcut
    rw [e5] at HQ
    have hw1 : (S1.writes : Int) < 1099511627776 := by omega
    clear HC lk c1 HL
    go_wp2
    go_ret
    refine ⟨rfl, ?_⟩
    rw [HS.out]
    exact To.trans (hc2.mono (fun i _ e => by rw [e]; exact hfp)) (fun b h => .inl h) HQ.out

set_option maxHeartbeats 800000 in
set_option maxRecDepth 100000 in
theorem write_struck (F : Nat → Prop) (p : Nat) (S : St) (n : Nat) (v : Value) (bs : List Int) (w : World) (h : Dk w F p S) (hb : Bs w v bs) (hx : S.writes < 1099511627776) (hoff : S.off = false) (hn : n < S.nb) (hl : bs.length = 512) (ha : S.arm = 1) :
    Calls Tryz.prog 55 #[.pointer (some ⟨p, 0, none⟩), .int .i64 (n : Int), v] w fun e w' => e = .returned (.int .i64 6) ∧ To F p w w' (S.cut S.picks) := by
  obtain ⟨va, vc, hvf, hvc⟩ := hb.form
  rw [hl] at hvf hvc
  subst hvf
  have HH := h
  obtain ⟨s, sc, m, pv, V, h⟩ := h
  have c3 := h.c3
  rw [hoff] at c3
  have hfp := h.fp
  have kd : decide (0 ≤ (n : Int) ∧ (n : Int) < S.nb) = true := by simp; omega
  have ka : decide (S.arm = 1) = true := by simpa using ha
  have HD : Hid (Dk w F p S) := HH
  have HP : Hid (S.struck.cut S.struck.picks = S.cut S.picks) := struck_cut S hoff S.picks
  clear h HH hb
  go_enter Tryz.func55, Tryz.ntmps55
  go_wp2_with fail
  refine (has_any F p S n w HD.out).mono ?_
  rintro e w1 ⟨rfl, rfl⟩
  rw [kd]
  go_wp2_with fail
  refine (strikes_any F p S w1 HD.out).mono ?_
  rintro e w2 ⟨rfl, h2, hc2⟩
  rw [ka]
  obtain ⟨s, sc, m, pv, V, h2⟩ := h2
  have c5 := h2.c5
  have H2 : Hid (DkAt w2 F p S.struck s sc m pv V) := h2
  obtain ⟨pa, pc, hpf, _⟩ := (Is.ofOwns h2.pk).form
  clear c3 h2 kd ka HD
  subst hpf
  go_wp2_with fail
  refine (cut_own F p S.struck w2 H2.out hx).mono ?_
  rintro e w3 ⟨rfl, h3⟩
  rw [HP.out] at h3
  clear c5 H2
  go_wp2
  go_ret
  exact ⟨rfl, To.trans (hc2.mono (fun i _ e => by rw [e]; exact hfp)) (fun b h => .inl h) h3⟩

set_option maxHeartbeats 800000 in
set_option maxRecDepth 100000 in
/-- Write, whatever it is handed. -/
theorem write_any (F : Nat → Prop) (p : Nat) (S : St) (n : Int) (v : Value) (bs : List Int) (w : World) (h : Dk w F p S) (hb : Bs w v bs) (hv : ∀ g, v.ownBlock = some g → ¬ F g) (hx : S.writes < 1099511627776) :
    Calls Tryz.prog 55 #[.pointer (some ⟨p, 0, none⟩), .int .i64 n, v] w fun e w' => e = .returned (.int .i64 (S.writeE n bs)) ∧ To F p w w' (S.write n bs) := by
  by_cases hoff : S.off = true
  · have e1 : S.writeE n bs = 6 := by simp [St.writeE, hoff]
    have e2 : S.write n bs = S := by simp [St.write, hoff]
    rw [e1, e2]
    have HH : Hid (Dk w F p S) := h
    obtain ⟨s, sc, m, pv, V, h⟩ := h
    have c3 := h.c3
    rw [hoff] at c3
    clear h e1 e2 hb hv
    go_enter Tryz.func55, Tryz.ntmps55
    go_wp2
    go_ret
    exact ⟨rfl, To.refl HH.out⟩
  have hof : S.off = false := by simpa using hoff
  by_cases hok : S.okW n bs
  · obtain ⟨h0, h1, hl⟩ := hok
    obtain ⟨k, rfl⟩ := Int.eq_ofNat_of_zero_le h0
    have hk : k < S.nb := by omega
    by_cases ha : S.arm = 1
    · have e1 : S.writeE k bs = 6 := by
        unfold St.writeE
        rw [if_neg hoff, if_neg (by simp [St.okW, h1, hl]), if_pos ha]
      have e2 : S.write k bs = S.cut S.picks := by
        unfold St.write
        rw [if_neg hoff, if_neg (by simp [St.okW, h1, hl]), if_pos ha]
      rw [e1, e2]
      exact write_struck F p S k v bs w h hb hx hof hk hl ha
    · have e1 : S.writeE k bs = 0 := by
        unfold St.writeE
        rw [if_neg hoff, if_neg (by simp [St.okW, h1, hl]), if_neg ha]
      have e2 : S.write k bs = S.pushed k bs := by
        unfold St.write
        rw [if_neg hoff, if_neg (by simp [St.okW, h1, hl]), if_neg ha]; rfl
      rw [e1, e2]
      exact write_done F p S k v bs w h hb hv hx hof hk hl ha
  · have e1 : S.writeE n bs = 1 := by unfold St.writeE; rw [if_neg hoff, if_pos hok]
    have e2 : S.write n bs = S := by unfold St.write; rw [if_neg hoff, if_pos hok]
    rw [e1, e2]
    have HH : Hid (Dk w F p S) := h
    obtain ⟨s, sc, m, pv, V, h⟩ := h
    have c3 := h.c3
    rw [hof] at c3
    obtain ⟨va, vc, rfl, hvc⟩ := hb.form
    by_cases hn : 0 ≤ n ∧ n < S.nb
    · have hl : ¬ bs.length = 512 := fun hl => hok ⟨hn.1, hn.2, hl⟩
      have kd : decide (0 ≤ n ∧ n < S.nb) = true := by simp; omega
      have hli : ((bs.length : Int) == 512) = false := by simp; omega
      clear h e1 e2 hb hv
      go_enter Tryz.func55, Tryz.ntmps55
      go_wp2_with fail
      refine (has_any F p S n w HH.out).mono ?_
      rintro e w1 ⟨rfl, rfl⟩
      rw [kd]
      clear kd hn hok
      go_wp2
      go_ret
      exact ⟨rfl, To.refl HH.out⟩
    · have kd : decide (0 ≤ n ∧ n < S.nb) = false := by simpa using hn
      clear h e1 e2 hb hv
      go_enter Tryz.func55, Tryz.ntmps55
      go_wp2_with fail
      refine (has_any F p S n w HH.out).mono ?_
      rintro e w1 ⟨rfl, rfl⟩
      rw [kd]
      clear kd hn hok
      go_wp2
      go_ret
      exact ⟨rfl, To.refl HH.out⟩
end Go.Proofs.YtnnaemlipahamaaGreat

namespace Go.Proofs.YtnnaemlipahamaaGreat
open Go.RowKit Go.Maps

/-- From w to w' nothing has changed; u is new memory that holds the bytes xs. -/
structure Fresh (w w' : World) (u : Value) (xs : List Int) : Prop where
  own : w'.ownsRow w.heap.size 5 1 u xs.length (bcells xs)
  chg : Chg (fun _ => False) w w'
theorem Fresh.bs {w w' : World} {u : Value} {xs : List Int} (h : Fresh w w' u xs) : Bs w' u xs := Bs.ofOwns h.own
theorem Fresh.new {w w' : World} {u : Value} {xs : List Int} (h : Fresh w w' u xs) : ∀ g, u.ownBlock = some g → w.heap.size ≤ g := fun g hg => (h.own.lt g hg).1

set_option maxHeartbeats 800000 in
theorem read_any (F : Nat → Prop) (p : Nat) (S : St) (n : Int) (w : World) (h : Dk w F p S) (hx : S.writes < 1099511627776) :
    Calls Tryz.prog 105 #[.pointer (some ⟨p, 0, none⟩), .int .i64 n] w fun e w' => ∃ u, e = .returned (.tuple #[u, .int .i64 (S.readE n)]) ∧ Fresh w w' u (S.readV n) := by
  have HH : Hid (Dk w F p S) := h
  obtain ⟨s, sc, m, pv, V, h⟩ := h
  have c3 := h.c3
  by_cases hoff : S.off = true
  · have e1 : S.readE n = 6 := by simp [St.readE, hoff]
    have e2 : S.readV n = [] := by simp [St.readV, e1]
    rw [e1, e2]
    rw [hoff] at c3
    clear h e1 e2
    go_enter Tryz.func105, Tryz.ntmps105
    go_wp2
    go_ret2
    exact ⟨_, rfl, World.ownsRow_nil _ _ _ _, Chg.refl _ _⟩
  have hof : S.off = false := by simpa using hoff
  rw [hof] at c3
  by_cases hn : 0 ≤ n ∧ n < S.nb
  · have e1 : S.readE n = 0 := by simp [St.readE, hoff, hn]
    have e2 : S.readV n = S.last n.toNat := by simp [St.readV, e1]
    rw [e1, e2]
    have kd : decide (0 ≤ n ∧ n < S.nb) = true := by simpa using hn
    obtain ⟨k, rfl⟩ := Int.eq_ofNat_of_zero_le hn.1
    have hk : k < S.nb := by omega
    have c1 := h.c1
    obtain ⟨la, lc, lk⟩ := h.lookLen hk
    have hll : (S.last k).length ≤ 1099511627776 := by rw [St.last_len h.wf hk]; omega
    have HD : Hid (DkAt w F p S s sc m pv V) := h
    rw [Int.toNat_natCast]
    clear h e1 e2
    go_enter Tryz.func105, Tryz.ntmps105
    go_wp2_with fail
    refine (has_any F p S k w HH.out).mono ?_
    rintro e w1 ⟨rfl, rfl⟩
    rw [kd]
    clear kd
    go_wp2_with fail
    refine (pick_any F p S k (S.wait k).length w1 HD.out hk (Nat.le_refl _) hx).mono ?_
    rintro e w2 ⟨a, c, rfl, rfl, hb, _⟩
    have HB : Hid (Bs w2 (.slice (some a) 512 c) (S.last k)) := hb
    clear hb lk c1 c3
    go_wp2_with fail
    refine (cloneB_any _ (S.last k) w2 HB.out hll).mono ?_
    rintro e w3 ⟨u, rfl, ho, hc⟩
    go_wp2
    go_ret2
    exact ⟨u, rfl, ho, hc⟩
  · have e1 : S.readE n = 1 := by simp [St.readE, hoff, hn]
    have e2 : S.readV n = [] := by simp [St.readV, e1]
    rw [e1, e2]
    have kd : decide (0 ≤ n ∧ n < S.nb) = false := by simpa using hn
    clear h e1 e2
    go_enter Tryz.func105, Tryz.ntmps105
    go_wp2_with fail
    refine (has_any F p S n w HH.out).mono ?_
    rintro e w1 ⟨rfl, rfl⟩
    rw [kd]
    clear kd hn
    go_wp2
    go_ret2
    exact ⟨_, rfl, World.ownsRow_nil _ _ _ _, Chg.refl _ _⟩

theorem made_bytes (n : Nat) : (madeCells (Value.int .u8 0).cells (n * 1)).toList = bcells (zeros n) := by
  rw [Nat.mul_one]
  apply List.ext_getElem
  · simp [size_madeCells, bcells, zeros]
  · intro i h1 h2
    simp [madeCells, Value.cells, bcells, zeros, Nat.mod_one]

theorem flat_zeros : ∀ nb, St.flat nb (fun _ => zeros 512) = zeros (512 * nb)
  | 0 => rfl
  | nb + 1 => by
    rw [St.flat_succ, flat_zeros nb]
    unfold zeros
    rw [List.replicate_append_replicate]
    congr 1

theorem new_facts {w w1 : World} {nb : Nat} (h0 : 0 < nb) (h1 : nb ≤ 16384) (own1 : w1.ownsRow w.heap.size 5 1 (.slice (some ⟨w.heap.size, 0, none⟩) (512 * nb) (512 * nb)) (512 * nb) (bcells (zeros (512 * nb)))) (grow1 : w.grownBy w1 none) :
    Dk ((w1.alloc (.map #[] 0)).alloc (.cells #[.slice (some ⟨w.heap.size, 0, none⟩) (512 * nb) (512 * nb), .map (some w1.heap.size), .int .i64 0, .bool false, .int .i64 0, .slice none 0 0] 116))
      (fun b => w.heap.size ≤ b ∧ b < w1.heap.size + 2) (w1.heap.size + 1) (St.new nb) ∧
    Chg (fun _ => False) w ((w1.alloc (.map #[] 0)).alloc (.cells #[.slice (some ⟨w.heap.size, 0, none⟩) (512 * nb) (512 * nb), .map (some w1.heap.size), .int .i64 0, .bool false, .int .i64 0, .slice none 0 0] 116)) := by
  have hs := grow1.size
  have hl := (own1.lt w.heap.size rfl).2
  refine ⟨⟨w.heap.size, 512 * nb, w1.heap.size, .slice none 0 0, fun _ => .slice none 0 0, ⟨St.new_wf h0 h1, ?_, ?_, ?_, fun n hn => absurd rfl hn, fun n k g hn => absurd rfl hn, World.ownsRow_nil _ _ _ _, ⟨by omega, by omega⟩, ⟨by omega, by omega⟩, ⟨by omega, by omega⟩, fun n g hn => absurd rfl hn, fun g hg => (by cases hg), fun b hb => (by simp; exact hb.2)⟩⟩, ?_⟩
  · have := heap_alloc_new (w1.alloc (.map #[] 0)) (.cells #[.slice (some ⟨w.heap.size, 0, none⟩) (512 * nb) (512 * nb), .map (some w1.heap.size), .int .i64 0, .bool false, .int .i64 0, .slice none 0 0] 116)
    rw [World.size_alloc] at this
    exact this
  · have e : St.flat (St.new nb).nb (St.new nb).syn = zeros (512 * nb) := flat_zeros nb
    rw [e]
    exact own_mono ((own1.alloc _).alloc _) (Nat.zero_le _)
  · have hm := (MapIs.new w1 nb).kept (w' := (w1.alloc (.map #[] 0)).alloc (.cells #[.slice (some ⟨w.heap.size, 0, none⟩) (512 * nb) (512 * nb), .map (some w1.heap.size), .int .i64 0, .bool false, .int .i64 0, .slice none 0 0] 116)) (Below.heap_alloc _ _ _ (by simp))
    have e : mf (St.new nb) (fun _ => .slice none 0 0) = fun _ => none := by funext n; exact mf_none rfl
    rw [e]
    exact hm
  · exact (Chg.of_none grow1).trans ((Chg.alloc (fun _ => False) w1 _).trans (Chg.alloc (fun _ => False) _ _) (fun _ _ h => h)) (fun _ _ h => h)

set_option maxHeartbeats 800000 in
set_option maxRecDepth 100000 in
theorem new_ok (nb : Nat) (w : World) (h0 : 0 < nb) (h1 : nb ≤ 16384) :
    Calls Tryz.prog 21 #[.int .i64 (nb : Int)] w fun e w' => ∃ F p, e = .returned (.tuple #[.pointer (some ⟨p, 0, none⟩), .int .i64 0]) ∧ Dk w' F p (St.new nb) ∧ Chg (fun _ => False) w w' ∧ ∀ b, F b → w.heap.size ≤ b := by
  obtain ⟨i0, hi, hz0, hz1, hz2⟩ := info_parts info5
  have hmm := @run_makeMap Tryz.prog
  have k1 : ¬ ((nb : Int) < 1) := by omega
  have k2 : ¬ ((16384 : Int) < (nb : Int)) := by omega
  have HN : Hid (0 < nb ∧ nb ≤ 16384) := ⟨h0, h1⟩
  go_enter Tryz.func21, Tryz.ntmps21
  go_wp2_with (refine wpList_make_full _ rfl (.tmp 11) (.tmp 11) 33 rfl w.heap.size 5 i0 (.int .u8 0) 1 Tryz.underlying33 hi hz0 hz1 .i64 .i64 _ _ (512 * nb) rfl rfl (by omega) (by omega) (by rw [hz2]; omega) (by unfold maxLen; omega) (Nat.le_refl _) ?_; intro w1 own1 grow1)
  rw [made_bytes] at own1
  have HF := new_facts HN.out.1 HN.out.2 own1 grow1
  have HQ : Hid (Dk ((w1.alloc (.map #[] 0)).alloc (.cells #[.slice (some ⟨w.heap.size, 0, none⟩) (512 * nb) (512 * nb), .map (some w1.heap.size), .int .i64 0, .bool false, .int .i64 0, .slice none 0 0] 116))
      (fun b => w.heap.size ≤ b ∧ b < w1.heap.size + 2) (w1.heap.size + 1) (St.new nb) ∧
    Chg (fun _ => False) w ((w1.alloc (.map #[] 0)).alloc (.cells #[.slice (some ⟨w.heap.size, 0, none⟩) (512 * nb) (512 * nb), .map (some w1.heap.size), .int .i64 0, .bool false, .int .i64 0, .slice none 0 0] 116))) := HF
  clear own1 grow1 HF
  go_wp2
  go_ret2
  exact ⟨_, _, rfl, HQ.out.1, HQ.out.2, fun b hb => hb.1⟩

set_option maxHeartbeats 800000 in
theorem new_bad (n : Int) (w : World) (h : n < 1 ∨ 16384 < n) : Calls Tryz.prog 21 #[.int .i64 n] w fun e w' => e = .returned (.tuple #[.pointer none, .int .i64 1]) ∧ w' = w := by
  by_cases h1 : n < 1
  · have k1 : decide (n < 1) = true := by simpa using h1
    go_enter Tryz.func21, Tryz.ntmps21
    go_wp2
    go_ret2
    exact ⟨rfl, rfl⟩
  · have k1 : decide (n < 1) = false := by simpa using h1
    have k2 : decide (16384 < n) = true := by simp; omega
    clear h h1
    go_enter Tryz.func21, Tryz.ntmps21
    go_wp2
    go_ret2
    exact ⟨rfl, rfl⟩

/-- 512 bytes of b's pattern; the first i of them, the rest 0. -/
def fullTo (b : List Int) (i : Nat) : List Int := (List.range 512).map fun j => if j < i then b.getD (j % b.length) 0 else 0
def full (b : List Int) : List Int := (List.range 512).map fun j => b.getD (j % b.length) 0
theorem full_len (b : List Int) : (full b).length = 512 := by unfold full; rw [List.length_map, List.length_range]
theorem fullTo_len (b : List Int) (i : Nat) : (fullTo b i).length = 512 := by unfold fullTo; rw [List.length_map, List.length_range]
theorem fullTo_end (b : List Int) : fullTo b 512 = full b := by
  unfold fullTo full
  refine List.map_congr_left (fun j hj => ?_)
  rw [if_pos (List.mem_range.1 hj)]
theorem fullTo_none (i : Nat) : fullTo [] i = full [] := by
  unfold fullTo full
  refine List.map_congr_left (fun j hj => ?_)
  simp
theorem fullTo_get (b : List Int) (i j : Nat) : (fullTo b i)[j]? = if j < 512 then some (if j < i then b.getD (j % b.length) 0 else 0) else none := by
  unfold fullTo
  rw [List.getElem?_map]
  by_cases h : j < 512
  · rw [List.getElem?_range h, if_pos h]; rfl
  · rw [List.getElem?_eq_none (by rw [List.length_range]; omega), if_neg h]; rfl
theorem fullTo_zero (b : List Int) : fullTo b 0 = zeros 512 := by
  apply List.ext_getElem?
  intro j
  rw [fullTo_get]
  unfold zeros
  rw [List.getElem?_replicate, if_neg (Nat.not_lt_zero j)]
theorem fullTo_succ {b : List Int} {i : Nat} (hi : i < 512) : (fullTo b i).set i (b.getD (i % b.length) 0) = fullTo b (i + 1) := by
  apply List.ext_getElem?
  intro j
  rw [List.getElem?_set, fullTo_get, fullTo_get, fullTo_len]
  by_cases e : i = j
  · subst e
    rw [if_pos rfl, if_pos hi, if_pos hi, if_pos (by omega)]
  · rw [if_neg e]
    by_cases hj : j < i
    · rw [if_pos hj, if_pos (show j < i + 1 by omega)]
    · rw [if_neg hj, if_neg (show ¬ j < i + 1 by omega)]

theorem Bs.at {w : World} {a : Option Addr} {c n k : Nat} {xs : List Int} (h : Bs w (.slice a n c) xs) (hk : k < xs.length) : ∃ b off, a = some ⟨b, off, none⟩ ∧ ∀ j, j < xs.length → w.cell? ⟨b, off + j, none⟩ = some (.int .u8 (xs.getD j 0)) := by
  rcases h with ⟨e, rfl⟩ | ⟨x, c', e, hl, hm, hcell⟩
  · simp at hk
  · cases e
    obtain ⟨b, off, spot⟩ := x
    have h0 := hcell 0 (by omega)
    have hspot : spot = none := by simpa [Addr.add] using World.cell?_spot h0
    subst hspot
    refine ⟨b, off, rfl, fun j hj => ?_⟩
    have := hcell j hj
    unfold Addr.add at this
    split at this
    · rename_i e; subst e; simpa using this
    · exact this

theorem add_zero_off (g i : Nat) : (⟨g, 0, none⟩ : Addr).add i = ⟨g, i, none⟩ := by unfold Addr.add; split <;> simp_all
theorem bcells_at {xs : List Int} {j : Nat} (h : j < xs.length) : (bcells xs)[j]? = some (.int .u8 (xs.getD j 0)) := by simp [bcells, List.getD, h]

end Go.Proofs.YtnnaemlipahamaaGreat
