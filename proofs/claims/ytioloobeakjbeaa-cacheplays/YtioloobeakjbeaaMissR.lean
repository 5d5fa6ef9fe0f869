/-
  The contract of miss of package cache, handed the disk's Read.
-/
import Derived.Test.YtioloobeakjbeaaClean
namespace Go.Proofs.Ytioloobeakjbeaa
open Go.RowKit Go.Maps

set_option maxHeartbeats 3200000 in
set_option maxRecDepth 100000 in
theorem missR_any (F G : Nat → Prop) (c p : Nat) (S : St) (C : Ca) (m r : Nat) (ls : List Nat) (nd : Nat → Node) (n : Nat) (w : World) (h : Ck w F G c p S C m r ls nd) (hn : n < S.nb) (hx : S.writes < 1099511627776) (hev : C.evicted < 1099511627776) :
    Calls Try.prog 78 #[.pointer (some ⟨c, 0, none⟩), .int .i64 (n : Int), .func (.func 28) #[.pointer (some ⟨p, 0, none⟩)] #[]] w (MissP F G c p m r ls C n (S.readV n) (miss S C n (S.readE n) (S.readV n)) w) := by
  have hmf : ∀ (fn : Fn) (first cap : Array Value) (w : World), (Instr.makeFunc fn first cap).run Try.prog w = .ok (.func fn first cap) w := fun _ _ _ _ => rfl
  have HWF : Hid S.Wf := h.dk.wf
  obtain ⟨fe, hfe⟩ : ∃ fe, ((S.readE n) : Int) = fe := ⟨_, rfl⟩
  obtain ⟨fb, hfb⟩ : ∃ fb, ((S.readV n) : List Int) = fb := ⟨_, rfl⟩
  have HL : Hid (fe = 0 → fb.length = 512) := by rw [← hfe, ← hfb]; exact fun e => readV_len HWF.out e (by omega) (by omega)
  have FL : Hid (∀ w1, Dk w1 F p S → Calls Try.prog 28 #[.pointer (some ⟨p, 0, none⟩), .int .i64 (n : Int)] w1 fun e w2 => ∃ u, e = .returned (.tuple #[u, .int .i64 fe]) ∧ Fresh w1 w2 u fb) := by
    intro w1 d1
    rw [← hfe, ← hfb]
    exact read_any F p S n w1 d1 hx
  rw [hfe, hfb]
  clear hfe hfb
  have c1 := h.ca.c1
  have c2 := h.ca.c2
  have hl : ∀ q ty, (Builtin.len_ #[74] ty #[.map (some m)]).run Try.prog (w.drewN q) = .ok (.int .i64 (C.L.length : Int)) (w.drewN q) := fun q ty => (h.ca.kept (Chg.drewN (fun _ => False) w q) (fun _ _ h => h)).len ty
  have HK : Hid (Ck w F G c p S C m r ls nd) := h
  have HFd : Hid (∀ b, F b → b < w.heap.size) := h.dk.lt
  have HGd : Hid (∀ b, G b → b < w.heap.size) := h.ca.lt
  clear h
  by_cases hfull : C.L.length = C.size
  · rw [← hfull] at c1
    have HU : Hid (C.L.length = C.size) := hfull
    clear hfull
    go_enter Try.func78, Try.ntmps78
    go_wp2_with fail
    go_quiet (fail)
    have KW : Hid (Ck (w.drewN nq) F G c p S C m r ls nd) := ⟨HK.out.dk.kept (Chg.drewN (fun _ => False) w nq) (fun _ _ h => h), HK.out.ca.kept (Chg.drewN (fun _ => False) w nq) (fun _ _ h => h), HK.out.no⟩
    have GW : Hid (Gr F G w (w.drewN nq) F G) := Gr.new (Chg.drewN _ _ _)
    have SW : Hid ((w.drewN nq).heap.size = w.heap.size) := rfl
    generalize w.drewN nq = W at *
    clear c1 c2 hl
    go_wp2_with fail
    refine (eldest_any G c p S.nb C m r ls nd W KW.out.ca).mono ?_
    rintro e w1 ⟨hw1, hcase⟩
    subst hw1
    rcases hcase with ⟨xs, a, ys, hs, hxs, hak, rfl⟩ | ⟨hall, rfl⟩
    · have HG : Hid (C.goes = some (nd a).it) := goes_split KW.out.ca hs hxs hak
      have HS : Hid (ls = xs ++ a :: ys) := hs
      clear hs hxs hak
      have hq := eq75_nil ⟨a, 0, none⟩
      have hq2 := neq75_nil ⟨a, 0, none⟩
      go_wp2_with fail
      refine (FL.out w1 KW.out.dk).mono ?_
      rintro e w2 ⟨u, rfl, fr⟩
      obtain ⟨ua, uc, hu, _⟩ := fr.bs.form
      subst hu
      have FR : Hid (Fresh w1 w2 (.slice ua fb.length uc) fb) := fr
      have K2 : Hid (Ck w2 F G c p S C m r ls nd) := ⟨KW.out.dk.kept fr.chg (fun _ _ h => h), KW.out.ca.kept fr.chg (fun _ _ h => h), KW.out.no⟩
      have G2 : Hid (Gr F G w w2 F G) := GW.out.trans (Gr.new fr.chg)
      clear fr
      by_cases he : fe = 0
      · have H5 : Hid (fb.length = 512) := HL.out he
        subst he
        clear HL
        go_wp2_with fail
        refine (clean_any F G c p S C m r ls nd a w2 K2.out (by rw [HS.out]; simp) hx).mono ?_
        rintro e w3 ⟨rfl, F3, d, k3, g3⟩
        have K3 : Hid (Ck w3 F3 G c p (cleanS S (nd a).it) (cleanC S C (nd a).it) m r ls (setD nd a d)) := k3
        have G3 : Hid (Gr F G w2 w3 F3 G) := g3
        clear k3 g3
        obtain ⟨ce, hce⟩ : ∃ ce, cleanE S (nd a).it = ce := ⟨_, rfl⟩
        rw [hce]
        by_cases hc0 : ce = 0
        · have HCE : Hid (cleanE S (nd a).it = 0) := by rw [hce]; exact hc0
          subst hc0
          clear hce
          go_wp2_with fail
          have hCC : cleanC S C (nd a).it = C.mod (nd a).n fun j => { j with dirty := false } := by unfold cleanC; rw [if_pos HCE.out]; rfl
          have k3 := K3.out.ca
          rw [hCC, HS.out] at k3
          have HE3 : (C.mod (nd a).n fun j => { j with dirty := false }).evicted < 1099511627776 := hev
          refine (evict_any G c p _ _ m r xs ys a (setD nd a d) w3 k3 HE3).mono ?_
          rintro e w4 ⟨rfl, nd4, k4, g4⟩
          have hcn : (setD nd a d a).n = (nd a).n := (setD_same nd a d a).1
          have hout : ((C.mod (nd a).n fun j => { j with dirty := false }).out (setD nd a d a).n) = C.out (nd a).n := by
            rw [hcn]
            unfold Ca.out Ca.mod
            simp only [Ca.mk.injEq, and_true, true_and]
            rw [List.filter_map]
            have e1 : C.L.filter ((fun i : It => i.n != (nd a).n) ∘ fun i => if i.n = (nd a).n then { i with dirty := false } else i) = C.L.filter fun i => i.n != (nd a).n := by
              refine List.filter_congr (fun i _ => ?_)
              simp only [Function.comp]
              split <;> rfl
            rw [e1]
            conv => rhs; rw [← List.map_id (C.L.filter fun i => i.n != (nd a).n)]
            refine List.map_congr_left (fun i hi => ?_)
            rw [if_neg (by have := (List.mem_filter.1 hi).2; simpa using this)]; rfl
          rw [hout] at k4
          have hmid : midC C = C.out (nd a).n := by unfold midC; rw [if_pos HU.out, HG.out]; rfl
          rw [← hmid] at k4
          have g24 : Gr F G w2 w4 F3 G := G3.out.trans (Gr.chgG g4)
          have K4 : Ck w4 F3 G c p (cleanS S (nd a).it) (midC C) m r (xs ++ ys) nd4 := ⟨K3.out.dk.kept g4 (fun b hf hg => K3.out.no b hf hg), k4, K3.out.no⟩
          have NN := new_node (n := n) FR.out H5.out (fun b hb => by rw [SW.out]; exact HFd.out b hb) g24 (fun b hb => by rw [SW.out]; exact HGd.out b hb) K4
          have hM : miss S C n 0 fb = ⟨0, cleanS S (nd a).it, (C.out (nd a).n).add n fb⟩ := by
            unfold miss
            rw [if_pos HU.out, HG.out]
            simp only []
            rw [if_neg (by decide), if_neg (by rw [HCE.out]; decide)]
            rfl
          have HM : Hid _ := hM
          have HNN : Hid _ := NN
          clear hM
          have G24 : Hid (Gr F G w2 w4 F3 G) := g24
          clear NN K4 g24 k4 g4 hmid hout hcn k3 hCC HE3
          go_wp2
          go_ret2
          obtain ⟨n1, n2, n3, n4, n5, n6, n7⟩ := HNN.out
          rw [HM.out]
          refine ⟨F3, (G2.out.trans G24.out).trans (Gr.new (Chg.alloc _ _ _)), .inr ⟨rfl, _, _, _, _, rfl, n1, n2, n3, ?_, ?_, n6, n7⟩⟩
          · have := SW.out; omega
          · intro g hg; have := n5 g hg; have := SW.out; omega
        · have hce0 : (ce == 0) = false := by simpa using hc0
          have hcne : ¬ ce = 0 := hc0
          have HCE : Hid (cleanE S (nd a).it = ce) := hce
          clear hce
          go_wp2
          go_ret2
          have hCC : cleanC S C (nd a).it = C := by unfold cleanC; rw [if_neg (by rw [HCE.out]; exact hc0)]
          have k3 := K3.out
          rw [hCC] at k3
          have HM : miss S C n 0 fb = ⟨ce, cleanS S (nd a).it, C⟩ := by
            unfold miss
            rw [if_pos HU.out, HG.out]
            simp only []
            rw [if_neg (by decide), HCE.out, if_pos hc0]
          rw [HM]
          exact ⟨F3, G2.out.trans G3.out, .inl ⟨hc0, rfl, _, k3⟩⟩
      · have he0 : (fe == 0) = false := by simpa using he
        go_wp2
        go_ret2
        have HM : miss S C n fe fb = ⟨fe, S, C⟩ := by
          unfold miss
          rw [if_pos HU.out, HG.out]
          simp only []
          rw [if_pos he]
        rw [HM]
        exact ⟨F, G2.out, .inl ⟨he, rfl, _, K2.out⟩⟩
    · have HG : Hid (C.goes = none) := goes_none KW.out.ca hall
      clear hall
      have hq := eq75_none
      go_wp2
      go_ret2
      have HM : miss S C n fe fb = ⟨13, S, C⟩ := by
        unfold miss
        rw [if_pos HU.out, HG.out]
      rw [HM]
      exact ⟨F, GW.out, .inl ⟨show (13 : Int) ≠ 0 by decide, rfl, _, KW.out⟩⟩
  · have hf0 : ((C.L.length : Int) == (C.size : Int)) = false := by simp; omega
    have hq2 := neq75_none
    go_enter Try.func78, Try.ntmps78
    go_wp2_with fail
    go_quiet (fail)
    have KW : Hid (Ck (w.drewN nq) F G c p S C m r ls nd) := ⟨HK.out.dk.kept (Chg.drewN (fun _ => False) w nq) (fun _ _ h => h), HK.out.ca.kept (Chg.drewN (fun _ => False) w nq) (fun _ _ h => h), HK.out.no⟩
    have GW : Hid (Gr F G w (w.drewN nq) F G) := Gr.new (Chg.drewN _ _ _)
    have SW : Hid ((w.drewN nq).heap.size = w.heap.size) := rfl
    generalize w.drewN nq = W at *
    clear c1 c2 hl
    go_wp2_with fail
    refine (FL.out W KW.out.dk).mono ?_
    rintro e w2 ⟨u, rfl, fr⟩
    obtain ⟨ua, uc, hu, _⟩ := fr.bs.form
    subst hu
    have FR : Hid (Fresh W w2 (.slice ua fb.length uc) fb) := fr
    have K2 : Hid (Ck w2 F G c p S C m r ls nd) := ⟨KW.out.dk.kept fr.chg (fun _ _ h => h), KW.out.ca.kept fr.chg (fun _ _ h => h), KW.out.no⟩
    have G2 : Hid (Gr F G w w2 F G) := GW.out.trans (Gr.new fr.chg)
    clear fr
    by_cases he : fe = 0
    · have H5 : Hid (fb.length = 512) := HL.out he
      subst he
      clear HL
      have hmid : midC C = C := by unfold midC; rw [if_neg hfull]
      have K2' : Ck w2 F G c p S (midC C) m r ls nd := by rw [hmid]; exact K2.out
      have NN := new_node (n := n) FR.out H5.out (fun b hb => by rw [SW.out]; exact HFd.out b hb) (Gr.refl F G w2) (fun b hb => by rw [SW.out]; exact HGd.out b hb) K2'
      have HNN : Hid _ := NN
      have hM : miss S C n 0 fb = ⟨0, S, C.add n fb⟩ := by
        unfold miss
        rw [if_neg hfull, if_neg (by decide)]
      have HM : Hid _ := hM
      clear hM
      clear NN K2' hmid
      go_wp2
      go_ret2
      obtain ⟨n1, n2, n3, n4, n5, n6, n7⟩ := HNN.out
      rw [HM.out]
      refine ⟨F, G2.out.trans (Gr.new (Chg.alloc _ _ _)), .inr ⟨rfl, _, _, _, _, rfl, n1, n2, n3, ?_, ?_, n6, n7⟩⟩
      · have := SW.out; omega
      · intro g hg; have := n5 g hg; have := SW.out; omega
    · have he0 : (fe == 0) = false := by simpa using he
      go_wp2
      go_ret2
      have HM : miss S C n fe fb = ⟨fe, S, C⟩ := by
        unfold miss
        rw [if_neg hfull, if_pos he]
      rw [HM]
      exact ⟨F, G2.out, .inl ⟨he, rfl, _, K2.out⟩⟩
end Go.Proofs.Ytioloobeakjbeaa
