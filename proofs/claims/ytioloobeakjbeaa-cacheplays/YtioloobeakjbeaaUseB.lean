/-
  The contract of use of package cache, handed blank.
-/
import Derived.Test.YtioloobeakjbeaaClean
import Derived.Test.YtioloobeakjbeaaAdd
namespace Go.Proofs.Ytioloobeakjbeaa
open Go.RowKit Go.Maps

/-- What use leaves. -/
def UseP (F G : Nat → Prop) (c p : Nat) (R : Res) (w : World) (e : Ending) (w' : World) : Prop :=
  ∃ F' G' m r, Gr F G w w' F' G' ∧
    ((R.e ≠ 0 ∧ e = .returned (.tuple #[.pointer none, .int .i64 R.e]) ∧ ∃ ls nd, Ck w' F' G' c p R.S R.C m r ls nd) ∨
     (R.e = 0 ∧ ∃ ys a nd, e = .returned (.tuple #[.pointer (some ⟨a, 0, none⟩), .int .i64 0]) ∧ Ck w' F' G' c p R.S R.C m r (ys ++ [a]) nd))
theorem midC_misses (C : Ca) : (midC C).misses = C.misses := by
  unfold midC
  split
  · split <;> rfl
  · rfl
theorem midC_sub (C : Ca) : ∀ i ∈ (midC C).L, i ∈ C.L := by
  unfold midC
  split
  · split
    · exact fun i h => h
    · exact fun i h => (List.mem_filter.1 h).1
  · exact fun i h => h
theorem miss_mid {S : St} {C : Ca} {n : Nat} {fe : Int} {fb : List Int} (h : (miss S C n fe fb).e = 0) : (miss S C n fe fb).C = (midC C).add n fb := by
  by_cases hf : C.L.length = C.size
  · cases hg : C.goes with
    | none =>
      exfalso
      revert h
      unfold miss
      rw [if_pos hf, hg]
      simp
    | some g =>
      have hm : midC C = C.out g.n := by unfold midC; rw [if_pos hf, hg]
      revert h
      rw [hm]
      unfold miss
      rw [if_pos hf, hg]
      simp only []
      split
      · rename_i h1; exact fun h => absurd h h1
      · split
        · rename_i h1; exact fun h => absurd h h1
        · exact fun _ => rfl
  · have hm : midC C = C := by unfold midC; rw [if_neg hf]
    revert h
    rw [hm]
    unfold miss
    rw [if_neg hf]
    split
    · rename_i h1; exact fun h => absurd h h1
    · exact fun _ => rfl

set_option maxHeartbeats 3200000 in
set_option maxRecDepth 100000 in
theorem useB_any (F G : Nat → Prop) (c p : Nat) (S : St) (C : Ca) (m r : Nat) (ls : List Nat) (nd : Nat → Node) (n : Int) (w : World) (h : Ck w F G c p S C m r ls nd) (hx : S.writes < 1099511627776) (hu : C.hits + C.misses < 1099511627776) (hev : C.evicted < 1099511627776) :
    Calls Try.prog 53 #[.pointer (some ⟨c, 0, none⟩), .int .i64 n, .func (.func 54) #[] #[]] w (UseP F G c p (use S C n 0 (zeros 512)) w) := by
  have c0 := h.ca.c0
  have hnb := h.ca.nbt
  by_cases hn0 : n < 0
  · have k0 : decide (n < 0) = true := by simpa using hn0
    have hU : Hid (use S C n 0 (zeros 512) = ⟨1, S, C⟩) := (show use S C n 0 (zeros 512) = ⟨1, S, C⟩ by unfold use; rw [if_pos (by omega)])
    have HK : Hid (Ck w F G c p S C m r ls nd) := h
    clear h hn0
    go_enter Try.func53, Try.ntmps53
    go_wp2
    go_ret2
    rw [hU.out]
    exact ⟨F, G, m, r, Gr.refl _ _ _, .inl ⟨show (1 : Int) ≠ 0 by decide, rfl, _, _, HK.out⟩⟩
  have k0 : decide (n < 0) = false := by simpa using hn0
  obtain ⟨k, rfl⟩ := Int.eq_ofNat_of_zero_le (show 0 ≤ n by omega)
  by_cases hk : k < S.nb
  case neg =>
    have k1 : decide ((S.nb : Int) ≤ (k : Int)) = true := by simp; omega
    have hU : Hid (use S C k 0 (zeros 512) = ⟨1, S, C⟩) := (show use S C k 0 (zeros 512) = ⟨1, S, C⟩ by unfold use; rw [if_pos (by omega)])
    have HK : Hid (Ck w F G c p S C m r ls nd) := h
    clear h hn0 k0
    go_enter Try.func53, Try.ntmps53
    go_wp2_with fail
    refine (blocks_any F p S _ HK.out.dk).mono ?_
    rintro e w1 ⟨rfl, rfl⟩
    go_wp2
    go_ret2
    rw [hU.out]
    exact ⟨F, G, m, r, Gr.refl _ _ _, .inl ⟨show (1 : Int) ≠ 0 by decide, rfl, _, _, HK.out⟩⟩
  have k1 : decide ((S.nb : Int) ≤ (k : Int)) = false := by simp; omega
  have c2 := h.ca.c2
  have hin : ¬ ¬ (0 ≤ (k : Int) ∧ (k : Int) < S.nb) := by omega
  cases hh : C.has k with
  | true =>
    obtain ⟨i, hi, hik⟩ := Ca.has_iff.1 hh
    rw [h.ca.items] at hi
    obtain ⟨a, hal, hai⟩ := List.mem_map.1 hi
    have hak : (nd a).n = k := by rw [← hik, ← hai]; rfl
    have lk0 := h.ca.map.look h.ca.nbt hal (h.ca.nlt hal)
    rw [hak] at lk0
    have lk : (Instr.lookup 74 (.map (some m)) (.int .i64 (k : Int)) false).run Try.prog w = .ok (.pointer (some ⟨a, 0, none⟩)) w := lk0
    clear lk0
    obtain ⟨xs, ys, hs⟩ := List.append_of_mem hal
    subst hs
    have c4 := h.ca.c4
    have f4 := h.ca.fr 4
    have hU : Hid (use S C k 0 (zeros 512) = ⟨0, S, C.hit k⟩) := (show use S C k 0 (zeros 512) = ⟨0, S, C.hit k⟩ by unfold use; rw [if_neg hin, Int.toNat_natCast, if_pos hh])
    have HR := hit_ready h.ca
    rw [hak] at HR
    have HRR : Hid _ := HR
    have HK : Hid (Ck w F G c p S C m r (xs ++ a :: ys) nd) := h
    have hq := neq75_nil ⟨a, 0, none⟩
    have hh4 : C.hits < 1099511627776 := by omega
    clear h hi hai hik hak hal HR hh hn0 hin hu hev
    go_enter Try.func53, Try.ntmps53
    go_wp2_with fail
    refine (blocks_any F p S _ HK.out.dk).mono ?_
    rintro e w1 ⟨rfl, rfl⟩
    go_wp2_with fail
    refine (show Calls _ _ _ _ _ from HRR.out).mono ?_
    rintro e w2 ⟨rfl, c3, H2⟩
    clear HRR c0 c2 c4 f4 lk
    go_wp2_with fail
    refine (show Calls _ _ _ _ _ from H2.out).mono ?_
    rintro e w3 ⟨rfl, nd3, ca3, g3⟩
    have HC3 : Hid (CaAt w3 G c p S.nb (C.hit k) m r (xs ++ ys ++ [a]) nd3 ∧ Chg G w1 w3) := ⟨ca3, g3⟩
    clear ca3 g3 H2 c3
    go_wp2
    go_ret2
    rw [hU.out]
    exact ⟨F, G, m, r, Gr.chgG HC3.out.2, .inr ⟨rfl, _, _, _, rfl, HK.out.dk.kept HC3.out.2 (fun b hf hg => HK.out.no b hf hg), HC3.out.1, HK.out.no⟩⟩
  | false =>
    have hnoL : ∀ i ∈ C.L, i.n ≠ k := fun i hi e => by
      have := Ca.has_iff.2 ⟨i, hi, e⟩
      rw [hh] at this; cases this
    have hnoN : ∀ a ∈ ls, ((nd a).n : Int) ≠ (k : Int) := fun a ha e => hnoL _ (h.ca.mem ha) (show (nd a).n = k by omega)
    have lk := h.ca.map.lookNone (k : Int) (by omega) (by omega) hnoN
    clear hnoN
    have hU : Hid (use S C k 0 (zeros 512) = miss S C k 0 (zeros 512)) := (show use S C k 0 (zeros 512) = miss S C k 0 (zeros 512) by unfold use; rw [if_neg hin, Int.toNat_natCast, if_neg (by rw [hh]; decide)])
    have HG : Hid (_ ∧ _ ∧ _ ∧ _) := miss_good (n := k) (fe := 0) (fb := (zeros 512)) h.dk.wf h.ca.wf hk hh (fun _ => zeros_len 512)
    have HM := missB_any F G c p S C m r ls nd k w h hk hx hev
    have HMM : Hid _ := HM
    have HN : Hid (∀ i ∈ C.L, i.n ≠ k) := hnoL
    have HK : Hid (Ck w F G c p S C m r ls nd) := h
    have hq := neq75_none
    have hm5 : C.misses < 1099511627776 := by omega
    generalize hR : miss S C k 0 (zeros 512) = R at *
    clear h hnoL hh hin hn0 hu hev HM
    go_enter Try.func53, Try.ntmps53
    go_wp2_with fail
    refine (blocks_any F p S _ HK.out.dk).mono ?_
    rintro e w1 ⟨rfl, rfl⟩
    go_wp2_with fail
    refine (show Calls _ _ _ _ _ from HMM.out).mono ?_
    clear HMM c0 c2 lk
    rintro e w2 ⟨F1, g1, ⟨he, rfl, nd1, k1'⟩ | ⟨he, a, u, ls1, nd1, rfl, k1', hN, ho, hla, hlu, hFa, hFu⟩⟩
    · have HE : Hid (Ck w2 F1 G c p R.S C m r ls nd1 ∧ Gr F G w1 w2 F1 G) := ⟨k1', g1⟩
      have he0 : (R.e == 0) = false := by simpa using he
      clear k1' g1
      go_wp2
      go_ret2
      rw [hU.out]
      have hC : R.C = C := by rw [← hR]; exact miss_err (by rw [hR]; exact he)
      exact ⟨F1, G, m, r, HE.out.2, .inl ⟨he, rfl, _, _, by rw [hC]; exact HE.out.1⟩⟩
    · have hRC : R.C = (midC C).add k (zeros 512) := by rw [← hR]; exact miss_mid (by rw [hR]; exact he)
      have hGlt : ∀ b, G b → b < w1.heap.size := HK.out.ca.lt
      have haG : ¬ G a := fun e => by have := hGlt a e; omega
      have huG : ∀ g, u.ownBlock = some g → ¬ G g := fun g hg e => by have := hGlt g e; have := hlu g hg; omega
      have cc := k1'.ca
      have hnbR : R.S.nb = S.nb := HG.out.2.1
      rw [hnbR] at cc
      obtain ⟨w3, hst, c33, hen⟩ := add_ready cc hN ho (by have := HG.out.2.2.1; rw [hRC] at this; exact this) hk (fun b hb => HN.out _ (midC_sub C _ (cc.mem hb))) haG huG
      have c5 := k1'.ca.c5
      have f5 := k1'.ca.fr 5
      have c2 := k1'.ca.c2
      rw [midC_misses] at c5 hst
      have HEN : Hid _ := hen
      have H1 : Hid (Ck w2 F1 G c p R.S (midC C) m r ls1 nd1 ∧ Gr F G w1 w2 F1 G ∧ ¬ F1 a ∧ ∀ g, u.ownBlock = some g → ¬ F1 g) := ⟨k1', g1, hFa, hFu⟩
      have HL : Hid (w1.heap.size ≤ a ∧ ∀ g, u.ownBlock = some g → w1.heap.size ≤ g) := ⟨hla, hlu⟩
      have HRC : Hid (R.C = (midC C).add k (zeros 512) ∧ R.e = 0 ∧ R.S.nb = S.nb) := ⟨hRC, he, hnbR⟩
      clear k1' g1 hFa hFu hla hlu hN ho cc hen hRC he hGlt haG huG hnbR
      go_wp2_with fail
      refine (show Calls _ _ _ _ _ from HEN.out).mono ?_
      rintro e w4 ⟨rfl, ⟨nd4, ca4⟩, g4⟩
      have HC4 : Hid (CaAt w4 (fun b => G b ∨ b = a ∨ u.ownBlock = some b) c p S.nb ((midC C).add k (zeros 512)) m r (ls1 ++ [a]) nd4 ∧ Chg (fun b => G b ∨ b = a) w2 w4) := ⟨ca4, g4⟩
      clear ca4 g4 HEN hst c33 c5 f5 c2
      go_wp2
      go_ret2
      rw [hU.out]
      obtain ⟨k1', g1, hFa, hFu⟩ := H1.out
      obtain ⟨hla, hlu⟩ := HL.out
      refine ⟨F1, (fun b => G b ∨ b = a ∨ u.ownBlock = some b), m, r, ⟨g1.chg.trans HC4.out.2 (fun i hi e => ?_), g1.f, fun b hb => ?_⟩, .inr ⟨HRC.out.2.1, ls1, a, nd4, rfl, k1'.dk.kept HC4.out.2 (fun b hf e => ?_), ?_, fun b hf e => ?_⟩⟩
      · rcases e with e | e
        · exact .inr e
        · omega
      · rcases hb with e | e | e
        · exact .inl e
        · exact .inr (by omega)
        · exact .inr (hlu b e)
      · rcases e with e | e
        · exact k1'.no b hf e
        · exact hFa (e ▸ hf)
      · rw [HRC.out.2.2, HRC.out.1]; exact HC4.out.1
      · rcases e with e | e | e
        · exact k1'.no b hf e
        · exact hFa (e ▸ hf)
        · exact hFu b e hf
end Go.Proofs.Ytioloobeakjbeaa
