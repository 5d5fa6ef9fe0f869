/-
  The contract of use of package cache, handed the disk's Read.
-/
import Derived.Test.YtioloobeakjbeaaMissR
import Derived.Test.YtioloobeakjbeaaUseB
namespace Go.Proofs.Ytioloobeakjbeaa
open Go.RowKit Go.Maps

set_option maxHeartbeats 3200000 in
set_option maxRecDepth 100000 in
theorem useR_any (F G : Nat → Prop) (c p : Nat) (S : St) (C : Ca) (m r : Nat) (ls : List Nat) (nd : Nat → Node) (n : Int) (w : World) (h : Ck w F G c p S C m r ls nd) (hx : S.writes < 1099511627776) (hu : C.hits + C.misses < 1099511627776) (hev : C.evicted < 1099511627776) :
    Calls Try.prog 53 #[.pointer (some ⟨c, 0, none⟩), .int .i64 n, .func (.func 28) #[.pointer (some ⟨p, 0, none⟩)] #[]] w (UseP F G c p (use S C n (S.readE n) (S.readV n)) w) := by
  have c0 := h.ca.c0
  have hnb := h.ca.nbt
  by_cases hn0 : n < 0
  · have k0 : decide (n < 0) = true := by simpa using hn0
    have hU : Hid (use S C n (S.readE n) (S.readV n) = ⟨1, S, C⟩) := (show use S C n (S.readE n) (S.readV n) = ⟨1, S, C⟩ by unfold use; rw [if_pos (by omega)])
    have HK : Hid (Ck w F G c p S C m r ls nd) := h
    clear h hn0
    go_enter Try.func53, Try.ntmps53
    go_wp2
    go_ret2
    rw [hU.out]
    exact ⟨F, G, m, r, Gr.refl _ _ _, .inl ⟨show (1 : Int) ≠ 0 by decide, rfl, _, _, HK.out⟩⟩
  have k0 : decide (n < 0) = false := by simpa using hn0
  obtain ⟨k, rfl⟩ := Int.eq_ofNat_of_zero_le (show 0 ≤ n by omega)
  by_cases hk : k < S.nb
  case neg =>
    have k1 : decide ((S.nb : Int) ≤ (k : Int)) = true := by simp; omega
    have hU : Hid (use S C k (S.readE k) (S.readV k) = ⟨1, S, C⟩) := (show use S C k (S.readE k) (S.readV k) = ⟨1, S, C⟩ by unfold use; rw [if_pos (by omega)])
    have HK : Hid (Ck w F G c p S C m r ls nd) := h
    clear h hn0 k0
    go_enter Try.func53, Try.ntmps53
    go_wp2_with fail
    refine (blocks_any F p S _ HK.out.dk).mono ?_
    rintro e w1 ⟨rfl, rfl⟩
    go_wp2
    go_ret2
    rw [hU.out]
    exact ⟨F, G, m, r, Gr.refl _ _ _, .inl ⟨show (1 : Int) ≠ 0 by decide, rfl, _, _, HK.out⟩⟩
  have k1 : decide ((S.nb : Int) ≤ (k : Int)) = false := by simp; omega
  have c2 := h.ca.c2
  have hin : ¬ ¬ (0 ≤ (k : Int) ∧ (k : Int) < S.nb) := by omega
  cases hh : C.has k with
  | true =>
    obtain ⟨i, hi, hik⟩ := Ca.has_iff.1 hh
    rw [h.ca.items] at hi
    obtain ⟨a, hal, hai⟩ := List.mem_map.1 hi
    have hak : (nd a).n = k := by rw [← hik, ← hai]; rfl
    have lk0 := h.ca.map.look h.ca.nbt hal (h.ca.nlt hal)
    rw [hak] at lk0
    have lk : (Instr.lookup 74 (.map (some m)) (.int .i64 (k : Int)) false).run Try.prog w = .ok (.pointer (some ⟨a, 0, none⟩)) w := lk0
    clear lk0
    obtain ⟨xs, ys, hs⟩ := List.append_of_mem hal
    subst hs
    have c4 := h.ca.c4
    have f4 := h.ca.fr 4
    have hU : Hid (use S C k (S.readE k) (S.readV k) = ⟨0, S, C.hit k⟩) := (show use S C k (S.readE k) (S.readV k) = ⟨0, S, C.hit k⟩ by unfold use; rw [if_neg hin, Int.toNat_natCast, if_pos hh])
    have HR := hit_ready h.ca
    rw [hak] at HR
    have HRR : Hid _ := HR
    have HK : Hid (Ck w F G c p S C m r (xs ++ a :: ys) nd) := h
    have hq := neq75_nil ⟨a, 0, none⟩
    have hh4 : C.hits < 1099511627776 := by omega
    clear h hi hai hik hak hal HR hh hn0 hin hu hev
    go_enter Try.func53, Try.ntmps53
    go_wp2_with fail
    refine (blocks_any F p S _ HK.out.dk).mono ?_
    rintro e w1 ⟨rfl, rfl⟩
    go_wp2_with fail
    refine (show Calls _ _ _ _ _ from HRR.out).mono ?_
    rintro e w2 ⟨rfl, c3, H2⟩
    clear HRR c0 c2 c4 f4 lk
    go_wp2_with fail
    refine (show Calls _ _ _ _ _ from H2.out).mono ?_
    rintro e w3 ⟨rfl, nd3, ca3, g3⟩
    have HC3 : Hid (CaAt w3 G c p S.nb (C.hit k) m r (xs ++ ys ++ [a]) nd3 ∧ Chg G w1 w3) := ⟨ca3, g3⟩
    clear ca3 g3 H2 c3
    go_wp2
    go_ret2
    rw [hU.out]
    exact ⟨F, G, m, r, Gr.chgG HC3.out.2, .inr ⟨rfl, _, _, _, rfl, HK.out.dk.kept HC3.out.2 (fun b hf hg => HK.out.no b hf hg), HC3.out.1, HK.out.no⟩⟩
  | false =>
    have hnoL : ∀ i ∈ C.L, i.n ≠ k := fun i hi e => by
      have := Ca.has_iff.2 ⟨i, hi, e⟩
      rw [hh] at this; cases this
    have hnoN : ∀ a ∈ ls, ((nd a).n : Int) ≠ (k : Int) := fun a ha e => hnoL _ (h.ca.mem ha) (show (nd a).n = k by omega)
    have lk := h.ca.map.lookNone (k : Int) (by omega) (by omega) hnoN
    clear hnoN
    have hU : Hid (use S C k (S.readE k) (S.readV k) = miss S C k (S.readE k) (S.readV k)) := (show use S C k (S.readE k) (S.readV k) = miss S C k (S.readE k) (S.readV k) by unfold use; rw [if_neg hin, Int.toNat_natCast, if_neg (by rw [hh]; decide)])
    have HG : Hid (_ ∧ _ ∧ _ ∧ _) := miss_good (n := k) (fe := (S.readE k)) (fb := (S.readV k)) h.dk.wf h.ca.wf hk hh (fun e => readV_len h.dk.wf e (by omega) (by omega))
    have HM := missR_any F G c p S C m r ls nd k w h hk hx hev
    have HMM : Hid _ := HM
    have HN : Hid (∀ i ∈ C.L, i.n ≠ k) := hnoL
    have HK : Hid (Ck w F G c p S C m r ls nd) := h
    have hq := neq75_none
    have hm5 : C.misses < 1099511627776 := by omega
    generalize hR : miss S C k (S.readE k) (S.readV k) = R at *
    clear h hnoL hh hin hn0 hu hev HM
    go_enter Try.func53, Try.ntmps53
    go_wp2_with fail
    refine (blocks_any F p S _ HK.out.dk).mono ?_
    rintro e w1 ⟨rfl, rfl⟩
    go_wp2_with fail
    refine (show Calls _ _ _ _ _ from HMM.out).mono ?_
    clear HMM c0 c2 lk
    rintro e w2 ⟨F1, g1, ⟨he, rfl, nd1, k1'⟩ | ⟨he, a, u, ls1, nd1, rfl, k1', hN, ho, hla, hlu, hFa, hFu⟩⟩
    · have HE : Hid (Ck w2 F1 G c p R.S C m r ls nd1 ∧ Gr F G w1 w2 F1 G) := ⟨k1', g1⟩
      have he0 : (R.e == 0) = false := by simpa using he
      clear k1' g1
      go_wp2
      go_ret2
      rw [hU.out]
      have hC : R.C = C := by rw [← hR]; exact miss_err (by rw [hR]; exact he)
      exact ⟨F1, G, m, r, HE.out.2, .inl ⟨he, rfl, _, _, by rw [hC]; exact HE.out.1⟩⟩
    · have hRC : R.C = (midC C).add k (S.readV k) := by rw [← hR]; exact miss_mid (by rw [hR]; exact he)
      have hGlt : ∀ b, G b → b < w1.heap.size := HK.out.ca.lt
      have haG : ¬ G a := fun e => by have := hGlt a e; omega
      have huG : ∀ g, u.ownBlock = some g → ¬ G g := fun g hg e => by have := hGlt g e; have := hlu g hg; omega
      have cc := k1'.ca
      have hnbR : R.S.nb = S.nb := HG.out.2.1
      rw [hnbR] at cc
      obtain ⟨w3, hst, c33, hen⟩ := add_ready cc hN ho (by have := HG.out.2.2.1; rw [hRC] at this; exact this) hk (fun b hb => HN.out _ (midC_sub C _ (cc.mem hb))) haG huG
      have c5 := k1'.ca.c5
      have f5 := k1'.ca.fr 5
      have c2 := k1'.ca.c2
      rw [midC_misses] at c5 hst
      have HEN : Hid _ := hen
      have H1 : Hid (Ck w2 F1 G c p R.S (midC C) m r ls1 nd1 ∧ Gr F G w1 w2 F1 G ∧ ¬ F1 a ∧ ∀ g, u.ownBlock = some g → ¬ F1 g) := ⟨k1', g1, hFa, hFu⟩
      have HL : Hid (w1.heap.size ≤ a ∧ ∀ g, u.ownBlock = some g → w1.heap.size ≤ g) := ⟨hla, hlu⟩
      have HRC : Hid (R.C = (midC C).add k (S.readV k) ∧ R.e = 0 ∧ R.S.nb = S.nb) := ⟨hRC, he, hnbR⟩
      clear k1' g1 hFa hFu hla hlu hN ho cc hen hRC he hGlt haG huG hnbR
      go_wp2_with fail
      refine (show Calls _ _ _ _ _ from HEN.out).mono ?_
      rintro e w4 ⟨rfl, ⟨nd4, ca4⟩, g4⟩
      have HC4 : Hid (CaAt w4 (fun b => G b ∨ b = a ∨ u.ownBlock = some b) c p S.nb ((midC C).add k (S.readV k)) m r (ls1 ++ [a]) nd4 ∧ Chg (fun b => G b ∨ b = a) w2 w4) := ⟨ca4, g4⟩
      clear ca4 g4 HEN hst c33 c5 f5 c2
      go_wp2
      go_ret2
      rw [hU.out]
      obtain ⟨k1', g1, hFa, hFu⟩ := H1.out
      obtain ⟨hla, hlu⟩ := HL.out
      refine ⟨F1, (fun b => G b ∨ b = a ∨ u.ownBlock = some b), m, r, ⟨g1.chg.trans HC4.out.2 (fun i hi e => ?_), g1.f, fun b hb => ?_⟩, .inr ⟨HRC.out.2.1, ls1, a, nd4, rfl, k1'.dk.kept HC4.out.2 (fun b hf e => ?_), ?_, fun b hf e => ?_⟩⟩
      · rcases e with e | e
        · exact .inr e
        · omega
      · rcases hb with e | e | e
        · exact .inl e
        · exact .inr (by omega)
        · exact .inr (hlu b e)
      · rcases e with e | e
        · exact k1'.no b hf e
        · exact hFa (e ▸ hf)
      · rw [HRC.out.2.2, HRC.out.1]; exact HC4.out.1
      · rcases e with e | e | e
        · exact k1'.no b hf e
        · exact hFa (e ▸ hf)
        · exact hFu b e hf
end Go.Proofs.Ytioloobeakjbeaa

namespace Go.Proofs.Ytioloobeakjbeaa
open Go.RowKit Go.Maps

/-- A disk and a cache over it. -/
def Cc (w : World) (F G : Nat → Prop) (c p : Nat) (S : St) (C : Ca) : Prop := ∃ m r ls nd, Ck w F G c p S C m r ls nd
/-- What a call leaves. -/
def CTo (F G : Nat → Prop) (c p : Nat) (w w' : World) (S' : St) (C' : Ca) : Prop := ∃ F' G', Cc w' F' G' c p S' C' ∧ Gr F G w w' F' G'
theorem Cc.kept {w w' : World} {F G E : Nat → Prop} {c p : Nat} {S : St} {C : Ca} (h : Cc w F G c p S C) (hc : Chg E w w') (hE : ∀ b, F b ∨ G b → ¬ E b) : Cc w' F G c p S C := by
  obtain ⟨m, r, ls, nd, h⟩ := h
  exact ⟨m, r, ls, nd, h.dk.kept hc (fun b hf => hE b (.inl hf)), h.ca.kept hc (fun b hg => hE b (.inr hg)), h.no⟩
theorem Cc.dk {w : World} {F G : Nat → Prop} {c p : Nat} {S : St} {C : Ca} (h : Cc w F G c p S C) : Dk w F p S := by obtain ⟨m, r, ls, nd, h⟩ := h; exact h.dk
theorem Cc.no {w : World} {F G : Nat → Prop} {c p : Nat} {S : St} {C : Ca} (h : Cc w F G c p S C) : ∀ b, F b → ¬ G b := by obtain ⟨m, r, ls, nd, h⟩ := h; exact h.no
theorem Cc.lt {w : World} {F G : Nat → Prop} {c p : Nat} {S : St} {C : Ca} (h : Cc w F G c p S C) : ∀ b, F b ∨ G b → b < w.heap.size := by
  obtain ⟨m, r, ls, nd, h⟩ := h
  rintro b (e | e)
  · exact h.dk.lt b e
  · exact h.ca.lt b e
theorem Cc.wf {w : World} {F G : Nat → Prop} {c p : Nat} {S : St} {C : Ca} (h : Cc w F G c p S C) : S.Wf ∧ C.Wf S.nb := by obtain ⟨m, r, ls, nd, h⟩ := h; exact ⟨h.dk.wf, h.ca.wf⟩

theorem lastB_snoc {C : Ca} {ys : List Nat} {a : Nat} {nd : Nat → Node} (h : C.L = (ys ++ [a]).map fun b => (nd b).it) : C.lastB = (nd a).b := by
  unfold Ca.lastB
  rw [h]
  simp [Node.it]

set_option maxHeartbeats 1600000 in
set_option maxRecDepth 100000 in
theorem get_any (F G : Nat → Prop) (c p : Nat) (S : St) (C : Ca) (n : Int) (w : World) (h : Cc w F G c p S C) (hx : S.writes < 1099511627776) (hu : C.hits + C.misses < 1099511627776) (hev : C.evicted < 1099511627776) :
    Calls Try.prog 26 #[.pointer (some ⟨c, 0, none⟩), .int .i64 n] w fun e w' => ∃ u F' G', e = .returned (.tuple #[u, .int .i64 (get S C n).e]) ∧ Cc w' F' G' c p (get S C n).S (get S C n).C ∧ Gr F G w w' F' G' ∧ Bs w' u (getB S C n) ∧ ∀ g, u.ownBlock = some g → w.heap.size ≤ g ∧ ¬ F' g ∧ ¬ G' g := by
  obtain ⟨m, r, ls, nd, h⟩ := h
  have c0 := h.ca.c0
  have HU := useR_any F G c p S C m r ls nd n w h hx hu hev
  have HUU : Hid _ := HU
  have HG : Hid (getB S C n = if (use S C n (S.readE n) (S.readV n)).e = 0 then (use S C n (S.readE n) (S.readV n)).C.lastB else []) := (show getB S C n = _ from rfl)
  have hget : get S C n = use S C n (S.readE n) (S.readV n) := rfl
  rw [hget]
  generalize use S C n (S.readE n) (S.readV n) = R at *
  have hmf : ∀ (fn : Fn) (first cap : Array Value) (w : World), (Instr.makeFunc fn first cap).run Try.prog w = .ok (.func fn first cap) w := fun _ _ _ _ => rfl
  have HS : Hid (w.heap.size ≤ w.heap.size) := Nat.le_refl _
  clear h HU hget
  go_enter Try.func26, Try.ntmps26
  go_wp2_with fail
  refine (show Calls _ _ _ _ _ from HUU.out).mono ?_
  clear HUU c0
  rintro e w1 ⟨F1, G1, m1, r1, g1, ⟨he, rfl, ls1, nd1, k1⟩ | ⟨he, ys, a, nd1, rfl, k1⟩⟩
  · have he0 : (R.e == 0) = false := by simpa using he
    have HK : Hid (Ck w1 F1 G1 c p R.S R.C m1 r1 ls1 nd1 ∧ Gr F G w w1 F1 G1) := ⟨k1, g1⟩
    clear k1 g1
    go_wp2
    go_ret2
    refine ⟨_, F1, G1, rfl, ⟨_, _, _, _, HK.out.1⟩, HK.out.2, .inl ⟨rfl, ?_⟩, fun g hg => by cases hg⟩
    rw [HG.out, if_neg he]
  · have hal : a ∈ ys ++ [a] := by simp
    have a1 := (k1.ca.nodes a (List.mem_cons_of_mem _ hal)).c1
    obtain ⟨g, cap, hv, hgG⟩ := k1.ca.slice hal
    have hb := k1.ca.bs hal
    have hlen := k1.ca.blen hal
    have hlast : getB S C n = (nd1 a).b := by rw [HG.out, if_pos he]; exact lastB_snoc k1.ca.items
    rw [hv] at a1 hb
    have HK : Hid (Ck w1 F1 G1 c p R.S R.C m1 r1 (ys ++ [a]) nd1 ∧ Gr F G w w1 F1 G1 ∧ Bs w1 (.slice (some ⟨g, 0, none⟩) 512 cap) (nd1 a).b ∧ (nd1 a).b.length = 512 ∧ getB S C n = (nd1 a).b ∧ R.e = 0) := ⟨k1, g1, hb, hlen, hlast, he⟩
    clear k1 g1 hb hlen hlast hal hv he
    go_wp2_with fail
    refine (cloneB_any _ (nd1 a).b w1 HK.out.2.2.1 (by rw [HK.out.2.2.2.1]; decide)).mono ?_
    rintro e w2 ⟨u, rfl, ho, hc⟩
    have HO : Hid (w2.ownsRow w1.heap.size 5 1 u (nd1 a).b.length (bcells (nd1 a).b) ∧ Chg (fun _ => False) w1 w2) := ⟨ho, hc⟩
    clear ho hc a1
    go_wp2
    go_ret2
    obtain ⟨k1, g1, hb, hlen, hlast, he⟩ := HK.out
    obtain ⟨ho, hc⟩ := HO.out
    have hs := g1.chg.size
    refine ⟨u, F1, G1, by rw [he]; rfl, ⟨_, _, _, _, k1.dk.kept hc (fun _ _ h => h), k1.ca.kept hc (fun _ _ h => h), k1.no⟩, g1.trans (Gr.new hc), by rw [hlast]; exact Bs.ofOwns ho, fun g2 hg2 => ?_⟩
    have := (ho.lt g2 hg2).1
    exact ⟨by omega, fun e => by have := k1.dk.lt _ e; omega, fun e => by have := k1.ca.lt _ e; omega⟩

section
variable {w : World} {G : Nat → Prop} {c p nb : Nat} {C : Ca} {m r : Nat} {ls : List Nat} {nd : Nat → Node}
theorem mod_wf2 {C : Ca} {nb : Nat} (h : C.Wf nb) (n : Nat) (f : It → It) (hn : ∀ i, (f i).n = i.n) (hb : ∀ i, i.b.length = 512 → (f i).b.length = 512) (hp : ∀ i, (f i).pins ≤ i.pins) : (C.mod n f).Wf nb := by
  have hm : ∀ j ∈ (C.mod n f).L, ∃ i ∈ C.L, j.n = i.n ∧ (i.b.length = 512 → j.b.length = 512) ∧ j.pins ≤ i.pins := fun j hj => by
    obtain ⟨i, hi, e⟩ := List.mem_map.1 hj
    refine ⟨i, hi, ?_⟩
    rw [← e]
    split
    · exact ⟨hn i, hb i, hp i⟩
    · exact ⟨rfl, fun h => h, Nat.le_refl _⟩
  refine ⟨h.pos, h.top, by simpa [Ca.mod] using h.few, ?_, fun j hj => ?_, fun j hj => ?_, fun j hj => ?_⟩
  · have : (C.mod n f).L.map It.n = C.L.map It.n := by
      simp only [Ca.mod, List.map_map]
      refine List.map_congr_left (fun i _ => ?_)
      simp only [Function.comp]
      split
      · exact hn i
      · rfl
    rw [this]; exact h.uniq
  · obtain ⟨i, hi, e, _⟩ := hm j hj; rw [e]; exact h.lt i hi
  · obtain ⟨i, hi, _, e, _⟩ := hm j hj; exact e (h.len i hi)
  · obtain ⟨i, hi, _, _, e⟩ := hm j hj; exact Nat.le_trans e (h.pins i hi)
theorem setB_it (nd : Nat → Node) (a : Nat) (bs : List Int) (b : Nat) : (setB nd a bs b).it = if b = a then { (nd b).it with b := bs } else (nd b).it := by
  unfold _root_.Go.Proofs.Ytioloobeakjbeaa.setB; split <;> rfl
theorem setB_same (nd : Nat → Node) (a : Nat) (bs : List Int) (b : Nat) : (setB nd a bs b).n = (nd b).n ∧ (setB nd a bs b).v = (nd b).v ∧ (setB nd a bs b).x = (nd b).x ∧ (setB nd a bs b).y = (nd b).y := by
  unfold _root_.Go.Proofs.Ytioloobeakjbeaa.setB; split <;> exact ⟨rfl, rfl, rfl, rfl⟩
/-- A node's bytes are others. -/
theorem CaAt.bytes {w' : World} (h : CaAt w G c p nb C m r ls nd) {a g : Nat} (ha : a ∈ ls) (hg : (nd a).v.ownBlock = some g) (hc : Chg (fun b => b = g) w w') {bs : List Int} (ho : w'.ownsRow 0 5 1 (nd a).v 512 (bcells bs)) (hl : bs.length = 512) :
    CaAt w' G c p nb (C.mod (nd a).n fun i => { i with b := bs }) m r ls (setB nd a bs) := by
  have hs := setB_same nd a bs
  have hne : ∀ b, G b → b ≠ g → w'.heap[b]? = w.heap[b]? := fun b hb e => hc.block b (h.lt b hb) e
  refine ⟨mod_wf2 h.wf _ _ (fun _ => rfl) (fun _ _ => hl) (fun _ => Nat.le_refl _), h.nbt, (hne c h.fc (fun e => h.c_ne.2 a ha g hg e)).trans h.blk, (h.map.kept (hne m h.fm (fun e => h.m_ne a ha g hg e))).congr (fun _ => Iff.rfl) (fun b _ => (hs b).1), fun b hb => ?_, h.nodup, chain_congr h.chain (fun b _ => (hs b).2.2.1) (fun b _ => (hs b).2.2.2), ?_, fun b hb => ?_, fun b hb b2 hb2 hab g2 hg2 => ?_, h.fc, h.fm, h.fn, fun b hb g2 hg2 => ?_, fun b hb => Nat.lt_of_lt_of_le (h.lt b hb) hc.size⟩
  · have h1 := (h.nodes b hb).same (hne b (h.fn b hb) (fun e => (h.node_ne hb).2.2 a ha g hg e))
    unfold _root_.Go.Proofs.Ytioloobeakjbeaa.setB
    split
    · exact h1
    · exact h1
  · rw [h.mod_items ha]
    exact List.map_congr_left (fun b _ => (setB_it nd a bs b).symm)
  · rw [(hs b).2.1]
    by_cases e : b = a
    · subst e
      have : (setB nd b bs b).b = bs := by unfold _root_.Go.Proofs.Ytioloobeakjbeaa.setB; rw [if_pos rfl]
      rw [this]; exact ho
    · have : (setB nd a bs b).b = (nd b).b := by unfold _root_.Go.Proofs.Ytioloobeakjbeaa.setB; rw [if_neg e]
      rw [this]
      exact own_same (h.own b hb) (fun g2 hg2 => hne g2 (h.fb b hb g2 hg2) (fun e2 => h.apart b hb a ha e g2 hg2 (by rw [e2]; exact hg)))
  · rw [(hs b).2.1] at hg2
    rw [(hs b2).2.1]
    exact h.apart b hb b2 hb2 hab g2 hg2
  · rw [(hs b).2.1] at hg2
    exact h.fb b hb g2 hg2
theorem mod_last {C : Ca} {nb : Nat} (h : C.Wf nb) {Y : List It} {i : It} (e : C.L = Y ++ [i]) (f : It → It) : C.mod i.n f = C.last f := by
  have hu := h.uniq
  rw [e, List.map_append] at hu
  have hd := (List.nodup_append.1 hu).2.2
  have : C.L.map (fun j => if j.n = i.n then f j else j) = modLast f C.L := by
    rw [e, modLast_snoc, List.map_append]
    congr 1
    · conv => rhs; rw [← List.map_id Y]
      refine List.map_congr_left (fun j hj => ?_)
      rw [if_neg (fun e2 => hd j.n (List.mem_map_of_mem hj) i.n (by simp) e2)]; rfl
    · simp
  unfold Ca.mod Ca.last
  rw [this]
theorem mod_mod {C : Ca} (n : Nat) (f g : It → It) (hf : ∀ i, (f i).n = i.n) : (C.mod n f).mod n g = C.mod n (g ∘ f) := by
  unfold Ca.mod
  simp only [List.map_map, Ca.mk.injEq, true_and, and_true]
  refine List.map_congr_left (fun i _ => ?_)
  simp only [Function.comp]
  by_cases e : i.n = n
  · rw [if_pos e, if_pos e, if_pos ((hf i).trans e)]
  · rw [if_neg e, if_neg e, if_neg e]
theorem CaAt.pin (h : CaAt w G c p nb C m r ls nd) {a k : Nat} (ha : a ∈ ls) (hk : k ≤ C.hits + C.misses) :
    CaAt (w.setCell ⟨a, 3, none⟩ (.int .i64 (k : Int))) G c p nb (C.mod (nd a).n fun i => { i with pins := k }) m r ls (setK nd a k) := by
  refine h.node (Chg.setCell _ _ _ (List.mem_cons_of_mem _ ha)) (h.nodes.setK (List.mem_cons_of_mem _ ha) k) (setK_same nd a k) ?_ ?_ rfl rfl rfl rfl
  · have hm := Ca.mod_wf h.wf (nd a).n (fun i => { i with pins := 0 }) (fun _ => rfl) (fun _ => rfl) (fun _ => Nat.zero_le _)
    have he : ∀ j ∈ (C.mod (nd a).n fun i => { i with pins := k }).L, ∃ i ∈ C.L, j.n = i.n ∧ j.b = i.b ∧ j.pins ≤ C.hits + C.misses := fun j hj => by
      obtain ⟨i, hi, e⟩ := List.mem_map.1 hj
      refine ⟨i, hi, ?_⟩
      rw [← e]
      split
      · exact ⟨rfl, rfl, hk⟩
      · exact ⟨rfl, rfl, h.wf.pins i hi⟩
    have hmn : (C.mod (nd a).n fun i => { i with pins := k }).L.map It.n = C.L.map It.n := by
      simp only [Ca.mod, List.map_map]
      refine List.map_congr_left (fun i _ => ?_)
      simp only [Function.comp]
      split <;> rfl
    refine ⟨hm.pos, hm.top, by simpa [Ca.mod] using h.wf.few, by rw [hmn]; exact h.wf.uniq, fun j hj => ?_, fun j hj => ?_, fun j hj => ?_⟩
    · obtain ⟨i, hi, e, _⟩ := he j hj; rw [e]; exact h.wf.lt i hi
    · obtain ⟨i, hi, _, e, _⟩ := he j hj; rw [e]; exact h.wf.len i hi
    · obtain ⟨i, hi, _, _, e⟩ := he j hj; exact e
  · rw [h.mod_items ha]
    exact List.map_congr_left (fun b _ => (setK_it nd a k b).symm)
end

set_option maxHeartbeats 1600000 in
set_option maxRecDepth 100000 in
theorem pin_any (F G : Nat → Prop) (c p : Nat) (S : St) (C : Ca) (n : Int) (w : World) (h : Cc w F G c p S C) (hx : S.writes < 1099511627776) (hu : C.hits + C.misses < 1099511627776) (hev : C.evicted < 1099511627776) :
    Calls Try.prog 29 #[.pointer (some ⟨c, 0, none⟩), .int .i64 n] w fun e w' => e = .returned (.int .i64 (pin S C n).e) ∧ CTo F G c p w w' (pin S C n).S (pin S C n).C := by
  have hwf := h.wf
  obtain ⟨m, r, ls, nd, h⟩ := h
  have c0 := h.ca.c0
  have HU := useR_any F G c p S C m r ls nd n w h hx hu hev
  have HUU : Hid _ := HU
  have HP : Hid (pin S C n = if (use S C n (S.readE n) (S.readV n)).e ≠ 0 then use S C n (S.readE n) (S.readV n) else ⟨0, (use S C n (S.readE n) (S.readV n)).S, (use S C n (S.readE n) (S.readV n)).C.last fun i => { i with pins := i.pins + 1 }⟩) := (show pin S C n = _ from rfl)
  have HPI : Hid ((use S C n (S.readE n) (S.readV n)).e = 0 → (∀ i ∈ (use S C n (S.readE n) (S.readV n)).C.L, i.pins ≤ C.hits + C.misses) ∧ (use S C n (S.readE n) (S.readV n)).C.hits + (use S C n (S.readE n) (S.readV n)).C.misses = C.hits + C.misses + 1) := (show _ → _ from fun he => ⟨hit_pins hwf.2 he, (use_ok hwf.2.uniq he).1⟩)
  generalize use S C n (S.readE n) (S.readV n) = R at *
  have hmf : ∀ (fn : Fn) (first cap : Array Value) (w : World), (Instr.makeFunc fn first cap).run Try.prog w = .ok (.func fn first cap) w := fun _ _ _ _ => rfl
  clear h HU hwf
  go_enter Try.func29, Try.ntmps29
  go_wp2_with fail
  refine (show Calls _ _ _ _ _ from HUU.out).mono ?_
  clear HUU c0
  rintro e w1 ⟨F1, G1, m1, r1, g1, ⟨he, rfl, ls1, nd1, k1⟩ | ⟨he, ys, a, nd1, rfl, k1⟩⟩
  · have he0 : (R.e == 0) = false := by simpa using he
    have HK : Hid (Ck w1 F1 G1 c p R.S R.C m1 r1 ls1 nd1 ∧ Gr F G w w1 F1 G1) := ⟨k1, g1⟩
    clear k1 g1
    go_wp2
    go_ret
    rw [HP.out, if_pos he]
    exact ⟨rfl, F1, G1, ⟨_, _, _, _, HK.out.1⟩, HK.out.2⟩
  · have hal : a ∈ ys ++ [a] := by simp
    have hN := k1.ca.nodes a (List.mem_cons_of_mem _ hal)
    have a3 := hN.c3
    have f3 := hN.fr 3
    have hpi := (HPI.out he).1 _ (k1.ca.mem hal)
    have hk3 : (nd1 a).k < 1099511627776 := Nat.lt_of_le_of_lt hpi hu
    have HK : Hid (Ck w1 F1 G1 c p R.S R.C m1 r1 (ys ++ [a]) nd1 ∧ Gr F G w w1 F1 G1 ∧ R.e = 0 ∧ (nd1 a).k + 1 ≤ R.C.hits + R.C.misses) := ⟨k1, g1, he, by rw [(HPI.out he).2]; exact Nat.succ_le_succ hpi⟩
    clear k1 g1 he hal hN hpi hu hev hx
    go_wp2
    go_ret
    obtain ⟨k1, g1, he, hk⟩ := HK.out
    have hal : a ∈ ys ++ [a] := by simp
    have hp := k1.ca.pin (k := (nd1 a).k + 1) hal hk
    have hcs : Chg (fun b => b ∈ r1 :: (ys ++ [a])) w1 (w1.setCell ⟨a, 3, none⟩ (.int .i64 (((nd1 a).k + 1 : Nat) : Int))) := Chg.setCell _ _ _ (List.mem_cons_of_mem _ hal)
    have hfn := k1.ca.fn
    have hL : R.C.L = (ys.map fun b => (nd1 b).it) ++ [(nd1 a).it] := by rw [k1.ca.items]; simp
    have hC : (R.C.mod (nd1 a).n fun i => { i with pins := (nd1 a).k + 1 }) = R.C.last fun i => { i with pins := i.pins + 1 } := by
      rw [show (nd1 a).n = (nd1 a).it.n from rfl, mod_last k1.ca.wf hL]
      unfold Ca.last
      rw [hL, modLast_snoc, modLast_snoc]
      rfl
    rw [hC] at hp
    rw [HP.out, if_neg (by rw [he]; decide)]
    exact ⟨rfl, F1, G1, ⟨_, _, _, _, k1.dk.kept hcs (fun b hf hm => k1.no b hf (hfn b hm)), hp, k1.no⟩, g1.trans (Gr.chgG (hcs.mono (fun b _ hm => hfn b hm)))⟩
end Go.Proofs.Ytioloobeakjbeaa

namespace Go.Proofs.Ytioloobeakjbeaa
open Go.RowKit Go.Maps

theorem copy_facts {w : World} {g cap vc : Nat} {va : Option Addr} {old bs : List Int} (ho : w.ownsRow 0 5 1 (.slice (some ⟨g, 0, none⟩) 512 cap) 512 (bcells old)) (hb : Bs w (.slice va 512 vc) bs) (hl : bs.length = 512) :
    ∃ w2, (∀ ty, (Builtin.copy_ #[39, 39] ty #[.slice (some ⟨g, 0, none⟩) 512 cap, .slice va 512 vc]).run Try.prog w = .ok (goInt 512) w2) ∧ w2.ownsRow 0 5 1 (.slice (some ⟨g, 0, none⟩) 512 cap) 512 (bcells bs) ∧ Chg (fun b => b = g) w w2 := by
  have hbl : (bcells bs).length = 512 := by simp [bcells, hl]
  rcases hb with ⟨e, rfl⟩ | ⟨a, c, e, _, _, hcell⟩
  · simp at hl
  · simp at e
    obtain ⟨rfl, e2, rfl⟩ := e
    rcases ho.2 with ⟨e, _⟩ | ⟨g', cap', cur, e, h0, h1, h2, h3, h4, h5⟩
    · cases e
    · cases e
      have hr := fun ty => run_copy_row (P := Try.prog) w 39 39 ty 5 g 0 512 cap a 512 vc cur 5 (bcells bs) Try.underlying39 (by kernel_rfl) h1 (by rw [hbl]; rfl) (fun i u hu => by
        obtain ⟨hi, rfl⟩ := bcells_get hu
        exact hcell i hi) (by rw [hbl]; omega) (bcells_one _)
      rw [hbl] at hr
      refine ⟨_, hr, ⟨hbl, .inr ⟨g, cap, _, rfl, h0, setRow_heap w g cur _ 5 _ h1, h2, h3, ?_, ?_⟩⟩, ⟨rfl, rfl, rfl, by simp, fun k _ hk => setRow_other w g k _ (fun e => hk e)⟩⟩
      · simp [hbl]; omega
      · simp only [List.take_zero, List.nil_append]
        have : (512 * 1 : Nat) = (bcells bs).length := by rw [hbl]
        rw [this]
        simp

set_option maxHeartbeats 1600000 in
set_option maxRecDepth 100000 in
theorem put_any (F G : Nat → Prop) (c p : Nat) (S : St) (C : Ca) (n : Int) (v : Value) (bs : List Int) (w : World) (h : Cc w F G c p S C) (hb : Bs w v bs) (hv : ∀ g, v.ownBlock = some g → ¬ F g ∧ ¬ G g) (hx : S.writes < 1099511627776) (hu : C.hits + C.misses < 1099511627776) (hev : C.evicted < 1099511627776) :
    Calls Try.prog 25 #[.pointer (some ⟨c, 0, none⟩), .int .i64 n, v] w fun e w' => e = .returned (.int .i64 (put S C n bs).e) ∧ CTo F G c p w w' (put S C n bs).S (put S C n bs).C := by
  obtain ⟨va, vc, hvf, _⟩ := hb.form
  by_cases hl : bs.length = 512
  case neg =>
    have hP : Hid (put S C n bs = ⟨1, S, C⟩) := (show put S C n bs = ⟨1, S, C⟩ by unfold put; rw [if_pos hl])
    have HC : Hid (Cc w F G c p S C) := h
    have hli : ((bs.length : Int) == 512) = false := by simp; omega
    clear h hb hv
    subst hvf
    go_enter Try.func25, Try.ntmps25
    go_wp2
    go_ret
    rw [hP.out]
    exact ⟨rfl, F, G, HC.out, Gr.refl _ _ _⟩
  rw [hl] at hvf
  subst hvf
  obtain ⟨m, r, ls, nd, h⟩ := h
  have HU := useB_any F G c p S C m r ls nd n w h hx hu hev
  have HUU : Hid _ := HU
  have HP : Hid (put S C n bs = if (use S C n 0 (zeros 512)).e ≠ 0 then use S C n 0 (zeros 512) else ⟨0, (use S C n 0 (zeros 512)).S, (use S C n 0 (zeros 512)).C.last fun i => { i with b := bs, dirty := true }⟩) := (show put S C n bs = _ by unfold put; rw [if_neg (by simpa using hl)])
  generalize use S C n 0 (zeros 512) = R at *
  have HV : Hid ((∀ g, (Value.slice va 512 vc).ownBlock = some g → ¬ F g ∧ ¬ G g) ∧ Bs w (.slice va 512 vc) bs ∧ bs.length = 512) := ⟨hv, hb, hl⟩
  have HLW : Hid (∀ b, F b ∨ G b → b < w.heap.size) := (show ∀ b, F b ∨ G b → b < w.heap.size from fun b e => by
    rcases e with e | e
    · exact h.dk.lt b e
    · exact h.ca.lt b e)
  clear h HU hv hb hl
  go_enter Try.func25, Try.ntmps25
  go_wp2_with fail
  refine (show Calls _ _ _ _ _ from HUU.out).mono ?_
  clear HUU
  rintro e w1 ⟨F1, G1, m1, r1, g1, ⟨he, rfl, ls1, nd1, k1⟩ | ⟨he, ys, a, nd1, rfl, k1⟩⟩
  · have he0 : (R.e == 0) = false := by simpa using he
    have HK : Hid (Ck w1 F1 G1 c p R.S R.C m1 r1 ls1 nd1 ∧ Gr F G w w1 F1 G1) := ⟨k1, g1⟩
    clear k1 g1
    go_wp2
    go_ret
    rw [HP.out, if_pos he]
    exact ⟨rfl, F1, G1, ⟨_, _, _, _, HK.out.1⟩, HK.out.2⟩
  · have hal : a ∈ ys ++ [a] := by simp
    obtain ⟨g, cap, hgv, hgG⟩ := k1.ca.slice hal
    have hN := k1.ca.nodes a (List.mem_cons_of_mem _ hal)
    have a1 := hN.c1
    rw [hgv] at a1
    have hown := k1.ca.own a hal
    rw [hgv] at hown
    have hbs1 : Bs w1 (.slice va 512 vc) bs := HV.out.2.1.kept g1.chg (fun a' n' c' e hn' => by
      have := HV.out.1 a'.block (by rw [e]; rfl)
      exact fun e2 => by rcases e2 with e2 | e2; exact this.1 e2; exact this.2 e2)
    obtain ⟨w2, hr, ho2, hc2⟩ := copy_facts hown hbs1 HV.out.2.2
    have hag : a ≠ g := (k1.ca.node_ne (List.mem_cons_of_mem _ hal)).2.2 a hal g (by rw [hgv]; rfl)
    have ca2 := k1.ca.bytes hal (g := g) (by rw [hgv]; rfl) hc2 (by rw [hgv]; exact ho2) HV.out.2.2
    have hN2 := ca2.nodes a (List.mem_cons_of_mem _ hal)
    have a2 := hN2.c2
    have f2 := hN2.fr 2
    have hn2 : (setB nd1 a bs a).n = (nd1 a).n := (setB_same nd1 a bs a).1
    have ca3 := ca2.dirt hal true
    rw [hn2, mod_mod (nd1 a).n (fun i => { i with b := bs }) (fun i => { i with dirty := true }) (fun _ => rfl)] at ca3
    have hL : R.C.L = (ys.map fun b => (nd1 b).it) ++ [(nd1 a).it] := by rw [k1.ca.items]; simp
    rw [show (nd1 a).n = (nd1 a).it.n from rfl, mod_last k1.ca.wf hL] at ca3
    have hcs : Chg (fun b => b ∈ r1 :: (ys ++ [a])) w2 (w2.setCell ⟨a, 2, none⟩ (.bool true)) := Chg.setCell _ _ _ (List.mem_cons_of_mem _ hal)
    have hG3 : Chg G1 w1 (w2.setCell ⟨a, 2, none⟩ (.bool true)) := (hc2.mono (S' := G1) (fun b _ e => by rw [e]; exact hgG)).trans (hcs.mono (S' := G1) (fun b _ e => k1.ca.fn b e)) (fun _ _ h => h)
    have HK : Hid (CaAt (w2.setCell ⟨a, 2, none⟩ (.bool true)) G1 c p R.S.nb (R.C.last fun i => { i with b := bs, dirty := true }) m1 r1 (ys ++ [a]) (setD (setB nd1 a bs) a true) ∧ Chg G1 w1 (w2.setCell ⟨a, 2, none⟩ (.bool true)) ∧ Gr F G w w1 F1 G1 ∧ Dk w1 F1 p R.S ∧ (∀ b, F1 b → ¬ G1 b) ∧ R.e = 0) := ⟨ca3, hG3, g1, k1.dk, k1.no, he⟩
    generalize (setB nd1 a bs a).d = dd at *
    clear k1 g1 he hN hown hbs1 ho2 hc2 ca2 hN2 hn2 ca3 hcs hG3 hal hL
    go_wp2_with (first | (at_builtin; refine wpList_copy_eq _ rfl (.tmp 24) (.tmp 25) 39 39 rfl _ _ rfl rfl _ w2 (hr _) ?_))
    go_ret
    obtain ⟨ca3, hG3, g1, d1, no1, he⟩ := HK.out
    rw [HP.out, if_neg (by rw [he]; decide)]
    exact ⟨rfl, F1, G1, ⟨_, _, _, _, d1.kept hG3 (fun b hf hg => no1 b hf hg), ca3, no1⟩, g1.trans (Gr.chgG hG3)⟩

set_option maxHeartbeats 1600000 in
set_option maxRecDepth 100000 in
theorem unpin_any (G : Nat → Prop) (c p nb : Nat) (C : Ca) (m r : Nat) (ls : List Nat) (nd : Nat → Node) (n : Int) (w : World) (h : CaAt w G c p nb C m r ls nd) (h0 : -9223372036854775808 ≤ n) (h1 : n < 9223372036854775808) (hu : C.hits + C.misses < 1099511627776) :
    Calls Try.prog 35 #[.pointer (some ⟨c, 0, none⟩), .int .i64 n] w fun e w' => e = .returned (.bool (unpins C n)) ∧ ∃ nd', CaAt w' G c p nb (unpin C n) m r ls nd' ∧ Chg G w w' := by
  have c2 := h.c2
  have HH : Hid (CaAt w G c p nb C m r ls nd) := h
  by_cases hh : ∃ a ∈ ls, ((nd a).n : Int) = n
  · obtain ⟨a, hal, hn⟩ := hh
    have lk0 := h.map.look h.nbt hal (h.nlt hal)
    rw [hn] at lk0
    have lk : (Instr.lookup 74 (.map (some m)) (.int .i64 n) false).run Try.prog w = .ok (.pointer (some ⟨a, 0, none⟩)) w := lk0
    have hN := h.nodes a (List.mem_cons_of_mem _ hal)
    have a3 := hN.c3
    have f3 := hN.fr 3
    have hq := eq75_nil ⟨a, 0, none⟩
    have hun : unpins C n = ((nd a).k != 0) := by
      unfold unpins
      have e1 : decide (0 ≤ n) = true := by simp; omega
      have e2 : n.toNat = (nd a).n := by omega
      rw [e1, e2, Bool.true_and, Bool.eq_iff_iff, List.any_eq_true]
      constructor
      · rintro ⟨i, hi, hc⟩
        simp only [Bool.and_eq_true, beq_iff_eq] at hc
        rw [h.same_item hal hi hc.1] at hc
        exact hc.2
      · intro hk
        exact ⟨(nd a).it, h.mem hal, by simp only [Bool.and_eq_true, beq_iff_eq]; exact ⟨rfl, hk⟩⟩
    have hp := h.pins hal
    by_cases hk : (nd a).k = 0
    · have HU : Hid (unpins C n = false ∧ unpin C n = C) := by
        have : unpins C n = false := by rw [hun, hk]; rfl
        exact ⟨this, by unfold unpin; rw [this]; rfl⟩
      have k1 : (((nd a).k : Nat) : Int) = 0 := by omega
      rw [k1] at a3
      clear h hN lk0 hun hp hk hn hal
      go_enter Try.func35, Try.ntmps35
      go_wp2
      go_ret
      rw [HU.out.1, HU.out.2]
      exact ⟨rfl, nd, HH.out, Chg.refl _ _⟩
    · have hun1 : unpins C n = true := by rw [hun]; simpa using hk
      have e2 : n.toNat = (nd a).n := by omega
      have HU : Hid (unpins C n = true ∧ unpin C n = C.mod (nd a).n fun i => { i with pins := (nd a).k - 1 }) := by
        refine ⟨hun1, ?_⟩
        unfold unpin
        rw [if_pos hun1, e2]
        unfold Ca.mod
        simp only [Ca.mk.injEq, true_and, and_true]
        refine List.map_congr_left (fun i hi => ?_)
        by_cases e : i.n = (nd a).n
        · rw [if_pos e, if_pos e, h.same_item hal hi e]; rfl
        · rw [if_neg e, if_neg e]
      have k1 : ((((nd a).k : Nat) : Int) == 0) = false := by simp; omega
      have k2 : (((nd a).k : Nat) : Int) - 1 = (((nd a).k - 1 : Nat) : Int) := by omega
      have hpp := h.pin (k := (nd a).k - 1) hal (by omega)
      have hk2 : (nd a).k < 1099511627776 := by omega
      have hk3 : 0 < (nd a).k := by omega
      have HP : Hid (CaAt (w.setCell ⟨a, 3, none⟩ (.int .i64 (((nd a).k : Int) - 1))) G c p nb (unpin C n) m r ls (setK nd a ((nd a).k - 1)) ∧ Chg G w (w.setCell ⟨a, 3, none⟩ (.int .i64 (((nd a).k : Int) - 1)))) := by
        rw [k2, HU.out.2]
        exact ⟨hpp, Chg.setCell _ _ _ (h.fn a (List.mem_cons_of_mem _ hal))⟩
      have HU1 : Hid (unpins C n = true) := hun1
      generalize (nd a).k = kk at *
      clear h hN lk0 hun hp hk hn hal hpp HU hun1 e2 k2
      go_enter Try.func35, Try.ntmps35
      go_wp2
      go_ret
      rw [HU1.out]
      exact ⟨rfl, _, HP.out⟩
  · have hno : ∀ a ∈ ls, ((nd a).n : Int) ≠ n := fun a ha e => hh ⟨a, ha, e⟩
    have lk := h.map.lookNone n h0 h1 hno
    have hq := eq75_none
    have hun : unpins C n = false := by
      unfold unpins
      by_cases e : 0 ≤ n
      · have e1 : decide (0 ≤ n) = true := by simpa using e
        rw [e1, Bool.true_and, List.any_eq_false]
        intro i hi hc
        simp only [Bool.and_eq_true, beq_iff_eq] at hc
        rw [h.items] at hi
        obtain ⟨b, hb, rfl⟩ := List.mem_map.1 hi
        have h3 : (nd b).n = n.toNat := hc.1
        exact hno b hb (by omega)
      · have e1 : decide (0 ≤ n) = false := by simpa using e
        rw [e1]; rfl
    have HU : Hid (unpins C n = false ∧ unpin C n = C) := ⟨hun, by unfold unpin; rw [hun]; rfl⟩
    clear h hno hun hh
    go_enter Try.func35, Try.ntmps35
    go_wp2
    go_ret
    rw [HU.out.1, HU.out.2]
    exact ⟨rfl, nd, HH.out, Chg.refl _ _⟩
end Go.Proofs.Ytioloobeakjbeaa
