/-
  The contract of Cut of package block.
-/
import Derived.Test.YtkkmdmnjlncgfaaSync
import Derived.Test.YtkkmdmnjlncgfaaKeys
namespace Go.Proofs.Ytkkmdmnjlncgfaa
open Go.RowKit Go.Maps

theorem Is.at {w : World} {a : Option Addr} {c n k : Nat} {xs : List Int} (h : Is w (.slice a n c) xs) (hk : k < xs.length) : ∃ b off, a = some ⟨b, off, none⟩ ∧ ∀ j, j < xs.length → w.cell? ⟨b, off + j, none⟩ = some (.int .i64 (xs.getD j 0)) := by
  rcases h with ⟨e, rfl⟩ | ⟨x, c', e, hl, hm, hcell⟩
  · simp at hk
  · cases e
    obtain ⟨b, off, spot⟩ := x
    have h0 := hcell 0 (by omega)
    have hspot : spot = none := by simpa [Addr.add] using World.cell?_spot h0
    subst hspot
    refine ⟨b, off, rfl, fun j hj => ?_⟩
    have := hcell j hj
    unfold Addr.add at this
    split at this
    · rename_i e; subst e; simpa using this
    · exact this

theorem Is.kept' {E : Nat → Prop} {w w' : World} {v : Value} {xs : List Int} (h : Is w v xs) (hc : Chg E w w') (hn : xs ≠ [] → ∀ g, v.ownBlock = some g → ¬ E g) : Is w' v xs := by
  by_cases e : xs = []
  · subst e
    rcases h with h | ⟨a, c, rfl, hl, hm, _⟩
    · exact .inl h
    · exact .inr ⟨a, c, rfl, hl, hm, fun j hj => absurd hj (by simp)⟩
  · exact h.kept hc (hn e)

theorem keys_mf (S : St) (V : Nat → Value) : keysOf S.nb (mf S V) = S.keys := by
  unfold keysOf St.keys
  congr 1
  funext n
  unfold mf
  cases (S.wait n).isEmpty <;> rfl

theorem getD_tail (ps : List Int) (k : Nat) : ps.tail.getD k 0 = ps.getD (k + 1) 0 := by cases ps <;> simp [List.getD]
theorem cutTo_snoc : ∀ (ns : List Nat) (S : St) (ps : List Int) (n : Nat), S.cutTo ps (ns ++ [n]) = (S.cutTo ps ns).settle n (St.pickN (ps.getD ns.length 0) ((S.cutTo ps ns).wait n).length)
  | [], S, ps, n => by
    simp only [List.nil_append, St.cutTo, List.length_nil]
    congr 2
    cases ps <;> rfl
  | k :: ns, S, ps, n => by
    simp only [List.cons_append, St.cutTo, List.length_cons]
    rw [cutTo_snoc ns, getD_tail]

theorem cutTo_take {S : St} {ps : List Int} {i : Nat} (hi : i < S.keys.length) :
    S.cutTo ps (S.keys.take (i + 1)) = (S.cutTo ps (S.keys.take i)).settle (S.keys.getD i 0) (St.pickN (ps.getD i 0) ((S.cutTo ps (S.keys.take i)).wait (S.keys.getD i 0)).length) := by
  have e : S.keys.take (i + 1) = S.keys.take i ++ [S.keys.getD i 0] := by
    rw [List.take_add_one]; simp [List.getD, hi]
  rw [e, cutTo_snoc]
  congr 3
  rw [List.length_take]
  congr 1
  omega

theorem DkAt.lookLen {w : World} {F : Nat → Prop} {p : Nat} {S : St} {s sc m : Nat} {pv : Value} {V : Nat → Value} (h : DkAt w F p S s sc m pv V) {n : Nat} (hn : n < S.nb) : ∃ a c, (Instr.lookup 64 (.map (some m)) (.int .i64 (n : Int)) false).run Try.prog w = .ok (.slice a (S.wait n).length c) w := by
  have lk := h.look hn
  by_cases hw : S.wait n = []
  · rw [mf_none hw] at lk
    exact ⟨none, 0, by rw [lk, hw]; rfl⟩
  · rw [mf_some hw] at lk
    obtain ⟨a, c, e⟩ := h.form n (V n) hn (mf_some hw)
    exact ⟨a, c, by rw [lk, e]; rfl⟩

set_option maxHeartbeats 1600000 in
theorem cut_core (F : Nat → Prop) (p : Nat) (S : St) (v : Value) (ps : List Int) (w : World) {s sc m : Nat} {pv : Value} {V : Nat → Value} (h : DkAt w F p S s sc m pv V) (hi : Is w v ps) (hv : ps ≠ [] → ∀ g, v.ownBlock = some g → g ≠ s ∧ g ≠ m) (hx : S.writes < 1099511627776) :
    Calls Try.prog 26 #[.pointer (some ⟨p, 0, none⟩), v] w fun e w' => e = .returned (.tuple #[]) ∧ To F p w w' (S.cut ps) := by
  obtain ⟨va, vc, rfl, hvc⟩ := hi.form
  have c3 := h.c3
  by_cases hoff : S.off = true
  · have e2 : S.cut ps = S := by simp [St.cut, hoff]
    rw [e2]
    have HH : Hid (DkAt w F p S s sc m pv V) := h
    rw [hoff] at c3
    clear h e2
    go_enter Try.func26, Try.ntmps26
    go_wp2
    refine bodyPost_ret (results_none rfl _ _ _) rfl ?_
    exact ⟨rfl, To.refl ⟨s, sc, m, pv, V, HH.out⟩⟩
  · have e2 : S.cut ps = { S.cutTo ps S.keys with off := true, arm := 0, picks := [] } := by simp [St.cut, hoff]
    rw [e2]
    have hof : S.off = false := by simpa using hoff
    rw [hof] at c3
    have c1 := h.c1
    have hlt := h.lt
    have HH : Hid (DkAt w F p S s sc m pv V) := h
    have HI : Hid (Is w (.slice va ps.length vc) ps) := hi
    clear h e2 hoff hi
    go_enter Try.func26, Try.ntmps26
    go_wp2_with fail
    refine (keys_any (some m) w).mono ?_
    rintro e w1 ⟨rfl, rfl⟩
    have h1 := HH.out.kept (Chg.alloc (fun _ => False) w (.cells #[.map (some m)] 64)) (fun _ _ h => h)
    have hk1 : (w.alloc (.cells #[.map (some m)] 64)).heap[w.heap.size]? = some (.cells #[.map (some m)] 64 (0, 0)) := heap_alloc_new w _
    have S1 := sorted_any w.heap.size m S.nb (mf S V) _ h1.map h1.wf.top hk1
    rw [keys_mf] at S1
    have HS1 : Hid (Calls _ _ _ _ _) := S1
    have C1 : Chg (fun _ => False) w (w.alloc (.cells #[.map (some m)] 64)) := Chg.alloc _ w _
    clear h1 hk1 S1 c1 c3
    generalize w.alloc (.cells #[.map (some m)] 64) = w1 at *
    go_wp2_with fail
    refine HS1.out.mono ?_
    rintro e w2 ⟨kv, rfl, hrow, hB⟩
    have C2 : Chg (fun _ => False) w w2 := C1.trans (S' := fun _ => False) ⟨hB.os, hB.tape, hB.output, hB.size, fun k hk _ => hB.block k hk⟩ (fun _ _ h => h)
    have hIs : Is w2 kv (S.keys.map fun n : Nat => (n : Int)) := Is.ofOwns (n := S.keys.length) (by rw [List.map_map]; exact hrow)
    have hkl : ∀ g, kv.ownBlock = some g → g ≠ s ∧ g ≠ m := fun g hg => by
      have h1 := Nat.le_trans C1.size (hrow.lt g hg).1
      have h2 := hlt s HH.out.fs
      have h3 := hlt m HH.out.fm
      omega
    have hI2 : Is w2 (.slice va ps.length vc) ps := HI.out.kept C2 (fun _ _ h => h)
    have hkK : S.keys.length ≤ 16384 := Nat.le_trans (Nat.le_trans (List.length_filter_le _ _) (by simp)) HH.out.wf.top
    obtain ⟨ka, kc, rfl, hkc⟩ := hIs.form
    simp only [List.length_map] at hkc hIs hkl
    have REL0 : DkAt w2 F p (S.cutTo ps (S.keys.take 0)) s sc m pv V ∧ Chg (fun k => k = s ∨ k = m) w2 w2 := ⟨HH.out.kept C2 (fun _ _ h => h), Chg.refl _ _⟩
    have HF : Hid (F s ∧ F m ∧ S.Wf) := ⟨HH.out.fs, HH.out.fm, HH.out.wf⟩
    clear hrow hB C1 HS1 HH HI
    obtain ⟨K, hK⟩ : ∃ K, S.keys.length = K := ⟨_, rfl⟩
    simp only [hK, List.length_map] at hkc hIs hkl hkK ⊢
    go_wp2_with fail
    go_loopw [4, 5, 6, 18] (fun _ _ _ x18 wr => ∃ i : Nat, i ≤ K ∧ x18 = .int .i64 (i : Int) ∧ DkAt wr F p (S.cutTo ps (S.keys.take i)) s sc m pv V ∧ Chg (fun k => k = s ∨ k = m) w2 wr) (fun _ _ _ x18 _ => K - (intOf x18).toNat)
    case atStart => exact ⟨0, Nat.zero_le _, rfl, REL0⟩
    case round =>
      clear REL0
      obtain ⟨i, hiK, rfl, hdk, hch⟩ := hrel
      by_cases hlti : i < K
      · have hr1 : Is wr (.slice ka K kc) (S.keys.map fun n : Nat => (n : Int)) := hIs.kept hch (fun g hg e => by have := hkl g hg; omega)
        have hr2 : Is wr (.slice va ps.length vc) ps := hI2.kept' hch (fun hne g hg e => by have := hv hne g hg; omega)
        obtain ⟨b, off, rfl, hcs⟩ := hr1.at (k := i) (by simpa [hK] using hlti)
        have hcell := hcs i (by simpa [hK] using hlti)
        have hgd : (S.keys.map fun n : Nat => (n : Int)).getD i 0 = ((S.keys.getD i 0 : Nat) : Int) := by simp [List.getD, hK, hlti]
        rw [hgd] at hcell
        have hstep := cutTo_take (S := S) (ps := ps) (i := i) (by omega)
        have hnm : S.keys.getD i 0 ∈ S.keys := by simp [List.getD, hK, hlti]
        have hnn := (St.keys_lt hnm).1
        have hcs0 := St.cutTo_same (S.keys.take i) S ps
        have hnn' : S.keys.getD i 0 < (S.cutTo ps (S.keys.take i)).nb := by rw [hcs0.1]; exact hnn
        have hx' : (S.cutTo ps (S.keys.take i)).writes < 1099511627776 := by rw [hcs0.2.1]; exact hx
        obtain ⟨la, lc, lk⟩ := hdk.lookLen hnn'
        have hfew := hdk.wf.few (S.keys.getD i 0)
        have c1 := hdk.c1
        have HD : Hid (DkAt wr F p (S.cutTo ps (S.keys.take i)) s sc m pv V) := hdk
        have HST : Hid (S.cutTo ps (S.keys.take (i + 1)) = (S.cutTo ps (S.keys.take i)).settle (S.keys.getD i 0) (St.pickN (ps.getD i 0) ((S.cutTo ps (S.keys.take i)).wait (S.keys.getD i 0)).length)) := hstep
        obtain ⟨S1, hS1⟩ : ∃ S1, S.cutTo ps (S.keys.take i) = S1 := ⟨_, rfl⟩
        obtain ⟨n, hn⟩ : ∃ n, S.keys.getD i 0 = n := ⟨_, rfl⟩
        rw [hS1, hn] at HST
        rw [hS1] at HD hx' hnn' hfew lk
        rw [hn] at hnn hnn' hcell lk hfew
        obtain ⟨L, hL⟩ : ∃ L, (S1.wait n).length = L := ⟨_, rfl⟩
        rw [hL] at HST hfew lk
        have hLx : L < 1099511627776 := by omega
        have HL : Hid ((S1.wait n).length = L) := hL
        have hnI : (n : Int) < 16384 := by have := HF.out.2.2.top; omega
        clear hdk hstep hnm hcs0 hgd hcs hr1 hS1 hn hL hIs
        have hKi : (i : Int) < (K : Int) := by omega
        by_cases hp : i < ps.length
        · obtain ⟨b2, off2, rfl, hcs2⟩ := hr2.at hp
          have hcell2 := hcs2 i hp
          have hpi : (i : Int) < (ps.length : Int) := by omega
          obtain ⟨q, hq⟩ : ∃ q, ps.getD i 0 = q := ⟨_, rfl⟩
          rw [hq] at HST hcell2
          clear hr2 hcs2 hq hI2
          go_wp2_with fail
          refine (rest_any q L wr hLx).mono ?_
          rintro e w3 ⟨rfl, rfl⟩
          go_wp2_with fail
          refine (settle_any F p S1 n (St.pickN q L) w3 HD.out hnn' (by rw [HL.out]; exact St.pickN_le q L) hx').mono ?_
          rintro e w4 ⟨rfl, hdk4, hc4, hs4, _⟩
          rw [← HST.out] at hdk4
          clear lk hcell hcell2 c1 HD hs4
          go_wp2
          go_roundw
          case rel => exact ⟨i + 1, by omega, by go_num, hdk4, hch.trans hc4 (fun _ _ h => h)⟩
          case measure => simp [intOf]; omega
        · have hpi : ¬ (i : Int) < (ps.length : Int) := by omega
          have hq : ps.getD i 0 = 0 := by simp [List.getD, List.getElem?_eq_none (Nat.le_of_not_lt hp)]
          rw [hq] at HST
          clear hr2 hq hI2
          go_wp2_with fail
          refine (rest_any 0 L wr hLx).mono ?_
          rintro e w3 ⟨rfl, rfl⟩
          go_wp2_with fail
          refine (settle_any F p S1 n (St.pickN 0 L) w3 HD.out hnn' (by rw [HL.out]; exact St.pickN_le 0 L) hx').mono ?_
          rintro e w4 ⟨rfl, hdk4, hc4, hs4, _⟩
          rw [← HST.out] at hdk4
          clear lk hcell c1 HD hs4
          go_wp2
          go_roundw
          case rel => exact ⟨i + 1, by omega, by go_num, hdk4, hch.trans hc4 (fun _ _ h => h)⟩
          case measure => simp [intOf]; omega
      · have hie : i = K := by omega
        subst hie
        rw [List.take_of_length_le (by omega)] at hdk
        have c3 := hdk.c3
        have f3 := hdk.fr 3
        obtain ⟨h5, hc5⟩ := hdk.setOff true
        have H5 : Hid (DkAt (wr.setCell ⟨p, 3, none⟩ (.bool true)) F p { S.cutTo ps S.keys with off := true } s sc m pv V) := h5
        have hfp := hdk.fp
        clear hdk h5 hIs hI2
        go_wp2_with fail
        refine (disarm_any F p { S.cutTo ps S.keys with off := true } _ ⟨s, sc, m, pv, V, H5.out⟩).mono ?_
        rintro e w6 ⟨rfl, h6, hc6⟩
        clear H5 c3 f3
        go_wp2
        go_end0
        refine ⟨rfl, F, h6, ?_, fun _ h => .inl h⟩
        refine ((C2.mono (fun _ _ h => h.elim)).trans hch (fun k _ e => ?_)).trans (hc5.trans hc6 (fun _ _ h => h)) (fun k _ e => by rw [e]; exact hfp)
        rcases e with rfl | rfl
        · exact HF.out.1
        · exact HF.out.2.1

theorem cut_any (F : Nat → Prop) (p : Nat) (S : St) (v : Value) (ps : List Int) (w : World) (h : Dk w F p S) (hi : Is w v ps) (hv : ∀ g, v.ownBlock = some g → ¬ F g) (hx : S.writes < 1099511627776) :
    Calls Try.prog 26 #[.pointer (some ⟨p, 0, none⟩), v] w fun e w' => e = .returned (.tuple #[]) ∧ To F p w w' (S.cut ps) := by
  obtain ⟨s, sc, m, pv, V, h⟩ := h
  exact cut_core F p S v ps w h hi (fun _ g hg => ⟨fun e => hv g hg (by rw [e]; exact h.fs), fun e => hv g hg (by rw [e]; exact h.fm)⟩) hx
theorem cut_arg (F : Nat → Prop) (p : Nat) (S : St) (v : Value) (ps : List Int) (w : World) (h : Dk w F p S) (hi : Is w v ps) (hv : ps ≠ [] → ∀ g, v.ownBlock = some g → ¬ F g) (hx : S.writes < 1099511627776) :
    Calls Try.prog 26 #[.pointer (some ⟨p, 0, none⟩), v] w fun e w' => e = .returned (.tuple #[]) ∧ To F p w w' (S.cut ps) := by
  obtain ⟨s, sc, m, pv, V, h⟩ := h
  exact cut_core F p S v ps w h hi (fun hne g hg => ⟨fun e => hv hne g hg (by rw [e]; exact h.fs), fun e => hv hne g hg (by rw [e]; exact h.fm)⟩) hx
theorem cut_own (F : Nat → Prop) (p : Nat) (S : St) (w : World) {s sc m : Nat} {pv : Value} {V : Nat → Value} (h : DkAt w F p S s sc m pv V) (hx : S.writes < 1099511627776) :
    Calls Try.prog 26 #[.pointer (some ⟨p, 0, none⟩), pv] w fun e w' => e = .returned (.tuple #[]) ∧ To F p w w' (S.cut S.picks) := by
  refine cut_core F p S pv S.picks w h (Is.ofOwns h.pk) (fun _ g hg => ?_) hx
  obtain ⟨c, hc⟩ := own_obj h.pk hg
  obtain ⟨cur, h0, _⟩ := h.srow
  obtain ⟨es, cl, hm⟩ := h.map.obj
  exact ⟨fun e => (by rw [e, h0] at hc; cases hc), fun e => (by rw [e, hm] at hc; cases hc)⟩
end Go.Proofs.Ytkkmdmnjlncgfaa
