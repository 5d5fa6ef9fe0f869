/-
  The contract of Cut of package block.
-/
import Derived.Test.YtnnaemlipahamaaGreatDisk
import Derived.Test.YtnnaemlipahamaaGreatKeys
namespace Go.Proofs.YtnnaemlipahamaaGreat
open Go.RowKit Go.Maps

theorem Is.at {w : World} {a : Option Addr} {c n k : Nat} {xs : List Int} (h : Is w (.slice a n c) xs) (hk : k < xs.length) : ∃ b off, a = some ⟨b, off, none⟩ ∧ ∀ j, j < xs.length → w.cell? ⟨b, off + j, none⟩ = some (.int .i64 (xs.getD j 0)) := by
  rcases h with ⟨e, rfl⟩ | ⟨x, c', e, hl, hm, hcell⟩
  · simp at hk
  · cases e
    obtain ⟨b, off, spot⟩ := x
    have h0 := hcell 0 (by omega)
    have hspot : spot = none := by simpa [Addr.add] using World.cell?_spot h0
    subst hspot
    refine ⟨b, off, rfl, fun j hj => ?_⟩
    have := hcell j hj
    unfold Addr.add at this
    split at this
    · rename_i e; subst e; simpa using this
    · exact this

theorem Is.kept' {E : Nat → Prop} {w w' : World} {v : Value} {xs : List Int} (h : Is w v xs) (hc : Chg E w w') (hn : xs ≠ [] → ∀ g, v.ownBlock = some g → ¬ E g) : Is w' v xs := by
  by_cases e : xs = []
  · subst e
    rcases h with h | ⟨a, c, rfl, hl, hm, _⟩
    · exact .inl h
    · exact .inr ⟨a, c, rfl, hl, hm, fun j hj => absurd hj (by simp)⟩
  · exact h.kept hc (hn e)

theorem keys_mf (S : St) (V : Nat → Value) : keysOf S.nb (mf S V) = S.keys := by
  unfold keysOf St.keys
  congr 1
  funext n
  unfold mf
  cases (S.wait n).isEmpty <;> rfl

theorem getD_tail (ps : List Int) (k : Nat) : ps.tail.getD k 0 = ps.getD (k + 1) 0 := by cases ps <;> simp [List.getD]
theorem cutTo_snoc : ∀ (ns : List Nat) (S : St) (ps : List Int) (n : Nat), S.cutTo ps (ns ++ [n]) = (S.cutTo ps ns).settle n (St.pickN (ps.getD ns.length 0) ((S.cutTo ps ns).wait n).length)
  | [], S, ps, n => by
    simp only [List.nil_append, St.cutTo, List.length_nil]
    congr 2
    cases ps <;> rfl
  | k :: ns, S, ps, n => by
    simp only [List.cons_append, St.cutTo, List.length_cons]
    rw [cutTo_snoc ns, getD_tail]

theorem cutTo_take {S : St} {ps : List Int} {i : Nat} (hi : i < S.keys.length) :
    S.cutTo ps (S.keys.take (i + 1)) = (S.cutTo ps (S.keys.take i)).settle (S.keys.getD i 0) (St.pickN (ps.getD i 0) ((S.cutTo ps (S.keys.take i)).wait (S.keys.getD i 0)).length) := by
  have e : S.keys.take (i + 1) = S.keys.take i ++ [S.keys.getD i 0] := by
    rw [List.take_add_one]; simp [List.getD, hi]
  rw [e, cutTo_snoc]
  congr 3
  rw [List.length_take]
  congr 1
  omega

theorem DkAt.lookLen {w : World} {F : Nat → Prop} {p : Nat} {S : St} {s sc m : Nat} {pv : Value} {V : Nat → Value} (h : DkAt w F p S s sc m pv V) {n : Nat} (hn : n < S.nb) : ∃ a c, (Instr.lookup 114 (.map (some m)) (.int .i64 (n : Int)) false).run Tryz.prog w = .ok (.slice a (S.wait n).length c) w := by
  have lk := h.look hn
  by_cases hw : S.wait n = []
  · rw [mf_none hw] at lk
    exact ⟨none, 0, by rw [lk, hw]; rfl⟩
  · rw [mf_some hw] at lk
    obtain ⟨a, c, e⟩ := h.form n (V n) hn (mf_some hw)
    exact ⟨a, c, by rw [lk, e]; rfl⟩

set_option maxHeartbeats 1600000 in
theorem cut_core (F : Nat → Prop) (p : Nat) (S : St) (v : Value) (ps : List Int) (w : World) {s sc m : Nat} {pv : Value} {V : Nat → Value} (h : DkAt w F p S s sc m pv V) (hi : Is w v ps) (hv : ps ≠ [] → ∀ g, v.ownBlock = some g → g ≠ s ∧ g ≠ m) (hx : S.writes < 1099511627776) :
    Calls Tryz.prog 87 #[.pointer (some ⟨p, 0, none⟩), v] w fun e w' => e = .returned (.tuple #[]) ∧ To F p w w' (S.cut ps) := by
  obtain ⟨va, vc, rfl, hvc⟩ := hi.form
  have c3 := h.c3
  by_cases hoff : S.off = true
  · have e2 : S.cut ps = S := by simp [St.cut, hoff]
    rw [e2]
    have HH : Hid (DkAt w F p S s sc m pv V) := h
    rw [hoff] at c3
    clear h e2
    go_enter Tryz.func87, Tryz.ntmps87
    go_wp2
    refine bodyPost_ret (results_none rfl _ _ _) rfl ?_
    exact ⟨rfl, To.refl ⟨s, sc, m, pv, V, HH.out⟩⟩
  · have e2 : S.cut ps = { S.cutTo ps S.keys with off := true, arm := 0, picks := [] } := by simp [St.cut, hoff]
    rw [e2]
    have hof : S.off = false := by simpa using hoff
    rw [hof] at c3
    have c1 := h.c1
    have hlt := h.lt
    have HH : Hid (DkAt w F p S s sc m pv V) := h
    have HI : Hid (Is w (.slice va ps.length vc) ps) := hi
    clear h e2 hoff hi
    go_enter Tryz.func87, Tryz.ntmps87
    go_wp2_with fail
    refine (keys_any (some m) w).mono ?_
    rintro e w1 ⟨rfl, rfl⟩
    have h1 := HH.out.kept (Chg.alloc (fun _ => False) w (.cells #[.map (some m)] 114)) (fun _ _ h => h)
    have hk1 : (w.alloc (.cells #[.map (some m)] 114)).heap[w.heap.size]? = some (.cells #[.map (some m)] 114 (0, 0)) := heap_alloc_new w _
    have S1 := sorted_any w.heap.size m S.nb (mf S V) _ h1.map h1.wf.top hk1
    rw [keys_mf] at S1
    have HS1 : Hid (Calls _ _ _ _ _) := S1
    have C1 : Chg (fun _ => False) w (w.alloc (.cells #[.map (some m)] 114)) := Chg.alloc _ w _
    clear h1 hk1 S1 c1 c3
    generalize w.alloc (.cells #[.map (some m)] 114) = w1 at *
    go_wp2_with fail
    refine HS1.out.mono ?_
    rintro e w2 ⟨kv, rfl, hrow, hB⟩
    have C2 : Chg (fun _ => False) w w2 := C1.trans (S' := fun _ => False) ⟨hB.os, hB.tape, hB.output, hB.size, fun k hk _ => hB.block k hk⟩ (fun _ _ h => h)
    have hIs : Is w2 kv (S.keys.map fun n : Nat => (n : Int)) := Is.ofOwns (n := S.keys.length) (by rw [List.map_map]; exact hrow)
    have hkl : ∀ g, kv.ownBlock = some g → g ≠ s ∧ g ≠ m := fun g hg => by
      have h1 := Nat.le_trans C1.size (hrow.lt g hg).1
      have h2 := hlt s HH.out.fs
      have h3 := hlt m HH.out.fm
      omega
    have hI2 : Is w2 (.slice va ps.length vc) ps := HI.out.kept C2 (fun _ _ h => h)
    have hkK : S.keys.length ≤ 16384 := Nat.le_trans (Nat.le_trans (List.length_filter_le _ _) (by simp)) HH.out.wf.top
    obtain ⟨ka, kc, rfl, hkc⟩ := hIs.form
    simp only [List.length_map] at hkc hIs hkl
    have REL0 : DkAt w2 F p (S.cutTo ps (S.keys.take 0)) s sc m pv V ∧ Chg (fun k => k = s ∨ k = m) w2 w2 := ⟨HH.out.kept C2 (fun _ _ h => h), Chg.refl _ _⟩
    have HF : Hid (F s ∧ F m ∧ S.Wf) := ⟨HH.out.fs, HH.out.fm, HH.out.wf⟩
    clear hrow hB C1 HS1 HH HI
    obtain ⟨K, hK⟩ : ∃ K, S.keys.length = K := ⟨_, rfl⟩
    simp only [hK, List.length_map] at hkc hIs hkl hkK ⊢
    go_wp2_with fail
    go_loopw [4, 5, 6, 18] (fun _ _ _ x18 wr => ∃ i : Nat, i ≤ K ∧ x18 = .int .i64 (i : Int) ∧ DkAt wr F p (S.cutTo ps (S.keys.take i)) s sc m pv V ∧ Chg (fun k => k = s ∨ k = m) w2 wr) (fun _ _ _ x18 _ => K - (intOf x18).toNat)
    case atStart => exact ⟨0, Nat.zero_le _, rfl, REL0⟩
    case round =>
      clear REL0
      obtain ⟨i, hiK, rfl, hdk, hch⟩ := hrel
      by_cases hlti : i < K
      · have hr1 : Is wr (.slice ka K kc) (S.keys.map fun n : Nat => (n : Int)) := hIs.kept hch (fun g hg e => by have := hkl g hg; omega)
        have hr2 : Is wr (.slice va ps.length vc) ps := hI2.kept' hch (fun hne g hg e => by have := hv hne g hg; omega)
        obtain ⟨b, off, rfl, hcs⟩ := hr1.at (k := i) (by simpa [hK] using hlti)
        have hcell := hcs i (by simpa [hK] using hlti)
        have hgd : (S.keys.map fun n : Nat => (n : Int)).getD i 0 = ((S.keys.getD i 0 : Nat) : Int) := by simp [List.getD, hK, hlti]
        rw [hgd] at hcell
        have hstep := cutTo_take (S := S) (ps := ps) (i := i) (by omega)
        have hnm : S.keys.getD i 0 ∈ S.keys := by simp [List.getD, hK, hlti]
        have hnn := (St.keys_lt hnm).1
        have hcs0 := St.cutTo_same (S.keys.take i) S ps
        have hnn' : S.keys.getD i 0 < (S.cutTo ps (S.keys.take i)).nb := by rw [hcs0.1]; exact hnn
        have hx' : (S.cutTo ps (S.keys.take i)).writes < 1099511627776 := by rw [hcs0.2.1]; exact hx
        obtain ⟨la, lc, lk⟩ := hdk.lookLen hnn'
        have hfew := hdk.wf.few (S.keys.getD i 0)
        have c1 := hdk.c1
        have HD : Hid (DkAt wr F p (S.cutTo ps (S.keys.take i)) s sc m pv V) := hdk
        have HST : Hid (S.cutTo ps (S.keys.take (i + 1)) = (S.cutTo ps (S.keys.take i)).settle (S.keys.getD i 0) (St.pickN (ps.getD i 0) ((S.cutTo ps (S.keys.take i)).wait (S.keys.getD i 0)).length)) := hstep
        obtain ⟨S1, hS1⟩ : ∃ S1, S.cutTo ps (S.keys.take i) = S1 := ⟨_, rfl⟩
        obtain ⟨n, hn⟩ : ∃ n, S.keys.getD i 0 = n := ⟨_, rfl⟩
        rw [hS1, hn] at HST
        rw [hS1] at HD hx' hnn' hfew lk
        rw [hn] at hnn hnn' hcell lk hfew
        obtain ⟨L, hL⟩ : ∃ L, (S1.wait n).length = L := ⟨_, rfl⟩
        rw [hL] at HST hfew lk
        have hLx : L < 1099511627776 := by omega
        have HL : Hid ((S1.wait n).length = L) := hL
        have hnI : (n : Int) < 16384 := by have := HF.out.2.2.top; omega
        clear hdk hstep hnm hcs0 hgd hcs hr1 hS1 hn hL hIs
        have hKi : (i : Int) < (K : Int) := by omega
        by_cases hp : i < ps.length
        · obtain ⟨b2, off2, rfl, hcs2⟩ := hr2.at hp
          have hcell2 := hcs2 i hp
          have hpi : (i : Int) < (ps.length : Int) := by omega
          obtain ⟨q, hq⟩ : ∃ q, ps.getD i 0 = q := ⟨_, rfl⟩
          rw [hq] at HST hcell2
          clear hr2 hcs2 hq hI2
          go_wp2_with fail
          refine (rest_any q L wr hLx).mono ?_
          rintro e w3 ⟨rfl, rfl⟩
          go_wp2_with fail
          refine (settle_any F p S1 n (St.pickN q L) w3 HD.out hnn' (by rw [HL.out]; exact St.pickN_le q L) hx').mono ?_
          rintro e w4 ⟨rfl, hdk4, hc4, hs4, _⟩
          rw [← HST.out] at hdk4
          clear lk hcell hcell2 c1 HD hs4
          go_wp2
          go_roundw
          case rel => exact ⟨i + 1, by omega, by go_num, hdk4, hch.trans hc4 (fun _ _ h => h)⟩
          case measure => simp [intOf]; omega
        · have hpi : ¬ (i : Int) < (ps.length : Int) := by omega
          have hq : ps.getD i 0 = 0 := by simp [List.getD, List.getElem?_eq_none (Nat.le_of_not_lt hp)]
          rw [hq] at HST
          clear hr2 hq hI2
          go_wp2_with fail
          refine (rest_any 0 L wr hLx).mono ?_
          rintro e w3 ⟨rfl, rfl⟩
          go_wp2_with fail
          refine (settle_any F p S1 n (St.pickN 0 L) w3 HD.out hnn' (by rw [HL.out]; exact St.pickN_le 0 L) hx').mono ?_
          rintro e w4 ⟨rfl, hdk4, hc4, hs4, _⟩
          rw [← HST.out] at hdk4
          clear lk hcell c1 HD hs4
          go_wp2
          go_roundw
          case rel => exact ⟨i + 1, by omega, by go_num, hdk4, hch.trans hc4 (fun _ _ h => h)⟩
          case measure => simp [intOf]; omega
      · have hie : i = K := by omega
        subst hie
        rw [List.take_of_length_le (by omega)] at hdk
        have c3 := hdk.c3
        have f3 := hdk.fr 3
        obtain ⟨h5, hc5⟩ := hdk.setOff true
        have H5 : Hid (DkAt (wr.setCell ⟨p, 3, none⟩ (.bool true)) F p { S.cutTo ps S.keys with off := true } s sc m pv V) := h5
        have hfp := hdk.fp
        clear hdk h5 hIs hI2
        go_wp2_with fail
        refine (disarm_any F p { S.cutTo ps S.keys with off := true } _ ⟨s, sc, m, pv, V, H5.out⟩).mono ?_
        rintro e w6 ⟨rfl, h6, hc6⟩
        clear H5 c3 f3
        go_wp2
        go_end0
        refine ⟨rfl, F, h6, ?_, fun _ h => .inl h⟩
        refine ((C2.mono (fun _ _ h => h.elim)).trans hch (fun k _ e => ?_)).trans (hc5.trans hc6 (fun _ _ h => h)) (fun k _ e => by rw [e]; exact hfp)
        rcases e with rfl | rfl
        · exact HF.out.1
        · exact HF.out.2.1

theorem cut_any (F : Nat → Prop) (p : Nat) (S : St) (v : Value) (ps : List Int) (w : World) (h : Dk w F p S) (hi : Is w v ps) (hv : ∀ g, v.ownBlock = some g → ¬ F g) (hx : S.writes < 1099511627776) :
    Calls Tryz.prog 87 #[.pointer (some ⟨p, 0, none⟩), v] w fun e w' => e = .returned (.tuple #[]) ∧ To F p w w' (S.cut ps) := by
  obtain ⟨s, sc, m, pv, V, h⟩ := h
  exact cut_core F p S v ps w h hi (fun _ g hg => ⟨fun e => hv g hg (by rw [e]; exact h.fs), fun e => hv g hg (by rw [e]; exact h.fm)⟩) hx
theorem cut_arg (F : Nat → Prop) (p : Nat) (S : St) (v : Value) (ps : List Int) (w : World) (h : Dk w F p S) (hi : Is w v ps) (hv : ps ≠ [] → ∀ g, v.ownBlock = some g → ¬ F g) (hx : S.writes < 1099511627776) :
    Calls Tryz.prog 87 #[.pointer (some ⟨p, 0, none⟩), v] w fun e w' => e = .returned (.tuple #[]) ∧ To F p w w' (S.cut ps) := by
  obtain ⟨s, sc, m, pv, V, h⟩ := h
  exact cut_core F p S v ps w h hi (fun hne g hg => ⟨fun e => hv hne g hg (by rw [e]; exact h.fs), fun e => hv hne g hg (by rw [e]; exact h.fm)⟩) hx
theorem cut_own (F : Nat → Prop) (p : Nat) (S : St) (w : World) {s sc m : Nat} {pv : Value} {V : Nat → Value} (h : DkAt w F p S s sc m pv V) (hx : S.writes < 1099511627776) :
    Calls Tryz.prog 87 #[.pointer (some ⟨p, 0, none⟩), pv] w fun e w' => e = .returned (.tuple #[]) ∧ To F p w w' (S.cut S.picks) := by
  refine cut_core F p S pv S.picks w h (Is.ofOwns h.pk) (fun _ g hg => ?_) hx
  obtain ⟨c, hc⟩ := own_obj h.pk hg
  obtain ⟨cur, h0, _⟩ := h.srow
  obtain ⟨es, cl, hm⟩ := h.map.obj
  exact ⟨fun e => (by rw [e, h0] at hc; cases hc), fun e => (by rw [e, hm] at hc; cases hc)⟩
end Go.Proofs.YtnnaemlipahamaaGreat

namespace Go.Proofs.YtnnaemlipahamaaGreat
open Go.RowKit Go.Maps

theorem info32 : (Tryz.prog.info? 33).map (fun i => (i.zero, i.size, i.bytes)) = some (some (.slice none 0 0), 1, 24) := by kernel_rfl

theorem mf_added (S : St) (V : Nat → Value) (n : Nat) (b : List Int) (W : Nat) (v : Value) : mf (S.added n b W) (upd V n v) = upd (mf S V) n (some v) := by
  funext k
  by_cases e : k = n
  · subst e
    rw [upd_same, mf_some (by simp [St.added, upd_same]), upd_same]
  · rw [upd_other _ _ e]
    unfold mf
    have : (S.added n b W).wait k = S.wait k := upd_other _ _ e
    rw [this, upd_other _ _ e]

/-- The list at block n, before: nil, or the versions. -/
theorem DkAt.old {w : World} {F : Nat → Prop} {p : Nat} {S : St} {s sc m : Nat} {pv : Value} {V : Nat → Value} (h : DkAt w F p S s sc m pv V) {n : Nat} (hn : n < S.nb) :
    ∃ oa oc, (mf S V n).getD (.slice none 0 0) = .slice oa (S.wait n).length oc ∧ Vers w F s (.slice oa (S.wait n).length oc) (S.wait n) ∧ (∀ g, (Value.slice oa (S.wait n).length oc).ownBlock = some g → S.wait n ≠ [] ∧ (V n).ownBlock = some g) := by
  by_cases hw : S.wait n = []
  · refine ⟨none, 0, by rw [mf_none hw, hw]; rfl, ?_, fun g hg => by cases hg⟩
    rw [hw]
    exact ⟨[], World.ownsRow_nil _ _ _ _, fun j hj => by simp at hj⟩
  · obtain ⟨a, c, e⟩ := h.form n (V n) hn (mf_some hw)
    refine ⟨a, c, by rw [mf_some hw]; exact e, ?_, fun g hg => ⟨hw, by rw [e]; exact hg⟩⟩
    rw [← e]
    exact h.row n hw

theorem push_core {w w2 : World} {F : Nat → Prop} {p : Nat} {S : St} {s sc m : Nat} {pv : Value} {V : Nat → Value} (h : DkAt w F p S s sc m pv V) {n : Nat} (hn : n < S.nb) {b : List Int} (_hb : b.length = 512) (hx : S.writes < 1099511627776)
    {oa : Option Addr} {oc : Nat} (ho : (mf S V n).getD (.slice none 0 0) = .slice oa (S.wait n).length oc) (hvers : Vers w F s (.slice oa (S.wait n).length oc) (S.wait n)) (hob : ∀ g, (Value.slice oa (S.wait n).length oc).ownBlock = some g → S.wait n ≠ [] ∧ (V n).ownBlock = some g)
    {g c : Nat} (hu : w2.ownsRow w.heap.size 5 1 (.slice (some ⟨g, 0, none⟩) 512 c) 512 (bcells b)) (hc : Chg (fun _ => False) w w2) :
    ∃ v' w4 w5, (Builtin.append_ #[57, 57] 57 #[.slice oa (S.wait n).length oc, .slice (some ⟨w2.heap.size, 0, none⟩) 1 1]).run Tryz.prog (w2.alloc (.cells #[.slice (some ⟨g, 0, none⟩) 512 c] 33)) = .ok v' w4 ∧
      (Instr.mapUpdate 114 (.map (some m)) (.int .i64 (n : Int)) v').run Tryz.prog w4 = .ok () w5 ∧
      w4.heap[p]? = w.heap[p]? ∧ w5.heap[p]? = w.heap[p]? ∧
      ∀ w6 W, Chg (fun k => k = p) w5 w6 → w6.heap.size = w5.heap.size → (S.added n b W).Wf → w6.heap[p]? = some (.cells #[.slice (some ⟨s, 0, none⟩) (512 * S.nb) sc, .map (some m), .int .i64 (W : Int), .bool S.off, .int .i64 S.arm, pv] 116 (0, 0)) → To F p w w6 (S.added n b W) := by
  obtain ⟨i0, hi, hz0, hz1, hz2⟩ := info_parts info32
  have hfw := h.wf.few n
  obtain ⟨us, hous, hus⟩ := hvers
  have hlus : us.length = (S.wait n).length := by have := hous.1; simpa using this
  have hc3 : Chg (fun _ => False) w (w2.alloc (.cells #[.slice (some ⟨g, 0, none⟩) 512 c] 33)) := hc.trans (Chg.alloc (fun _ => False) w2 _) (fun _ _ h => h)
  have hob3 : ∀ {e : TypeId} {v : Value} {k : Nat} {xs : List Value}, w.ownsRow 0 e 1 v k xs → (w2.alloc (.cells #[.slice (some ⟨g, 0, none⟩) 512 c] 33)).ownsRow 0 e 1 v k xs := fun ho => own_same ho (fun gg hgg => hc3.block gg (ho.lt gg hgg).2 (fun h => h))
  obtain ⟨v', w4, hr, ho4, hg4, _, hat⟩ := run_append_own_at (P := Tryz.prog) (w2.alloc (.cells #[.slice (some ⟨g, 0, none⟩) 512 c] 33)) 0 57 57 33 i0 (.slice none 0 0) 1 24 Tryz.underlying57 hi hz0 hz1 hz2 rfl (by decide) (.slice oa (S.wait n).length oc) (S.wait n).length us (hob3 hous)
    ⟨w2.heap.size, 0, none⟩ 1 1 [.slice (some ⟨g, 0, none⟩) 512 c] rfl (fun j u hj => by
      have h0 : j = 0 := by have := (List.getElem?_eq_some_iff.1 hj).1; simp at this; exact this
      subst h0
      have hju : u = .slice (some ⟨g, 0, none⟩) 512 c := by simpa using hj.symm
      subst hju
      exact cell_one_new w2 _ 33 0 _ rfl) (fun u hu => by simp at hu; rw [hu]; rfl) (by unfold maxLen; omega) (by omega) (Nat.zero_le _)
  -- which blocks are which
  obtain ⟨es, cl, hmo⟩ := h.map.obj
  obtain ⟨cur, hso, _, _⟩ := h.srow
  have hpl := h.pobj
  have hml := h.map.lt
  have hsl := h.lt s h.fs
  have orow : ∀ gg, (Value.slice oa (S.wait n).length oc).ownBlock = some gg → (∃ cu, w.heap[gg]? = some (.cells cu 33 (0, 0))) ∧ F gg := fun gg hgg => ⟨own_obj hous hgg, h.fv n gg (hob gg hgg).1 (hob gg hgg).2⟩
  have ne_o : ∀ {k : Nat} {o : Obj}, w.heap[k]? = some o → (∀ cu, o ≠ .cells cu 33 (0, 0)) → some k ≠ (Value.slice oa (S.wait n).length oc).ownBlock := fun hk hno e => by
    obtain ⟨⟨cu, hcu⟩, _⟩ := orow _ e.symm
    rw [hk] at hcu; cases hcu; exact hno _ rfl
  have b4 : ∀ k, k < w.heap.size → some k ≠ (Value.slice oa (S.wait n).length oc).ownBlock → w4.heap[k]? = w.heap[k]? := fun k hk hne =>
    (hg4.block k (Nat.lt_of_lt_of_le hk hc3.size) hne).trans (hc3.block k hk (fun h => h))
  have hm4 : MapIs w4 m S.nb (mf S V) := h.map.kept (b4 m hml (ne_o hmo (fun _ e => by cases e)))
  obtain ⟨w5, hup, hm5, hg5, hz5⟩ := hm4.store h.wf.top hn v'
  have hpm : p ≠ m := by rintro rfl; have := h.blk; rw [hmo] at this; cases this
  have hps : p ≠ s := by rintro rfl; have := h.blk; rw [hso] at this; cases this
  have hsm : s ≠ m := by rintro rfl; rw [hso] at hmo; cases hmo
  have s43 : w.heap.size ≤ w4.heap.size := Nat.le_trans hc3.size hg4.size
  have b5 : ∀ k, k < w4.heap.size → k ≠ m → w5.heap[k]? = w4.heap[k]? := fun k hk hne => hg5.block k hk (by simpa using hne)
  have p4 : w4.heap[p]? = w.heap[p]? := b4 p hpl (ne_o h.blk (fun _ e => by cases e))
  have p5 : w5.heap[p]? = w.heap[p]? := (b5 p (by omega) hpm).trans p4
  refine ⟨v', w4, w5, hr, hup, p4, p5, ?_⟩
  intro w6 W hch6 s6 hwf hb6
  have b6 : ∀ k, k < w5.heap.size → k ≠ p → w6.heap[k]? = w5.heap[k]? := fun k hk hne => hch6.block k hk hne
  have all : ∀ k, k < w.heap.size → k ≠ p → k ≠ m → some k ≠ (Value.slice oa (S.wait n).length oc).ownBlock → w6.heap[k]? = w.heap[k]? := fun k hk h1 h2 h3 =>
    (b6 k (by omega) h1).trans ((b5 k (by omega) h2).trans (b4 k hk h3))
  have hgl := (hu.lt g rfl)
  have hg24 : g < (w2.alloc (.cells #[.slice (some ⟨g, 0, none⟩) 512 c] 33)).heap.size := by simp; omega
  -- new blocks, from w2 on
  have nb : ∀ k, w.heap.size ≤ k → k < w2.heap.size → w6.heap[k]? = w2.heap[k]? := fun k h1 h2 => by
    have e3 : (w2.alloc (.cells #[.slice (some ⟨g, 0, none⟩) 512 c] 33)).heap[k]? = w2.heap[k]? := Below.heap_alloc w2 _ k h2
    have hne : some k ≠ (Value.slice oa (S.wait n).length oc).ownBlock := fun e => by have := (hous.lt k e.symm).2; omega
    have h4 := hg4.block k (by simp; omega) hne
    have hs4 := hg4.size
    simp at hs4
    rw [b6 k (by omega) (by omega), b5 k (by omega) (by omega), h4, e3]
  have hv4 : ∀ gg, v'.ownBlock = some gg → ((Value.slice oa (S.wait n).length oc).ownBlock = some gg ∨ w.heap.size ≤ gg) ∧ gg < w6.heap.size ∧ gg ≠ p ∧ gg ≠ m := fun gg hgg => by
    obtain ⟨cu, hcu⟩ := own_obj ho4 hgg
    have hl4 := (ho4.lt gg hgg).2
    refine ⟨?_, by omega, ?_, ?_⟩
    · rcases hat with e | e
      · exact .inl (by rw [← e]; exact hgg)
      · right
        rw [e] at hgg
        simp at hgg
        have := hc.size
        omega
    · rintro rfl
      rw [p4, h.blk] at hcu; cases hcu
    · rintro rfl
      obtain ⟨_, _, hm4o⟩ := hm4.obj
      rw [hm4o] at hcu; cases hcu
  have ho6 : w6.ownsRow 0 33 1 v' ((S.wait n).length + 1) (us ++ [.slice (some ⟨g, 0, none⟩) 512 c]) := own_same ho4 (fun gg hgg => by
    obtain ⟨_, h1, h2, h3⟩ := hv4 gg hgg
    rw [b6 gg (by omega) h2, b5 gg (ho4.lt gg hgg).2 h3])
  have hF : ∀ b', more F w.heap.size w6.heap.size b' → b' < w6.heap.size := fun b' hb' => by
    rcases hb' with h1 | h1
    · have := h.lt b' h1; omega
    · exact h1.2
  refine ⟨more F w.heap.size w6.heap.size, ⟨s, sc, m, pv, upd V n v', ⟨hwf, hb6, ?_, ?_, ?_, ?_, ?_, .inl h.fp, .inl h.fs, .inl h.fm, ?_, fun gg hgg => .inl (h.fk gg hgg), hF⟩⟩, ?_, fun b' hb' => ?_⟩
  · exact own_same h.syn (fun gg hgg => by cases hgg; exact all s hsl hps.symm hsm (ne_o hso (fun _ e => by cases e)))
  · rw [mf_added]
    exact hm5.kept (b6 m (by have := hm5.lt; omega) hpm.symm)
  · intro k hk
    by_cases e : k = n
    · subst e
      rw [upd_same]
      have ew : (S.added k b W).wait k = S.wait k ++ [b] := upd_same _ _ _
      rw [ew]
      refine ⟨us ++ [.slice (some ⟨g, 0, none⟩) 512 c], by simpa using ho6, fun j hj => ?_⟩
      by_cases hjl : j < (S.wait k).length
      · obtain ⟨g1, c1, e1, hr1, hs1, hf1⟩ := hus j hjl
        refine ⟨g1, c1, by rw [List.getElem?_append_left (by omega)]; exact e1, ?_, hs1, .inl hf1⟩
        have e2 : (S.wait k ++ [b]).getD j [] = (S.wait k).getD j [] := by simp [List.getD, List.getElem?_append_left hjl]
        rw [e2]
        obtain ⟨cu, hcu⟩ := own_obj hr1 rfl
        exact own_same hr1 (fun gg hgg => by cases hgg; exact all g1 (h.lt _ hf1) (by rintro rfl; rw [h.blk] at hcu; cases hcu) (by rintro rfl; rw [hmo] at hcu; cases hcu) (ne_o hcu (fun _ e => by cases e)))
      · have hje : j = (S.wait k).length := by simp at hj; omega
        subst hje
        refine ⟨g, c, by rw [List.getElem?_append_right (by omega)]; simp [hlus], ?_, by omega, .inr ⟨hgl.1, by have := hg4.size; simp at this; omega⟩⟩
        have e2 : (S.wait k ++ [b]).getD (S.wait k).length [] = b := by simp [List.getD]
        rw [e2]
        exact own_same (own_mono hu (Nat.zero_le _)) (fun gg hgg => by cases hgg; exact nb g hgl.1 hgl.2)
    · have ew : (S.added n b W).wait k = S.wait k := upd_other _ _ e
      rw [ew] at hk ⊢
      rw [upd_other _ _ e]
      have hv := h.row k hk
      refine (hv.kept (fun gg hgg => ?_) (fun gg hf hgs ⟨cu, hcu⟩ => all gg (h.lt _ hf) (by rintro rfl; rw [h.blk] at hcu; cases hcu) (by rintro rfl; rw [hmo] at hcu; cases hcu) (ne_o hcu (fun _ e => by cases e)))).mono (fun _ h => .inl h)
      obtain ⟨us2, h1, _⟩ := hv
      obtain ⟨cu, hcu⟩ := own_obj h1 hgg
      refine all gg (h1.lt gg hgg).2 (by rintro rfl; rw [h.blk] at hcu; cases hcu) (by rintro rfl; rw [hmo] at hcu; cases hcu) (fun e2 => ?_)
      obtain ⟨hw, hVn⟩ := hob gg e2.symm
      exact h.apart k n gg hk hw e hgg hVn
  · intro a k gg ha hk hne
    have aux : ∀ j, (S.added n b W).wait j ≠ [] → j ≠ n → S.wait j ≠ [] := fun j hj e => by
      have ew : (S.added n b W).wait j = S.wait j := upd_other _ _ e
      rw [ew] at hj; exact hj
    have one : ∀ j, j ≠ n → S.wait j ≠ [] → (V j).ownBlock = some gg → v'.ownBlock ≠ some gg := fun j e hj hVj hv' => by
      rcases (hv4 gg hv').1 with h1 | h1
      · obtain ⟨hw, hVn⟩ := hob gg h1
        exact h.apart j n gg hj hw e hVj hVn
      · have := h.lt gg (h.fv j gg hj hVj); omega
    by_cases e1 : a = n
    · subst e1
      have e2 : k ≠ a := fun e => hne e.symm
      rw [upd_same, upd_other _ _ e2]
      exact fun hv' hVk => one k e2 (aux k hk e2) hVk hv'
    · by_cases e2 : k = n
      · subst e2
        rw [upd_same, upd_other _ _ e1]
        exact fun hVa => one a e1 (aux a ha e1) hVa
      · rw [upd_other _ _ e1, upd_other _ _ e2]
        exact h.apart a k gg (aux a ha e1) (aux k hk e2) hne
  · refine own_same h.pk (fun gg hgg => ?_)
    obtain ⟨cu, hcu⟩ := own_obj h.pk hgg
    exact all gg (h.pk.lt gg hgg).2 (by rintro rfl; rw [h.blk] at hcu; cases hcu) (by rintro rfl; rw [hmo] at hcu; cases hcu) (ne_o hcu (fun _ e => by cases e))
  · intro k gg hk hgg
    by_cases e : k = n
    · subst e
      rw [upd_same] at hgg
      obtain ⟨h1, h2, _⟩ := hv4 gg hgg
      rcases h1 with h1 | h1
      · exact .inl (orow gg h1).2
      · exact .inr ⟨h1, h2⟩
    · have ew : (S.added n b W).wait k = S.wait k := upd_other _ _ e
      rw [ew] at hk
      rw [upd_other _ _ e] at hgg
      exact .inl (h.fv k gg hk hgg)
  · refine ⟨?_, ?_, ?_, by omega, fun k hk hne => all k hk (fun e => hne (by rw [e]; exact h.fp)) (fun e => hne (by rw [e]; exact h.fm)) (fun e => hne (orow k e.symm).2)⟩
    · rw [hch6.os, hg5.os, hg4.os, hc3.os]
    · rw [hch6.tape, hg5.tape, hg4.tape, hc3.tape]
    · rw [hch6.output, hg5.output, hg4.output, hc3.output]
  · rcases hb' with h1 | h1
    · exact .inl h1
    · exact .inr h1.1

theorem push_facts {w w2 : World} {F : Nat → Prop} {p : Nat} {S : St} {s sc m : Nat} {pv : Value} {V : Nat → Value} (h : DkAt w F p S s sc m pv V) {n : Nat} (hn : n < S.nb) {b : List Int} (hb : b.length = 512) (hx : S.writes < 1099511627776)
    {oa : Option Addr} {oc : Nat} (ho : (mf S V n).getD (.slice none 0 0) = .slice oa (S.wait n).length oc) (hvers : Vers w F s (.slice oa (S.wait n).length oc) (S.wait n)) (hob : ∀ g, (Value.slice oa (S.wait n).length oc).ownBlock = some g → S.wait n ≠ [] ∧ (V n).ownBlock = some g)
    {g c : Nat} (hu : w2.ownsRow w.heap.size 5 1 (.slice (some ⟨g, 0, none⟩) 512 c) 512 (bcells b)) (hc : Chg (fun _ => False) w w2) :
    ∃ v' w4 w5, (Builtin.append_ #[57, 57] 57 #[.slice oa (S.wait n).length oc, .slice (some ⟨w2.heap.size, 0, none⟩) 1 1]).run Tryz.prog (w2.alloc (.cells #[.slice (some ⟨g, 0, none⟩) 512 c] 33)) = .ok v' w4 ∧
      (Instr.mapUpdate 114 (.map (some m)) (.int .i64 (n : Int)) v').run Tryz.prog w4 = .ok () w5 ∧
      w4.cell? ⟨p, 1, none⟩ = some (.map (some m)) ∧ w5.cell? ⟨p, 1, none⟩ = some (.map (some m)) ∧ w5.cell? ⟨p, 2, none⟩ = some (.int .i64 (S.writes : Int)) ∧ w5.frozen? ⟨p, 2, none⟩ = false ∧
      To F p w (w5.setCell ⟨p, 2, none⟩ (.int .i64 ((S.writes : Int) + 1))) (S.wrote n b) := by
  obtain ⟨v', w4, w5, hr, hup, p4, p5, hto⟩ := push_core h hn hb hx ho hvers hob hu hc
  refine ⟨v', w4, w5, hr, hup, ?_, ?_, ?_, ?_, ?_⟩
  · rw [World.cell?_of_block (a := ⟨p, 1, none⟩) p4]; exact h.c1
  · rw [World.cell?_of_block (a := ⟨p, 1, none⟩) p5]; exact h.c1
  · rw [World.cell?_of_block (a := ⟨p, 2, none⟩) p5]; exact h.c2
  · rw [World.frozen?_of_block (a := ⟨p, 2, none⟩) p5]; exact h.fr 2
  · refine hto _ (S.writes + 1) (Chg.setCell _ _ _ rfl) (by simp) (St.wrote_wf h.wf hn hb) ?_
    have := heap_setCell_same w5 p 2 _ _ (.int .i64 ((S.writes : Int) + 1)) (p5.trans h.blk)
    simp at this
    exact this
end Go.Proofs.YtnnaemlipahamaaGreat
