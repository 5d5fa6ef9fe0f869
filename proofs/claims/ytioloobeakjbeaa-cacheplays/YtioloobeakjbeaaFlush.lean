/-
  The contract of Flush of package cache.
-/
import Derived.Test.YtioloobeakjbeaaDeleteF
namespace Go.Proofs.Ytioloobeakjbeaa
open Go.RowKit Go.Maps

theorem dirties_le (C : Ca) (nb : Nat) : (C.dirties nb).length ≤ nb := by
  have := List.length_filter_le (fun n => C.isDirty n) (List.range nb)
  rwa [List.length_range] at this
theorem dirties_has {C : Ca} {nb n : Nat} (h : n ∈ C.dirties nb) : C.has n = true := by
  have h1 := (List.mem_filter.1 h).2
  unfold Ca.isDirty at h1
  obtain ⟨i, hi, hc⟩ := List.any_eq_true.1 h1
  simp only [Bool.and_eq_true, beq_iff_eq] at hc
  exact Ca.has_iff.2 ⟨i, hi, hc.1⟩
theorem mod_has {C : Ca} {n k : Nat} {f : It → It} (hf : ∀ i, (f i).n = i.n) : (C.mod k f).has n = C.has n := by
  unfold Ca.has Ca.mod
  rw [List.any_map]
  congr 1
  funext i
  simp only [Function.comp]
  split
  · rw [hf]
  · rfl

theorem own_cells {W : World} {N g len cap : Nat} {X : List Nat} (hW : W.ownsRow N 3 1 (.slice (some ⟨g, 0, none⟩) len cap) len (icells X)) : ∀ j, j < X.length → W.cell? ⟨g, j, none⟩ = some (.int .i64 ((X.getD j 0 : Nat) : Int)) := fun j hj => by
  have := hW.cells (g := g) rfl j _ (icells_get hj)
  rwa [add_zero_off] at this

set_option maxHeartbeats 3200000 in
set_option maxRecDepth 100000 in
theorem flush_any (F G : Nat → Prop) (c p : Nat) (S : St) (C : Ca) (w : World) (h : Cc w F G c p S C) (hx : S.writes + 16384 < 1099511627776) :
    Calls Try.prog 27 #[.pointer (some ⟨c, 0, none⟩)] w fun e w' => e = .returned (.int .i64 (flush S C).e) ∧ CTo F G c p w w' (flush S C).S (flush S C).C := by
  obtain ⟨m, r, ls, nd, h⟩ := h
  have hnb := h.ca.nbt
  have hdl := dirties_le C S.nb
  have HD := dirty_any G c p S.nb C m r ls nd w h.ca
  have HDD : Hid _ := HD
  have HK : Hid (Ck w F G c p S C m r ls nd) := h
  have HFl : Hid (flush S C = if (flushTo S C (C.dirties S.nb)).e ≠ 0 then flushTo S C (C.dirties S.nb) else ⟨(flushTo S C (C.dirties S.nb)).S.syncE, (flushTo S C (C.dirties S.nb)).S.sync, (flushTo S C (C.dirties S.nb)).C⟩) := (show flush S C = _ from rfl)
  have HLH : Hid (∀ n ∈ C.dirties S.nb, C.has n = true) := (show ∀ n ∈ C.dirties S.nb, C.has n = true from fun n hn => dirties_has hn)
  generalize C.dirties S.nb = L at *
  clear h HD
  go_enter Try.func27, Try.ntmps27
  go_wp2_with fail
  refine (show Calls _ _ _ _ _ from HDD.out).mono ?_
  clear HDD
  rintro e w1 ⟨v, rfl, ho, hc⟩
  have K1 : Ck w1 F G c p S C m r ls nd := ⟨HK.out.dk.kept hc (fun _ _ h => h), HK.out.ca.kept hc (fun _ _ h => h), HK.out.no⟩
  have HK1 : Hid (Ck w1 F G c p S C m r ls nd ∧ Gr F G w w1 F G) := ⟨K1, Gr.new hc⟩
  have hvn : ∀ g, v.ownBlock = some g → ¬ F g ∧ ¬ G g ∧ g < w1.heap.size := fun g hg => by
    obtain ⟨h1, h2⟩ := ho.lt g hg
    exact ⟨fun e => by have := HK.out.dk.lt g e; omega, fun e => by have := HK.out.ca.lt g e; omega, h2⟩
  have HVN : Hid (∀ g, v.ownBlock = some g → ¬ F g ∧ ¬ G g ∧ g < w1.heap.size) := hvn
  have HV : Hid (w1.ownsRow w.heap.size 3 1 v L.length (icells L)) := ho
  obtain ⟨va, vc, hvf, _⟩ : ∃ a cp, v = .slice a L.length cp ∧ L.length ≤ cp := by
    rcases ho.2 with ⟨hv, h0⟩ | ⟨g, cap, cur, hv, _, _, h1, _⟩
    · exact ⟨none, 0, by rw [hv, h0], by omega⟩
    · exact ⟨_, _, hv, h1⟩
  subst hvf
  clear ho hc K1 hvn
  go_wp2_with fail
  go_loopg [4, 5, 9] (L.length) (fun gg _ _ x wr => ∃ (j : Nat) (Sj : St) (Cj : Ca) (Fj : Nat → Prop) (ndj : Nat → Node), j ≤ L.length ∧ x = .int .i64 (j : Int) ∧ L.length - j ≤ gg ∧
    Hid (Ck wr Fj G c p Sj Cj m r ls ndj ∧ Gr F G w1 wr Fj G ∧ flushTo S C L = flushTo Sj Cj (L.drop j) ∧ Sj.nb = S.nb ∧ Sj.writes ≤ S.writes + j ∧ ∀ n ∈ L, Cj.has n = true))
  case atStart => exact ⟨0, S, C, F, nd, Nat.zero_le _, rfl, by omega, HK1.out.1, Gr.refl _ _ _, rfl, rfl, Nat.le_refl _, HLH.out⟩
  case round =>
    obtain ⟨j, Sj, Cj, Fj, ndj, hj, rfl, hgg, HX⟩ := hrel
    have c2 := HX.out.1.ca.c2
    have c0 := HX.out.1.ca.c0
    by_cases hlt : j < L.length
    · have k1 : decide ((j : Int) < (L.length : Int)) = true := by simp; omega
      have k1' : (j : Int) < (L.length : Int) := by omega
      -- the number
      obtain ⟨g, hva⟩ : ∃ g, va = some ⟨g, 0, none⟩ := by
        rcases HV.out.2 with ⟨e, h0⟩ | ⟨g, cap, cur, e, _⟩
        · omega
        · simp at e; exact ⟨g, e.1⟩
      subst hva
      have hrow : w1.cell? ⟨g, j, none⟩ = some (.int .i64 ((L.getD j 0 : Nat) : Int)) := own_cells HV.out j hlt
      obtain ⟨n1, n2, n3⟩ := HVN.out g rfl
      have hcell : wr.cell? ⟨g, j, none⟩ = some (.int .i64 ((L.getD j 0 : Nat) : Int)) := HX.out.2.1.chg.cell hrow (fun e => by
        rcases e with e | e
        · exact n1 e
        · exact n2 e)
      have hmem : L.getD j 0 ∈ L := by
        have : L.getD j 0 = L[j] := by simp [List.getD, hlt]
        rw [this]; exact List.getElem_mem hlt
      obtain ⟨i, hi, hin⟩ := Ca.has_iff.1 (HX.out.2.2.2.2.2 _ hmem)
      rw [HX.out.1.ca.items] at hi
      obtain ⟨a, ha, hai⟩ := List.mem_map.1 hi
      have han : (ndj a).n = L.getD j 0 := by rw [← hin, ← hai]; rfl
      have lk0 := HX.out.1.ca.map.look HX.out.1.ca.nbt ha (HX.out.1.ca.nlt ha)
      rw [han] at lk0
      have lk : (Instr.lookup 74 (.map (some m)) (.int .i64 ((L.getD j 0 : Nat) : Int)) false).run Try.prog wr = .ok (.pointer (some ⟨a, 0, none⟩)) wr := lk0
      have hitem : Cj.item (L.getD j 0) = (ndj a).it := by rw [← han]; exact Ca.item_of HX.out.1.ca.wf (HX.out.1.ca.mem ha)
      have hft : flushTo S C L = if cleanE Sj (ndj a).it ≠ 0 then ⟨cleanE Sj (ndj a).it, cleanS Sj (ndj a).it, Cj⟩ else flushTo (cleanS Sj (ndj a).it) (Cj.mod (ndj a).n fun i => { i with dirty := false }) (L.drop (j + 1)) := by
        rw [HX.out.2.2.1, drop_head hlt]
        show (if cleanE Sj (Cj.item (L.getD j 0)) ≠ 0 then _ else _) = _
        rw [hitem, han]
      have HFT : Hid (flushTo S C L = if cleanE Sj (ndj a).it ≠ 0 then ⟨cleanE Sj (ndj a).it, cleanS Sj (ndj a).it, Cj⟩ else flushTo (cleanS Sj (ndj a).it) (Cj.mod (ndj a).n fun i => { i with dirty := false }) (L.drop (j + 1))) := hft
      have hcl := clean_any Fj G c p Sj Cj m r ls ndj a wr HX.out.1 ha (by have := HX.out.2.2.2.2.1; omega)
      have HCL : Hid _ := hcl
      generalize ((L.getD j 0 : Nat) : Int) = nn at *
      clear hft hcl hitem lk0 han hai hi hin ha hmem hrow n1 n2 n3
      go_wp2_with fail
      refine (show Calls _ _ _ _ _ from HCL.out).mono ?_
      rintro e w2 ⟨rfl, F2, d, k2, g2⟩
      have H2 : Hid (Ck w2 F2 G c p (cleanS Sj (ndj a).it) (cleanC Sj Cj (ndj a).it) m r ls (setD ndj a d) ∧ Gr Fj G wr w2 F2 G) := ⟨k2, g2⟩
      clear k2 g2 HCL lk hcell c2 c0
      obtain ⟨ce, hce⟩ : ∃ ce, cleanE Sj (ndj a).it = ce := ⟨_, rfl⟩
      have HCE : Hid (cleanE Sj (ndj a).it = ce) := hce
      rw [hce]
      clear hce
      by_cases hc0 : ce = 0
      · subst hc0
        go_wp2
        go_roundg (L.length - (j + 1))
        case measure => omega
        case rel =>
          have hCC : cleanC Sj Cj (ndj a).it = Cj.mod (ndj a).n fun i => { i with dirty := false } := by unfold cleanC; rw [if_pos HCE.out]; rfl
          have k2 := H2.out.1
          rw [hCC] at k2
          refine ⟨j + 1, cleanS Sj (ndj a).it, _, F2, _, by omega, by go_num, Nat.le_refl _, k2, HX.out.2.1.trans H2.out.2, ?_, (cleanS_nb _ _).trans HX.out.2.2.2.1, ?_, fun n hn => ?_⟩
          · rw [HFT.out, if_neg (by rw [HCE.out]; decide)]
          · have := cleanS_writes Sj (ndj a).it
            have := HX.out.2.2.2.2.1
            omega
          · rw [mod_has (f := fun i => { i with dirty := false }) (fun _ => rfl)]; exact HX.out.2.2.2.2.2 n hn
      · have hce0 : (ce == 0) = false := by simpa using hc0
        go_wp2
        go_ret
        have hCC : cleanC Sj Cj (ndj a).it = Cj := by unfold cleanC; rw [if_neg (by rw [HCE.out]; exact hc0)]
        have k2 := H2.out.1
        rw [hCC] at k2
        have hf : flushTo S C L = ⟨ce, cleanS Sj (ndj a).it, Cj⟩ := by rw [HFT.out, if_pos (by rw [HCE.out]; exact hc0), HCE.out]
        rw [HFl.out, hf, if_pos hc0]
        exact ⟨rfl, F2, G, ⟨_, _, _, _, k2⟩, (HK1.out.2.trans HX.out.2.1).trans H2.out.2⟩
    · have hje : j = L.length := by omega
      subst hje
      have k1 : decide ((L.length : Int) < (L.length : Int)) = false := by simp
      have hf : flushTo S C L = ⟨0, Sj, Cj⟩ := by rw [HX.out.2.2.1, List.drop_length]; rfl
      have HF : Hid (flush S C = ⟨Sj.syncE, Sj.sync, Cj⟩) := (show flush S C = ⟨Sj.syncE, Sj.sync, Cj⟩ by rw [HFl.out, hf, if_neg (by simp)])
      have hw : Sj.writes < 1099511627776 := by have := HX.out.2.2.2.2.1; omega
      clear c2 hf HFl
      go_wp2_with fail
      refine (sync_any Fj p Sj wr HX.out.1.dk hw).mono ?_
      rintro e w2 ⟨rfl, F2, d2, c2, f2⟩
      have H2 : Hid (Dk w2 F2 p Sj.sync ∧ Chg Fj wr w2 ∧ ∀ b, F2 b → Fj b ∨ wr.heap.size ≤ b) := ⟨d2, c2, f2⟩
      clear d2 c2 f2 c0
      go_wp2
      go_ret
      rw [HF.out]
      obtain ⟨d2, c2, f2⟩ := H2.out
      refine ⟨rfl, F2, G, ⟨m, r, ls, ndj, d2, ?_, fun b hb hg => ?_⟩, (HK1.out.2.trans HX.out.2.1).trans (Gr.ofTo c2 f2)⟩
      · rw [St.sync_nb]
        exact HX.out.1.ca.kept c2 (fun b hg hf => HX.out.1.no b hf hg)
      · rcases f2 b hb with e | e
        · exact HX.out.1.no b e hg
        · have := HX.out.1.ca.lt b hg; omega
end Go.Proofs.Ytioloobeakjbeaa
