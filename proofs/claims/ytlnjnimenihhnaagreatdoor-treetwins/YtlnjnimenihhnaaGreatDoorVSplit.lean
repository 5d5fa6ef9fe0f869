/-
  The document's Split.
-/
import Derived.Test.YtlnjnimenihhnaaGreatDoorPUnder
import Derived.Test.YtlnjnimenihhnaaGreatDoorVMem
namespace Go.Proofs.YtlnjnimenihhnaaGreatDoor
open Go.RowKit

theorem b47 {x : UInt8} (h : (x.toNat : Int) = 47) : x = 47 := by
  refine UInt8.toNat_inj.1 ?_
  have : x.toNat = 47 := by omega
  rw [this]; rfl
/-- No stroke from p to k. -/
def noSl (s : ByteArray) (p k : Nat) : Prop := ∀ j, (hj : j < s.size) → p ≤ j → j < k → s[j] ≠ 47
theorem ext_list (s : ByteArray) (p k : Nat) : (s.extract p k).data.toList = (s.data.toList.drop p).take (k - p) := by
  rw [ByteArray.data_extract, Array.toList_extract, List.extract_eq_take_drop]
theorem mem_seg {s : ByteArray} {p k : Nat} (h : noSl s p k) (hk : k ≤ s.size) : ∀ x ∈ (s.data.toList.drop p).take (k - p), x ≠ 47 := by
  intro x hx
  obtain ⟨j, hj, rfl⟩ := List.mem_iff_getElem.1 hx
  have e : s.size = s.data.toList.length := by simp
  rw [List.length_take, List.length_drop] at hj
  rw [List.getElem_take, List.getElem_drop]
  exact h (p + j) (by omega) (by omega) (by omega)
theorem seg_at {s : ByteArray} {p k : Nat} (h : noSl s p k) (hp : p ≤ k) (hk : k < s.size) (h47 : s[k] = 47) : cutL (s.data.toList.drop p) = (s.extract p k).data.toList :: cutL (s.data.toList.drop (k + 1)) := by
  have e : s.data.toList.drop p = (s.data.toList.drop p).take (k - p) ++ 47 :: s.data.toList.drop (k + 1) := by
    have hk' : k < s.data.toList.length := by simpa using hk
    have e47 : s.data.toList[k] = 47 := h47
    have h1 : (s.data.toList.drop p).drop (k - p) = 47 :: s.data.toList.drop (k + 1) := by
      rw [List.drop_drop, ← e47, ← List.drop_eq_getElem_cons hk']
      congr 1; omega
    rw [← h1, List.take_append_drop]
  rw [ext_list]
  conv => lhs; rw [e]
  exact cutL_at _ _ (mem_seg h (by omega))
theorem seg_end {s : ByteArray} {p : Nat} (h : noSl s p s.size) : cutL (s.data.toList.drop p) = [(s.extract p s.size).data.toList] := by
  rw [ext_drop]
  refine cutL_none _ fun x hx => mem_seg h (Nat.le_refl _) x ?_
  rw [List.take_of_length_le]
  · exact hx
  · rw [List.length_drop]
    have e : s.size = s.data.toList.length := by simp
    omega
/-- Names so far (ns), the next one from p on, k being looked at. -/
def SpR (s : ByteArray) (ns : List ByteArray) (p k : Nat) : Prop :=
  ns.all nameB = true ∧ 1 ≤ k ∧ ((p ≤ k ∧ k ≤ s.size ∧ noSl s p k ∧ (cutL (s.data.toList.drop 1)).map bl = ns ++ (cutL (s.data.toList.drop p)).map bl) ∨ (k = s.size + 1 ∧ (cutL (s.data.toList.drop 1)).map bl = ns))
theorem SpR.skip {s : ByteArray} {ns : List ByteArray} {p k : Nat} (h : SpR s ns p k) (hk : k < s.size) (h47 : ¬ s[k] = 47) : SpR s ns p (k + 1) := by
  obtain ⟨h1, h2, h3 | h3⟩ := h
  · refine ⟨h1, by omega, .inl ⟨by omega, by omega, fun j hj hp hl => ?_, h3.2.2.2⟩⟩
    rcases (by omega : j < k ∨ j = k) with h | rfl
    · exact h3.2.2.1 j hj hp h
    · exact h47
  · omega
theorem SpR.name {s : ByteArray} {ns : List ByteArray} {p k : Nat} (h : SpR s ns p k) (hk : k ≤ s.size) (h47 : (hk : k < s.size) → s[k] = 47) : p ≤ k ∧ ∃ r, (cutL (s.data.toList.drop 1)).map bl = ns ++ s.extract p k :: r ∧ ((hn : nameB (s.extract p k) = true) → SpR s (ns ++ [s.extract p k]) (k + 1) (k + 1)) := by
  obtain ⟨h1, h2, h3 | h3⟩ := h
  · obtain ⟨a, b, c, d⟩ := h3
    refine ⟨a, ?_⟩
    by_cases hlt : k < s.size
    · have e := seg_at c a hlt (h47 hlt)
      rw [e, List.map_cons] at d
      refine ⟨(cutL (s.data.toList.drop (k + 1))).map bl, d, fun hn => ⟨by simp [List.all_append, h1, hn], by omega, .inl ⟨Nat.le_refl _, hlt, fun j hj h1 h2 => by omega, ?_⟩⟩⟩
      rw [d, List.append_assoc]; rfl
    · obtain rfl : k = s.size := by omega
      rw [seg_end c, List.map_cons] at d
      exact ⟨[], d, fun hn => ⟨by simp [List.all_append, h1, hn], by omega, .inr ⟨rfl, d⟩⟩⟩
  · omega
theorem SpR.len {s : ByteArray} {ns : List ByteArray} {p k : Nat} (h : SpR s ns p k) (hs : s.size ≤ 256) : ns.length ≤ 300 := by
  have hc := cutL_len (s.data.toList.drop 1)
  have e : s.size = s.data.toList.length := by simp
  rw [List.length_drop] at hc
  obtain ⟨_, _, ⟨_, _, _, d⟩ | ⟨_, d⟩⟩ := h
  · have := congrArg List.length d
    rw [List.length_append, List.length_map] at this
    omega
  · have := congrArg List.length d
    rw [List.length_map] at this
    omega

end Go.Proofs.YtlnjnimenihhnaaGreatDoor

namespace Go.Proofs.YtlnjnimenihhnaaGreatDoor
open Go.RowKit

set_option maxHeartbeats 3200000 in
set_option maxRecDepth 100000 in
theorem rsplitN_any (s : ByteArray) (w : World) (hs : s.size ≤ 3000) :
    Calls Tryz.prog 30 #[.string s] w fun e w' => ∃ v, e = .returned (.tuple #[v, .int .i64 (spE s)]) ∧ Tx w' v (spN s) ∧ Below w.heap.size w w' ∧ ∀ a n c, v = .slice (some a) n c → w.heap.size ≤ a.block := by
  obtain ⟨i9, hi9, hz9, hs9, hb9⟩ := info9T
  by_cases h1 : 256 < s.size
  · have q1 : 256 < (s.size : Int) := by omega
    have he : Hid (spE s = 5) := by show _ = _; unfold spE; rw [if_pos h1]
    have hn : Hid (spN s = []) := by show _ = _; unfold spN; rw [if_neg (by rw [he.out]; simp)]
    go_enter Tryz.func30, Tryz.ntmps30
    go_wp2_with fail
    go_ret2
    exact ⟨_, by rw [he.out]; rfl, by rw [hn.out]; exact Tx.nil _, Below.refl _ _, fun a n c h => by cases h⟩
  have q1 : ¬ 256 < (s.size : Int) := by omega
  by_cases h0 : s.size = 0
  · have he : Hid (spE s = 12) := by
      show _ = _
      have : s.data.toList = [] := List.eq_nil_of_length_eq_zero (by simpa using h0)
      unfold spE; rw [if_neg h1, this]; rfl
    have hn : Hid (spN s = []) := by show _ = _; unfold spN; rw [if_neg (by rw [he.out]; simp)]
    have g3 : s = ⟨#[]⟩ := by
      obtain ⟨⟨l⟩⟩ := s
      have : l = [] := List.eq_nil_of_length_eq_zero h0
      rw [this]
    subst g3
    go_enter Tryz.func30, Tryz.ntmps30
    go_wp2_with fail
    go_ret2
    exact ⟨_, by rw [he.out]; rfl, by rw [hn.out]; exact Tx.nil _, Below.refl _ _, fun a n c h => by cases h⟩
  have g0 : (s.toList == []) = false := beq_eq_false_iff_ne.2 (str_some (by omega))
  have g1 : 0 < s.size := by omega
  by_cases h3 : s[0] = 47
  · have HP : Lib.hasPrefix s.data.toList [47] = true := by
      cases hl : s.data.toList with
      | nil =>
        have e : s.size = s.data.toList.length := by simp
        rw [hl] at e
        exact absurd e h0
      | cons x r =>
        have hx : s.data.toList[0]'(by rw [hl]; simp) = 47 := h3
        have : x = 47 := by
          rw [← hx]; simp [hl]
        rw [this]; rfl
    have p3 : ((s[0].toNat : Int) = 47) := by rw [h3]; rfl
    clear h3
    by_cases h2 : s.data.toList = [47]
    · have q2 : (s.toList == [47]) = true := by rw [ByteArray.toList_eq, h2]; rfl
      have he : Hid (spE s = 0) := by show _ = _; unfold spE; rw [if_neg h1, if_pos h2]
      have hn : Hid (spN s = []) := by show _ = _; unfold spN; rw [if_neg (by simp [h2])]
      clear h2 HP
      go_enter Tryz.func30, Tryz.ntmps30
      go_wp2_with fail
      go_ret2
      exact ⟨_, by rw [he.out]; rfl, by rw [hn.out]; exact Tx.nil _, Below.refl _ _, fun a n c h => by cases h⟩
    · have q2 : (s.toList == [47]) = false := by rw [ByteArray.toList_eq]; exact beq_eq_false_iff_ne.2 h2
      have he0 : Hid (spE s = chkE ((cutL (s.data.toList.drop 1)).map bl)) := by show _ = _; unfold spE; rw [if_neg h1, if_neg h2, if_pos HP]
      have hn0 : Hid (spE s = 0 → spN s = (cutL (s.data.toList.drop 1)).map bl) := by intro h; unfold spN; rw [if_pos ⟨h, h2⟩]
      have hn1 : Hid (¬ spE s = 0 → spN s = []) := by intro h; unfold spN; rw [if_neg (fun x => h x.1)]
      clear h2 HP
      have h256 : s.size ≤ 256 := by omega
      go_enter Tryz.func30, Tryz.ntmps30
      go_wp2_with fail
      go_loopw [4, 5, 6] (fun ov av iv wr => ∃ (ns : List ByteArray) (p k : Nat), av = .int .i64 p ∧ iv = .int .i64 k ∧ k ≤ s.size + 1 ∧ Hid (SpR s ns p k) ∧ Below w.heap.size w wr ∧ wr.ownsRow w.heap.size 9 1 ov ns.length (ns.map Value.string)) (fun _ _ i _ => s.size + 1 - (intOf i).toNat)
      case atStart => exact ⟨[], 1, 1, rfl, rfl, by omega, ⟨rfl, Nat.le_refl _, .inl ⟨Nat.le_refl _, g1, (fun j _ a b => by omega), rfl⟩⟩, Below.refl _ _, World.ownsRow_nil _ _ _ _⟩
      case round =>
        obtain ⟨ns, p, k, rfl, rfl, hk, hR, B, O⟩ := hrel
        by_cases hle : k ≤ s.size
        · have q3 : (k : Int) ≤ s.size := by omega
          by_cases hsk : ∃ hlt : k < s.size, ¬ s[k] = 47
          · obtain ⟨hlt, h47⟩ := hsk
            have q4 : (k : Int) < s.size := by omega
            have p4 : ¬ ((s[k].toNat : Int) = 47) := fun h => h47 (b47 h)
            have R' : Hid (SpR s ns p (k + 1)) := hR.out.skip hlt h47
            clear h47
            go_wp2_with fail
            go_roundw
            case rel => exact ⟨ns, p, k + 1, rfl, by go_num, by omega, R', B, O⟩
            case measure => simp [intOf]; omega
          · have h47 : (hk : k < s.size) → s[k] = 47 := fun hk => Classical.byContradiction fun h => hsk ⟨hk, h⟩
            obtain ⟨hpk, r, hr, hnx⟩ := hR.out.name hle h47
            have HR : Hid ((cutL (s.data.toList.drop 1)).map bl = ns ++ s.extract p k :: r) := hr
            have HX : Hid (nameB (s.extract p k) = true → SpR s (ns ++ [s.extract p k]) (k + 1) (k + 1)) := hnx
            have HL : Hid (ns.length ≤ 300) := hR.out.len h256
            have q5 : (p : Int) ≤ k := by omega
            clear hr hnx hsk
            obtain ⟨X, hX⟩ : ∃ X, s.extract p k = X := ⟨_, rfl⟩
            rw [hX] at HR HX
            cases hn : nameB X with
            | true =>
              have HN : Hid (nameB X = true) := hn
              have R2 : Hid (SpR s (ns ++ [X]) (k + 1) (k + 1)) := HX.out hn
              clear hn HX HR
              by_cases hlt : k < s.size
              · have q4 : (k : Int) < s.size := by omega
                have p4 : ((s[k].toNat : Int) = 47) := by rw [h47 hlt]; rfl
                clear h47
                go_wp2_with (first
                  | (go_at_call 58; refine (rname_any X true _ HN).mono ?_; rintro e w1 ⟨rfl, rfl⟩)
                  | (at_builtin; go_must (refine wpList_appT rfl _ (.tmp 46) 49 rfl w.heap.size i9 Tryz.underlying49 hi9 hz9 hs9 hb9 _ _ ns.length ns [X] rfl (own_keptT O ((Below.refl _ _).alloc (Nat.le_refl _) (.cells #[.string X] 9))) rfl (Tx.one _ X) ?c1 ?c2 ?next)))
                case c1 => have := HL.out; simp; omega
                case c2 => have := B.size; simp; omega
                case next =>
                  intro v3 w3 O3 B3 _
                  have B4 := (B.alloc B.size (.cells #[.string X] 9)).trans B3
                  have O4 : w3.ownsRow w.heap.size 9 1 v3 (ns ++ [X]).length ((ns ++ [X]).map Value.string) := by simpa using O3
                  clear B O B3 O3
                  go_wp2_with fail
                  go_roundw
                  case rel => exact ⟨ns ++ [X], k + 1, k + 1, by go_num, by go_num, by omega, R2, B4, O4⟩
                  case measure => simp [intOf]; omega
              · have q4 : ¬ (k : Int) < s.size := by omega
                clear h47
                go_wp2_with (first
                  | (go_at_call 58; refine (rname_any X true _ HN).mono ?_; rintro e w1 ⟨rfl, rfl⟩)
                  | (at_builtin; go_must (refine wpList_appT rfl _ (.tmp 46) 49 rfl w.heap.size i9 Tryz.underlying49 hi9 hz9 hs9 hb9 _ _ ns.length ns [X] rfl (own_keptT O ((Below.refl _ _).alloc (Nat.le_refl _) (.cells #[.string X] 9))) rfl (Tx.one _ X) ?c1 ?c2 ?next)))
                case c1 => have := HL.out; simp; omega
                case c2 => have := B.size; simp; omega
                case next =>
                  intro v3 w3 O3 B3 _
                  have B4 := (B.alloc B.size (.cells #[.string X] 9)).trans B3
                  have O4 : w3.ownsRow w.heap.size 9 1 v3 (ns ++ [X]).length ((ns ++ [X]).map Value.string) := by simpa using O3
                  clear B O B3 O3
                  go_wp2_with fail
                  go_roundw
                  case rel => exact ⟨ns ++ [X], k + 1, k + 1, by go_num, by go_num, by omega, R2, B4, O4⟩
                  case measure => simp [intOf]; omega
            | false =>
              have HN : Hid (nameB X = false) := hn
              have hE : Hid (spE s = 12) := by
                show _ = _
                rw [he0.out, HR.out, chkE, if_neg]
                intro h
                rw [List.all_append, List.all_cons, hn] at h
                simp at h
              have hM : Hid (spN s = []) := hn1.out (by rw [hE.out]; decide)
              clear hn HX HR
              by_cases hlt : k < s.size
              · have q4 : (k : Int) < s.size := by omega
                have p4 : ((s[k].toNat : Int) = 47) := by rw [h47 hlt]; rfl
                clear h47
                go_wp2_with (go_at_call 58; refine (rname_any X false _ HN).mono ?_; rintro e w1 ⟨rfl, rfl⟩)
                go_ret2
                exact ⟨_, by rw [hE.out]; rfl, by rw [hM.out]; exact Tx.nil _, B, fun a n c h => by cases h⟩
              · have q4 : ¬ (k : Int) < s.size := by omega
                clear h47
                go_wp2_with (go_at_call 58; refine (rname_any X false _ HN).mono ?_; rintro e w1 ⟨rfl, rfl⟩)
                go_ret2
                exact ⟨_, by rw [hE.out]; rfl, by rw [hM.out]; exact Tx.nil _, B, fun a n c h => by cases h⟩
        · have q3 : ¬ (k : Int) ≤ s.size := by omega
          have hfin : (cutL (s.data.toList.drop 1)).map bl = ns ∧ ns.all nameB = true := by
            obtain ⟨h1, _, h | h⟩ := hR.out
            · exact absurd h.2.1 hle
            · exact ⟨h.2, h1⟩
          have hT : Tx wr _ ns := Tx.ofOwns O
          obtain ⟨oa, oc, ho⟩ := hT.form
          rw [ho] at hT O ⊢
          have hOB : Hid (∀ a n c, (Value.slice oa ns.length oc) = .slice (some a) n c → w.heap.size ≤ a.block) := by
            intro a n c h
            injection h with h1 h2 h3
            rcases O.2 with ⟨e, _⟩ | ⟨g, cap, cur, e, hb, _⟩
            · injection e with e
              rw [h1] at e; cases e
            · injection e with e
              rw [h1] at e; cases e
              exact hb
          clear O
          by_cases h8 : 8 < ns.length
          · have q8 : 8 < (ns.length : Int) := by omega
            have hE : Hid (spE s = 5) := by show _ = _; rw [he0.out, hfin.1, chkE, if_pos hfin.2, if_pos h8]
            have hM : Hid (spN s = []) := hn1.out (by rw [hE.out]; decide)
            clear hfin
            go_wp2_with fail
            go_ret2
            exact ⟨_, by rw [hE.out]; rfl, by rw [hM.out]; exact Tx.nil _, B, fun a n c h => by cases h⟩
          · have q8 : ¬ 8 < (ns.length : Int) := by omega
            have hE : Hid (spE s = 0) := by show _ = _; rw [he0.out, hfin.1, chkE, if_pos hfin.2, if_neg h8]
            have hM : Hid (spN s = ns) := (hn0.out hE.out).trans hfin.1
            clear hfin
            go_wp2_with fail
            go_ret2
            exact ⟨_, by rw [hE.out]; rfl, by rw [hM.out]; exact hT, B, hOB.out⟩
  · have HP : ¬ Lib.hasPrefix s.data.toList [47] = true := by
      intro h
      cases hl : s.data.toList with
      | nil => rw [hl] at h; cases h
      | cons x r =>
        rw [hl] at h
        unfold Lib.hasPrefix at h
        simp [List.isPrefixOf] at h
        apply h3
        show s.data.toList[0]'(by rw [hl]; simp) = 47
        simp [hl, ← h]
    have p3 : ¬ ((s[0].toNat : Int) = 47) := fun h => h3 (b47 h)
    have h2 : ¬ s.data.toList = [47] := fun h => HP (by rw [h]; rfl)
    have he : Hid (spE s = 12) := by show _ = _; unfold spE; rw [if_neg h1, if_neg h2, if_neg HP]
    have hn : Hid (spN s = []) := by show _ = _; unfold spN; rw [if_neg (by rw [he.out]; simp)]
    clear h3 HP h2
    go_enter Tryz.func30, Tryz.ntmps30
    go_wp2_with fail
    go_ret2
    exact ⟨_, by rw [he.out]; rfl, by rw [hn.out]; exact Tx.nil _, Below.refl _ _, fun a n c h => by cases h⟩
end Go.Proofs.YtlnjnimenihhnaaGreatDoor
