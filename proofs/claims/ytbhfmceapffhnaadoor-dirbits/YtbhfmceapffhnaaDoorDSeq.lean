/-
  n names in n slots; how many are free.
-/
import Derived.Test.YtbhfmceapffhnaaDoorDNm
namespace Go.Proofs.YtbhfmceapffhnaaDoor
open Go.RowKit

/-- The slots of the first n names. -/
def seqE (n : Nat) : List En := (List.range n).map fun i => ⟨nmI i, ((i + 1 : Nat) : Int)⟩
theorem seqE_len (n : Nat) : (seqE n).length = n := by simp [seqE]
theorem seqE_succ (n : Nat) : seqE (n + 1) = seqE n ++ [⟨nmI n, ((n + 1 : Nat) : Int)⟩] := by simp [seqE, List.range_succ]
theorem seqE_at (n j : Nat) (hj : j < n) : En.at (seqE n) j = ⟨nmI j, ((j + 1 : Nat) : Int)⟩ := by
  unfold En.at seqE
  simp [List.getD, hj]
theorem nm_some (i : Nat) : ((nmI i).toList == (⟨#[]⟩ : ByteArray).toList) = false := by
  rw [nmI_list, ByteArray.toList_eq]
  rfl
theorem seqE_free (n : Nat) : Idx (seqE n) ⟨#[]⟩ (-1) := .inl ⟨rfl, fun j hj => by
  rw [seqE_len] at hj
  rw [seqE_at n j hj]
  exact nm_some j⟩
theorem seqE_new (n k : Nat) (hn : n ≤ k) (hk : k < 64) : IdxN (seqE n) (nmI k) (-1) := .inr ⟨by rw [nmI_size]; omega, .inl ⟨rfl, fun j hj => by
  rw [seqE_len] at hj
  rw [seqE_at n j hj]
  exact nmI_ne j k (by omega) hk (by omega)⟩⟩
theorem seqE_is (n k : Nat) (hn : k < n) (hk : n ≤ 64) : IdxN (seqE n) (nmI k) (k : Int) := .inr ⟨by rw [nmI_size]; omega, .inr ⟨k, rfl, by rw [seqE_len]; exact hn, by
  rw [seqE_at n k hn]; simp, fun j hj => by
  rw [seqE_at n j (by omega)]
  exact nmI_ne j k (by omega) (by omega) (by omega)⟩⟩
theorem inFits (k : Nat) (hk : k < 64) : decide (1 ≤ ((k + 1 : Nat) : Int) ∧ ((k + 1 : Nat) : Int) ≤ 65535) = true := decide_eq_true ⟨by omega, by omega⟩
/-- How many slots are free. -/
def freeN (es : List En) : Nat := es.countP fun e => decide (e.nm.size = 0)
theorem free_names (es : List En) : (namesL es).length + freeN es = es.length := by
  unfold namesL freeN
  rw [List.length_map, ← List.countP_eq_length_filter]
  have h := List.length_eq_countP_add_countP (fun e : En => decide (e.nm.size = 0)) (l := es)
  have e : es.countP (fun e : En => decide (1 ≤ e.nm.size)) = es.countP (fun a => ¬ (decide (a.nm.size = 0)) = true) := by
    apply List.countP_congr
    intro x _
    generalize x.nm.size = n
    by_cases h : n = 0
    · simp [h]
    · simp [h]; omega
  rw [e, Nat.add_comm]
  exact h.symm
theorem seqE_freeN (n : Nat) : freeN (seqE n) = 0 := by
  unfold freeN seqE
  rw [List.countP_eq_zero]
  intro e he
  obtain ⟨i, _, rfl⟩ := List.mem_map.1 he
  simp [nmI_size]
theorem freeN_take (es : List En) (k : Nat) (hk : k < es.length) (h : 1 ≤ (En.at es k).nm.size) : freeN (es.set k En.fr) = freeN es + 1 := by
  unfold freeN
  have e : En.at es k = es[k] := by simp [En.at, List.getD, hk]
  rw [e] at h
  rw [List.countP_set hk]
  have h1 : (decide (es[k].nm.size = 0)) = false := decide_eq_false (by omega)
  rw [h1]
  have h2 : decide (En.fr.nm.size = 0) = true := rfl
  rw [h2]
  simp
theorem freeN_put (es : List En) (k : Nat) (x : En) (hk : k < es.length) (h : (En.at es k).nm.size = 0) (hx : 1 ≤ x.nm.size) : freeN (es.set k x) + 1 = freeN es := by
  unfold freeN
  have e : En.at es k = es[k] := by simp [En.at, List.getD, hk]
  rw [e] at h
  rw [List.countP_set hk]
  have h1 : (decide (es[k].nm.size = 0)) = true := decide_eq_true h
  have h2 : (decide (x.nm.size = 0)) = false := decide_eq_false (by omega)
  have h3 : 0 < es.countP fun e => decide (e.nm.size = 0) := List.countP_pos_iff.2 ⟨es[k], List.getElem_mem hk, h1⟩
  rw [h1, h2, if_pos rfl, if_neg (by decide)]
  omega
theorem size_zero {s : ByteArray} (h : (s.toList == (⟨#[]⟩ : ByteArray).toList) = true) : s.size = 0 := by
  rw [ByteArray.toList_eq, ByteArray.toList_eq] at h
  have := beq_iff_eq.1 h
  have h2 := congrArg List.length this
  simpa using h2
theorem free_ex (es : List En) (h : 0 < freeN es) : ∃ f : Nat, Idx es ⟨#[]⟩ (f : Int) ∧ f < es.length ∧ (En.at es f).nm.size = 0 := by
  obtain ⟨r, hr⟩ := Idx.ex es ⟨#[]⟩
  rcases hr with ⟨rfl, hn⟩ | ⟨k, rfl, hk, h1, h2⟩
  · exfalso
    obtain ⟨e, he, hp⟩ := List.countP_pos_iff.1 h
    obtain ⟨j, hj, rfl⟩ := List.getElem_of_mem he
    have := hn j hj
    have e2 : En.at es j = es[j] := by simp [En.at, List.getD, hj]
    rw [e2] at this
    have hz : es[j].nm.size = 0 := of_decide_eq_true hp
    rw [ByteArray.toList_eq, ByteArray.toList_eq] at this
    have h3 : es[j].nm.data.toList = [] := List.eq_nil_of_length_eq_zero (by simpa using hz)
    rw [h3] at this
    simp at this
  · exact ⟨k, .inr ⟨k, rfl, hk, h1, h2⟩, hk, size_zero h1⟩
/-- Each slot is free, or as it was. -/
def Old (n : Nat) (es : List En) : Prop := es.length = n ∧ ∀ j, j < n → En.at es j = En.fr ∨ En.at es j = ⟨nmI j, ((j + 1 : Nat) : Int)⟩
theorem old_seq (n : Nat) : Old n (seqE n) := ⟨seqE_len n, fun j hj => .inr (seqE_at n j hj)⟩
theorem at_set (es : List En) (k j : Nat) (x : En) (hk : k < es.length) : En.at (es.set k x) j = if j = k then x else En.at es j := by
  unfold En.at
  by_cases h : j = k
  · subst h; simp [List.getD, hk]
  · rw [if_neg h]; simp [List.getD, List.getElem?_set_ne (Ne.symm h)]
/-- A name that is looked for there. -/
theorem Old.find {n k : Nat} {es : List En} (h : Old n es) (hn : n ≤ 60) (hk : k < 64) : (IdxN es (nmI k) (-1)) ∨ (IdxN es (nmI k) (k : Int) ∧ k < n ∧ En.at es k = ⟨nmI k, ((k + 1 : Nat) : Int)⟩) := by
  obtain ⟨r, hr⟩ := Idx.ex es (nmI k)
  have hs : 1 ≤ (nmI k).size := by rw [nmI_size]; omega
  rcases hr with ⟨rfl, hr⟩ | ⟨j, rfl, hj, h1, h2⟩
  · exact .inl (.inr ⟨hs, .inl ⟨rfl, hr⟩⟩)
  · right
    have hj' : j < n := by rw [← h.1]; exact hj
    rcases h.2 j hj' with e | e
    · rw [e] at h1
      have := nm_some k
      rw [Bool.beq_comm] at h1
      rw [h1] at this; cases this
    · rw [e] at h1
      have : j = k := nmI_eq j k (by omega) hk h1
      subst this
      exact ⟨.inr ⟨hs, .inr ⟨j, rfl, hj, by rw [e]; exact h1, h2⟩⟩, hj', e⟩
theorem Old.take {n k : Nat} {es : List En} (h : Old n es) (hk : k < n) : Old n (es.set k En.fr) := by
  refine ⟨by rw [List.length_set]; exact h.1, fun j hj => ?_⟩
  rw [at_set es k j _ (by rw [h.1]; exact hk)]
  by_cases e : j = k
  · rw [if_pos e]; exact .inl rfl
  · rw [if_neg e]; exact h.2 j hj
/-- Each slot is free, has an elder name, or one of the first i new ones. -/
def New (n i : Nat) (es : List En) : Prop := es.length = n ∧ ∀ j, j < n → En.at es j = En.fr ∨ (∃ k, (En.at es j).nm = nmI k) ∨ ∃ k, k < i ∧ (En.at es j).nm = agI k
theorem Old.new {n : Nat} {es : List En} (h : Old n es) : New n 0 es := ⟨h.1, fun j hj => by
  rcases h.2 j hj with e | e
  · exact .inl e
  · exact .inr (.inl ⟨j, by rw [e]⟩)⟩
theorem ag_some (i : Nat) : ((⟨#[]⟩ : ByteArray).toList == (agI i).toList) = false := by
  rw [agI_list, ByteArray.toList_eq]
  rfl
theorem New.none {n i : Nat} {es : List En} (h : New n i es) (hi : i < 64) : IdxN es (agI i) (-1) := .inr ⟨by rw [agI_size]; omega, .inl ⟨rfl, fun j hj => by
  rw [h.1] at hj
  rcases h.2 j hj with e | ⟨k, e⟩ | ⟨k, hk, e⟩
  · rw [e]; exact ag_some i
  · rw [e]; exact nm_ag k i
  · rw [e]; exact agI_ne k i (by omega) hi (by omega)⟩⟩
theorem New.put {n i f : Nat} {x : Int} {es : List En} (h : New n i es) (hf : f < n) : New n (i + 1) (es.set f ⟨agI i, x⟩) := by
  refine ⟨by rw [List.length_set]; exact h.1, fun j hj => ?_⟩
  rw [at_set es f j _ (by rw [h.1]; exact hf)]
  by_cases e : j = f
  · rw [if_pos e]; exact .inr (.inr ⟨i, by omega, rfl⟩)
  · rw [if_neg e]
    rcases h.2 j hj with e | e | ⟨k, hk, e⟩
    · exact .inl e
    · exact .inr (.inl e)
    · exact .inr (.inr ⟨k, by omega, e⟩)
end Go.Proofs.YtbhfmceapffhnaaDoor
