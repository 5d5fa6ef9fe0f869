/-
  A file shrinks key by key: what becomes of its shape.
-/
import Derived.Test.YtnnaemlipahamaaGreatFApp1
namespace Go.Proofs.YtnnaemlipahamaaGreat
open Go.RowKit Go.Maps

/-- The blocks of so many keys are free. -/
def drp (F : Nat) (B : Nat → Nat) (T : Nat → Bool) (ks : List Nat) : Nat → Bool := fun j => T j && !(ks.any fun k => B k == F + j)
theorem drp_nil (F : Nat) (B : Nat → Nat) (T : Nat → Bool) : drp F B T [] = T := by
  funext j; simp [drp]
theorem drp_cons {F : Nat} {B : Nat → Nat} {T : Nat → Bool} {k : Nat} {ks : List Nat} (h : F ≤ B k) : drp F B T (k :: ks) = upd (drp F B T ks) (B k - F) false := by
  funext j
  by_cases e : j = B k - F
  · rw [e, upd_same]
    simp [drp]
    intro _ h2; omega
  · rw [upd_other _ _ e]
    have : (B k == F + j) = false := by simp; omega
    simp [drp, this]
theorem drp_app (F : Nat) (B : Nat → Nat) (T : Nat → Bool) (a b : List Nat) : drp F B (drp F B T a) b = drp F B T (a ++ b) := by
  funext j
  simp only [drp, List.any_append, Bool.not_or, Bool.and_assoc]
theorem drp_comm (F : Nat) (B : Nat → Nat) (T : Nat → Bool) (a b : List Nat) : drp F B T (a ++ b) = drp F B T (b ++ a) := by
  funext j
  simp only [drp, List.any_append, Bool.or_comm]
theorem drp_keep {F : Nat} {B : Nat → Nat} {T : Nat → Bool} {ks : List Nat} {j : Nat} (h : ∀ k, k ∈ ks → B k ≠ F + j) : drp F B T ks j = T j := by
  have : (ks.any fun k => B k == F + j) = false := by
    rw [List.any_eq_false]; intro k hk; simpa using h k hk
  simp [drp, this]
theorem drp_gone {F : Nat} {B : Nat → Nat} {T : Nat → Bool} {ks : List Nat} {j k : Nat} (hk : k ∈ ks) (h : B k = F + j) : drp F B T ks j = false := by
  have : (ks.any fun k => B k == F + j) = true := List.any_eq_true.2 ⟨k, hk, by simp [h]⟩
  simp [drp, this]
theorem par_ne {k : Nat} (hf : ¬ fld k) : par k ≠ k := by
  unfold fld at hf
  unfold par
  split
  · omega
  · split <;> omega
section
variable {c : Cx} {X : Nat → Prop} {w : World} {Lv : Nat → Prop} {V V1 V2 : Nat → List Int} {nd : Nd} {B : Nat → Nat} {T : Nat → Bool} {k j : Nat}
theorem fs_give (hs : Fs c X w V T) (ho : c.Ok) {b : Nat} (h1 : c.F ≤ b) (h2 : b < c.F + c.n) (hT : T (b - c.F) = true) :
    Calls Tryz.prog 81 #[PV c.M c.F c.n, .pointer (some ⟨c.q, 0, none⟩), .int .i64 (b : Int)] w fun e w' => e = .returned (.int .i64 0) ∧ ∃ V1, Fs c X w' V1 (upd T (b - c.F) false) ∧ (∀ m, (m < c.M ∨ c.M + mapsN c.n ≤ m) → V1 m = V m) ∧ Sm X w w' := by
  have hg := give_ok c.M c.F c.n (b - c.F) hs.tv ho.pr hs.bt (by omega) hT
  rw [show c.F + (b - c.F) = b by omega] at hg
  refine hg.mono ?_
  rintro e w' ⟨rfl, V1, t1, t2, t3, t4⟩
  refine ⟨rfl, V1, ⟨t1, t2, fun n hn => ?_⟩, t3, t4⟩
  by_cases hm : n < c.M ∨ c.M + mapsN c.n ≤ n
  · rw [t3 n hm]; exact hs.by' n hn
  · have := t2.by' (n - c.M) (by omega)
    rw [show c.M + (n - c.M) = n by omega] at this
    exact this.1
/-- A key whose block is free is no more in the file: its place was set, or is in a block that goes, too. -/
theorem Fl.drop (h : Fl c Lv V nd B T) (ho : c.Ok) (hk : Lv k) (hc : ∀ l, Lv l → ¬ fld l → par l ≠ k) (h1 : ∀ m, (m < c.M ∨ c.M + mapsN c.n ≤ m) → V1 m = V m)
    (h2 : V2 = V1 ∧ ¬ fld k ∨ V2 = setV V1 B k 0) :
    Fl c (fun l => Lv l ∧ l ≠ k) V2 (setN nd k 0) B (upd T (B k - c.F) false) := by
  have hoff := ho.off
  have htop := ho.top
  have hv : ∀ l, Lv l → V1 (B l) = V (B l) := fun l hl => by have := h.own l hl; exact h1 _ (by omega)
  have hsh := h.sh.congrV hv
  have own' : ∀ l, (Lv l ∧ l ≠ k) → c.F ≤ B l ∧ B l < c.F + c.n ∧ upd T (B k - c.F) false (B l - c.F) = true := by
    intro l hl
    have a1 := h.own l hl.1
    have a2 := h.own k hk
    refine ⟨a1.1, a1.2.1, ?_⟩
    rw [upd_other _ _ (fun e => hl.2 (h.sh.inj l k hl.1 hk (by omega)))]
    exact a1.2.2
  refine ⟨?_, own', fun l hl => h.idx l hl.1⟩
  by_cases hf : fld k
  · have e : V2 = V1 := by
      rcases h2 with ⟨_, h2⟩ | h2
      · exact absurd hf h2
      · rw [h2]; unfold setV; rw [if_pos hf]
    unfold setN
    rw [if_pos hf, e]
    exact hsh.delF hf hc
  · unfold setN
    rw [if_neg hf]
    rcases h2 with ⟨e, _⟩ | e
    · subst e
      exact hsh.delE hf hc (.inr rfl) (fun _ _ _ _ => rfl)
    · unfold setV at e
      rw [if_neg hf] at e
      subst e
      refine hsh.delE hf hc (.inl ⟨0, by rw [upd_same]⟩) (fun l hl _ hne => ?_)
      rw [upd_other _ _ (fun e => hne (h.sh.inj _ _ hl (h.sh.par k hk hf) e))]
end
/-- A file on its way: t keys of ks are left. -/
structure Dr (c : Cx) (Lv : Nat → Prop) (ks : List Nat) (V : Nat → List Int) (nd : Nd) (B : Nat → Nat) (T : Nat → Bool) (t : Nat) (V' : Nat → List Int) (nd' : Nd) : Prop where
  fl : Fl c (fun k => Lv k ∨ k ∈ ks.take t) V' nd' B (drp c.F B T (ks.drop t))
  same : nd'.kd = nd.kd ∧ nd'.lk = nd.lk ∧ nd'.sz = nd.sz
  fr : ∀ m, c.F ≤ m → m < c.F + c.n → (∀ l, l % 2 = 1 → (Lv l ∨ l ∈ ks) → B l ≠ m) → V' m = V m
section
variable {c : Cx} {X : Nat → Prop} {w : World} {Lv : Nat → Prop} {V V1 V2 V' : Nat → List Int} {nd nd' : Nd} {B : Nat → Nat} {T : Nat → Bool} {k t : Nat} {ks : List Nat}
theorem Dr.start (h : Fl c (fun k => Lv k ∨ k ∈ ks) V nd B T) : Dr c Lv ks V nd B T ks.length V nd := by
  refine ⟨?_, ⟨rfl, rfl, rfl⟩, fun _ _ _ _ => rfl⟩
  rw [List.take_length, List.drop_length, drp_nil]
  exact h
theorem Dr.gone (_h : Dr c Lv ks V nd B T (t + 1) V' nd') (hp : ∀ l, Lv l → ¬ fld l → Lv (par l)) (hk : KsOk Lv ks) (ht : t < ks.length) : ∀ l, (Lv l ∨ l ∈ ks.take (t + 1)) → ¬ fld l → par l ≠ ks.getD t 0 := by
  intro l hl hf e
  have hm := mem_getD ht
  have hn := getD_not_take hk.nodup ht
  rcases hl with hl | hl
  · exact hk.new _ hm (e ▸ hp l hl hf)
  · rw [List.mem_take_iff_getElem] at hl
    obtain ⟨i, hi, rfl⟩ := hl
    have hi' : i < ks.length := by omega
    have eg : ks.getD i 0 = ks[i] := by simp [List.getD, hi']
    have := hk.par i hi' (by rw [eg]; exact hf)
    rw [eg, e] at this
    rcases this with h1 | h1
    · exact hk.new _ hm h1
    · exact hn (List.take_subset_take_left ks (show i ≤ t by omega) h1)
theorem Dr.step (h : Dr c Lv ks V nd B T (t + 1) V' nd') (ho : c.Ok) (hp : ∀ l, Lv l → ¬ fld l → Lv (par l)) (hk : KsOk Lv ks) (ht : t < ks.length) (hkk : ks.getD t 0 = k) (h1 : ∀ m, (m < c.M ∨ c.M + mapsN c.n ≤ m) → V1 m = V' m)
    (h2 : V2 = V1 ∧ ¬ fld k ∨ V2 = setV V1 B k 0) :
    Dr c Lv ks V nd B T t V2 (setN nd' k 0) ∧ upd (drp c.F B T (ks.drop (t + 1))) (B k - c.F) false = drp c.F B T (ks.drop t) := by
  have hoff := ho.off
  have hkl : Lv k ∨ k ∈ ks.take (t + 1) := .inr (by rw [take_step ht, hkk]; simp)
  have hown := h.fl.own k hkl
  have ed : ks.drop t = k :: ks.drop (t + 1) := by
    rw [List.drop_eq_getElem_cons ht]
    have : ks.getD t 0 = ks[t] := by simp [List.getD, ht]
    rw [← this, hkk]
  have eT : upd (drp c.F B T (ks.drop (t + 1))) (B k - c.F) false = drp c.F B T (ks.drop t) := by
    rw [ed, drp_cons hown.1]
  have hg := h.gone hp hk ht
  rw [hkk] at hg
  have hfl := h.fl.drop (V1 := V1) (V2 := V2) ho hkl hg h1 h2
  rw [eT] at hfl
  have hsn := setN_same nd' k 0
  refine ⟨⟨?_, ⟨hsn.1.trans h.same.1, hsn.2.1.trans h.same.2.1, hsn.2.2.trans h.same.2.2⟩, fun m m1 m2 m3 => ?_⟩, eT⟩
  · have e : ∀ l, ((Lv l ∨ l ∈ ks.take (t + 1)) ∧ l ≠ k) ↔ (Lv l ∨ l ∈ ks.take t) := fun l => by
      have hn := getD_not_take hk.nodup ht
      have hnl := hk.new _ (mem_getD ht)
      rw [hkk] at hn hnl
      rw [take_step ht, hkk, List.mem_append, List.mem_singleton]
      constructor
      · rintro ⟨h1 | h1 | h1, h2⟩
        · exact .inl h1
        · exact .inr h1
        · exact absurd h1 h2
      · rintro (h1 | h1)
        · exact ⟨.inl h1, fun e => hnl (e ▸ h1)⟩
        · exact ⟨.inr (.inl h1), fun e => hn (e ▸ h1)⟩
    exact ⟨hfl.sh.iff e, fun l hl => hfl.own l ((e l).2 hl), fun l hl => hfl.idx l ((e l).2 hl)⟩
  · have e1 : V1 m = V m := (h1 m (by omega)).trans (h.fr m m1 m2 m3)
    rcases h2 with ⟨e, _⟩ | e
    · rw [e]; exact e1
    · rw [e]
      unfold setV
      split
      · exact e1
      · rename_i hf
        have hpl := h.fl.sh.par k hkl hf
        rw [upd_other _ _ (fun e => m3 _ (par_odd hf) (hpl.elim .inl (fun h => .inr (List.mem_of_mem_take h))) e.symm)]
        exact e1
end
end Go.Proofs.YtnnaemlipahamaaGreat
