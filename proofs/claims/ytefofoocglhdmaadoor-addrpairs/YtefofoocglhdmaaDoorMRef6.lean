/-
  The document's plain.
-/
import Derived.Test.YtefofoocglhdmaaDoorMRef5
namespace Go.Proofs.YtefofoocglhdmaaDoor
open Go.RowKit

/-- Words with dots between, from left to right: is a word to begin? -/
def plB : Bool → List UInt8 → Bool
  | p, [] => !p
  | p, c :: r => if c = 46 then !p && plB true r else inWrd c && plB false r
theorem plB_parts (l : List UInt8) : plB true l = (l.all (orD inWrd) && (cutD l).all okWrd) ∧ plB false l = (l.all (orD inWrd) && (cutD l).tail.all okWrd) := by
  induction l with
  | nil => decide
  | cons c r ih =>
    by_cases h : c = 46
    · have h2 : orD inWrd c = true := by rw [h]; decide
      rw [plB, plB, if_pos h, if_pos h, cutD, if_pos h, List.all_cons, h2, ih.1, List.all_cons, List.tail_cons]
      refine ⟨?_, by simp⟩
      rw [show okWrd [] = false from rfl]; simp
    · have h2 : orD inWrd c = inWrd c := by unfold orD; rw [beq_eq_false_iff_ne.2 h, Bool.or_false]
      rw [plB, plB, if_neg h, if_neg h, cutD, if_neg h, List.all_cons, h2, ih.2, List.all_cons, List.tail_cons]
      refine ⟨?_, by rw [Bool.and_assoc]⟩
      rw [show okWrd (c :: (cutD r).headD []) = true from rfl, Bool.true_and, Bool.and_assoc]
theorem drop_nil {p : UInt8 → Bool} (l : List UInt8) : (l.dropWhile p == []) = l.all p := by
  induction l with
  | nil => rfl
  | cons c r ih =>
    rw [List.all_cons]
    by_cases h : p c = true
    · rw [List.dropWhile_cons_of_pos h, ih, h]; rfl
    · rw [List.dropWhile_cons_of_neg h, show p c = false by simpa using h]; rfl
theorem tw_whole2 (a : List UInt8) (h : ∀ x ∈ a, orD inWrd x = true) : a.takeWhile (orD inWrd) = a := by
  induction a with
  | nil => rfl
  | cons x xs ih => rw [List.takeWhile_cons_of_pos (h x (by simp)), ih (fun y hy => h y (by simp [hy]))]
theorem isW_plB (l : List UInt8) : isW l = plB true l := by
  rw [(plB_parts l).1]
  unfold isW
  rw [drop_nil]
  cases h : l.all (orD inWrd) with
  | false => simp
  | true =>
    have ht : l.takeWhile (orD inWrd) = l := tw_whole2 l (List.all_eq_true.1 h)
    unfold dotN
    rw [ht]
    cases (cutD l).all okWrd with
    | false => rfl
    | true => rw [if_pos rfl, decide_eq_true (cutD_pos l)]
theorem drop_get {l : List UInt8} {k : Nat} (hk : k < l.length) : l.drop k = l.getD k 0 :: l.drop (k + 1) := by
  rw [List.drop_eq_getElem_cons hk]; simp [List.getD, List.getElem?_eq_getElem hk]
/-- After k bytes. -/
def PlK (l : List UInt8) (k : Nat) (p : Bool) : Prop := plB true l = plB p (l.drop k) ∧ (p = true ↔ k = 0 ∨ l.getD (k - 1) 0 = 46) ∧ (k = l.length → ¬ k = 0 → p = false)
theorem PlK.word {l : List UInt8} {k : Nat} {p : Bool} (h : PlK l k p) (hk : k < l.length) (h46 : ¬ l.getD k 0 = 46) (hw : inWrd (l.getD k 0) = true) : PlK l (k + 1) false := by
  refine ⟨?_, ?_, fun _ _ => rfl⟩
  · rw [h.1, drop_get hk, plB, if_neg h46, hw, Bool.true_and]
  · rw [show k + 1 - 1 = k from rfl]
    refine ⟨fun e => absurd e (by decide), fun e => ?_⟩
    rcases e with e | e
    · cases e
    · exact absurd e h46
theorem PlK.noword {l : List UInt8} {k : Nat} {p : Bool} (h : PlK l k p) (hk : k < l.length) (h46 : ¬ l.getD k 0 = 46) (hw : inWrd (l.getD k 0) = false) : isW l = false := by
  rw [isW_plB, h.1, drop_get hk, plB, if_neg h46, hw, Bool.false_and]
theorem PlK.dot {l : List UInt8} {k : Nat} {p : Bool} (h : PlK l k p) (hk : k + 1 < l.length) (h46 : l.getD k 0 = 46) (h0 : ¬ k = 0) (hp : ¬ l.getD (k - 1) 0 = 46) : PlK l (k + 1) true := by
  have hpf : p = false := by
    cases p with
    | false => rfl
    | true => exact absurd (h.2.1.1 rfl) (fun e => e.elim h0 hp)
  refine ⟨?_, ⟨fun _ => .inr h46, fun _ => rfl⟩, fun e => by omega⟩
  rw [h.1, drop_get (by omega), plB, if_pos h46, hpf]; rfl
theorem PlK.nodot {l : List UInt8} {k : Nat} {p : Bool} (h : PlK l k p) (hk : k < l.length) (h46 : l.getD k 0 = 46) (hn : k = 0 ∨ l.getD (k - 1) 0 = 46 ∨ ¬ k + 1 < l.length) : isW l = false := by
  rw [isW_plB, h.1, drop_get hk, plB, if_pos h46]
  rcases (by rcases hn with a | a | a; exact .inl (.inl a); exact .inl (.inr a); exact .inr a : (k = 0 ∨ l.getD (k - 1) 0 = 46) ∨ ¬ k + 1 < l.length) with e | e
  · rw [h.2.1.2 e]; rfl
  · rw [List.drop_eq_nil_of_le (by omega)]
    cases p <;> rfl
theorem PlK.fin {l : List UInt8} {k : Nat} {p : Bool} (h : PlK l k p) (hk : k = l.length) (h0 : ¬ k = 0) : isW l = true := by
  rw [isW_plB, h.1, h.2.2 hk h0, List.drop_eq_nil_of_le (by omega)]; rfl

set_option maxHeartbeats 3200000 in
theorem rplain_any (s : ByteArray) (w : World) (hs : s.size ≤ 1099511627776) :
    Calls Tryd.prog 52 #[.string s] w fun e w' => e = .returned (.bool (isW s.data.toList)) ∧ w' = w := by
  have hz := sz_list s
  obtain ⟨l, hl⟩ : ∃ l, s.data.toList = l := ⟨_, rfl⟩
  have HG : Hid (∀ k, (hk : k < s.size) → s[k] = l.getD k 0) := fun k hk => by rw [← hl]; exact get_list hk
  rw [hl] at hz
  have HZ : Hid (s.size = l.length) := hz
  have HS0 : Hid (s.size = 0 → (s.toList == []) = true) := fun h => str_nil h
  have HS1 : Hid (¬ s.size = 0 → (s.toList == []) = false) := fun h => str_some h
  rw [hl]
  clear hl hz
  go_enter Tryd.func52, Tryd.ntmps52
  go_wp2_with fail
  go_loopw [3] (fun i wr => ∃ (k : Nat) (p : Bool), k ≤ s.size ∧ i = .int .i64 k ∧ wr = w ∧ Hid (PlK l k p)) (fun i _ => s.size - (intOf i).toNat)
  case atStart => exact ⟨0, true, Nat.zero_le _, rfl, rfl, rfl, ⟨fun _ => .inl rfl, fun _ => rfl⟩, fun _ h => absurd rfl h⟩
  case round =>
    obtain ⟨k, p, hk, rfl, rfl, hA⟩ := hrel
    by_cases hlt : k < s.size
    · have q3 : (k : Int) < s.size := by omega
      have hkl : k < l.length := by rw [← HZ.out]; exact hlt
      have hg := HG.out k hlt
      by_cases h46 : s[k] = 46
      · have q4 : ((s[k].toNat : Int) == 46) = true := i_eq h46
        have hA46 : ∀ w, Calls Tryd.prog 51 #[.int .u8 (s[k].toNat : Int)] w fun e w' => e = .returned (.bool false) ∧ w' = w := fun w => by
          have := ratext_any s[k] w
          rw [show inWrd s[k] = false by rw [h46]; decide] at this
          exact this
        have HA46 := toHid hA46
        have hl46 : l.getD k 0 = 46 := by rw [← hg]; exact h46
        by_cases hk0 : k = 0
        · have q5 : ¬ (0 : Int) < k := by omega
          have q5d : decide ((0 : Int) < k) = false := decide_eq_false q5
          have HR : Hid (isW l = false) := hA.out.nodot hkl hl46 (.inl hk0)
          clear hk0 h46 hg hl46 hA46
          go_wp2_with (go_at_call 51; refine (HA46.out _).mono ?_; rintro e w1 ⟨rfl, rfl⟩)
          go_ret
          exact ⟨by rw [HR.out]; rfl, rfl⟩
        have q5 : (0 : Int) < k := by omega
        have q5d : decide ((0 : Int) < k) = true := decide_eq_true q5
        by_cases hk1 : k + 1 < s.size
        · have q6 : (k : Int) + 1 < s.size := by omega
          have q6d : decide ((k : Int) + 1 < s.size) = true := decide_eq_true q6
          obtain ⟨m, hm⟩ : ∃ m, k = m + 1 := ⟨k - 1, by omega⟩
          have p2 : IntKind.i64.wrap ((k : Int) - 1) = (m : Int) := by rw [IntKind.wrap_i64]; omega
          have hms : m < s.size := by omega
          have p3 : (m : Int) < s.size := by omega
          have hgm := HG.out m hms
          have hkm : k - 1 = m := by omega
          by_cases hp : s[m] = 46
          · have q7 : (s[m].toNat : Int) = 46 := by rw [hp]; rfl
            have HR : Hid (isW l = false) := hA.out.nodot hkl hl46 (.inr (.inl (by rw [hkm, ← hgm]; exact hp)))
            clear hk0 hk1 h46 hg hl46 hA46 hm hgm hp hkm
            go_wp2_with (go_at_call 51; refine (HA46.out _).mono ?_; rintro e w1 ⟨rfl, rfl⟩)
            go_ret
            exact ⟨by rw [HR.out]; rfl, rfl⟩
          · have q7 : ¬ (s[m].toNat : Int) = 46 := fun e => hp (UInt8.toNat_inj.1 (by show _ = 46; omega))
            have HN : Hid (PlK l (k + 1) true) := hA.out.dot (by rw [← HZ.out]; exact hk1) hl46 hk0 (by rw [hkm, ← hgm]; exact hp)
            clear hk0 hk1 h46 hg hl46 hA46 hm hgm hp hkm
            go_wp2_with fail
            go_roundw
            case rel => exact ⟨k + 1, true, by omega, by go_num, trivial, HN⟩
            case measure => simp [intOf]; omega
        · have q6 : ¬ (k : Int) + 1 < s.size := by omega
          have q6d : decide ((k : Int) + 1 < s.size) = false := decide_eq_false q6
          have HR : Hid (isW l = false) := hA.out.nodot hkl hl46 (.inr (.inr (by rw [← HZ.out]; exact hk1)))
          clear hk0 hk1 h46 hg hl46 hA46
          go_wp2_with (go_at_call 51; refine (HA46.out _).mono ?_; rintro e w1 ⟨rfl, rfl⟩)
          go_ret
          exact ⟨by rw [HR.out]; rfl, rfl⟩
      · have q4 : ((s[k].toNat : Int) == 46) = false := i_ne h46
        have HAt : Hid (∀ w, Calls Tryd.prog 51 #[.int .u8 (s[k].toNat : Int)] w fun e w' => e = .returned (.bool (inWrd s[k])) ∧ w' = w) := fun w => ratext_any s[k] w
        have hl46 : ¬ l.getD k 0 = 46 := by rw [← hg]; exact h46
        cases ho : inWrd s[k] with
        | true =>
          rw [ho] at HAt
          have HN : Hid (PlK l (k + 1) false) := hA.out.word hkl hl46 (by rw [← hg]; exact ho)
          clear h46 hg hl46 ho
          go_wp2_with (go_at_call 51; refine (HAt.out _).mono ?_; rintro e w1 ⟨rfl, rfl⟩)
          go_roundw
          case rel => exact ⟨k + 1, false, by omega, by go_num, trivial, HN⟩
          case measure => simp [intOf]; omega
        | false =>
          rw [ho] at HAt
          have HR : Hid (isW l = false) := hA.out.noword hkl hl46 (by rw [← hg]; exact ho)
          clear h46 hg hl46 ho
          go_wp2_with (go_at_call 51; refine (HAt.out _).mono ?_; rintro e w1 ⟨rfl, rfl⟩)
          go_ret
          exact ⟨by rw [HR.out]; rfl, rfl⟩
    · have q3 : ¬ (k : Int) < s.size := by omega
      by_cases h0 : s.size = 0
      · have q8 := HS0.out h0
        have HR : Hid (isW l = false) := by
          have : l = [] := List.eq_nil_of_length_eq_zero (by rw [← HZ.out]; exact h0)
          show _ = _; rw [this]; rfl
        clear h0 hlt
        go_wp2_with fail
        go_ret
        exact ⟨by rw [HR.out]; rfl, rfl⟩
      · have q8 := HS1.out h0
        have HR : Hid (isW l = true) := hA.out.fin (by have := HZ.out; omega) (by omega)
        clear h0 hlt
        go_wp2_with fail
        go_ret
        exact ⟨by rw [HR.out]; rfl, rfl⟩
end Go.Proofs.YtefofoocglhdmaaDoor
