/-
  The document's Domain.
-/
import Derived.Test.YtefofoocglhdmaaDoorMRef3
namespace Go.Proofs.YtefofoocglhdmaaDoor
open Go.RowKit

theorem cutD_cons (c : UInt8) (hc : ¬ c = 46) (l : List UInt8) : ∃ x r, cutD l = x :: r ∧ cutD (c :: l) = (c :: x) :: r := by
  have hne := cutD_ne l
  cases h : cutD l with
  | nil => exact absurd h hne
  | cons x r => exact ⟨x, r, rfl, by rw [cutD, if_neg hc, h]; rfl⟩
theorem oct_len {x : List UInt8} (h : octB x = true) : x.length ≤ 3 := by
  unfold octB okNum at h
  simp only [Bool.and_eq_true, decide_eq_true_eq] at h
  exact h.1.1.1.2
theorem dom_numbers {l : List UInt8} (m : List UInt8) (hl : l = 91 :: (m ++ [93])) : (fits l && domS l) = ((cutD m).all octB && decide ((cutD m).length = 4)) := by
  have h91 : l.headD 0 = 91 := by rw [hl]; rfl
  have ht : l.tail = m ++ [93] := by rw [hl]; rfl
  have hS : domS l = (decide (dotN inDig okNum l.tail = 4) && ((l.tail.dropWhile (orD inDig)) == [93])) := by unfold domS; rw [if_pos h91]
  have h93 : orD inDig 93 = false := by decide
  by_cases ha : (cutD m).all octB = true
  · have hch : ∀ c ∈ m, orD inDig c = true := parts_all.2 fun x hx => by
      have := List.all_eq_true.1 ha x hx
      unfold octB at this
      simp only [Bool.and_eq_true] at this
      exact this.2
    have h1 : (cutD m).all okNum = true := List.all_eq_true.2 fun x hx => by
      have := List.all_eq_true.1 ha x hx
      unfold octB at this
      simp only [Bool.and_eq_true] at this
      exact this.1
    have htw : (m ++ [93]).takeWhile (orD inDig) = m ∧ (m ++ [93]).dropWhile (orD inDig) = [93] := by
      have : ∀ (a : List UInt8), (∀ c ∈ a, orD inDig c = true) → (a ++ [93]).takeWhile (orD inDig) = a ∧ (a ++ [93]).dropWhile (orD inDig) = [93] := by
        intro a
        induction a with
        | nil => intro _; exact ⟨by rw [List.nil_append, List.takeWhile_cons_of_neg (by rw [h93]; simp)], by rw [List.nil_append, List.dropWhile_cons_of_neg (by rw [h93]; simp)]⟩
        | cons x xs ih =>
          intro hx
          obtain ⟨p, q⟩ := ih fun c hc => hx c (by simp [hc])
          have := hx x (by simp)
          rw [List.cons_append, List.takeWhile_cons_of_pos this, List.dropWhile_cons_of_pos this, p, q]
          exact ⟨rfl, rfl⟩
      exact this m hch
    have hn : dotN inDig okNum l.tail = (cutD m).length := by rw [ht]; unfold dotN; rw [htw.1, if_pos h1]
    have hf : fits l = true := by
      obtain ⟨i, x, e1, e2⟩ := cutD_snoc m 93 (by decide)
      obtain ⟨y, r, e3, e4⟩ := cutD_cons 91 (by decide) (m ++ [93])
      have hlen : ∀ z ∈ cutD (m ++ [93]), z.length ≤ 4 := by
        intro z hz
        rw [e2] at hz
        rcases List.mem_append.1 hz with hz | hz
        · have := oct_len (List.all_eq_true.1 ha z (by rw [e1]; simp [hz])); omega
        · simp at hz
          subst hz
          have := oct_len (List.all_eq_true.1 ha x (by rw [e1]; simp))
          simp; omega
      unfold fits
      rw [hl, e4]
      refine List.all_eq_true.2 fun z hz => ?_
      rcases List.mem_cons.1 hz with rfl | hz
      · have := hlen y (by rw [e3]; simp)
        simp; omega
      · have := hlen z (by rw [e3]; simp [hz])
        simp; omega
    rw [hf, hS, hn, ht, htw.2, ha]
    simp
  · have ha' : (cutD m).all octB = false := by simpa using ha
    rw [ha']
    by_cases hd : (m ++ [93]).dropWhile (orD inDig) = [93]
    · have e := List.takeWhile_append_dropWhile (p := orD inDig) (l := m ++ [93])
      rw [hd] at e
      have hm : (m ++ [93]).takeWhile (orD inDig) = m := List.append_cancel_right e
      have hch : ∀ c ∈ m, orD inDig c = true := by
        intro c hc
        rw [← hm] at hc
        exact List.all_eq_true.1 (tw_all _ _) c hc
      have hn : dotN inDig okNum l.tail = 0 := by
        rw [ht]
        unfold dotN
        rw [hm, if_neg]
        intro h1
        refine ha (List.all_eq_true.2 fun x hx => ?_)
        unfold octB
        rw [List.all_eq_true.1 h1 x hx, parts_all.1 hch x hx]; rfl
      rw [hS, hn]; simp
    · have : ((m ++ [93]).dropWhile (orD inDig) == [93]) = false := beq_eq_false_iff_ne.2 hd
      rw [hS, ht, this]; simp
theorem dom_open {l : List UInt8} (h91 : l.headD 0 = 91) (h93 : ¬ (l.getLastD 0 = 93 ∧ 2 ≤ l.length)) : domS l = false := by
  have hS : domS l = (decide (dotN inDig okNum l.tail = 4) && ((l.tail.dropWhile (orD inDig)) == [93])) := by unfold domS; rw [if_pos h91]
  have : ¬ l.tail.dropWhile (orD inDig) = [93] := by
    intro e
    have e1 := List.takeWhile_append_dropWhile (p := orD inDig) (l := l.tail)
    rw [e] at e1
    cases l with
    | nil => cases h91
    | cons x xs =>
      have e2 : xs = xs.takeWhile (orD inDig) ++ [93] := e1.symm
      obtain ⟨y, hy⟩ : ∃ y, xs = y ++ [93] := ⟨_, e2⟩
      rw [hy, ← List.cons_append] at h93
      exact h93 ⟨by rw [List.getLastD_eq_getLast?, List.getLast?_append]; rfl, by simp⟩
  have e : (l.tail.dropWhile (orD inDig) == [93]) = false := beq_eq_false_iff_ne.2 this
  rw [hS, e]; simp
theorem list_ends {l : List UInt8} (h2 : 2 ≤ l.length) (h91 : l.headD 0 = 91) (h93 : l.getLastD 0 = 93) : l = 91 :: ((l.drop 1).take (l.length - 2) ++ [93]) := by
  cases l with
  | nil => simp at h2
  | cons x xs =>
    have hx : x = 91 := h91
    subst hx
    have hne : xs ≠ [] := by rintro rfl; simp at h2
    have e := List.dropLast_concat_getLast hne
    have h3 : xs.getLast hne = 93 := by
      rw [List.getLastD_cons, List.getLastD_eq_getLast?, List.getLast?_eq_some_getLast hne] at h93
      exact h93
    rw [h3] at e
    have e4 : (91 :: xs).drop 1 = xs := rfl
    rw [e4]
    have : xs.take ((91 :: xs).length - 2) = xs.dropLast := by rw [List.dropLast_eq_take]; congr 1
    rw [this, e]

set_option maxHeartbeats 6400000 in
theorem rdomain_any (s : ByteArray) (w : World) (hs : s.size ≤ 1099511627776) :
    Calls Tryd.prog 15 #[.string s] w fun e w' => e = .returned (.bool (domB s.data.toList)) ∧ w' = w := by
  have hz := sz_list s
  obtain ⟨l, hl⟩ : ∃ l, s.data.toList = l := ⟨_, rfl⟩
  by_cases h0 : s.size = 0
  · have q0 := str_nil h0
    have HR : Hid (domB s.data.toList = false) := by
      have : s.data.toList = [] := List.eq_nil_of_length_eq_zero (by omega)
      show _ = _; rw [this]; decide
    clear h0 hz hl
    go_enter Tryd.func15, Tryd.ntmps15
    go_wp2_with fail
    go_ret
    exact ⟨by rw [HR.out]; rfl, rfl⟩
  have q0 := str_some h0
  by_cases h255 : 255 < s.size
  · have q1 : (255 : Int) < s.size := by omega
    have q1d : decide ((255 : Int) < s.size) = true := decide_eq_true q1
    have HR : Hid (domB s.data.toList = false) := by show _ = _; unfold domB; rw [← hz, decide_eq_false (by omega)]; rfl
    clear h0 h255 hz hl
    go_enter Tryd.func15, Tryd.ntmps15
    go_wp2_with fail
    go_ret
    exact ⟨by rw [HR.out]; rfl, rfl⟩
  have q1 : ¬ (255 : Int) < s.size := by omega
  have q1d : decide ((255 : Int) < s.size) = false := decide_eq_false q1
  have hl255 : s.size ≤ 255 := by omega
  have hB : domB l = (fits l && domS l) := by unfold domB; rw [← hl, ← hz, decide_eq_true hl255]; rfl
  have hl0 : 0 < s.size := by omega
  have p1 : (0 : Int) < s.size := by omega
  have hfst := get_first hl0
  by_cases h91 : s[0] = 91
  · have q2 : ((s[0].toNat : Int) == 91) = true := i_eq h91
    have h91' : l.headD 0 = 91 := by rw [← hl, ← hfst]; exact h91
    obtain ⟨k, hk⟩ : ∃ k, s.size = k + 1 := ⟨s.size - 1, by omega⟩
    have p2 : IntKind.i64.wrap ((s.size : Int) - 1) = (k : Int) := by rw [IntKind.wrap_i64]; omega
    have p3 : (k : Int) < s.size := by omega
    have p3' : (k : Int) ≤ s.size := by omega
    have hlk : k < s.size := by omega
    have hlast := get_last hk
    by_cases h93 : s[k] = 93
    · have q3 : ((s[k].toNat : Int) == 93) = true := i_eq h93
      have q3' : ((s[k].toNat : Int) != 93) = false := by show (!((s[k].toNat : Int) == 93)) = false; rw [q3]; rfl
      by_cases h2 : s.size < 2
      · have q4 : (s.size : Int) < 2 := by omega
        have q4d : decide ((s.size : Int) < 2) = true := decide_eq_true q4
        have HR : Hid (domB s.data.toList = false) := by show _ = _; rw [hl, hB, dom_open h91' (fun h => by rw [← hl, ← hz] at h; omega)]; simp
        clear h0 h255 hz hl hB h91' hlast h2 hk hfst h93 h91 hl255
        go_enter Tryd.func15, Tryd.ntmps15
        go_wp2_with fail
        go_ret
        exact ⟨by rw [HR.out]; rfl, rfl⟩
      · have q4 : ¬ (s.size : Int) < 2 := by omega
        have q4d : decide ((s.size : Int) < 2) = false := decide_eq_false q4
        have p4 : (1 : Int) ≤ k := by omega
        have he := list_ends (l := l) (by rw [← hl, ← hz]; omega) h91' (by rw [← hl, ← hlast]; exact h93)
        obtain ⟨u, hu⟩ : ∃ u, s.extract 1 k = u := ⟨_, rfl⟩
        have hul : u.data.toList = (l.drop 1).take (l.length - 2) := by
          have := bl_ext s.data.toList 1 k
          rw [show bl s.data.toList = s from rfl, hu, hl] at this
          rw [this]
          show (l.drop 1).take (k - 1) = _
          congr 1
          rw [← hl, ← hz]; omega
        have hus : u.size ≤ 255 := by rw [← hu, ByteArray.size_extract]; omega
        have HR : Hid (domB l = ((cutD u.data.toList).all octB && decide ((cutD u.data.toList).length = 4))) := by show _ = _; rw [hB, hul]; exact dom_numbers _ he
        rw [hl]
        clear h0 h255 hz hl hB h91' hlast h2 hk hfst h93 h91 hl255 he hul
        go_enter Tryd.func15, Tryd.ntmps15
        go_upto_region 8 with fail
        clear hu
        go_wp2_with fail
        go_loopw [4, 5, 6] (fun av pv iv wr => ∃ a p i : Nat, av = .int .i64 a ∧ pv = .int .i64 p ∧ iv = .int .i64 i ∧ i ≤ u.size + 1 ∧ a ≤ i ∧ p ≤ a ∧ wr = w ∧ Hid (RsD u.data.toList octB p a i)) (fun _ _ i _ => u.size + 1 - (intOf i).toNat)
        case atStart => exact ⟨0, 0, 0, rfl, rfl, rfl, by omega, Nat.le_refl _, Nat.le_refl _, rfl, RsD.start _ _⟩
        case round =>
          obtain ⟨a, p, i, rfl, rfl, rfl, hi, hai, hpa, rfl, hA⟩ := hrel
          by_cases hle : i ≤ u.size
          · have q3 : (i : Int) ≤ u.size := by omega
            have hsl := sz_list u
            by_cases hskip : i < u.size ∧ ¬ u.data.toList.getD i 0 = 46
            · obtain ⟨hlt, h46⟩ := hskip
              have q4 : (i : Int) < u.size := by omega
              have hne0 : ¬ u[i] = 46 := by rw [get_list hlt]; exact h46
              have hne : ((u[i].toNat : Int) == 46) = false := i_ne hne0
              have hne' : ((u[i].toNat : Int) != 46) = true := by show (!((u[i].toNat : Int) == 46)) = true; rw [hne]; rfl
              have HN := toHid (hA.out.skip (by omega) h46)
              clear h46 hsl hA
              go_wp2_with fail
              go_roundw
              case rel => exact ⟨a, p, i + 1, rfl, rfl, by go_num, by omega, by omega, hpa, trivial, HN.out⟩
              case measure => simp [intOf]; omega
            · obtain ⟨_, _, hgood, hbad⟩ := hA.out.part (i := i) (by omega) (fun h => by
                have h5 : i < u.size := by omega
                exact Classical.not_not.1 fun h6 => hskip ⟨h5, h6⟩)
              have hx : (u.extract a i).data.toList = (u.data.toList.drop a).take (i - a) := by
                have := bl_ext u.data.toList a i
                rw [show bl u.data.toList = u from rfl] at this
                rw [this]
              have hcl : Calls Tryd.prog 38 #[.string (u.extract a i)] wr fun e w' => e = .returned (.bool (octB ((u.data.toList.drop a).take (i - a)))) ∧ w' = wr := by
                have := roctet_any (u.extract a i) wr (by rw [ByteArray.size_extract]; omega)
                rw [hx] at this
                exact this
              have HC := toHid hcl
              have q5 : (a : Int) ≤ i := by omega
              have hcase : (∃ h : i < u.size, (i : Int) < u.size ∧ ((u[i].toNat : Int) == 46) = true ∧ ((u[i].toNat : Int) != 46) = false) ∨ (¬ (i : Int) < u.size ∧ i = u.size) := by
                by_cases hlt : i < u.size
                · have h46 : u.data.toList.getD i 0 = 46 := Classical.not_not.1 fun h => hskip ⟨hlt, h⟩
                  have he0 : u[i] = 46 := by rw [get_list hlt]; exact h46
                  have he : ((u[i].toNat : Int) == 46) = true := i_eq he0
                  exact .inl ⟨hlt, by omega, he, by show (!((u[i].toNat : Int) == 46)) = false; rw [he]; rfl⟩
                · exact .inr ⟨by omega, by omega⟩
              have HI : Hid (i ≤ u.size) := hle
              have hi2 : i ≤ 1000 := by omega
              cases ho : octB ((u.data.toList.drop a).take (i - a)) with
              | true =>
                rw [ho] at HC
                have HN := toHid (hgood ho)
                clear ho hgood hbad hx hcl hsl hA hskip hle
                rcases hcase with ⟨hlt, c1, c2, c3⟩ | ⟨c1, c2⟩
                · go_wp2_with (go_at_call 38; refine HC.out.mono ?_; rintro e w1 ⟨rfl, rfl⟩)
                  go_roundw
                  case rel => exact ⟨i + 1, p + 1, i + 1, by go_num, by go_num, by go_num, by have := HI.out; omega, Nat.le_refl _, by omega, trivial, HN.out⟩
                  case measure => simp [intOf] <;> (have := HI.out; omega)
                · clear c2
                  go_wp2_with (go_at_call 38; refine HC.out.mono ?_; rintro e w1 ⟨rfl, rfl⟩)
                  go_roundw
                  case rel => exact ⟨i + 1, p + 1, i + 1, by go_num, by go_num, by go_num, by have := HI.out; omega, Nat.le_refl _, by omega, trivial, HN.out⟩
                  case measure => simp [intOf] <;> (have := HI.out; omega)
              | false =>
                rw [ho] at HC
                have HN : Hid (domB l = false) := by show _ = _; rw [HR.out, hbad ho]; rfl
                clear ho hgood hbad hx hcl hsl hA hskip hle
                rcases hcase with ⟨hlt, c1, c2, c3⟩ | ⟨c1, c2⟩
                · go_wp2_with (go_at_call 38; refine HC.out.mono ?_; rintro e w1 ⟨rfl, rfl⟩)
                  go_ret
                  exact ⟨by rw [HN.out]; rfl, rfl⟩
                · clear c2
                  go_wp2_with (go_at_call 38; refine HC.out.mono ?_; rintro e w1 ⟨rfl, rfl⟩)
                  go_ret
                  exact ⟨by rw [HN.out]; rfl, rfl⟩
          · have q3 : ¬ (i : Int) ≤ u.size := by omega
            obtain ⟨h1, h2⟩ := hA.out.fin (by rw [← sz_list]; exact hle)
            by_cases h4 : p = 4
            · have q4 : ((p : Int) == 4) = true := by rw [h4]; rfl
              have HN : Hid (domB l = true) := by show _ = _; rw [HR.out, h1, h2, h4]; rfl
              clear h1 h2 h4 hA
              go_wp2_with fail
              go_ret
              exact ⟨by rw [HN.out]; rfl, rfl⟩
            · have q4 : ((p : Int) == 4) = false := beq_eq_false_iff_ne.2 (by omega)
              have HN : Hid (domB l = false) := by show _ = _; rw [HR.out, h1, h2, decide_eq_false h4]; rfl
              clear h1 h2 h4 hA
              go_wp2_with fail
              go_ret
              exact ⟨by rw [HN.out]; rfl, rfl⟩
    · have q3 : ((s[k].toNat : Int) == 93) = false := i_ne h93
      have q3' : ((s[k].toNat : Int) != 93) = true := by show (!((s[k].toNat : Int) == 93)) = true; rw [q3]; rfl
      have HR : Hid (domB s.data.toList = false) := by show _ = _; rw [hl, hB, dom_open h91' (fun h => h93 (by rw [hlast, hl]; exact h.1))]; simp
      clear h0 h255 hz hl hB h91' hlast hk hfst h93 h91 hl255
      go_enter Tryd.func15, Tryd.ntmps15
      go_wp2_with fail
      go_ret
      exact ⟨by rw [HR.out]; rfl, rfl⟩
  · have q2 : ((s[0].toNat : Int) == 91) = false := i_ne h91
    have h91' : ¬ l.headD 0 = 91 := by rw [← hl, ← hfst]; exact h91
    have HR : Hid (domB l = (cutD s.data.toList).all lab63) := by show _ = _; rw [hB, dom_labels h91', hl]
    rw [hl]
    have hus : s.size ≤ 255 := hl255
    clear h0 h255 hz hl hB h91' hfst h91 hl255
    go_enter Tryd.func15, Tryd.ntmps15
    go_wp2_with fail
    go_loopw [4, 5, 6] (fun av pv iv wr => ∃ a p i : Nat, av = .int .i64 a ∧ pv = .int .i64 p ∧ iv = .int .i64 i ∧ i ≤ s.size + 1 ∧ a ≤ i ∧ p ≤ a ∧ wr = w ∧ Hid (RsD s.data.toList lab63 p a i)) (fun _ _ i _ => s.size + 1 - (intOf i).toNat)
    case atStart => exact ⟨0, 0, 0, rfl, rfl, rfl, by omega, Nat.le_refl _, Nat.le_refl _, rfl, RsD.start _ _⟩
    case round =>
      obtain ⟨a, p, i, rfl, rfl, rfl, hi, hai, hpa, rfl, hA⟩ := hrel
      by_cases hle : i ≤ s.size
      · have q3 : (i : Int) ≤ s.size := by omega
        have hsl := sz_list s
        by_cases hskip : i < s.size ∧ ¬ s.data.toList.getD i 0 = 46
        · obtain ⟨hlt, h46⟩ := hskip
          have q4 : (i : Int) < s.size := by omega
          have hne0 : ¬ s[i] = 46 := by rw [get_list hlt]; exact h46
          have hne : ((s[i].toNat : Int) == 46) = false := i_ne hne0
          have hne' : ((s[i].toNat : Int) != 46) = true := by show (!((s[i].toNat : Int) == 46)) = true; rw [hne]; rfl
          have HN := toHid (hA.out.skip (by omega) h46)
          clear h46 hsl hA
          go_wp2_with fail
          go_roundw
          case rel => exact ⟨a, p, i + 1, rfl, rfl, by go_num, by omega, by omega, hpa, trivial, HN.out⟩
          case measure => simp [intOf]; omega
        · obtain ⟨_, _, hgood, hbad⟩ := hA.out.part (i := i) (by omega) (fun h => by
            have h5 : i < s.size := by omega
            exact Classical.not_not.1 fun h6 => hskip ⟨h5, h6⟩)
          have hx : (s.extract a i).data.toList = (s.data.toList.drop a).take (i - a) := by
            have := bl_ext s.data.toList a i
            rw [show bl s.data.toList = s from rfl] at this
            rw [this]
          have hcl : Calls Tryd.prog 39 #[.string (s.extract a i)] wr fun e w' => e = .returned (.bool (lab63 ((s.data.toList.drop a).take (i - a)))) ∧ w' = wr := by
            have := rlabel_any (s.extract a i) wr (by rw [ByteArray.size_extract]; omega)
            rw [hx] at this
            exact this
          have HC := toHid hcl
          have q5 : (a : Int) ≤ i := by omega
          have hcase : (∃ h : i < s.size, (i : Int) < s.size ∧ ((s[i].toNat : Int) == 46) = true ∧ ((s[i].toNat : Int) != 46) = false) ∨ (¬ (i : Int) < s.size ∧ i = s.size) := by
            by_cases hlt : i < s.size
            · have h46 : s.data.toList.getD i 0 = 46 := Classical.not_not.1 fun h => hskip ⟨hlt, h⟩
              have he0 : s[i] = 46 := by rw [get_list hlt]; exact h46
              have he : ((s[i].toNat : Int) == 46) = true := i_eq he0
              exact .inl ⟨hlt, by omega, he, by show (!((s[i].toNat : Int) == 46)) = false; rw [he]; rfl⟩
            · exact .inr ⟨by omega, by omega⟩
          have HI : Hid (i ≤ s.size) := hle
          have hi2 : i ≤ 1000 := by omega
          cases ho : lab63 ((s.data.toList.drop a).take (i - a)) with
          | true =>
            rw [ho] at HC
            have HN := toHid (hgood ho)
            clear ho hgood hbad hx hcl hsl hA hskip hle
            rcases hcase with ⟨hlt, c1, c2, c3⟩ | ⟨c1, c2⟩
            · go_wp2_with (go_at_call 39; refine HC.out.mono ?_; rintro e w1 ⟨rfl, rfl⟩)
              go_roundw
              case rel => exact ⟨i + 1, p + 1, i + 1, by go_num, by go_num, by go_num, by have := HI.out; omega, Nat.le_refl _, by omega, trivial, HN.out⟩
              case measure => simp [intOf] <;> (have := HI.out; omega)
            · clear c2
              go_wp2_with (go_at_call 39; refine HC.out.mono ?_; rintro e w1 ⟨rfl, rfl⟩)
              go_roundw
              case rel => exact ⟨i + 1, p + 1, i + 1, by go_num, by go_num, by go_num, by have := HI.out; omega, Nat.le_refl _, by omega, trivial, HN.out⟩
              case measure => simp [intOf] <;> (have := HI.out; omega)
          | false =>
            rw [ho] at HC
            have HN : Hid (domB l = false) := HR.out.trans (hbad ho)
            clear ho hgood hbad hx hcl hsl hA hskip hle
            rcases hcase with ⟨hlt, c1, c2, c3⟩ | ⟨c1, c2⟩
            · go_wp2_with (go_at_call 39; refine HC.out.mono ?_; rintro e w1 ⟨rfl, rfl⟩)
              go_ret
              exact ⟨by rw [HN.out]; rfl, rfl⟩
            · clear c2
              go_wp2_with (go_at_call 39; refine HC.out.mono ?_; rintro e w1 ⟨rfl, rfl⟩)
              go_ret
              exact ⟨by rw [HN.out]; rfl, rfl⟩
      · have q3 : ¬ (i : Int) ≤ s.size := by omega
        obtain ⟨h1, h2⟩ := hA.out.fin (by rw [← sz_list]; exact hle)
        have HN : Hid (domB l = true) := HR.out.trans h1
        clear h1 h2 hA
        go_wp2_with fail
        go_ret
        exact ⟨by rw [HN.out]; rfl, rfl⟩
end Go.Proofs.YtefofoocglhdmaaDoor
