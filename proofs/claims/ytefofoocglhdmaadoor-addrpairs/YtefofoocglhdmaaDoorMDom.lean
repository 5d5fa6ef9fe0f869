/-
  A domain but for its length; is a local part words?
-/
import Derived.Test.YtefofoocglhdmaaDoorMNum
import Derived.Deep.Cut
namespace Go.Proofs.YtefofoocglhdmaaDoor
open Go.RowKit

theorem sc_new (w : World) (l : List UInt8) (hl : l.length ≤ 1099511627776) : Sc (w.alloc (.cells #[.string (bl l)] 51)) w.heap.size l := ⟨heap_alloc_new w _, hl⟩
theorem On.newB {w w1 w2 : World} {D : Nat} (h : Below w.heap.size w w1) (hD : w.heap.size ≤ D) (k : On D w1 w2) : Below w.heap.size w w2 :=
  h.trans (Chg.below k h.size fun i hi => by subst hi; exact hD)
theorem alloc_below (w : World) (o : Obj) : Below w.heap.size w (w.alloc o) := (Chg.alloc (fun _ => False) w o).below (Nat.le_refl _) fun _ h => h.elim
theorem noD_dig : NoDot inDig := by show inDig 46 = false; decide
theorem noD_lab : NoDot inLab := by show inLab 46 = false; decide
theorem noD_wrd : NoDot inWrd := by show inWrd 46 = false; decide

theorem numbers_any (N D : Nat) (w : World) (c : List UInt8) (hV : Vr N w) (hS : Sc w D c) (hb : N ≤ D) :
    Calls Tryd.prog 56 #[.pointer (some ⟨D, 0, none⟩), .func (.func 57) #[.pointer (some ⟨D, 0, none⟩)] #[]] w fun e w' =>
      e = .returned (.int .i64 (dotN inDig okNum c : Nat)) ∧ On D w w' ∧ ∃ r, Sc w' D r ∧ (0 < dotN inDig okNum c → r = c.dropWhile (orD inDig)) :=
  (dotted_any w D c _ inDig okNum (Vr N) hS hV (fun _ _ h1 h2 => h1.on hb h2) noD_dig (fun x w => enters_of Tryd.func57 (by kernel_rfl) rfl #[x] w)
    (fun w1 c h1 h2 => number_any N w1 D c h2 hb h1)).mono fun e w' ⟨a, b, r, c1, _, c2⟩ => ⟨a, b, r, c1, c2⟩
theorem labels_any (D : Nat) (w : World) (c : List UInt8) (hS : Sc w D c) :
    Calls Tryd.prog 56 #[.pointer (some ⟨D, 0, none⟩), .func (.func 58) #[.pointer (some ⟨D, 0, none⟩)] #[]] w fun e w' =>
      e = .returned (.int .i64 (dotN inLab okLab c : Nat)) ∧ On D w w' ∧ ∃ r, Sc w' D r ∧ (0 < dotN inLab okLab c → r = c.dropWhile (orD inLab)) :=
  (dotted_any w D c _ inLab okLab (fun _ => True) hS trivial (fun _ _ _ _ => trivial) noD_lab (fun x w => enters_of Tryd.func58 (by kernel_rfl) rfl #[x] w)
    (fun w1 c _ h2 => label_any w1 D c h2)).mono fun e w' ⟨a, b, r, c1, _, c2⟩ => ⟨a, b, r, c1, c2⟩
theorem words_any (D : Nat) (w : World) (c : List UInt8) (hS : Sc w D c) :
    Calls Tryd.prog 56 #[.pointer (some ⟨D, 0, none⟩), .func (.func 70) #[.pointer (some ⟨D, 0, none⟩)] #[]] w fun e w' =>
      e = .returned (.int .i64 (dotN inWrd okWrd c : Nat)) ∧ On D w w' ∧ ∃ r, Sc w' D r ∧ r.length ≤ c.length ∧ (0 < dotN inWrd okWrd c → r = c.dropWhile (orD inWrd)) :=
  dotted_any w D c _ inWrd okWrd (fun _ => True) hS trivial (fun _ _ _ _ => trivial) noD_wrd (fun x w => enters_of Tryd.func70 (by kernel_rfl) rfl #[x] w)
    (fun w1 c _ h2 => word_any w1 D c h2)
theorem mark_at (w : World) (b : Nat) (l : List UInt8) (c : UInt8) (C : Int) (hC : (c.toNat : Int) = C) (h : Sc w b l) :
    Calls Tryd.prog 46 #[.pointer (some ⟨b, 0, none⟩), .int .u8 C] w fun e w' => e = .returned (.bool (decide (l.headD 0 = c))) ∧ Sc w' b (if l.headD 0 = c then l.tail else l) ∧ On b w w' := by
  rw [← hC]
  exact mark_any w b l c h
theorem bl_nil (l : List UInt8) : ((bl l).toList == []) = (l == []) := by rw [bl_toList]
theorem mem_beg (c : UInt8) (r : List UInt8) : (r == [c]) = (decide (r.headD 0 = c) && (r.tail == []) && !(r == [])) := by
  cases r with
  | nil => simp
  | cons x xs => cases xs <;> simp [List.cons_beq_cons] <;> rfl
theorem Below.onB {w W w1 : World} {D : Nat} (h : Hid (Below w.heap.size w W)) (hD : Hid (w.heap.size = D)) (k : On D W w1) : Below w.heap.size w w1 := On.newB h.out (Nat.le_of_eq hD.out) k

set_option maxHeartbeats 3200000 in
theorem dom_any (N : Nat) (s : ByteArray) (w : World) (hs : s.size ≤ 1099511627776) (hV : Vr N w) :
    Calls Tryd.prog 37 #[.string s] w fun e w' => e = .returned (.bool (domS s.data.toList)) ∧ Below w.heap.size w w' := by
  obtain ⟨l, hl⟩ : ∃ l, s.data.toList = l := ⟨_, rfl⟩
  have hsl : s = bl l := by rw [← hl]
  rw [hl]
  have hlen : l.length ≤ 1099511627776 := by rw [hsl, bl_size] at hs; exact hs
  have S0 : Sc (w.alloc (.cells #[.string s] 51)) w.heap.size l := by rw [hsl]; exact sc_new w l hlen
  have B0 : Hid (Below w.heap.size w (w.alloc (.cells #[.string s] 51))) := alloc_below w _
  have V0 : Hid (Vr N (w.alloc (.cells #[.string s] 51))) := hV.new B0.out
  have hN : N ≤ w.heap.size := hV.1
  obtain ⟨D, hD⟩ : ∃ D, w.heap.size = D := ⟨_, rfl⟩
  have HD : Hid (w.heap.size = D) := hD
  rw [hD] at S0 hN
  have HN : Hid (N ≤ D) := hN
  clear hl hsl hlen hV hN
  go_enter Tryd.func37, Tryd.ntmps37
  go_upto_region 3 with fail
  obtain ⟨W, hW⟩ : ∃ W, w.alloc (.cells #[.string s] 51) = W := ⟨_, rfl⟩
  rw [hW] at S0 V0 B0 ⊢
  have H0 : Hid (Sc W D l) := S0
  clear S0 hW hD hs
  by_cases h91 : l.headD 0 = 91
  · have hF : ((l.headD 0).toNat : Int) = 91 := by rw [h91]; rfl
    have hF' : Hid (((l.headD 0).toNat : Int) = 91) := hF
    have h91' : Hid (l.headD 0 = 91) := h91
    obtain ⟨m, hm⟩ : ∃ m, dotN inDig okNum l.tail = m := ⟨_, rfl⟩
    have hm' : Hid (dotN inDig okNum l.tail = m) := hm
    by_cases h4 : m = 4
    · subst h4
      have HR : Hid (domS l = (l.tail.dropWhile (orD inDig) == [93])) := by show _ = _; unfold domS; rw [if_pos h91, hm]; rfl
      obtain ⟨r0, hr0⟩ : ∃ r, l.tail.dropWhile (orD inDig) = r := ⟨_, rfl⟩
      have hr0' : Hid (l.tail.dropWhile (orD inDig) = r0) := hr0
      rw [hr0] at HR
      clear hF h91 hm hr0
      by_cases h93 : r0.headD 0 = 93
      · have h93' : Hid (r0.headD 0 = 93) := h93
        obtain ⟨t, ht⟩ : ∃ t, bl r0.tail = t := ⟨_, rfl⟩
        have ht' : Hid (bl r0.tail = t) := ht
        obtain ⟨B, hB⟩ : ∃ B, (t.toList == []) = B := ⟨_, rfl⟩
        have HR2 : Hid (domS l = B) := by
          show _ = _
          rw [HR.out, ← hB, ← ht, bl_nil, mem_beg, decide_eq_true h93]
          cases r0 with
          | nil => cases h93
          | cons x xs => simp
        clear h93 ht HR
        go_wp2_with (first
          | (go_at_call 47; refine (front_any _ _ _ H0.out).mono ?_; rintro e w1 ⟨rfl, rfl⟩; rw [hF'.out])
          | (go_at_call 56; with_reducible refine (numbers_any N D _ _ (V0.out.on HN.out hO1) hS1 HN.out).mono ?_; rintro e w2 ⟨rfl, hO2, r, hS2, hr⟩; rw [hm'.out] at hr; obtain rfl := hr (by decide); rw [hm'.out]; rw [hr0'.out] at hS2; clear hr)
          | (go_at_call 46; with_reducible refine (mark_at _ D l 91 91 rfl H0.out).mono ?_; rintro e w1 ⟨rfl, hS1, hO1⟩; rw [decide_eq_true h91'.out]; rw [if_pos h91'.out] at hS1)
          | (go_at_call 46; with_reducible refine (mark_at _ D r0 93 93 rfl hS2).mono ?_; rintro e w3 ⟨rfl, hS3, hO3⟩; rw [decide_eq_true h93'.out]; rw [if_pos h93'.out] at hS3; have c3 := hS3.c; rw [ht'.out] at c3))
        go_ret
        exact ⟨by rw [HR2.out]; rfl, Below.onB B0 HD ((hO1.trans hO2).trans hO3)⟩
      · have h93' : Hid (¬ r0.headD 0 = 93) := h93
        have HR2 : Hid (domS l = false) := by
          show _ = _
          rw [HR.out, mem_beg, decide_eq_false h93]; rfl
        clear h93 HR
        go_wp2_with (first
          | (go_at_call 47; refine (front_any _ _ _ H0.out).mono ?_; rintro e w1 ⟨rfl, rfl⟩; rw [hF'.out])
          | (go_at_call 56; with_reducible refine (numbers_any N D _ _ (V0.out.on HN.out hO1) hS1 HN.out).mono ?_; rintro e w2 ⟨rfl, hO2, r, hS2, hr⟩; rw [hm'.out] at hr; obtain rfl := hr (by decide); rw [hm'.out]; rw [hr0'.out] at hS2; clear hr)
          | (go_at_call 46; with_reducible refine (mark_at _ D l 91 91 rfl H0.out).mono ?_; rintro e w1 ⟨rfl, hS1, hO1⟩; rw [decide_eq_true h91'.out]; rw [if_pos h91'.out] at hS1)
          | (go_at_call 46; with_reducible refine (mark_at _ D r0 93 93 rfl hS2).mono ?_; rintro e w3 ⟨rfl, hS3, hO3⟩; rw [decide_eq_false h93'.out]))
        go_ret
        exact ⟨by rw [HR2.out]; rfl, Below.onB B0 HD ((hO1.trans hO2).trans hO3)⟩
    · have HR : Hid (domS l = false) := by show _ = _; unfold domS; rw [if_pos h91, hm, decide_eq_false h4]; rfl
      have q4 : ((m : Int) == 4) = false := beq_eq_false_iff_ne.2 (by omega)
      clear hF h91 hm h4
      go_wp2_with (first
        | (go_at_call 47; refine (front_any _ _ _ H0.out).mono ?_; rintro e w1 ⟨rfl, rfl⟩; rw [hF'.out])
        | (go_at_call 56; with_reducible refine (numbers_any N D _ _ (V0.out.on HN.out hO1) hS1 HN.out).mono ?_; rintro e w2 ⟨rfl, hO2, r, hS2, hr⟩; rw [hm'.out]; clear hr)
        | (go_at_call 46; with_reducible refine (mark_at _ D l 91 91 rfl H0.out).mono ?_; rintro e w1 ⟨rfl, hS1, hO1⟩; rw [decide_eq_true h91'.out]; rw [if_pos h91'.out] at hS1))
      go_ret
      exact ⟨by rw [HR.out]; rfl, Below.onB B0 HD (hO1.trans hO2)⟩
  · obtain ⟨X, hX⟩ : ∃ X : Int, ((l.headD 0).toNat : Int) = X := ⟨_, rfl⟩
    have hF' : Hid (((l.headD 0).toNat : Int) = X) := hX
    have qX : (X == 91) = false := by rw [← hX]; exact i_ne h91
    obtain ⟨m, hm⟩ : ∃ m, dotN inLab okLab l = m := ⟨_, rfl⟩
    have hm' : Hid (dotN inLab okLab l = m) := hm
    by_cases h0 : 0 < m
    · have HR : Hid (domS l = (l.dropWhile (orD inLab) == [])) := by show _ = _; unfold domS; rw [if_neg h91, hm, decide_eq_true h0]; rfl
      have q0 : (0 : Int) < m := by omega
      have h0' : Hid (0 < m) := h0
      obtain ⟨r0, hr0⟩ : ∃ r, l.dropWhile (orD inLab) = r := ⟨_, rfl⟩
      have hr0' : Hid (l.dropWhile (orD inLab) = r0) := hr0
      rw [hr0] at HR
      obtain ⟨t, ht⟩ : ∃ t, bl r0 = t := ⟨_, rfl⟩
      have ht' : Hid (bl r0 = t) := ht
      obtain ⟨B, hB⟩ : ∃ B, (t.toList == []) = B := ⟨_, rfl⟩
      have HR2 : Hid (domS l = B) := by
        show _ = _
        rw [HR.out, ← hB, ← ht, bl_nil]
      clear hX h91 hm h0 hr0 ht HR
      go_wp2_with (first
        | (go_at_call 47; refine (front_any _ _ _ H0.out).mono ?_; rintro e w1 ⟨rfl, rfl⟩; rw [hF'.out])
        | (go_at_call 56; with_reducible refine (labels_any D _ _ H0.out).mono ?_; rintro e w2 ⟨rfl, hO2, r, hS2, hr⟩; rw [hm'.out] at hr; obtain rfl := hr h0'.out; rw [hm'.out]; rw [hr0'.out] at hS2; clear hr; have c3 := hS2.c; rw [ht'.out] at c3))
      go_ret
      exact ⟨by rw [HR2.out]; rfl, Below.onB B0 HD hO2⟩
    · obtain rfl : m = 0 := by omega
      have HR : Hid (domS l = false) := by show _ = _; unfold domS; rw [if_neg h91, hm]; rfl
      clear hX h91 hm h0
      go_wp2_with (first
        | (go_at_call 47; refine (front_any _ _ _ H0.out).mono ?_; rintro e w1 ⟨rfl, rfl⟩; rw [hF'.out])
        | (go_at_call 56; with_reducible refine (labels_any D _ _ H0.out).mono ?_; rintro e w2 ⟨rfl, hO2, r, hS2, hr⟩; rw [hm'.out]; clear hr))
      go_ret
      exact ⟨by rw [HR.out]; rfl, Below.onB B0 HD hO2⟩

set_option maxHeartbeats 3200000 in
theorem isW_any (s : ByteArray) (w : World) (hs : s.size ≤ 1099511627776) :
    Calls Tryd.prog 59 #[.string s] w fun e w' => e = .returned (.bool (isW s.data.toList)) ∧ Below w.heap.size w w' := by
  obtain ⟨l, hl⟩ : ∃ l, s.data.toList = l := ⟨_, rfl⟩
  have hsl : s = bl l := by rw [← hl]
  rw [hl]
  have hlen : l.length ≤ 1099511627776 := by rw [hsl, bl_size] at hs; exact hs
  have S0 : Sc (w.alloc (.cells #[.string s] 51)) w.heap.size l := by rw [hsl]; exact sc_new w l hlen
  have B0 : Hid (Below w.heap.size w (w.alloc (.cells #[.string s] 51))) := alloc_below w _
  obtain ⟨D, hD⟩ : ∃ D, w.heap.size = D := ⟨_, rfl⟩
  have HD : Hid (w.heap.size = D) := hD
  rw [hD] at S0
  clear hl hsl hlen
  go_enter Tryd.func59, Tryd.ntmps59
  go_upto_region 2 with fail
  obtain ⟨W, hW⟩ : ∃ W, w.alloc (.cells #[.string s] 51) = W := ⟨_, rfl⟩
  rw [hW] at S0 B0 ⊢
  have H0 : Hid (Sc W D l) := S0
  clear S0 hW hD hs
  obtain ⟨m, hm⟩ : ∃ m, dotN inWrd okWrd l = m := ⟨_, rfl⟩
  have hm' : Hid (dotN inWrd okWrd l = m) := hm
  by_cases h0 : 0 < m
  · have HR : Hid (isW l = (l.dropWhile (orD inWrd) == [])) := by show _ = _; unfold isW; rw [hm, decide_eq_true h0]; rfl
    have q0 : (0 : Int) < m := by omega
    have h0' : Hid (0 < m) := h0
    obtain ⟨r0, hr0⟩ : ∃ r, l.dropWhile (orD inWrd) = r := ⟨_, rfl⟩
    have hr0' : Hid (l.dropWhile (orD inWrd) = r0) := hr0
    rw [hr0] at HR
    obtain ⟨t, ht⟩ : ∃ t, bl r0 = t := ⟨_, rfl⟩
    have ht' : Hid (bl r0 = t) := ht
    obtain ⟨B, hB⟩ : ∃ B, (t.toList == []) = B := ⟨_, rfl⟩
    have HR2 : Hid (isW l = B) := by
      show _ = _
      rw [HR.out, ← hB, ← ht, bl_nil]
    clear hm h0 hr0 ht HR
    go_wp2_with (go_at_call 56; with_reducible refine (words_any D _ _ H0.out).mono ?_; rintro e w2 ⟨rfl, hO2, r, hS2, _, hr⟩; rw [hm'.out] at hr; obtain rfl := hr h0'.out; rw [hm'.out]; rw [hr0'.out] at hS2; clear hr; have c3 := hS2.c; rw [ht'.out] at c3)
    go_ret
    exact ⟨by rw [HR2.out]; rfl, Below.onB B0 HD hO2⟩
  · obtain rfl : m = 0 := by omega
    have HR : Hid (isW l = false) := by show _ = _; unfold isW; rw [hm]; rfl
    clear hm h0
    go_wp2_with (go_at_call 56; with_reducible refine (words_any D _ _ H0.out).mono ?_; rintro e w2 ⟨rfl, hO2, r, hS2, _, hr⟩; rw [hm'.out]; clear hr)
    go_ret
    exact ⟨by rw [HR.out]; rfl, Below.onB B0 HD hO2⟩
end Go.Proofs.YtefofoocglhdmaaDoor
