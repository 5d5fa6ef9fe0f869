/-
  The scanner's local, route.
-/
import Derived.Test.YtefofoocglhdmaaDoorMQtd
namespace Go.Proofs.YtefofoocglhdmaaDoor
open Go.RowKit

/-- How local ends. -/
def LocT (o : Option (List UInt8 × List UInt8)) (e : Ending) (r : List UInt8) : Prop :=
  (∃ a, o = some (a, r) ∧ e = .returned (.tuple #[.string (bl a), .bool true])) ∨ (o = none ∧ ∃ X, e = .returned (.tuple #[.string X, .bool false]))
theorem take_tw (p : UInt8 → Bool) (l : List UInt8) : l.take (l.length - (l.dropWhile p).length) = l.takeWhile p := by
  have h := List.takeWhile_append_dropWhile (p := p) (l := l)
  have hl := congrArg List.length h
  rw [List.length_append] at hl
  have : l.length - (l.dropWhile p).length = (l.takeWhile p).length := by omega
  rw [this]
  conv => lhs; arg 2; rw [← h]
  exact List.take_left
theorem bl_zero : bl [] = ⟨#[]⟩ := rfl

set_option maxHeartbeats 3200000 in
theorem loc_any (w : World) (b : Nat) (l : List UInt8) (h : Sc w b l) :
    Calls Tryd.prog 64 #[.pointer (some ⟨b, 0, none⟩)] w fun e w' => ∃ r, LocT (loc l) e r ∧ Sc w' b r ∧ On b w w' := by
  have H : Hid (Sc w b l) := h
  by_cases h34 : l.headD 0 = 34
  · have hF : ((l.headD 0).toNat : Int) = 34 := by rw [h34]; rfl
    have HF : Hid (((l.headD 0).toNat : Int) = 34) := hF
    have HQ : Hid (Calls Tryd.prog 71 #[.pointer (some ⟨b, 0, none⟩)] w fun e w' => ∃ r X B, e = .returned (.tuple #[.string X, .bool B]) ∧ LocT (loc l) (.returned (.tuple #[.string X, .bool B])) r ∧ Sc w' b r ∧ On b w w') :=
      (quoted_any w b l h h34).mono fun e w' ⟨r, hq, hS, hO⟩ => by
        have hloc : loc l = (match quo l.tail with | some (a, r) => if a = [] then none else some (a, r) | none => none) := by unfold loc; rw [if_pos h34]; cases quo l.tail <;> rfl
        rcases hq with ⟨a, e1, e2⟩ | ⟨e1, e2⟩
        · rw [e1] at hloc
          refine ⟨r, _, _, e2, ?_, hS, hO⟩
          by_cases ha : a = []
          · subst ha
            exact .inr ⟨hloc, _, rfl⟩
          · have : (!(a == [])) = true := by
              have : (a == []) = false := beq_eq_false_iff_ne.2 ha
              rw [this]; rfl
            rw [this]
            refine .inl ⟨a, ?_, rfl⟩
            rw [hloc]
            exact if_neg ha
        · rw [e1] at hloc
          exact ⟨r, _, _, e2, .inr ⟨hloc, _, rfl⟩, hS, hO⟩
    clear h h34 hF
    go_enter Tryd.func64, Tryd.ntmps64
    go_wp2_with (first
      | (go_at_call 47; refine (front_any _ _ _ H.out).mono ?_; rintro e w1 ⟨rfl, rfl⟩; rw [HF.out])
      | (go_at_call 71; refine HQ.out.mono ?_; rintro e w2 ⟨r, X, B, rfl, hL, hS, hO⟩; have HL := toHid hL; clear hL))
    go_ret2
    exact ⟨r, HL.out, hS, hO⟩
  · obtain ⟨X, hX⟩ : ∃ X : Int, ((l.headD 0).toNat : Int) = X := ⟨_, rfl⟩
    have HF : Hid (((l.headD 0).toNat : Int) = X) := hX
    have qX : (X == 34) = false := by rw [← hX]; exact i_ne h34
    have hloc : loc l = if 0 < dotN inWrd okWrd l then some (l.takeWhile (orD inWrd), l.dropWhile (orD inWrd)) else none := by unfold loc; rw [if_neg h34]
    obtain ⟨m, hm⟩ : ∃ m, dotN inWrd okWrd l = m := ⟨_, rfl⟩
    have hm' : Hid (dotN inWrd okWrd l = m) := hm
    rw [hm] at hloc
    have c0 := h.c
    have hlen := h.len
    obtain ⟨s, hs⟩ : ∃ s, bl l = s := ⟨_, rfl⟩
    have hsz : s.size = l.length := by rw [← hs, bl_size]
    have HSZ : Hid (s.size = l.length) := hsz
    have hse : s.size ≤ 1099511627776 := by omega
    rw [hs] at c0
    by_cases h0 : 0 < m
    · rw [if_pos h0] at hloc
      have q0 : (0 : Int) < m := by omega
      have h0' : Hid (0 < m) := h0
      obtain ⟨r0, hr0⟩ : ∃ r, l.dropWhile (orD inWrd) = r := ⟨_, rfl⟩
      have hr0' : Hid (l.dropWhile (orD inWrd) = r0) := hr0
      have hle := dw_le (orD inWrd) l
      have htk := take_tw (orD inWrd) l
      rw [hr0] at hle htk hloc
      obtain ⟨t, ht⟩ : ∃ t, bl r0 = t := ⟨_, rfl⟩
      have hts : t.size = r0.length := by rw [← ht, bl_size]
      have ht' : Hid (bl r0 = t) := ht
      obtain ⟨k, hk⟩ : ∃ k, s.size - t.size = k := ⟨_, rfl⟩
      have q1 : IntKind.i64.wrap ((s.size : Int) - t.size) = (k : Int) := by rw [IntKind.wrap_i64]; omega
      have q2 : (k : Int) ≤ s.size := by omega
      have HE : Hid (s.extract 0 k = bl (l.takeWhile (orD inWrd))) := by
        show _ = _
        rw [← hs, bl_take, ← htk]
        congr 2
        omega
      have HL : Hid (loc l = some (l.takeWhile (orD inWrd), r0)) := hloc
      clear hX h34 hloc hm hs hsz h0 hr0 hle htk ht hts hk h hlen
      go_enter Tryd.func64, Tryd.ntmps64
      go_wp2_with (first
        | (go_at_call 47; refine (front_any _ _ _ H.out).mono ?_; rintro e w1 ⟨rfl, rfl⟩; rw [HF.out])
        | (go_at_call 56; with_reducible refine (words_any b _ _ H.out).mono ?_; rintro e w2 ⟨rfl, hO2, r, hS2, _, hr⟩; rw [hm'.out] at hr; obtain rfl := hr h0'.out; rw [hm'.out]; rw [hr0'.out] at hS2; clear hr c0; have c3 := hS2.c; rw [ht'.out] at c3))
      go_ret2
      exact ⟨r0, .inl ⟨_, HL.out, by rw [← HE.out]; simp [h0'.out]⟩, hS2, hO2⟩
    · obtain rfl : m = 0 := by omega
      have HL : Hid (loc l = none) := hloc
      clear hX h34 hloc hm hs hsz h0 h hlen
      go_enter Tryd.func64, Tryd.ntmps64
      go_wp2_with (first
        | (go_at_call 47; refine (front_any _ _ _ H.out).mono ?_; rintro e w1 ⟨rfl, rfl⟩; rw [HF.out])
        | (go_at_call 56; with_reducible refine (words_any b _ _ H.out).mono ?_; rintro e w2 ⟨rfl, hO2, r, hS2, hrl, hr⟩; rw [hm'.out]; clear hr c0; have c3 := hS2.c; obtain ⟨t, ht⟩ : ∃ t, bl r = t := ⟨_, rfl⟩; have hts : t.size ≤ s.size := (by rw [← ht, bl_size, HSZ.out]; exact hrl); rw [ht] at c3; obtain ⟨k, hk⟩ : ∃ k, s.size - t.size = k := ⟨_, rfl⟩; have q1 : IntKind.i64.wrap ((s.size : Int) - t.size) = (k : Int) := (by rw [IntKind.wrap_i64]; omega); have q2 : (k : Int) ≤ s.size := (by omega); clear hk hts ht hrl))
      go_ret2
      exact ⟨r, .inr ⟨HL.out, _, rfl⟩, hS2, hO2⟩

/-- How a route ends. -/
def RteT (o : Option (List UInt8)) (e : Ending) (r : List UInt8) : Prop := (o = some r ∧ e = .returned (.bool true)) ∨ (o = none ∧ e = .returned (.bool false))
theorem Sc.more {w w' : World} {b : Nat} {l : List UInt8} (h : Sc w b l) (hb : Below w.heap.size w w') : Sc w' b l := h.kept (Chg.ofBelowT hb) fun h => h
theorem On.more {b : Nat} {w w1 w2 : World} (h : On b w w1) (hb : Below w1.heap.size w1 w2) : On b w w2 := Chg.trans h (Chg.ofBelowT hb) fun _ _ h => h.elim
theorem hd_ne {l : List UInt8} {c : UInt8} (hc : ¬ c = 0) (h : l.headD 0 = c) : l.tail.length + 1 = l.length := by
  cases l with
  | nil => exact absurd h.symm hc
  | cons x xs => rfl
/-- The rest of a route. -/
def RAt (l c : List UInt8) : Prop := ∃ k, c.length < k ∧ rteF k c = rte l
theorem RAt.start (l : List UInt8) : RAt l l := ⟨_, Nat.lt_succ_self _, rfl⟩
theorem RAt.no {l c : List UInt8} (h : RAt l c) (h64 : ¬ c.headD 0 = 64) : rte l = none := by
  obtain ⟨k, hk, e⟩ := h
  cases k with
  | zero => omega
  | succ k => rw [← e, rteF, if_neg h64]
theorem RAt.bad {l c : List UInt8} (h : RAt l c) (h64 : c.headD 0 = 64) (hd : domS (c.tail.takeWhile inDom) = false) : rte l = none := by
  obtain ⟨k, hk, e⟩ := h
  cases k with
  | zero => omega
  | succ k => rw [← e, rteF, if_pos h64, if_neg (by rw [hd]; simp)]
theorem RAt.next {l c : List UInt8} (h : RAt l c) (h64 : c.headD 0 = 64) (hd : domS (c.tail.takeWhile inDom) = true) (h44 : (c.tail.dropWhile inDom).headD 0 = 44) : RAt l (c.tail.dropWhile inDom).tail ∧ (c.tail.dropWhile inDom).tail.length < c.length := by
  obtain ⟨k, hk, e⟩ := h
  have h1 := hd_ne (by decide) h64
  have h2 := hd_ne (by decide) h44
  have h3 := dw_le inDom c.tail
  refine ⟨?_, by omega⟩
  cases k with
  | zero => omega
  | succ k =>
    rw [rteF, if_pos h64, if_pos hd, if_pos h44] at e
    exact ⟨k, by omega, e⟩
theorem RAt.fin {l c : List UInt8} (h : RAt l c) (h64 : c.headD 0 = 64) (hd : domS (c.tail.takeWhile inDom) = true) (h58 : (c.tail.dropWhile inDom).headD 0 = 58) : rte l = some (c.tail.dropWhile inDom).tail := by
  obtain ⟨k, hk, e⟩ := h
  have h44 : ¬ (c.tail.dropWhile inDom).headD 0 = 44 := by rw [h58]; decide
  cases k with
  | zero => omega
  | succ k => rw [← e, rteF, if_pos h64, if_pos hd, if_neg h44, if_pos h58]
theorem RAt.not {l c : List UInt8} (h : RAt l c) (h64 : c.headD 0 = 64) (hd : domS (c.tail.takeWhile inDom) = true) (h44 : ¬ (c.tail.dropWhile inDom).headD 0 = 44) (h58 : ¬ (c.tail.dropWhile inDom).headD 0 = 58) : rte l = none := by
  obtain ⟨k, hk, e⟩ := h
  cases k with
  | zero => omega
  | succ k => rw [← e, rteF, if_pos h64, if_pos hd, if_neg h44, if_neg h58]
theorem runD_any (w : World) (b : Nat) (l : List UInt8) (h : Sc w b l) :
    Calls Tryd.prog 62 #[.pointer (some ⟨b, 0, none⟩), .func (.func 63) #[] #[]] w fun e w' => e = .returned (.string (bl (l.takeWhile inDom))) ∧ Sc w' b (l.dropWhile inDom) ∧ On b w w' :=
  run_any w b l 63 inDom h (fun x w => enters_of Tryd.func63 (by kernel_rfl) rfl #[x] w) (fun c w => inDom_any c w)
/-- A domain but for its length, behind the walk's own text. -/
theorem domT_any (N : Nat) (l : List UInt8) (t : ByteArray) (ht : bl l = t) (hl : l.length ≤ 1099511627776) (w : World) (hV : Vr N w) :
    Calls Tryd.prog 37 #[.string t] w fun e w' => e = .returned (.bool (domS l)) ∧ Below w.heap.size w w' := by
  subst ht
  exact dom_any N (bl l) w (by rw [bl_size]; exact hl) hV

set_option maxHeartbeats 3200000 in
theorem route_any (N : Nat) (w : World) (b : Nat) (l : List UInt8) (h : Sc w b l) (hb : N ≤ b) (hV : Vr N w) :
    Calls Tryd.prog 48 #[.pointer (some ⟨b, 0, none⟩)] w fun e w' => ∃ r, RteT (rte l) e r ∧ Sc w' b r ∧ On b w w' := by
  have H : Hid (Sc w b l) := h
  have HB : Hid (N ≤ b) := hb
  have HV : Hid (Vr N w) := hV
  clear h hb hV
  go_enter Tryd.func48, Tryd.ntmps48
  go_wp2_with fail
  go_loopw [] (fun wr => ∃ cur : List UInt8, Hid (Sc wr b cur ∧ On b w wr ∧ RAt l cur)) (fun wr => leftN b wr)
  case atStart => exact ⟨l, H.out, Chg.refl _ _, RAt.start l⟩
  case round =>
    obtain ⟨cur, hA⟩ := hrel
    obtain ⟨hS, hO, hR⟩ := hA.out
    have HO : Hid (On b w wr) := hO
    have HVr : Hid (Vr N wr) := HV.out.on HB.out hO
    have HL : Hid (leftN b wr = cur.length) := hS.left
    have HM := toHid (mark_at wr b cur 64 64 rfl hS)
    by_cases h64 : cur.headD 0 = 64
    · rw [decide_eq_true h64, if_pos h64] at HM
      obtain ⟨dm, hdm⟩ : ∃ d, cur.tail.takeWhile inDom = d := ⟨_, rfl⟩
      obtain ⟨rs, hrs⟩ : ∃ d, cur.tail.dropWhile inDom = d := ⟨_, rfl⟩
      obtain ⟨t, ht⟩ : ∃ t, bl dm = t := ⟨_, rfl⟩
      have HRn : Hid (∀ w1, Sc w1 b cur.tail → Calls Tryd.prog 62 #[.pointer (some ⟨b, 0, none⟩), .func (.func 63) #[] #[]] w1 fun e w' => e = .returned (.string t) ∧ Sc w' b rs ∧ On b w1 w') := fun w1 h1 => by
        have := runD_any w1 b _ h1
        rw [hdm, hrs, ht] at this
        exact this
      have hdl : dm.length ≤ 1099511627776 := by
        have h1 := tw_le inDom cur.tail
        have h2 := hS.len
        rw [hdm] at h1
        have : cur.tail.length ≤ cur.length := by simp
        omega
      have HD : Hid (∀ w1, Vr N w1 → Calls Tryd.prog 37 #[.string t] w1 fun e w' => e = .returned (.bool (domS dm)) ∧ Below w1.heap.size w1 w') := fun w1 h1 => domT_any N dm t ht hdl w1 h1
      cases hd : domS dm with
      | false =>
        have HE : Hid (rte l = none) := hR.bad h64 (by rw [hdm]; exact hd)
        rw [hd] at HD
        clear hA hS hO hR h64 hdm hrs ht hdl hd
        go_wp2_with (first
          | (go_at_call 46; refine HM.out.mono ?_; rintro e w2 ⟨rfl, hS2, hO2⟩)
          | (go_at_call 62; refine (HRn.out _ hS2).mono ?_; rintro e w3 ⟨rfl, hS3, hO3⟩; have HV3 := toHid ((HVr.out.on HB.out hO2).on HB.out hO3))
          | (go_at_call 37; refine (HD.out _ HV3.out).mono ?_; rintro e w4 ⟨rfl, hB4⟩))
        go_ret
        exact ⟨rs, .inr ⟨HE.out, rfl⟩, hS3.more hB4, ((HO.out.trans hO2).trans hO3).more hB4⟩
      | true =>
        rw [hd] at HD
        have HTk : Hid (∀ w1, Sc w1 b rs → Calls Tryd.prog 61 #[.pointer (some ⟨b, 0, none⟩)] w1 fun e w' => e = .returned (.int .u8 ((rs.headD 0).toNat : Int)) ∧ Sc w' b rs.tail ∧ On b w1 w') := fun w1 h1 => take_any w1 b rs h1
        obtain ⟨X, hX⟩ : ∃ X : Int, ((rs.headD 0).toNat : Int) = X := ⟨_, rfl⟩
        rw [hX] at HTk
        by_cases h44 : rs.headD 0 = 44
        · have e44 : (X == 44) = true := by rw [← hX]; exact i_eq h44
          have hN := hR.next h64 (by rw [hdm]; exact hd) (by rw [hrs]; exact h44)
          rw [hrs] at hN
          have HN2 := toHid hN
          clear hA hS hO hR h64 hdm hrs ht hdl hd hX h44 hN
          go_wp2_with (first
            | (go_at_call 46; refine HM.out.mono ?_; rintro e w2 ⟨rfl, hS2, hO2⟩)
            | (go_at_call 62; refine (HRn.out _ hS2).mono ?_; rintro e w3 ⟨rfl, hS3, hO3⟩; have HV3 := toHid ((HVr.out.on HB.out hO2).on HB.out hO3))
            | (go_at_call 37; refine (HD.out _ HV3.out).mono ?_; rintro e w4 ⟨rfl, hB4⟩)
            | (go_at_call 61; refine (HTk.out _ (hS3.more hB4)).mono ?_; rintro e w5 ⟨rfl, hS5, hO5⟩))
          go_roundw
          case rel => exact ⟨rs.tail, hS5, (((HO.out.trans hO2).trans hO3).more hB4).trans hO5, HN2.out.1⟩
          case measure => rw [HL.out, hS5.left]; exact HN2.out.2
        · have e44 : (X == 44) = false := by rw [← hX]; exact i_ne h44
          by_cases h58 : rs.headD 0 = 58
          · have e58 : (X == 58) = true := by rw [← hX]; exact i_eq h58
            have HE := toHid (hR.fin h64 (by rw [hdm]; exact hd) (by rw [hrs]; exact h58))
            rw [hrs] at HE
            clear hA hS hO hR h64 hdm hrs ht hdl hd hX h44 h58
            go_wp2_with (first
              | (go_at_call 46; refine HM.out.mono ?_; rintro e w2 ⟨rfl, hS2, hO2⟩)
              | (go_at_call 62; refine (HRn.out _ hS2).mono ?_; rintro e w3 ⟨rfl, hS3, hO3⟩; have HV3 := toHid ((HVr.out.on HB.out hO2).on HB.out hO3))
              | (go_at_call 37; refine (HD.out _ HV3.out).mono ?_; rintro e w4 ⟨rfl, hB4⟩)
              | (go_at_call 61; refine (HTk.out _ (hS3.more hB4)).mono ?_; rintro e w5 ⟨rfl, hS5, hO5⟩))
            go_ret
            exact ⟨rs.tail, .inl ⟨HE.out, rfl⟩, hS5, (((HO.out.trans hO2).trans hO3).more hB4).trans hO5⟩
          · have e58 : (X == 58) = false := by rw [← hX]; exact i_ne h58
            have HE := toHid (hR.not h64 (by rw [hdm]; exact hd) (by rw [hrs]; exact h44) (by rw [hrs]; exact h58))
            clear hA hS hO hR h64 hdm hrs ht hdl hd hX h44 h58
            go_wp2_with (first
              | (go_at_call 46; refine HM.out.mono ?_; rintro e w2 ⟨rfl, hS2, hO2⟩)
              | (go_at_call 62; refine (HRn.out _ hS2).mono ?_; rintro e w3 ⟨rfl, hS3, hO3⟩; have HV3 := toHid ((HVr.out.on HB.out hO2).on HB.out hO3))
              | (go_at_call 37; refine (HD.out _ HV3.out).mono ?_; rintro e w4 ⟨rfl, hB4⟩)
              | (go_at_call 61; refine (HTk.out _ (hS3.more hB4)).mono ?_; rintro e w5 ⟨rfl, hS5, hO5⟩))
            go_ret
            exact ⟨rs.tail, .inr ⟨HE.out, rfl⟩, hS5, (((HO.out.trans hO2).trans hO3).more hB4).trans hO5⟩
    · rw [decide_eq_false h64, if_neg h64] at HM
      have HE : Hid (rte l = none) := hR.no h64
      clear hA hS hO hR h64
      go_wp2_with (go_at_call 46; refine HM.out.mono ?_; rintro e w2 ⟨rfl, hS2, hO2⟩)
      go_ret
      exact ⟨cur, .inr ⟨HE.out, rfl⟩, hS2, HO.out.trans hO2⟩
end Go.Proofs.YtefofoocglhdmaaDoor
