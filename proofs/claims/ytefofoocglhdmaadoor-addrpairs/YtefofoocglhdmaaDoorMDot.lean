/-
  Bytes of a kind; parts with dots between.
-/
import Derived.Test.YtefofoocglhdmaaDoorMScan
namespace Go.Proofs.YtefofoocglhdmaaDoor
open Go.RowKit

/-- From here on: how many parts stand ahead (all are right), and what is to come. -/
def DotAt (p : UInt8 → Bool) (ok : List UInt8 → Bool) (l : List UInt8) (n : Nat) (c : List UInt8) : Prop :=
  ∃ d : List (List UInt8), d.all ok = true ∧ d.length = n ∧ cutD (l.takeWhile (orD p)) = d ++ cutD (c.takeWhile (orD p)) ∧ c.dropWhile (orD p) = l.dropWhile (orD p) ∧ n + c.length ≤ l.length
theorem DotAt.start (p : UInt8 → Bool) (ok : List UInt8 → Bool) (l : List UInt8) : DotAt p ok l 0 l := ⟨[], rfl, rfl, rfl, rfl, by omega⟩
theorem DotAt.bad {p : UInt8 → Bool} {ok : List UInt8 → Bool} {l c : List UInt8} {n : Nat} (h : DotAt p ok l n c) (hp : NoDot p) (hb : ok (c.takeWhile p) = false) : dotN p ok l = 0 := by
  obtain ⟨d, h1, h2, h3, h4, h5⟩ := h
  have hx : ¬ (cutD (l.takeWhile (orD p))).all ok = true := by
    intro e
    rw [h3] at e
    rcases take_orD hp c with ⟨r, e1, e2, e3⟩ | ⟨e1, e2, e3⟩ <;> rw [e2] at e <;> simp [hb] at e
  unfold dotN
  rw [if_neg hx]
theorem DotAt.stop {p : UInt8 → Bool} {ok : List UInt8 → Bool} {l c : List UInt8} {n : Nat} (h : DotAt p ok l n c) (hp : NoDot p) (hb : ok (c.takeWhile p) = true) (hd : ¬ (c.dropWhile p).headD 0 = 46) : dotN p ok l = n + 1 ∧ c.dropWhile p = l.dropWhile (orD p) := by
  obtain ⟨d, h1, h2, h3, h4, h5⟩ := h
  rcases take_orD hp c with ⟨r, e1, e2, e3⟩ | ⟨e1, e2, e3⟩
  · rw [e1] at hd
    exact absurd rfl hd
  · rw [e2] at h3
    refine ⟨?_, by rw [← h4, e3]⟩
    unfold dotN
    rw [h3, if_pos (by simp [h1, hb])]
    simp [h2]
theorem DotAt.more {p : UInt8 → Bool} {ok : List UInt8 → Bool} {l c : List UInt8} {n : Nat} (h : DotAt p ok l n c) (hp : NoDot p) (hb : ok (c.takeWhile p) = true) (hd : (c.dropWhile p).headD 0 = 46) : DotAt p ok l (n + 1) (c.dropWhile p).tail := by
  obtain ⟨d, h1, h2, h3, h4, h5⟩ := h
  rcases take_orD hp c with ⟨r, e1, e2, e3⟩ | ⟨e1, e2, e3⟩
  · have hl : (c.dropWhile p).length ≤ c.length := by
      have := congrArg List.length (List.takeWhile_append_dropWhile (p := p) (l := c))
      rw [List.length_append] at this
      omega
    rw [e1]
    rw [e1] at hl
    refine ⟨d ++ [c.takeWhile p], by simp [h1, hb], by simp [h2], by rw [h3, e2]; simp, by rw [← h4, e3]; rfl, ?_⟩
    rw [List.length_cons] at hl
    show n + 1 + r.length ≤ _
    omega
  · exfalso
    cases hc : c.dropWhile p with
    | nil => rw [hc] at hd; cases hd
    | cons x xs =>
      rw [hc] at hd
      have : x = 46 := hd
      exact e1 xs (by rw [hc, this])
theorem dw_le (p : UInt8 → Bool) (l : List UInt8) : (l.dropWhile p).length ≤ l.length := by
  have := congrArg List.length (List.takeWhile_append_dropWhile (p := p) (l := l))
  rw [List.length_append] at this
  omega

set_option maxHeartbeats 1600000 in
theorem dotted_any (w : World) (b : Nat) (l : List UInt8) (n : Nat) (p : UInt8 → Bool) (ok : List UInt8 → Bool) (V : World → Prop) (h : Sc w b l) (hV : V w) (hVk : Hid (∀ w w', V w → On b w w' → V w')) (hp : Hid (NoDot p))
    (hn : ∀ (x : Value) (w : World), (callFunc n #[x]).run Tryd.prog w = .ok (.enter n #[x]) w)
    (hc : Hid (∀ (w : World) (c : List UInt8), V w → Sc w b c → Calls Tryd.prog n #[.pointer (some ⟨b, 0, none⟩)] w fun e w' => e = .returned (.bool (ok (c.takeWhile p))) ∧ Sc w' b (c.dropWhile p) ∧ On b w w')) :
    Calls Tryd.prog 56 #[.pointer (some ⟨b, 0, none⟩), .func (.func n) #[.pointer (some ⟨b, 0, none⟩)] #[]] w fun e w' =>
      e = .returned (.int .i64 (dotN p ok l : Nat)) ∧ On b w w' ∧ ∃ r, Sc w' b r ∧ r.length ≤ l.length ∧ (0 < dotN p ok l → r = l.dropWhile (orD p)) := by
  have H : Hid (Sc w b l) := h
  have HV : Hid (V w) := hV
  have hl : Hid (l.length ≤ 1099511627776) := h.len
  clear h hV
  go_enter Tryd.func56, Tryd.ntmps56
  go_wp2_with fail
  go_loopw [5] (fun i wr => ∃ (k : Nat) (c : List UInt8), i = .int .i64 ((k + 1 : Nat) : Int) ∧ k ≤ 1099511627776 ∧ Hid (Sc wr b c ∧ On b w wr ∧ DotAt p ok l k c)) (fun i _ => l.length + 2 - (intOf i).toNat)
  case atStart => exact ⟨0, l, rfl, by omega, H.out, Chg.refl _ _, DotAt.start p ok l⟩
  case round =>
    obtain ⟨k, c, rfl, hk, hA⟩ := hrel
    obtain ⟨hS, hO, hD⟩ := hA.out
    have hV' := hVk.out _ _ HV.out hO
    have hle := dw_le p c
    cases ho : ok (c.takeWhile p) with
    | false =>
      have hz : dotN p ok l = 0 := hD.bad hp.out ho
      have HP : Hid (Calls Tryd.prog n #[.pointer (some ⟨b, 0, none⟩)] wr fun e w' => e = .returned (.bool false) ∧ Sc w' b (c.dropWhile p) ∧ On b wr w') := by
        have := hc.out wr c hV' hS
        rw [ho] at this
        exact this
      have HZ : Hid (dotN p ok l = 0) := hz
      have HO : Hid (On b w wr) := hO
      have HL : Hid ((c.dropWhile p).length ≤ l.length) := by
        obtain ⟨d, _, _, _, _, h5⟩ := hD
        show _ ≤ _; omega
      clear hA hS hO hD hV' hle ho hz hc
      go_wp2_with (refine HP.out.mono ?_; rintro e w1 ⟨rfl, hS1, hO1⟩)
      go_ret
      exact ⟨by rw [HZ.out]; rfl, HO.out.trans hO1, _, hS1, HL.out, fun h => by rw [HZ.out] at h; omega⟩
    | true =>
      have HP : Hid (Calls Tryd.prog n #[.pointer (some ⟨b, 0, none⟩)] wr fun e w' => e = .returned (.bool true) ∧ Sc w' b (c.dropWhile p) ∧ On b wr w') := by
        have := hc.out wr c hV' hS
        rw [ho] at this
        exact this
      have HO : Hid (On b w wr) := hO
      by_cases hd : (c.dropWhile p).headD 0 = 46
      · have hD' : Hid (DotAt p ok l (k + 1) (c.dropWhile p).tail) := hD.more hp.out ho hd
        have hk2 : k + 1 ≤ l.length := by
          obtain ⟨d, _, _, _, _, h5⟩ := hD'.out
          omega
        have hk3 : k + 1 ≤ 1099511627776 := by have := hl.out; omega
        have HM : Hid (∀ w, Sc w b (c.dropWhile p) → Calls Tryd.prog 46 #[.pointer (some ⟨b, 0, none⟩), .int .u8 46] w fun e w' => e = .returned (.bool true) ∧ Sc w' b (c.dropWhile p).tail ∧ On b w w') := fun w h => by
          have := mark_any w b _ 46 h
          rw [if_pos hd, decide_eq_true hd] at this
          exact this
        clear hA hS hO hD hV' hle ho hd
        go_wp2_with (first
          | (go_at_call 46; refine (HM.out _ hS1).mono ?_; rintro e w2 ⟨rfl, hS2, hO2⟩)
          | (refine HP.out.mono ?_; rintro e w1 ⟨rfl, hS1, hO1⟩))
        go_roundw
        case rel => exact ⟨k + 1, _, by go_num, hk3, hS2, (HO.out.trans hO1).trans hO2, hD'.out⟩
        case measure => simp [intOf]; omega
      · obtain ⟨hz, hr⟩ := hD.stop hp.out ho hd
        have HM : Hid (∀ w, Sc w b (c.dropWhile p) → Calls Tryd.prog 46 #[.pointer (some ⟨b, 0, none⟩), .int .u8 46] w fun e w' => e = .returned (.bool false) ∧ Sc w' b (c.dropWhile p) ∧ On b w w') := fun w h => by
          have := mark_any w b _ 46 h
          rw [if_neg hd, decide_eq_false hd] at this
          exact this
        have HR : Hid (c.dropWhile p = l.dropWhile (orD p) ∧ (c.dropWhile p).length ≤ l.length) := ⟨hr, by
          obtain ⟨d, _, _, _, _, h5⟩ := hD
          omega⟩
        have HZ : Hid (dotN p ok l = k + 1) := hz
        clear hA hS hO hD hV' hle ho hd hz hr
        go_wp2_with (first
          | (go_at_call 46; refine (HM.out _ hS1).mono ?_; rintro e w2 ⟨rfl, hS2, hO2⟩)
          | (refine HP.out.mono ?_; rintro e w1 ⟨rfl, hS1, hO1⟩))
        go_ret
        exact ⟨by rw [HZ.out]; rfl, (HO.out.trans hO1).trans hO2, _, hS2, HR.out.2, fun _ => HR.out.1⟩
end Go.Proofs.YtefofoocglhdmaaDoor
