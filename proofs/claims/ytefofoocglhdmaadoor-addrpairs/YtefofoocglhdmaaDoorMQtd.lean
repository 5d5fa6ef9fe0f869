/-
  quoted: what stands in quotes.
-/
import Derived.Test.YtefofoocglhdmaaDoorMRgt
namespace Go.Proofs.YtefofoocglhdmaaDoor
open Go.RowKit

def leftN (b : Nat) (w : World) : Nat := match w.cell? ⟨b, 0, none⟩ with | some (.string s) => s.size | _ => 0
theorem Sc.left {w : World} {b : Nat} {l : List UInt8} (h : Sc w b l) : leftN b w = l.length := by unfold leftN; rw [h.c]; exact bl_size l
/-- What is said so far, what is to come. -/
def QAt (l sd c : List UInt8) : Prop := quo l = (quo c).map (fun x => (sd ++ x.1, x.2)) ∧ sd.length + c.length ≤ l.length
theorem QAt.start (l : List UInt8) : QAt l [] l := ⟨by cases quo l <;> rfl, by simp⟩
theorem QAt.done {l sd r : List UInt8} (h : QAt l sd (34 :: r)) : quo l = some (sd, r) := by
  rw [h.1, quo.eq_def]
  simp
theorem QAt.one {l sd r : List UInt8} {c : UInt8} (h : QAt l sd (c :: r)) (h1 : ¬ c = 34) (h2 : ¬ c = 92) (hp : prt c = true) : QAt l (sd ++ [c]) r := by
  obtain ⟨a, b⟩ := h
  refine ⟨?_, by simp at b ⊢; omega⟩
  rw [a, quo.eq_def]
  simp only [if_neg h1, if_neg h2, if_pos hp, Option.map_map]
  congr 1
  funext x
  simp
theorem QAt.bad {l sd r : List UInt8} {c : UInt8} (h : QAt l sd (c :: r)) (h1 : ¬ c = 34) (h2 : ¬ c = 92) (hp : prt c = false) : quo l = none := by
  rw [h.1, quo.eq_def]
  simp [h1, h2, hp]
theorem QAt.two {l sd r : List UInt8} {d : UInt8} (h : QAt l sd (92 :: d :: r)) (hp : prt d = true) : QAt l (sd ++ [d]) r := by
  obtain ⟨a, b⟩ := h
  refine ⟨?_, by simp at b ⊢; omega⟩
  rw [a, quo.eq_def]
  have h1 : ¬ (92 : UInt8) = 34 := by decide
  simp only [if_neg h1, if_pos, if_pos hp, Option.map_map]
  congr 1
  funext x
  simp
theorem QAt.bad2 {l sd r : List UInt8} {d : UInt8} (h : QAt l sd (92 :: d :: r)) (hp : prt d = false) : quo l = none := by
  rw [h.1, quo.eq_def]
  simp [hp]
theorem QAt.end1 {l sd : List UInt8} (h : QAt l sd []) : quo l = none := by rw [h.1]; rfl
theorem QAt.end2 {l sd : List UInt8} (h : QAt l sd [92]) : quo l = none := by rw [h.1]; rfl
/-- How quoted ends. -/
def QuoT (o : Option (List UInt8 × List UInt8)) (e : Ending) (r : List UInt8) : Prop :=
  (∃ a, o = some (a, r) ∧ e = .returned (.tuple #[.string (bl a), .bool (!(a == []))])) ∨ (o = none ∧ e = .returned (.tuple #[.string ⟨#[]⟩, .bool false]))
theorem On.append {b : Nat} {w w1 w2 : World} {n : Nat} {v : Value} {xs : List Value} (h : On b w w1) (ho : w1.ownsRow w.heap.size 5 1 v n xs) (hg : w1.grownBy w2 v.ownBlock) : On b w w2 :=
  Chg.trans h (Chg.ofGrown hg) fun i hi hk => by have := (own_ge ho hk).1; omega
theorem Sc.append {b N : Nat} {w w1 : World} {l : List UInt8} {n : Nat} {v : Value} {xs : List Value} (h : Sc w b l) (hb : b < N) (ho : w.ownsRow N 5 1 v n xs) (hg : w.grownBy w1 v.ownBlock) : Sc w1 b l :=
  h.kept (Chg.ofGrown hg) fun hk => by have := (own_ge ho hk).1; omega
theorem own_on {b N : Nat} {w w1 : World} {n : Nat} {v : Value} {xs : List Value} (ho : w.ownsRow N 5 1 v n xs) (hb : b < N) (h : On b w w1) : w1.ownsRow N 5 1 v n xs :=
  own_kept ho h fun k hk e => by have := (own_ge ho hk).1; omega

set_option maxHeartbeats 6400000 in
set_option maxRecDepth 100000 in
theorem quoted_any (w : World) (b : Nat) (l : List UInt8) (h : Sc w b l) (h34 : l.headD 0 = 34) :
    Calls Tryd.prog 71 #[.pointer (some ⟨b, 0, none⟩)] w fun e w' => ∃ r, QuoT (quo l.tail) e r ∧ Sc w' b r ∧ On b w w' := by
  obtain ⟨i5, hi5, hz5, hs5, hb5⟩ := info5
  have hbl := h.lt
  obtain ⟨N, hN⟩ : ∃ N, w.heap.size = N := ⟨_, rfl⟩
  have HN : Hid (w.heap.size = N) := hN
  have HbN : Hid (b < N) := by show b < N; omega
  have HM : Hid (Calls Tryd.prog 46 #[.pointer (some ⟨b, 0, none⟩), .int .u8 34] w fun e w' => e = .returned (.bool true) ∧ Sc w' b l.tail ∧ On b w w') := by
    have := mark_at w b l 34 34 rfl h
    rw [decide_eq_true h34, if_pos h34] at this
    exact this
  have hlen := h.len
  obtain ⟨q, hq⟩ : ∃ q, l.tail = q := ⟨_, rfl⟩
  have hql : q.length + 1 ≤ 1099511627776 := by
    rw [← hq]
    cases l with
    | nil => cases h34
    | cons x xs => simpa using hlen
  have HQL : Hid (q.length + 1 ≤ 1099511627776) := hql
  rw [hq] at HM ⊢
  clear hq h h34 hlen hql hbl hN
  go_enter Tryd.func71, Tryd.ntmps71
  go_wp2_with (go_at_call 46; refine HM.out.mono ?_; rintro e w1 ⟨rfl, hS0, hO0⟩)
  have HS0 : Hid (Sc w1 b q) := hS0
  have HO0 : Hid (On b w w1) := hO0
  clear hS0 hO0 HM
  go_loopw [4] (fun sv wr => ∃ (cur sd : List UInt8) (n : Nat) (a : Option Addr) (c : Nat), sv = .slice a n c ∧ Hid (Sc wr b cur ∧ On b w wr ∧ wr.ownsRow N 5 1 (.slice a n c) n (bcells (iB sd)) ∧ QAt q sd cur)) (fun _ wr => leftN b wr)
  case atStart =>
    exact ⟨q, [], 0, none, 0, rfl, HS0.out, HO0.out, World.ownsRow_nil _ _ _ _, QAt.start q⟩
  case round =>
    obtain ⟨cur, sd, n, a, c, rfl, hA⟩ := hrel
    obtain ⟨hS, hO, ho, hQ⟩ := hA.out
    have HT : Hid (Calls Tryd.prog 61 #[.pointer (some ⟨b, 0, none⟩)] wr fun e w' => e = .returned (.int .u8 ((cur.headD 0).toNat : Int)) ∧ Sc w' b cur.tail ∧ On b wr w') := take_any wr b cur hS
    have HP : Hid (∀ (c : UInt8) (C : Int), (c.toNat : Int) = C → ∀ w, Calls Tryd.prog 40 #[.int .u8 C] w fun e w' => e = .returned (.bool (prt c)) ∧ w' = w) := fun c C h w => by rw [← h]; exact prt_any c w
    have HO : Hid (On b w wr) := hO
    have Ho : Hid (wr.ownsRow N 5 1 (.slice a n c) n (bcells (iB sd))) := ho
    have HL : Hid (leftN b wr = cur.length) := hS.left
    match cur, hQ, HT, HL with
    | [], hQ, HT, HL =>
      have HE : Hid (quo q = none) := hQ.end1
      have HP0 := toHid (HP.out 0 0 rfl)
      clear hA hS hO ho hQ HP HL
      go_wp2_with (first
        | (go_at_call 61; refine HT.out.mono ?_; rintro e w2 ⟨rfl, hS2, hO2⟩)
        | (go_at_call 40; refine (HP0.out _).mono ?_; rintro e w3 ⟨rfl, rfl⟩))
      go_ret2
      exact ⟨_, .inr ⟨HE.out, rfl⟩, hS2, HO.out.trans hO2⟩
    | c0 :: r, hQ, HT, HL =>
      have hT' : Calls Tryd.prog 61 #[.pointer (some ⟨b, 0, none⟩)] wr fun e w' => e = .returned (.int .u8 (c0.toNat : Int)) ∧ Sc w' b r ∧ On b wr w' := HT.out
      have HT2 := toHid hT'
      by_cases h34 : c0 = 34
      · subst h34
        have HE : Hid (quo q = some (sd, r)) := hQ.done
        have hsd : n = sd.length := by have := ho.1; simp [bcells, iB] at this; omega
        obtain ⟨T, hTT⟩ : ∃ T, bl sd = T := ⟨_, rfl⟩
        have HTT : Hid (bl sd = T) := hTT
        have HRun : Hid (∀ w2, On b wr w2 → (convert 43 9 (.slice a n c)).run Tryd.prog w2 = .ok (.string T) w2) := fun w2 h2 => by
          have r4 := run_strC (Bs.ofOwns (own_on ho HbN.out h2))
          rw [strC_iB, hTT] at r4
          exact r4
        have HB : Hid ((!(sd == [])) = decide (0 < n)) := by
          show _ = _
          rw [hsd]
          cases sd with
          | nil => rfl
          | cons x xs => simp
        clear hA hS hO ho hQ HP HL HT hT' hTT hsd Ho
        go_wp2_with (go_at_call 61; refine HT2.out.mono ?_; rintro e w2 ⟨rfl, hS2, hO2⟩; have r5 := HRun.out _ hO2)
        go_ret2
        exact ⟨r, .inl ⟨sd, HE.out, by rw [HB.out, HTT.out]; rfl⟩, hS2, HO.out.trans hO2⟩
      · obtain ⟨X, hX⟩ : ∃ X : Int, (c0.toNat : Int) = X := ⟨_, rfl⟩
        have e34 : (X == 34) = false := by rw [← hX]; exact i_ne h34
        have HX : Hid ((c0.toNat : Int) = X) := hX
        rw [hX] at HT2
        by_cases h92 : c0 = 92
        · have e92 : (X == 92) = true := by rw [← hX]; exact i_eq h92
          subst h92
          match r, hQ, HT2, HL with
          | [], hQ, HT2, HL =>
            have HE : Hid (quo q = none) := hQ.end2
            have HP0 := toHid (HP.out 0 0 rfl)
            have HT3 : Hid (∀ w2, Sc w2 b [] → Calls Tryd.prog 61 #[.pointer (some ⟨b, 0, none⟩)] w2 fun e w' => e = .returned (.int .u8 0) ∧ Sc w' b [] ∧ On b w2 w') := fun w2 h => take_any w2 b [] h
            clear hA hS hO ho hQ HP HL HT hT' hX Ho h34
            go_wp2_with (first
              | (go_at_call 61; with_reducible refine HT2.out.mono ?_; rintro e w2 ⟨rfl, hS2, hO2⟩)
              | (go_at_call 61; with_reducible refine (HT3.out _ hS2).mono ?_; rintro e w3 ⟨rfl, hS3, hO3⟩)
              | (go_at_call 40; refine (HP0.out _).mono ?_; rintro e w4 ⟨rfl, rfl⟩))
            go_ret2
            exact ⟨_, .inr ⟨HE.out, rfl⟩, hS3, (HO.out.trans hO2).trans hO3⟩
          | d :: r, hQ, HT2, HL =>
            obtain ⟨Y, hY⟩ : ∃ Y : Int, (d.toNat : Int) = Y := ⟨_, rfl⟩
            have HY : Hid ((d.toNat : Int) = Y) := hY
            have HP0 := toHid (HP.out d Y hY)
            have HT3 : Hid (∀ w2, Sc w2 b (d :: r) → Calls Tryd.prog 61 #[.pointer (some ⟨b, 0, none⟩)] w2 fun e w' => e = .returned (.int .u8 Y) ∧ Sc w' b r ∧ On b w2 w') := fun w2 h => by
              have : Calls Tryd.prog 61 #[.pointer (some ⟨b, 0, none⟩)] w2 fun e w' => e = .returned (.int .u8 (d.toNat : Int)) ∧ Sc w' b r ∧ On b w2 w' := take_any w2 b (d :: r) h
              rw [hY] at this
              exact this
            cases hp : prt d with
            | false =>
              have HE : Hid (quo q = none) := hQ.bad2 hp
              rw [hp] at HP0
              clear hA hS hO ho hQ HP HL HT hT' hX hY hp Ho h34
              go_wp2_with (first
                | (go_at_call 61; with_reducible refine HT2.out.mono ?_; rintro e w2 ⟨rfl, hS2, hO2⟩)
                | (go_at_call 61; with_reducible refine (HT3.out _ hS2).mono ?_; rintro e w3 ⟨rfl, hS3, hO3⟩)
                | (go_at_call 40; refine (HP0.out _).mono ?_; rintro e w4 ⟨rfl, rfl⟩))
              go_ret2
              exact ⟨_, .inr ⟨HE.out, rfl⟩, hS3, (HO.out.trans hO2).trans hO3⟩
            | true =>
              have HQ2 : Hid (QAt q (sd ++ [d]) r) := hQ.two hp
              have HIB : Hid (iB (sd ++ [d]) = iB sd ++ [Y]) := by show _ = _; rw [iB_app, ← hY]; rfl
              have hbd : (iB sd).length + [Y].length ≤ 1099511627776 := by
                have h1 := hQ.2
                have h2 := HQL.out
                simp [iB] at h1 ⊢; omega
              rw [hp] at HP0
              clear hA hS hO ho hQ HP HT hT' hX hY hp h34
              go_wp2_with (first
                | (go_at_call 61; with_reducible refine HT2.out.mono ?_; rintro e w2 ⟨rfl, hS2, hO2⟩)
                | (go_at_call 61; with_reducible refine (HT3.out _ hS2).mono ?_; rintro e w3 ⟨rfl, hS3, hO3⟩; have HO3 := toHid ((HO.out.trans hO2).trans hO3); have HR3 := toHid (own_on (own_on Ho.out HbN.out hO2) HbN.out hO3); clear hS2 hO2 hO3)
                | (go_at_call 40; refine (HP0.out _).mono ?_; rintro e w4 ⟨rfl, rfl⟩; have U1 := Bs.one w4 Y; have o1 : (w4.alloc (.cells #[.int .u8 Y] 5)).ownsRow N 5 1 (.slice a n c) n (bcells (iB sd)) := own_kept HR3.out (Chg.alloc (fun _ => False) w4 _) (fun _ _ h => h); have hN1 : N ≤ (w4.alloc (.cells #[.int .u8 Y] 5)).heap.size := Nat.le_trans (by (have := HO3.out.size; have := HN.out; omega)) (Chg.alloc (fun _ => False) w4 (.cells #[.int .u8 Y] 5)).size)
                | (at_builtin; go_must (refine wpList_app rfl (.tmp 25) (.tmp 27) 43 rfl N i5 Tryd.underlying43 hi5 hz5 hs5 hb5 _ _ n (iB sd) [Y] rfl o1 rfl U1 hbd hN1 ?_; intro v5 w5 ho5 hg5 _; have ho6 : w5.ownsRow N 5 1 v5 (n + 1) (bcells (iB (sd ++ [d]))) := (by rw [HIB.out]; exact ho5); obtain ⟨va3, vc3, rfl⟩ := own_sl ho6; clear ho5)))
              go_roundw
              case rel => exact ⟨r, sd ++ [d], n + 1, va3, vc3, rfl, (hS3.kept (Chg.alloc (fun _ => False) w4 _) (fun h => h)).append HbN.out o1 hg5, Chg.trans (Chg.trans HO3.out (Chg.alloc (fun _ => False) w4 _) (fun _ _ h => h.elim)) (Chg.ofGrown hg5) (fun i hi hk => by have := (own_ge o1 hk).1; have := HN.out; omega), ho6, HQ2.out⟩
              case measure => rw [HL.out, ((hS3.kept (Chg.alloc (fun _ => False) w4 _) (fun h => h)).append HbN.out o1 hg5).left]; simp; omega
        · have e92 : (X == 92) = false := by rw [← hX]; exact i_ne h92
          have HP0 := toHid (HP.out c0 X hX)
          cases hp : prt c0 with
          | false =>
            have HE : Hid (quo q = none) := hQ.bad h34 h92 hp
            rw [hp] at HP0
            clear hA hS hO ho hQ HP HL HT hT' hX hp Ho h34 h92
            go_wp2_with (first
              | (go_at_call 61; with_reducible refine HT2.out.mono ?_; rintro e w2 ⟨rfl, hS2, hO2⟩)
              | (go_at_call 40; refine (HP0.out _).mono ?_; rintro e w4 ⟨rfl, rfl⟩))
            go_ret2
            exact ⟨_, .inr ⟨HE.out, rfl⟩, hS2, HO.out.trans hO2⟩
          | true =>
            have HQ2 : Hid (QAt q (sd ++ [c0]) r) := hQ.one h34 h92 hp
            have HIB : Hid (iB (sd ++ [c0]) = iB sd ++ [X]) := by show _ = _; rw [iB_app, ← hX]; rfl
            have hbd : (iB sd).length + [X].length ≤ 1099511627776 := by
              have h1 := hQ.2
              have h2 := HQL.out
              simp [iB] at h1 ⊢; omega
            rw [hp] at HP0
            clear hA hS hO ho hQ HP HT hT' hX hp h34 h92
            go_wp2_with (first
              | (go_at_call 61; with_reducible refine HT2.out.mono ?_; rintro e w3 ⟨rfl, hS3, hO3⟩; have HO3 := toHid (HO.out.trans hO3); have HR3 := toHid (own_on Ho.out HbN.out hO3); clear hO3)
              | (go_at_call 40; refine (HP0.out _).mono ?_; rintro e w4 ⟨rfl, rfl⟩; have U1 := Bs.one w4 X; have o1 : (w4.alloc (.cells #[.int .u8 X] 5)).ownsRow N 5 1 (.slice a n c) n (bcells (iB sd)) := own_kept HR3.out (Chg.alloc (fun _ => False) w4 _) (fun _ _ h => h); have hN1 : N ≤ (w4.alloc (.cells #[.int .u8 X] 5)).heap.size := Nat.le_trans (by (have := HO3.out.size; have := HN.out; omega)) (Chg.alloc (fun _ => False) w4 (.cells #[.int .u8 X] 5)).size)
              | (at_builtin; go_must (refine wpList_app rfl (.tmp 25) (.tmp 27) 43 rfl N i5 Tryd.underlying43 hi5 hz5 hs5 hb5 _ _ n (iB sd) [X] rfl o1 rfl U1 hbd hN1 ?_; intro v5 w5 ho5 hg5 _; have ho6 : w5.ownsRow N 5 1 v5 (n + 1) (bcells (iB (sd ++ [c0]))) := (by rw [HIB.out]; exact ho5); obtain ⟨va3, vc3, rfl⟩ := own_sl ho6; clear ho5)))
            go_roundw
            case rel => exact ⟨r, sd ++ [c0], n + 1, va3, vc3, rfl, (hS3.kept (Chg.alloc (fun _ => False) w4 _) (fun h => h)).append HbN.out o1 hg5, Chg.trans (Chg.trans HO3.out (Chg.alloc (fun _ => False) w4 _) (fun _ _ h => h.elim)) (Chg.ofGrown hg5) (fun i hi hk => by have := (own_ge o1 hk).1; have := HN.out; omega), ho6, HQ2.out⟩
            case measure => rw [HL.out, ((hS3.kept (Chg.alloc (fun _ => False) w4 _) (fun h => h)).append HbN.out o1 hg5).left]; simp
end Go.Proofs.YtefofoocglhdmaaDoor
