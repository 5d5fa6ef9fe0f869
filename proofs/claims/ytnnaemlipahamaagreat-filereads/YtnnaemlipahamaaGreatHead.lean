/-
  The contract of layHead of package wal: new memory that holds the head which names the given blocks.
-/
import Derived.Test.YtnnaemlipahamaaGreatWPure
import Derived.Test.YtnnaemlipahamaaGreatReader
import Derived.Test.YtnnaemlipahamaaGreatDisk
import Derived.Lib.SlBytesConst
namespace Go.Proofs.YtnnaemlipahamaaGreat
open Go.RowKit Go.Maps

/-- A writer that was made since w0; nothing that was there has changed. -/
structure WrN (w0 w : World) (p : Nat) (v : Value) (xs : List Int) : Prop where
  wr : Wr w0.heap.size w p v xs
  chg : Chg (fun _ => False) w0 w
theorem WrN.step {w0 w w' : World} {p : Nat} {v v' : Value} {xs xs' : List Int} (h : WrN w0 w p v xs) (t : WrTo w0.heap.size p w v w' v' xs') : WrN w0 w' p v' xs' := by
  refine ⟨t.wr, h.chg.trans t.chg (fun i hi e => ?_)⟩
  rcases e with e | e
  · have := h.wr.le; omega
  · have := (h.wr.own.lt i e).1; omega
theorem WrN.alloc {w0 w : World} {p : Nat} {v : Value} {xs : List Int} (h : WrN w0 w p v xs) (o : Obj) : WrN w0 (w.alloc o) p v xs :=
  ⟨⟨h.wr.le, (Below.heap_alloc w o p h.wr.lt).trans h.wr.blk, h.wr.own.alloc o, h.wr.ne⟩, h.chg.trans (Chg.alloc (fun _ => False) w o) (fun _ _ h => h)⟩
theorem WrN.chgd {w0 w w' : World} {p : Nat} {v : Value} {xs : List Int} (h : WrN w0 w p v xs) (hc : Chg (fun _ => False) w w') : WrN w0 w' p v xs :=
  ⟨⟨h.wr.le, (hc.block p h.wr.lt (fun h => h)).trans h.wr.blk, own_same h.wr.own (fun g hg => hc.block g (h.wr.own.lt g hg).2 (fun h => h)), h.wr.ne⟩, h.chg.trans hc (fun _ _ h => h)⟩

/-- Bytes that stand in the text. -/
theorem Bs.lit (w : World) (xs : List Int) (fr : Nat × Nat) (hl : xs.length ≤ maxLen) : Bs (w.alloc (.cells (bcells xs).toArray 5 fr)) (.slice (some ⟨w.heap.size, 0, none⟩) xs.length xs.length) xs := by
  refine .inr ⟨⟨w.heap.size, 0, none⟩, xs.length, rfl, Nat.le_refl _, hl, fun j hj => ?_⟩
  have e : (⟨w.heap.size, 0, none⟩ : Addr).add j = ⟨w.heap.size, j, none⟩ := by unfold Addr.add; split <;> simp_all
  rw [e, cell_of_row _ _ _ _ _ _ (heap_alloc_new w _)]
  simp [bcells, List.getD, hj]
theorem Bs.mark (w : World) : Bs (w.alloc (.cells #[.int .u8 109, .int .u8 97, .int .u8 105, .int .u8 108, .int .u8 98, .int .u8 97, .int .u8 103, .int .u8 32, .int .u8 108, .int .u8 111, .int .u8 103, .int .u8 32, .int .u8 49] 5 (13, 14))) (.slice (some ⟨w.heap.size, 0, none⟩) 13 13) markB :=
  Bs.lit w markB (13, 14) (by unfold maxLen markB; decide)
theorem fixB_mark : fixB markB 13 = markB := by decide
theorem numsB_len : ∀ hs : List Nat, (numsB hs).length = 2 * hs.length
  | [] => rfl
  | n :: hs => by
    have := numsB_len hs
    unfold numsB at this ⊢
    rw [List.flatMap_cons, List.length_append, this, leTo_len, List.length_cons]; omega
theorem numsB_take (hs : List Nat) {i n : Nat} (h : hs[i]? = some n) : numsB (hs.take (i + 1)) = numsB (hs.take i) ++ leTo (n : Int) 2 := by
  have e : hs.take (i + 1) = hs.take i ++ [n] := by rw [List.take_add_one, h]; rfl
  rw [e]; simp [numsB]

set_option maxHeartbeats 1600000 in
set_option maxRecDepth 100000 in
theorem layHead_any (v : Value) (hs : List Nat) (w : World) (hi : Is w v (hs.map fun n : Nat => (n : Int))) (hl : hs.length ≤ 63) :
    Calls Tryz.prog 57 #[v] w fun e w' => ∃ u, e = .returned u ∧ w'.ownsRow w.heap.size 5 1 u 512 (bcells (headB hs)) ∧ Chg (fun _ => False) w w' := by
  obtain ⟨va, vc, rfl, hvc⟩ := hi.form
  rw [List.length_map] at hvc ⊢
  have kc := fun (w : World) (C : Array Value) (n c : Nat) => Lib.run_convert_bytes_const (P := Tryz.prog) w 33 5 C n c Tryz.underlying33 Tryz.underlying5
  go_enter Tryz.func57, Tryz.ntmps57
  go_wp2_with fail
  refine (newWriter_any w.heap.size w (Nat.le_refl _)).mono ?_
  rintro e w1 ⟨rfl, h1, rfl⟩
  have W1 : WrN w (w.alloc (.cells #[.slice none 0 0] 171)) w.heap.size (.slice none 0 0) [] := ⟨h1, Chg.alloc _ _ _⟩
  clear h1
  obtain ⟨w1, hw1⟩ : ∃ w1, w.alloc (.cells #[.slice none 0 0] 171) = w1 := ⟨_, rfl⟩
  rw [hw1] at W1 ⊢
  clear hw1
  have HB := Bs.mark w1
  have W2 := W1.alloc (.cells #[.int .u8 109, .int .u8 97, .int .u8 105, .int .u8 108, .int .u8 98, .int .u8 97, .int .u8 103, .int .u8 32, .int .u8 108, .int .u8 111, .int .u8 103, .int .u8 32, .int .u8 49] 5 (13, 14))
  go_wp2_with fail
  refine (fixed_any w.heap.size w.heap.size _ _ 13 [] markB _ W2.wr HB (by simp)).mono ?_
  rintro e w2 ⟨rfl, v2, t2⟩
  rw [fixB_mark, List.nil_append] at t2
  have W3 := W2.step t2
  clear t2 W2 HB W1 kc
  have hml : markB.length = 13 := rfl
  have HI : Hid (Is w (.slice va hs.length vc) (hs.map fun n : Nat => (n : Int))) := by rw [List.length_map] at hi; exact hi
  clear hi
  go_wp2_with fail
  refine (u16_any w.heap.size w.heap.size (hs.length : Int) v2 markB _ W3.wr (by rw [hml]; omega)).mono ?_
  rintro e w4 ⟨rfl, v4, t4⟩
  have W4 := W3.step t4
  clear t4 W3
  obtain ⟨pre, hpre⟩ : ∃ pre, markB ++ leTo (hs.length : Int) 2 = pre := ⟨_, rfl⟩
  have hpl : pre.length = 15 := by rw [← hpre, List.length_append, leTo_len]; rfl
  rw [hpre] at W4
  have HP : Hid (markB ++ leTo (hs.length : Int) 2 = pre) := hpre
  have HL : Hid (pre.length = 15) := hpl
  have HW : Hid (WrN w w4 w.heap.size v4 pre) := W4
  clear hpre hpl hml W4
  go_wp2
  go_loopw [5, 18] (fun _ x wr => ∃ i : Nat, i ≤ hs.length ∧ x = .int .i64 (i : Int) ∧ ∃ v', Hid (WrN w wr w.heap.size v' (pre ++ numsB (hs.take i)))) (fun _ x _ => hs.length - (intOf x).toNat)
  case atStart => exact ⟨0, Nat.zero_le _, rfl, v4, by simpa [numsB] using HW⟩
  case round =>
    obtain ⟨i, hile, rfl, v', HV⟩ := hrel
    clear HW
    have hnl : (pre ++ numsB (hs.take i)).length ≤ 1000 := by rw [List.length_append, HL.out, numsB_len, List.length_take]; omega
    have HNL : Hid ((pre ++ numsB (hs.take i)).length ≤ 1000) := hnl
    clear hnl
    by_cases hlt : i < hs.length
    · obtain ⟨n, hn⟩ : ∃ n, hs[i]? = some n := ⟨hs[i], List.getElem?_eq_getElem hlt⟩
      have his : Is wr (.slice va hs.length vc) (hs.map fun n : Nat => (n : Int)) := HI.out.kept HV.out.chg (fun _ _ h => h)
      obtain ⟨b, off, rfl, hcs⟩ := his.nth (j := i) (by simpa using hlt)
      have hc := hcs i (by simpa using hlt)
      have hg : (hs.map fun n : Nat => (n : Int)).getD i 0 = (n : Int) := by simp [List.getD, hn]
      rw [hg] at hc
      have hki : (i : Int) < (hs.length : Int) := by omega
      have HN : Hid (hs[i]? = some n) := hn
      clear hcs his hg hn
      go_wp2_with fail
      refine (u16_any w.heap.size w.heap.size (n : Int) v' _ _ HV.out.wr (by have := HNL.out; omega)).mono ?_
      rintro e w5 ⟨rfl, v5, t5⟩
      have HV5 : Hid (WrN w w5 w.heap.size v5 (pre ++ numsB (hs.take (i + 1)))) := by
        have := HV.out.step t5
        rw [List.append_assoc, ← numsB_take hs HN.out] at this
        exact this
      clear t5 HV hc
      go_wp2
      go_roundw
      case rel => exact ⟨i + 1, by omega, by go_num, v5, HV5⟩
      case measure => simp [intOf]; omega
    · have hie : i = hs.length := by omega
      subst hie
      rw [List.take_length] at HV HNL
      have hki : ¬ ((hs.length : Int) < (hs.length : Int)) := by omega
      have hwz : w.heap.size ≤ wr.heap.size := HV.out.chg.size
      go_wp2_with fail
      refine (newWriter_any w.heap.size wr hwz).mono ?_
      rintro e w6 ⟨rfl, h6, rfl⟩
      have W6 : WrN w (wr.alloc (.cells #[.slice none 0 0] 171)) wr.heap.size (.slice none 0 0) [] := ⟨h6, HV.out.chg.trans (Chg.alloc (fun _ => False) _ _) (fun _ _ h => h)⟩
      have W5 := HV.out.alloc (.cells #[.slice none 0 0] 171)
      clear h6 HV
      obtain ⟨w6, hw6⟩ : ∃ w6, wr.alloc (.cells #[.slice none 0 0] 171) = w6 := ⟨_, rfl⟩
      rw [hw6] at W6 W5 ⊢
      clear hw6
      go_wp2_with fail
      refine (done_any w.heap.size w.heap.size v' _ _ W5.wr (by have := HNL.out; omega)).mono ?_
      rintro e w7 ⟨u, rfl, hF⟩
      have W7 := W6.chgd hF.2.1
      have hub := Bs.ofOwns hF.1
      clear hF W5 W6
      go_wp2_with fail
      refine (fixed_any w.heap.size wr.heap.size _ u 512 [] _ _ W7.wr hub (by simp)).mono ?_
      rintro e w8 ⟨rfl, v8, t8⟩
      have W8 := W7.step t8
      have e8 : [] ++ fixB (pre ++ numsB hs) 512 = headB hs := by rw [List.nil_append, ← HP.out]; rfl
      rw [e8] at W8
      clear t8 W7 hub e8
      go_wp2_with fail
      refine (done_any w.heap.size wr.heap.size v8 _ _ W8.wr (by rw [headB_len]; omega)).mono ?_
      rintro e w9 ⟨u9, rfl, h9⟩
      have HQ : Hid (w9.ownsRow w.heap.size 5 1 u9 512 (bcells (headB hs)) ∧ Chg (fun _ => False) w w9) := by
        have h := h9.1
        rw [headB_len] at h
        exact ⟨h, W8.chg.trans h9.2.1 (fun _ _ h => h)⟩
      clear h9 W8
      go_wp2
      go_ret
      exact ⟨u9, rfl, HQ.out⟩
end Go.Proofs.YtnnaemlipahamaaGreat
