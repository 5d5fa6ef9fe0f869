/-
  TreeRoom.
-/
import Derived.Test.YtdcmkcplklkfmaaDoorTInts
namespace Go.Proofs.YtdcmkcplklkfmaaDoor
open Go.RowKit Go.Maps Go.Sort

theorem strC_one (x : Int) : strC [x] = ⟨#[UInt8.ofNat x.toNat]⟩ := rfl
theorem rpt_add (k : Nat) (S : ByteArray) (h : strC [97 + (k : Int)] = S) : (⟨#[47, 102]⟩ : ByteArray) ++ S = rpt k := by
  subst h
  rw [strC_one, show (97 + (k : Int)).toNat = 97 + k by omega]
  rfl
theorem rpt_size (k : Nat) : (rpt k).size = 3 := rfl
set_option maxHeartbeats 6400000 in
set_option maxRecDepth 100000 in
theorem law_room (v : Value) (l : List Int) (w : World) (hT : Tab w) (hv : Is w v l) :
    Calls Tryd.prog 4 #[v] w fun e w' => e = .returned (.bool true) ∧ Chg (fun _ => False) w w' := by
  obtain ⟨va, vc, rfl⟩ := hv.form
  go_enter Tryd.func4, Tryd.ntmps4
  go_wp2_with fail
  refine (known_any w hT).mono ?_
  rintro e w1 ⟨rfl, B1⟩
  have fin : ∀ w', Below w.heap.size w w' → Hid (Chg (fun _ => False) w w') := fun w' h => Chg.ofBelowC h
  by_cases h1 : 30 < l.length
  · have H := fin _ B1
    have q : (30 : Int) < l.length := by omega
    go_wp2_with fail
    go_ret
    exact ⟨rfl, H.out⟩
  have q0 : ¬ (30 : Int) < l.length := by omega
  have hl30 : l.length ≤ 30 := by omega
  clear h1
  obtain ⟨g, hg⟩ : ∃ g : Nat → Nat, Hid (g = fun j => (l.getD j 0 % 4096).toNat) := ⟨_, rfl⟩
  have HG : Hid (∀ j, g j ≤ 4095) := fun j => by rw [hg.out]; show (l.getD j 0 % 4096).toNat ≤ 4095; omega
  go_wp2_with fail
  refine (Lw.new 1000 100 w1 (tab_below hT B1) (by omega) (by omega) (by omega) (by omega)).mono ?_
  rintro e w2 ⟨t, rfl, L⟩
  rw [show (100 - 1 : Int) = 99 from rfl, ro_start g] at L
  have HL : Hid (Lw w1.heap.size w1 w2 t (roT g 0 0 0) 0 ∧ Below w.heap.size w w1) := ⟨L, B1⟩
  have HV : Hid (Is w (.slice va l.length vc) l) := hv
  clear L B1 hv
  go_wp2_with fail
  go_loopw [5] (fun i wr => ∃ k : Nat, k ≤ l.length ∧ i = .int .i64 k ∧ Hid (Lw w1.heap.size w1 wr t (roT g k 0 k) (4 * k))) (fun i _ => l.length - (intOf i).toNat)
  case atStart => exact ⟨0, Nat.zero_le _, rfl, HL.out.1⟩
  case round =>
    obtain ⟨k, hk, rfl, H⟩ := hrel
    by_cases hlt : k < l.length
    · have q1 : (k : Int) < l.length := by omega
      have hb := Bs.litC wr [97 + (k : Int)] (0, 0) (by simp)
      obtain ⟨S, hS⟩ : ∃ S, Hid (strC [97 + (k : Int)] = S) := ⟨_, rfl⟩
      have hr : (convert 33 9 (.slice (some ⟨wr.heap.size, 0, none⟩) 1 1)).run Tryd.prog (wr.alloc (.cells #[.int .u8 (97 + (k : Int))] 5)) = .ok (.string S) (wr.alloc (.cells #[.int .u8 (97 + (k : Int))] 5)) := by
        have := run_strC hb
        rw [hS.out] at this
        exact this
      have BA := below_alloc wr (.cells #[.int .u8 (97 + (k : Int))] 5)
      obtain ⟨P, hP⟩ : ∃ P, Hid (rpt k = P) := ⟨_, rfl⟩
      have eP : (⟨#[47, 102]⟩ : ByteArray) ++ S = P := (rpt_add k S hS.out).trans hP.out
      have hSz : S.size = 1 := by rw [← hS.out]; rfl
      have hc1 : ¬ 9223372036854775807 < 2 + S.size := by omega
      clear hSz
      have hPs : P.size ≤ 3000 := by rw [← hP.out, rpt_size]; omega
      have LA := H.out.kept BA
      have BW : Below w.heap.size w (wr.alloc (.cells #[.int .u8 (97 + (k : Int))] 5)) := HL.out.2.trans (LA.bel.mono HL.out.2.size)
      have hv2 := HV.out.below BW
      obtain ⟨b, off, rfl, hc⟩ := hv2.nth hlt
      have c1 := hc k hlt
      obtain ⟨x, hx⟩ : ∃ x, Hid (l.getD k 0 = x) := ⟨_, rfl⟩
      rw [hx.out] at c1
      obtain ⟨n, hn, hn2⟩ : ∃ n : Nat, bits .and .i64 x 4095 = (n : Int) ∧ Hid (g k = n ∧ n ≤ 4095) := ⟨(x % 4096).toNat, by rw [and4095]; omega, by rw [hg.out]; show (l.getD k 0 % 4096).toNat = _; rw [hx.out], by omega⟩
      have hnn : n ≤ 4095 := hn2.out.2
      obtain ⟨o, ho, hoB⟩ := makeZ n (by omega)
      have HC : Hid (Calls Tryd.prog 12 #[ptr t, .agg #[.int .i64 1, .string P, .string ⟨#[]⟩, .slice none 0 0, .int .i64 0]] (wr.alloc (.cells #[.int .u8 (97 + (k : Int))] 5)) fun e w' => e = .returned (.int .i64 0) ∧ Lw w1.heap.size w1 w' t (roN g k) (4 * k + 2)) := (LA.donil (by omega) 1 P ⟨#[]⟩ hPs (by decide) (by rw [← hP.out]; exact ro_make g HG.out k (by omega))).mono (fun e w' h => ⟨h.1, h.2.1⟩)
      have HB : Hid (∀ w : World, Bs (w.alloc o) (.slice (some ⟨w.heap.size, 0, none⟩) n n) (List.replicate n 0)) := hoB
      have e1 : (97 + (k : Int)) % 256 = 97 + (k : Int) := by omega
      clear hb BA H hS LA BW hv2 hc hx hoB
      go_wp2_with fail
      refine HC.out.mono ?_
      rintro e w3 ⟨rfl, L3⟩
      have BB := below_alloc w3 o
      have L4 := L3.kept BB
      have htl := L3.tN.2
      have HD : Hid (Calls Tryd.prog 12 #[ptr t, .agg #[.int .i64 3, .string P, .string ⟨#[]⟩, .slice (some ⟨w3.heap.size, 0, none⟩) n n, .int .i64 0]] (w3.alloc o) fun e w' => e = .returned (.int .i64 0) ∧ Lw w1.heap.size w1 w' t (roT g (k + 1) 0 (k + 1)) (4 * k + 2 + 2)) := by
        refine (L4.do_ (by omega) ⟨3, P, ⟨#[]⟩, List.replicate n 0, 0⟩ (.slice (some ⟨w3.heap.size, 0, none⟩) n n) (HB.out w3) (fun y hy => by have := List.eq_of_mem_replicate hy; omega) (fun a n c e _ => by cases e; show ¬ w3.heap.size = t; omega) hPs (show (⟨#[]⟩ : ByteArray).size ≤ 3000 by decide) ?_).mono (fun e w' h => ⟨h.1, h.2.1⟩)
        rw [← hP.out, ← hn2.out.1]
        exact ro_fill g HG.out k (by omega)
      have ho3 := ho w3
      clear HC L3 BB L4 htl hr eP c1 ho HB
      go_wp2_with fail
      refine HD.out.mono ?_
      rintro e w5 ⟨rfl, L5⟩
      have hs5 : Calls Tryd.prog 14 #[ptr t, .string P] w5 fun e w' => e = .returned (.tuple #[inV false n 0, .int .i64 0]) ∧ Below w5.heap.size w5 w' := by
        have := L5.stat (s := P) hPs (by rw [← hP.out]; exact ro_th (by omega) (by omega) (by omega)) (nd := .file (List.replicate (g k) 0)) (by rw [← hP.out, (rpt_sp k (by omega)).2.1]; exact ro_at (s := k + 1) (by omega) (by omega) (by omega))
        have hinf : (Nd.file (List.replicate (g k) 0)).inf = inV false n 0 := by
          unfold Nd.inf
          dsimp only
          rw [List.length_replicate, hn2.out.1]
        rw [hinf] at this
        exact this
      have H5 : Hid (Lw w1.heap.size w1 w5 t (roT g (k + 1) 0 (k + 1)) (4 * k + 2 + 2)) := L5
      clear HD L5 ho3
      go_wp2_with fail
      refine hs5.mono ?_
      rintro e w6 ⟨rfl, B6⟩
      have B7 := B6.trans ((below_alloc w6 (inO false n 0)).mono B6.size)
      have H7 : Hid (Lw w1.heap.size w1 (w6.alloc (inO false n 0)) t (roT g (k + 1) 0 (k + 1)) (4 * (k + 1))) := H5.out.kept B7
      clear hs5 B6 B7 H5
      go_wp2_with fail
      go_roundw
      case rel => exact ⟨k + 1, by omega, by go_num, H7.out⟩
      case measure => simp [intOf]; omega
    · have q1 : ¬ (k : Int) < l.length := by omega
      have HE : Hid (k = l.length) := by show k = l.length; omega
      have H2 : Hid (Lw w1.heap.size w1 wr t (roT g l.length 0 l.length) (4 * l.length)) := by have := H.out; rwa [HE.out] at this
      clear H
      go_wp2_with fail
      go_loopw [12] (fun i wr => ∃ k : Nat, k ≤ l.length ∧ i = .int .i64 k ∧ Hid (Lw w1.heap.size w1 wr t (roT g l.length k l.length) (4 * l.length + 2 * k))) (fun i _ => l.length - (intOf i).toNat)
      case atStart => exact ⟨0, Nat.zero_le _, rfl, H2.out⟩
      case round =>
        clear H2
        obtain ⟨j, hj, rfl, H⟩ := hrel
        by_cases hlt : j < l.length
        · have q2 : (j : Int) < l.length := by omega
          have hb := Bs.litC wr [97 + (j : Int)] (0, 0) (by simp)
          obtain ⟨S, hS⟩ : ∃ S, Hid (strC [97 + (j : Int)] = S) := ⟨_, rfl⟩
          have hr : (convert 33 9 (.slice (some ⟨wr.heap.size, 0, none⟩) 1 1)).run Tryd.prog (wr.alloc (.cells #[.int .u8 (97 + (j : Int))] 5)) = .ok (.string S) (wr.alloc (.cells #[.int .u8 (97 + (j : Int))] 5)) := by
            have := run_strC hb
            rw [hS.out] at this
            exact this
          have BA := below_alloc wr (.cells #[.int .u8 (97 + (j : Int))] 5)
          obtain ⟨P, hP⟩ : ∃ P, Hid (rpt j = P) := ⟨_, rfl⟩
          have eP : (⟨#[47, 102]⟩ : ByteArray) ++ S = P := (rpt_add j S hS.out).trans hP.out
          have hSz : S.size = 1 := by rw [← hS.out]; rfl
          have hc1 : ¬ 9223372036854775807 < 2 + S.size := by omega
          clear hSz
          have hPs : P.size ≤ 3000 := by rw [← hP.out, rpt_size]; omega
          have HC : Hid (Calls Tryd.prog 12 #[ptr t, .agg #[.int .i64 5, .string P, .string ⟨#[]⟩, .slice none 0 0, .int .i64 0]] (wr.alloc (.cells #[.int .u8 (97 + (j : Int))] 5)) fun e w' => e = .returned (.int .i64 0) ∧ Lw w1.heap.size w1 w' t (roT g l.length (j + 1) l.length) (4 * l.length + 2 * j + 2)) := ((H.out.kept BA).donil (by omega) 5 P ⟨#[]⟩ hPs (by decide) (by rw [← hP.out]; exact ro_gone g l.length j l.length hlt hl30)).mono (fun e w' h => ⟨h.1, h.2.1⟩)
          have e1 : (97 + (j : Int)) % 256 = 97 + (j : Int) := by omega
          clear hb BA H hS hPs hP
          go_wp2_with fail
          refine HC.out.mono ?_
          rintro e w3 ⟨rfl, L3⟩
          have H3 : Hid (Lw w1.heap.size w1 w3 t (roT g l.length (j + 1) l.length) (4 * l.length + 2 * (j + 1))) := L3
          clear HC L3 hr eP
          go_wp2_with fail
          go_roundw
          case rel => exact ⟨j + 1, by omega, by go_num, H3.out⟩
          case measure => simp [intOf]; omega
        · have q2 : ¬ (j : Int) < l.length := by omega
          have HJ : Hid (j = l.length) := by show j = l.length; omega
          have hF : Hid (Calls Tryd.prog 11 #[ptr t] wr fun e w' => e = .returned (.tuple #[.int .i64 (1000 - ((l.length : Int) + 7) / 8), .int .i64 99]) ∧ Below w.heap.size w w') := by
            refine H.out.free.mono ?_
            rintro e w' ⟨rfl, B⟩
            refine ⟨?_, HL.out.2.trans ((H.out.bel.trans (B.mono H.out.le)).mono HL.out.2.size)⟩
            have e1 : (roT g l.length j l.length).bl = 1000 - ((l.length : Int) + 7) / 8 := by
              show 1000 - slB l.length - rsm g j l.length = _
              rw [rsm_none g j l.length (by have := HJ.out; omega), slB_small l.length (by omega)]; omega
            have e2 : (roT g l.length j l.length).ino = 99 := by show 99 - ((l.length : Int) - (j : Int)) = 99; have := HJ.out; omega
            rw [e1, e2]
          clear H
          go_wp2_with fail
          refine hF.out.mono ?_
          rintro e w3 ⟨rfl, B3⟩
          have HF := fin _ B3
          clear hF B3
          go_wp2_with fail
          go_ret
          exact ⟨rfl, HF.out⟩
end Go.Proofs.YtdcmkcplklkfmaaDoor
