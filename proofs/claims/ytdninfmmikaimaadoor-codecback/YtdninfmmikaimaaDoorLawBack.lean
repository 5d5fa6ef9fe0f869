/-
  CodecBack answers true for every argument, in every world that holds codec's table; nothing that was there has changed.
-/
import Derived.Test.YtdninfmmikaimaaDoorEnc
import Derived.Test.YtdninfmmikaimaaDoorLawWrites
namespace Go.Proofs.YtdninfmmikaimaaDoor
open Go.RowKit
attribute [local go_sem ↓] Go.wp_at_zero Go.wp_at_succ

theorem Bs.below {N : Nat} {w w' : World} {v : Value} {xs : List Int} (h : Bs w v xs) (hb : Below N w w') (ho : ∀ a m c, v = .slice (some a) m c → 0 < m → a.block < N) : Bs w' v xs := by
  rcases h with h | ⟨a, c, rfl, hl, hm, hcell⟩
  · exact .inl h
  · refine .inr ⟨a, c, rfl, hl, hm, fun j hj => ?_⟩
    have h1 := hcell j hj
    have h2 := ho a xs.length c rfl (by omega)
    exact (hb.cell (p := a.add j) (by rw [add_block]; exact h2)).trans h1
theorem enc1_1 (n : Int) (bv : Value) (bs : List Int) : enc1 ⟨1, n, bv, bs⟩ = leTo n 1 := by simp [enc1]
theorem enc1_2 (n : Int) (bv : Value) (bs : List Int) : enc1 ⟨2, n, bv, bs⟩ = leTo n 2 := by simp [enc1]
theorem enc1_3 (n : Int) (bv : Value) (bs : List Int) : enc1 ⟨3, n, bv, bs⟩ = leTo n 4 := by simp [enc1]
theorem enc1_4 (kd n : Int) (bv : Value) (bs : List Int) (h1 : kd ≠ 1) (h2 : kd ≠ 2) (h3 : kd ≠ 3) : enc1 ⟨kd, n, bv, bs⟩ = leTo bs.length 4 ++ bs := by simp [enc1, h1, h2, h3]

/-- Taking a number back that was laid. -/
theorem back_num {N p : Nat} {w : World} {v : Value} {r : List Int} (n : Int) (k : Nat) (h : RdS N w p v ⟨leTo n k ++ r, 0⟩) {w' : World} {v' : Value} (h' : RdSTo N p w w' v' (tkS ⟨leTo n k ++ r, 0⟩ k)) :
    valB (tkV ⟨leTo n k ++ r, 0⟩ k) = n % 256 ^ k ∧ RdS N w' p v' ⟨r, 0⟩ ∧ Below N w w' := by
  obtain ⟨e1, e2⟩ := tk_app (leTo n k) r k (by simp [leTo_len])
  rw [e2] at h'
  rw [e1, valB_leTo]
  exact ⟨rfl, h'.rd, h'.belowR h⟩
theorem bk8 {N p : Nat} {w : World} {v : Value} {r : List Int} (n : Int) (h : RdS N w p v ⟨leTo n 1 ++ r, 0⟩) (hB : IsB (leTo n 1 ++ r)) :
    Calls Tryd.prog 22 #[.pointer (some ⟨p, 0, none⟩)] w fun e w' => e = .returned (.int .i64 (n % 256)) ∧ (∃ v', RdS N w' p v' ⟨r, 0⟩) ∧ Below N w w' := by
  refine (ru8_any N p v ⟨leTo n 1 ++ r, 0⟩ w h hB).mono ?_
  rintro e w' ⟨rfl, v', h'⟩
  obtain ⟨e1, r1, b1⟩ := back_num n 1 h h'
  have e2 : valB (tkV ⟨leTo n 1 ++ r, 0⟩ 1) = n % 256 := e1
  rw [e2]
  exact ⟨rfl, ⟨v', r1⟩, b1⟩
theorem bk16 {N p : Nat} {w : World} {v : Value} {r : List Int} (n : Int) (h : RdS N w p v ⟨leTo n 2 ++ r, 0⟩) (hB : IsB (leTo n 2 ++ r)) :
    Calls Tryd.prog 24 #[.pointer (some ⟨p, 0, none⟩)] w fun e w' => e = .returned (.int .i64 (n % 65536)) ∧ (∃ v', RdS N w' p v' ⟨r, 0⟩) ∧ Below N w w' := by
  refine (ru16_any N p v ⟨leTo n 2 ++ r, 0⟩ w h hB).mono ?_
  rintro e w' ⟨rfl, v', h'⟩
  obtain ⟨e1, r1, b1⟩ := back_num n 2 h h'
  have e2 : valB (tkV ⟨leTo n 2 ++ r, 0⟩ 2) = n % 65536 := e1
  rw [e2]
  exact ⟨rfl, ⟨v', r1⟩, b1⟩
theorem bk32 {N p : Nat} {w : World} {v : Value} {r : List Int} (n : Int) (h : RdS N w p v ⟨leTo n 4 ++ r, 0⟩) (hB : IsB (leTo n 4 ++ r)) :
    Calls Tryd.prog 25 #[.pointer (some ⟨p, 0, none⟩)] w fun e w' => e = .returned (.int .i64 (n % 4294967296)) ∧ (∃ v', RdS N w' p v' ⟨r, 0⟩) ∧ Below N w w' := by
  refine (ru32_any N p v ⟨leTo n 4 ++ r, 0⟩ w h hB).mono ?_
  rintro e w' ⟨rfl, v', h'⟩
  obtain ⟨e1, r1, b1⟩ := back_num n 4 h h'
  have e2 : valB (tkV ⟨leTo n 4 ++ r, 0⟩ 4) = n % 4294967296 := e1
  rw [e2]
  exact ⟨rfl, ⟨v', r1⟩, b1⟩
theorem bkB {N p : Nat} {w : World} {v : Value} {r b : List Int} (h : RdS N w p v ⟨leTo b.length 4 ++ b ++ r, 0⟩) (hB : IsB (leTo b.length 4 ++ b ++ r)) (hb : b.length ≤ 4096) (hl : (leTo b.length 4 ++ b ++ r).length ≤ 1099511627776) :
    Calls Tryd.prog 28 #[.pointer (some ⟨p, 0, none⟩), .int .i64 4096] w fun e w' => ∃ u, e = .returned u ∧ (∃ v', RdS N w' p v' ⟨r, 0⟩) ∧ Below N w w' ∧ Bs w' u b := by
  refine (rbytes_any N p v ⟨leTo b.length 4 ++ b ++ r, 0⟩ 4096 w h hB hl).mono ?_
  rintro e w' ⟨u, rfl, ⟨v', h'⟩, ho, _⟩
  obtain ⟨e1, e2, e3⟩ := bs_app b r hb
  rw [e1, e2] at ho
  rw [e1, e3] at h'
  exact ⟨u, rfl, ⟨v', h'.rd⟩, h'.belowR h, Bs.ofOwns ho⟩
theorem mask8 (n : Int) : bits .and .i64 n 255 = n % 256 := and_mask n 8 (by omega)
theorem mask16 (n : Int) : bits .and .i64 n 65535 = n % 65536 := and_mask n 16 (by omega)
theorem mask32 (n : Int) : bits .and .i64 n 4294967295 = n % 4294967296 := and_mask n 32 (by omega)

set_option maxHeartbeats 4000000 in
set_option maxRecDepth 100000 in
theorem law_back (v : Value) (l : List PutD) (w : World) (hT : Tab w) (hl : Puts w v l) :
    Calls Tryd.prog 5 #[v] w fun e w' => e = .returned (.bool true) ∧ Below w.heap.size w w' := by
  obtain ⟨al, cl, rfl⟩ := hl.form
  go_enter Tryd.func5, Tryd.ntmps5
  go_wp2_with fail
  refine (known_any w hT).mono ?_
  rintro e w1 ⟨rfl, B1⟩
  have hl1 : Puts w1 (.slice al l.length cl) l := hl.under B1
  go_wp2_with fail
  refine (few_any _ l _ hl1).mono ?_
  rintro e w1' ⟨hfew, rfl⟩
  rcases hfew with rfl | ⟨rfl, hok⟩
  · go_wp2
    go_ret
    exact ⟨rfl, B1⟩
  go_wp2_with fail
  refine (newWriter_any w.heap.size w1' B1.size).mono ?_
  rintro e w2 ⟨rfl, a2, hw2⟩
  have B2 : Below w.heap.size w w2 := by rw [hw2]; exact B1.alloc B1.size _
  clear hw2 hl1
  generalize w1'.heap.size = p at *
  go_wp2_with fail
  have hk300 := hok.1
  go_loopw [4] (fun i wr => ∃ (k : Nat) (v : Value), k ≤ l.length ∧ i = .int .i64 k ∧ Wr w.heap.size wr p v (encL (l.take k)) ∧ Below w.heap.size w wr ∧ (encL (l.take k)).length ≤ 4100 * k) (fun i _ => l.length - (intOf i).toNat)
  case atStart => exact ⟨0, _, Nat.zero_le _, rfl, a2, B2, by simp [encL]⟩
  case round =>
    obtain ⟨k, v, hk, rfl, ar, Br, hL⟩ := hrel
    by_cases hlt : k < l.length
    · obtain ⟨b, off, ⟨kd, n, bv, bs⟩, hd, rfl, hb, c0, c1, c2, hbs, _⟩ := (hl.under Br).at hlt
      have ho := hok.2 k _ hd
      have HE : Hid (encL (l.take (k + 1)) = encL (l.take k) ++ enc1 ⟨kd, n, bv, bs⟩) := encL_take l k _ hd
      simp only at c0 c1 c2 hbs
      have hbs0 : Bs w bv bs := by
        obtain ⟨_, _, ⟨kd', n', bv', bs'⟩, hd', _, _, _, _, _, hbs', _⟩ := hl.at hlt
        rw [hd] at hd'; cases hd'
        exact hbs'
      have ho1 : bs.length ≤ 4096 := ho.1
      obtain ⟨ab, cb, rfl, hcb⟩ := hbs.form
      have g1 : (k : Int) < (l.length : Int) := by omega
      generalize encL (l.take k) = L at *
      clear hd hl a2 B2 B1 hT ho
      by_cases q1 : kd = 1
      · subst q1
        rw [enc1_1] at HE
        go_wp2_with fail
        refine (u8_any w.heap.size p n v L _ ar (by omega)).mono ?_
        rintro e w4 ⟨rfl, v4, h4⟩
        have B4 := Br.trans (h4.belowW ar)
        have a4 : Wr w.heap.size w4 p v4 (encL (l.take (k + 1))) := by rw [HE.out]; exact h4.wr
        have hM : (encL (l.take (k + 1))).length ≤ 4100 * (k + 1) := by rw [HE.out]; simp [leTo_len]; omega
        clear ar Br h4 HE
        go_wp2
        go_roundw
        case rel => exact ⟨k + 1, v4, by omega, by go_num, a4, B4, hM⟩
        case measure => simp [intOf]; omega
      by_cases q2 : kd = 2
      · subst q2
        rw [enc1_2] at HE
        go_wp2_with fail
        refine (u16_any w.heap.size p n v L _ ar (by omega)).mono ?_
        rintro e w4 ⟨rfl, v4, h4⟩
        have B4 := Br.trans (h4.belowW ar)
        have a4 : Wr w.heap.size w4 p v4 (encL (l.take (k + 1))) := by rw [HE.out]; exact h4.wr
        have hM : (encL (l.take (k + 1))).length ≤ 4100 * (k + 1) := by rw [HE.out]; simp [leTo_len]; omega
        clear ar Br h4 HE
        go_wp2
        go_roundw
        case rel => exact ⟨k + 1, v4, by omega, by go_num, a4, B4, hM⟩
        case measure => simp [intOf]; omega
      by_cases q3 : kd = 3
      · subst q3
        rw [enc1_3] at HE
        go_wp2_with fail
        refine (u32_any w.heap.size p n v L _ ar (by omega)).mono ?_
        rintro e w4 ⟨rfl, v4, h4⟩
        have B4 := Br.trans (h4.belowW ar)
        have a4 : Wr w.heap.size w4 p v4 (encL (l.take (k + 1))) := by rw [HE.out]; exact h4.wr
        have hM : (encL (l.take (k + 1))).length ≤ 4100 * (k + 1) := by rw [HE.out]; simp [leTo_len]; omega
        clear ar Br h4 HE
        go_wp2
        go_roundw
        case rel => exact ⟨k + 1, v4, by omega, by go_num, a4, B4, hM⟩
        case measure => simp [intOf]; omega
      · rw [enc1_4 kd n _ bs q1 q2 q3] at HE
        have r1 : (kd == 1) = false := by simpa using q1
        have r2 : (kd == 2) = false := by simpa using q2
        have r3 : (kd == 3) = false := by simpa using q3
        go_wp2_with fail
        refine (bytes_any w.heap.size p v _ L bs _ ar hbs (apart_old ar hbs0 (Nat.le_refl _)) (by omega)).mono ?_
        rintro e w4 ⟨rfl, v4, h4⟩
        have B4 := Br.trans (h4.belowW ar)
        have a4 : Wr w.heap.size w4 p v4 (encL (l.take (k + 1))) := by rw [HE.out, ← List.append_assoc]; exact h4.wr
        have hM : (encL (l.take (k + 1))).length ≤ 4100 * (k + 1) := by rw [HE.out]; simp [leTo_len]; omega
        clear ar Br h4 HE
        go_wp2
        go_roundw
        case rel => exact ⟨k + 1, v4, by omega, by go_num, a4, B4, hM⟩
        case measure => simp [intOf]; omega
    · have ek : l.take k = l := List.take_of_length_le (by omega)
      rw [ek] at ar hL
      have hBl : IsB (encL l) := isB_encL l (fun d hd => by
        obtain ⟨j, hj⟩ := List.getElem?_of_mem hd
        have hjl := (List.getElem?_eq_some_iff.1 hj).1
        obtain ⟨_, _, d', hd', _, _, _, _, _, _, hB'⟩ := hl.at hjl
        rw [hj] at hd'; cases hd'; exact hB')
      clear a2 B2 B1 hT
      go_wp2_with fail
      refine (done_any w.heap.size p v (encL l) _ ar (by omega)).mono ?_
      rintro e w4 ⟨u4, rfl, h4⟩
      have B4 := Br.trans (h4.2.1.below ar.N (fun _ h => h.elim))
      go_wp2_with fail
      refine (newReader_any w.heap.size u4 (encL l) _ (Bs.ofOwns h4.1) (by omega) B4.size).mono ?_
      rintro e w5 ⟨p5, v5, rfl, a5, c5, _⟩
      have B5 := B4.trans (c5.below B4.size (fun _ h => h.elim))
      clear ar Br h4 B4 c5
      go_wp2_with fail
      go_loopw [6] (fun i wr => ∃ (j : Nat) (vr : Value), j ≤ l.length ∧ i = .int .i64 j ∧ RdS w.heap.size wr p5 vr ⟨encL (l.drop j), 0⟩ ∧ Below w.heap.size w wr) (fun i _ => l.length - (intOf i).toNat)
      case atStart => exact ⟨0, v5, Nat.zero_le _, rfl, a5, B5⟩
      case round =>
       obtain ⟨j, vr, hj, rfl, ar, Br⟩ := hrel
       by_cases hjl : j < l.length
       · obtain ⟨b, off, ⟨kd, n, bv, bs⟩, hd, rfl, hb', c0', c1', c2', hbs', _⟩ := hl.at hjl
         have hb : b < w.heap.size := hb'
         simp only at c0' c1' c2' hbs'
         have c0 := (Br.cell (p := ⟨b, off + j * 3, none⟩) hb).trans c0'
         have c1 := (Br.cell (p := ⟨b, off + j * 3 + 1, none⟩) hb).trans c1'
         have c2 := (Br.cell (p := ⟨b, off + j * 3 + 2, none⟩) hb).trans c2'
         have hbs := hbs'.under Br
         have ho1 : bs.length ≤ 4096 := (hok.2 j _ hd).1
         have HE : Hid (encL (l.drop j) = enc1 ⟨kd, n, bv, bs⟩ ++ encL (l.drop (j + 1))) := encL_drop l j _ hd
         have hBr : IsB (encL (l.drop j)) := isB_encL _ (fun d hd => by
           obtain ⟨m, hm⟩ := List.getElem?_of_mem (List.mem_of_mem_drop hd)
           have hml := (List.getElem?_eq_some_iff.1 hm).1
           obtain ⟨_, _, d', hd', _, _, _, _, _, _, hB'⟩ := hl.at hml
           rw [hm] at hd'; cases hd'; exact hB')
         have hLr : (encL (l.drop j)).length ≤ 4100 * 300 := by
           have h1 := encL_len (l.drop j) (fun d hd => by
             obtain ⟨m, hm⟩ := List.getElem?_of_mem (List.mem_of_mem_drop hd)
             exact (hok.2 m d hm).1)
           have h2 : (l.drop j).length ≤ 300 := by simp; omega
           omega
         have hold2 : ∀ a m c, bv = .slice (some a) m c → 0 < m → a.block < w.heap.size := by
           intro a m c e h0
           rcases hbs' with ⟨e2, _⟩ | ⟨a2, c2, e2, _, _, hc⟩
           · rw [e2] at e; cases e
           · rw [e2] at e; cases e
             have := World.block_lt_of_cell? w _ (hc 0 h0)
             rw [add_block] at this
             exact this
         obtain ⟨ab, cb, rfl, hcb⟩ := hbs.form
         have g1 : (j : Int) < (l.length : Int) := by omega
         clear hd hl a5 B5 hok c0' c1' c2' hbs' hBl hL
         by_cases q1 : kd = 1
         · skip
           subst q1
           rw [enc1_1] at HE
           rw [HE.out] at ar hBr
           have hd : RdS w.heap.size wr.drew p5 vr ⟨_, 0⟩ := ar.kept (Chg.drew (fun _ => False) _) (fun h => h) (fun _ _ _ _ _ h => h)
           have Bd : Below w.heap.size w wr.drew := Br.drew
           have hm := mask8 n
           clear ar Br HE
           go_wp2_with fail
           go_region_with ((go_at_call 22; refine (bk8 n hd hBr).mono ?_; rintro e w6 ⟨rfl, ⟨v6, a6⟩, B6'⟩; have x1 := (B6'.cell (p := ⟨b, off + j * 3 + 1, none⟩) hb).trans c1))
           all_goals
             go_wp2
             go_roundw
             case rel => exact ⟨j + 1, v6, by omega, by go_num, a6, Bd.trans B6'⟩
             case measure => simp [intOf]; omega
         by_cases q2 : kd = 2
         · skip
           subst q2
           rw [enc1_2] at HE
           rw [HE.out] at ar hBr
           have hd : RdS w.heap.size wr.drew p5 vr ⟨_, 0⟩ := ar.kept (Chg.drew (fun _ => False) _) (fun h => h) (fun _ _ _ _ _ h => h)
           have Bd : Below w.heap.size w wr.drew := Br.drew
           have hm := mask16 n
           clear ar Br HE
           go_wp2_with fail
           go_region_with ((go_at_call 24; refine (bk16 n hd hBr).mono ?_; rintro e w6 ⟨rfl, ⟨v6, a6⟩, B6'⟩; have x1 := (B6'.cell (p := ⟨b, off + j * 3 + 1, none⟩) hb).trans c1))
           all_goals
             go_wp2
             go_roundw
             case rel => exact ⟨j + 1, v6, by omega, by go_num, a6, Bd.trans B6'⟩
             case measure => simp [intOf]; omega
         by_cases q3 : kd = 3
         · skip
           subst q3
           rw [enc1_3] at HE
           rw [HE.out] at ar hBr
           have hd : RdS w.heap.size wr.drew p5 vr ⟨_, 0⟩ := ar.kept (Chg.drew (fun _ => False) _) (fun h => h) (fun _ _ _ _ _ h => h)
           have Bd : Below w.heap.size w wr.drew := Br.drew
           have hm := mask32 n
           clear ar Br HE
           go_wp2_with fail
           go_region_with ((go_at_call 25; refine (bk32 n hd hBr).mono ?_; rintro e w6 ⟨rfl, ⟨v6, a6⟩, B6'⟩; have x1 := (B6'.cell (p := ⟨b, off + j * 3 + 1, none⟩) hb).trans c1))
           all_goals
             go_wp2
             go_roundw
             case rel => exact ⟨j + 1, v6, by omega, by go_num, a6, Bd.trans B6'⟩
             case measure => simp [intOf]; omega
         · rw [enc1_4 kd n _ bs q1 q2 q3] at HE
           rw [HE.out] at ar hBr hLr
           have r1 : (kd == 1) = false := by simpa using q1
           have r2 : (kd == 2) = false := by simpa using q2
           have r3 : (kd == 3) = false := by simpa using q3
           have hd : RdS w.heap.size wr.drew p5 vr ⟨_, 0⟩ := ar.kept (Chg.drew (fun _ => False) _) (fun h => h) (fun _ _ _ _ _ h => h)
           have Bd : Below w.heap.size w wr.drew := Br.drew
           have sd : (convert 28 9 (.slice ab bs.length cb)).run Tryd.prog wr.drew = .ok (.string (strOf bs)) wr.drew := run_str (w := wr.drew) hbs
           have hbd : Bs wr.drew (.slice ab bs.length cb) bs := hbs
           have hlt2 : ∀ a m c, Value.slice ab bs.length cb = .slice (some a) m c → 0 < m → a.block < w.heap.size := hold2
           clear ar Br HE hbs
           go_wp2_with fail
           go_region_with ((go_at_call 28; refine (bkB hd hBr ho1 (by omega)).mono ?_; rintro e w6 ⟨u6, rfl, ⟨v6, a6⟩, B6', U6⟩; have x2 := (B6'.cell (p := ⟨b, off + j * 3 + 2, none⟩) hb).trans c2; have s6 := run_str U6; have s7 := run_str (hbd.below B6' hlt2)))
           all_goals
             go_wp2
             go_roundw
             case rel => exact ⟨j + 1, v6, by omega, by go_num, a6, Bd.trans B6'⟩
             case measure => simp [intOf]; omega
       · have ej : encL (l.drop j) = [] := by rw [List.drop_eq_nil_of_le (by omega)]; rfl
         rw [ej] at ar
         clear hl a5 B5 hok hBl hL ej
         go_wp2_with fail
         refine (end_any w.heap.size p5 vr ⟨[], 0⟩ _ ar).mono ?_
         rintro e w6 ⟨he, rfl⟩
         obtain rfl : e = .returned (.int .i64 0) := he
         go_wp2
         go_ret
         exact ⟨rfl, Br⟩
end Go.Proofs.YtdninfmmikaimaaDoor
