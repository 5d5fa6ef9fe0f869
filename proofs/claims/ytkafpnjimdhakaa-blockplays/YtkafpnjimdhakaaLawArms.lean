/-
  BlockArms answers true.
-/
import Derived.Test.YtkafpnjimdhakaaKnown
namespace Go.Proofs.Ytkafpnjimdhakaa
open Go.RowKit Go.Maps

/-- v is a slice of slices of bytes that reads l. -/
def Bss (w : World) (v : Value) (l : List (Value × List Int)) : Prop :=
  ((∃ a c, v = .slice a 0 c) ∧ l = []) ∨
  ∃ b off c, v = .slice (some ⟨b, off, none⟩) l.length c ∧ ∀ (j : Nat) d, l[j]? = some d → w.cell? ⟨b, off + j, none⟩ = some d.1 ∧ Bs w d.1 d.2
theorem Bss.form {w : World} {v : Value} {l : List (Value × List Int)} (h : Bss w v l) : ∃ a c, v = .slice a l.length c := by
  rcases h with ⟨⟨a, c, rfl⟩, rfl⟩ | ⟨b, off, c, rfl, _⟩
  · exact ⟨a, c, rfl⟩
  · exact ⟨_, _, rfl⟩
theorem Bss.at {w w' : World} {a : Option Addr} {n c i : Nat} {l : List (Value × List Int)} (h : Bss w (.slice a n c) l) (hc : Chg (fun _ => False) w w') (hi : i < l.length) :
    ∃ b off u bs, a = some ⟨b, off, none⟩ ∧ w'.cell? ⟨b, off + i, none⟩ = some u ∧ Bs w' u bs := by
  rcases h with ⟨_, rfl⟩ | ⟨b, off, c', e, hd⟩
  · simp at hi
  · cases e
    obtain ⟨h1, h2⟩ := hd i l[i] (by simp [hi])
    exact ⟨b, off, l[i].1, l[i].2, rfl, hc.cell h1 (fun h => h), h2.kept hc (fun _ _ _ _ _ h => h)⟩

/-- The disk behind i Writes of an Arm of n. -/
structure AF (S : St) (n i : Nat) : Prop where
  nb : S.nb = 4
  st : (i < n ∧ S.off = false ∧ S.arm = (n : Int) - i ∧ S.writes = i) ∨ (n ≤ i ∧ S.off = true ∧ S.writes = n - 1)
theorem af_step {S : St} {n i : Nat} (h : AF S n i) (hn : 1 ≤ n) {k : Int} (hk0 : 0 ≤ k) (hk1 : k < 4) {b : List Int} (hb : b.length = 512) :
    AF (S.write k b) n (i + 1) ∧ S.writeE k b = (if i + 1 < n then 0 else 6) ∧ (S.write k b).off = decide (n ≤ i + 1) := by
  have hok : S.okW k b := ⟨hk0, by rw [h.nb]; exact hk1, hb⟩
  rcases h.st with ⟨hlt, ho, ha, hw⟩ | ⟨hge, ho, hw⟩
  · have hno : ¬ S.off = true := by simp [ho]
    by_cases h1 : i + 1 = n
    · have ha1 : S.arm = 1 := by omega
      have e1 : S.write k b = S.cut S.picks := by unfold St.write; rw [if_neg hno, if_neg (fun h => h hok), if_pos ha1]
      have e2 : S.writeE k b = 6 := by unfold St.writeE; rw [if_neg hno, if_neg (fun h => h hok), if_pos ha1]
      rw [e1, e2, if_neg (by omega)]
      refine ⟨⟨by rw [St.cut_nb]; exact h.nb, .inr ⟨by omega, St.cut_off _ _, by rw [St.cut_writes]; omega⟩⟩, rfl, by rw [St.cut_off]; simp; omega⟩
    · have ha1 : ¬ S.arm = 1 := by omega
      have e1 : S.write k b = S.pushed k.toNat b := by unfold St.write; rw [if_neg hno, if_neg (fun h => h hok), if_neg ha1]
      have e2 : S.writeE k b = 0 := by unfold St.writeE; rw [if_neg hno, if_neg (fun h => h hok), if_neg ha1]
      rw [e1, e2, if_pos (by omega)]
      have ea : (S.pushed k.toNat b).arm = S.arm - 1 := by show (if S.arm < 1 then S.arm else S.arm - 1) = _; rw [if_neg (by omega)]
      refine ⟨⟨h.nb, .inl ⟨by omega, ho, by rw [ea]; omega, by show S.writes + 1 = _; omega⟩⟩, rfl, ?_⟩
      show S.off = _
      rw [ho]; simp; omega
  · have e1 : S.write k b = S := by unfold St.write; rw [if_pos ho]
    have e2 : S.writeE k b = 6 := by unfold St.writeE; rw [if_pos ho]
    rw [e1, e2, if_neg (by omega)]
    exact ⟨⟨h.nb, .inr ⟨by omega, ho, hw⟩⟩, rfl, by rw [ho]; simp; omega⟩

theorem and3 (i : Nat) (h : i < 64) : 0 ≤ bits BinOp.and IntKind.i64 (i : Int) 3 ∧ bits BinOp.and IntKind.i64 (i : Int) 3 < 4 := by
  have all : ∀ i : Fin 64, 0 ≤ bits BinOp.and IntKind.i64 ((i.val : Nat) : Int) 3 ∧ bits BinOp.and IntKind.i64 ((i.val : Nat) : Int) 3 < 4 := by decide +kernel
  exact all ⟨i, h⟩
theorem arms_tail {w wr : World} {F : Nat → Prop} {p : Nat} {S : St} (_h : Dk wr F p S) (_hc : Chg (fun _ => False) w wr ∧ ∀ b, F b → w.heap.size ≤ b) (hnb : S.nb = 4) {W : Nat} (hw : S.writes = W) (hW : W < 1000) :
    S.on.writeE 0 (full []) = 0 ∧ (S.on.write 0 (full [])).writes = W + 1 ∧ (S.on.write 0 (full [])).syncE = 0 ∧ S.on.writes < 1099511627776 ∧ (S.on.write 0 (full [])).writes < 1099511627776 := by
  have e : S.on.write 0 (full []) = S.on.wrote 0 (full []) := by
    have := write_of (S := S.on) (n := 0) (b := full []) rfl (by show 0 < S.nb; omega) (full_len []) (by show (0 : Int) < 1; decide)
    exact this
  have e2 : S.on.writeE 0 (full []) = 0 := by
    unfold St.writeE
    rw [if_neg (by simp [St.on]), if_neg (fun h => h ⟨by decide, by show (0 : Int) < (S.nb : Int); omega, full_len []⟩), if_neg (by simp [St.on])]
  rw [e]
  have e3 : (S.on.wrote 0 (full [])).writes = W + 1 := by show S.writes + 1 = W + 1; omega
  refine ⟨e2, e3, ?_, by show S.writes < _; omega, by omega⟩
  unfold St.syncE
  rw [if_neg (by simp [St.on, St.wrote])]

set_option maxHeartbeats 3200000 in
set_option maxRecDepth 100000 in
theorem arms_loop (n : Nat) (lv pv : Value) (l : List (Value × List Int)) (ps : List Int) (w : World) (hl : Bss w lv l) (hp : Is w pv ps) (h60 : l.length ≤ 60) (hn1 : 1 ≤ n) (hn2 : n ≤ 100) (hps : ps.length ≤ 50) :
    Calls Try.prog 6 #[.int .i64 (n : Int), lv, pv] w fun e w' => e = .returned (.bool true) ∧ Chg (fun _ => False) w w' := by
  obtain ⟨la, lc, rfl⟩ := hl.form
  obtain ⟨pa, pc, rfl, hpc⟩ := hp.form
  have k1 : decide ((60 : Int) < (l.length : Int)) = false := by simp; omega
  have k2 : decide ((n : Int) < 1) = false := by simp; omega
  have k3 : decide ((100 : Int) < (n : Int)) = false := by simp; omega
  have k4 : decide ((50 : Int) < (ps.length : Int)) = false := by simp; omega
  have HL : Hid (Bss w (.slice la l.length lc) l) := hl
  have HP : Hid (Is w (.slice pa ps.length pc) ps) := hp
  clear hl hp
  go_enter Try.func6, Try.ntmps6
  go_wp2_with fail
  refine (known_any w).mono ?_
  rintro e w1 ⟨rfl, c1⟩
  go_wp2_with fail
  refine (new_ok 4 w1 (by decide) (by decide)).mono ?_
  rintro e w2 ⟨F, p, rfl, h2, c2, hF⟩
  have hq := eq25_some ⟨p, 0, none⟩
  have cw2 : Chg (fun _ => False) w w2 := c1.trans c2 (fun _ _ h => h)
  have H2 : Hid (Dk w2 F p (St.new 4) ∧ Chg (fun _ => False) w w2 ∧ ∀ b, F b → w.heap.size ≤ b) := ⟨h2, cw2, fun b hb => Nat.le_trans c1.size (hF b hb)⟩
  clear h2 c1 c2 hF cw2
  go_wp2_with fail
  refine (arm_any F p (St.new 4) n _ ps w2 H2.out.1 (HP.out.kept H2.out.2.1 (fun _ _ h => h)) (by omega) (by omega) (by omega)).mono ?_
  rintro e w3 ⟨rfl, h3⟩
  obtain ⟨F3, H3⟩ := step_next H2.out.2 h3
  have REL0 : ∃ S F, Dk w3 F p S ∧ (Chg (fun _ => False) w w3 ∧ ∀ b, F b → w.heap.size ≤ b) ∧ AF S n 0 := ⟨_, F3, H3.1, H3.2, rfl, .inl ⟨by omega, rfl, by simp [St.armed], rfl⟩⟩
  clear H2 h3 H3 hq k1 k2 k3 k4 HP
  go_wp2_with fail
  go_loopw [9, 10] (fun x _ wr => ∃ i : Nat, i ≤ l.length ∧ x = .int .i64 (i : Int) ∧ ∃ S F, Dk wr F p S ∧ (Chg (fun _ => False) w wr ∧ ∀ b, F b → w.heap.size ≤ b) ∧ AF S n i) (fun x _ _ => l.length - (intOf x).toNat)
  case atStart => exact ⟨0, Nat.zero_le _, rfl, REL0⟩
  case round =>
    clear REL0
    obtain ⟨i, hiL, rfl, S6, F6, h6, c6, A6⟩ := hrel
    by_cases hlt : i < l.length
    · obtain ⟨b, off, u, bs, rfl, hcell, hbs⟩ := HL.out.at c6.1 hlt
      obtain ⟨ua, uc, rfl, huc⟩ := hbs.form
      have hli : (i : Int) < (l.length : Int) := by omega
      have H6 : Hid (Dk wr F6 p S6 ∧ (Chg (fun _ => False) w wr ∧ ∀ b, F6 b → w.heap.size ≤ b) ∧ AF S6 n i ∧ Bs wr (.slice ua bs.length uc) bs) := ⟨h6, c6, A6, hbs⟩
      clear h6 c6 A6 hbs
      by_cases h512 : 512 < bs.length
      · have k5 : (512 : Int) < (bs.length : Int) := by omega
        go_wp2
        go_ret
        exact ⟨rfl, H6.out.2.1.1⟩
      · have k5 : ¬ (512 : Int) < (bs.length : Int) := by omega
        go_wp2_with fail
        refine (full_any _ bs wr H6.out.2.2.2 (by omega)).mono ?_
        rintro e w7 ⟨u7, rfl, fr⟩
        obtain ⟨ub, ud, rfl, hu⟩ := fr.form
        have H7 : Hid (Dk w7 F6 p S6 ∧ Bs w7 (.slice ub 512 ud) (full bs) ∧ (∀ g, (Value.slice ub 512 ud).ownBlock = some g → ¬ F6 g) ∧ (Chg (fun _ => False) w w7 ∧ ∀ b, F6 b → w.heap.size ≤ b) ∧ AF S6 n i) :=
          ⟨H6.out.1.kept fr.chg (fun _ _ h => h), fr.bs, Bs.off H6.out.1 (Chg.refl _ _) fr, ⟨H6.out.2.1.1.trans fr.chg (fun _ _ h => h), H6.out.2.1.2⟩, H6.out.2.2.1⟩
        clear fr H6 hcell
        go_wp2_with fail
        have h3 := and3 i (by omega)
        obtain ⟨k, hk⟩ : ∃ k, bits BinOp.and IntKind.i64 (i : Int) 3 = k := ⟨_, rfl⟩
        rw [hk] at h3 ⊢
        clear hk
        have hx6 : S6.writes < 1099511627776 := by
          rcases H7.out.2.2.2.2.st with ⟨_, _, _, e⟩ | ⟨_, _, e⟩ <;> omega
        obtain ⟨A8, hE, hO⟩ := af_step H7.out.2.2.2.2 hn1 h3.1 h3.2 (full_len bs)
        refine (write_any F6 p S6 k _ (full bs) w7 H7.out.1 H7.out.2.1 H7.out.2.2.1 hx6).mono ?_
        rintro e w8 ⟨rfl, h8⟩
        obtain ⟨F8, d8, c8⟩ := step_next H7.out.2.2.2.1 h8
        have H8 : Hid (Dk w8 F8 p (S6.write k (full bs)) ∧ (Chg (fun _ => False) w w8 ∧ ∀ b, F8 b → w.heap.size ≤ b) ∧ AF (S6.write k (full bs)) n (i + 1)) := ⟨d8, c8, A8⟩
        obtain ⟨S8, hS8⟩ : ∃ S8, S6.write k (full bs) = S8 := ⟨_, rfl⟩
        rw [hS8] at H8 hO
        rw [hE]
        clear h8 d8 c8 A8 hE H7 hS8 hx6 hu h3 HL
        by_cases hcmp : i + 1 < n
        · have hci : (i : Int) + 1 < (n : Int) := by omega
          have hoF : S8.off = false := by rw [hO]; simp; omega
          rw [if_pos hcmp]
          clear hO
          go_wp2_with fail
          refine (off_any F8 p S8 w8 H8.out.1).mono ?_
          rintro e w9 ⟨rfl, rfl⟩
          rw [hoF]
          go_wp2
          go_roundw
          case rel => exact ⟨i + 1, by omega, by go_num, S8, F8, H8.out⟩
          case measure => simp [intOf]; omega
        · have hci : ¬ (i : Int) + 1 < (n : Int) := by omega
          have hci2 : (n : Int) ≤ (i : Int) + 1 := by omega
          have hoF : S8.off = true := by rw [hO]; simp; omega
          rw [if_neg hcmp]
          clear hO
          go_wp2_with fail
          refine (off_any F8 p S8 w8 H8.out.1).mono ?_
          rintro e w9 ⟨rfl, rfl⟩
          rw [hoF]
          go_wp2
          go_roundw
          case rel => exact ⟨i + 1, by omega, by go_num, S8, F8, H8.out⟩
          case measure => simp [intOf]; omega
    · have hie : i = l.length := by omega
      subst hie
      have H6 : Hid (Dk wr F6 p S6 ∧ (Chg (fun _ => False) w wr ∧ ∀ b, F6 b → w.heap.size ≤ b)) := ⟨h6, c6⟩
      clear h6 c6 HL
      rcases A6.st with ⟨hlt6, ho6, _, hw6⟩ | ⟨hge6, ho6, hw6⟩
      · have hcl : ¬ (n : Int) ≤ (l.length : Int) := by omega
        go_wp2_with fail
        refine (writes_any F6 p S6 wr H6.out.1).mono ?_
        rintro e w9 ⟨rfl, rfl⟩
        rw [hw6]
        go_wp2_with fail
        refine (off_any F6 p S6 w9 H6.out.1).mono ?_
        rintro e w10 ⟨rfl, rfl⟩
        rw [ho6]
        go_wp2_with fail
        have T := arms_tail H6.out.1 H6.out.2 A6.nb (W := l.length) hw6 (by omega)
        have H8 : Hid (Dk w10 F6 p S6 ∧ (Chg (fun _ => False) w w10 ∧ ∀ b, F6 b → w.heap.size ≤ b)) := H6
        have e9 : ((l.length + 1 : Nat) : Int) = (l.length : Int) + 1 := by omega
        clear H6 A6
        refine (on_any F6 p S6 w10 H8.out.1).mono ?_
        rintro e w11 ⟨rfl, d11, c11⟩
        obtain ⟨F11, d11', c11'⟩ := step_next H8.out.2 (To.own H8.out.1.fp d11 c11)
        have H11 : Hid (Dk w11 F11 p S6.on ∧ (Chg (fun _ => False) w w11 ∧ ∀ b, F11 b → w.heap.size ≤ b)) := ⟨d11', c11'⟩
        clear H8 d11 c11 d11' c11'
        go_wp2_with fail
        refine (full_any (.slice none 0 0) [] w11 (.inl ⟨rfl, rfl⟩) (by simp)).mono ?_
        rintro e w12 ⟨u12, rfl, fr⟩
        obtain ⟨ub, ud, rfl, hu⟩ := fr.form
        have H12 : Hid (Dk w12 F11 p S6.on ∧ Bs w12 (.slice ub 512 ud) (full []) ∧ (∀ g, (Value.slice ub 512 ud).ownBlock = some g → ¬ F11 g) ∧ (Chg (fun _ => False) w w12 ∧ ∀ b, F11 b → w.heap.size ≤ b)) :=
          ⟨H11.out.1.kept fr.chg (fun _ _ h => h), fr.bs, Bs.off H11.out.1 (Chg.refl _ _) fr, ⟨H11.out.2.1.trans fr.chg (fun _ _ h => h), H11.out.2.2⟩⟩
        clear fr H11
        go_wp2_with fail
        refine (write_any F11 p S6.on 0 _ (full []) w12 H12.out.1 H12.out.2.1 H12.out.2.2.1 T.2.2.2.1).mono ?_
        rintro e w13 ⟨rfl, h13⟩
        rw [T.1]
        obtain ⟨F13, d13, c13⟩ := step_next H12.out.2.2.2 h13
        have H13 : Hid (Dk w13 F13 p (S6.on.write 0 (full [])) ∧ (Chg (fun _ => False) w w13 ∧ ∀ b, F13 b → w.heap.size ≤ b)) := ⟨d13, c13⟩
        clear h13 d13 c13 H12 hu
        go_wp2_with fail
        refine (writes_any F13 p (S6.on.write 0 (full [])) w13 H13.out.1).mono ?_
        rintro e w14 ⟨rfl, rfl⟩
        rw [T.2.1, e9]
        go_wp2_with fail
        refine (sync_any F13 p (S6.on.write 0 (full [])) w14 H13.out.1 T.2.2.2.2).mono ?_
        rintro e w15 ⟨rfl, h15⟩
        rw [T.2.2.1]
        obtain ⟨F15, d15, c15⟩ := step_next H13.out.2 h15
        clear h15 d15 H13
        go_wp2
        go_ret
        exact ⟨rfl, c15.1⟩
      · have hcl : (n : Int) ≤ (l.length : Int) := by omega
        have e8 : ((n - 1 : Nat) : Int) = (n : Int) - 1 := by omega
        go_wp2_with fail
        refine (writes_any F6 p S6 wr H6.out.1).mono ?_
        rintro e w9 ⟨rfl, rfl⟩
        rw [hw6, e8]
        go_wp2_with fail
        refine (off_any F6 p S6 w9 H6.out.1).mono ?_
        rintro e w10 ⟨rfl, rfl⟩
        rw [ho6]
        go_wp2_with fail
        have hE6 : S6.syncE = 6 := by unfold St.syncE; rw [if_pos ho6]
        have hS6 : S6.sync = S6 := by unfold St.sync; rw [if_pos ho6]
        refine (sync_any F6 p S6 w10 H6.out.1 (by omega)).mono ?_
        rintro e w7 ⟨rfl, h7⟩
        rw [hE6]
        rw [hS6] at h7
        obtain ⟨F7, d7, c7⟩ := step_next H6.out.2 h7
        have H8 : Hid (Dk w7 F7 p S6 ∧ (Chg (fun _ => False) w w7 ∧ ∀ b, F7 b → w.heap.size ≤ b)) := ⟨d7, c7⟩
        have T := arms_tail d7 c7 A6.nb (W := n - 1) hw6 (by omega)
        have e9 : ((n - 1 + 1 : Nat) : Int) = (n : Int) := by omega
        clear H6 h7 d7 c7 hE6 hS6 A6
        go_wp2_with fail
        refine (on_any F7 p S6 w7 H8.out.1).mono ?_
        rintro e w11 ⟨rfl, d11, c11⟩
        obtain ⟨F11, d11', c11'⟩ := step_next H8.out.2 (To.own H8.out.1.fp d11 c11)
        have H11 : Hid (Dk w11 F11 p S6.on ∧ (Chg (fun _ => False) w w11 ∧ ∀ b, F11 b → w.heap.size ≤ b)) := ⟨d11', c11'⟩
        clear H8 d11 c11 d11' c11'
        go_wp2_with fail
        refine (full_any (.slice none 0 0) [] w11 (.inl ⟨rfl, rfl⟩) (by simp)).mono ?_
        rintro e w12 ⟨u12, rfl, fr⟩
        obtain ⟨ub, ud, rfl, hu⟩ := fr.form
        have H12 : Hid (Dk w12 F11 p S6.on ∧ Bs w12 (.slice ub 512 ud) (full []) ∧ (∀ g, (Value.slice ub 512 ud).ownBlock = some g → ¬ F11 g) ∧ (Chg (fun _ => False) w w12 ∧ ∀ b, F11 b → w.heap.size ≤ b)) :=
          ⟨H11.out.1.kept fr.chg (fun _ _ h => h), fr.bs, Bs.off H11.out.1 (Chg.refl _ _) fr, ⟨H11.out.2.1.trans fr.chg (fun _ _ h => h), H11.out.2.2⟩⟩
        clear fr H11
        go_wp2_with fail
        refine (write_any F11 p S6.on 0 _ (full []) w12 H12.out.1 H12.out.2.1 H12.out.2.2.1 T.2.2.2.1).mono ?_
        rintro e w13 ⟨rfl, h13⟩
        rw [T.1]
        obtain ⟨F13, d13, c13⟩ := step_next H12.out.2.2.2 h13
        have H13 : Hid (Dk w13 F13 p (S6.on.write 0 (full [])) ∧ (Chg (fun _ => False) w w13 ∧ ∀ b, F13 b → w.heap.size ≤ b)) := ⟨d13, c13⟩
        clear h13 d13 c13 H12 hu
        go_wp2_with fail
        refine (writes_any F13 p (S6.on.write 0 (full [])) w13 H13.out.1).mono ?_
        rintro e w14 ⟨rfl, rfl⟩
        rw [T.2.1, e9]
        go_wp2_with fail
        refine (sync_any F13 p (S6.on.write 0 (full [])) w14 H13.out.1 T.2.2.2.2).mono ?_
        rintro e w15 ⟨rfl, h15⟩
        rw [T.2.2.1]
        obtain ⟨F15, d15, c15⟩ := step_next H13.out.2 h15
        clear h15 d15 H13
        go_wp2
        go_ret
        exact ⟨rfl, c15.1⟩

set_option maxHeartbeats 800000 in
set_option maxRecDepth 100000 in
theorem arms_out1 (n : Int) (la : Option Addr) (lc : Nat) (pv : Value) (L : Nat) (w : World) (k1 : decide ((60 : Int) < (L : Int)) = true) :
    Calls Try.prog 6 #[.int .i64 n, .slice la L lc, pv] w fun e w' => e = .returned (.bool true) ∧ Chg (fun _ => False) w w' := by
  go_enter Try.func6, Try.ntmps6
  go_wp2_with fail
  refine (known_any w).mono ?_
  rintro e w1 ⟨rfl, c1⟩
  go_wp2
  go_ret
  exact ⟨rfl, c1⟩
set_option maxHeartbeats 800000 in
set_option maxRecDepth 100000 in
theorem arms_out2 (n : Int) (la : Option Addr) (lc : Nat) (pv : Value) (L : Nat) (w : World) (k1 : decide ((60 : Int) < (L : Int)) = false) (k2 : decide (n < 1) = true) :
    Calls Try.prog 6 #[.int .i64 n, .slice la L lc, pv] w fun e w' => e = .returned (.bool true) ∧ Chg (fun _ => False) w w' := by
  go_enter Try.func6, Try.ntmps6
  go_wp2_with fail
  refine (known_any w).mono ?_
  rintro e w1 ⟨rfl, c1⟩
  go_wp2
  go_ret
  exact ⟨rfl, c1⟩
set_option maxHeartbeats 800000 in
set_option maxRecDepth 100000 in
theorem arms_out3 (n : Int) (la : Option Addr) (lc : Nat) (pv : Value) (L : Nat) (w : World) (k1 : decide ((60 : Int) < (L : Int)) = false) (k2 : decide (n < 1) = false) (k3 : decide (100 < n) = true) :
    Calls Try.prog 6 #[.int .i64 n, .slice la L lc, pv] w fun e w' => e = .returned (.bool true) ∧ Chg (fun _ => False) w w' := by
  go_enter Try.func6, Try.ntmps6
  go_wp2_with fail
  refine (known_any w).mono ?_
  rintro e w1 ⟨rfl, c1⟩
  go_wp2
  go_ret
  exact ⟨rfl, c1⟩
set_option maxHeartbeats 800000 in
set_option maxRecDepth 100000 in
theorem arms_out4 (n : Int) (la : Option Addr) (lc : Nat) (pa : Option Addr) (pc : Nat) (L Lp : Nat) (w : World) (k1 : decide ((60 : Int) < (L : Int)) = false) (k2 : decide (n < 1) = false) (k3 : decide (100 < n) = false) (k4 : decide ((50 : Int) < (Lp : Int)) = true) :
    Calls Try.prog 6 #[.int .i64 n, .slice la L lc, (.slice pa Lp pc)] w fun e w' => e = .returned (.bool true) ∧ Chg (fun _ => False) w w' := by
  go_enter Try.func6, Try.ntmps6
  go_wp2_with fail
  refine (known_any w).mono ?_
  rintro e w1 ⟨rfl, c1⟩
  go_wp2
  go_ret
  exact ⟨rfl, c1⟩

theorem law_arms (n : Int) (lv pv : Value) (l : List (Value × List Int)) (ps : List Int) (w : World) (hl : Bss w lv l) (hp : Is w pv ps) :
    Calls Try.prog 6 #[.int .i64 n, lv, pv] w fun e w' => e = .returned (.bool true) ∧ Chg (fun _ => False) w w' := by
  by_cases h1 : 60 < l.length
  · obtain ⟨la, lc, rfl⟩ := hl.form
    have k1 : decide ((60 : Int) < (l.length : Int)) = true := by simp; omega
    clear hl hp
    exact arms_out1 n la lc pv l.length w k1
  by_cases h2 : n < 1
  · obtain ⟨la, lc, rfl⟩ := hl.form
    exact arms_out2 n la lc pv l.length w (by simp; omega) (by simpa using h2)
  by_cases h3 : 100 < n
  · obtain ⟨la, lc, rfl⟩ := hl.form
    exact arms_out3 n la lc pv l.length w (by simp; omega) (by simpa using h2) (by simpa using h3)
  by_cases h4 : 50 < ps.length
  · obtain ⟨la, lc, rfl⟩ := hl.form
    obtain ⟨pa, pc, rfl, _⟩ := hp.form
    exact arms_out4 n la lc pa pc l.length ps.length w (by simp; omega) (by simpa using h2) (by simpa using h3) (by simp; omega)
  obtain ⟨k, rfl⟩ := Int.eq_ofNat_of_zero_le (show 0 ≤ n by omega)
  exact arms_loop k lv pv l ps w hl hp (by omega) (by omega) (by omega) (by omega)
end Go.Proofs.Ytkafpnjimdhakaa
