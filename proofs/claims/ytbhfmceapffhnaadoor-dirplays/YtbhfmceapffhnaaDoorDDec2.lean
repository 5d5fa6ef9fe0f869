/-
  Decode of package dir.
-/
import Derived.Test.YtbhfmceapffhnaaDoorDDec
namespace Go.Proofs.YtbhfmceapffhnaaDoor
open Go.RowKit

/-- The load of an array of 64 bytes, under a name that the walk leaves shut. -/
def loadA (p : Value) : Sem Value := Instr.loadAt 87 p
theorem loadA_eq (p : Value) : Instr.loadAt 87 p = loadA p := rfl
attribute [local go_sem ↓] loadA_eq
/-- Arrays compared. -/
def eqlA (x y : Value) : Sem Value := binOp BinOp.eql 87 x y
theorem eqlA_eq (x y : Value) : binOp BinOp.eql 87 x y = eqlA x y := rfl
attribute [local go_sem ↓] eqlA_eq
theorem equal_any (u v : Value) (xs ys : List Int) (b : Bool) (w : World) (hu : Bs w u xs) (hv : Bs w v ys) (hx : IsB xs) (hy : IsB ys) (hb : decide (xs = ys) = b) :
    Calls Tryd.prog 53 #[u, v] w fun e w' => e = .returned (.bool b) ∧ w' = w := by
  have s1 := run_strC hu
  have s2 := run_strC hv
  by_cases h : xs = ys
  · subst h
    obtain rfl : true = b := by rw [← hb]; simp
    obtain ⟨t, ht⟩ : ∃ t, strC xs = t := ⟨_, rfl⟩
    rw [ht] at s1 s2
    clear ht hu hv hb
    go_enter Tryd.func53, Tryd.ntmps53
    go_wp2
    go_ret
    exact ⟨by simp, rfl⟩
  · obtain rfl : false = b := by rw [← hb]; simp [h]
    have k := strC_ne xs ys hx hy h
    obtain ⟨t, ht⟩ : ∃ t, strC xs = t := ⟨_, rfl⟩
    obtain ⟨t', ht'⟩ : ∃ t, strC ys = t := ⟨_, rfl⟩
    rw [ht] at s1 k
    rw [ht'] at s2 k
    clear ht ht' hu hv hb
    go_enter Tryd.func53, Tryd.ntmps53
    go_wp2
    go_ret
    exact ⟨by simp, rfl⟩

/-- The entry that 64 bytes lay. -/
def takX (bs : List Int) : En := takE (bs.take 1) ((bs.drop 2).take 2) ((bs.drop 4).take 56)
/-- Is it what Encode lays of an entry that may be? -/
def okX (bs : List Int) : Bool := nameB (takX bs).nm && decide (1 ≤ (takX bs).ino ∧ (takX bs).ino ≤ 65535) && decide (encB (takX bs) = bs)
/-- What Decode answers: an error's number .. -/
def decE (bs : List Int) : Int := if bs.length < 64 then 2 else if 64 < bs.length then 5 else if bs = zeros 64 then 0 else if openE bs ≠ 0 then openE bs else if okX bs then 0 else 3
/-- .. and an entry. -/
def decV (bs : List Int) : En := if decE bs = 0 ∧ bs ≠ zeros 64 then takX bs else En.fr
theorem str_le (xs : List Int) : (strC xs).size = xs.length := by
  have := strC_list xs
  have h := congrArg List.length this
  simpa using h
theorem takX_nm (bs : List Int) : (takX bs).nm.size ≤ 56 := by
  unfold takX takE
  rw [str_le, List.length_take, List.length_take]
  omega
theorem split4 (bs : List Int) (h : bs.length = 60) : bs = bs.take 1 ++ ((bs.drop 1).take 1 ++ ((bs.drop 2).take 2 ++ (bs.drop 4).take 56)) := by
  have e4 : (bs.drop 4).take 56 = bs.drop 4 := List.take_of_length_le (by rw [List.length_drop]; omega)
  rw [e4]
  have e3 : (bs.drop 2).take 2 ++ bs.drop 4 = bs.drop 2 := by
    have := List.take_append_drop 2 (bs.drop 2)
    rw [List.drop_drop] at this
    exact this
  rw [e3]
  have e2 : (bs.drop 1).take 1 ++ bs.drop 2 = bs.drop 1 := by
    have := List.take_append_drop 1 (bs.drop 1)
    rw [List.drop_drop] at this
    exact this
  rw [e2]
  exact (List.take_append_drop 1 bs).symm

set_option maxHeartbeats 3200000 in
set_option maxRecDepth 100000 in
theorem decode_any (v : Value) (bs : List Int) (w : World) (hT : Tab w) (hb : Bs w v bs) (hB : IsB bs) (hl : bs.length ≤ 100000) :
    Calls Tryd.prog 31 #[v] w fun e w' => e = .returned (.tuple #[(decV bs).v, .int .i64 (decE bs)]) ∧ Below w.heap.size w w' := by
  obtain ⟨va, vc, rfl, hvc⟩ := hb.formC
  have NN : ∀ o, Below w.heap.size w (w.alloc o) := fun o => (Below.refl _ _).alloc (Nat.le_refl _) _
  have B0 := NN (.cells #[.string ⟨#[]⟩, .int .i64 0] 57)
  have E0 : EnB (w.alloc (.cells #[.string ⟨#[]⟩, .int .i64 0] 57)) w.heap.size En.fr := heap_alloc_new w _
  have fin : ∀ (w1 : World) (x y : En), EnB w1 w.heap.size x → Below w.heap.size w w1 → Hid (EnB ((w1.setCell ⟨w.heap.size, 0, none⟩ (.string y.nm)).setCell ⟨w.heap.size, 1, none⟩ (.int .i64 y.ino)) w.heap.size y ∧ Below w.heap.size w ((w1.setCell ⟨w.heap.size, 0, none⟩ (.string y.nm)).setCell ⟨w.heap.size, 1, none⟩ (.int .i64 y.ino))) := fun w1 x y h hb => ⟨h.put y, hb.trans (chg_two.below hb.size (fun k hk => by omega))⟩
  clear NN
  generalize hw0 : w.alloc (.cells #[.string ⟨#[]⟩, .int .i64 0] 57) = w0 at *
  have a0 := E0.c0
  have a1 := E0.c1
  have z0 := E0.fr 0
  have z1 := E0.fr 1
  go_enter Tryd.func31, Tryd.ntmps31
  by_cases h1 : bs.length < 64
  · have H := fin w0 _ En.fr E0 B0
    have R1 : Hid (decE bs = 2 ∧ decV bs = En.fr) := by
      have : decE bs = 2 := by unfold decE; rw [if_pos h1]
      exact ⟨this, by unfold decV; rw [if_neg (by rw [this]; omega)]⟩
    have g1 : (bs.length : Int) < 64 := by omega
    clear fin
    go_wp2_with fail
    generalize (w0.setCell ⟨w.heap.size, 0, none⟩ (.string ⟨#[]⟩)).setCell ⟨w.heap.size, 1, none⟩ (.int .i64 0) = w5 at *
    obtain ⟨E5, B5⟩ := H.out
    have c50 := E5.c0
    have c51 := E5.c1
    refine bodyPost_ret (v := .tuple #[(En.fr : En).v, .int .i64 2]) (by simp [results, Tryd.results31, go_sem, c50, c51]) rfl ⟨?_, B5⟩
    rw [R1.out.1, R1.out.2]
  by_cases h2 : 64 < bs.length
  · have H := fin w0 _ En.fr E0 B0
    have R1 : Hid (decE bs = 5 ∧ decV bs = En.fr) := by
      have : decE bs = 5 := by unfold decE; rw [if_neg h1, if_pos h2]
      exact ⟨this, by unfold decV; rw [if_neg (by rw [this]; omega)]⟩
    have g1 : ¬ ((bs.length : Int) < 64) := by omega
    have g2 : 64 < (bs.length : Int) := by omega
    clear fin
    go_wp2_with fail
    generalize (w0.setCell ⟨w.heap.size, 0, none⟩ (.string ⟨#[]⟩)).setCell ⟨w.heap.size, 1, none⟩ (.int .i64 0) = w5 at *
    obtain ⟨E5, B5⟩ := H.out
    have c50 := E5.c0
    have c51 := E5.c1
    refine bodyPost_ret (v := .tuple #[(En.fr : En).v, .int .i64 5]) (by simp [results, Tryd.results31, go_sem, c50, c51]) rfl ⟨?_, B5⟩
    rw [R1.out.1, R1.out.2]
  have h64 : bs.length = 64 := by omega
  obtain ⟨ad, rfl, hcell⟩ : ∃ ad, va = some ad ∧ ∀ j, j < 64 → w.cell? (ad.add j) = some (.int .u8 (bs.getD j 0)) := by
    rcases hb with ⟨_, e⟩ | ⟨a, c, e, _, _, h⟩
    · rw [e] at h64; simp at h64
    · injection e with e1 e2 e3
      exact ⟨a, e1, fun j hj => h j (by omega)⟩
  have hcell0 : ∀ j, j < 64 → w0.cell? (ad.add j) = some (.int .u8 (bs.getD j 0)) := fun j hj => (Chg.ofBelowC B0).cell (hcell j hj) (fun h => h)
  have hA1 : (Instr.arrayAt 87 (.slice (some ad) 64 vc)).run Tryd.prog w0 = .ok (.pointer (some ad)) w0 := by kernel_rfl
  have hA2 : (loadA (.pointer (some ad))).run Tryd.prog w0 = .ok (.agg (bcells bs).toArray) w0 := loadArr w0 ad bs h64 hcell0
  have hb0 : Bs w0 (.slice (some ad) bs.length vc) bs := hb.under B0
  have hT0 : Tab w0 := fun j hj => (Chg.ofBelowC B0).cell (hT j hj) (fun h => h)
  clear hcell hcell0
  by_cases h3 : bs = zeros 64
  · have H := fin w0 _ En.fr E0 B0
    have R1 : Hid (decE bs = 0 ∧ decV bs = En.fr) := by
      have : decE bs = 0 := by unfold decE; rw [if_neg h1, if_neg h2, if_pos h3]
      exact ⟨this, by unfold decV; rw [if_neg (by intro h; exact h.2 h3)]⟩
    have hA4 : (eqlA (.agg (bcells bs).toArray) (.agg #[.int .u8 0, .int .u8 0, .int .u8 0, .int .u8 0, .int .u8 0, .int .u8 0, .int .u8 0, .int .u8 0, .int .u8 0, .int .u8 0, .int .u8 0, .int .u8 0, .int .u8 0, .int .u8 0, .int .u8 0, .int .u8 0, .int .u8 0, .int .u8 0, .int .u8 0, .int .u8 0, .int .u8 0, .int .u8 0, .int .u8 0, .int .u8 0, .int .u8 0, .int .u8 0, .int .u8 0, .int .u8 0, .int .u8 0, .int .u8 0, .int .u8 0, .int .u8 0, .int .u8 0, .int .u8 0, .int .u8 0, .int .u8 0, .int .u8 0, .int .u8 0, .int .u8 0, .int .u8 0, .int .u8 0, .int .u8 0, .int .u8 0, .int .u8 0, .int .u8 0, .int .u8 0, .int .u8 0, .int .u8 0, .int .u8 0, .int .u8 0, .int .u8 0, .int .u8 0, .int .u8 0, .int .u8 0, .int .u8 0, .int .u8 0, .int .u8 0, .int .u8 0, .int .u8 0, .int .u8 0, .int .u8 0, .int .u8 0, .int .u8 0, .int .u8 0])).run Tryd.prog w0 = .ok (.bool true) w0 := eqlArr bs (zeros 64) w0 h64 (zeros_len 64) true (by simp [h3])
    rw [h64]
    clear fin hb hb0 R1
    have R1 : Hid (decE bs = 0 ∧ decV bs = En.fr) := by
      have : decE bs = 0 := by unfold decE; rw [if_neg h1, if_neg h2, if_pos h3]
      exact ⟨this, by unfold decV; rw [if_neg (by intro h; exact h.2 h3)]⟩
    clear h3 h1 h2
    generalize (bcells bs).toArray = BB at *
    go_wp2_with fail
    generalize (w0.setCell ⟨w.heap.size, 0, none⟩ (.string ⟨#[]⟩)).setCell ⟨w.heap.size, 1, none⟩ (.int .i64 0) = w5 at *
    obtain ⟨E5, B5⟩ := H.out
    have c50 := E5.c0
    have c51 := E5.c1
    refine bodyPost_ret (v := .tuple #[(En.fr : En).v, .int .i64 0]) (by simp [results, Tryd.results31, go_sem, c50, c51]) rfl ⟨?_, B5⟩
    rw [R1.out.1, R1.out.2]
  have hA4 : (eqlA (.agg (bcells bs).toArray) (.agg #[.int .u8 0, .int .u8 0, .int .u8 0, .int .u8 0, .int .u8 0, .int .u8 0, .int .u8 0, .int .u8 0, .int .u8 0, .int .u8 0, .int .u8 0, .int .u8 0, .int .u8 0, .int .u8 0, .int .u8 0, .int .u8 0, .int .u8 0, .int .u8 0, .int .u8 0, .int .u8 0, .int .u8 0, .int .u8 0, .int .u8 0, .int .u8 0, .int .u8 0, .int .u8 0, .int .u8 0, .int .u8 0, .int .u8 0, .int .u8 0, .int .u8 0, .int .u8 0, .int .u8 0, .int .u8 0, .int .u8 0, .int .u8 0, .int .u8 0, .int .u8 0, .int .u8 0, .int .u8 0, .int .u8 0, .int .u8 0, .int .u8 0, .int .u8 0, .int .u8 0, .int .u8 0, .int .u8 0, .int .u8 0, .int .u8 0, .int .u8 0, .int .u8 0, .int .u8 0, .int .u8 0, .int .u8 0, .int .u8 0, .int .u8 0, .int .u8 0, .int .u8 0, .int .u8 0, .int .u8 0, .int .u8 0, .int .u8 0, .int .u8 0, .int .u8 0])).run Tryd.prog w0 = .ok (.bool false) w0 := eqlArr bs (zeros 64) w0 h64 (zeros_len 64) false (by simp [h3])
  generalize hBB : (bcells bs).toArray = BB at *
  have hOP := open_any w0.heap.size (.slice (some ad) bs.length vc) bs w0 hb0 hB hT0 (Nat.le_refl _) (by omega)
  by_cases h4 : openE bs ≠ 0
  · have R1 : Hid (decE bs = openE bs ∧ decV bs = En.fr) := by
      have : decE bs = openE bs := by unfold decE; rw [if_neg h1, if_neg h2, if_neg h3, if_pos h4]
      exact ⟨this, by unfold decV; rw [if_neg (by rw [this]; intro h; exact h4 h.1)]⟩
    have h4' : ¬ openE bs = 0 := h4
    generalize openE bs = oe at *
    generalize openV bs = ov at *
    rw [h64] at hOP ⊢
    clear hb hb0 hBB h3 h4
    go_wp2_with fail
    refine hOP.mono ?_
    rintro e w1 ⟨u1, rfl, h5⟩
    have B1 : Below w.heap.size w w1 := B0.trans (h5.2.1.below B0.size (fun _ h => h.elim))
    have E1 := E0.kept h5.2.1 (fun h => h)
    have H := fin w1 _ En.fr E1 B1
    have a10 := E1.c0
    have a11 := E1.c1
    have z10 := E1.fr 0
    have z11 := E1.fr 1
    clear fin hOP h5 hA1 hA2 hA4
    go_wp2_with fail
    generalize (w1.setCell ⟨w.heap.size, 0, none⟩ (.string ⟨#[]⟩)).setCell ⟨w.heap.size, 1, none⟩ (.int .i64 0) = w5 at *
    obtain ⟨E5, B5⟩ := H.out
    have c50 := E5.c0
    have c51 := E5.c1
    refine bodyPost_ret (v := .tuple #[(En.fr : En).v, .int .i64 oe]) (by simp [results, Tryd.results31, go_sem, c50, c51]) rfl ⟨?_, B5⟩
    rw [R1.out.1, R1.out.2]
  have h4' : openE bs = 0 := by omega
  have hov : openV bs = bs.take 60 := by unfold openV; rw [if_pos h4', h64]
  have hbl : (bs.take 60).length = 60 := by rw [List.length_take]; omega
  have hsp := split4 (bs.take 60) hbl
  have hX : takE ((bs.take 60).take 1) (((bs.take 60).drop 2).take 2) (((bs.take 60).drop 4).take 56) = takX bs := by
    unfold takX
    congr 1
    · rw [List.take_take]; rfl
    · rw [List.drop_take, List.take_take]; rfl
    · rw [List.drop_take, List.take_take]; rfl
  have hBt : IsB (bs.take 60) := hB.take 60
  have hnm := takX_nm bs
  have hENC := fun w' (ht : Tab w') => encode_any (takX bs) w'.heap.size w' ht (Nat.le_refl _) (by omega)
  rw [h4', hov] at hOP
  have hdE : Hid (decE bs = if okX bs then 0 else 3) := by unfold decE; rw [Hid, if_neg h1, if_neg h2, if_neg h3, if_neg h4]
  have hdV : Hid (decV bs = if decE bs = 0 then takX bs else En.fr) := by
    unfold decV
    by_cases h : decE bs = 0
    · rw [Hid, if_pos ⟨h, h3⟩, if_pos h]
    · rw [Hid, if_neg (fun q => h q.1), if_neg h]
  have hok : okX bs = (nameB (takX bs).nm && decide (1 ≤ (takX bs).ino ∧ (takX bs).ino ≤ 65535) && decide (encB (takX bs) = bs)) := rfl
  generalize hx : takX bs = x at *
  generalize okX bs = ok at *
  clear h1 h2 h4 hov hx hBB
  rw [h64] at hOP ⊢
  go_wp2_with fail
  refine hOP.mono ?_
  rintro e w1 ⟨u1, rfl, h5⟩
  have B1 : Below w.heap.size w w1 := B0.trans (h5.2.1.below B0.size (fun _ h => h.elim))
  have E1 := E0.kept h5.2.1 (fun h => h)
  have bu1 := Bs.ofOwns h5.1
  have hsz1 := h5.2.1.size
  clear hOP h5 hA1 hA2 hA4 hb0 a0 a1 z0 z1
  go_wp2_with fail
  refine (newReader_any w1.heap.size u1 (bs.take 60) _ bu1 (by omega) (Nat.le_refl _)).mono ?_
  rintro e w2 ⟨p, v2, rfl, r2, c2, hp⟩
  have B2 : Below w.heap.size w w2 := B1.trans (c2.below B1.size (fun _ h => h.elim))
  have E2 := E1.kept c2 (fun h => h)
  have r2' : RdS p w2 p v2 ⟨bs.take 60, 0⟩ := ⟨Nat.le_refl _, r2.blk, r2.bs, r2.ne, r2.nil⟩
  clear bu1 r2 c2 E1
  go_wp2_with fail
  have hTK : Calls Tryd.prog 51 #[.pointer (some ⟨p, 0, none⟩)] w2 fun e w' => e = .returned x.v ∧ Below p w2 w' := by
    rw [hsp] at r2' hBt
    rw [← hX]
    exact take_en p v2 _ _ _ _ w2 r2' hBt (by rw [List.length_take]; omega) (by rw [List.length_take, List.length_drop]; omega) (by rw [List.length_take, List.length_drop]; omega) (by rw [List.length_take, List.length_drop]; omega)
  clear hX hsp hBt hbl r2'
  refine hTK.mono ?_
  rintro e w3 ⟨rfl, C3⟩
  have hpw : w.heap.size ≤ p := Nat.le_trans B1.size hp
  have B3 : Below w.heap.size w w3 := B2.trans (C3.mono hpw)
  have E3 : EnB w3 w.heap.size En.fr := (C3.block _ (by have := E0.lt; omega)).trans E2
  have b3 : Bs w3 (.slice (some ad) 64 vc) bs := by
    have := hb.under B3
    rw [h64] at this
    exact this
  have hT3 : Tab w3 := fun j hj => (Chg.ofBelowC B3).cell (hT j hj) (fun h => h)
  clear hTK C3 E2 hb B2
  have B4 := B3.alloc B3.size (.cells #[.string x.nm, .int .i64 x.ino] 57)
  have E4 := E3.kept (Chg.alloc (fun _ => False) w3 (.cells #[.string x.nm, .int .i64 x.ino] 57)) (fun h => h)
  have S4 : EnB (w3.alloc (.cells #[.string x.nm, .int .i64 x.ino] 57)) w3.heap.size x := heap_alloc_new w3 _
  have b4 : Bs (w3.alloc (.cells #[.string x.nm, .int .i64 x.ino] 57)) (.slice (some ad) 64 vc) bs := b3.under ((Below.refl _ _).alloc (Nat.le_refl _) _)
  have hT4 : Tab (w3.alloc (.cells #[.string x.nm, .int .i64 x.ino] 57)) := fun j hj => (Chg.alloc (fun _ => False) w3 _).cell (hT3 j hj) (fun h => h)
  clear E3 b3 hT3 B3
  go_wp2_with fail
  generalize w3.alloc (.cells #[.string x.nm, .int .i64 x.ino] 57) = w4 at *
  have a40 := E4.c0
  have a41 := E4.c1
  have z40 := E4.fr 0
  have z41 := E4.fr 1
  have s40 := S4.c0
  have s41 := S4.c1
  generalize w3.heap.size = q at *
  have bad : ∀ (w7 : World), EnB w7 w.heap.size En.fr → Below w.heap.size w w7 → ok = false → Hid (decE bs = 3 ∧ decV bs = En.fr) ∧ Hid (EnB ((w7.setCell ⟨w.heap.size, 0, none⟩ (.string ⟨#[]⟩)).setCell ⟨w.heap.size, 1, none⟩ (.int .i64 0)) w.heap.size En.fr ∧ Below w.heap.size w ((w7.setCell ⟨w.heap.size, 0, none⟩ (.string ⟨#[]⟩)).setCell ⟨w.heap.size, 1, none⟩ (.int .i64 0))) := by
    intro w7 h7 hb7 e
    have d3 : decE bs = 3 := by rw [hdE.out, e]; rfl
    exact ⟨⟨d3, by rw [hdV.out, if_neg (by rw [d3]; omega)]⟩, fin w7 _ En.fr h7 hb7⟩
  cases n1 : nameB x.nm with
  | false =>
    obtain ⟨R1, H⟩ := bad w4 E4 B4 (by rw [hok, n1]; rfl)
    have N1 : Hid (nameB x.nm = false) := n1
    clear bad fin n1
    go_wp2_with fail
    refine (name_any x.nm false _ N1).mono ?_
    rintro e w7 ⟨rfl, rfl⟩
    go_wp2_with fail
    generalize (w7.setCell ⟨w.heap.size, 0, none⟩ (.string ⟨#[]⟩)).setCell ⟨w.heap.size, 1, none⟩ (.int .i64 0) = w5 at *
    obtain ⟨E5, B5⟩ := H.out
    have c50 := E5.c0
    have c51 := E5.c1
    refine bodyPost_ret (v := .tuple #[(En.fr : En).v, .int .i64 3]) (by simp [results, Tryd.results31, go_sem, c50, c51]) rfl ⟨?_, B5⟩
    rw [R1.out.1, R1.out.2]
  | true =>
    have N1 : Hid (nameB x.nm = true) := n1
    cases n2 : decide (1 ≤ x.ino ∧ x.ino ≤ 65535) with
    | false =>
      obtain ⟨R1, H⟩ := bad w4 E4 B4 (by rw [hok, n1, n2]; rfl)
      have N2 : Hid (decide (1 ≤ x.ino ∧ x.ino ≤ 65535) = false) := n2
      clear bad fin n1 n2
      go_wp2_with fail
      refine (name_any x.nm true _ N1).mono ?_
      rintro e w7 ⟨rfl, rfl⟩
      go_wp2_with fail
      refine (fits_any x.ino false _ N2).mono ?_
      rintro e w7 ⟨rfl, rfl⟩
      go_wp2_with fail
      generalize (w7.setCell ⟨w.heap.size, 0, none⟩ (.string ⟨#[]⟩)).setCell ⟨w.heap.size, 1, none⟩ (.int .i64 0) = w5 at *
      obtain ⟨E5, B5⟩ := H.out
      have c50 := E5.c0
      have c51 := E5.c1
      refine bodyPost_ret (v := .tuple #[(En.fr : En).v, .int .i64 3]) (by simp [results, Tryd.results31, go_sem, c50, c51]) rfl ⟨?_, B5⟩
      rw [R1.out.1, R1.out.2]
    | true =>
      have N2 : Hid (decide (1 ≤ x.ino ∧ x.ino ≤ 65535) = true) := n2
      go_wp2_with fail
      refine (name_any x.nm true _ N1).mono ?_
      rintro e w7 ⟨rfl, rfl⟩
      go_wp2_with fail
      refine (fits_any x.ino true _ N2).mono ?_
      rintro e w7 ⟨rfl, rfl⟩
      go_wp2_with fail
      refine (hENC _ hT4).mono ?_
      rintro e w8 ⟨y, rfl, h8⟩
      have B8 := B4.trans (h8.2.1.below B4.size (fun _ h => h.elim))
      have E8 := E4.kept h8.2.1 (fun h => h)
      have S8 := S4.kept h8.2.1 (fun h => h)
      have b8 := b4.under (h8.2.1.below (Nat.le_refl _) (fun _ h => h.elim))
      have y8 := Bs.ofOwns h8.1
      have hBx := encB_isB x
      have a80 := E8.c0
      have a81 := E8.c1
      have z80 := E8.fr 0
      have z81 := E8.fr 1
      have s80 := S8.c0
      have s81 := S8.c1
      cases n3 : decide (encB x = bs) with
      | false =>
        obtain ⟨R1, H⟩ := bad w8 E8 B8 (by rw [hok, n1, n2, n3]; rfl)
        have EQ := equal_any y (.slice (some ad) 64 vc) (encB x) bs false w8 y8 b8 hBx hB n3
        clear bad fin n1 n2 n3 hok hENC h8 y8 b8 b4 hBx
        go_wp2_with fail
        refine EQ.mono ?_
        rintro e w9 ⟨rfl, rfl⟩
        go_wp2_with fail
        generalize (w9.setCell ⟨w.heap.size, 0, none⟩ (.string ⟨#[]⟩)).setCell ⟨w.heap.size, 1, none⟩ (.int .i64 0) = w5 at *
        obtain ⟨E5, B5⟩ := H.out
        have c50 := E5.c0
        have c51 := E5.c1
        refine bodyPost_ret (v := .tuple #[(En.fr : En).v, .int .i64 3]) (by simp [results, Tryd.results31, go_sem, c50, c51]) rfl ⟨?_, B5⟩
        rw [R1.out.1, R1.out.2]
      | true =>
        have d0 : decE bs = 0 := by rw [hdE.out, hok, n1, n2, n3]; rfl
        have R1 : Hid (decE bs = 0 ∧ decV bs = x) := ⟨d0, by rw [hdV.out, if_pos d0]⟩
        have H := fin w8 _ x E8 B8
        have EQ := equal_any y (.slice (some ad) 64 vc) (encB x) bs true w8 y8 b8 hBx hB n3
        clear bad fin n1 n2 n3 hok hENC h8 y8 b8 b4 hBx d0
        go_wp2_with fail
        refine EQ.mono ?_
        rintro e w9 ⟨rfl, rfl⟩
        go_wp2_with fail
        generalize (w9.setCell ⟨w.heap.size, 0, none⟩ (.string x.nm)).setCell ⟨w.heap.size, 1, none⟩ (.int .i64 x.ino) = w5 at *
        obtain ⟨E5, B5⟩ := H.out
        have c50 := E5.c0
        have c51 := E5.c1
        refine bodyPost_ret (v := .tuple #[(x : En).v, .int .i64 0]) (by simp [results, Tryd.results31, go_sem, c50, c51]) rfl ⟨?_, B5⟩
        rw [R1.out.1, R1.out.2]
end Go.Proofs.YtbhfmceapffhnaaDoor
