/-
  Bytes of package dir.
-/
import Derived.Test.YtdcmkcplklkfmaaDoorDCopy
import Derived.Deep.RegionHeld
namespace Go.Proofs.YtdcmkcplklkfmaaDoor
open Go.RowKit
attribute [local go_sem ↓] copyG_eq

/-- A slot's bytes. -/
def slotB (e : En) : List Int := if 1 ≤ e.nm.size then encB e else zeros 64
theorem slotB_len (e : En) : (slotB e).length = 64 := by
  unfold slotB; split
  · exact encB_len e
  · exact zeros_len 64
/-- All slots' bytes, up to a whole block. -/
def bytesL (es : List En) : List Int := es.flatMap slotB ++ zeros (sizeS es.length - 64 * es.length)
theorem flat_len (es : List En) : (es.flatMap slotB).length = 64 * es.length := by
  induction es with
  | nil => rfl
  | cons e es ih => rw [List.flatMap_cons, List.length_append, ih, slotB_len, List.length_cons]; omega
theorem sizeS_le (n : Nat) : 64 * n ≤ sizeS n := by unfold sizeS; omega
theorem bytesL_len (es : List En) : (bytesL es).length = sizeS es.length := by
  unfold bytesL
  rw [List.length_append, flat_len, zeros_len]
  have := sizeS_le es.length
  omega
/-- The first k slots' bytes in Z bytes. -/
def bytesK (es : List En) (Z k : Nat) : List Int := (es.take k).flatMap slotB ++ zeros (Z - 64 * k)
theorem bytesK_len (es : List En) (Z k : Nat) (hk : k ≤ es.length) (hZ : 64 * k ≤ Z) : (bytesK es Z k).length = Z := by
  unfold bytesK
  rw [List.length_append, flat_len, zeros_len, List.length_take]
  omega
theorem bytesK_all (es : List En) : bytesK es (sizeS es.length) es.length = bytesL es := by
  unfold bytesK bytesL; rw [List.take_of_length_le (Nat.le_refl _)]
theorem take_next (es : List En) (k : Nat) (hk : k < es.length) : es.take (k + 1) = es.take k ++ [es.getD k En.fr] := by
  rw [List.take_add_one]; simp [List.getD, hk]
theorem bytesK_step (es : List En) (Z k : Nat) (hk : k < es.length) (hZ : 64 * (k + 1) ≤ Z) : splice (bytesK es Z k) (64 * k) (slotB (es.getD k En.fr)) = bytesK es Z (k + 1) := by
  unfold splice bytesK
  have h1 : ((es.take k).flatMap slotB).length = 64 * k := by rw [flat_len, List.length_take]; omega
  rw [take_next es k hk, List.flatMap_append, List.take_left' h1, slotB_len]
  have e2 : (es.take k).flatMap slotB ++ zeros (Z - 64 * k) = ((es.take k).flatMap slotB ++ zeros 64) ++ zeros (Z - 64 * (k + 1)) := by
    rw [List.append_assoc]
    congr 1
    unfold zeros
    rw [List.replicate_append_replicate]
    congr 1
    omega
  have e3 : (((es.take k).flatMap slotB ++ zeros (Z - 64 * k)).drop (64 * k + 64)) = zeros (Z - 64 * (k + 1)) := by
    rw [e2, List.drop_left' (by rw [List.length_append, h1, zeros_len])]
  rw [e3]
  simp
theorem bytesK_free (es : List En) (Z k : Nat) (hk : k < es.length) (hZ : 64 * (k + 1) ≤ Z) (hf : (es.getD k En.fr).nm.size = 0) : bytesK es Z (k + 1) = bytesK es Z k := by
  unfold bytesK
  have e1 : slotB (es.getD k En.fr) = zeros 64 := by unfold slotB; rw [if_neg (by omega)]
  rw [take_next es k hk, List.flatMap_append, List.append_assoc]
  congr 1
  simp only [List.flatMap_cons, List.flatMap_nil, List.append_nil, e1]
  unfold zeros
  rw [List.replicate_append_replicate]
  congr 1
  omega
theorem bytesK_zero (es : List En) (Z : Nat) : bytesK es Z 0 = zeros Z := by simp [bytesK]

set_option maxHeartbeats 3200000 in
set_option maxRecDepth 100000 in
theorem dbytes_any (v : Value) (es : List En) (w : World) (hT : Tab w) (hv : Es w v es) (hl : es.length ≤ 100000) (hs : Hid (∀ j, j < es.length → (es.getD j En.fr).nm.size ≤ 1000000000)) :
    Calls Tryd.prog 65 #[v] w fun e w' => ∃ g, e = .returned (.slice (some ⟨g, 0, none⟩) (sizeS es.length) (sizeS es.length)) ∧ Mp w' g (.slice (some ⟨g, 0, none⟩) (sizeS es.length) (sizeS es.length)) (bytesL es) ∧ w.heap.size ≤ g ∧ Below w.heap.size w w' := by
  obtain ⟨a, c, rfl⟩ := hv.form
  have hZ0 : sizeS es.length ≤ 16777216 := by unfold sizeS; omega
  have hZ1 := sizeS_le es.length
  obtain ⟨o, hmk, hM⟩ := makeM (sizeS es.length) hZ0
  have HA : Hid (bytesK es (sizeS es.length) es.length = bytesL es) := bytesK_all es
  have SZ := size_any (.slice a es.length c) es w hv (by omega)
  generalize hZ : sizeS es.length = Z at *
  go_enter Tryd.func65, Tryd.ntmps65
  go_wp2_with fail
  refine SZ.mono ?_
  rintro e w1 ⟨rfl, rfl⟩
  go_wp2_with fail
  have M1 := hM w1
  have B1 : Below w1.heap.size w1 (w1.alloc o) := (Below.refl _ _).alloc (Nat.le_refl _) _
  have hg : w1.heap.size ≤ w1.heap.size := Nat.le_refl _
  rw [← bytesK_zero es Z] at M1
  generalize w1.alloc o = w2 at *
  clear hmk hM SZ
  clear hg
  go_loopw [11] (fun i wr => ∃ k : Nat, k ≤ es.length ∧ i = .int .i64 k ∧ Below w1.heap.size w1 wr ∧ Mp wr w1.heap.size (.slice (some ⟨w1.heap.size, 0, none⟩) Z Z) (bytesK es Z k)) (fun i _ => es.length - (intOf i).toNat)
  case atStart => exact ⟨0, Nat.zero_le _, rfl, B1, M1⟩
  case round =>
    clear M1 B1
    obtain ⟨k, hk, rfl, B, M⟩ := hrel
    by_cases hlt : k < es.length
    · have q1 : (k : Int) < es.length := by omega
      have hv' := hv.below B
      obtain ⟨b, off, rfl, hc⟩ := hv'.nth hlt
      obtain ⟨c1, c2⟩ := hc k hlt
      have hZk : 64 * (k + 1) ≤ Z := by omega
      have HST := bytesK_step es Z k hlt hZk
      have HFR := bytesK_free es Z k hlt hZk
      have hsk := hs.out k hlt
      obtain ⟨x, hx⟩ : ∃ x, Hid (es.getD k En.fr = x) := ⟨_, rfl⟩
      rw [hx.out] at c1 c2 HST HFR hsk
      clear hc hv' hx
      have B1 := B.alloc B.size (.cells #[.string x.nm, .int .i64 x.ino] 118)
      have M1 := M.kept (Chg.alloc (fun _ => False) wr (.cells #[.string x.nm, .int .i64 x.ino] 118)) (fun h => h)
      have hcell : (wr.alloc (.cells #[.string x.nm, .int .i64 x.ino] 118)).cell? ⟨wr.heap.size, 0, none⟩ = some (.string x.nm) := by
        rw [cell_of_row _ wr.heap.size _ _ _ _ (heap_alloc_new wr _)]; rfl
      have hcell1 : (wr.alloc (.cells #[.string x.nm, .int .i64 x.ino] 118)).cell? ⟨wr.heap.size, 1, none⟩ = some (.int .i64 x.ino) := by
        rw [cell_of_row _ wr.heap.size _ _ _ _ (heap_alloc_new wr _)]; rfl
      by_cases h0 : x.nm.size = 0
      · have g3 : x.nm = ⟨#[]⟩ := by
          obtain ⟨⟨⟨l⟩⟩, _⟩ := x
          have : l = [] := List.eq_nil_of_length_eq_zero h0
          simp [this]
        have HF : Hid (bytesK es Z (k + 1) = bytesK es Z k) := HFR h0
        have g0 : (x.nm.toList == []) = true := by rw [g3, ByteArray.toList_eq]; rfl
        clear HFR HST h0 g3 hcell1 hsk
        go_wp2_with fail
        go_roundw
        case rel => exact ⟨k + 1, by omega, by go_num, B1, by rw [HF.out]; exact M1⟩
        case measure => simp [intOf]; omega
      · have h1 : 1 ≤ x.nm.size := by omega
        have g0 : (x.nm.toList == []) = false := beq_eq_false_iff_ne.2 (str_some h1)
        have HS2 : Hid (splice (bytesK es Z k) (64 * k) (encB x) = bytesK es Z (k + 1)) := by
          have e : slotB x = encB x := by unfold slotB; rw [if_pos h1]
          rw [← e]; exact HST
        have hbl : (bytesK es Z k).length = Z := bytesK_len es Z k hk (by omega)
        have hT1 : Tab (wr.alloc (.cells #[.string x.nm, .int .i64 x.ino] 118)) := fun j hj => (Chg.ofBelowC B1).cell (hT j hj) (fun h => h)
        have EN : Hid (∀ wb, Chg (fun _ => False) (wr.alloc (.cells #[.string x.nm, .int .i64 x.ino] 118)) wb → Calls Tryd.prog 73 #[x.v] wb fun e w' => ∃ ua uc, e = .returned (.slice ua 64 uc) ∧ ∃ w3, (copyG #[33, 33] 3 #[.slice (some ⟨w1.heap.size, k * 64, none⟩) (Z - k * 64) (Z - k * 64), .slice ua 64 uc]).run Tryd.prog w' = .ok (.int .i64 64) w3 ∧ Hid (Below w1.heap.size w1 w3 ∧ Mp w3 w1.heap.size (.slice (some ⟨w1.heap.size, 0, none⟩) Z Z) (bytesK es Z (k + 1)))) := by
          intro wb hb
          refine (encode_any x wb.heap.size wb (fun j hj => hb.cell (hT1 j hj) (fun h => h)) (Nat.le_refl _) hsk).mono ?_
          rintro e w' ⟨u, rfl, h5⟩
          obtain ⟨ua, uc, rfl⟩ := cown_slice h5.1
          rw [encB_len]
          have bs := Bs.ofOwns h5.1
          rw [encB_len] at bs
          have M2 := (M1.kept hb (fun h => h)).kept h5.2.1 (fun h => h)
          obtain ⟨w3, hr, M3, c3⟩ := run_copyM (o := k * 64) (dl := Z - k * 64) (dc := Z - k * 64) 3 M2 bs (by rw [encB_len, hbl]; omega)
          rw [encB_len, Nat.min_eq_left (by omega)] at hr
          rw [List.take_of_length_le (by rw [encB_len]; omega), Nat.mul_comm k 64, HS2.out] at M3
          refine ⟨ua, uc, rfl, w3, hr, ?_, M3⟩
          have B2 : Below w1.heap.size w1 w' := (B1.trans (hb.below B1.size (fun _ h => h.elim))).trans (h5.2.1.below (Nat.le_trans B1.size hb.size) (fun _ h => h.elim))
          exact B2.trans (c3.below B2.size (fun k hk => by omega))
        clear HFR HST h0 h1 HS2 hbl hsk M M1 hT1 B B1
        have q2 : (k : Int) * 64 ≤ Z := by omega
        have q3 : ¬ Z = k * 64 := by omega
        have q4 : ¬ ((k : Int) * 64 < 0) := by omega
        have q5 : ((k : Int) * 64).toNat = k * 64 := by omega
        have q6 : IntKind.i64.wrap ((k : Int) * 64) = (k : Int) * 64 := by rw [IntKind.wrap_i64]; omega
        go_wp2_with fail
        go_region_with (first | (go_at_call 73; refine (EN.out _ (by first | exact Chg.refl _ _ | exact Chg.drew _ _ | exact Chg.drewN _ _ _)).mono ?_; rintro e w4 ⟨ua, uc, rfl, w3, hr, H3⟩))
        all_goals
          obtain ⟨B3, M3⟩ := H3.out
          clear H3 hr EN hcell hcell1 c1 c2 q2 q3 q4 q5 q6 g0
          go_wp2_with fail
          go_roundw
          case rel => exact ⟨k + 1, by omega, by go_num, B3, M3⟩
          case measure => simp [intOf]; omega
    · have q1 : ¬ (k : Int) < es.length := by omega
      obtain rfl : k = es.length := by omega
      rw [HA.out] at M
      clear HA
      go_wp2_with fail
      go_ret
      exact ⟨_, rfl, M, Nat.le_refl _, B⟩
end Go.Proofs.YtdcmkcplklkfmaaDoor
