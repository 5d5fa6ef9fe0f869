/-
  The contracts of slices.IndexFunc and slices.DeleteFunc at what Dirty of package cache hands them, and of Dirty.
-/
import Derived.Test.YtioloobeakjbeaaHeld
import Derived.Lib.SliceRun
namespace Go.Proofs.Ytioloobeakjbeaa
open Go.RowKit Go.Maps

/-- Numbers as cells. -/
def icells (L : List Nat) : List Value := L.map fun n : Nat => Value.int .i64 (n : Int)
theorem icells_len (L : List Nat) : (icells L).length = L.length := by simp [icells]
theorem icells_get {L : List Nat} {j : Nat} (h : j < L.length) : (icells L)[j]? = some (.int .i64 ((L.getD j 0 : Nat) : Int)) := by simp [icells, List.getD, h]

/-- The world in which the closure of Dirty is called. -/
structure DirtW (W : World) (G : Nat → Prop) (c p nb : Nat) (C : Ca) (m r : Nat) (ls : List Nat) (nd : Nat → Node) (B : Nat) : Prop where
  ca : CaAt W G c p nb C m r ls nd
  box : W.cell? ⟨B, 0, none⟩ = some (.pointer (some ⟨c, 0, none⟩))
theorem DirtW.kept {W W' : World} {G E : Nat → Prop} {c p nb : Nat} {C : Ca} {m r : Nat} {ls : List Nat} {nd : Nat → Node} {B : Nat} (h : DirtW W G c p nb C m r ls nd B) (hc : Chg E W W') (hG : ∀ b, G b → ¬ E b) (hB : ¬ E B) : DirtW W' G c p nb C m r ls nd B :=
  ⟨h.ca.kept hc hG, hc.cell h.box hB⟩

theorem isDirty_of {w : World} {G : Nat → Prop} {c p nb : Nat} {C : Ca} {m r : Nat} {ls : List Nat} {nd : Nat → Node} (h : CaAt w G c p nb C m r ls nd) {a : Nat} (ha : a ∈ ls) : C.isDirty (nd a).n = (nd a).d := by
  unfold Ca.isDirty
  rw [Bool.eq_iff_iff, List.any_eq_true]
  constructor
  · rintro ⟨i, hi, hc⟩
    simp only [Bool.and_eq_true, beq_iff_eq] at hc
    rw [h.same_item ha hi hc.1] at hc
    exact hc.2
  · intro hd
    exact ⟨(nd a).it, h.mem ha, by simp only [Bool.and_eq_true, beq_iff_eq]; exact ⟨rfl, hd⟩⟩

set_option maxHeartbeats 800000 in
theorem dirty1_any (G : Nat → Prop) (c p nb : Nat) (C : Ca) (m r : Nat) (ls : List Nat) (nd : Nat → Node) (B n : Nat) (W : World) (h : DirtW W G c p nb C m r ls nd B) (hn : C.has n = true) :
    Calls Try.prog 49 #[.int .i64 (n : Int), .pointer (some ⟨B, 0, none⟩)] W fun e w' => e = .returned (.bool (!C.isDirty n)) ∧ w' = W := by
  obtain ⟨i, hi, hin⟩ := Ca.has_iff.1 hn
  rw [h.ca.items] at hi
  obtain ⟨a, ha, hai⟩ := List.mem_map.1 hi
  have han : (nd a).n = n := by rw [← hin, ← hai]; rfl
  subst han
  have hd := isDirty_of h.ca ha
  have c2 := h.ca.c2
  have bx := h.box
  have lk0 := h.ca.map.look h.ca.nbt ha (h.ca.nlt ha)
  have lk : (Instr.lookup 74 (.map (some m)) (.int .i64 ((nd a).n : Int)) false).run Try.prog W = .ok (.pointer (some ⟨a, 0, none⟩)) W := lk0
  have a2 := (h.ca.nodes a (List.mem_cons_of_mem _ ha)).c2
  rw [hd]
  clear h lk0 hi hin hai ha hn hd
  generalize (((nd a).n : Nat) : Int) = nn at *
  go_enter Try.func49, Try.ntmps49
  go_wp2
  go_ret
  exact ⟨rfl, rfl⟩

set_option maxHeartbeats 1600000 in
set_option maxRecDepth 100000 in
/-- slices.IndexFunc: the first that is not dirty. -/
theorem index_any (G : Nat → Prop) (c p nb : Nat) (C : Ca) (m r : Nat) (ls : List Nat) (nd : Nat → Node) (B g cap : Nat) (L : List Nat) (w : World) (h : DirtW w G c p nb C m r ls nd B) (hL : ∀ n ∈ L, C.has n = true) (hl : L.length ≤ 1099511627776)
    (hrow : ∀ j, j < L.length → w.cell? ⟨g, j, none⟩ = some (.int .i64 ((L.getD j 0 : Nat) : Int))) (_hcap : L.length ≤ cap) :
    Calls Try.prog 74 #[.slice (some ⟨g, 0, none⟩) L.length cap, .func (.func 49) #[] #[.pointer (some ⟨B, 0, none⟩)]] w fun e w' => w' = w ∧
      ((e = .returned (.int .i64 (-1)) ∧ ∀ n ∈ L, C.isDirty n = true) ∨ ∃ k, k < L.length ∧ e = .returned (.int .i64 (k : Int)) ∧ C.isDirty (L.getD k 0) = false ∧ ∀ n ∈ L.take k, C.isDirty n = true) := by
  have HH : Hid (DirtW w G c p nb C m r ls nd B) := h
  have HL : Hid (∀ n ∈ L, C.has n = true) := hL
  have HR : Hid (∀ j, j < L.length → w.cell? ⟨g, j, none⟩ = some (.int .i64 ((L.getD j 0 : Nat) : Int))) := hrow
  clear h hL hrow
  go_enter Try.func74, Try.ntmps74
  go_wp2_with fail
  go_loopg [5, 8] (L.length) (fun gg _ x wr => ∃ j : Nat, j ≤ L.length ∧ x = .int .i64 (j : Int) ∧ wr = w ∧ L.length - j ≤ gg ∧ Hid (∀ n ∈ L.take j, C.isDirty n = true))
  case atStart => exact ⟨0, Nat.zero_le _, rfl, rfl, by omega, (show ∀ n ∈ L.take 0, C.isDirty n = true by simp)⟩
  case round =>
    obtain ⟨j, hj, rfl, rfl, hg, HX⟩ := hrel
    by_cases hlt : j < L.length
    · have k1 : decide ((j : Int) < (L.length : Int)) = true := by simp; omega
      have k1' : (j : Int) < (L.length : Int) := by omega
      have hc := HR.out j hlt
      have hmem : L.getD j 0 ∈ L := by
        have : L.getD j 0 = L[j] := by simp [List.getD, hlt]
        rw [this]; exact List.getElem_mem hlt
      have hcall := dirty1_any G c p nb C m r ls nd B (L.getD j 0) wr HH.out (HL.out _ hmem)
      have htk : L.take (j + 1) = L.take j ++ [L.getD j 0] := by
        rw [List.take_add_one]
        congr 1
        simp [List.getD, hlt]
      have HT : Hid (L.take (j + 1) = L.take j ++ [L.getD j 0]) := htk
      obtain ⟨nn, hnn⟩ : ∃ nn, L.getD j 0 = nn := ⟨_, rfl⟩
      rw [hnn] at hc hcall
      have HN : Hid (L.getD j 0 = nn) := hnn
      have HC : Hid _ := hcall
      clear hmem htk hnn hcall
      generalize hni : ((nn : Nat) : Int) = ni at *
      cases hd : C.isDirty nn with
      | true =>
        have HD : Hid (C.isDirty nn = true) := hd
        rw [hd] at HC
        clear hd
        go_wp2_with fail
        refine (show Calls _ _ _ _ _ from HC.out).mono ?_
        rintro e w2 ⟨rfl, rfl⟩
        clear HC
        go_wp2
        go_roundg (L.length - (j + 1))
        case measure => omega
        case rel =>
          refine ⟨j + 1, by omega, by go_num, rfl, Nat.le_refl _, (show ∀ n ∈ L.take (j + 1), C.isDirty n = true from fun n hn => ?_)⟩
          rw [HT.out, HN.out] at hn
          rcases List.mem_append.1 hn with h | h
          · exact HX.out n h
          · simp at h; rw [h]; exact HD.out
      | false =>
        have HD : Hid (C.isDirty nn = false) := hd
        rw [hd] at HC
        clear hd
        go_wp2_with fail
        refine (show Calls _ _ _ _ _ from HC.out).mono ?_
        rintro e w2 ⟨rfl, rfl⟩
        clear HC
        go_wp2
        go_ret
        exact ⟨rfl, .inr ⟨j, hlt, rfl, by rw [HN.out]; exact HD.out, HX.out⟩⟩
    · have hje : j = L.length := by omega
      subst hje
      have k1 : decide ((L.length : Int) < (L.length : Int)) = false := by simp
      go_wp2
      go_ret
      refine ⟨rfl, .inl ⟨rfl, ?_⟩⟩
      have := HX.out
      rwa [List.take_length] at this
end Go.Proofs.Ytioloobeakjbeaa
