/-
  The reference's cache in memory, and the contracts of its small methods.
-/
import Derived.Test.YtioloobeakjbeaaRefWrite
import Derived.Test.YtioloobeakjbeaaCPure
import Derived.Test.YtioloobeakjbeaaNums
import Derived.Deep.QuietTactic
namespace Go.Proofs.Ytioloobeakjbeaa
open Go.RowKit Go.Maps
attribute [local go_sem ↓] Go.wp_at_zero Go.wp_at_succ

/-- Items as cells. -/
def jcell (i : It) : List Value := [.int .i64 (i.n : Int), .string (strOf i.b), .bool i.dirty, .int .i64 (i.pins : Int)]
def jcells (L : List It) : List Value := L.flatMap jcell
theorem jcells_append (L M : List It) : jcells (L ++ M) = jcells L ++ jcells M := by simp [jcells]
theorem jcells_cons (i : It) (L : List It) : jcells (i :: L) = jcell i ++ jcells L := rfl
theorem jcells_len (L : List It) : (jcells L).length = L.length * 4 := by
  induction L with
  | nil => rfl
  | cons x L ih => rw [jcells_cons, List.length_append, ih]; simp [jcell]; omega
theorem jcells_at : ∀ {L : List It} {i k : Nat} (hi : i < L.length) (_ : k < 4), (jcells L)[i * 4 + k]? = (jcell L[i])[k]?
  | x :: L, 0, k, _, hk => by
    rw [jcells_cons, Nat.zero_mul, Nat.zero_add, List.getElem?_append_left (by simp [jcell]; omega)]; rfl
  | x :: L, i + 1, k, hi, hk => by
    have e : (i + 1) * 4 + k = (i * 4 + k) + 4 := by omega
    rw [jcells_cons, e, List.getElem?_append_right (by simp [jcell])]
    have := jcells_at (L := L) (i := i) (by simpa using hi) hk
    simpa [jcell] using this
theorem jcells_one (L : List It) : ∀ u ∈ jcells L, u.oneCell' = true := by
  intro u hu
  obtain ⟨i, _, h⟩ := List.mem_flatMap.1 hu
  simp [jcell] at h
  rcases h with rfl | rfl | rfl | rfl <;> rfl
theorem jcells_take (L : List It) (i : Nat) : (jcells L).take (i * 4) = jcells (L.take i) := by
  by_cases h : i ≤ L.length
  · conv => lhs; rw [← List.take_append_drop i L, jcells_append]
    have e : (jcells (L.take i)).length = i * 4 := by rw [jcells_len, List.length_take, Nat.min_eq_left h]
    rw [← e, List.take_left]
  · rw [List.take_of_length_le (by rw [jcells_len]; omega), List.take_of_length_le (by omega)]

/-- The reference's cache at c over its disk at q is C; H: its blocks. -/
structure RcAt (w : World) (H : Nat → Prop) (c q : Nat) (C : Ca) (lv : Value) : Prop where
  blk : w.heap[c]? = some (.cells #[.pointer (some ⟨q, 0, none⟩), .int .i64 (C.size : Int), lv, .int .i64 (C.hits : Int), .int .i64 (C.misses : Int), .int .i64 (C.evicted : Int)] 47 (0, 0))
  row : w.ownsRow 0 92 4 lv C.L.length (jcells C.L)
  fc : H c
  fl : ∀ g, lv.ownBlock = some g → H g
  lt : ∀ b, H b → b < w.heap.size
section
variable {w : World} {H : Nat → Prop} {c q : Nat} {C : Ca} {lv : Value}
theorem RcAt.c0 (h : RcAt w H c q C lv) : w.cell? ⟨c, 0, none⟩ = some (.pointer (some ⟨q, 0, none⟩)) := by rw [cell_of_row w c 0 _ _ _ h.blk]; rfl
theorem RcAt.c1 (h : RcAt w H c q C lv) : w.cell? ⟨c, 1, none⟩ = some (.int .i64 (C.size : Int)) := by rw [cell_of_row w c 1 _ _ _ h.blk]; rfl
theorem RcAt.c2 (h : RcAt w H c q C lv) : w.cell? ⟨c, 2, none⟩ = some lv := by rw [cell_of_row w c 2 _ _ _ h.blk]; rfl
theorem RcAt.c3 (h : RcAt w H c q C lv) : w.cell? ⟨c, 3, none⟩ = some (.int .i64 (C.hits : Int)) := by rw [cell_of_row w c 3 _ _ _ h.blk]; rfl
theorem RcAt.c4 (h : RcAt w H c q C lv) : w.cell? ⟨c, 4, none⟩ = some (.int .i64 (C.misses : Int)) := by rw [cell_of_row w c 4 _ _ _ h.blk]; rfl
theorem RcAt.c5 (h : RcAt w H c q C lv) : w.cell? ⟨c, 5, none⟩ = some (.int .i64 (C.evicted : Int)) := by rw [cell_of_row w c 5 _ _ _ h.blk]; rfl
theorem RcAt.fr (h : RcAt w H c q C lv) (i : Nat) : w.frozen? ⟨c, i, none⟩ = false := by simp [World.frozen?, h.blk]
theorem RcAt.kept {w' : World} {E : Nat → Prop} (h : RcAt w H c q C lv) (hc : Chg E w w') (hE : ∀ b, H b → ¬ E b) : RcAt w' H c q C lv := by
  have hb : ∀ b, H b → w'.heap[b]? = w.heap[b]? := fun b hf => hc.block b (h.lt b hf) (hE b hf)
  exact ⟨(hb c h.fc).trans h.blk, own_same h.row (fun g hg => hb g (h.fl g hg)), h.fc, h.fl, fun b hf => Nat.lt_of_lt_of_le (h.lt b hf) hc.size⟩
theorem RcAt.form (h : RcAt w H c q C lv) : ∃ a cp, lv = .slice a C.L.length cp ∧ C.L.length ≤ cp := by
  rcases h.row.2 with ⟨e, h0⟩ | ⟨g, cap, cur, e, _, _, h1, _⟩
  · exact ⟨none, 0, by rw [e, h0], by omega⟩
  · exact ⟨_, _, e, h1⟩
theorem RcAt.sm {i : Nat} (h : RcAt w H c q C lv) (hi : i < C.L.length) : ∃ g cap, lv = .slice (some ⟨g, 0, none⟩) C.L.length cap ∧ C.L.length ≤ cap ∧ g ≠ c ∧ H g := by
  rcases h.row.2 with ⟨_, h0⟩ | ⟨g, cap, cur, e, _, hb, h1, _⟩
  · omega
  · refine ⟨g, cap, e, h1, fun e2 => ?_, h.fl g (by rw [e]; rfl)⟩
    rw [e2, h.blk] at hb
    cases hb
theorem RcAt.item {g cap i k : Nat} {u : Value} (h : RcAt w H c q C (.slice (some ⟨g, 0, none⟩) C.L.length cap)) (hi : i < C.L.length) (hk : k < 4) (hu : (jcell C.L[i])[k]? = some u) : w.cell? ⟨g, i * 4 + k, none⟩ = some u := by
  have := h.row.cells (g := g) rfl (i * 4 + k) u (by rw [jcells_at hi hk]; exact hu)
  rwa [add_zero_off] at this
theorem RcAt.gfr {g cap : Nat} (h : RcAt w H c q C (.slice (some ⟨g, 0, none⟩) C.L.length cap)) (i : Nat) : w.frozen? ⟨g, i, none⟩ = false := by
  obtain ⟨cu, hcu⟩ := own_obj h.row rfl
  simp [World.frozen?, hcu]
/-- Only the cache's struct has changed. -/
theorem RcAt.restruct {w' : World} {C' : Ca} {lv' : Value} (h : RcAt w H c q C lv) (hc : Chg (fun k => k = c) w w')
    (hb : w'.heap[c]? = some (.cells #[.pointer (some ⟨q, 0, none⟩), .int .i64 (C'.size : Int), lv', .int .i64 (C'.hits : Int), .int .i64 (C'.misses : Int), .int .i64 (C'.evicted : Int)] 47 (0, 0)))
    (hr : w'.ownsRow 0 92 4 lv' C'.L.length (jcells C'.L)) (hl : ∀ g, lv'.ownBlock = some g → H g) : RcAt w' H c q C' lv' :=
  ⟨hb, hr, h.fc, hl, fun b hf => Nat.lt_of_lt_of_le (h.lt b hf) hc.size⟩
theorem RcAt.rsame {w' : World} (h : RcAt w H c q C lv) (hc : Chg (fun k => k = c) w w') : w'.ownsRow 0 92 4 lv C.L.length (jcells C.L) := own_same h.row (fun g hg => hc.block g (h.row.lt g hg).2 (fun e => by
  obtain ⟨cur, hcur⟩ := own_obj h.row hg
  rw [e, h.blk] at hcur; cases hcur))
end

theorem eq35_nil (w : World) : (binOp .eql 35 (.pointer none) (.pointer none)).run Try.prog w = .ok (.bool true) w := by kernel_rfl
theorem eq35_some (a : Addr) (w : World) : (binOp .eql 35 (.pointer (some a)) (.pointer none)).run Try.prog w = .ok (.bool false) w := by kernel_rfl

set_option maxHeartbeats 800000 in
theorem rcnew_bad (q : Nat) (n : Int) (w : World) (h : n < 1 ∨ 1024 < n) : Calls Try.prog 14 #[.pointer (some ⟨q, 0, none⟩), .int .i64 n] w fun e w' => e = .returned (.tuple #[.pointer none, .int .i64 1]) ∧ w' = w := by
  by_cases h1 : n < 1
  · have k1 : decide (n < 1) = true := by simpa using h1
    go_enter Try.func14, Try.ntmps14
    go_wp2
    go_ret2
    exact ⟨rfl, rfl⟩
  · have k1 : decide (n < 1) = false := by simpa using h1
    have k2 : decide (1024 < n) = true := by simp; omega
    clear h h1
    go_enter Try.func14, Try.ntmps14
    go_wp2
    go_ret2
    exact ⟨rfl, rfl⟩
set_option maxHeartbeats 800000 in
theorem rcnew_ok (q size : Nat) (w : World) (h0 : 0 < size) (h1 : size ≤ 1024) : Calls Try.prog 14 #[.pointer (some ⟨q, 0, none⟩), .int .i64 (size : Int)] w fun e w' =>
    ∃ c, e = .returned (.tuple #[.pointer (some ⟨c, 0, none⟩), .int .i64 0]) ∧ ∃ H, RcAt w' H c q (Ca.new size) (.slice none 0 0) ∧ Chg (fun _ => False) w w' ∧ ∀ b, H b → w.heap.size ≤ b := by
  have k1 : ¬ ((size : Int) < 1) := by omega
  have k2 : ¬ ((1024 : Int) < (size : Int)) := by omega
  have HB : Hid ((w.alloc (.cells #[.pointer (some ⟨q, 0, none⟩), .int .i64 (size : Int), .slice none 0 0, .int .i64 0, .int .i64 0, .int .i64 0] 47)).heap[w.heap.size]? = some (.cells #[.pointer (some ⟨q, 0, none⟩), .int .i64 ((Ca.new size).size : Int), .slice none 0 0, .int .i64 ((Ca.new size).hits : Int), .int .i64 ((Ca.new size).misses : Int), .int .i64 ((Ca.new size).evicted : Int)] 47 (0, 0))) := heap_alloc_new w _
  clear h0 h1
  go_enter Try.func14, Try.ntmps14
  go_wp2
  go_ret2
  exact ⟨w.heap.size, rfl, fun b => b = w.heap.size, ⟨HB.out, World.ownsRow_nil _ _ _ _, rfl, fun g hg => (by cases hg), fun b hb => by rw [hb]; simp⟩, Chg.alloc _ _ _, fun b hb => by omega⟩

set_option maxHeartbeats 400000 in
theorem rdrop_any (H : Nat → Prop) (c q : Nat) (C : Ca) (lv : Value) (w : World) (h : RcAt w H c q C lv) : Calls Try.prog 38 #[.pointer (some ⟨c, 0, none⟩)] w fun e w' => e = .returned (.tuple #[]) ∧ RcAt w' H c q C.drop (.slice none 0 0) ∧ Chg H w w' := by
  have c2 := h.c2
  have f2 := h.fr 2
  have hb := heap_setCell_same w c 2 _ _ (.slice none 0 0) h.blk
  simp at hb
  have hc : Chg (fun k => k = c) w (w.setCell ⟨c, 2, none⟩ (.slice none 0 0)) := Chg.setCell _ _ _ rfl
  have HH : Hid (RcAt (w.setCell ⟨c, 2, none⟩ (.slice none 0 0)) H c q C.drop (.slice none 0 0) ∧ Chg H w (w.setCell ⟨c, 2, none⟩ (.slice none 0 0))) :=
    ⟨h.restruct hc hb (World.ownsRow_nil _ _ _ _) (fun g hg => by cases hg), hc.mono (fun b _ e => by rw [e]; exact h.fc)⟩
  obtain ⟨a, cp, rfl, _⟩ := h.form
  clear h hb hc
  go_enter Try.func38, Try.ntmps38
  go_wp2
  go_end0
  exact ⟨rfl, HH.out⟩

/-- The place k of number n in L, or -1. -/
def Found (L : List It) (n k : Int) : Prop := (∃ xs x ys, L = xs ++ x :: ys ∧ (x.n : Int) = n ∧ k = (xs.length : Int)) ∨ ((∀ x ∈ L, (x.n : Int) ≠ n) ∧ k = -1)
set_option maxHeartbeats 800000 in
/-- Find: the place, or -1. -/
theorem rfind_any (H : Nat → Prop) (c q : Nat) (C : Ca) (lv : Value) (n : Int) (w : World) (h : RcAt w H c q C lv) (hl : C.L.length ≤ 1024) :
    Calls Try.prog 47 #[.pointer (some ⟨c, 0, none⟩), .int .i64 n] w fun e w' => ∃ k, e = .returned (.int .i64 k) ∧ Found C.L n k ∧ w' = w := by
  have c2 := h.c2
  obtain ⟨a, cp, hlv, _⟩ := h.form
  rw [hlv] at c2
  have HH : Hid (RcAt w H c q C lv ∧ lv = .slice a C.L.length cp) := ⟨h, hlv⟩
  clear h hlv
  generalize hL : C.L = L at *
  have HL : Hid (C.L = L) := hL
  clear hL
  go_enter Try.func47, Try.ntmps47
  go_wp2_with fail
  go_loopg [5] (L.length) (fun gg x wr => ∃ i : Nat, i ≤ L.length ∧ x = .int .i64 (i : Int) ∧ wr = w ∧ L.length - i ≤ gg ∧ Hid (∀ y ∈ L.take i, (y.n : Int) ≠ n))
  case atStart => exact ⟨0, Nat.zero_le _, rfl, rfl, by omega, (show ∀ y ∈ L.take 0, (y.n : Int) ≠ n by simp)⟩
  case round =>
    obtain ⟨i, hi, rfl, rfl, hgg, HX⟩ := hrel
    by_cases hlt : i < L.length
    · have k1 : decide ((i : Int) < (L.length : Int)) = true := by simp; omega
      have k1' : (i : Int) < (L.length : Int) := by omega
      have hlt' : i < C.L.length := by rw [HL.out]; exact hlt
      obtain ⟨g, cap, e1, _, _, _⟩ := HH.out.1.sm hlt'
      have e2 := HH.out.2
      rw [e1, HL.out] at e2
      simp at e2
      obtain ⟨rfl, rfl⟩ := e2
      have hR := HH.out.1
      rw [e1] at hR
      have hc := hR.item (k := 0) hlt' (by decide) rfl
      have hLi : C.L[i] = L[i] := by simp [HL.out]
      rw [hLi] at hc
      have hsp : L = L.take i ++ L[i] :: L.drop (i + 1) := by rw [← List.drop_eq_getElem_cons hlt, List.take_append_drop]
      have hln : (L.take i).length = i := by rw [List.length_take]; omega
      have htk : L.take (i + 1) = L.take i ++ [L[i]] := by rw [List.take_add_one]; simp [hlt]
      have HS : Hid (L = L.take i ++ L[i] :: L.drop (i + 1) ∧ (L.take i).length = i ∧ L.take (i + 1) = L.take i ++ [L[i]]) := ⟨hsp, hln, htk⟩
      obtain ⟨x, hx⟩ : ∃ x, L[i] = x := ⟨_, rfl⟩
      rw [hx] at hc HS
      rw [Nat.add_zero] at hc
      clear hR hsp hln htk hx hLi e1
      by_cases hn : (x.n : Int) = n
      · have q1 : ((x.n : Int) == n) = true := by simpa using hn
        have HN : Hid ((x.n : Int) = n) := hn
        rw [hn] at hc q1
        clear hn
        go_wp2
        go_ret
        exact ⟨_, rfl, .inl ⟨_, _, _, HS.out.1, HN.out, by rw [HS.out.2.1]⟩, rfl⟩
      · have q1 : ((x.n : Int) == n) = false := by simpa using hn
        have HN : Hid ((x.n : Int) ≠ n) := hn
        obtain ⟨xn, hxn⟩ : ∃ xn, (x.n : Int) = xn := ⟨_, rfl⟩
        rw [hxn] at hc q1
        clear hn hxn
        go_wp2
        go_roundg (L.length - (i + 1))
        case measure => omega
        case rel =>
          refine ⟨i + 1, by omega, by go_num, rfl, Nat.le_refl _, (show ∀ y ∈ L.take (i + 1), (y.n : Int) ≠ n from fun y hy => ?_)⟩
          rw [HS.out.2.2] at hy
          rcases List.mem_append.1 hy with e | e
          · exact HX.out y e
          · simp at e; rw [e]; exact HN.out
    · have hie : i = L.length := by omega
      subst hie
      have k1 : decide ((L.length : Int) < (L.length : Int)) = false := by simp
      go_wp2
      go_ret
      exact ⟨_, rfl, .inr ⟨fun x hx => HX.out x (by rw [List.take_length]; exact hx), rfl⟩, rfl⟩
end Go.Proofs.Ytioloobeakjbeaa
