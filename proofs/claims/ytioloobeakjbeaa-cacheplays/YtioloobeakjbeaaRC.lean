/-
  The reference's cache in memory, and the contracts of its small methods.
-/
import Derived.Test.YtioloobeakjbeaaRefWrite
import Derived.Test.YtioloobeakjbeaaCPure
import Derived.Test.YtioloobeakjbeaaNums
import Derived.Deep.QuietTactic
namespace Go.Proofs.Ytioloobeakjbeaa
open Go.RowKit Go.Maps
attribute [local go_sem ↓] Go.wp_at_zero Go.wp_at_succ

/-- Items as cells. -/
def jcell (i : It) : List Value := [.int .i64 (i.n : Int), .string (strOf i.b), .bool i.dirty, .int .i64 (i.pins : Int)]
def jcells (L : List It) : List Value := L.flatMap jcell
theorem jcells_append (L M : List It) : jcells (L ++ M) = jcells L ++ jcells M := by simp [jcells]
theorem jcells_cons (i : It) (L : List It) : jcells (i :: L) = jcell i ++ jcells L := rfl
theorem jcells_len (L : List It) : (jcells L).length = L.length * 4 := by
  induction L with
  | nil => rfl
  | cons x L ih => rw [jcells_cons, List.length_append, ih]; simp [jcell]; omega
theorem jcells_at : ∀ {L : List It} {i k : Nat} (hi : i < L.length) (_ : k < 4), (jcells L)[i * 4 + k]? = (jcell L[i])[k]?
  | x :: L, 0, k, _, hk => by
    rw [jcells_cons, Nat.zero_mul, Nat.zero_add, List.getElem?_append_left (by simp [jcell]; omega)]; rfl
  | x :: L, i + 1, k, hi, hk => by
    have e : (i + 1) * 4 + k = (i * 4 + k) + 4 := by omega
    rw [jcells_cons, e, List.getElem?_append_right (by simp [jcell])]
    have := jcells_at (L := L) (i := i) (by simpa using hi) hk
    simpa [jcell] using this
theorem jcells_one (L : List It) : ∀ u ∈ jcells L, u.oneCell' = true := by
  intro u hu
  obtain ⟨i, _, h⟩ := List.mem_flatMap.1 hu
  simp [jcell] at h
  rcases h with rfl | rfl | rfl | rfl <;> rfl
theorem jcells_take (L : List It) (i : Nat) : (jcells L).take (i * 4) = jcells (L.take i) := by
  by_cases h : i ≤ L.length
  · conv => lhs; rw [← List.take_append_drop i L, jcells_append]
    have e : (jcells (L.take i)).length = i * 4 := by rw [jcells_len, List.length_take, Nat.min_eq_left h]
    rw [← e, List.take_left]
  · rw [List.take_of_length_le (by rw [jcells_len]; omega), List.take_of_length_le (by omega)]

/-- The reference's cache at c over its disk at q is C; H: its blocks. -/
structure RcAt (w : World) (H : Nat → Prop) (c q : Nat) (C : Ca) (lv : Value) : Prop where
  blk : w.heap[c]? = some (.cells #[.pointer (some ⟨q, 0, none⟩), .int .i64 (C.size : Int), lv, .int .i64 (C.hits : Int), .int .i64 (C.misses : Int), .int .i64 (C.evicted : Int)] 47 (0, 0))
  row : w.ownsRow 0 92 4 lv C.L.length (jcells C.L)
  fc : H c
  fl : ∀ g, lv.ownBlock = some g → H g
  lt : ∀ b, H b → b < w.heap.size
section
variable {w : World} {H : Nat → Prop} {c q : Nat} {C : Ca} {lv : Value}
theorem RcAt.c0 (h : RcAt w H c q C lv) : w.cell? ⟨c, 0, none⟩ = some (.pointer (some ⟨q, 0, none⟩)) := by rw [cell_of_row w c 0 _ _ _ h.blk]; rfl
theorem RcAt.c1 (h : RcAt w H c q C lv) : w.cell? ⟨c, 1, none⟩ = some (.int .i64 (C.size : Int)) := by rw [cell_of_row w c 1 _ _ _ h.blk]; rfl
theorem RcAt.c2 (h : RcAt w H c q C lv) : w.cell? ⟨c, 2, none⟩ = some lv := by rw [cell_of_row w c 2 _ _ _ h.blk]; rfl
theorem RcAt.c3 (h : RcAt w H c q C lv) : w.cell? ⟨c, 3, none⟩ = some (.int .i64 (C.hits : Int)) := by rw [cell_of_row w c 3 _ _ _ h.blk]; rfl
theorem RcAt.c4 (h : RcAt w H c q C lv) : w.cell? ⟨c, 4, none⟩ = some (.int .i64 (C.misses : Int)) := by rw [cell_of_row w c 4 _ _ _ h.blk]; rfl
theorem RcAt.c5 (h : RcAt w H c q C lv) : w.cell? ⟨c, 5, none⟩ = some (.int .i64 (C.evicted : Int)) := by rw [cell_of_row w c 5 _ _ _ h.blk]; rfl
theorem RcAt.fr (h : RcAt w H c q C lv) (i : Nat) : w.frozen? ⟨c, i, none⟩ = false := by simp [World.frozen?, h.blk]
theorem RcAt.kept {w' : World} {E : Nat → Prop} (h : RcAt w H c q C lv) (hc : Chg E w w') (hE : ∀ b, H b → ¬ E b) : RcAt w' H c q C lv := by
  have hb : ∀ b, H b → w'.heap[b]? = w.heap[b]? := fun b hf => hc.block b (h.lt b hf) (hE b hf)
  exact ⟨(hb c h.fc).trans h.blk, own_same h.row (fun g hg => hb g (h.fl g hg)), h.fc, h.fl, fun b hf => Nat.lt_of_lt_of_le (h.lt b hf) hc.size⟩
theorem RcAt.form (h : RcAt w H c q C lv) : ∃ a cp, lv = .slice a C.L.length cp ∧ C.L.length ≤ cp := by
  rcases h.row.2 with ⟨e, h0⟩ | ⟨g, cap, cur, e, _, _, h1, _⟩
  · exact ⟨none, 0, by rw [e, h0], by omega⟩
  · exact ⟨_, _, e, h1⟩
theorem RcAt.sm {i : Nat} (h : RcAt w H c q C lv) (hi : i < C.L.length) : ∃ g cap, lv = .slice (some ⟨g, 0, none⟩) C.L.length cap ∧ C.L.length ≤ cap ∧ g ≠ c ∧ H g := by
  rcases h.row.2 with ⟨_, h0⟩ | ⟨g, cap, cur, e, _, hb, h1, _⟩
  · omega
  · refine ⟨g, cap, e, h1, fun e2 => ?_, h.fl g (by rw [e]; rfl)⟩
    rw [e2, h.blk] at hb
    cases hb
theorem RcAt.item {g cap i k : Nat} {u : Value} (h : RcAt w H c q C (.slice (some ⟨g, 0, none⟩) C.L.length cap)) (hi : i < C.L.length) (hk : k < 4) (hu : (jcell C.L[i])[k]? = some u) : w.cell? ⟨g, i * 4 + k, none⟩ = some u := by
  have := h.row.cells (g := g) rfl (i * 4 + k) u (by rw [jcells_at hi hk]; exact hu)
  rwa [add_zero_off] at this
theorem RcAt.gfr {g cap : Nat} (h : RcAt w H c q C (.slice (some ⟨g, 0, none⟩) C.L.length cap)) (i : Nat) : w.frozen? ⟨g, i, none⟩ = false := by
  obtain ⟨cu, hcu⟩ := own_obj h.row rfl
  simp [World.frozen?, hcu]
/-- Only the cache's struct has changed. -/
theorem RcAt.restruct {w' : World} {C' : Ca} {lv' : Value} (h : RcAt w H c q C lv) (hc : Chg (fun k => k = c) w w')
    (hb : w'.heap[c]? = some (.cells #[.pointer (some ⟨q, 0, none⟩), .int .i64 (C'.size : Int), lv', .int .i64 (C'.hits : Int), .int .i64 (C'.misses : Int), .int .i64 (C'.evicted : Int)] 47 (0, 0)))
    (hr : w'.ownsRow 0 92 4 lv' C'.L.length (jcells C'.L)) (hl : ∀ g, lv'.ownBlock = some g → H g) : RcAt w' H c q C' lv' :=
  ⟨hb, hr, h.fc, hl, fun b hf => Nat.lt_of_lt_of_le (h.lt b hf) hc.size⟩
theorem RcAt.rsame {w' : World} (h : RcAt w H c q C lv) (hc : Chg (fun k => k = c) w w') : w'.ownsRow 0 92 4 lv C.L.length (jcells C.L) := own_same h.row (fun g hg => hc.block g (h.row.lt g hg).2 (fun e => by
  obtain ⟨cur, hcur⟩ := own_obj h.row hg
  rw [e, h.blk] at hcur; cases hcur))
end

theorem eq35_nil (w : World) : (binOp .eql 35 (.pointer none) (.pointer none)).run Try.prog w = .ok (.bool true) w := by kernel_rfl
theorem eq35_some (a : Addr) (w : World) : (binOp .eql 35 (.pointer (some a)) (.pointer none)).run Try.prog w = .ok (.bool false) w := by kernel_rfl

set_option maxHeartbeats 800000 in
theorem rcnew_bad (q : Nat) (n : Int) (w : World) (h : n < 1 ∨ 1024 < n) : Calls Try.prog 14 #[.pointer (some ⟨q, 0, none⟩), .int .i64 n] w fun e w' => e = .returned (.tuple #[.pointer none, .int .i64 1]) ∧ w' = w := by
  by_cases h1 : n < 1
  · have k1 : decide (n < 1) = true := by simpa using h1
    go_enter Try.func14, Try.ntmps14
    go_wp2
    go_ret2
    exact ⟨rfl, rfl⟩
  · have k1 : decide (n < 1) = false := by simpa using h1
    have k2 : decide (1024 < n) = true := by simp; omega
    clear h h1
    go_enter Try.func14, Try.ntmps14
    go_wp2
    go_ret2
    exact ⟨rfl, rfl⟩
set_option maxHeartbeats 800000 in
theorem rcnew_ok (q size : Nat) (w : World) (h0 : 0 < size) (h1 : size ≤ 1024) : Calls Try.prog 14 #[.pointer (some ⟨q, 0, none⟩), .int .i64 (size : Int)] w fun e w' =>
    ∃ c, e = .returned (.tuple #[.pointer (some ⟨c, 0, none⟩), .int .i64 0]) ∧ ∃ H, RcAt w' H c q (Ca.new size) (.slice none 0 0) ∧ Chg (fun _ => False) w w' ∧ ∀ b, H b → w.heap.size ≤ b := by
  have k1 : ¬ ((size : Int) < 1) := by omega
  have k2 : ¬ ((1024 : Int) < (size : Int)) := by omega
  have HB : Hid ((w.alloc (.cells #[.pointer (some ⟨q, 0, none⟩), .int .i64 (size : Int), .slice none 0 0, .int .i64 0, .int .i64 0, .int .i64 0] 47)).heap[w.heap.size]? = some (.cells #[.pointer (some ⟨q, 0, none⟩), .int .i64 ((Ca.new size).size : Int), .slice none 0 0, .int .i64 ((Ca.new size).hits : Int), .int .i64 ((Ca.new size).misses : Int), .int .i64 ((Ca.new size).evicted : Int)] 47 (0, 0))) := heap_alloc_new w _
  clear h0 h1
  go_enter Try.func14, Try.ntmps14
  go_wp2
  go_ret2
  exact ⟨w.heap.size, rfl, fun b => b = w.heap.size, ⟨HB.out, World.ownsRow_nil _ _ _ _, rfl, fun g hg => (by cases hg), fun b hb => by rw [hb]; simp⟩, Chg.alloc _ _ _, fun b hb => by omega⟩

set_option maxHeartbeats 400000 in
theorem rdrop_any (H : Nat → Prop) (c q : Nat) (C : Ca) (lv : Value) (w : World) (h : RcAt w H c q C lv) : Calls Try.prog 38 #[.pointer (some ⟨c, 0, none⟩)] w fun e w' => e = .returned (.tuple #[]) ∧ RcAt w' H c q C.drop (.slice none 0 0) ∧ Chg H w w' := by
  have c2 := h.c2
  have f2 := h.fr 2
  have hb := heap_setCell_same w c 2 _ _ (.slice none 0 0) h.blk
  simp at hb
  have hc : Chg (fun k => k = c) w (w.setCell ⟨c, 2, none⟩ (.slice none 0 0)) := Chg.setCell _ _ _ rfl
  have HH : Hid (RcAt (w.setCell ⟨c, 2, none⟩ (.slice none 0 0)) H c q C.drop (.slice none 0 0) ∧ Chg H w (w.setCell ⟨c, 2, none⟩ (.slice none 0 0))) :=
    ⟨h.restruct hc hb (World.ownsRow_nil _ _ _ _) (fun g hg => by cases hg), hc.mono (fun b _ e => by rw [e]; exact h.fc)⟩
  obtain ⟨a, cp, rfl, _⟩ := h.form
  clear h hb hc
  go_enter Try.func38, Try.ntmps38
  go_wp2
  go_end0
  exact ⟨rfl, HH.out⟩

/-- The place k of number n in L, or -1. -/
def Found (L : List It) (n k : Int) : Prop := (∃ xs x ys, L = xs ++ x :: ys ∧ (x.n : Int) = n ∧ k = (xs.length : Int)) ∨ ((∀ x ∈ L, (x.n : Int) ≠ n) ∧ k = -1)
set_option maxHeartbeats 800000 in
/-- Find: the place, or -1. -/
theorem rfind_any (H : Nat → Prop) (c q : Nat) (C : Ca) (lv : Value) (n : Int) (w : World) (h : RcAt w H c q C lv) (hl : C.L.length ≤ 1024) :
    Calls Try.prog 47 #[.pointer (some ⟨c, 0, none⟩), .int .i64 n] w fun e w' => ∃ k, e = .returned (.int .i64 k) ∧ Found C.L n k ∧ w' = w := by
  have c2 := h.c2
  obtain ⟨a, cp, hlv, _⟩ := h.form
  rw [hlv] at c2
  have HH : Hid (RcAt w H c q C lv ∧ lv = .slice a C.L.length cp) := ⟨h, hlv⟩
  clear h hlv
  generalize hL : C.L = L at *
  have HL : Hid (C.L = L) := hL
  clear hL
  go_enter Try.func47, Try.ntmps47
  go_wp2_with fail
  go_loopg [5] (L.length) (fun gg x wr => ∃ i : Nat, i ≤ L.length ∧ x = .int .i64 (i : Int) ∧ wr = w ∧ L.length - i ≤ gg ∧ Hid (∀ y ∈ L.take i, (y.n : Int) ≠ n))
  case atStart => exact ⟨0, Nat.zero_le _, rfl, rfl, by omega, (show ∀ y ∈ L.take 0, (y.n : Int) ≠ n by simp)⟩
  case round =>
    obtain ⟨i, hi, rfl, rfl, hgg, HX⟩ := hrel
    by_cases hlt : i < L.length
    · have k1 : decide ((i : Int) < (L.length : Int)) = true := by simp; omega
      have k1' : (i : Int) < (L.length : Int) := by omega
      have hlt' : i < C.L.length := by rw [HL.out]; exact hlt
      obtain ⟨g, cap, e1, _, _, _⟩ := HH.out.1.sm hlt'
      have e2 := HH.out.2
      rw [e1, HL.out] at e2
      simp at e2
      obtain ⟨rfl, rfl⟩ := e2
      have hR := HH.out.1
      rw [e1] at hR
      have hc := hR.item (k := 0) hlt' (by decide) rfl
      have hLi : C.L[i] = L[i] := by simp [HL.out]
      rw [hLi] at hc
      have hsp : L = L.take i ++ L[i] :: L.drop (i + 1) := by rw [← List.drop_eq_getElem_cons hlt, List.take_append_drop]
      have hln : (L.take i).length = i := by rw [List.length_take]; omega
      have htk : L.take (i + 1) = L.take i ++ [L[i]] := by rw [List.take_add_one]; simp [hlt]
      have HS : Hid (L = L.take i ++ L[i] :: L.drop (i + 1) ∧ (L.take i).length = i ∧ L.take (i + 1) = L.take i ++ [L[i]]) := ⟨hsp, hln, htk⟩
      obtain ⟨x, hx⟩ : ∃ x, L[i] = x := ⟨_, rfl⟩
      rw [hx] at hc HS
      rw [Nat.add_zero] at hc
      clear hR hsp hln htk hx hLi e1
      by_cases hn : (x.n : Int) = n
      · have q1 : ((x.n : Int) == n) = true := by simpa using hn
        have HN : Hid ((x.n : Int) = n) := hn
        rw [hn] at hc q1
        clear hn
        go_wp2
        go_ret
        exact ⟨_, rfl, .inl ⟨_, _, _, HS.out.1, HN.out, by rw [HS.out.2.1]⟩, rfl⟩
      · have q1 : ((x.n : Int) == n) = false := by simpa using hn
        have HN : Hid ((x.n : Int) ≠ n) := hn
        obtain ⟨xn, hxn⟩ : ∃ xn, (x.n : Int) = xn := ⟨_, rfl⟩
        rw [hxn] at hc q1
        clear hn hxn
        go_wp2
        go_roundg (L.length - (i + 1))
        case measure => omega
        case rel =>
          refine ⟨i + 1, by omega, by go_num, rfl, Nat.le_refl _, (show ∀ y ∈ L.take (i + 1), (y.n : Int) ≠ n from fun y hy => ?_)⟩
          rw [HS.out.2.2] at hy
          rcases List.mem_append.1 hy with e | e
          · exact HX.out y e
          · simp at e; rw [e]; exact HN.out
    · have hie : i = L.length := by omega
      subst hie
      have k1 : decide ((L.length : Int) < (L.length : Int)) = false := by simp
      go_wp2
      go_ret
      exact ⟨_, rfl, .inr ⟨fun x hx => HX.out x (by rw [List.take_length]; exact hx), rfl⟩, rfl⟩
end Go.Proofs.Ytioloobeakjbeaa

namespace Go.Proofs.Ytioloobeakjbeaa
open Go.RowKit Go.Maps
attribute [local go_sem ↓] Go.wp_at_zero Go.wp_at_succ

theorem info92 : (Try.prog.info? 92).map (fun i => (i.zero, i.size, i.bytes)) = some (some (.agg #[.int .i64 0, .string ByteArray.empty, .bool false, .int .i64 0]), 4, 40) := by kernel_rfl

/-- v reads the items X. -/
def Js (w : World) (v : Value) (X : List It) : Prop :=
  (v = .slice none 0 0 ∧ X = []) ∨ ∃ a c, v = .slice (some a) X.length c ∧ ∀ j u, (jcells X)[j]? = some u → w.cell? (a.add j) = some u
theorem Js.kept {E : Nat → Prop} {w w' : World} {v : Value} {X : List It} (h : Js w v X) (hc : Chg E w w') (hn : ∀ g, v.ownBlock = some g → ¬ E g) : Js w' v X := by
  rcases h with h | ⟨a, c, rfl, hcell⟩
  · exact .inl h
  · refine .inr ⟨a, c, rfl, fun j u hu => hc.cell (hcell j u hu) ?_⟩
    have e : (a.add j).block = a.block := by unfold Addr.add; split <;> rfl
    rw [e]; exact hn _ rfl
theorem Js.ofOwns {w : World} {N : Nat} {v : Value} {n : Nat} {X : List It} (h : w.ownsRow N 92 4 v n (jcells X)) : Js w v X := by
  have hn : X.length = n := by have := h.1; rw [jcells_len] at this; omega
  subst hn
  rcases h.2 with ⟨rfl, h0⟩ | ⟨g, cap, cur, rfl, _⟩
  · exact .inl ⟨rfl, List.eq_nil_of_length_eq_zero h0⟩
  · exact .inr ⟨⟨g, 0, none⟩, cap, rfl, fun j u hu => h.cells (g := g) rfl j u hu⟩
/-- Items are appended. -/
theorem run_appJ (w : World) (ty : TypeId) (v x : Value) (L X : List It) (hown : w.ownsRow 0 92 4 v L.length (jcells L)) (hx : Js w x X) (hlen : L.length + X.length ≤ 1048576) :
    ∃ v' w', (Builtin.append_ #[45, 45] ty #[v, x]).run Try.prog w = .ok v' w' ∧ w'.ownsRow 0 92 4 v' (L ++ X).length (jcells (L ++ X)) ∧ Chg (fun k => v.ownBlock = some k) w w' ∧ (v'.ownBlock = v.ownBlock ∨ v'.ownBlock = some w.heap.size) := by
  obtain ⟨i, hi, hz, hs, hb⟩ := info_parts info92
  rcases hx with ⟨rfl, rfl⟩ | ⟨a, c, rfl, hcell⟩
  · refine ⟨v, w, run_append_owned_none w 0 45 ty 92 i 4 Try.underlying45 hi v _ _ hown, by rw [List.append_nil]; exact hown, Chg.refl _ _, .inl rfl⟩
  · obtain ⟨v', w', h1, h2, h3, _, h5⟩ := run_append_own_at (P := Try.prog) w 0 45 ty 92 i (.agg #[.int .i64 0, .string ByteArray.empty, .bool false, .int .i64 0]) 4 40 Try.underlying45 hi hz hs hb rfl (by decide) v L.length (jcells L) hown a X.length c (jcells X) (jcells_len X)
      hcell (jcells_one X) (by unfold maxLen; omega) (by omega) (Nat.zero_le _)
    refine ⟨v', w', h1, ?_, Chg.ofGrown h3, h5⟩
    rw [jcells_append, List.length_append]
    exact h2

/-- xs[:i]. -/
theorem slice_to (g n c i : Nat) (hi : i ≤ n) (hc : n ≤ c) (w : World) : (Instr.slice 45 (.slice (some ⟨g, 0, none⟩) n c) none (some (.int .i64 (i : Int))) none).run Try.prog w = .ok (.slice (some ⟨g, 0, none⟩) i c) w := by
  have hb : (Instr.sliceBounds true n c none (some (.int .i64 (i : Int))) none).run Try.prog w = .ok (0, i, c) w := by
    have hs2 : ∀ m code, i ≤ m → (Instr.sliceBound (.int .i64 (i : Int)) m code).run Try.prog w = .ok i w := fun m code hm => by rw [run_sliceBound (P := Try.prog) w .i64 (i : Int) m code (by omega) (by omega)]; simp
    simp [Instr.sliceBounds, hs2, Nat.le_trans hi hc]
  rw [run_slice_any w 45 _ _ _ (by kernel_rfl), hb]
  have hsz : (sizeOf (Try.prog.elem 45)).run Try.prog w = .ok 4 w := by kernel_rfl
  simp only [Result.andThen, hsz, sliced]
  by_cases e : c = 0
  · rw [if_pos e]; simp
  · rw [if_neg e]
    show Result.ok (Value.slice (some ((⟨g, 0, none⟩ : Addr).add (0 * 4))) _ _) w = _
    rw [Nat.zero_mul, add_zero_off]; simp
/-- xs[i:]. -/
theorem slice_fromJ (g n c i : Nat) (hi : i ≤ n) (hc : n ≤ c) : ∃ o, (i < n → o = i * 4) ∧ ∀ w, (Instr.slice 45 (.slice (some ⟨g, 0, none⟩) n c) (some (.int .i64 (i : Int))) none none).run Try.prog w = .ok (.slice (some ⟨g, o, none⟩) (n - i) (c - i)) w := by
  refine ⟨if c = i then 0 else i * 4, fun hl => by rw [if_neg (by omega)], fun w => ?_⟩
  have hb : (Instr.sliceBounds true n c (some (.int .i64 (i : Int))) none none).run Try.prog w = .ok (i, n, c) w := by
    have hs2 : ∀ code, (Instr.sliceBound (.int .i64 (i : Int)) n code).run Try.prog w = .ok i w := fun code => by rw [run_sliceBound (P := Try.prog) w .i64 (i : Int) n code (by omega) (by omega)]; simp
    simp [Instr.sliceBounds, hs2]
  rw [run_slice_any w 45 _ _ _ (by kernel_rfl), hb]
  have hsz : (sizeOf (Try.prog.elem 45)).run Try.prog w = .ok 4 w := by kernel_rfl
  simp only [Result.andThen, hsz, sliced]
  by_cases e : c = i
  · rw [if_pos e, if_pos e]
  · rw [if_neg e, if_neg e]
    show Result.ok (Value.slice (some ((⟨g, 0, none⟩ : Addr).add (i * 4))) _ _) w = _
    rw [add_zero_off]

/-- append, under a name of its own: for the walk. -/
def appG (ats : Array TypeId) (ty : TypeId) (args : Array Value) : Sem Value := Builtin.append_ ats ty args
theorem appG_eq (ats : Array TypeId) (ty : TypeId) (args : Array Value) : Builtin.append_ ats ty args = appG ats ty args := rfl

/-- The one that goes: its place, or -1. -/
def Goes (C : Ca) (k : Int) : Prop := (∃ xs x ys, C.L = xs ++ x :: ys ∧ C.goes = some x ∧ k = (xs.length : Int)) ∨ (C.goes = none ∧ k = -1)

set_option maxHeartbeats 800000 in
theorem rvictim_any (H : Nat → Prop) (c q : Nat) (C : Ca) (lv : Value) (w : World) (h : RcAt w H c q C lv) (hl : C.L.length ≤ 1024) :
    Calls Try.prog 80 #[.pointer (some ⟨c, 0, none⟩)] w fun e w' => ∃ k, e = .returned (.int .i64 k) ∧ Goes C k ∧ w' = w := by
  have c2 := h.c2
  obtain ⟨a, cp, hlv, _⟩ := h.form
  rw [hlv] at c2
  have HH : Hid (RcAt w H c q C lv ∧ lv = .slice a C.L.length cp) := ⟨h, hlv⟩
  clear h hlv
  obtain ⟨L, hL⟩ : ∃ L, C.L = L := ⟨_, rfl⟩
  have HL : Hid (C.L = L) := hL
  rw [hL] at c2 hl
  clear hL
  go_enter Try.func80, Try.ntmps80
  go_wp2_with fail
  go_loopg [3] (L.length) (fun gg x wr => ∃ i : Nat, i ≤ L.length ∧ x = .int .i64 (i : Int) ∧ wr = w ∧ L.length - i ≤ gg ∧ Hid (∀ y ∈ L.take i, (y.pins == 0) = false))
  case atStart => exact ⟨0, Nat.zero_le _, rfl, rfl, by omega, (show ∀ y ∈ L.take 0, (y.pins == 0) = false by simp)⟩
  case round =>
    obtain ⟨i, hi, rfl, rfl, hgg, HX⟩ := hrel
    by_cases hlt : i < L.length
    · have k1 : decide ((i : Int) < (L.length : Int)) = true := by simp; omega
      have k1' : (i : Int) < (L.length : Int) := by omega
      have hlt' : i < C.L.length := by rw [HL.out]; exact hlt
      obtain ⟨g, cap, e1, _, _, _⟩ := HH.out.1.sm hlt'
      have e2 := HH.out.2
      rw [e1, HL.out] at e2
      simp at e2
      obtain ⟨rfl, rfl⟩ := e2
      have hR := HH.out.1
      rw [e1] at hR
      have hc := hR.item (k := 3) hlt' (by decide) rfl
      have hLi : C.L[i] = L[i] := by simp [HL.out]
      rw [hLi] at hc
      have hsp : L = L.take i ++ L[i] :: L.drop (i + 1) := by rw [← List.drop_eq_getElem_cons hlt, List.take_append_drop]
      have hln : (L.take i).length = i := by rw [List.length_take]; omega
      have htk : L.take (i + 1) = L.take i ++ [L[i]] := by rw [List.take_add_one]; simp [hlt]
      have HS : Hid (L = L.take i ++ L[i] :: L.drop (i + 1) ∧ (L.take i).length = i ∧ L.take (i + 1) = L.take i ++ [L[i]]) := ⟨hsp, hln, htk⟩
      obtain ⟨x, hx⟩ : ∃ x, L[i] = x := ⟨_, rfl⟩
      rw [hx] at hc HS
      clear hR hsp hln htk hx hLi e1
      by_cases hn : x.pins = 0
      · have q1 : ((x.pins : Nat) : Int) = 0 := by omega
        have HN : Hid (x.pins = 0) := hn
        rw [q1] at hc
        clear hn q1
        go_wp2
        go_ret
        refine ⟨_, rfl, .inl ⟨_, x, _, HL.out.trans HS.out.1, ?_, by rw [HS.out.2.1]⟩, rfl⟩
        unfold Ca.goes
        rw [HL.out, HS.out.1, List.find?_append, List.find?_eq_none.2 (fun y hy => by have := HX.out y hy; simpa using this)]
        simp [HN.out]
      · have q1 : (((x.pins : Nat) : Int) == 0) = false := by simp; omega
        have HN : Hid ((x.pins == 0) = false) := (show (x.pins == 0) = false by simpa using hn)
        obtain ⟨xn, hxn⟩ : ∃ xn, (x.pins : Int) = xn := ⟨_, rfl⟩
        rw [hxn] at hc q1
        clear hn hxn
        go_wp2
        go_roundg (L.length - (i + 1))
        case measure => omega
        case rel =>
          refine ⟨i + 1, by omega, by go_num, rfl, Nat.le_refl _, (show ∀ y ∈ L.take (i + 1), (y.pins == 0) = false from fun y hy => ?_)⟩
          rw [HS.out.2.2] at hy
          rcases List.mem_append.1 hy with e | e
          · exact HX.out y e
          · simp at e; rw [e]; exact HN.out
    · have hie : i = L.length := by omega
      subst hie
      have k1 : decide ((L.length : Int) < (L.length : Int)) = false := by simp
      go_wp2
      go_ret
      refine ⟨_, rfl, .inr ⟨?_, rfl⟩, rfl⟩
      unfold Ca.goes
      rw [HL.out]
      exact List.find?_eq_none.2 (fun y hy => by have := HX.out y (by rw [List.take_length]; exact hy); simpa using this)

/-- Who: the place of the one that has to go (-1: there is room), and whether there is one. -/
def Who (C : Ca) (k : Int) (b : Bool) : Prop := (C.L.length < C.size ∧ k = -1 ∧ b = true) ∨ (¬ C.L.length < C.size ∧ Goes C k ∧ b = decide (0 ≤ k))

set_option maxHeartbeats 800000 in
theorem rwho_any (H : Nat → Prop) (c q : Nat) (C : Ca) (lv : Value) (w : World) (h : RcAt w H c q C lv) (hl : C.L.length ≤ 1024) :
    Calls Try.prog 60 #[.pointer (some ⟨c, 0, none⟩)] w fun e w' => ∃ k b, e = .returned (.tuple #[.int .i64 k, .bool b]) ∧ Who C k b ∧ Chg (fun _ => False) w w' := by
  have c1 := h.c1
  have c2 := h.c2
  obtain ⟨a, cp, hlv, _⟩ := h.form
  rw [hlv] at c2
  have HV : Hid (Calls Try.prog 80 #[.pointer (some ⟨c, 0, none⟩)] w.drew fun e w' => ∃ k, e = .returned (.int .i64 k) ∧ Goes C k ∧ w' = w.drew) := rvictim_any H c q C lv w.drew (h.kept (Chg.drew (fun _ => False) w) (fun _ _ h => h)) hl
  clear h hlv
  by_cases hs : C.L.length < C.size
  · have k1 : decide ((C.L.length : Int) < (C.size : Int)) = true := by simp; omega
    have HS : Hid (C.L.length < C.size) := hs
    obtain ⟨n, hn⟩ : ∃ n, C.L.length = n := ⟨_, rfl⟩
    obtain ⟨s, hs2⟩ : ∃ n, C.size = n := ⟨_, rfl⟩
    rw [hn, hs2] at k1 hs
    rw [hn] at c2
    rw [hs2] at c1
    clear hn hs2 hl
    go_enter Try.func60, Try.ntmps60
    go_wp2_with fail
    go_region
    all_goals
      go_wp2
      go_ret2
      exact ⟨_, _, rfl, .inl ⟨HS.out, rfl, rfl⟩, Chg.drew _ _⟩
  · have k1 : decide ((C.L.length : Int) < (C.size : Int)) = false := by simp; omega
    have HS : Hid (¬ C.L.length < C.size) := hs
    have HG : Hid (∀ k, Goes C k → ¬ C.L.length < C.size → Who C k (decide (0 ≤ k))) := (show ∀ k, Goes C k → ¬ C.L.length < C.size → Who C k (decide (0 ≤ k)) from fun k hk hs => .inr ⟨hs, hk, rfl⟩)
    obtain ⟨n, hn⟩ : ∃ n, C.L.length = n := ⟨_, rfl⟩
    obtain ⟨s, hs2⟩ : ∃ n, C.size = n := ⟨_, rfl⟩
    rw [hn, hs2] at k1 hs
    rw [hn] at c2
    rw [hs2] at c1
    clear hn hs2 hl
    go_enter Try.func60, Try.ntmps60
    go_wp2_with fail
    go_region
    all_goals
      go_wp2_with fail
      refine (show Calls _ _ _ _ _ from HV.out).mono ?_
      rintro e w1 ⟨k, rfl, hk, rfl⟩
      have HK : Hid (Goes C k) := hk
      clear hk c1 c2
      go_wp2
      go_ret2
      exact ⟨_, _, rfl, HG.out k HK.out HS.out, Chg.drew _ _⟩
end Go.Proofs.Ytioloobeakjbeaa
