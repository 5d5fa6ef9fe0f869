/-
  The contracts of Drop and New of package cache.
-/
import Derived.Test.YtioloobeakjbeaaCMem
namespace Go.Proofs.Ytioloobeakjbeaa
open Go.RowKit Go.Maps

/-- The world behind Drop. -/
def dropW (w : World) (c : Nat) : World :=
  (((w.setCell ⟨c, 2, none⟩ (.map (some w.heap.size))).setCell ⟨c, 3, none⟩ (.pointer (some ⟨w.heap.size + 1, 0, none⟩))).alloc (.map #[] 0)).alloc
    (.cells #[.int .i64 0, .slice none 0 0, .bool false, .int .i64 0, .pointer (some ⟨w.heap.size + 1, 0, none⟩), .pointer (some ⟨w.heap.size + 1, 0, none⟩)] 95)
set_option maxHeartbeats 1600000 in
set_option maxRecDepth 100000 in
theorem drop_low (c : Nat) (w : World) (cs : Array Value) (hb : w.heap[c]? = some (.cells cs 77 (0, 0))) (h2 : ∃ v, w.cell? ⟨c, 2, none⟩ = some v) (h3 : ∃ v, w.cell? ⟨c, 3, none⟩ = some v) :
    Calls Try.prog 30 #[.pointer (some ⟨c, 0, none⟩)] w fun e w' => e = .returned (.tuple #[]) ∧ w' = (dropW w c).drew := by
  obtain ⟨v2, h2⟩ := h2
  obtain ⟨v3, h3⟩ := h3
  have hlt : c < w.heap.size := (Array.getElem?_eq_some_iff.1 hb).1
  have f2 : w.frozen? ⟨c, 2, none⟩ = false := by simp [World.frozen?, hb]
  have f3 : w.frozen? ⟨c, 3, none⟩ = false := by simp [World.frozen?, hb]
  have hmm := @run_makeMap Try.prog
  clear hb
  go_enter Try.func30, Try.ntmps30
  go_wp2_with fail
  go_region
  all_goals
    go_end0
    exact ⟨rfl, rfl⟩

/-- A node of nothing. -/
def noNode (r : Nat) : Nat → Node := fun _ => ⟨0, .slice none 0 0, [], false, 0, r, r⟩
theorem drop_facts {w : World} {c p nb : Nat} {C : Ca} {mv rv : Value} (G : Nat → Prop) (hwf : C.Wf nb) (hnb : nb ≤ 16384)
    (hb : w.heap[c]? = some (.cells #[.pointer (some ⟨p, 0, none⟩), .int .i64 (C.size : Int), mv, rv, .int .i64 (C.hits : Int), .int .i64 (C.misses : Int), .int .i64 (C.evicted : Int)] 77 (0, 0)))
    (hG : G c) (hl : ∀ b, G b → b < w.heap.size) :
    CaAt (dropW w c).drew (fun b => G b ∨ b = w.heap.size ∨ b = w.heap.size + 1) c p nb C.drop w.heap.size (w.heap.size + 1) [] (noNode (w.heap.size + 1)) ∧ Chg (fun b => b = c) w (dropW w c).drew := by
  have hlt : c < w.heap.size := (Array.getElem?_eq_some_iff.1 hb).1
  have hb1 := heap_setCell_same w c 2 _ _ (.map (some w.heap.size)) hb
  have hb2 := heap_setCell_same _ c 3 _ _ (.pointer (some ⟨w.heap.size + 1, 0, none⟩)) hb1
  simp at hb2
  obtain ⟨W, hW⟩ : ∃ W, (w.setCell ⟨c, 2, none⟩ (.map (some w.heap.size))).setCell ⟨c, 3, none⟩ (.pointer (some ⟨w.heap.size + 1, 0, none⟩)) = W := ⟨_, rfl⟩
  have hsz : W.heap.size = w.heap.size := by rw [← hW]; simp
  have c1 : Chg (fun b => b = c) w W := by rw [← hW]; exact (Chg.setCell (S := fun b => b = c) w _ _ rfl).trans (Chg.setCell (S := fun b => b = c) _ _ _ rfl) (fun _ _ h => h)
  rw [hW] at hb2
  have hD : (dropW w c).drew = ((W.alloc (.map #[] 0)).alloc (.cells #[.int .i64 0, .slice none 0 0, .bool false, .int .i64 0, .pointer (some ⟨w.heap.size + 1, 0, none⟩), .pointer (some ⟨w.heap.size + 1, 0, none⟩)] 95)).drew := by rw [← hW]; rfl
  rw [hD]
  have c2 : Chg (fun _ => False) W ((W.alloc (.map #[] 0)).alloc (.cells #[.int .i64 0, .slice none 0 0, .bool false, .int .i64 0, .pointer (some ⟨w.heap.size + 1, 0, none⟩), .pointer (some ⟨w.heap.size + 1, 0, none⟩)] 95)).drew :=
    ((Chg.alloc (fun _ => False) W _).trans (Chg.alloc (fun _ => False) _ _) (fun _ _ h => h)).trans (Chg.drew _ _) (fun _ _ h => h)
  refine ⟨⟨Ca.drop_wf hwf, hnb, ?_, ?_, ?_, by simp, ⟨rfl, rfl⟩, rfl, fun a ha => (List.not_mem_nil ha).elim, fun a ha => (List.not_mem_nil ha).elim, .inl hG, .inr (.inl rfl), ?_, fun a ha => (List.not_mem_nil ha).elim, ?_⟩, c1.trans c2 (fun _ _ h => h.elim)⟩
  · exact (c2.block c (by rw [hsz]; exact hlt) (fun h => h)).trans hb2
  · have hm := (Mp.new W nb (noNode (w.heap.size + 1))).kept (w' := ((W.alloc (.map #[] 0)).alloc (.cells #[.int .i64 0, .slice none 0 0, .bool false, .int .i64 0, .pointer (some ⟨w.heap.size + 1, 0, none⟩), .pointer (some ⟨w.heap.size + 1, 0, none⟩)] 95)).drew) (Below.heap_alloc _ _ _ (by simp))
    rw [hsz] at hm
    exact hm
  · intro a ha
    simp at ha
    subst ha
    have := heap_alloc_new (W.alloc (.map #[] 0)) (.cells #[.int .i64 0, .slice none 0 0, .bool false, .int .i64 0, .pointer (some ⟨w.heap.size + 1, 0, none⟩), .pointer (some ⟨w.heap.size + 1, 0, none⟩)] 95)
    rw [World.size_alloc, hsz] at this
    exact this
  · intro a ha
    simp at ha
    exact .inr (.inr ha)
  · intro b hb
    show b < ((W.alloc (.map #[] 0)).alloc _).heap.size
    rw [World.size_alloc, World.size_alloc, hsz]
    rcases hb with h | h | h
    · have := hl b h; omega
    · omega
    · omega

set_option maxHeartbeats 400000 in
theorem drop_any (G : Nat → Prop) (c p nb : Nat) (C : Ca) (m r : Nat) (ls : List Nat) (nd : Nat → Node) (w : World) (h : CaAt w G c p nb C m r ls nd) :
    Calls Try.prog 30 #[.pointer (some ⟨c, 0, none⟩)] w fun e w' => e = .returned (.tuple #[]) ∧ ∃ G' m' r' nd', CaAt w' G' c p nb C.drop m' r' [] nd' ∧ Chg (fun b => G b) w w' ∧ ∀ b, G' b → G b ∨ w.heap.size ≤ b := by
  refine (drop_low c w _ h.blk ⟨_, h.c2⟩ ⟨_, h.c3⟩).mono ?_
  rintro e w' ⟨rfl, rfl⟩
  obtain ⟨h1, h2⟩ := drop_facts G h.wf h.nbt h.blk h.fc h.lt
  refine ⟨rfl, _, _, _, _, h1, h2.mono (fun b _ e => by rw [e]; exact h.fc), fun b hb => ?_⟩
  rcases hb with h | h | h
  · exact .inl h
  · exact .inr (by omega)
  · exact .inr (by omega)

set_option maxHeartbeats 800000 in
theorem cnew_bad (p : Nat) (n : Int) (w : World) (h : n < 1 ∨ 1024 < n) : Calls Try.prog 13 #[.pointer (some ⟨p, 0, none⟩), .int .i64 n] w fun e w' => e = .returned (.tuple #[.pointer none, .int .i64 1]) ∧ w' = w := by
  by_cases h1 : n < 1
  · have k1 : decide (n < 1) = true := by simpa using h1
    go_enter Try.func13, Try.ntmps13
    go_wp2
    go_ret2
    exact ⟨rfl, rfl⟩
  · have k1 : decide (n < 1) = false := by simpa using h1
    have k2 : decide (1024 < n) = true := by simp; omega
    clear h h1
    go_enter Try.func13, Try.ntmps13
    go_wp2
    go_ret2
    exact ⟨rfl, rfl⟩

set_option maxHeartbeats 800000 in
theorem cnew_ok (p size nb : Nat) (w : World) (h0 : 0 < size) (h1 : size ≤ 1024) (hnb : nb ≤ 16384) : Calls Try.prog 13 #[.pointer (some ⟨p, 0, none⟩), .int .i64 (size : Int)] w fun e w' =>
    ∃ c G m r nd, e = .returned (.tuple #[.pointer (some ⟨c, 0, none⟩), .int .i64 0]) ∧ CaAt w' G c p nb (Ca.new size) m r [] nd ∧ Chg (fun _ => False) w w' ∧ ∀ b, G b → w.heap.size ≤ b := by
  have k1 : ¬ ((size : Int) < 1) := by omega
  have k2 : ¬ ((1024 : Int) < (size : Int)) := by omega
  have HB : Hid ((w.alloc (.cells #[.pointer (some ⟨p, 0, none⟩), .int .i64 (size : Int), .map none, .pointer none, .int .i64 0, .int .i64 0, .int .i64 0] 77)).heap[w.heap.size]? = some (.cells #[.pointer (some ⟨p, 0, none⟩), .int .i64 ((Ca.new size).size : Int), .map none, .pointer none, .int .i64 ((Ca.new size).hits : Int), .int .i64 ((Ca.new size).misses : Int), .int .i64 ((Ca.new size).evicted : Int)] 77 (0, 0))) := heap_alloc_new w _
  have HW : Hid ((Ca.new size).Wf nb) := Ca.new_wf h0 h1
  clear h0 h1
  go_enter Try.func13, Try.ntmps13
  go_wp2_with fail
  refine (drop_low w.heap.size _ _ HB.out ⟨_, by rw [cell_of_row _ _ 2 _ _ _ HB.out]; rfl⟩ ⟨_, by rw [cell_of_row _ _ 3 _ _ _ HB.out]; rfl⟩).mono ?_
  rintro e w1 ⟨rfl, hw1⟩
  obtain ⟨f1, f2⟩ := drop_facts (fun b => b = w.heap.size) HW.out hnb HB.out rfl (fun b e => by rw [e]; simp)
  rw [← hw1] at f1 f2
  have HF : Hid (CaAt w1 (fun b => b = w.heap.size ∨ b = (w.alloc (.cells #[.pointer (some ⟨p, 0, none⟩), .int .i64 (size : Int), .map none, .pointer none, .int .i64 0, .int .i64 0, .int .i64 0] 77)).heap.size ∨ b = (w.alloc (.cells #[.pointer (some ⟨p, 0, none⟩), .int .i64 (size : Int), .map none, .pointer none, .int .i64 0, .int .i64 0, .int .i64 0] 77)).heap.size + 1) w.heap.size p nb (Ca.new size) _ _ [] _) := f1
  have HC : Hid (Chg (fun _ => False) w w1) := ⟨f2.os, f2.tape, f2.output, Nat.le_trans (by simp) f2.size, fun k hk _ => (f2.block k (by simp; omega) (by omega)).trans (Below.heap_alloc w _ k hk)⟩
  clear f1 f2 hw1 HB HW
  go_wp2
  go_ret2
  refine ⟨_, _, _, _, _, rfl, HF.out, HC.out, fun b hb => ?_⟩
  rcases hb with h | h | h
  · omega
  · rw [h]; simp
  · rw [h]; simp; omega
end Go.Proofs.Ytioloobeakjbeaa
