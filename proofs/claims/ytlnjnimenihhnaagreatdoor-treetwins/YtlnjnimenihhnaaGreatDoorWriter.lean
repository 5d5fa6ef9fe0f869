/-
  Contracts of the writer of package codec: what NewWriter, number, U8, U16, U32, Fixed, Bytes and Done leave.
-/
import Derived.Test.YtlnjnimenihhnaaGreatDoorMem
import Derived.Test.YtlnjnimenihhnaaGreatDoorProg
import Derived.Handy
import Derived.WalkSpells
import Derived.WalkLawsBesides
namespace Go.Proofs.YtlnjnimenihhnaaGreatDoor
open Go.RowKit

theorem cinfo5 : (Tryz.prog.info? 5).map (fun i => (i.zero, i.size, i.bytes)) = some (some (.int .u8 0), 1, 1) := by kernel_rfl

/-- A writer: its struct lies in block p, its field holds v, and v owns the bytes xs; all of it among the blocks from N on. -/
structure WrT (T : TypeId) (N : Nat) (w : World) (p : Nat) (v : Value) (xs : List Int) : Prop where
  le : N ≤ p
  blk : w.heap[p]? = some (.cells #[v] T (0, 0))
  own : w.ownsRow N 5 1 v xs.length (bcells xs)
  ne : v.ownBlock ≠ some p

/-- From (w, v) to (w', v'): the writer at p holds xs'; nothing else of what was there has changed. -/
structure WrToT (T : TypeId) (N p : Nat) (w : World) (v : Value) (w' : World) (v' : Value) (xs' : List Int) : Prop where
  wr : WrT T N w' p v' xs'
  chg : Chg (fun k => k = p ∨ v.ownBlock = some k) w w'
  at' : v'.ownBlock = v.ownBlock ∨ ∀ k, v'.ownBlock = some k → w.heap.size ≤ k

theorem WrT.lt {T : TypeId} {N p : Nat} {w : World} {v : Value} {xs : List Int} (h : WrT T N w p v xs) : p < w.heap.size := (Array.getElem?_eq_some_iff.1 h.blk).1
theorem WrT.cell {T : TypeId} {N p : Nat} {w : World} {v : Value} {xs : List Int} (h : WrT T N w p v xs) : w.cell? ⟨p, 0, none⟩ = some v := by
  rw [cell_of_row w p 0 _ _ _ h.blk]; rfl
theorem WrT.frozen {T : TypeId} {N p : Nat} {w : World} {v : Value} {xs : List Int} (h : WrT T N w p v xs) : w.frozen? ⟨p, 0, none⟩ = false := by
  simp [World.frozen?, h.blk]
theorem WrT.slice {T : TypeId} {N p : Nat} {w : World} {v : Value} {xs : List Int} (h : WrT T N w p v xs) : ∃ a c, v = .slice a xs.length c := by
  rcases h.own.2 with ⟨rfl, h0⟩ | ⟨g, cap, cur, rfl, _⟩
  · exact ⟨none, 0, by rw [h0]⟩
  · exact ⟨_, _, rfl⟩
theorem WrToT.refl {T : TypeId} {N p : Nat} {w : World} {v : Value} {xs : List Int} (h : WrT T N w p v xs) : WrToT T N p w v w v xs := ⟨h, Chg.refl _ _, .inl rfl⟩
theorem WrToT.trans {T : TypeId} {N p : Nat} {w w1 w2 : World} {v v1 v2 : Value} {x1 x2 : List Int} (a : WrToT T N p w v w1 v1 x1) (b : WrToT T N p w1 v1 w2 v2 x2) : WrToT T N p w v w2 v2 x2 := by
  refine ⟨b.wr, a.chg.trans b.chg ?_, ?_⟩
  · intro i hi hs
    rcases hs with h | h
    · exact .inl h
    · rcases a.at' with e | e
      · exact .inr (e ▸ h)
      · have := e i h; omega
  · rcases b.at' with e | e
    · rcases a.at' with f | f
      · exact .inl (e.trans f)
      · exact .inr (fun k hk => f k (e ▸ hk))
    · exact .inr (fun k hk => Nat.le_trans a.chg.size (e k hk))
/-- Behind an append (into w1) the new slice is stored into the struct. -/
theorem WrT.put {T : TypeId} {N p : Nat} {w w1 : World} {v v' : Value} {xs xs' : List Int} (h : WrT T N w p v xs) (hc : Chg (fun k => v.ownBlock = some k) w w1) (ho : w1.ownsRow N 5 1 v' xs'.length (bcells xs'))
    (ha : v'.ownBlock = v.ownBlock ∨ ∀ k, v'.ownBlock = some k → w.heap.size ≤ k) : WrToT T N p w v (w1.setCell ⟨p, 0, none⟩ v') v' xs' := by
  have hne : v'.ownBlock ≠ some p := by
    rcases ha with e | e
    · rw [e]; exact h.ne
    · intro hk; have := e p hk; have := h.lt; omega
  have hb : w1.heap[p]? = some (.cells #[v] T (0, 0)) := (hc.block p h.lt h.ne).trans h.blk
  refine ⟨⟨h.le, ?_, ?_, hne⟩, ?_, ha⟩
  · have := heap_setCell_same w1 p 0 #[v] T v' hb
    simpa using this
  · have hg : w1.grownBy (w1.setCell ⟨p, 0, none⟩ v') (some p) := ⟨rfl, rfl, rfl, by simp, fun k _ hk => Below.heap_setCell _ _ _ _ (fun e => hk (by simp [e]))⟩
    exact ho.kept hg (.inr hne)
  · exact (hc.mono (fun i _ hi => .inr hi)).trans (Chg.setCell (S := fun k => k = p) w1 ⟨p, 0, none⟩ v' rfl) (fun i _ hi => .inl hi)

theorem own_form {w : World} {N n : Nat} {v : Value} {xs : List Value} (h : w.ownsRow N 5 1 v n xs) (h0 : 0 < n) : ∃ g cap, v = .slice (some ⟨g, 0, none⟩) n cap := by
  rcases h.2 with ⟨_, h⟩ | ⟨g, cap', _, h, _⟩
  · omega
  · exact ⟨g, cap', h⟩
/-- One append, and the store. -/
theorem WrT.pushAt {T : TypeId} {N p : Nat} {w w1 : World} {v v' : Value} {xs zs : List Int} {n : Nat} (h : WrT T N w p v xs) (hg : w.grownBy w1 v.ownBlock) (ho : w1.ownsRow N 5 1 v' n (bcells zs))
    (ha : v'.ownBlock = v.ownBlock ∨ v'.ownBlock = some w.heap.size) : WrToT T N p w v (w1.setCell ⟨p, 0, none⟩ v') v' zs ∧ w1.cell? ⟨p, 0, none⟩ = some v ∧ w1.frozen? ⟨p, 0, none⟩ = false := by
  have hc : Chg (fun k => v.ownBlock = some k) w w1 := Chg.ofGrown hg
  have hl : zs.length = n := by have := ho.1; simpa [bcells] using this
  have hb : w1.heap[p]? = some (.cells #[v] T (0, 0)) := (hc.block p h.lt h.ne).trans h.blk
  refine ⟨h.put hc (hl ▸ ho) ?_, ?_, ?_⟩
  · rcases ha with e | e
    · exact .inl e
    · refine .inr (fun k hk => ?_)
      rw [e] at hk
      simp at hk; omega
  · rw [cell_of_row w1 p 0 _ _ _ hb]; rfl
  · simp [World.frozen?, hb]
/-- One append whose source was laid in a new block, and the store. -/
theorem WrT.push {T : TypeId} {N p : Nat} {w w1 : World} {v v' : Value} {xs zs : List Int} {o : Obj} {n : Nat} (h : WrT T N w p v xs) (hg : (w.alloc o).grownBy w1 v.ownBlock) (ho : w1.ownsRow N 5 1 v' n (bcells zs))
    (ha : v'.ownBlock = v.ownBlock ∨ v'.ownBlock = some (w.heap.size + 1)) : WrToT T N p w v (w1.setCell ⟨p, 0, none⟩ v') v' zs ∧ w1.cell? ⟨p, 0, none⟩ = some v ∧ w1.frozen? ⟨p, 0, none⟩ = false := by
  have hc : Chg (fun k => v.ownBlock = some k) w w1 := (Chg.alloc _ w o).trans (Chg.ofGrown hg) (fun _ _ h => h)
  have hl : zs.length = n := by have := ho.1; simpa [bcells] using this
  have hb : w1.heap[p]? = some (.cells #[v] T (0, 0)) := (hc.block p h.lt h.ne).trans h.blk
  refine ⟨h.put hc (hl ▸ ho) ?_, ?_, ?_⟩
  · rcases ha with e | e
    · exact .inl e
    · refine .inr (fun k hk => ?_)
      rw [e] at hk
      simp at hk; omega
  · rw [cell_of_row w1 p 0 _ _ _ hb]; rfl
  · simp [World.frozen?, hb]

/-- The writer of package codec. -/
abbrev Wr (N : Nat) (w : World) (p : Nat) (v : Value) (xs : List Int) : Prop := WrT 189 N w p v xs
abbrev WrTo (N p : Nat) (w : World) (v : Value) (w' : World) (v' : Value) (xs' : List Int) : Prop := WrToT 189 N p w v w' v' xs'

/-- The lowest k bytes of n, the lowest first. -/
def leTo (n : Int) (k : Nat) : List Int := (List.range k).map fun i => (n / 256 ^ i) % 256
theorem leTo_succ (n : Int) (k : Nat) : leTo n (k + 1) = leTo n k ++ [(n / 256 ^ k) % 256] := by simp [leTo, List.range_succ]
theorem leTo_len (n : Int) (k : Nat) : (leTo n k).length = k := by simp [leTo]

theorem div_pow (n : Int) (k : Nat) : n / 256 ^ k / 256 = n / 256 ^ (k + 1) := by
  have h : ¬ ((256 : Int) ^ k < 0) := Int.not_lt.2 (Int.pow_nonneg (by decide))
  rw [Int.pow_succ, Int.ediv_ediv]
  simp [h]

set_option maxHeartbeats 800000 in
set_option maxRecDepth 100000 in
theorem number_any (N p : Nat) (n : Int) (size : Nat) (v : Value) (xs : List Int) (w : World) (hw : Wr N w p v xs) (hsz : size ≤ 8) (hlen : xs.length + size ≤ 1099511627776) :
    Calls Tryz.prog 132 #[.pointer (some ⟨p, 0, none⟩), .int .i64 n, .int .i64 size] w fun e w' => e = .returned (.tuple #[]) ∧ ∃ v', WrTo N p w v w' v' (xs ++ leTo n size) := by
  obtain ⟨i0, hi, hz0, hz1, hz2⟩ := info_parts cinfo5
  go_enter Tryz.func132, Tryz.ntmps132
  go_wp2
  go_loopw [1, 7] (fun m i wr => ∃ k : Nat, k ≤ size ∧ i = .int .i64 k ∧ m = .int .i64 (n / 256 ^ k) ∧ ∃ v', WrTo N p w v wr v' (xs ++ leTo n k)) (fun _ i _ => size - (intOf i).toNat)
  case atStart => exact ⟨0, Nat.zero_le _, rfl, by simp, v, by simpa [leTo] using WrToT.refl hw⟩
  case round =>
    obtain ⟨k, hk, rfl, rfl, v', hto⟩ := hrel
    have hcl := hto.wr.cell
    have hfr := hto.wr.frozen
    by_cases hlt : k < size
    · have hll := leTo_len n k
      go_wp2_with (at_builtin; go_must (refine wpList_app rfl (.tmp 13) (.tmp 16) 33 rfl N i0 Tryz.underlying33 hi hz0 hz1 hz2 _ _ _ _ _ rfl (hto.wr.own.alloc _) rfl (Bs.one _ _) ?c1 ?c2 ?next))
      case c1 => simp; omega
      case c2 => have := hto.wr.lt; have := hto.wr.le; simp; omega
      case next =>
        intro v2 w1 hown hgrow hat
        obtain ⟨ht2, hc1, hf1⟩ := hto.wr.push hgrow hown hat
        obtain ⟨g, cap, hv2⟩ := own_form hown (by simp)
        rw [← leTo_succ] at ht2
        have ht3 := hto.trans ht2
        subst hv2
        clear hown hgrow hat ht2 hcl hfr hto
        go_wp2
        go_roundw
        case rel => exact ⟨k + 1, by omega, by go_num, by rw [div_pow], _, ht3⟩
        case measure => simp [intOf]; omega
    · go_wp2
      go_end0
      have e : k = size := by omega
      subst e
      exact ⟨rfl, v', hto⟩

set_option maxHeartbeats 800000 in
theorem u8_any (N p : Nat) (n : Int) (v : Value) (xs : List Int) (w : World) (hw : Wr N w p v xs) (hlen : xs.length + 1 ≤ 1099511627776) :
    Calls Tryz.prog 121 #[.pointer (some ⟨p, 0, none⟩), .int .i64 n] w fun e w' => e = .returned (.tuple #[]) ∧ ∃ v', WrTo N p w v w' v' (xs ++ leTo n 1) := by
  go_enter Tryz.func121, Tryz.ntmps121
  go_wp2_with fail
  refine (number_any N p n 1 v xs _ hw (by omega) hlen).mono ?_
  rintro e w' ⟨rfl, h⟩
  go_wp2
  go_end0
  exact ⟨rfl, h⟩
set_option maxHeartbeats 800000 in
theorem u16_any (N p : Nat) (n : Int) (v : Value) (xs : List Int) (w : World) (hw : Wr N w p v xs) (hlen : xs.length + 2 ≤ 1099511627776) :
    Calls Tryz.prog 122 #[.pointer (some ⟨p, 0, none⟩), .int .i64 n] w fun e w' => e = .returned (.tuple #[]) ∧ ∃ v', WrTo N p w v w' v' (xs ++ leTo n 2) := by
  go_enter Tryz.func122, Tryz.ntmps122
  go_wp2_with fail
  refine (number_any N p n 2 v xs _ hw (by omega) hlen).mono ?_
  rintro e w' ⟨rfl, h⟩
  go_wp2
  go_end0
  exact ⟨rfl, h⟩
set_option maxHeartbeats 800000 in
theorem u32_any (N p : Nat) (n : Int) (v : Value) (xs : List Int) (w : World) (hw : Wr N w p v xs) (hlen : xs.length + 4 ≤ 1099511627776) :
    Calls Tryz.prog 133 #[.pointer (some ⟨p, 0, none⟩), .int .i64 n] w fun e w' => e = .returned (.tuple #[]) ∧ ∃ v', WrTo N p w v w' v' (xs ++ leTo n 4) := by
  go_enter Tryz.func133, Tryz.ntmps133
  go_wp2_with fail
  refine (number_any N p n 4 v xs _ hw (by omega) hlen).mono ?_
  rintro e w' ⟨rfl, h⟩
  go_wp2
  go_end0
  exact ⟨rfl, h⟩

set_option maxHeartbeats 800000 in
theorem newWriter_any (N : Nat) (w : World) (hN : N ≤ w.heap.size) :
    Calls Tryz.prog 120 #[] w fun e w' => e = .returned (.pointer (some ⟨w.heap.size, 0, none⟩)) ∧ Wr N w' w.heap.size (.slice none 0 0) [] ∧ w' = w.alloc (.cells #[.slice none 0 0] 189) := by
  go_enter Tryz.func120, Tryz.ntmps120
  go_wp2
  go_ret
  refine ⟨rfl, ⟨hN, heap_alloc_new w _, World.ownsRow_nil _ _ _ _, by simp [Value.ownBlock]⟩, rfl⟩

/-- A copy: a slice of its own that reads the same; nothing that was there has changed. -/
def FreshN (N : Nat) (w w' : World) (u : Value) (xs : List Int) : Prop :=
  w'.ownsRow N 5 1 u xs.length (bcells xs) ∧ Chg (fun _ => False) w w' ∧ ∀ k, u.ownBlock = some k → w.heap.size ≤ k

set_option maxHeartbeats 800000 in
theorem fresh_any (N : Nat) (v : Value) (xs : List Int) (w : World) (hv : Bs w v xs) (hlen : xs.length ≤ 1099511627776) (hN : N ≤ w.heap.size) :
    Calls Tryz.prog 135 #[v] w fun e w' => ∃ u, e = .returned u ∧ FreshN N w w' u xs := by
  obtain ⟨i0, hi, hz0, hz1, hz2⟩ := info_parts cinfo5
  go_enter Tryz.func135, Tryz.ntmps135
  go_wp2_with (at_builtin; go_must (refine wpList_app rfl _ (.tmp 3) 33 rfl N i0 Tryz.underlying33 hi hz0 hz1 hz2 _ _ 0 [] _ rfl (World.ownsRow_nil _ _ _ _) rfl hv ?c1 ?c2 ?next))
  case c1 => simpa using hlen
  case c2 => exact hN
  case next =>
    intro u w1 hown hgrow hat
    have H : FreshN N w w1 u xs := by
      refine ⟨by simpa using hown, (Chg.ofGrown hgrow).mono (fun i _ h => by cases h), fun k hk => ?_⟩
      rcases hat with e | e
      · rw [e] at hk; cases hk
      · rw [e] at hk; cases hk; exact Nat.le_refl _
    clear hown hgrow hat
    go_wp2
    go_ret
    exact ⟨u, rfl, H⟩

set_option maxHeartbeats 800000 in
theorem done_any (N p : Nat) (v : Value) (xs : List Int) (w : World) (hw : Wr N w p v xs) (hlen : xs.length ≤ 1099511627776) :
    Calls Tryz.prog 125 #[.pointer (some ⟨p, 0, none⟩)] w fun e w' => ∃ u, e = .returned u ∧ FreshN N w w' u xs := by
  have hcl := hw.cell
  have hN : N ≤ w.heap.size := by have := hw.le; have := hw.lt; omega
  go_enter Tryz.func125, Tryz.ntmps125
  go_wp2_with fail
  refine (fresh_any N v xs _ (Bs.ofOwns hw.own) hlen hN).mono ?_
  rintro e w' ⟨u, rfl, h⟩
  go_wp2
  go_ret
  exact ⟨u, rfl, h⟩

/-- b lies in none of the blocks of the writer at p whose slice is v. -/
def Apart (b v : Value) (p : Nat) : Prop := ∀ a n c, b = .slice (some a) n c → 0 < n → a.block ≠ p ∧ v.ownBlock ≠ some a.block
theorem WrToT.bs {T : TypeId} {N p : Nat} {w w' : World} {v v' b : Value} {xs bs : List Int} (h : WrToT T N p w v w' v' xs) (hb : Bs w b bs) (ha : Apart b v p) : Bs w' b bs :=
  hb.kept h.chg (fun a n c e h0 => by have := ha a n c e h0; rintro (h | h); exact this.1 h; exact this.2 h)
theorem WrToT.len {T : TypeId} {N p : Nat} {w w' : World} {v v' b : Value} {xs bs : List Int} (h : WrToT T N p w v w' v' xs) (hb : Bs w b bs) (ha : Apart b v p) : Apart b v' p := by
  intro a n c e h0
  refine ⟨(ha a n c e h0).1, ?_⟩
  rcases h.at' with f | f
  · rw [f]; exact (ha a n c e h0).2
  · intro hk
    have h1 := f _ hk
    rcases hb with ⟨h2, _⟩ | ⟨a2, c2, h2, _, _, hc⟩
    · rw [h2] at e; cases e
    · rw [h2] at e; cases e
      have := World.block_lt_of_cell? w _ (hc 0 h0)
      have e2 : (a.add 0).block = a.block := rfl
      omega

set_option maxHeartbeats 800000 in
theorem fixed_neg (N p : Nat) (v b : Value) (size : Int) (xs : List Int) (w : World) (hw : Wr N w p v xs) (hs : size < 0) :
    Calls Tryz.prog 123 #[.pointer (some ⟨p, 0, none⟩), b, .int .i64 size] w fun e w' => e = .returned (.tuple #[]) ∧ ∃ v', WrTo N p w v w' v' xs := by
  go_enter Tryz.func123, Tryz.ntmps123
  go_wp2
  go_returns
  exact ⟨rfl, v, WrToT.refl hw⟩

end Go.Proofs.YtlnjnimenihhnaaGreatDoor
