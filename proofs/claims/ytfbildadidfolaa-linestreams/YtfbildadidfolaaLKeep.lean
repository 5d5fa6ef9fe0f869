/-
  keep, Reset, end, Held of the splitter of package line.
-/
import Derived.Test.YtfbildadidfolaaLMem
namespace Go.Proofs.Ytfbildadidfolaa
open Go.RowKit

theorem own_new {w : World} {v v' : Value} (h : v'.ownBlock = v.ownBlock ∨ v'.ownBlock = some w.heap.size) : ∀ k, v'.ownBlock = some k → v.ownBlock = some k ∨ w.heap.size ≤ k := by
  intro k hk
  rcases h with h | h
  · exact .inl (h ▸ hk)
  · rw [h] at hk
    injection hk with hk
    exact .inr (Nat.le_of_eq hk)
theorem Ls.app {N p : Nat} {w w3 : World} {v v3 : Value} {m : Nat} {st : Int} {H H3 : List Int} {l : Bool} (h : Ls N p w v m st H l) (ho : w3.ownsRow N 5 1 v3 H3.length (bcells H3)) (hg : w.grownBy w3 v.ownBlock) (hn : v3.ownBlock = v.ownBlock ∨ v3.ownBlock = some w.heap.size) :
    Ls N p (w3.setCell ⟨p, 2, none⟩ v3) v3 m st H3 l ∧ To p w v (w3.setCell ⟨p, 2, none⟩ v3) v3 := by
  have hp := h.lt
  have hc : Chg (fun k => v.ownBlock = some k) w w3 := Chg.ofGrown hg
  have h3 : v3.ownBlock ≠ some p := by
    rcases hn with e | e
    · rw [e]; exact h.ne
    · rw [e]; intro e2; injection e2 with e2; omega
  exact ⟨h.setH hc ho h3, (To.trans (v1 := v3) ⟨hc.mono fun _ _ h => .inr h, own_new hn⟩ (To.cell p 2 w3 v3 v3))⟩
theorem grown_undrew {w w' : World} {row : Option Nat} (h : w.drew.grownBy w' row) : w.grownBy w' row := ⟨h.os, h.tape, h.output, h.size, h.block⟩
theorem Ls.grown {N p : Nat} {w w3 : World} {v : Value} {m : Nat} {st : Int} {H : List Int} {l : Bool} (h : Ls N p w v m st H l) (hg : w.grownBy w3 v.ownBlock) : w3.cell? ⟨p, 2, none⟩ = some v ∧ w3.frozen? ⟨p, 2, none⟩ = false := by
  have hb := ((Chg.ofGrown hg).block p h.lt h.ne).trans h.blk
  exact ⟨by rw [cell_of_row w3 p 2 _ _ _ hb]; rfl, by simp [World.frozen?, hb]⟩
theorem or_true' (l : Bool) (P : Prop) [Decidable P] (h : P) : (l || decide P) = true := by simp [h]
theorem or_false' (l : Bool) (P : Prop) [Decidable P] (h : ¬ P) : (l || decide P) = l := by simp [h]

set_option maxHeartbeats 1600000 in
theorem keep_any (N p : Nat) (w : World) (v u : Value) (m : Nat) (st : Int) (H bs : List Int) (l : Bool) (h : Ls N p w v m st H l) (hu : Bs w u bs) (hi : In (fun k => k ≠ p) u)
    (hm : m ≤ 65536) (hH : H.length + 2 ≤ m) (hb : bs.length ≤ 4294967296) :
    Calls Try.prog 28 #[.pointer (some ⟨p, 0, none⟩), u] w fun e w' => e = .returned (.tuple #[]) ∧
      ∃ v', Ls N p w' v' m st (H ++ bs.take (m - 2 - H.length)) (l || decide (m - 2 - H.length < bs.length)) ∧ To p w v w' v' := by
  obtain ⟨i5, hi5, hz5, hs5, hb5⟩ := info5
  obtain ⟨va, vc, rfl⟩ := own_sl h.own
  obtain ⟨ua, uc, rfl, huc, hum⟩ := hu.form
  have h0 := h.c0
  have h2 := h.c2
  have h3 := h.c3
  have f2 := h.fr 2
  have f3 := h.fr 3
  obtain ⟨R, hR⟩ : ∃ R, m - 2 - H.length = R := ⟨_, rfl⟩
  have hmx : max ((m : Int) - 2 - H.length) 0 = (R : Int) := by omega
  rw [hR]
  by_cases hlt : R < bs.length
  · have q1 : (R : Int) < bs.length := by omega
    rw [or_true' l _ hlt]
    have L1 := h.setL true
    have g0 := L1.c0
    have g2 := L1.c2
    have e2 := L1.fr 2
    have U1 : Bs (w.setCell ⟨p, 3, none⟩ (.bool true)) (.slice ua R uc) (bs.take R) := (hu.top (by omega)).stays (In.top hi (by omega)) (Chg.setCell (S := fun k => k = p) w ⟨p, 3, none⟩ _ rfl) (fun _ h => h)
    have T1 := To.cell p 3 w (.slice va H.length vc) (.bool true)
    have hl : (bs.take R).length = R := by simp; omega
    have hbound : H.length + (bs.take R).length ≤ 1099511627776 := by omega
    have hN := L1.N
    have HL : Hid (Ls N p (w.setCell ⟨p, 3, none⟩ (.bool true)) (.slice va H.length vc) m st H true) := L1
    have HT : Hid (To p w (.slice va H.length vc) (w.setCell ⟨p, 3, none⟩ (.bool true)) (.slice va H.length vc)) := T1
    have o1 := L1.own
    clear T1 L1 h hu hi
    go_enter Try.func28, Try.ntmps28
    go_wp2_with fail
    go_region
    go_wp2_with (at_builtin; go_must (refine wpList_app rfl (.tmp 31) (.tmp 32) 31 rfl N i5 Try.underlying31 hi5 hz5 hs5 hb5 _ _ H.length H (bs.take R) rfl o1 rfl U1 hbound hN ?_; intro v3 w3 ho hg hn; rw [hl] at ho; obtain ⟨k2, kf⟩ := HL.out.grown (grown_undrew hg); obtain ⟨va3, vc3, rfl⟩ := own_sl ho))
    go_end0
    obtain ⟨A, B⟩ := HL.out.app (H3 := H ++ bs.take R) (by rw [List.length_append, hl]; exact ho) (grown_undrew hg) hn
    exact ⟨rfl, _, A, HT.out.trans B⟩
  · have q1 : ¬ (R : Int) < bs.length := by omega
    rw [or_false' l _ hlt, List.take_of_length_le (by omega)]
    have hbound : H.length + bs.length ≤ 1099511627776 := by omega
    have hN := h.N
    have HL : Hid (Ls N p w (.slice va H.length vc) m st H l) := h
    have o1 := h.own
    clear h hi
    go_enter Try.func28, Try.ntmps28
    go_wp2_with fail
    go_region
    have o2 : w.drew.ownsRow N 5 1 (.slice va H.length vc) H.length (bcells H) := o1
    have U2 : Bs w.drew (.slice ua bs.length uc) bs := hu
    have k0 : w.drew.cell? ⟨p, 2, none⟩ = some (.slice va H.length vc) := h2
    go_wp2_with (at_builtin; go_must (refine wpList_app rfl (.tmp 31) (.tmp 32) 31 rfl N i5 Try.underlying31 hi5 hz5 hs5 hb5 _ _ H.length H bs rfl o2 rfl U2 hbound hN ?_; intro v3 w3 ho hg hn; obtain ⟨k2, kf⟩ := HL.out.grown (grown_undrew hg); obtain ⟨va3, vc3, rfl⟩ := own_sl ho))
    go_end0
    obtain ⟨A, B⟩ := HL.out.app (H3 := H ++ bs) (by rw [List.length_append]; exact ho) (grown_undrew hg) hn
    exact ⟨rfl, _, A, B⟩
end Go.Proofs.Ytfbildadidfolaa
