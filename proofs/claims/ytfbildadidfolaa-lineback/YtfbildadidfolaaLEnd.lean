/-
  Reset, end, Held of the splitter of package line.
-/
import Derived.Test.YtfbildadidfolaaLKeep
namespace Go.Proofs.Ytfbildadidfolaa
open Go.RowKit

theorem Ls.setN {N p : Nat} {w : World} {v : Value} {m : Nat} {st : Int} {H : List Int} {l : Bool} (h : Ls N p w v m st H l) : Ls N p (w.setCell ⟨p, 2, none⟩ (.slice none 0 0)) (.slice none 0 0) m st [] l :=
  h.setH (Chg.refl _ _) (World.ownsRow_nil _ _ _ _) (by simp [Value.ownBlock])
theorem To.wipe (p : Nat) (w : World) (v : Value) : To p w v (w.setCell ⟨p, 2, none⟩ (.slice none 0 0)) (.slice none 0 0) := ⟨Chg.setCell w ⟨p, 2, none⟩ _ (.inl rfl), fun _ h => by cases h⟩

set_option maxHeartbeats 1600000 in
theorem reset_any (N p : Nat) (w : World) (v : Value) (m : Nat) (st : Int) (H : List Int) (l : Bool) (h : Ls N p w v m st H l) :
    Calls Try.prog 16 #[.pointer (some ⟨p, 0, none⟩)] w fun e w' => e = .returned (.tuple #[]) ∧
      Ls N p w' (.slice none 0 0) m 0 [] false ∧ To p w v w' (.slice none 0 0) := by
  obtain ⟨va, vc, rfl⟩ := own_sl h.own
  have h0 := h.c0
  have h1 := h.c1
  have h2 := h.c2
  have h3 := h.c3
  have f0 := h.fr 0
  have f1 := h.fr 1
  have f2 := h.fr 2
  have f3 := h.fr 3
  go_enter Try.func16, Try.ntmps16
  go_wp2_with fail
  go_end0
  have L := (((h.setM m).setS 0).setN).setL false
  have T := (((To.cell p 0 w (.slice va H.length vc) (.int .i64 m)).trans (To.cell p 1 _ _ (.int .i64 0))).trans (To.wipe p _ _)).trans (To.cell p 3 _ _ (.bool false))
  exact ⟨rfl, L, T⟩

set_option maxHeartbeats 1600000 in
theorem held_any (N p : Nat) (w : World) (v : Value) (m : Nat) (st : Int) (H : List Int) (l : Bool) (h : Ls N p w v m st H l) (hH : H.length ≤ 65536) :
    Calls Try.prog 19 #[.pointer (some ⟨p, 0, none⟩)] w fun e w' => e = .returned (.int .i64 ((H.length + if st = 2 then 1 else 0 : Nat) : Int)) ∧ w' = w := by
  obtain ⟨va, vc, rfl⟩ := own_sl h.own
  have h1 := h.c1
  have h2 := h.c2
  by_cases hs : st = 2
  · have q1 : (st == 2) = true := by simpa using hs
    rw [if_pos hs]
    go_enter Try.func19, Try.ntmps19
    go_wp2_with fail
    go_ret
    exact ⟨by simp, rfl⟩
  · have q1 : (st == 2) = false := by simpa using hs
    rw [if_neg hs]
    go_enter Try.func19, Try.ntmps19
    go_wp2_with fail
    go_ret
    exact ⟨by simp, rfl⟩

theorem To.fresh {p D : Nat} {w w1 w2 : World} {v v1 : Value} (a : To p w v w1 v1) (b : Chg (fun k => k = D) w1 w2) (hD : w.heap.size ≤ D) : To p w v w2 v1 :=
  ⟨a.chg.trans b fun _ hi h => by omega, a.new⟩
/-- A line as a value. -/
abbrev Ln.v (l : Ln) : Value := .agg #[.string l.t, .bool l.long]
/-- A line in a box. -/
def Bx (T : TypeId) (w : World) (D : Nat) (x : Ln) : Prop := w.heap[D]? = some (.cells #[.string x.t, .bool x.long] T (0, 0))
theorem Bx.c {T : TypeId} {w : World} {D : Nat} {x : Ln} (h : Bx T w D x) : w.cell? ⟨D, 0, none⟩ = some (.string x.t) ∧ w.cell? ⟨D, 1, none⟩ = some (.bool x.long) ∧ w.frozen? ⟨D, 0, none⟩ = false ∧ w.frozen? ⟨D, 1, none⟩ = false :=
  ⟨by rw [cell_of_row _ _ _ _ _ _ h]; rfl, by rw [cell_of_row _ _ _ _ _ _ h]; rfl, by unfold Bx at h; simp [World.frozen?, h], by unfold Bx at h; simp [World.frozen?, h]⟩
theorem Bx.lt {T : TypeId} {w : World} {D : Nat} {x : Ln} (h : Bx T w D x) : D < w.heap.size := lt_of_block h
theorem Bx.put {T : TypeId} {w : World} {D : Nat} {x : Ln} (h : Bx T w D x) (y : Ln) : Bx T ((w.setCell ⟨D, 0, none⟩ (.string y.t)).setCell ⟨D, 1, none⟩ (.bool y.long)) D y ∧ Chg (fun k => k = D) w ((w.setCell ⟨D, 0, none⟩ (.string y.t)).setCell ⟨D, 1, none⟩ (.bool y.long)) :=
  ⟨heap_setCell_same _ D 1 _ _ _ (heap_setCell_same w D 0 _ _ _ h), (Chg.setCell (S := fun k => k = D) w ⟨D, 0, none⟩ _ rfl).trans (Chg.setCell (S := fun k => k = D) _ ⟨D, 1, none⟩ _ rfl) (fun _ _ h => h)⟩
theorem Bx.kept {S : Nat → Prop} {T : TypeId} {w w' : World} {D : Nat} {x : Ln} (h : Bx T w D x) (hc : Chg S w w') (hS : ¬ S D) : Bx T w' D x := (hc.block D h.lt hS).trans h

set_option maxHeartbeats 1600000 in
theorem end_any (N p : Nat) (w : World) (v : Value) (m : Nat) (st : Int) (H : List Int) (l : Bool) (h : Ls N p w v m st H l) :
    Calls Try.prog 27 #[.pointer (some ⟨p, 0, none⟩)] w fun e w' => e = .returned (Ln.v ⟨strC H, l⟩) ∧
      Ls N p w' (.slice none 0 0) m 0 [] false ∧ To p w v w' (.slice none 0 0) := by
  obtain ⟨va, vc, rfl⟩ := own_sl h.own
  go_enter Try.func27, Try.ntmps27
  go_wp2_with fail
  have L1 := h.more (Chg.alloc (fun _ => False) w (.cells #[.string ⟨#[]⟩, .bool false] 47))
  have C1 : Chg (fun _ => False) w _ := Chg.alloc (fun _ => False) w (.cells #[.string ⟨#[]⟩, .bool false] 47)
  have N1 := heap_alloc_new w (.cells #[.string ⟨#[]⟩, .bool false] 47)
  obtain ⟨W, hW⟩ : ∃ W, w.alloc (.cells #[.string ⟨#[]⟩, .bool false] 47) = W := ⟨_, rfl⟩
  rw [hW] at L1 C1 N1 ⊢
  have q := lt_of_block N1
  obtain ⟨D, hD⟩ : ∃ D, w.heap.size = D := ⟨_, rfl⟩
  rw [hD] at N1 q ⊢
  have hp : p < D := hD ▸ h.lt
  have h0 : Ls N p w (.slice va H.length vc) m st H l := h
  clear hW h
  have h2 := L1.c2
  have h3 := L1.c3
  have Ld : Ls N p W.drew (.slice va H.length vc) m st H l := L1.more (Chg.drew _ W)
  have La := L1.more (Chg.alloc (fun _ => False) W (.cells #[.string ⟨#[]⟩, .bool false] 47))
  have Le := La.more (Chg.drew _ _)
  have a2 := La.c2
  have a3 := La.c3
  have r1 := run_strC (Bs.ofOwns L1.own)
  have r1' := run_strC (Bs.ofOwns Ld.own)
  have r2 := run_strC (Bs.ofOwns Le.own)
  obtain ⟨t, ht⟩ : ∃ t, strC H = t := ⟨_, rfl⟩
  rw [ht] at r1 r1' r2
  have HL : Hid (Ls N p W (.slice va H.length vc) m st H l) := L1
  clear L1 Ld La Le
  go_region
  all_goals
    have C2 : Chg (fun _ => False) W (W.alloc (.cells #[.string t, .bool l] 47)).drew := (Chg.alloc (fun _ => False) W _).trans (Chg.drew _ _) (fun _ _ h => h)
    have L2 := HL.out.more C2
    have bx : Bx 47 (W.alloc (.cells #[.string t, .bool l] 47)).drew W.heap.size ⟨t, l⟩ := heap_alloc_new W (.cells #[.string t, .bool l] 47)
    have bD : Bx 47 (W.alloc (.cells #[.string t, .bool l] 47)).drew D Ln.zero := (C2.block D q (fun h => h)).trans N1
    obtain ⟨W2, hW2⟩ : ∃ W2, (W.alloc (.cells #[.string t, .bool l] 47)).drew = W2 := ⟨_, rfl⟩
    rw [hW2] at C2 L2 bx bD ⊢
    have v1 : ¬ (Value.slice va H.length vc).ownBlock = some D := fun e => by have := (own_ge h0.own e).2; omega
    have v2 : ¬ (Value.slice va H.length vc).ownBlock = some W.heap.size := fun e => by have := (own_ge h0.own e).2; omega
    obtain ⟨E, hE⟩ : ∃ E, W.heap.size = E := ⟨_, rfl⟩
    rw [hE] at bx q v2 ⊢
    have HC : Hid (Calls Try.prog 16 #[.pointer (some ⟨p, 0, none⟩)] W2 fun e w9 => e = .returned (.tuple #[]) ∧ Ls N p w9 (.slice none 0 0) m 0 [] false ∧ To p W2 (.slice va H.length vc) w9 (.slice none 0 0) ∧
        Bx 47 w9 E ⟨t, l⟩ ∧ Bx 47 w9 D Ln.zero) :=
      (reset_any N p W2 _ m st H l L2).mono fun e w9 h9 => ⟨h9.1, h9.2.1, h9.2.2,
        bx.kept h9.2.2.chg (fun h => h.elim (fun h => by omega) v2), bD.kept h9.2.2.chg (fun h => h.elim (fun h => by omega) v1)⟩
    have TT : Hid (To p w (.slice va H.length vc) W2 (.slice va H.length vc)) := ((To.refl p w (.slice va H.length vc)).more C1).more C2
    clear L2 C1 C2 bx bD v1 v2 r1 r1' r2 a2 a3 h2 h3 N1 HL hE hW2
    have HDp : Hid (¬ p = D) := by show ¬ p = D; omega
    clear q hp h0
    go_wp2_with (go_at_call 16; refine HC.out.mono ?_; clear HC; rintro e w9 ⟨rfl, L9, T9, bE, bD⟩; obtain ⟨e0, e1, _, _⟩ := bE.c; obtain ⟨d0, d1, f0, f1⟩ := bD.c)
    obtain ⟨s1, s2⟩ := bD.put ⟨t, l⟩
    have LL := L9.kept s2 HDp.out (fun _ h => by cases h)
    have TL := (TT.out.trans T9).fresh s2 (Nat.le_of_eq hD)
    obtain ⟨z0, z1, _, _⟩ := s1.c
    try simp only [Exit.inBlock, Exit.then]
    obtain ⟨w10, hw10⟩ : ∃ w10, (w9.setCell ⟨D, 0, none⟩ (.string t)).setCell ⟨D, 1, none⟩ (.bool l) = w10 := ⟨_, rfl⟩
    simp only [hw10] at z0 z1 LL TL ⊢
    refine bodyPost_ret (v := Ln.v ⟨t, l⟩) ?_ rfl ?_
    · simp [results, Try.results27, go_sem, z0, z1]
    · exact ⟨by rw [ht], LL, TL⟩
end Go.Proofs.Ytfbildadidfolaa
