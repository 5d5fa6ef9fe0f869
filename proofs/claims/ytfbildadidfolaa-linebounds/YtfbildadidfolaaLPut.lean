/-
  Put, Set of the document's splitter.
-/
import Derived.Test.YtfbildadidfolaaLRef
namespace Go.Proofs.Ytfbildadidfolaa
open Go.RowKit

/-- The document's splitter while a line lies ready in block D. -/
def Pu (N p D : Nat) (w : World) (v : Value) (wx : World) (v9 : Value) (S' : Sp) : Prop :=
  Rf N p wx v9 S' ∧ RT p w v wx v9 ∧ Bx 56 wx D Ln.zero ∧ D ≠ p ∧ v9.ownBlock ≠ some D ∧ w.heap.size ≤ D
theorem Pu.c {N p D : Nat} {w wx : World} {v v9 : Value} {S' : Sp} (h : Pu N p D w v wx v9 S') : wx.cell? ⟨D, 0, none⟩ = some (.string ⟨#[]⟩) ∧ wx.cell? ⟨D, 1, none⟩ = some (.bool false) ∧ wx.frozen? ⟨D, 0, none⟩ = false ∧ wx.frozen? ⟨D, 1, none⟩ = false := h.2.2.1.c
theorem Pu.more {N p D : Nat} {w wx wy : World} {v v9 : Value} {S' : Sp} (h : Pu N p D w v wx v9 S') (hc : Chg (fun _ => False) wx wy) : Pu N p D w v wy v9 S' :=
  ⟨h.1.more hc, h.2.1.more hc, h.2.2.1.kept hc (fun h => h), h.2.2.2⟩
theorem Pu.set {N p D : Nat} {w wx : World} {v v9 : Value} {S' : Sp} (h : Pu N p D w v wx v9 S') (b : Bool) : Pu N p D w v (wx.setCell ⟨p, 3, none⟩ (.bool b)) v9 (S'.wait b) :=
  ⟨h.1.setC b, h.2.1.trans (RT.cell p 3 wx v9 _), h.2.2.1.kept (Chg.setCell (S := fun k => k = p) wx ⟨p, 3, none⟩ _ rfl) h.2.2.2.1, h.2.2.2⟩
theorem Pu.to {N p D : Nat} {w wx wy : World} {v v9 vy : Value} {S' S2 : Sp} (h : Pu N p D w v wx v9 S') (h1 : Rf N p wy vy S2) (h2 : RT p wx v9 wy vy) : Pu N p D w v wy vy S2 :=
  ⟨h1, h.2.1.trans h2, h.2.2.1.kept h2.chg h.2.2.2.1, h.2.2.2.1, fun e => (h2.new D e).elim h.2.2.2.2.1 (by have := h.2.2.1.lt; omega), h.2.2.2.2.2⟩
theorem Pu.add {N p D : Nat} {w wx : World} {v v9 : Value} {S' : Sp} (h : Pu N p D w v wx v9 S') (hS : S'.Wf) (hn : S'.n ≤ 1099511627776) (c : Int) :
    Calls Try.prog 26 #[.pointer (some ⟨p, 0, none⟩), .int .u8 c] wx fun e wa => e = .returned (.tuple #[]) ∧ ∃ va, Pu N p D w v wa va (S'.add [c]) :=
  (radd_any N p wx v9 S' c h.1 hS hn).mono fun _ _ h9 => ⟨h9.1, h9.2.elim fun va h2 => ⟨va, h.to h2.1 h2.2⟩⟩
/-- What Put answers. -/
def PutR (N p : Nat) (w : World) (v : Value) (S : Sp) (c : Int) (v' : Value) (l : Ln) (ok : Bool) (w' : World) : Prop :=
  Rf N p w' v' (S.put c).1 ∧ RT p w v w' v' ∧ (((S.put c).2 = none ∧ l = Ln.zero ∧ ok = false) ∨ ((S.put c).2 = some l ∧ ok = true))
theorem Pu.fin {N p D : Nat} {w wx : World} {v v9 : Value} {S S' : Sp} {c : Int} {l : Ln} {ok : Bool} (h : Pu N p D w v wx v9 S') (h1 : (S.put c).1 = S') (h2 : ((S.put c).2 = none ∧ l = Ln.zero ∧ ok = false) ∨ ((S.put c).2 = some l ∧ ok = true)) :
    PutR N p w v S c v9 l ok ((wx.setCell ⟨D, 0, none⟩ (.string l.t)).setCell ⟨D, 1, none⟩ (.bool l.long)) ∧ Bx 56 ((wx.setCell ⟨D, 0, none⟩ (.string l.t)).setCell ⟨D, 1, none⟩ (.bool l.long)) D l := by
  obtain ⟨s1, s2⟩ := h.2.2.1.put l
  exact ⟨⟨by rw [h1]; exact h.1.kept s2 h.2.2.2.1.symm (fun k hk e => h.2.2.2.2.1 (e ▸ hk)), h.2.1.fresh s2 h.2.2.2.2.2, h2⟩, s1⟩
theorem Sp.put_13 (S : Sp) : S.put 13 = (S.was.wait true, none) := by unfold Sp.put; rw [if_neg (by simp), if_pos rfl]
theorem Sp.put_no (S : Sp) (c : Int) (h : ¬ (S.cr = true ∧ c = 10)) (h2 : ¬ c = 13) : S.put c = (S.was.add [c], none) := by unfold Sp.put; rw [if_neg h, if_neg h2]
theorem pu_start {N p : Nat} {w : World} {v : Value} {S : Sp} (h : Rf N p w v S) : Pu N p w.heap.size w v (w.alloc (.cells #[.string ⟨#[]⟩, .bool false] 56)) v S :=
  ⟨h.more (Chg.alloc _ _ _), (RT.refl _ _ _).more (Chg.alloc _ _ _), heap_alloc_new w _, (fun e => by have := h.lt; omega), (fun e => by have := (own_ge h.own e).2; omega), Nat.le_refl _⟩

set_option maxHeartbeats 1600000 in
theorem put_line (N p : Nat) (w : World) (v : Value) (S : Sp) (h : Rf N p w v S) (hS : S.Wf) (hc : S.cr = true) :
    Calls Try.prog 23 #[.pointer (some ⟨p, 0, none⟩), .int .u8 10] w fun e w' => ∃ v', e = .returned (.tuple #[Ln.v S.line, .bool true]) ∧ PutR N p w v S 10 v' S.line true w' := by
  have P0 := pu_start h
  obtain ⟨W, hW⟩ : ∃ W, Hid (w.alloc (.cells #[.string ⟨#[]⟩, .bool false] 56) = W) := ⟨_, rfl⟩
  rw [hW.out] at P0
  obtain ⟨va, vc, rfl⟩ := own_sl h.own
  obtain ⟨D, hD⟩ : ∃ D, Hid (w.heap.size = D) := ⟨_, rfl⟩
  rw [hD.out] at P0
  obtain ⟨c0, c1, c2, c3⟩ := P0.1.c
  rw [hc] at c3
  have hm := hS.lo
  have hm2 := hS.hi
  have Ld := P0.1.more (Chg.drew (fun _ => False) W)
  have La := P0.1.more (Chg.alloc (fun _ => False) W (.cells #[.string ⟨#[]⟩, .bool false] 56))
  obtain ⟨a0, a1, a2, _⟩ := La.c
  have Le := La.more (Chg.drew (fun _ => False) _)
  have r1 := run_strC (Bs.ofOwns P0.1.own)
  have r1' := run_strC (Bs.ofOwns Ld.own)
  have r2 := run_strC (Bs.ofOwns Le.own)
  obtain ⟨t, ht⟩ : ∃ t, strC S.held = t := ⟨_, rfl⟩
  rw [ht] at r1 r1' r2
  obtain ⟨b, hb⟩ : ∃ b, Hid (S.long = b) := ⟨_, rfl⟩
  have hlb : decide ((S.most : Int) - 2 < S.n) = b := by
    rw [← hb.out]
    unfold Sp.long
    congr 1
    refine propext ⟨fun h => by omega, fun h => by omega⟩
  have HP : Hid (Pu N p D w (.slice va S.held.length vc) W (.slice va S.held.length vc) S) := P0
  have HLN : Hid (S.line = ⟨t, b⟩) := by show _ = _; unfold Sp.line; rw [ht, hb.out]
  have HPE : Hid (S.put 10 = (S.reset, some S.line)) := S.put_end hc
  clear Ld La Le P0 h hS hc ht
  go_enter Try.func23, Try.ntmps23
  go_upto_region 1 with fail
  rw [hW.out, hD.out]
  go_wp2_with fail
  go_region
  all_goals
    have C2 : Chg (fun _ => False) W (W.alloc (.cells #[.string t, .bool b] 56)).drew := (Chg.alloc (fun _ => False) W _).trans (Chg.drew _ _) (fun _ _ h => h)
    have P2 := HP.out.more C2
    have bx : Bx 56 (W.alloc (.cells #[.string t, .bool b] 56)).drew W.heap.size ⟨t, b⟩ := heap_alloc_new W (.cells #[.string t, .bool b] 56)
    obtain ⟨W2, hW2⟩ : ∃ W2, (W.alloc (.cells #[.string t, .bool b] 56)).drew = W2 := ⟨_, rfl⟩
    rw [hW2] at C2 P2 bx ⊢
    obtain ⟨E, hE⟩ : ∃ E, W.heap.size = E := ⟨_, rfl⟩
    have hpE : ¬ E = p := fun e => by have := HP.out.1.lt; omega
    rw [hE] at bx ⊢
    have HC : Hid (Calls Try.prog 17 #[.pointer (some ⟨p, 0, none⟩)] W2 fun e w9 => e = .returned (.tuple #[]) ∧ Pu N p D w (.slice va S.held.length vc) w9 (.slice none 0 0) S.reset ∧ Bx 56 w9 E ⟨t, b⟩) :=
      (rreset_any N p W2 _ S P2.1).mono fun e w9 h9 => ⟨h9.1, P2.to h9.2.1 h9.2.2, bx.kept h9.2.2.chg hpE⟩
    clear C2 P2 bx hpE hE hW2 r1 r1' r2 a0 a1 a2 c0 c1 c2 c3 HP
    go_wp2_with (go_at_call 17; refine HC.out.mono ?_; clear HC; rintro e w9 ⟨rfl, P9, bE⟩; obtain ⟨e0, e1, _, _⟩ := bE.c; obtain ⟨d0, d1, f0, f1⟩ := P9.c)
    obtain ⟨F1, F2⟩ := P9.fin (S := S) (c := 10) (l := ⟨t, b⟩) (ok := true) (by rw [HPE.out]) (.inr ⟨by rw [HPE.out, HLN.out], rfl⟩)
    obtain ⟨z0, z1, _, _⟩ := F2.c
    try simp only [Exit.inBlock, Exit.then]
    obtain ⟨w10, hw10⟩ : ∃ w10, (w9.setCell ⟨D, 0, none⟩ (.string t)).setCell ⟨D, 1, none⟩ (.bool b) = w10 := ⟨_, rfl⟩
    simp only [hw10] at z0 z1 F1 ⊢
    refine bodyPost_ret (v := .tuple #[Ln.v ⟨t, b⟩, .bool true]) ?_ rfl ?_
    · simp [results, Try.results23, go_sem, z0, z1]
    · exact ⟨_, by rw [HLN.out], by rw [HLN.out]; exact F1⟩

set_option maxHeartbeats 1600000 in
theorem put_more (N p : Nat) (w : World) (v : Value) (S : Sp) (c : Int) (h : Rf N p w v S) (hS : S.Wf) (hn : S.n ≤ 1099511627000) (hc : ¬ (S.cr = true ∧ c = 10)) :
    Calls Try.prog 23 #[.pointer (some ⟨p, 0, none⟩), .int .u8 c] w fun e w' => ∃ v', e = .returned (.tuple #[Ln.zero.v, .bool false]) ∧ PutR N p w v S c v' Ln.zero false w' := by
  have P0 := pu_start h
  obtain ⟨W, hW⟩ : ∃ W, Hid (w.alloc (.cells #[.string ⟨#[]⟩, .bool false] 56) = W) := ⟨_, rfl⟩
  rw [hW.out] at P0
  obtain ⟨D, hD⟩ : ∃ D, Hid (w.heap.size = D) := ⟨_, rfl⟩
  rw [hD.out] at P0
  have c3 := P0.1.c.2.2.2
  have f3 := P0.1.fr 3
  obtain ⟨d0, d1, f0, f1⟩ := P0.c
  cases hcr : S.cr with
  | true =>
    rw [hcr] at c3
    have h10 : (c == 10) = false := by simpa using fun e => hc ⟨hcr, e⟩
    have HW : Hid (S.was = (S.add [13]).wait false) := S.was_yes hcr
    have hSa := (hS.add [13]).wait false
    have hna : ((S.add [13]).wait false).n ≤ 1099511627776 := by show S.n + 1 ≤ _; omega
    by_cases h13 : c = 13
    · subst h13
      have HF : Hid (S.put 13 = (S.was.wait true, none)) := S.put_13
      have HA : Hid (Calls Try.prog 26 #[.pointer (some ⟨p, 0, none⟩), .int .u8 13] W fun e wa => e = .returned (.tuple #[]) ∧ ∃ va, wa.cell? ⟨p, 3, none⟩ = some (.bool true) ∧ wa.frozen? ⟨p, 3, none⟩ = false ∧
          ((wa.setCell ⟨p, 3, none⟩ (.bool false)).setCell ⟨p, 3, none⟩ (.bool true)).cell? ⟨D, 0, none⟩ = some (.string ⟨#[]⟩) ∧ ((wa.setCell ⟨p, 3, none⟩ (.bool false)).setCell ⟨p, 3, none⟩ (.bool true)).cell? ⟨D, 1, none⟩ = some (.bool false) ∧ ((wa.setCell ⟨p, 3, none⟩ (.bool false)).setCell ⟨p, 3, none⟩ (.bool true)).frozen? ⟨D, 0, none⟩ = false ∧ ((wa.setCell ⟨p, 3, none⟩ (.bool false)).setCell ⟨p, 3, none⟩ (.bool true)).frozen? ⟨D, 1, none⟩ = false ∧ Hid (Pu N p D w v ((wa.setCell ⟨p, 3, none⟩ (.bool false)).setCell ⟨p, 3, none⟩ (.bool true)) va (S.was.wait true))) := by
        refine (P0.add hS (by omega) 13).mono fun e wa h9 => ⟨h9.1, ?_⟩
        obtain ⟨va, PA⟩ := h9.2
        have PB := (PA.set false).set true
        obtain ⟨g0, g1, g2, g3⟩ := PB.c
        exact ⟨va, by have := PA.1.c.2.2.2; rw [show (S.add [13]).cr = S.cr from rfl, hcr] at this; exact this, PA.1.fr 3, g0, g1, g2, g3, by rw [HW.out]; exact PB⟩
      clear P0 hS hSa hna hc h hcr
      go_enter Try.func23, Try.ntmps23
      go_upto_region 1 with fail
      rw [hW.out, hD.out]
      go_wp2_with (go_at_call 26; refine HA.out.mono ?_; clear HA; rintro e wa ⟨rfl, va, k3, j3, g0, g1, g2, g3, HB⟩)
      obtain ⟨F1, F2⟩ := HB.out.fin (S := S) (c := 13) (l := Ln.zero) (ok := false) (by rw [HF.out]) (.inl ⟨by rw [HF.out], rfl, rfl⟩)
      obtain ⟨z0, z1, _, _⟩ := F2.c
      try simp only [Exit.inBlock, Exit.then]
      obtain ⟨w10, hw10⟩ : ∃ w10, (((wa.setCell ⟨p, 3, none⟩ (.bool false)).setCell ⟨p, 3, none⟩ (.bool true)).setCell ⟨D, 0, none⟩ (.string ⟨#[]⟩)).setCell ⟨D, 1, none⟩ (.bool false) = w10 := ⟨_, rfl⟩
      simp only [hw10] at z0 z1 F1 ⊢
      refine bodyPost_ret (v := .tuple #[Ln.zero.v, .bool false]) ?_ rfl ?_
      · simp [results, Try.results23, go_sem, z0, z1]
      · exact ⟨_, rfl, F1⟩
    · have p13 : (c == 13) = false := by simpa using h13
      have HF : Hid (S.put c = (S.was.add [c], none)) := S.put_no c hc h13
      have HA : Hid (Calls Try.prog 26 #[.pointer (some ⟨p, 0, none⟩), .int .u8 13] W fun e wa => e = .returned (.tuple #[]) ∧ wa.cell? ⟨p, 3, none⟩ = some (.bool true) ∧ wa.frozen? ⟨p, 3, none⟩ = false ∧
          Hid (Calls Try.prog 26 #[.pointer (some ⟨p, 0, none⟩), .int .u8 c] (wa.setCell ⟨p, 3, none⟩ (.bool false)) fun e wb => e = .returned (.tuple #[]) ∧ ∃ vb, wb.cell? ⟨D, 0, none⟩ = some (.string ⟨#[]⟩) ∧ wb.cell? ⟨D, 1, none⟩ = some (.bool false) ∧ wb.frozen? ⟨D, 0, none⟩ = false ∧ wb.frozen? ⟨D, 1, none⟩ = false ∧ Hid (Pu N p D w v wb vb (S.was.add [c])))) := by
        refine (P0.add hS (by omega) 13).mono fun e wa h9 => ⟨h9.1, ?_⟩
        obtain ⟨va, PA⟩ := h9.2
        refine ⟨by have := PA.1.c.2.2.2; rw [show (S.add [13]).cr = S.cr from rfl, hcr] at this; exact this, PA.1.fr 3, ?_⟩
        refine ((PA.set false).add hSa hna c).mono fun e wb h9 => ⟨h9.1, ?_⟩
        obtain ⟨vb, PB⟩ := h9.2
        obtain ⟨g0, g1, g2, g3⟩ := PB.c
        exact ⟨vb, g0, g1, g2, g3, by rw [HW.out]; exact PB⟩
      clear P0 hS hSa hna hc h hcr h13
      go_enter Try.func23, Try.ntmps23
      go_upto_region 1 with fail
      rw [hW.out, hD.out]
      go_wp2_with (go_at_call 26; first | (refine HA.out.mono ?_; clear HA; rintro e wa ⟨rfl, k3, j3, HA2⟩) | (refine HA2.out.mono ?_; clear HA2; rintro e wb ⟨rfl, vb, g0, g1, g2, g3, HB⟩))
      obtain ⟨F1, F2⟩ := HB.out.fin (S := S) (c := c) (l := Ln.zero) (ok := false) (by rw [HF.out]) (.inl ⟨by rw [HF.out], rfl, rfl⟩)
      obtain ⟨z0, z1, _, _⟩ := F2.c
      try simp only [Exit.inBlock, Exit.then]
      obtain ⟨w10, hw10⟩ : ∃ w10, (wb.setCell ⟨D, 0, none⟩ (.string ⟨#[]⟩)).setCell ⟨D, 1, none⟩ (.bool false) = w10 := ⟨_, rfl⟩
      simp only [hw10] at z0 z1 F1 ⊢
      refine bodyPost_ret (v := .tuple #[Ln.zero.v, .bool false]) ?_ rfl ?_
      · simp [results, Try.results23, go_sem, z0, z1]
      · exact ⟨_, rfl, F1⟩
  | false =>
    rw [hcr] at c3
    have HW : Hid (S.was = S) := S.was_no hcr
    by_cases h13 : c = 13
    · subst h13
      have HF : Hid (S.put 13 = (S.wait true, none)) := by have := S.put_13; rw [HW.out] at this; exact this
      have HB : Hid (Pu N p D w v (W.setCell ⟨p, 3, none⟩ (.bool true)) v (S.wait true)) := P0.set true
      obtain ⟨g0, g1, g2, g3⟩ := HB.out.c
      clear P0 hS hc h hcr
      go_enter Try.func23, Try.ntmps23
      go_upto_region 1 with fail
      rw [hW.out, hD.out]
      go_wp2_with fail
      obtain ⟨F1, F2⟩ := HB.out.fin (S := S) (c := 13) (l := Ln.zero) (ok := false) (by rw [HF.out]) (.inl ⟨by rw [HF.out], rfl, rfl⟩)
      obtain ⟨z0, z1, _, _⟩ := F2.c
      try simp only [Exit.inBlock, Exit.then]
      obtain ⟨w10, hw10⟩ : ∃ w10, ((W.setCell ⟨p, 3, none⟩ (.bool true)).setCell ⟨D, 0, none⟩ (.string ⟨#[]⟩)).setCell ⟨D, 1, none⟩ (.bool false) = w10 := ⟨_, rfl⟩
      simp only [hw10] at z0 z1 F1 ⊢
      refine bodyPost_ret (v := .tuple #[Ln.zero.v, .bool false]) ?_ rfl ?_
      · simp [results, Try.results23, go_sem, z0, z1]
      · exact ⟨_, rfl, F1⟩
    · have p13 : (c == 13) = false := by simpa using h13
      have HF : Hid (S.put c = (S.add [c], none)) := by have := S.put_no c hc h13; rw [HW.out] at this; exact this
      have HA : Hid (Calls Try.prog 26 #[.pointer (some ⟨p, 0, none⟩), .int .u8 c] W fun e wb => e = .returned (.tuple #[]) ∧ ∃ vb, wb.cell? ⟨D, 0, none⟩ = some (.string ⟨#[]⟩) ∧ wb.cell? ⟨D, 1, none⟩ = some (.bool false) ∧ wb.frozen? ⟨D, 0, none⟩ = false ∧ wb.frozen? ⟨D, 1, none⟩ = false ∧ Hid (Pu N p D w v wb vb (S.add [c]))) := by
        refine (P0.add hS (by omega) c).mono fun e wb h9 => ⟨h9.1, ?_⟩
        obtain ⟨vb, PB⟩ := h9.2
        obtain ⟨g0, g1, g2, g3⟩ := PB.c
        exact ⟨vb, g0, g1, g2, g3, PB⟩
      clear P0 hS hc h hcr h13
      go_enter Try.func23, Try.ntmps23
      go_upto_region 1 with fail
      rw [hW.out, hD.out]
      go_wp2_with (go_at_call 26; refine HA.out.mono ?_; clear HA; rintro e wb ⟨rfl, vb, g0, g1, g2, g3, HB⟩)
      obtain ⟨F1, F2⟩ := HB.out.fin (S := S) (c := c) (l := Ln.zero) (ok := false) (by rw [HF.out]) (.inl ⟨by rw [HF.out], rfl, rfl⟩)
      obtain ⟨z0, z1, _, _⟩ := F2.c
      try simp only [Exit.inBlock, Exit.then]
      obtain ⟨w10, hw10⟩ : ∃ w10, (wb.setCell ⟨D, 0, none⟩ (.string ⟨#[]⟩)).setCell ⟨D, 1, none⟩ (.bool false) = w10 := ⟨_, rfl⟩
      simp only [hw10] at z0 z1 F1 ⊢
      refine bodyPost_ret (v := .tuple #[Ln.zero.v, .bool false]) ?_ rfl ?_
      · simp [results, Try.results23, go_sem, z0, z1]
      · exact ⟨_, rfl, F1⟩
end Go.Proofs.Ytfbildadidfolaa
