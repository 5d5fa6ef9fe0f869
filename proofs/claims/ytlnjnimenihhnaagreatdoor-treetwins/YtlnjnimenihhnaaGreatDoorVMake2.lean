/-
  The document's tree: slots of one's own, stored; what is free, stored.
-/
import Derived.Test.YtlnjnimenihhnaaGreatDoorVSpot
import Derived.Test.YtlnjnimenihhnaaGreatDoorVFresh
import Derived.Test.YtlnjnimenihhnaaGreatDoorTFind
import Derived.Test.YtlnjnimenihhnaaGreatDoorTAdd
namespace Go.Proofs.YtlnjnimenihhnaaGreatDoor
open Go.RowKit Go.Maps

/-- A row's front. -/
theorem Tx.frontV {w : World} {b off n c : Nat} {ss : List ByteArray} {x : ByteArray} (h : Tx w (.slice (some ⟨b, off, none⟩) n c) (ss ++ [x])) : Tx w (.slice (some ⟨b, off, none⟩) ss.length c) ss ∧ n = ss.length + 1 ∧ w.cell? ⟨b, off + ss.length, none⟩ = some (.string x) ∧ ss.length < c := by
  obtain ⟨a', c', e, h1, h2, h3, hx⟩ := h
  injection e with e1 e2 e3
  subst e1; subst e3
  have hl : (ss ++ [x]).length = ss.length + 1 := by simp
  obtain ⟨b', off', e1, hc⟩ := hx (by omega)
  injection e1 with e1
  injection e1 with e1 e4
  subst e1; subst e4
  refine ⟨⟨_, _, rfl, by omega, h2, (fun h => by cases h), fun h0 => ⟨_, _, rfl, fun j hj => ?_⟩⟩, by omega, ?_, by omega⟩
  · rw [hc j (by omega)]
    simp [List.getD, List.getElem?_append_left hj]
  · rw [hc ss.length (by omega)]
    simp [List.getD]
/-- What an act on the document's tree leaves. -/
structure Rto (w w' : World) (r q : Nat) (G : Nat → Prop) (R' : Rs) : Prop where
  ex : ∃ q' G', Rt w' r q' G' R' ∧ (q' = q ∨ w.heap.size ≤ q') ∧ ∀ b, G' b → G b ∨ w.heap.size ≤ b
  chg : Chg (fun b => b = r ∨ b = q) w w'
theorem Rto.same {w w' : World} {r q : Nat} {G : Nat → Prop} {R : Rs} (h : Rt w r q G R) (hb : Below w.heap.size w w') : Rto w w' r q G R :=
  ⟨⟨q, G, h.below hb, .inl rfl, fun _ h => .inl h⟩, (Chg.ofBelowC hb).mono (fun _ _ h => h.elim)⟩
theorem Rto.trans {w w1 w2 : World} {r q : Nat} {G : Nat → Prop} {R2 : Rs} {q1 : Nat} {G1 : Nat → Prop} (hq : q1 = q ∨ w.heap.size ≤ q1) (hG : ∀ b, G1 b → G b ∨ w.heap.size ≤ b) (hc : Chg (fun b => b = r ∨ b = q) w w1) (h2 : Rto w1 w2 r q1 G1 R2) : Rto w w2 r q G R2 := by
  obtain ⟨⟨q2, G2, g1, g2, g3⟩, g4⟩ := h2
  refine ⟨⟨q2, G2, g1, ?_, fun b hb => ?_⟩, hc.trans g4 (fun i hi h => ?_)⟩
  · rcases g2 with rfl | g2
    · exact hq
    · exact .inr (Nat.le_trans hc.size g2)
  · rcases g3 b hb with h | h
    · exact hG b h
    · exact .inr (Nat.le_trans hc.size h)
  · rcases h with h | h
    · exact .inl h
    · subst h
      rcases hq with h | h
      · exact .inr h
      · omega
theorem bD {N : Nat} {w w1 : World} (h : Hid (Below N w w1)) : Hid (Below N w w1.drew) := ⟨h.out.os, h.out.tape, h.out.output, h.out.size, h.out.block⟩
theorem bN {N : Nat} {w w1 : World} (h : Hid (Below N w w1)) (k : Nat) : Hid (Below N w (w1.drewN k)) := ⟨h.out.os, h.out.tape, h.out.output, h.out.size, h.out.block⟩
theorem own_down {w : World} {N N' T s n : Nat} {u : Value} {xs : List Value} (h : w.ownsRow N T s u n xs) (hN : N' ≤ N) : w.ownsRow N' T s u n xs := by
  refine ⟨h.1, ?_⟩
  rcases h.2 with h | ⟨g, cap, cur, h1, h2, h3⟩
  · exact .inl h
  · exact .inr ⟨g, cap, cur, h1, Nat.le_trans hN h2, h3⟩
/-- A slot's number in a row of one's own. -/
theorem own_setI {w : World} {N T n g cap k : Nat} {es : List En} (h : w.ownsRow N T 2 (.slice (some ⟨g, 0, none⟩) n cap) n (ecells es)) (hk : k < es.length) (x : ByteArray) (hx : (En.at es k).nm = x) (i : Int) :
    (w.setCell ⟨g, k * 2 + 1, none⟩ (.int .i64 i)).ownsRow N T 2 (.slice (some ⟨g, 0, none⟩) n cap) n (ecells (es.set k ⟨x, i⟩)) := by
  have e : ecells (es.set k ⟨x, i⟩) = (ecells es).set (k * 2 + 1) (.int .i64 i) := by
    rw [ecells_set es k _ hk, set_self (l := ecells es) (i := k * 2)]
    rw [(ecells_get es k hk).1, show (es.getD k En.fr).nm = x from hx]
  rw [e]
  exact own_setC h _
/-- Slots of one's own go to a directory; behind that what is free. -/
theorem fin_S {w5 : World} {r q : Nat} {G : Nat → Prop} {R : Rs} (h : Rt w5 r q G R) {m : Nat} {es0 es1 : List En} (hm : R.at m = .dir es0) {N T g L uc : Nat} (ho : w5.ownsRow N T 2 (.slice (some ⟨g, 0, none⟩) L uc) L (ecells es1)) (hgr : ¬ g = r) (hgq : ¬ g = q) :
    ∃ c a d, w5.cell? ⟨r, 0, none⟩ = some (.slice (some ⟨q, 0, none⟩) R.L.length c) ∧ w5.cell? ⟨q, m * 4 + 3, none⟩ = some (.slice a es0.length d) ∧ w5.frozen? ⟨q, m * 4 + 3, none⟩ = false ∧ m < R.L.length ∧
      Hid (∀ w6, w5.setCell ⟨q, m * 4 + 3, none⟩ (.slice (some ⟨g, 0, none⟩) L uc) = w6 → w6.cell? ⟨r, 1, none⟩ = some (.int .i64 R.bl) ∧ w6.frozen? ⟨r, 1, none⟩ = false ∧ w6.cell? ⟨r, 0, none⟩ = some (.slice (some ⟨q, 0, none⟩) R.L.length c) ∧ Hid (Rt w6 r q (fun b => G b ∨ b = g) { R with L := R.L.set m (.dir es1) }) ∧ Hid (Chg (fun b => b = q) w5 w6)) := by
  obtain ⟨hlt, c, a, d, c0, _, _, _, c3, hE, _, hf⟩ := h.dirAt hm
  refine ⟨c, a, d, c0, c3, hf _, hlt, ?_⟩
  rintro w6 rfl
  have hE1 := Es.ofOwns ho
  have hgl : g < w5.heap.size := by
    rcases ho.2 with ⟨h, _⟩ | ⟨g', cap, cur, e, hb, hg, _⟩
    · cases h
    · injection e with e1 e2 e3
      injection e1 with e1
      injection e1 with e1
      subst e1
      exact lt_of_block hg
  have h6 := h.setS hm (es' := es1) (a := some ⟨g, 0, none⟩) (n := L) (d := uc) hE1 (fun p hp => by cases hp; exact ⟨hgr, hgq, hgl⟩)
  have hL : (R.L.set m (.dir es1)).length = R.L.length := List.length_set
  have hc : Chg (fun b => b = q) w5 (w5.setCell ⟨q, m * 4 + 3, none⟩ (.slice (some ⟨g, 0, none⟩) L uc)) := Chg.setCell _ _ _ rfl
  refine ⟨h6.cB, h6.fr 1, hc.cell c0 h.ne, ?_, hc⟩
  have e : (fun b => G b ∨ ∃ p : Addr, some (⟨g, 0, none⟩ : Addr) = some p ∧ p.block = b) = (fun b => G b ∨ b = g) := by
    funext b
    apply propext
    constructor
    · rintro (h | ⟨p, hp, rfl⟩)
      · exact .inl h
      · cases hp; exact .inr rfl
    · rintro (h | rfl)
      · exact .inl h
      · exact .inr ⟨_, rfl, rfl⟩
  rw [e] at h6
  exact h6
/-- A number in a row of one's own. -/
theorem fin_I {w5 : World} {r q : Nat} {G : Nat → Prop} {R : Rs} (h : Rt w5 r q G R) {k : Nat} {es1 : List En} {N T g L uc : Nat} (ho : w5.ownsRow N T 2 (.slice (some ⟨g, 0, none⟩) L uc) L (ecells es1)) (hk : k < es1.length) (x : ByteArray) (hx : (En.at es1 k).nm = x) (i : Int) (hgr : ¬ g = r) (hgq : ¬ g = q) (hgG : ¬ G g) :
    ∃ i0, w5.cell? ⟨g, k * 2 + 1, none⟩ = some (.int .i64 i0) ∧ w5.frozen? ⟨g, k * 2 + 1, none⟩ = false ∧
      Hid (∀ w6, w5.setCell ⟨g, k * 2 + 1, none⟩ (.int .i64 i) = w6 → Rt w6 r q G R ∧ w6.ownsRow N T 2 (.slice (some ⟨g, 0, none⟩) L uc) L (ecells (es1.set k ⟨x, i⟩)) ∧ Chg (fun b => b = g) w5 w6) := by
  obtain ⟨g', cap, e, _, _, c1, c2, f1, f2⟩ := own_place ho hk
  injection e with e1 e2 e3
  injection e1 with e1
  injection e1 with e1
  subst e1
  refine ⟨_, c2, f2, ?_⟩
  rintro w6 rfl
  have hc : Chg (fun b => b = g) w5 (w5.setCell ⟨g, k * 2 + 1, none⟩ (.int .i64 i)) := Chg.setCell _ _ _ rfl
  exact ⟨h.kept hc (Ne.symm hgr) (Ne.symm hgq) (fun b hb e => hgG (e ▸ hb)), own_setI ho hk x hx i, hc⟩
/-- What is free. -/
theorem fin_B {w5 : World} {r q : Nat} {G : Nat → Prop} {R : Rs} (h : Rt w5 r q G R) (n : Int) :
    ∀ w6, w5.setCell ⟨r, 1, none⟩ (.int .i64 n) = w6 → w6.cell? ⟨r, 2, none⟩ = some (.int .i64 R.ino) ∧ w6.frozen? ⟨r, 2, none⟩ = false ∧ Hid (Rt w6 r q G { R with bl := n }) ∧ Hid (Chg (fun b => b = r) w5 w6) := by
  rintro w6 rfl
  have h6 := h.setBl n
  exact ⟨h6.cI, h6.fr 2, h6, Chg.setCell _ _ _ rfl⟩
theorem fin_N {w5 : World} {r q : Nat} {G : Nat → Prop} {R : Rs} (h : Rt w5 r q G R) (n : Int) :
    ∀ w6, w5.setCell ⟨r, 2, none⟩ (.int .i64 n) = w6 → Rt w6 r q G { R with ino := n } ∧ Chg (fun b => b = r) w5 w6 := by
  rintro w6 rfl
  exact ⟨h.setIno n, Chg.setCell _ _ _ rfl⟩
end Go.Proofs.YtlnjnimenihhnaaGreatDoor

namespace Go.Proofs.YtlnjnimenihhnaaGreatDoor
open Go.RowKit Go.Maps

set_option maxHeartbeats 6400000 in
set_option maxRecDepth 100000 in
theorem rmake_ok {r q m k _K : Nat} {G : Nat → Prop} {R : Rs} {es : List En} {s : Nat} {kn : List ByteArray} {f : ByteArray → Nat} {x : ByteArray} (n N1 c b0 off : Nat) (hN1 : N1 = n + 1) (d : Bool) (w : World) (hbr : ¬ b0 = r) (hbq : ¬ b0 = q) (h : Rt w r q G R) (cx : w.cell? ⟨b0, off + n, none⟩ = some (.string x)) (hn : n ≤ 1000) (hnc : n < c) (hm : R.at m = .dir es) (hS : Sl es s kn f) (hx : nameB x = true) (hk : ¬ x ∈ kn) (hP : Spo es s kn f x k) (hl : R.L.length ≤ 60001) (hel : es.length ≤ 60000)
    (hb : 0 ≤ R.bl ∧ R.bl ≤ 10000000000) (hi : 0 < R.ino ∧ R.ino ≤ 1000000) (hf : furB s kn.length ≤ R.bl)
    (HW : Calls Tryz.prog 59 #[ptr r, .slice (some ⟨b0, off, none⟩) n c] w fun e w' => e = .returned (.tuple #[.int .i64 (m : Nat), .int .i64 0]) ∧ Below w.heap.size w w') :
    Calls Tryz.prog 31 #[ptr r, .slice (some ⟨b0, off, none⟩) N1 c, .bool d] w fun e w' => e = .returned (.int .i64 0) ∧ Hid (Rto w w' r q G ⟨(frL R.L (newTh d)).set m (.dir (puE k es x ((frN R.L : Nat) + 1))), R.bl - furB s kn.length, R.ino - 1⟩) := by
  have hx1 : 1 ≤ x.size := (nameB_parts hx).1
  have hll := Sl.len hS
  have hfb := furB_bd s kn.length
  have hmg : ¬ R.at m = .gone := by rw [hm]; simp
  have hno : IdxN es x (-1) := hS.idxNo hx1 hk
  obtain ⟨hml, cc, a1, d1, cL, c0, c1, c2, c3, hE, _⟩ := h.dirAt hm
  have hlen := hP.len 1
  obtain ⟨L, hL⟩ : ∃ L, Hid (max s (kn.length + 1) = L) := ⟨_, rfl⟩
  have hfur := hP.fur
  rw [hL.out] at hlen hfur
  have hL1 : 1 ≤ L ∧ L ≤ 60001 := by
    have := hL.out
    have h2 := (puE_at hP.le x 1).1
    have h3 : (puE k es x 1).length ≤ es.length + 1 := by unfold puE; split <;> simp
    omega
  -- what stays while nothing but new blocks changes
  have HS : ∀ w', Hid (Below w.heap.size w w') → (Hid (Below w.heap.size w w') ∧ w'.cell? ⟨r, 0, none⟩ = some (.slice (some ⟨q, 0, none⟩) R.L.length cc) ∧ w'.cell? ⟨r, 1, none⟩ = some (.int .i64 R.bl) ∧ w'.cell? ⟨r, 2, none⟩ = some (.int .i64 R.ino) ∧ w'.cell? ⟨q, m * 4 + 1, none⟩ = some (.bool true) ∧ w'.cell? ⟨q, m * 4 + 3, none⟩ = some (.slice a1 es.length d1) ∧ w'.cell? ⟨b0, off + n, none⟩ = some (.string x)) := fun w' hb => by
    have hc := Chg.ofBelowC hb.out
    exact ⟨hb, hc.cell cL (fun h => h), hc.cell h.cB (fun h => h), hc.cell h.cI (fun h => h), hc.cell c1 (fun h => h), hc.cell c3 (fun h => h), hc.cell cx (fun h => h)⟩
  have HA : ∀ w', Hid (Below w.heap.size w w') → Hid (Calls Tryz.prog 60 #[.slice a1 es.length d1, .string x] w' fun e w'' => e = .returned (.int .i64 (-1)) ∧ w'' = w') := fun w' hb =>
    (rat_any (.slice a1 es.length d1) es x w' (hE.below hb.out) (by omega)).mono (by
      rintro e w' ⟨r', rfl, hr', rfl⟩
      exact ⟨by rw [hr'.out.unique hno], rfl⟩)
  have HPu : ∀ w', Hid (Below w.heap.size w w') → Hid (Calls Tryz.prog 61 #[.slice a1 es.length d1, .string x, .int .i64 1] w' fun e w'' => ∃ g uc y, e = .returned (.tuple #[.slice (some ⟨g, 0, none⟩) L uc, .int .i64 y, .int .i64 0]) ∧ Hid (Below w.heap.size w w'') ∧ Hid (w''.ownsRow w.heap.size 116 2 (.slice (some ⟨g, 0, none⟩) L uc) L (ecells (puE k es x 1)))) := fun w' hb =>
    (hP.put (.slice a1 es.length d1) w' 1 (hE.below hb.out) (by omega) (by show decide _ = true; decide)).mono (by
      rintro e w'' ⟨u, y, rfl, hF⟩
      have ho := own_down hF.out.1 hb.out.size
      rw [hlen] at ho
      have hB : Below w.heap.size w w'' := hb.out.trans (hF.out.2.mono hb.out.size)
      rcases ho.2 with ⟨_, h0⟩ | ⟨g, cap, cur, rfl, _⟩
      · omega
      · exact ⟨g, cap, y, rfl, hB, ho⟩)
  have HN1 : ∀ (w' : World) (g uc : Nat), Hid (w'.ownsRow w.heap.size 116 2 (.slice (some ⟨g, 0, none⟩) L uc) L (ecells (puE k es x 1))) → ∀ j, Hid (Calls Tryz.prog 62 #[.slice (some ⟨g, 0, none⟩) L uc] (w'.drewN j) fun e w'' => e = .returned (.int .i64 (slB L)) ∧ w'' = w'.drewN j) := fun w' g uc ho j => by
    have := rneed_any (.slice (some ⟨g, 0, none⟩) L uc) (puE k es x 1) (w'.drewN j) ((Es.ofOwns ho.out).more (Chg.drewN _ _ _)) (by omega)
    rw [hlen] at this
    exact this
  have HN2 : ∀ w', Hid (Below w.heap.size w w') → ∀ j, Hid (Calls Tryz.prog 62 #[.slice a1 es.length d1] (w'.drewN j) fun e w'' => e = .returned (.int .i64 (slB es.length)) ∧ w'' = w'.drewN j) := fun w' hb j =>
    rneed_any (.slice a1 es.length d1) es (w'.drewN j) (hE.below (bN hb j).out) (by omega)
  have HWH : Hid (Calls Tryz.prog 59 #[ptr r, .slice (some ⟨b0, off, none⟩) n c] w fun e w' => e = .returned (.tuple #[.int .i64 (m : Nat), .int .i64 0]) ∧ Below w.heap.size w w') := HW
  obtain ⟨X1, hX1⟩ : ∃ X, slB L = X := ⟨_, rfl⟩
  obtain ⟨X2, hX2⟩ : ∃ X, slB es.length = X := ⟨_, rfl⟩
  have b1 := slB_bd L
  have b2 := slB_bd es.length
  rw [hX1] at HN1 b1
  rw [hX2] at HN2 b2
  have hfx : Hid (furB s kn.length = X1 - X2) := by
    show _ = _
    rw [← hfur, ← hX1, ← hX2, hll]
  have hfx' := hfx.out
  have g1 : decide (R.ino = 0) = false := by simp; omega
  have g2 : (R.ino == 0) = false := by simp; omega
  have g3 : ¬ R.ino = 0 := by omega
  have g4 : decide (R.bl < X1 - X2) = false := by simp; omega
  have g5 : ¬ (R.bl < X1 - X2) := by omega
  have i1 : (n : Int) < (N1 : Int) := by omega
  have i2 : n ≤ N1 := by omega
  have i3 : N1 ≤ c := by omega
  have w7 : (N1 : Int) - 1 = n := by omega
  have w8 : ¬ (N1 : Int) = 0 := by omega
  have w9 : ((N1 : Int) == 0) = false := by simp; omega
  have q2 : (m : Int) < R.L.length := by omega
  have HBD : Hid (0 ≤ R.bl ∧ R.bl ≤ 10000000000 ∧ 0 < R.ino ∧ R.ino ≤ 1000000) := ⟨hb.1, hb.2, hi.1, hi.2⟩
  have HMM : Hid (R.at m = .dir es ∧ (∀ i, (puE k es x i).length = L) ∧ ¬ m = frN R.L) := ⟨hm, fun i => (hP.len i).trans hL.out, fun e => hmg (by rw [e]; exact frN_gone _)⟩
  have HX : Hid (0 ≤ X1 ∧ X1 ≤ 20000 ∧ 0 ≤ X2 ∧ X2 ≤ 20000) := ⟨b1.1, b1.2, b2.1, b2.2⟩
  have HR : Hid (Rt w r q G R) := h
  have HPP : Hid (Spo es s kn f x k) := hP
  have HSH : Hid _ := HS
  have HAH : Hid _ := HA
  have HPH : Hid _ := HPu
  have HNH : Hid _ := HN1
  have HMH : Hid _ := HN2
  clear HS HA HPu HN1 HN2 hS hN1 hll hfb hx1 hm hk hx hf hb hi
  clear h HW hE c0 c1 c2 c3 cL cx hP hno hfur hX1 hX2 hfx' hlen hmg b1 b2
  go_enter Tryz.func31, Tryz.ntmps31
  go_wp2_with fail
  refine HWH.out.mono ?_
  clear HWH w7 w8 w9
  rintro e w1 ⟨rfl, B1⟩
  have HB1 : Hid (Below w.heap.size w w1) := B1
  clear B1
  obtain ⟨_, z0, z1, z2, z3, z4, z5⟩ := HSH.out w1 HB1
  go_wp2_with fail
  have HA1 : Hid (∀ j, Calls Tryz.prog 60 #[.slice a1 es.length d1, .string x] (w1.drewN j) fun e w'' => e = .returned (.int .i64 (-1)) ∧ w'' = w1.drewN j) := fun j => (HAH.out _ (bN HB1 j)).out
  go_quiet ((go_at_call 60; exact Calls.quiet_of_same (HA1.out _)))
  go_wp2_with fail
  have HB2 := bN HB1 nq
  generalize w1.drewN nq = w2 at *
  clear HB1 z0 z1 z2 z3 z4 z5
  go_region_held (fun w' => (Hid (Below w.heap.size w w') ∧ w'.cell? ⟨r, 0, none⟩ = some (.slice (some ⟨q, 0, none⟩) R.L.length cc) ∧ w'.cell? ⟨r, 1, none⟩ = some (.int .i64 R.bl) ∧ w'.cell? ⟨r, 2, none⟩ = some (.int .i64 R.ino) ∧ w'.cell? ⟨q, m * 4 + 1, none⟩ = some (.bool true) ∧ w'.cell? ⟨q, m * 4 + 3, none⟩ = some (.slice a1 es.length d1) ∧ w'.cell? ⟨b0, off + n, none⟩ = some (.string x))) (exact HSH.out _ (by first | with_reducible assumption | exact bD HB2 | exact bN HB2 _ | exact bD (bN HB2 _)))
    (first | (go_at_call 61; refine (HPH.out _ (by first | with_reducible assumption | exact bD HB2 | exact bN HB2 _ | exact bD (bN HB2 _))).out.mono ?_; rintro e w3 ⟨g, uc, y, rfl, HB3, HO3⟩))
  go_wp2_with fail
  obtain ⟨_, z0, z1, z2, z3, z4, z5⟩ := HSH.out w3 HB3
  have HK1 := HNH.out w3 g uc HO3
  have HK2 := HMH.out w3 HB3
  have hx := HX.out
  go_quiet (first | (go_at_call 62; exact Calls.quiet_of_same (HK1 _).out) | (go_at_call 62; exact Calls.quiet_of_same (HK2 _).out))
  have HB4 := bN HB3 nq
  have HO4 : Hid ((w3.drewN nq).ownsRow w.heap.size 116 2 (.slice (some ⟨g, 0, none⟩) L uc) L (ecells (puE k es x 1))) := HO3.out
  generalize w3.drewN nq = w4 at *
  clear HB3 HO3 z0 z1 z2 z3 z4 z5 HK1 HK2 hx
  obtain ⟨_, z0, z1, z2, z3, z4, z5⟩ := HSH.out w4 HB4
  have R4 : Hid (Rt w4 r q G R) := HR.out.below HB4.out
  have HF : Hid (Calls Tryz.prog 63 #[ptr r, .agg #[.bool true, .bool d, .slice none 0 0, .slice none 0 0]] w4 fun e w' => e = .returned (.int .i64 (frN R.L : Nat)) ∧ ∃ q', (q' = q ∨ w4.heap.size ≤ q') ∧ Rt w' r q' G { R with L := frL R.L (newTh d) } ∧ Chg (fun b => b = r ∨ b = q) w4 w') := rfresh_any w4 R4.out d (by omega) (by omega)
  go_wp2_with fail
  refine HF.out.mono ?_
  clear HF z0 z1 z2 z3 z4
  rintro e w5 ⟨rfl, q', hq', hR5, hc5⟩
  obtain ⟨F, hF⟩ : ∃ F, Hid (frN R.L = F) := ⟨_, rfl⟩
  have hFl : F ≤ 60001 := by rw [← hF.out]; exact Nat.le_trans (frN_le _) hl
  rw [hF.out]
  -- where the slots lie
  have hglt : w.heap.size ≤ g ∧ g < w4.heap.size := by
    obtain ⟨g', cap, e, hg, hg2, _⟩ := own_place HO4.out (puE_at HPP.out.le x 1).1
    injection e with e1 e2 e3
    injection e1 with e1
    injection e1 with e1
    subst e1
    exact ⟨hg, hg2⟩
  have hlt := HR.out.lt
  have hgr : ¬ g = r := by omega
  have hgq : ¬ g = q := by omega
  have hgq' : ¬ g = q' := by rcases hq' with h | h <;> omega
  have hgG : ¬ G g := fun h => by have := HR.out.gl g h; omega
  have ho5 := own_farC HO4.out hc5 (fun e => e.elim hgr hgq)
  have z5' := hc5.cell z5 (fun e => e.elim hbr hbq)
  have hm5 : ({ R with L := frL R.L (newTh d) } : Rs).at m = .dir es := (frL_other R.L (newTh d) HMM.out.2.2).trans HMM.out.1
  obtain ⟨iI, y0, y1, HI⟩ := fin_I hR5 ho5 (puE_at HPP.out.le x 1).1 x (by rw [(puE_at HPP.out.le x 1).2]) ((F : Int) + 1) hgr hgq' hgG
  have kL : (k : Int) < L := by
    have h1 := (puE_at HPP.out.le x 1).1
    rw [HMM.out.2.1 1] at h1
    omega
  have HA5 : Hid (Calls Tryz.prog 60 #[.slice (some ⟨g, 0, none⟩) L uc, .string x] w5 fun e w'' => e = .returned (.int .i64 (k : Int)) ∧ w'' = w5) :=
    (rat_any (.slice (some ⟨g, 0, none⟩) L uc) (puE k es x 1) x w5 (Es.ofOwns ho5) (by rw [HMM.out.2.1 1]; omega)).mono (by
      rintro e w' ⟨r', rfl, hr', rfl⟩
      exact ⟨by rw [hr'.out.unique (HPP.out.idx 1)], rfl⟩)
  have HM5 : Hid (({ R with L := frL R.L (newTh d) } : Rs).at m = .dir es) := hm5
  have HC5 : Hid (Chg (fun b => b = r ∨ b = q) w4 w5 ∧ (q' = q ∨ w4.heap.size ≤ q')) := ⟨hc5, hq'⟩
  clear hR5 ho5 hm5 hc5 hq' z5 R4 HO4
  go_wp2_with fail
  refine HA5.out.mono ?_
  clear HA5
  rintro e w6 ⟨rfl, rfl⟩
  go_upto_region 17 with fail
  obtain ⟨w7, hw7⟩ : ∃ w7, w6.setCell ⟨g, k * 2 + 1, none⟩ (.int .i64 ((F : Int) + 1)) = w7 := ⟨_, rfl⟩
  rw [hw7]
  obtain ⟨hR7, ho7, hc7⟩ := HI.out w7 hw7
  clear HI y0 y1 z5' hw7
  have hHC7 : Hid (Chg (fun b => b = g) w6 w7) := hc7
  rw [puE_set HPP.out.le] at ho7
  obtain ⟨c', a', d', s0, s3, sf, sl, HS7⟩ := fin_S hR7 HM5.out ho7 hgr hgq'
  have q3 : (m : Int) < (frL R.L (newTh d)).length := by have h : m < (frL R.L (newTh d)).length := sl; omega
  have s0' : w7.cell? ⟨r, 0, none⟩ = some (.slice (some ⟨q', 0, none⟩) (frL R.L (newTh d)).length c') := s0
  clear hR7 ho7 hc7 s0
  go_upto_region 18 with fail
  obtain ⟨w8, hw8⟩ : ∃ w8, w7.setCell ⟨q', m * 4 + 3, none⟩ (.slice (some ⟨g, 0, none⟩) L uc) = w8 := ⟨_, rfl⟩
  rw [hw8]
  obtain ⟨t1, tf, _, HR8, HC8⟩ := HS7.out w8 hw8
  have t1' : w8.cell? ⟨r, 1, none⟩ = some (.int .i64 R.bl) := t1
  clear HS7 hw8 s0' s3 sf t1
  obtain ⟨u1, u2, u3, u4⟩ := HBD.out
  obtain ⟨v1, v2, v3, v4⟩ := HX.out
  go_upto_region 19 with fail
  obtain ⟨w9, hw9⟩ : ∃ w9, w8.setCell ⟨r, 1, none⟩ (.int .i64 (R.bl - (X1 - X2))) = w9 := ⟨_, rfl⟩
  rw [hw9]
  obtain ⟨t2, tf2, HR9, HC9⟩ := fin_B HR8.out (R.bl - (X1 - X2)) w9 hw9
  have t2' : w9.cell? ⟨r, 2, none⟩ = some (.int .i64 R.ino) := t2
  clear hw9 t1' tf t2
  go_upto_region 20 with fail
  obtain ⟨wz, hwz⟩ : ∃ wz, w9.setCell ⟨r, 2, none⟩ (.int .i64 (R.ino - 1)) = wz := ⟨_, rfl⟩
  rw [hwz]
  obtain ⟨hRz, hcz⟩ := fin_N HR9.out (R.ino - 1) wz hwz
  clear hwz t2' tf2
  have HZ : Hid (Rto w wz r q G ⟨(frL R.L (newTh d)).set m (.dir (puE k es x ((frN R.L : Nat) + 1))), R.bl - furB s kn.length, R.ino - 1⟩) := by
    have e5 : Chg (fun b => b = r ∨ b = q) w w6 := ((Chg.ofBelowC HB4.out).mono (fun _ _ h => h.elim)).trans HC5.out.1 (fun _ _ h => h)
    refine ⟨⟨q', _, by rw [hF.out, hfx.out]; exact hRz, ?_, ?_⟩, ?_⟩
    · rcases HC5.out.2 with h | h
      · exact .inl h
      · exact .inr (Nat.le_trans HB4.out.size h)
    · rintro b (h | rfl)
      · exact .inl h
      · exact .inr hglt.1
    · have f1 := e5.trans hHC7.out (fun i hi e => by subst e; omega)
      have f2 := f1.trans HC8.out (fun i hi e => by
        subst e
        rcases HC5.out.2 with h | h
        · exact .inr h
        · have := HB4.out.size; omega)
      exact (f2.trans HC9.out (fun i hi e => .inl e)).trans hcz (fun i hi e => .inl e)
  clear hRz hcz
  go_wp2_with fail
  go_ret
  exact ⟨rfl, HZ⟩
end Go.Proofs.YtlnjnimenihhnaaGreatDoor

namespace Go.Proofs.YtlnjnimenihhnaaGreatDoor
open Go.RowKit Go.Maps

set_option maxHeartbeats 1600000 in
set_option maxRecDepth 100000 in
theorem rmake_nil {r : Nat} (a : Option Addr) (c : Nat) (d : Bool) (w : World) :
    Calls Tryz.prog 31 #[ptr r, .slice a 0 c, .bool d] w fun e w' => e = .returned (.int .i64 9) ∧ w' = w := by
  go_enter Tryz.func31, Tryz.ntmps31
  go_wp2_with fail
  go_ret
  exact ⟨rfl, rfl⟩
set_option maxHeartbeats 1600000 in
set_option maxRecDepth 100000 in
theorem rmake_err {r : Nat} (n N1 c b0 off : Nat) (hN1 : N1 = n + 1) (d : Bool) (w : World) (hnc : n < c) (hn : n ≤ 1000) (m ec : Int) (he : ¬ ec = 0)
    (HW : Calls Tryz.prog 59 #[ptr r, .slice (some ⟨b0, off, none⟩) n c] w fun e w' => e = .returned (.tuple #[.int .i64 m, .int .i64 ec]) ∧ Below w.heap.size w w') :
    Calls Tryz.prog 31 #[ptr r, .slice (some ⟨b0, off, none⟩) N1 c, .bool d] w fun e w' => e = .returned (.int .i64 ec) ∧ Below w.heap.size w w' := by
  have i1 : (n : Int) < (N1 : Int) := by omega
  have i2 : n ≤ N1 := by omega
  have i3 : N1 ≤ c := by omega
  have w7 : (N1 : Int) - 1 = n := by omega
  have w8 : ¬ (N1 : Int) = 0 := by omega
  have w9 : ((N1 : Int) == 0) = false := by simp; omega
  have e1 : (ec == 0) = false := by simpa using he
  have e2 : decide (ec = 0) = false := by simpa using he
  have HWH : Hid (Calls Tryz.prog 59 #[ptr r, .slice (some ⟨b0, off, none⟩) n c] w fun e w' => e = .returned (.tuple #[.int .i64 m, .int .i64 ec]) ∧ Below w.heap.size w w') := HW
  clear HW
  go_enter Tryz.func31, Tryz.ntmps31
  go_wp2_with fail
  refine HWH.out.mono ?_
  clear HWH w7 w8 w9
  rintro e w1 ⟨rfl, B1⟩
  have HB1 : Hid (Below w.heap.size w w1) := B1
  clear B1
  go_wp2_with fail
  go_ret
  exact ⟨rfl, HB1.out⟩
set_option maxHeartbeats 1600000 in
set_option maxRecDepth 100000 in
theorem rmake_file {r q m : Nat} {G : Nat → Prop} {R : Rs} {bs : List Int} (n N1 c b0 off : Nat) (hN1 : N1 = n + 1) (d : Bool) (w : World) (h : Rt w r q G R) (hm : R.at m = .file bs) (_hl : R.L.length ≤ 60001) (hnc : n < c) (hn : n ≤ 1000)
    (HW : Calls Tryz.prog 59 #[ptr r, .slice (some ⟨b0, off, none⟩) n c] w fun e w' => e = .returned (.tuple #[.int .i64 (m : Nat), .int .i64 0]) ∧ Below w.heap.size w w') :
    Calls Tryz.prog 31 #[ptr r, .slice (some ⟨b0, off, none⟩) N1 c, .bool d] w fun e w' => e = .returned (.int .i64 11) ∧ Below w.heap.size w w' := by
  have i1 : (n : Int) < (N1 : Int) := by omega
  have i2 : n ≤ N1 := by omega
  have i3 : N1 ≤ c := by omega
  have w7 : (N1 : Int) - 1 = n := by omega
  have w8 : ¬ (N1 : Int) = 0 := by omega
  have w9 : ((N1 : Int) == 0) = false := by simp; omega
  have HWH : Hid (Calls Tryz.prog 59 #[ptr r, .slice (some ⟨b0, off, none⟩) n c] w fun e w' => e = .returned (.tuple #[.int .i64 (m : Nat), .int .i64 0]) ∧ Below w.heap.size w w') := HW
  have HR : Hid (Rt w r q G R) := h
  clear HW h
  go_enter Tryz.func31, Tryz.ntmps31
  go_wp2_with fail
  refine HWH.out.mono ?_
  clear HWH w7 w8 w9
  rintro e w1 ⟨rfl, B1⟩
  have HB1 : Hid (Below w.heap.size w w1) := B1
  obtain ⟨hml, cc, a1, d1, cL, c0, c1, c2, c3, hE, _⟩ := (HR.out.below B1).fileAt hm
  have q2 : (m : Int) < R.L.length := by omega
  clear B1 HR c0 c2 c3 hE
  go_wp2_with fail
  go_ret
  exact ⟨rfl, HB1.out⟩
set_option maxHeartbeats 1600000 in
set_option maxRecDepth 100000 in
theorem rmake_is {r q m : Nat} {G : Nat → Prop} {R : Rs} {es : List En} {x : ByteArray} (n N1 c b0 off k : Nat) (hN1 : N1 = n + 1) (d : Bool) (w : World) (h : Rt w r q G R) (cx : w.cell? ⟨b0, off + n, none⟩ = some (.string x)) (hm : R.at m = .dir es) (hi : IdxN es x (k : Int)) (_hl : R.L.length ≤ 60001) (hel : es.length ≤ 60000) (hnc : n < c) (hn : n ≤ 1000)
    (HW : Calls Tryz.prog 59 #[ptr r, .slice (some ⟨b0, off, none⟩) n c] w fun e w' => e = .returned (.tuple #[.int .i64 (m : Nat), .int .i64 0]) ∧ Below w.heap.size w w') :
    Calls Tryz.prog 31 #[ptr r, .slice (some ⟨b0, off, none⟩) N1 c, .bool d] w fun e w' => e = .returned (.int .i64 9) ∧ Below w.heap.size w w' := by
  have i1 : (n : Int) < (N1 : Int) := by omega
  have i2 : n ≤ N1 := by omega
  have i3 : N1 ≤ c := by omega
  have w7 : (N1 : Int) - 1 = n := by omega
  have w8 : ¬ (N1 : Int) = 0 := by omega
  have w9 : ((N1 : Int) == 0) = false := by simp; omega
  have HWH : Hid (Calls Tryz.prog 59 #[ptr r, .slice (some ⟨b0, off, none⟩) n c] w fun e w' => e = .returned (.tuple #[.int .i64 (m : Nat), .int .i64 0]) ∧ Below w.heap.size w w') := HW
  have HR : Hid (Rt w r q G R ∧ IdxN es x (k : Int)) := ⟨h, hi⟩
  clear HW h hi
  go_enter Tryz.func31, Tryz.ntmps31
  go_wp2_with fail
  refine HWH.out.mono ?_
  clear HWH w7 w8 w9
  rintro e w1 ⟨rfl, B1⟩
  have HB1 : Hid (Below w.heap.size w w1) := B1
  obtain ⟨hml, cc, a1, d1, cL, c0, c1, c2, c3, hE, _⟩ := (HR.out.1.below B1).dirAt hm
  have cx1 := (Chg.ofBelowC B1).cell cx (fun h => h)
  have HA1 : Hid (∀ j, Calls Tryz.prog 60 #[.slice a1 es.length d1, .string x] (w1.drewN j) fun e w'' => e = .returned (.int .i64 (k : Int)) ∧ w'' = w1.drewN j) := fun j =>
    (rat_any (.slice a1 es.length d1) es x (w1.drewN j) (hE.more (Chg.drewN _ _ _)) (by omega)).mono (by
      rintro e w' ⟨r', rfl, hr', rfl⟩
      exact ⟨by rw [hr'.out.unique HR.out.2], rfl⟩)
  have q2 : (m : Int) < R.L.length := by omega
  clear B1 HR c0 c2 hE cx
  go_wp2_with fail
  go_quiet ((go_at_call 60; exact Calls.quiet_of_same (HA1.out _)))
  have HB2 := bN HB1 nq
  go_wp2_with fail
  go_ret
  exact ⟨rfl, HB2.out⟩
set_option maxHeartbeats 6400000 in
set_option maxRecDepth 100000 in
theorem rmake_full0 {r q m k _K : Nat} {G : Nat → Prop} {R : Rs} {es : List En} {s : Nat} {kn : List ByteArray} {f : ByteArray → Nat} {x : ByteArray} (n N1 c b0 off : Nat) (hN1 : N1 = n + 1) (d : Bool) (w : World) (_hbr : ¬ b0 = r) (_hbq : ¬ b0 = q) (h : Rt w r q G R) (cx : w.cell? ⟨b0, off + n, none⟩ = some (.string x)) (hn : n ≤ 1000) (hnc : n < c) (hm : R.at m = .dir es) (hS : Sl es s kn f) (hx : nameB x = true) (hk : ¬ x ∈ kn) (hP : Spo es s kn f x k) (_hl : R.L.length ≤ 60001) (hel : es.length ≤ 60000)
    (_hb : 0 ≤ R.bl ∧ R.bl ≤ 10000000000) (hf : R.ino = 0)
    (HW : Calls Tryz.prog 59 #[ptr r, .slice (some ⟨b0, off, none⟩) n c] w fun e w' => e = .returned (.tuple #[.int .i64 (m : Nat), .int .i64 0]) ∧ Below w.heap.size w w') :
    Calls Tryz.prog 31 #[ptr r, .slice (some ⟨b0, off, none⟩) N1 c, .bool d] w fun e w' => e = .returned (.int .i64 7) ∧ Below w.heap.size w w' := by
  have hx1 : 1 ≤ x.size := (nameB_parts hx).1
  have hll := Sl.len hS
  have hfb := furB_bd s kn.length
  have hno : IdxN es x (-1) := hS.idxNo hx1 hk
  obtain ⟨hml, cc, a1, d1, cL, c0, c1, c2, c3, hE, _⟩ := h.dirAt hm
  have hlen := hP.len 1
  obtain ⟨L, hL⟩ : ∃ L, Hid (max s (kn.length + 1) = L) := ⟨_, rfl⟩
  have hfur := hP.fur
  rw [hL.out] at hlen hfur
  have hL1 : 1 ≤ L ∧ L ≤ 60001 := by
    have := hL.out
    have h2 := (puE_at hP.le x 1).1
    have h3 : (puE k es x 1).length ≤ es.length + 1 := by unfold puE; split <;> simp
    omega
  -- what stays while nothing but new blocks changes
  have HS : ∀ w', Hid (Below w.heap.size w w') → (Hid (Below w.heap.size w w') ∧ w'.cell? ⟨r, 0, none⟩ = some (.slice (some ⟨q, 0, none⟩) R.L.length cc) ∧ w'.cell? ⟨r, 1, none⟩ = some (.int .i64 R.bl) ∧ w'.cell? ⟨r, 2, none⟩ = some (.int .i64 R.ino) ∧ w'.cell? ⟨q, m * 4 + 1, none⟩ = some (.bool true) ∧ w'.cell? ⟨q, m * 4 + 3, none⟩ = some (.slice a1 es.length d1) ∧ w'.cell? ⟨b0, off + n, none⟩ = some (.string x)) := fun w' hb => by
    have hc := Chg.ofBelowC hb.out
    exact ⟨hb, hc.cell cL (fun h => h), hc.cell h.cB (fun h => h), hc.cell h.cI (fun h => h), hc.cell c1 (fun h => h), hc.cell c3 (fun h => h), hc.cell cx (fun h => h)⟩
  have HA : ∀ w', Hid (Below w.heap.size w w') → Hid (Calls Tryz.prog 60 #[.slice a1 es.length d1, .string x] w' fun e w'' => e = .returned (.int .i64 (-1)) ∧ w'' = w') := fun w' hb =>
    (rat_any (.slice a1 es.length d1) es x w' (hE.below hb.out) (by omega)).mono (by
      rintro e w' ⟨r', rfl, hr', rfl⟩
      exact ⟨by rw [hr'.out.unique hno], rfl⟩)
  have HPu : ∀ w', Hid (Below w.heap.size w w') → Hid (Calls Tryz.prog 61 #[.slice a1 es.length d1, .string x, .int .i64 1] w' fun e w'' => ∃ g uc y, e = .returned (.tuple #[.slice (some ⟨g, 0, none⟩) L uc, .int .i64 y, .int .i64 0]) ∧ Hid (Below w.heap.size w w'') ∧ Hid (w''.ownsRow w.heap.size 116 2 (.slice (some ⟨g, 0, none⟩) L uc) L (ecells (puE k es x 1)))) := fun w' hb =>
    (hP.put (.slice a1 es.length d1) w' 1 (hE.below hb.out) (by omega) (by show decide _ = true; decide)).mono (by
      rintro e w'' ⟨u, y, rfl, hF⟩
      have ho := own_down hF.out.1 hb.out.size
      rw [hlen] at ho
      have hB : Below w.heap.size w w'' := hb.out.trans (hF.out.2.mono hb.out.size)
      rcases ho.2 with ⟨_, h0⟩ | ⟨g, cap, cur, rfl, _⟩
      · omega
      · exact ⟨g, cap, y, rfl, hB, ho⟩)
  have HN1 : ∀ (w' : World) (g uc : Nat), Hid (w'.ownsRow w.heap.size 116 2 (.slice (some ⟨g, 0, none⟩) L uc) L (ecells (puE k es x 1))) → ∀ j, Hid (Calls Tryz.prog 62 #[.slice (some ⟨g, 0, none⟩) L uc] (w'.drewN j) fun e w'' => e = .returned (.int .i64 (slB L)) ∧ w'' = w'.drewN j) := fun w' g uc ho j => by
    have := rneed_any (.slice (some ⟨g, 0, none⟩) L uc) (puE k es x 1) (w'.drewN j) ((Es.ofOwns ho.out).more (Chg.drewN _ _ _)) (by omega)
    rw [hlen] at this
    exact this
  have HN2 : ∀ w', Hid (Below w.heap.size w w') → ∀ j, Hid (Calls Tryz.prog 62 #[.slice a1 es.length d1] (w'.drewN j) fun e w'' => e = .returned (.int .i64 (slB es.length)) ∧ w'' = w'.drewN j) := fun w' hb j =>
    rneed_any (.slice a1 es.length d1) es (w'.drewN j) (hE.below (bN hb j).out) (by omega)
  have HWH : Hid (Calls Tryz.prog 59 #[ptr r, .slice (some ⟨b0, off, none⟩) n c] w fun e w' => e = .returned (.tuple #[.int .i64 (m : Nat), .int .i64 0]) ∧ Below w.heap.size w w') := HW
  obtain ⟨X1, hX1⟩ : ∃ X, slB L = X := ⟨_, rfl⟩
  obtain ⟨X2, hX2⟩ : ∃ X, slB es.length = X := ⟨_, rfl⟩
  have b1 := slB_bd L
  have b2 := slB_bd es.length
  rw [hX1] at HN1 b1
  rw [hX2] at HN2 b2
  have hfx : Hid (furB s kn.length = X1 - X2) := by
    show _ = _
    rw [← hfur, ← hX1, ← hX2, hll]
  have hfx' := hfx.out
  have g1 : decide (R.ino = 0) = true := by simp [hf]
  have g2 : (R.ino == 0) = true := by simp [hf]
  have i1 : (n : Int) < (N1 : Int) := by omega
  have i2 : n ≤ N1 := by omega
  have i3 : N1 ≤ c := by omega
  have w7 : (N1 : Int) - 1 = n := by omega
  have w8 : ¬ (N1 : Int) = 0 := by omega
  have w9 : ((N1 : Int) == 0) = false := by simp; omega
  have q2 : (m : Int) < R.L.length := by omega
  have HX : Hid (0 ≤ X1 ∧ X1 ≤ 20000 ∧ 0 ≤ X2 ∧ X2 ≤ 20000) := ⟨b1.1, b1.2, b2.1, b2.2⟩
  have HSH : Hid _ := HS
  have HAH : Hid _ := HA
  have HPH : Hid _ := HPu
  have HNH : Hid _ := HN1
  have HMH : Hid _ := HN2
  clear HS HA HPu HN1 HN2 hS hN1 hll hfb hx1 hm hk hx hf _hb
  clear h HW hE c0 c1 c2 c3 cL cx hP hno hfur hX1 hX2 hfx' hlen b1 b2
  go_enter Tryz.func31, Tryz.ntmps31
  go_wp2_with fail
  refine HWH.out.mono ?_
  clear HWH w7 w8 w9
  rintro e w1 ⟨rfl, B1⟩
  have HB1 : Hid (Below w.heap.size w w1) := B1
  clear B1
  obtain ⟨_, z0, z1, z2, z3, z4, z5⟩ := HSH.out w1 HB1
  go_wp2_with fail
  have HA1 : Hid (∀ j, Calls Tryz.prog 60 #[.slice a1 es.length d1, .string x] (w1.drewN j) fun e w'' => e = .returned (.int .i64 (-1)) ∧ w'' = w1.drewN j) := fun j => (HAH.out _ (bN HB1 j)).out
  go_quiet ((go_at_call 60; exact Calls.quiet_of_same (HA1.out _)))
  go_wp2_with fail
  have HB2 := bN HB1 nq
  generalize w1.drewN nq = w2 at *
  clear HB1 z0 z1 z2 z3 z4 z5
  go_region_held (fun w' => (Hid (Below w.heap.size w w') ∧ w'.cell? ⟨r, 0, none⟩ = some (.slice (some ⟨q, 0, none⟩) R.L.length cc) ∧ w'.cell? ⟨r, 1, none⟩ = some (.int .i64 R.bl) ∧ w'.cell? ⟨r, 2, none⟩ = some (.int .i64 R.ino) ∧ w'.cell? ⟨q, m * 4 + 1, none⟩ = some (.bool true) ∧ w'.cell? ⟨q, m * 4 + 3, none⟩ = some (.slice a1 es.length d1) ∧ w'.cell? ⟨b0, off + n, none⟩ = some (.string x))) (exact HSH.out _ (by first | with_reducible assumption | exact bD HB2 | exact bN HB2 _ | exact bD (bN HB2 _)))
    (first | (go_at_call 61; refine (HPH.out _ (by first | with_reducible assumption | exact bD HB2 | exact bN HB2 _ | exact bD (bN HB2 _))).out.mono ?_; rintro e w3 ⟨g, uc, y, rfl, HB3, HO3⟩))
  go_wp2_with fail
  obtain ⟨_, z0, z1, z2, z3, z4, z5⟩ := HSH.out w3 HB3
  have HK1 := HNH.out w3 g uc HO3
  have HK2 := HMH.out w3 HB3
  have hx := HX.out
  go_quiet (first | (go_at_call 62; exact Calls.quiet_of_same (HK1 _).out) | (go_at_call 62; exact Calls.quiet_of_same (HK2 _).out))
  have HB4 := bN HB3 nq
  generalize w3.drewN nq = w4 at *
  clear HB3 HO3 z0 z1 z2 z3 z4 z5 HK1 HK2 hx
  obtain ⟨_, z0, z1, z2, z3, z4, z5⟩ := HSH.out w4 HB4
  go_wp2_with fail
  go_ret
  exact ⟨rfl, HB4.out⟩
set_option maxHeartbeats 6400000 in
set_option maxRecDepth 100000 in
theorem rmake_full1 {r q m k _K : Nat} {G : Nat → Prop} {R : Rs} {es : List En} {s : Nat} {kn : List ByteArray} {f : ByteArray → Nat} {x : ByteArray} (n N1 c b0 off : Nat) (hN1 : N1 = n + 1) (d : Bool) (w : World) (_hbr : ¬ b0 = r) (_hbq : ¬ b0 = q) (h : Rt w r q G R) (cx : w.cell? ⟨b0, off + n, none⟩ = some (.string x)) (hn : n ≤ 1000) (hnc : n < c) (hm : R.at m = .dir es) (hS : Sl es s kn f) (hx : nameB x = true) (hk : ¬ x ∈ kn) (hP : Spo es s kn f x k) (_hl : R.L.length ≤ 60001) (hel : es.length ≤ 60000)
    (_hb : 0 ≤ R.bl ∧ R.bl ≤ 10000000000) (hi : ¬ R.ino = 0) (hf : R.bl < furB s kn.length)
    (HW : Calls Tryz.prog 59 #[ptr r, .slice (some ⟨b0, off, none⟩) n c] w fun e w' => e = .returned (.tuple #[.int .i64 (m : Nat), .int .i64 0]) ∧ Below w.heap.size w w') :
    Calls Tryz.prog 31 #[ptr r, .slice (some ⟨b0, off, none⟩) N1 c, .bool d] w fun e w' => e = .returned (.int .i64 7) ∧ Below w.heap.size w w' := by
  have hx1 : 1 ≤ x.size := (nameB_parts hx).1
  have hll := Sl.len hS
  have hfb := furB_bd s kn.length
  have hno : IdxN es x (-1) := hS.idxNo hx1 hk
  obtain ⟨hml, cc, a1, d1, cL, c0, c1, c2, c3, hE, _⟩ := h.dirAt hm
  have hlen := hP.len 1
  obtain ⟨L, hL⟩ : ∃ L, Hid (max s (kn.length + 1) = L) := ⟨_, rfl⟩
  have hfur := hP.fur
  rw [hL.out] at hlen hfur
  have hL1 : 1 ≤ L ∧ L ≤ 60001 := by
    have := hL.out
    have h2 := (puE_at hP.le x 1).1
    have h3 : (puE k es x 1).length ≤ es.length + 1 := by unfold puE; split <;> simp
    omega
  -- what stays while nothing but new blocks changes
  have HS : ∀ w', Hid (Below w.heap.size w w') → (Hid (Below w.heap.size w w') ∧ w'.cell? ⟨r, 0, none⟩ = some (.slice (some ⟨q, 0, none⟩) R.L.length cc) ∧ w'.cell? ⟨r, 1, none⟩ = some (.int .i64 R.bl) ∧ w'.cell? ⟨r, 2, none⟩ = some (.int .i64 R.ino) ∧ w'.cell? ⟨q, m * 4 + 1, none⟩ = some (.bool true) ∧ w'.cell? ⟨q, m * 4 + 3, none⟩ = some (.slice a1 es.length d1) ∧ w'.cell? ⟨b0, off + n, none⟩ = some (.string x)) := fun w' hb => by
    have hc := Chg.ofBelowC hb.out
    exact ⟨hb, hc.cell cL (fun h => h), hc.cell h.cB (fun h => h), hc.cell h.cI (fun h => h), hc.cell c1 (fun h => h), hc.cell c3 (fun h => h), hc.cell cx (fun h => h)⟩
  have HA : ∀ w', Hid (Below w.heap.size w w') → Hid (Calls Tryz.prog 60 #[.slice a1 es.length d1, .string x] w' fun e w'' => e = .returned (.int .i64 (-1)) ∧ w'' = w') := fun w' hb =>
    (rat_any (.slice a1 es.length d1) es x w' (hE.below hb.out) (by omega)).mono (by
      rintro e w' ⟨r', rfl, hr', rfl⟩
      exact ⟨by rw [hr'.out.unique hno], rfl⟩)
  have HPu : ∀ w', Hid (Below w.heap.size w w') → Hid (Calls Tryz.prog 61 #[.slice a1 es.length d1, .string x, .int .i64 1] w' fun e w'' => ∃ g uc y, e = .returned (.tuple #[.slice (some ⟨g, 0, none⟩) L uc, .int .i64 y, .int .i64 0]) ∧ Hid (Below w.heap.size w w'') ∧ Hid (w''.ownsRow w.heap.size 116 2 (.slice (some ⟨g, 0, none⟩) L uc) L (ecells (puE k es x 1)))) := fun w' hb =>
    (hP.put (.slice a1 es.length d1) w' 1 (hE.below hb.out) (by omega) (by show decide _ = true; decide)).mono (by
      rintro e w'' ⟨u, y, rfl, hF⟩
      have ho := own_down hF.out.1 hb.out.size
      rw [hlen] at ho
      have hB : Below w.heap.size w w'' := hb.out.trans (hF.out.2.mono hb.out.size)
      rcases ho.2 with ⟨_, h0⟩ | ⟨g, cap, cur, rfl, _⟩
      · omega
      · exact ⟨g, cap, y, rfl, hB, ho⟩)
  have HN1 : ∀ (w' : World) (g uc : Nat), Hid (w'.ownsRow w.heap.size 116 2 (.slice (some ⟨g, 0, none⟩) L uc) L (ecells (puE k es x 1))) → ∀ j, Hid (Calls Tryz.prog 62 #[.slice (some ⟨g, 0, none⟩) L uc] (w'.drewN j) fun e w'' => e = .returned (.int .i64 (slB L)) ∧ w'' = w'.drewN j) := fun w' g uc ho j => by
    have := rneed_any (.slice (some ⟨g, 0, none⟩) L uc) (puE k es x 1) (w'.drewN j) ((Es.ofOwns ho.out).more (Chg.drewN _ _ _)) (by omega)
    rw [hlen] at this
    exact this
  have HN2 : ∀ w', Hid (Below w.heap.size w w') → ∀ j, Hid (Calls Tryz.prog 62 #[.slice a1 es.length d1] (w'.drewN j) fun e w'' => e = .returned (.int .i64 (slB es.length)) ∧ w'' = w'.drewN j) := fun w' hb j =>
    rneed_any (.slice a1 es.length d1) es (w'.drewN j) (hE.below (bN hb j).out) (by omega)
  have HWH : Hid (Calls Tryz.prog 59 #[ptr r, .slice (some ⟨b0, off, none⟩) n c] w fun e w' => e = .returned (.tuple #[.int .i64 (m : Nat), .int .i64 0]) ∧ Below w.heap.size w w') := HW
  obtain ⟨X1, hX1⟩ : ∃ X, slB L = X := ⟨_, rfl⟩
  obtain ⟨X2, hX2⟩ : ∃ X, slB es.length = X := ⟨_, rfl⟩
  have b1 := slB_bd L
  have b2 := slB_bd es.length
  rw [hX1] at HN1 b1
  rw [hX2] at HN2 b2
  have hfx : Hid (furB s kn.length = X1 - X2) := by
    show _ = _
    rw [← hfur, ← hX1, ← hX2, hll]
  have hfx' := hfx.out
  have g1 : decide (R.ino = 0) = false := by simpa using hi
  have g2 : (R.ino == 0) = false := by simpa using hi
  have g4 : decide (R.bl < X1 - X2) = true := by simp; omega
  have g5 : R.bl < X1 - X2 := by omega
  have i1 : (n : Int) < (N1 : Int) := by omega
  have i2 : n ≤ N1 := by omega
  have i3 : N1 ≤ c := by omega
  have w7 : (N1 : Int) - 1 = n := by omega
  have w8 : ¬ (N1 : Int) = 0 := by omega
  have w9 : ((N1 : Int) == 0) = false := by simp; omega
  have q2 : (m : Int) < R.L.length := by omega
  have HX : Hid (0 ≤ X1 ∧ X1 ≤ 20000 ∧ 0 ≤ X2 ∧ X2 ≤ 20000) := ⟨b1.1, b1.2, b2.1, b2.2⟩
  have HSH : Hid _ := HS
  have HAH : Hid _ := HA
  have HPH : Hid _ := HPu
  have HNH : Hid _ := HN1
  have HMH : Hid _ := HN2
  clear HS HA HPu HN1 HN2 hS hN1 hll hfb hx1 hm hk hx hf _hb
  clear h HW hE c0 c1 c2 c3 cL cx hP hno hfur hX1 hX2 hfx' hlen b1 b2
  go_enter Tryz.func31, Tryz.ntmps31
  go_wp2_with fail
  refine HWH.out.mono ?_
  clear HWH w7 w8 w9
  rintro e w1 ⟨rfl, B1⟩
  have HB1 : Hid (Below w.heap.size w w1) := B1
  clear B1
  obtain ⟨_, z0, z1, z2, z3, z4, z5⟩ := HSH.out w1 HB1
  go_wp2_with fail
  have HA1 : Hid (∀ j, Calls Tryz.prog 60 #[.slice a1 es.length d1, .string x] (w1.drewN j) fun e w'' => e = .returned (.int .i64 (-1)) ∧ w'' = w1.drewN j) := fun j => (HAH.out _ (bN HB1 j)).out
  go_quiet ((go_at_call 60; exact Calls.quiet_of_same (HA1.out _)))
  go_wp2_with fail
  have HB2 := bN HB1 nq
  generalize w1.drewN nq = w2 at *
  clear HB1 z0 z1 z2 z3 z4 z5
  go_region_held (fun w' => (Hid (Below w.heap.size w w') ∧ w'.cell? ⟨r, 0, none⟩ = some (.slice (some ⟨q, 0, none⟩) R.L.length cc) ∧ w'.cell? ⟨r, 1, none⟩ = some (.int .i64 R.bl) ∧ w'.cell? ⟨r, 2, none⟩ = some (.int .i64 R.ino) ∧ w'.cell? ⟨q, m * 4 + 1, none⟩ = some (.bool true) ∧ w'.cell? ⟨q, m * 4 + 3, none⟩ = some (.slice a1 es.length d1) ∧ w'.cell? ⟨b0, off + n, none⟩ = some (.string x))) (exact HSH.out _ (by first | with_reducible assumption | exact bD HB2 | exact bN HB2 _ | exact bD (bN HB2 _)))
    (first | (go_at_call 61; refine (HPH.out _ (by first | with_reducible assumption | exact bD HB2 | exact bN HB2 _ | exact bD (bN HB2 _))).out.mono ?_; rintro e w3 ⟨g, uc, y, rfl, HB3, HO3⟩))
  go_wp2_with fail
  obtain ⟨_, z0, z1, z2, z3, z4, z5⟩ := HSH.out w3 HB3
  have HK1 := HNH.out w3 g uc HO3
  have HK2 := HMH.out w3 HB3
  have hx := HX.out
  go_quiet (first | (go_at_call 62; exact Calls.quiet_of_same (HK1 _).out) | (go_at_call 62; exact Calls.quiet_of_same (HK2 _).out))
  have HB4 := bN HB3 nq
  generalize w3.drewN nq = w4 at *
  clear HB3 HO3 z0 z1 z2 z3 z4 z5 HK1 HK2 hx
  obtain ⟨_, z0, z1, z2, z3, z4, z5⟩ := HSH.out w4 HB4
  go_wp2_with fail
  go_ret
  exact ⟨rfl, HB4.out⟩
end Go.Proofs.YtlnjnimenihhnaaGreatDoor

namespace Go.Proofs.YtlnjnimenihhnaaGreatDoor
open Go.RowKit Go.Maps

theorem at_set (L : List Th) (m : Nat) (t : Th) (hm : m < L.length) : (L.set m t).getD m .gone = t := by simp [List.getD, hm]
theorem at_other (L : List Th) {m k : Nat} (t : Th) (h : ¬ k = m) : (L.set m t).getD k .gone = L.getD k .gone := by simp [List.getD, Ne.symm h]
theorem Tie.at_ne {F : Pth → Option Nd} {R : Rs} {num : Pth → Nat} (h : Tie F R num) {p : Pth} (hp : (F p).isSome = true) : ¬ R.at (num p) = .gone := by
  obtain ⟨nd, hn⟩ := Option.isSome_iff_exists.1 hp
  cases nd with
  | file bs => rw [h.fil p bs hn]; simp
  | dir s kn =>
    obtain ⟨es, he, _⟩ := h.dir p s kn hn
    rw [he]; simp
theorem Tie.not_fr {F : Pth → Option Nd} {R : Rs} {num : Pth → Nat} (h : Tie F R num) {p : Pth} (hp : (F p).isSome = true) : ¬ num p = frN R.L := fun e => h.at_ne hp (by rw [e]; exact frN_gone _)
theorem app_ne {init : Pth} {x : ByteArray} : ¬ init ++ [x] = [] := by simp
theorem app_inj {a b : Pth} {x y : ByteArray} (h : a ++ [x] = b ++ [y]) : a = b ∧ x = y := by
  have := List.append_inj' h rfl
  exact ⟨this.1, by simpa using this.2⟩
theorem app_self {a : Pth} {x : ByteArray} : ¬ a ++ [x] = a := fun h => by have := congrArg List.length h; simp at this
def newNd (d : Bool) : Nd := if d = true then .dir 0 [] else .file []
/-- A new thing. -/
theorem tie_add {F : Pth → Option Nd} {R : Rs} {num : Pth → Nat} (h : Tie F R num) {init : Pth} {x : ByteArray} {s : Nat} {kn : List ByteArray} {es : List En} {k : Nat} (hF : F init = some (.dir s kn)) (h0 : F (init ++ [x]) = none) (hx : ¬ x ∈ kn) (hP : Spo es s kn (fun y => num (init ++ [y])) x k) (he : R.at (num init) = .dir es) (d : Bool) (bl ino : Int) :
    Tie (setN (setN F init (some (.dir (max s (kn.length + 1)) (x :: kn)))) (init ++ [x]) (some (newNd d))) ⟨(frL R.L (newTh d)).set (num init) (.dir (puE k es x ((frN R.L : Nat) + 1))), bl, ino⟩ (fun p => if p = init ++ [x] then frN R.L else num p) := by
  have hi : (F init).isSome = true := by rw [hF]; rfl
  have hnf := h.not_fr hi
  have hml : num init < (frL R.L (newTh d)).length := Nat.lt_of_lt_of_le (h.lt hi) (frL_len _ _).2
  have ex : ∀ p, (setN (setN F init (some (.dir (max s (kn.length + 1)) (x :: kn)))) (init ++ [x]) (some (newNd d)) p).isSome = true → ¬ p = init ++ [x] → (F p).isSome = true := by
    intro p hp hne
    rw [setN_other _ _ hne] at hp
    by_cases e : p = init
    · rw [e]; exact hi
    · rw [setN_other _ _ e] at hp; exact hp
  have atF : ((frL R.L (newTh d)).set (num init) (.dir (puE k es x ((frN R.L : Nat) + 1)))).getD (frN R.L) .gone = newTh d := by
    rw [at_other _ _ (Ne.symm hnf), frL_at]
  have atO : ∀ p, (F p).isSome = true → ¬ p = init → ((frL R.L (newTh d)).set (num init) (.dir (puE k es x ((frN R.L : Nat) + 1)))).getD (num p) .gone = R.at (num p) := by
    intro p hp hne
    rw [at_other _ _ (fun e => hne (h.inj _ _ hp hi e)), frL_other _ _ (h.not_fr hp)]
  refine ⟨?_, fun p q hp hq e => ?_, fun p bs hp => ?_, fun p s' kn' hp => ?_⟩
  · show (if [] = init ++ [x] then _ else _) = _
    rw [if_neg (fun e => app_ne e.symm)]; exact h.root
  · change (if p = init ++ [x] then frN R.L else num p) = (if q = init ++ [x] then frN R.L else num q) at e
    by_cases e1 : p = init ++ [x]
    · by_cases e2 : q = init ++ [x]
      · rw [e1, e2]
      · rw [if_pos e1, if_neg e2] at e
        exact absurd e.symm (h.not_fr (ex q hq e2))
    · by_cases e2 : q = init ++ [x]
      · rw [if_neg e1, if_pos e2] at e
        exact absurd e (h.not_fr (ex p hp e1))
      · rw [if_neg e1, if_neg e2] at e
        exact h.inj p q (ex p hp e1) (ex q hq e2) e
  · show List.getD _ (if p = init ++ [x] then _ else _) _ = _
    by_cases e1 : p = init ++ [x]
    · rw [e1, setN_same] at hp
      rw [if_pos e1, atF]
      cases d with
      | false =>
        have hp' : some (Nd.file []) = some (Nd.file bs) := hp
        cases hp'
        rfl
      | true =>
        have hp' : some (Nd.dir 0 []) = some (Nd.file bs) := hp
        cases hp'
    · rw [if_neg e1]
      have hs : (F p).isSome = true := ex p (by rw [hp]; rfl) e1
      rw [setN_other _ _ e1] at hp
      have e2 : ¬ p = init := fun e => by rw [e, setN_same] at hp; cases hp
      rw [setN_other _ _ e2] at hp
      rw [atO p hs e2]
      exact h.fil p bs hp
  · show ∃ es, List.getD _ (if p = init ++ [x] then _ else _) _ = _ ∧ _
    by_cases e1 : p = init ++ [x]
    · rw [e1, setN_same] at hp
      rw [if_pos e1, atF]
      cases d with
      | false =>
        have hp' : some (Nd.file []) = some (Nd.dir s' kn') := hp
        cases hp'
      | true =>
        have hp' : some (Nd.dir 0 []) = some (Nd.dir s' kn') := hp
        cases hp'
        exact ⟨[], rfl, rfl, by simp [namesL], fun e he => by cases he⟩
    · rw [if_neg e1]
      have hs : (F p).isSome = true := ex p (by rw [hp]; rfl) e1
      rw [setN_other _ _ e1] at hp
      by_cases e2 : p = init
      · subst e2
        rw [setN_same] at hp
        cases hp
        refine ⟨_, at_set _ _ _ hml, hP.sl _ _ ?_ (fun y hy => ?_)⟩
        · simp
        · show (if p ++ [y] = p ++ [x] then _ else _) = _
          rw [if_neg (fun e => hx (by rw [← (app_inj e).2]; exact hy))]
      · rw [setN_other _ _ e2] at hp
        obtain ⟨es', g1, g2⟩ := h.dir p s' kn' hp
        refine ⟨es', by rw [atO p hs e2]; exact g1, g2.ext (fun y hy => ?_)⟩
        show (if p ++ [y] = init ++ [x] then _ else _) = _
        rw [if_neg (fun e => e2 (app_inj e).1)]
/-- A file's bytes. -/
theorem tie_file {F : Pth → Option Nd} {R : Rs} {num : Pth → Nat} (h : Tie F R num) {p0 : Pth} {bs0 : List Int} (hF : F p0 = some (.file bs0)) (bs1 : List Int) (bl ino : Int) :
    Tie (setN F p0 (some (.file bs1))) ⟨R.L.set (num p0) (.file bs1), bl, ino⟩ num := by
  have hi : (F p0).isSome = true := by rw [hF]; rfl
  have ex : ∀ p, (setN F p0 (some (.file bs1)) p).isSome = true → (F p).isSome = true := by
    intro p hp
    by_cases e : p = p0
    · rw [e]; exact hi
    · rw [setN_other _ _ e] at hp; exact hp
  refine ⟨h.root, fun p q hp hq e => h.inj p q (ex p hp) (ex q hq) e, fun p bs hp => ?_, fun p s kn hp => ?_⟩
  · show (R.L.set _ _).getD _ _ = _
    by_cases e : p = p0
    · subst e
      rw [setN_same] at hp; cases hp
      exact at_set _ _ _ (h.lt hi)
    · have hs := ex p (by rw [hp]; rfl)
      rw [setN_other _ _ e] at hp
      rw [at_other _ _ (fun e2 => e (h.inj _ _ hs hi e2))]
      exact h.fil p bs hp
  · have e : ¬ p = p0 := fun e => by rw [e, setN_same] at hp; cases hp
    have hs := ex p (by rw [hp]; rfl)
    rw [setN_other _ _ e] at hp
    obtain ⟨es, g1, g2⟩ := h.dir p s kn hp
    refine ⟨es, ?_, g2⟩
    show (R.L.set _ _).getD _ _ = _
    rw [at_other _ _ (fun e2 => e (h.inj _ _ hs hi e2))]
    exact g1
/-- A thing goes. -/
theorem tie_gone {F : Pth → Option Nd} {R : Rs} {num : Pth → Nat} (h : Tie F R num) {init : Pth} {x : ByteArray} {s : Nat} {kn : List ByteArray} {es : List En} {k : Nat} {nd : Nd} (hF : F init = some (.dir s kn)) (hnd : F (init ++ [x]) = some nd) (hn : kn.Nodup) (hx1 : 1 ≤ x.size) (hx : x ∈ kn) (he : R.at (num init) = .dir es) (hS : Sl es s kn (fun y => num (init ++ [y]))) (hk : k < es.length) (hkx : (En.at es k).nm = x) (bl ino : Int) :
    Tie (setN (setN F init (some (.dir s (dele kn x)))) (init ++ [x]) none) ⟨(R.L.set (num (init ++ [x])) .gone).set (num init) (.dir (es.set k En.fr)), bl, ino⟩ num := by
  have hi : (F init).isSome = true := by rw [hF]; rfl
  have hj : (F (init ++ [x])).isSome = true := by rw [hnd]; rfl
  have ex : ∀ p, (setN (setN F init (some (.dir s (dele kn x)))) (init ++ [x]) none p).isSome = true → ¬ p = init ++ [x] ∧ (F p).isSome = true := by
    intro p hp
    have e1 : ¬ p = init ++ [x] := fun e => by rw [e, setN_same] at hp; cases hp
    refine ⟨e1, ?_⟩
    rw [setN_other _ _ e1] at hp
    by_cases e : p = init
    · rw [e]; exact hi
    · rw [setN_other _ _ e] at hp; exact hp
  have hml : num init < (R.L.set (num (init ++ [x])) .gone).length := by rw [List.length_set]; exact h.lt hi
  have atO : ∀ p, (F p).isSome = true → ¬ p = init → ¬ p = init ++ [x] → ((R.L.set (num (init ++ [x])) .gone).set (num init) (.dir (es.set k En.fr))).getD (num p) .gone = R.at (num p) := by
    intro p hp hne hne2
    rw [at_other _ _ (fun e => hne (h.inj _ _ hp hi e)), at_other _ _ (fun e => hne2 (h.inj _ _ hp hj e))]
  refine ⟨h.root, fun p q hp hq e => h.inj p q (ex p hp).2 (ex q hq).2 e, fun p bs hp => ?_, fun p s' kn' hp => ?_⟩
  · obtain ⟨e1, hs⟩ := ex p (by rw [hp]; rfl)
    rw [setN_other _ _ e1] at hp
    have e2 : ¬ p = init := fun e => by rw [e, setN_same] at hp; cases hp
    rw [setN_other _ _ e2] at hp
    show List.getD _ _ _ = _
    rw [atO p hs e2 e1]
    exact h.fil p bs hp
  · obtain ⟨e1, hs⟩ := ex p (by rw [hp]; rfl)
    rw [setN_other _ _ e1] at hp
    show ∃ es, List.getD _ _ _ = _ ∧ _
    by_cases e2 : p = init
    · subst e2
      rw [setN_same] at hp
      cases hp
      exact ⟨_, at_set _ _ _ hml, hS.del hn hx1 hx hk hkx⟩
    · rw [setN_other _ _ e2] at hp
      obtain ⟨es', g1, g2⟩ := h.dir p s' kn' hp
      exact ⟨es', by rw [atO p hs e2 e1]; exact g1, g2⟩
end Go.Proofs.YtlnjnimenihhnaaGreatDoor

namespace Go.Proofs.YtlnjnimenihhnaaGreatDoor
open Go.RowKit Go.Maps

theorem Sl.permN {es : List En} {s : Nat} {kn kn' : List ByteArray} {f : ByteArray → Nat} (h : Sl es s kn f) (hp : kn.Perm kn') : Sl es s kn' f := ⟨h.len, h.perm.trans (hp.map _), h.ino⟩
/-- Where a path of the new tree stood. -/
def numG (num : Pth → Nat) (f g : Pth) : Pth → Nat := fun p => if Un g p then num (f ++ p.drop g.length) else num p
theorem numG_below (num : Pth → Nat) (f g r : Pth) : numG num f g (g ++ r) = num (f ++ r) := by
  unfold numG
  rw [if_pos (un_app g r)]
  simp
theorem numG_other (num : Pth → Nat) {f g p : Pth} (h : ¬ Un g p) : numG num f g p = num p := if_neg h
theorem un_snoc {g p : Pth} {z : ByteArray} (h : Un g (p ++ [z])) : Un g p ∨ g = p ++ [z] := by
  obtain ⟨r, hr⟩ := un_iff.1 h
  rcases List.eq_nil_or_concat r with rfl | ⟨r', u, rfl⟩
  · exact .inr (by rw [List.append_nil] at hr; exact hr.symm)
  · rw [List.concat_eq_append, ← List.append_assoc] at hr
    have := (app_inj hr).1
    exact .inl (un_iff.2 ⟨r', this⟩)
theorem tie_graft {F H : Pth → Option Nd} {R R' : Rs} {num : Pth → Nat} (h : Tie F R num) {iL iM : Pth} {x y : ByteArray} (hLe : (F iL).isSome = true) (hMe : (F iM).isSome = true) (hfg : ¬ Un (iL ++ [x]) (iM ++ [y]))
    (hH : ∀ p, ¬ p = iL → ¬ p = iM → ¬ p = iM ++ [y] → H p = F p) (hR : ∀ p, (F p).isSome = true → ¬ p = iL → ¬ p = iM → ¬ p = iM ++ [y] → R'.at (num p) = R.at (num p))
    {sL sM : Nat} {kL kM : List ByteArray} {esL esM : List En} (hHL : H iL = some (.dir sL kL)) (hHM : H iM = some (.dir sM kM)) (hRL : R'.at (num iL) = .dir esL) (hRM : R'.at (num iM) = .dir esM)
    (hSL : Sl esL sL kL (fun z => numG num (iL ++ [x]) (iM ++ [y]) (iL ++ [z]))) (hSM : Sl esM sM kM (fun z => numG num (iL ++ [x]) (iM ++ [y]) (iM ++ [z]))) :
    Tie (graft H (iL ++ [x]) (iM ++ [y])) R' (numG num (iL ++ [x]) (iM ++ [y])) := by
  have hfM : ∀ r, ¬ (iL ++ [x]) ++ r = iM := fun r e => hfg (un_iff.2 ⟨r ++ [y], by rw [← List.append_assoc, e]⟩)
  have hfL : ∀ r, ¬ (iL ++ [x]) ++ r = iL := fun r e => by have := congrArg List.length e; simp at this
  have hfG : ∀ r, ¬ (iL ++ [x]) ++ r = iM ++ [y] := fun r e => hfg (un_iff.2 ⟨r, e.symm⟩)
  have gB : ∀ r, graft H (iL ++ [x]) (iM ++ [y]) ((iM ++ [y]) ++ r) = F ((iL ++ [x]) ++ r) := fun r => by
    rw [graft_at, hH _ (hfL r) (hfM r) (hfG r)]
  have gO : ∀ p, ¬ Un (iM ++ [y]) p → ¬ Un (iL ++ [x]) p → graft H (iL ++ [x]) (iM ++ [y]) p = H p := fun p h1 h2 => by
    unfold graft
    rw [if_neg h1, if_neg h2]
  have gN : ∀ p, ¬ Un (iM ++ [y]) p → Un (iL ++ [x]) p → graft H (iL ++ [x]) (iM ++ [y]) p = none := fun p h1 h2 => graft_none H h1 h2
  have ugL : ∀ p, Un (iM ++ [y]) p → ∃ r, p = (iM ++ [y]) ++ r := fun p hu => by
    obtain ⟨r, hr⟩ := un_iff.1 hu
    exact ⟨r, hr⟩
  have neG : ∀ p, ¬ Un (iM ++ [y]) p → ¬ p = iM ++ [y] := fun p h1 e => h1 (un_iff.2 ⟨[], by rw [e, List.append_nil]⟩)
  -- where it stood
  have org : ∀ p, (graft H (iL ++ [x]) (iM ++ [y]) p).isSome = true → (∃ r, p = (iM ++ [y]) ++ r ∧ (F ((iL ++ [x]) ++ r)).isSome = true) ∨ (¬ Un (iM ++ [y]) p ∧ ¬ Un (iL ++ [x]) p ∧ (F p).isSome = true) := by
    intro p hp
    by_cases h1 : Un (iM ++ [y]) p
    · obtain ⟨r, rfl⟩ := ugL p h1
      rw [gB] at hp
      exact .inl ⟨r, rfl, hp⟩
    · by_cases h2 : Un (iL ++ [x]) p
      · rw [gN p h1 h2] at hp; cases hp
      · rw [gO p h1 h2] at hp
        refine .inr ⟨h1, h2, ?_⟩
        by_cases e1 : p = iL
        · rw [e1]; exact hLe
        · by_cases e2 : p = iM
          · rw [e2]; exact hMe
          · rw [hH p e1 e2 (neG p h1)] at hp; exact hp
  refine ⟨?_, fun p q hp hq e => ?_, fun p bs hp => ?_, fun p s kn hp => ?_⟩
  · rw [numG_other num (fun hu => by obtain ⟨r, hr⟩ := ugL _ hu; simp at hr)]
    exact h.root
  · rcases org p hp with ⟨r, rfl, hs⟩ | ⟨h1, h2, hs⟩
    · rcases org q hq with ⟨r', rfl, hs'⟩ | ⟨h1', h2', hs'⟩
      · rw [numG_below, numG_below] at e
        rw [List.append_cancel_left (h.inj _ _ hs hs' e)]
      · rw [numG_below, numG_other num h1'] at e
        exact absurd (un_iff.2 ⟨r, (h.inj _ _ hs hs' e).symm⟩) h2'
    · rcases org q hq with ⟨r', rfl, hs'⟩ | ⟨h1', h2', hs'⟩
      · rw [numG_other num h1, numG_below] at e
        exact absurd (un_iff.2 ⟨r', h.inj _ _ hs hs' e⟩) h2
      · rw [numG_other num h1, numG_other num h1'] at e
        exact h.inj _ _ hs hs' e
  · rcases org p (by rw [hp]; rfl) with ⟨r, rfl, hs⟩ | ⟨h1, h2, hs⟩
    · rw [gB] at hp
      rw [numG_below, hR _ hs (hfL r) (hfM r) (hfG r)]
      exact h.fil _ bs hp
    · rw [gO p h1 h2] at hp
      have e1 : ¬ p = iL := fun e => by rw [e, hHL] at hp; cases hp
      have e2 : ¬ p = iM := fun e => by rw [e, hHM] at hp; cases hp
      rw [numG_other num h1, hR p hs e1 e2 (neG p h1)]
      rw [hH p e1 e2 (neG p h1)] at hp
      exact h.fil p bs hp
  · rcases org p (by rw [hp]; rfl) with ⟨r, rfl, hs⟩ | ⟨h1, h2, hs⟩
    · rw [gB] at hp
      obtain ⟨es, g1, g2⟩ := h.dir _ s kn hp
      refine ⟨es, by rw [numG_below, hR _ hs (hfL r) (hfM r) (hfG r)]; exact g1, g2.ext (fun z _ => ?_)⟩
      show numG num _ _ (((iM ++ [y]) ++ r) ++ [z]) = num (((iL ++ [x]) ++ r) ++ [z])
      rw [List.append_assoc (iM ++ [y]), numG_below, ← List.append_assoc]
    · rw [gO p h1 h2] at hp
      by_cases e1 : p = iL
      · subst e1
        rw [hHL] at hp; cases hp
        exact ⟨esL, by rw [numG_other num h1]; exact hRL, hSL⟩
      · by_cases e2 : p = iM
        · subst e2
          rw [hHM] at hp; cases hp
          exact ⟨esM, by rw [numG_other num h1]; exact hRM, hSM⟩
        · rw [hH p e1 e2 (neG p h1)] at hp
          obtain ⟨es, g1, g2⟩ := h.dir p s kn hp
          refine ⟨es, by rw [numG_other num h1, hR p hs e1 e2 (neG p h1)]; exact g1, g2.ext (fun z _ => ?_)⟩
          refine numG_other num (fun hu => ?_)
          rcases un_snoc hu with hu | hu
          · exact h1 hu
          · exact e2 (app_inj hu).1.symm
end Go.Proofs.YtlnjnimenihhnaaGreatDoor

namespace Go.Proofs.YtlnjnimenihhnaaGreatDoor
open Go.RowKit Go.Maps

section
variable {F : Pth → Option Nd} {R : Rs} {num : Pth → Nat} {iL iM : Pth} {x y : ByteArray} {sL sM : Nat} {kL kM : List ByteArray} {esF esT : List En}
/-- A name in the new directory. -/
theorem numM_at (num : Pth → Nat) (iL iM : Pth) (x y z : ByteArray) : numG num (iL ++ [x]) (iM ++ [y]) (iM ++ [z]) = if z = y then num (iL ++ [x]) else num (iM ++ [z]) := by
  by_cases e : z = y
  · subst e
    rw [if_pos rfl]
    have := numG_below num (iL ++ [x]) (iM ++ [z]) []
    rw [List.append_nil, List.append_nil] at this
    exact this
  · rw [if_neg e]
    refine numG_other num (fun hu => ?_)
    rcases un_snoc hu with hu | hu
    · have := un_len hu
      rw [List.length_append, List.length_singleton] at this
      omega
    · exact e (app_inj hu).2.symm
/-- A name in the elder one. -/
theorem numL_at (_h : Tie F R num) (hL : F iL = some (.dir sL kL)) (hg : ∀ r, ¬ r = [] → F ((iM ++ [y]) ++ r) = none) (hgd : F (iM ++ [y]) = none ∨ ¬ Un (iM ++ [y]) iL) (hne : ¬ iL = iM) (z : ByteArray) : numG num (iL ++ [x]) (iM ++ [y]) (iL ++ [z]) = num (iL ++ [z]) := by
  refine numG_other num (fun hu => ?_)
  rcases un_snoc hu with hu | hu
  · rcases hgd with hgd | hgd
    · obtain ⟨r, hr⟩ := un_iff.1 hu
      by_cases h0 : r = []
      · rw [h0, List.append_nil] at hr
        rw [hr, hgd] at hL; cases hL
      · rw [hr, hg r h0] at hL; cases hL
    · exact hgd hu
  · exact hne (app_inj hu).1.symm
/-- Into another directory. -/
theorem tie_far {R1 : Rs} (h : Tie F R num) (hL : F iL = some (.dir sL kL)) (hM : F iM = some (.dir sM kM)) (hne : ¬ iL = iM) (hfg : ¬ Un (iL ++ [x]) (iM ++ [y])) {H : Pth → Option Nd} {kM' : List ByteArray} {sM' : Nat} {esM' : List En} {jx : Nat}
    (hH : ∀ p, ¬ p = iL → ¬ p = iM → ¬ p = iM ++ [y] → H p = F p) (hHL : H iL = some (.dir sL (dele kL x))) (hHM : H iM = some (.dir sM' kM'))
    (hR1 : ∀ p, (F p).isSome = true → ¬ p = iM ++ [y] → R1.at (num p) = R.at (num p)) (hlM : num iM < R1.L.length) (hlL : num iL < R1.L.length)
    (_hF : R.at (num iL) = .dir esF) (hSL : Sl esF sL kL (fun z => num (iL ++ [z]))) (hn : kL.Nodup) (hx : 1 ≤ x.size) (hxk : x ∈ kL) (hj : jx < esF.length) (hjx : (En.at esF jx).nm = x)
    (hg : ∀ r, ¬ r = [] → F ((iM ++ [y]) ++ r) = none) (hgd : F (iM ++ [y]) = none ∨ ¬ Un (iM ++ [y]) iL)
    (hSM : Sl esM' sM' kM' (fun z => if z = y then num (iL ++ [x]) else num (iM ++ [z]))) (bl ino : Int) :
    Tie (graft H (iL ++ [x]) (iM ++ [y])) ⟨(R1.L.set (num iM) (.dir esM')).set (num iL) (.dir (esF.set jx En.fr)), bl, ino⟩ (numG num (iL ++ [x]) (iM ++ [y])) := by
  have hiL : (F iL).isSome = true := by rw [hL]; rfl
  have hiM : (F iM).isSome = true := by rw [hM]; rfl
  have hnn : ¬ num iM = num iL := fun e => hne (h.inj _ _ hiL hiM e.symm)
  refine tie_graft h hiL hiM hfg hH (fun p hp h1 h2 h3 => ?_) hHL hHM ?_ ?_ ((hSL.del hn hx hxk hj hjx).ext (fun z _ => numL_at h hL hg hgd hne z)) (hSM.ext (fun z _ => numM_at num iL iM x y z))
  · show List.getD _ _ _ = _
    rw [at_other _ _ (fun e => h1 (h.inj _ _ hp hiL e)), at_other _ _ (fun e => h2 (h.inj _ _ hp hiM e))]
    exact hR1 p hp h3
  · exact at_set _ _ _ (by rw [List.length_set]; exact hlL)
  · show List.getD _ _ _ = _
    rw [at_other _ _ hnn]
    exact at_set _ _ _ hlM
/-- Within a directory. -/
theorem tie_near {R1 : Rs} (h : Tie F R num) (hM : F iM = some (.dir sM kM)) (hfg : ¬ Un (iM ++ [x]) (iM ++ [y])) {H : Pth → Option Nd} {kM' : List ByteArray} {esM' : List En}
    (hH : ∀ p, ¬ p = iM → ¬ p = iM ++ [y] → H p = F p) (hHM : H iM = some (.dir sM kM'))
    (hR1 : ∀ p, (F p).isSome = true → ¬ p = iM ++ [y] → R1.at (num p) = R.at (num p)) (hlM : num iM < R1.L.length)
    (hSM : Sl esM' sM kM' (fun z => if z = y then num (iM ++ [x]) else num (iM ++ [z]))) (bl ino : Int) :
    Tie (graft H (iM ++ [x]) (iM ++ [y])) ⟨R1.L.set (num iM) (.dir esM'), bl, ino⟩ (numG num (iM ++ [x]) (iM ++ [y])) := by
  have hiM : (F iM).isSome = true := by rw [hM]; rfl
  have hS := hSM.ext (fun z (_ : z ∈ kM') => numM_at num iM iM x y z)
  refine tie_graft h hiM hiM hfg (fun p h1 _ h3 => hH p h1 h3) (fun p hp h1 h2 h3 => ?_) hHM hHM ?_ ?_ hS hS
  · show List.getD _ _ _ = _
    rw [at_other _ _ (fun e => h1 (h.inj _ _ hp hiM e))]
    exact hR1 p hp h3
  · exact at_set _ _ _ hlM
  · exact at_set _ _ _ hlM
end
end Go.Proofs.YtlnjnimenihhnaaGreatDoor
