/-
  LineStreams.
-/
import Derived.Test.YtfbildadidfolaaLTwo
namespace Go.Proofs.Ytfbildadidfolaa
open Go.RowKit

theorem feed_n' (S : Sp) (l : List Pc) (k : Nat) (hk : k < l.length) (h : S.n ≤ 2 * sumP l k) : (S.feed (l.getD k Pc.z).d).1.n ≤ 2 * sumP l (k + 1) := by
  have := S.feed_n (l.getD k Pc.z).d
  rw [sumP_succ l k hk]
  omega
theorem sumP_le (l : List Pc) (k : Nat) (hk : k < l.length) : sumP l k ≤ sumP l (k + 1) ∧ sumP l (k + 1) ≤ sumP l l.length ∧ (l.getD k Pc.z).d.length ≤ sumP l l.length := by
  have h1 := sumP_succ l k hk
  have h2 : ∀ j, k + 1 + j ≤ l.length → sumP l (k + 1) ≤ sumP l (k + 1 + j) := by
    intro j
    induction j with
    | zero => intro _; exact Nat.le_refl _
    | succ j ih =>
      intro hj
      have h3 := ih (by omega)
      have h4 := sumP_succ l (k + 1 + j) (by omega)
      have e : k + 1 + (j + 1) = k + 1 + j + 1 := by omega
      rw [e]
      omega
  have h3 := h2 (l.length - (k + 1)) (by omega)
  have e : k + 1 + (l.length - (k + 1)) = l.length := by omega
  rw [e] at h3
  omega
theorem bound_n (S : Sp) (m : Int) : (S.bound m).n = S.n := by
  cases h : (mayB m && (S.st == 0)) with
  | true => rw [S.bound_yes m h]
  | false => rw [S.bound_no m h]
/-- What lies in the rows' memory: three cells of a piece and its bytes. -/
structure Hub (N : Nat) (w : World) (b o : Nat) (k n : Int) (a : Option Addr) (m c : Nat) (bs : List Int) : Prop where
  c0 : w.cell? ⟨b, o, none⟩ = some (.int .i64 k)
  c1 : w.cell? ⟨b, o + 1, none⟩ = some (.int .i64 n)
  c2 : w.cell? ⟨b, o + 2, none⟩ = some (.slice a m c)
  bs : Bs w (.slice a m c) bs
  lo : In (fun k => k < N) (.slice a m c)
  bl : b < N
theorem Hub.below {N : Nat} {w w' : World} {b o : Nat} {k n : Int} {a : Option Addr} {m c : Nat} {bs : List Int} (h : Hub N w b o k n a m c bs) (hb : Below N w w') : Hub N w' b o k n a m c bs := by
  have cell : ∀ (off : Nat) (x : Value), w.cell? ⟨b, off, none⟩ = some x → w'.cell? ⟨b, off, none⟩ = some x := fun off x hx => (World.cell?_of_block (hb.block b h.bl)).trans hx
  refine ⟨cell _ _ h.c0, cell _ _ h.c1, cell _ _ h.c2, ?_, h.lo, h.bl⟩
  exact h.bs.kept (S := fun k => N ≤ k) ⟨hb.os, hb.tape, hb.output, hb.size, fun k _ hn => hb.block k (by omega)⟩ (fun a n c e h0 => by have := h.lo a n c e h0; omega)

/-- Both fed, and their lines held against each other. -/
theorem Two.chain {N p q : Nat} {w0 w : World} {v r : Value} {S : Sp} {b o : Nat} {k n : Int} {a : Option Addr} {c : Nat} {bs : List Int} (h : Two N p q w v r S) (hb : Below N w0 w) (hu : Hub N w b o k n a bs.length c bs) (hn : S.n ≤ 4294967296) (hl : bs.length ≤ 4096)
    (f : FuncId) (g : Value → Value) (hf : Calls Try.prog f #[.pointer (some ⟨p, 0, none⟩), .slice a bs.length c] w fun e w' => ∃ v' o, e = .returned (g o) ∧ FeedR N p w v S bs v' o w') :
    Calls Try.prog f #[.pointer (some ⟨p, 0, none⟩), .slice a bs.length c] w fun e wa => ∃ oa oc m, e = .returned (g (.slice oa m oc)) ∧ wa.cell? ⟨b, o + 2, none⟩ = some (.slice a bs.length c) ∧
      Hid (Calls Try.prog 13 #[.pointer (some ⟨q, 0, none⟩), .slice a bs.length c] wa fun e wb => ∃ ob od, e = .returned (.slice ob m od) ∧
        Hid (Calls Try.prog 12 #[.slice oa m oc, .slice ob m od] wb fun e wc => e = .returned (.bool true) ∧ ∃ v9 r9, Hid (Two N p q wc v9 r9 (S.feed bs).1 ∧ Below N w0 wc))) := by
  refine hf.mono fun e wa h9 => ?_
  obtain ⟨v', o1, rfl, hF⟩ := h9
  obtain ⟨oa, oc, rfl⟩ := own_sl hF.2.2.1
  refine ⟨oa, oc, _, rfl, (hu.below (h.ls.belowN hF.2.1)).c2, ?_⟩
  refine (h.feed hu.bs hu.lo hn (by omega) hF).mono fun e wb h9 => ?_
  obtain ⟨r2, o2, rfl, hT, hB, hL1, hL2⟩ := h9
  obtain ⟨ob, od, rfl⟩ := hL2.form
  refine ⟨ob, od, rfl, ?_⟩
  refine (same_yes _ _ _ wb hL1 hL2 (by have := S.feed_len bs; omega)).mono fun e wc h9 => ?_
  exact ⟨h9.1, v', r2, hT.more (Chg.ofBelowC h9.2), (hb.trans hB).trans (h9.2.mono (Nat.le_trans hT.ls.N (Nat.le_refl _)))⟩

set_option maxHeartbeats 3200000 in
set_option maxRecDepth 100000 in
theorem law_streams (m : Int) (pv : Value) (l : List Pc) (w : World) (hv : Pcs w pv l) :
    Calls Try.prog 3 #[.int .i64 m, pv] w fun e w' => e = .returned (.bool true) ∧ Below w.heap.size w w' := by
  obtain ⟨pa, pc, rfl⟩ := hv.form
  have HV : Hid (Pcs w (.slice pa l.length pc) l) := hv
  clear hv
  go_enter Try.func3, Try.ntmps3
  go_wp2_with (go_at_call 7; refine (known_any _).mono ?_; rintro e w1 ⟨rfl, B⟩)
  refine (few_any _ l _ (HV.out.below B)).mono ?_
  rintro e w1 ⟨hw, he⟩
  obtain rfl := hw.out
  rcases he with rfl | ⟨rfl, hf⟩
  · go_wp2_with fail
    go_ret
    exact ⟨rfl, B⟩
  cases hm : mayB m with
  | false =>
    have HM : Hid (mayB m = false) := hm
    have HN : Hid (∀ w : World, Calls Try.prog 9 #[.int .i64 m] w fun e w' => e = .returned (.tuple #[.pointer none, .int .i64 1]) ∧ w' = w) := new_no m hm
    clear hm
    go_wp2_with (first
      | (go_at_call 9; refine (HN.out _).mono ?_; rintro e w2 ⟨rfl, rfl⟩)
      | (go_at_call 10; refine (right_any m _).mono ?_; rintro e w3 ⟨rfl, rfl⟩; rw [HM.out]))
    go_ret
    exact ⟨rfl, B⟩
  | true =>
    have HM : Hid (mayB m = true) := hm
    obtain ⟨mn, rfl, hW⟩ := mayB_nat hm
    have HN : Hid (Calls Try.prog 9 #[.int .i64 (mn : Int)] w1 fun e w' => e = .returned (.tuple #[.pointer (some ⟨w1.heap.size, 0, none⟩), .int .i64 0]) ∧ LsS w.heap.size w1.heap.size w' (.slice none 0 0) (Sp.new mn) ∧ Chg (fun _ => False) w1 w') := new_yes mn hm w1 w.heap.size B.size
    clear hm
    go_wp2_with (first
      | (go_at_call 9; refine HN.out.mono ?_; clear HN; rintro e w2 ⟨rfl, L2, C2⟩)
      | (go_at_call 10; refine (right_any mn _).mono ?_; rintro e w3 ⟨rfl, rfl⟩; rw [HM.out]))
    have T0 : Two w.heap.size w1.heap.size w3.heap.size (w3.alloc (.cells #[.int .i64 mn, .slice none 0 0, .int .i64 0, .bool false] 33)) (.slice none 0 0) (.slice none 0 0) (Sp.new mn) :=
      ⟨L2.more (Chg.alloc _ _ _), ⟨Nat.le_trans B.size C2.size, heap_alloc_new w3 _, World.ownsRow_nil _ _ _ _, by simp [Value.ownBlock]⟩, hW, (by have := L2.lt; omega), (by simp [Value.ownBlock]), (by simp [Value.ownBlock]), fun k h => by cases h⟩
    have B3 : Below w.heap.size w (w3.alloc (.cells #[.int .i64 mn, .slice none 0 0, .int .i64 0, .bool false] 33)) :=
      (B.trans (C2.toBelow.mono B.size)).alloc (Nat.le_trans B.size C2.size) _
    obtain ⟨W, hWe⟩ : ∃ W, w3.alloc (.cells #[.int .i64 mn, .slice none 0 0, .int .i64 0, .bool false] 33) = W := ⟨_, rfl⟩
    rw [hWe] at T0 B3 ⊢
    obtain ⟨p, hp⟩ : ∃ p, w1.heap.size = p := ⟨_, rfl⟩
    obtain ⟨q, hq⟩ : ∃ q, w3.heap.size = q := ⟨_, rfl⟩
    obtain ⟨N, hN⟩ : ∃ N, Hid (w.heap.size = N) := ⟨_, rfl⟩
    rw [hp, hq, hN.out] at T0
    rw [hp, hq]
    rw [hN.out] at B3
    clear hWe hp hq L2 C2 B hW HM
    go_loopw [8] (fun i wr => ∃ (k : Nat) (v r : Value) (S : Sp), i = .int .i64 k ∧ k ≤ l.length ∧ Hid (Two N p q wr v r S) ∧ Hid (Below N w wr) ∧ Hid (S.n ≤ 2 * sumP l k)) (fun i _ => l.length - (intOf i).toNat)
    case atStart => exact ⟨0, _, _, Sp.new mn, rfl, Nat.zero_le _, T0, B3, Nat.zero_le _⟩
    case round =>
      obtain ⟨k, v, r, S, rfl, hk, HT, HB, HS⟩ := hrel
      clear T0 B3
      by_cases hlt : k < l.length
      · have q1 : (k : Int) < l.length := by omega
        have hlen : l.length ≤ 300 := hf.out.1
        have hvw : Pcs w (.slice pa l.length pc) l := HV.out
        obtain ⟨b, off, rfl, hc⟩ := hvw.nth hlt
        clear hvw
        obtain ⟨x, hx⟩ : ∃ x, Hid (l.getD k Pc.z = x) := ⟨_, rfl⟩
        rw [hx.out] at hc
        obtain ⟨c0, c1, c2, c3⟩ := hc
        obtain ⟨da, dc, hdv, _, _⟩ := c3.form
        rw [hdv] at c2 c3
        have hlo : In (fun k => k < N) (.slice da x.d.length dc) := fun a n c e h0 => by
          rw [← hN.out]
          injection e with e1 e2 e3
          subst e1; subst e2
          exact c3.lt h0
        have HU : Hid (Hub N wr b (off + k * 3) x.k x.n da x.d.length dc x.d) :=
          (Hub.mk c0 c1 c2 c3 hlo (by have := World.block_lt_of_cell? w _ c0; rw [← hN.out]; exact this)).below HB.out
        have HX : Hid ((S.feed x.d).1.n ≤ 2 * sumP l (k + 1) ∧ S.n ≤ 2 * sumP l (k + 1) ∧ S.n ≤ 4294967296 ∧ x.d.length ≤ 4096) := by
          have h1 := feed_n' S l k hlt HS.out
          have h2 := sumP_le l k hlt
          have h3 := hf.out.2
          have h4 := HS.out
          rw [hx.out] at h1 h2
          exact ⟨h1, by omega, by omega, by omega⟩
        obtain ⟨xk, hxk⟩ : ∃ xk, x.k = xk := ⟨_, rfl⟩
        obtain ⟨xn, hxn⟩ : ∃ xn, x.n = xn := ⟨_, rfl⟩
        obtain ⟨xd, hxd⟩ : ∃ xd, x.d = xd := ⟨_, rfl⟩
        rw [hxk, hxn, hxd] at HU
        rw [hxd] at HX
        clear c0 c1 c2 c3 hlo hx hdv hxk hxn hxd
        have m0 := HU.out.c0
        have m1 := HU.out.c1
        have m2 := HU.out.c2
        obtain ⟨o, ho⟩ : ∃ o, off + k * 3 = o := ⟨_, rfl⟩
        rw [ho] at HU m0 m1 m2
        by_cases k1 : xk = 1
        · have HC := HT.out.chain HB.out HU.out HX.out.2.2.1 HX.out.2.2.2 _ (fun o => .tuple #[o, .bool true]) (nexts_any N p wr v _ S xd (fun k => k < N) HT.out.wf HT.out.ls HU.out.bs HU.out.lo HT.out.foreign HX.out.2.2.2)
          have HY : Hid ((S.feed xd).1.n ≤ 2 * sumP l (k + 1)) := HX.out.1
          generalize (S.feed xd).1 = S9 at HC HY
          have HCC : Hid (Calls Try.prog 11 #[.pointer (some ⟨p, 0, none⟩), .slice da xd.length dc] wr fun e wa => ∃ oa oc m, e = .returned (.tuple #[.slice oa m oc, .bool true]) ∧ wa.cell? ⟨b, o + 2, none⟩ = some (.slice da xd.length dc) ∧
            Hid (Calls Try.prog 13 #[.pointer (some ⟨q, 0, none⟩), .slice da xd.length dc] wa fun e wb => ∃ ob od, e = .returned (.slice ob m od) ∧
              Hid (Calls Try.prog 12 #[.slice oa m oc, .slice ob m od] wb fun e wc => e = .returned (.bool true) ∧ ∃ v9 r9, Hid (Two N p q wc v9 r9 S9 ∧ Below N w wc)))) := HC
          have p1 : (xk == 1) = true := by simpa using k1
          clear HC HU HX HT HB k1
          go_wp2_with (first
            | (go_at_call 11; refine HCC.out.mono ?_; clear HCC; rintro e wa ⟨oa, oc, mm, rfl, m3, HD⟩)
            | (go_at_call 13; refine HD.out.mono ?_; clear HD; rintro e wb ⟨ob, od, rfl, HE⟩)
            | (go_at_call 12; refine HE.out.mono ?_; clear HE; rintro e wc ⟨rfl, v9, r9, HF⟩)
            | (go_at_call 19; refine HF.out.1.held.mono ?_; rintro e wd ⟨rfl, hwd⟩; subst hwd)
            | (go_at_call 20; refine (rheld_any N q _ r9 S9 HF.out.1.rf HF.out.1.wf).mono ?_; rintro e wd ⟨rfl, hwd⟩; subst hwd))
          go_roundw
          case rel => exact ⟨k + 1, v9, r9, S9, by go_num, hlt, HF.out.1, HF.out.2, HY.out⟩
          case measure => simp [intOf]; omega
        by_cases k2 : xk = 2
        · have D1 : Below N wr wr.drew := ⟨rfl, rfl, rfl, Nat.le_refl _, fun _ _ => rfl⟩
          have HTd := HT.out.more (Chg.drew (fun _ => False) wr)
          have HUd := HU.out.below D1
          have HY : Hid ((S.bound xn).n ≤ 2 * sumP l (k + 1)) := by show _ ≤ _; rw [bound_n]; exact HX.out.2.1
          have HCC : Hid (Calls Try.prog 14 #[.pointer (some ⟨p, 0, none⟩), .int .i64 xn] wr.drew fun e wa => e = .returned (.bool (mayB xn && (S.st == 0))) ∧ wa.cell? ⟨b, o + 1, none⟩ = some (.int .i64 xn) ∧
              Hid (Calls Try.prog 15 #[.pointer (some ⟨q, 0, none⟩), .int .i64 xn] wa fun e wc => e = .returned (.bool (mayB xn && (S.st == 0))) ∧ ∃ v9 r9, Hid (Two N p q wc v9 r9 (S.bound xn) ∧ Below N w wc))) := by
            refine (most_any N p wr.drew v S xn HTd.wf HTd.ls).mono fun e wa h9 => ⟨h9.1, (HUd.below (HTd.ls.belowN h9.2.2)).c1, ?_⟩
            obtain ⟨g1, g2, g3⟩ := HTd.left h9.2.1 h9.2.2
            refine (set_any N q wa r S xn g1).mono fun e wc h8 => ⟨h8.1, v, r, ?_, ?_⟩
            · exact Two.right (w' := wc) h9.2.1 HTd.pq g2 HTd.rp g3 h8.2.1 h8.2.2 (HTd.wf.bound xn)
            · exact ((HB.out.trans D1).trans (HTd.ls.belowN h9.2.2)).trans (g1.below h8.2.2)
          generalize S.bound xn = S9 at HCC HY
          generalize (mayB xn && (S.st == 0)) = B9 at HCC
          have p1 : (xk == 1) = false := by simp [k2]
          have p2 : (xk == 2) = true := by simpa using k2
          clear HU HX HT HB k1 k2 HTd HUd D1
          go_wp2_with fail
          go_region_with (first
            | (go_at_call 14; refine HCC.out.mono ?_; clear HCC; rintro e wa ⟨rfl, m3, HD⟩)
            | (go_at_call 15; refine HD.out.mono ?_; clear HD; rintro e wc ⟨rfl, v9, r9, HF⟩))
          all_goals
            have HA1 : Hid (Calls Try.prog 19 #[.pointer (some ⟨p, 0, none⟩)] wc fun e w' => e = .returned (.int .i64 (S9.hold : Int)) ∧ w' = wc) := HF.out.1.held
            have HA2 : Hid (Calls Try.prog 20 #[.pointer (some ⟨q, 0, none⟩)] wc fun e w' => e = .returned (.int .i64 (S9.hold : Int)) ∧ w' = wc) := rheld_any N q wc r9 S9 HF.out.1.rf HF.out.1.wf
            go_wp2_with (first
              | (go_at_call 19; refine HA1.out.mono ?_; clear HA1; rintro e wd ⟨rfl, hwd⟩; subst hwd)
              | (go_at_call 20; refine HA2.out.mono ?_; clear HA2; rintro e wd ⟨rfl, hwd⟩; subst hwd))
            go_roundw
            case rel => exact ⟨k + 1, v9, r9, S9, by go_num, hlt, HF.out.1, HF.out.2, HY.out⟩
            case measure => simp [intOf]; omega
        by_cases k3 : xk = 3
        · have HY : Hid (S.reset.n ≤ 2 * sumP l (k + 1)) := Nat.zero_le _
          have HCC : Hid (Calls Try.prog 16 #[.pointer (some ⟨p, 0, none⟩)] wr fun e wa => e = .returned (.tuple #[]) ∧
              Hid (Calls Try.prog 17 #[.pointer (some ⟨q, 0, none⟩)] wa fun e wc => e = .returned (.tuple #[]) ∧ ∃ v9 r9, Hid (Two N p q wc v9 r9 S.reset ∧ Below N w wc))) := by
            refine (reset_any N p wr v S.most S.st S.held S.long HT.out.ls).mono fun e wa h9 => ⟨h9.1, ?_⟩
            have hl := LsS.reset h9.2.1
            obtain ⟨g1, g2, g3⟩ := HT.out.left hl h9.2.2
            refine (rreset_any N q wa r S g1).mono fun e wc h8 => ⟨h8.1, .slice none 0 0, .slice none 0 0, ?_, ?_⟩
            · exact Two.right (w' := wc) hl HT.out.pq g2 HT.out.rp g3 h8.2.1 h8.2.2 HT.out.wf.reset
            · exact (HB.out.trans (HT.out.ls.belowN h9.2.2)).trans (g1.below h8.2.2)
          generalize S.reset = S9 at HCC HY
          have p1 : (xk == 1) = false := by simp [k3]
          have p2 : (xk == 2) = false := by simp [k3]
          have p3 : (xk == 3) = true := by simpa using k3
          clear HU HX HT HB k1 k2 k3
          go_wp2_with (first
            | (go_at_call 16; refine HCC.out.mono ?_; clear HCC; rintro e wa ⟨rfl, HD⟩)
            | (go_at_call 17; refine HD.out.mono ?_; clear HD; rintro e wc ⟨rfl, v9, r9, HF⟩)
            | (go_at_call 19; refine HF.out.1.held.mono ?_; rintro e wd ⟨rfl, hwd⟩; subst hwd)
            | (go_at_call 20; refine (rheld_any N q _ r9 S9 HF.out.1.rf HF.out.1.wf).mono ?_; rintro e wd ⟨rfl, hwd⟩; subst hwd))
          go_roundw
          case rel => exact ⟨k + 1, v9, r9, S9, by go_num, hlt, HF.out.1, HF.out.2, HY.out⟩
          case measure => simp [intOf]; omega
        have p1 : (xk == 1) = false := by simpa using k1
        have p2 : (xk == 2) = false := by simpa using k2
        have p3 : (xk == 3) = false := by simpa using k3
        clear k1 k2 k3
        have D1 : Below N wr wr.drew := ⟨rfl, rfl, rfl, Nat.le_refl _, fun _ _ => rfl⟩
        have HUd := HU.out.below D1
        have HTd := HT.out.more (Chg.drew (fun _ => False) wr)
        have HC := HTd.chain (HB.out.trans D1) HUd HX.out.2.2.1 HX.out.2.2.2 _ id (feed_any N p wr.drew v _ S xd (fun k => k < N) HTd.wf HTd.ls HUd.bs HUd.lo HTd.foreign (by have := HX.out.2.2.2; omega))
        simp only [id] at HC
        have HY : Hid ((S.feed xd).1.n ≤ 2 * sumP l (k + 1)) := HX.out.1
        generalize (S.feed xd).1 = S9 at HC HY
        obtain ⟨HC1, hHC1⟩ : ∃ P : Prop, P = Calls Try.prog 18 #[.pointer (some ⟨p, 0, none⟩), .slice da xd.length dc] wr.drew fun e wa => ∃ oa oc m, e = .returned (.slice oa m oc) ∧ wa.cell? ⟨b, o + 2, none⟩ = some (.slice da xd.length dc) ∧
          Hid (Calls Try.prog 13 #[.pointer (some ⟨q, 0, none⟩), .slice da xd.length dc] wa fun e wb => ∃ ob od, e = .returned (.slice ob m od) ∧
            Hid (Calls Try.prog 12 #[.slice oa m oc, .slice ob m od] wb fun e wc => e = .returned (.bool true) ∧ ∃ v9 r9, Hid (Two N p q wc v9 r9 S9 ∧ Below N w wc))) := ⟨_, rfl⟩
        have HCC : Hid HC1 := hHC1 ▸ HC
        rw [hHC1] at HCC
        clear HC hHC1 HC1 HUd HTd D1 HU HX HT HB
        go_wp2_with fail
        go_region_with (first
          | (go_at_call 18; refine HCC.out.mono ?_; clear HCC; rintro e wa ⟨oa, oc, mm, rfl, m3, HD⟩)
          | (go_at_call 13; refine HD.out.mono ?_; clear HD; rintro e wb ⟨ob, od, rfl, HE⟩)
          | (go_at_call 12; refine HE.out.mono ?_; clear HE; rintro e wc ⟨rfl, v9, r9, HF⟩))
        all_goals
          have HA1 : Hid (Calls Try.prog 19 #[.pointer (some ⟨p, 0, none⟩)] wc fun e w' => e = .returned (.int .i64 (S9.hold : Int)) ∧ w' = wc) := HF.out.1.held
          have HA2 : Hid (Calls Try.prog 20 #[.pointer (some ⟨q, 0, none⟩)] wc fun e w' => e = .returned (.int .i64 (S9.hold : Int)) ∧ w' = wc) := rheld_any N q wc r9 S9 HF.out.1.rf HF.out.1.wf
          go_wp2_with (first
            | (go_at_call 19; refine HA1.out.mono ?_; clear HA1; rintro e wd ⟨rfl, hwd⟩; subst hwd)
            | (go_at_call 20; refine HA2.out.mono ?_; clear HA2; rintro e wd ⟨rfl, hwd⟩; subst hwd))
          go_roundw
          case rel => exact ⟨k + 1, v9, r9, S9, by go_num, hlt, HF.out.1, HF.out.2, HY.out⟩
          case measure => simp [intOf]; omega
      · have q1 : ¬ (k : Int) < l.length := by omega
        go_wp2_with fail
        go_ret
        exact ⟨rfl, by rw [hN.out]; exact HB.out⟩
end Go.Proofs.Ytfbildadidfolaa
