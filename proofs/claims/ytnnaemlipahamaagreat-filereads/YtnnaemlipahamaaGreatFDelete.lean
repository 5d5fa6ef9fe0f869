/-
  slices.DeleteFunc over spots of which the first ones go.
-/
import Derived.Test.YtnnaemlipahamaaGreatFWay
import Derived.Lib.SliceRun
namespace Go.Proofs.YtnnaemlipahamaaGreat
open Go.RowKit Go.Maps

/-- Four cells of a row set to a spot. -/
abbrev setSp (cur : Array Value) (j : Nat) (x : Sp) : Array Value := (((cur.setIfInBounds (j * 4) (.int .i64 x.fi)).setIfInBounds (j * 4 + 1) (.int .i64 x.wi)).setIfInBounds (j * 4 + 2) x.g).setIfInBounds (j * 4 + 3) x.st
theorem setSp_same {cur : Array Value} {j : Nat} {x : Sp} (h : j * 4 + 3 < cur.size) : SpEl (setSp cur j x) j x := by
  refine ⟨?_, ?_, ?_, ?_⟩ <;> simp [Array.getElem?_setIfInBounds] <;> omega
theorem setSp_other {cur : Array Value} {j k : Nat} {x y : Sp} (h : k ≠ j) (hy : SpEl cur k y) : SpEl (setSp cur j x) k y := by
  obtain ⟨c0, c1, c2, c3⟩ := hy
  refine ⟨?_, ?_, ?_, ?_⟩
  · rw [Array.getElem?_setIfInBounds_ne (by omega), Array.getElem?_setIfInBounds_ne (by omega), Array.getElem?_setIfInBounds_ne (by omega), Array.getElem?_setIfInBounds_ne (by omega)]; exact c0
  · rw [Array.getElem?_setIfInBounds_ne (by omega), Array.getElem?_setIfInBounds_ne (by omega), Array.getElem?_setIfInBounds_ne (by omega), Array.getElem?_setIfInBounds_ne (by omega)]; exact c1
  · rw [Array.getElem?_setIfInBounds_ne (by omega), Array.getElem?_setIfInBounds_ne (by omega), Array.getElem?_setIfInBounds_ne (by omega), Array.getElem?_setIfInBounds_ne (by omega)]; exact c2
  · rw [Array.getElem?_setIfInBounds_ne (by omega), Array.getElem?_setIfInBounds_ne (by omega), Array.getElem?_setIfInBounds_ne (by omega), Array.getElem?_setIfInBounds_ne (by omega)]; exact c3
theorem setSp_size (cur : Array Value) (j : Nat) (x : Sp) : (setSp cur j x).size = cur.size := by simp
/-- A spot is stored into a row. -/
abbrev putSp (w : World) (b j : Nat) (x : Sp) : World := (((w.setCell ⟨b, j * 4, none⟩ (.int .i64 x.fi)).setCell ⟨b, j * 4 + 1, none⟩ (.int .i64 x.wi)).setCell ⟨b, j * 4 + 2, none⟩ x.g).setCell ⟨b, j * 4 + 3, none⟩ x.st
theorem SpR.put {w : World} {b : Nat} {cur : Array Value} (h : SpR w b cur) (j : Nat) (x : Sp) : SpR (putSp w b j x) b (setSp cur j x) := by
  have h1 := heap_setCell_same w b (j * 4) _ _ (.int .i64 x.fi) h
  have h2 := heap_setCell_same _ b (j * 4 + 1) _ _ (.int .i64 x.wi) h1
  have h3 := heap_setCell_same _ b (j * 4 + 2) _ _ x.g h2
  exact heap_setCell_same _ b (j * 4 + 3) _ _ x.st h3
theorem putSp_chg (w : World) (b j : Nat) (x : Sp) : Chg (fun k => k = b) w (putSp w b j x) :=
  ((((Chg.setCell (S := fun k => k = b) w _ _ rfl).trans (Chg.setCell (S := fun k => k = b) _ _ _ rfl) (fun _ _ h => h)).trans (Chg.setCell (S := fun k => k = b) _ _ _ rfl) (fun _ _ h => h)).trans (Chg.setCell (S := fun k => k = b) _ _ _ rfl) (fun _ _ h => h))
theorem zero_spot (w : World) : (zeroValue 113).run Tryz.prog w = .ok (.agg #[.int .i64 0, .int .i64 0, .nilFunc, .nilFunc]) w := by kernel_rfl
theorem run_clear_sp {w : World} {b o n c : Nat} {cur : Array Value} (ty : TypeId) (h : SpR w b cur) (hn : 0 < n) (hf : o * 4 + 4 * n ≤ cur.size) :
    ∃ cur', (Builtin.clear_ #[109] ty #[.slice (some ⟨b, o * 4, none⟩) n c]).run Tryz.prog w = .ok (.tuple #[]) (w.setRow b cur') ∧ ∀ k, k < o * 4 → cur'[k]? = cur[k]? := by
  obtain ⟨m, rfl⟩ : ∃ m, n = m + 1 := ⟨n - 1, by omega⟩
  obtain ⟨zs, hzs⟩ : ∃ zs, (Builtin.zeroCells (Value.agg #[.int .i64 0, .int .i64 0, .nilFunc, .nilFunc]).cells (m + 1)).toList = zs := ⟨_, rfl⟩
  have hlen : zs.length = 4 * (m + 1) := by rw [← hzs]; simp [Builtin.zeroCells, Value.cells]; omega
  have hone : ∀ v ∈ zs, v.oneCell' = true := by
    intro v hv
    rw [← hzs] at hv
    simp only [Builtin.zeroCells, Array.toList_map, List.mem_map] at hv
    obtain ⟨k, _, rfl⟩ := hv
    show ((#[.int .i64 0, .int .i64 0, .nilFunc, .nilFunc] : Array Value)[k % 4]!).oneCell' = true
    have : k % 4 = 0 ∨ k % 4 = 1 ∨ k % 4 = 2 ∨ k % 4 = 3 := by omega
    rcases this with e | e | e | e <;> rw [e] <;> rfl
  have hst := run_storeCells_at Tryz.prog b (o * 4) _ zs 0 cur w h (by omega) hone
  simp only [Nat.add_zero] at hst
  refine ⟨(cur.toList.take (o * 4) ++ zs ++ cur.toList.drop (o * 4 + zs.length)).toArray, ?_, fun k hk => ?_⟩
  · simp [Builtin.clear_, run_underlying Tryz.underlying109, hzs, hst]
  · have : (cur.toList.take (o * 4)).length = o * 4 := by simp; omega
    rw [List.getElem?_toArray, List.append_assoc, List.getElem?_append_left (by omega), List.getElem?_take_of_lt hk, Array.getElem?_toList]
section
variable {w : World} {b ib i n c d : Nat} {cur : Array Value} {l : Nat → Sp}
theorem delete_none (hr : SpR w b cur) (hl : ∀ j, j < n → SpEl cur j (l j)) (hi : w.cell? ⟨ib, 0, none⟩ = some (.int .i64 (i : Int))) (hd : ∀ j, j < n → ¬ (l j).fi < (i : Int)) (hn : n ≤ 3) (hc : n ≤ c) :
    Calls Tryz.prog 82 #[.slice (some ⟨b, 0, none⟩) n c, bgC ib] w fun e w' => e = .returned (.slice (some ⟨b, 0, none⟩) n c) ∧ Chg (fun _ => False) w w' := by
  have HI : Hid _ := index_none hr hl hi hd hn hc
  clear hr hl hi hd
  go_enter Tryz.func82, Tryz.ntmps82
  go_wp2_with fail
  refine (show Calls _ _ _ _ _ from HI.out).mono ?_
  rintro e w2 ⟨rfl, hc2⟩
  have HC : Hid (Chg (fun _ => False) w w2) := hc2
  clear HI hc2
  go_wp2
  go_ret
  exact ⟨rfl, HC.out⟩
set_option maxHeartbeats 1600000 in
set_option maxRecDepth 100000 in
theorem delete_some (hr : SpR w b cur) (hl : ∀ j, j < n → SpEl cur j (l j)) (hs : cur.size = 4 * n) (hi : w.cell? ⟨ib, 0, none⟩ = some (.int .i64 (i : Int))) (hib : ib ≠ b) (hd : ∀ j, j < n → ((l j).fi < (i : Int) ↔ j < d)) (hd0 : 0 < d) (hdn : d < n) (hn : n ≤ 3) (hc : n ≤ c) (ho : ∀ j, j < n → (l j).g.oneCell' = true ∧ (l j).st.oneCell' = true) :
    Calls Tryz.prog 82 #[.slice (some ⟨b, 0, none⟩) n c, bgC ib] w fun e w' => ∃ cur', e = .returned (.slice (some ⟨b, 0, none⟩) (n - d) c) ∧ Chg (fun k => k = b) w w' ∧ SpR w' b cur' ∧ ∀ j, j < n - d → SpEl cur' j (l (d + j)) := by
  have IZ : Hid _ := index_zero hr (hl 0 (by omega)) hi ((hd 0 (by omega)).2 hd0) (by omega) hn hc
  have HR : Hid (SpR w b cur) := hr
  have HL : Hid (∀ j, j < n → SpEl cur j (l j)) := hl
  have HI : Hid (w.cell? ⟨ib, 0, none⟩ = some (.int .i64 (i : Int))) := hi
  have HD : Hid (∀ j, j < n → ((l j).fi < (i : Int) ↔ j < d)) := hd
  have HO : Hid (∀ j, j < n → (l j).g.oneCell' = true ∧ (l j).st.oneCell' = true) := ho
  have HS : Hid (cur.size = 4 * n) := hs
  clear hr hl hi hd ho hs
  go_enter Tryz.func82, Tryz.ntmps82
  go_wp2_with fail
  refine (show Calls _ _ _ _ _ from IZ.out).mono ?_
  rintro e w1 ⟨rfl, hc1⟩
  have HC1 : Hid (Chg (fun _ => False) w w1) := hc1
  clear IZ hc1
  go_wp2_with fail
  go_loopw [5, 6, 7] (fun s5 s6 _ wr => ∃ (j : Nat) (cu : Array Value), 1 ≤ j ∧ j ≤ n ∧ s5 = .int .i64 ((j - d : Nat) : Int) ∧ s6 = .int .i64 (j : Int) ∧ Hid (Chg (fun k => k = b) w wr ∧ SpR wr b cu ∧ cu.size = 4 * n ∧ (∀ m, m < j - d → SpEl cu m (l (d + m))) ∧ ∀ m, j ≤ m → m < n → SpEl cu m (l m))) (fun _ s6 _ _ => n - (intOf s6).toNat)
  case atStart => exact ⟨1, cur, by omega, by omega, by rw [show 1 - d = 0 by omega]; rfl, rfl, HC1.out.mono (fun _ _ h => h.elim), HR.out.kept HC1.out (fun h => h), HS.out, fun m hm => by omega, fun m _ hm => HL.out m hm⟩
  case round =>
    clear HC1
    obtain ⟨j, cu, hj1, hj, rfl, rfl, HX⟩ := hrel
    obtain ⟨x1, x2, x3, x4, x5⟩ := HX.out
    have hcell := x1.cell HI.out hib
    by_cases hlt : j < n
    · have k1 : (j : Int) < (n : Int) := by omega
      obtain ⟨c0, c1, c2, c3⟩ := x2.cell (x5 j (Nat.le_refl _) hlt)
      have hO := HO.out j hlt
      have HB : Hid (∀ o, Calls Tryz.prog 84 #[spV (l j).fi (l j).wi (l j).g (l j).st, .pointer (some ⟨ib, 0, none⟩)] (wr.alloc o) fun e w' => e = .returned (.bool (decide ((l j).fi < (i : Int)))) ∧ Chg (fun _ => False) wr w') := fun o =>
        (begun1_any (l j).fi (l j).wi (l j).g (l j).st ib i (wr.alloc o) ((Chg.alloc (fun _ => False) wr o).cell hcell (fun h => h))).mono (by rintro e w' ⟨rfl, rfl⟩; exact ⟨rfl, (Chg.alloc (fun _ => False) wr _).al _⟩)
      by_cases hdj : j < d
      · have hdf : decide ((l j).fi < (i : Int)) = true := by simpa using (HD.out j hlt).2 hdj
        rw [hdf] at HB
        have hji : j + 1 - d = j - d := by omega
        have hg1 : ∀ (a : Addr) (m : Mode) (w : World), (store a (l j).g m).run Tryz.prog w = stored Tryz.prog w a (l j).g m := fun a m w => run_store Tryz.prog w a _ m hO.1
        have hg2 : ∀ (a : Addr) (m : Mode) (w : World), (store a (l j).st m).run Tryz.prog w = stored Tryz.prog w a (l j).st m := fun a m w => run_store Tryz.prog w a _ m hO.2
        have HN : Hid (∀ w', Chg (fun _ => False) wr w' → Chg (fun k => k = b) w w' ∧ SpR w' b cu ∧ cu.size = 4 * n ∧ (∀ m, m < j + 1 - d → SpEl cu m (l (d + m))) ∧ ∀ m, j + 1 ≤ m → m < n → SpEl cu m (l m)) := fun w' h' =>
          ⟨x1.trans h' (fun _ _ h => h.elim), x2.kept h' (fun h => h), x3, fun m hm => x4 m (by omega), fun m h1 h2 => x5 m (by omega) h2⟩
        generalize (l j).fi = fi at *
        generalize (l j).wi = wi at *
        generalize (l j).g = g at *
        generalize (l j).st = st at *
        clear x1 x2 x4 x5 HX HO HD HL HR HS HI hO
        go_wp2_with fail
        refine (HB.out _).mono ?_
        rintro e w2 ⟨rfl, hc2⟩
        have HC2 : Hid (Chg (fun _ => False) wr w2) := hc2
        clear HB hc2
        go_wp2
        go_roundw
        case rel => exact ⟨j + 1, cu, by omega, by omega, by rw [hji], by go_num, HN.out w2 HC2.out⟩
        case measure => simp [intOf]; omega
      · have hdf : decide ((l j).fi < (i : Int)) = false := by simpa using fun h => hdj ((HD.out j hlt).1 h)
        have HB2 : Hid (Calls Tryz.prog 84 #[spV (l j).fi (l j).wi (l j).g (l j).st, .pointer (some ⟨ib, 0, none⟩)] (wr.alloc (spO (l j).fi (l j).wi (l j).g (l j).st)) fun e w' => e = .returned (.bool false) ∧ SpB w' wr.heap.size (l j).fi (l j).wi (l j).g (l j).st ∧ Chg (fun _ => False) wr w') := by
          refine (begun1_any (l j).fi (l j).wi (l j).g (l j).st ib i (wr.alloc (spO (l j).fi (l j).wi (l j).g (l j).st)) ((Chg.alloc (fun _ => False) wr _).cell hcell (fun h => h))).mono ?_
          rintro e w' ⟨rfl, rfl⟩
          rw [hdf]
          have h0 : SpB (wr.alloc (spO (l j).fi (l j).wi (l j).g (l j).st)) wr.heap.size (l j).fi (l j).wi (l j).g (l j).st := by
            refine ⟨?_, ?_, ?_, ?_⟩ <;> (rw [World.cell?_alloc_at _ _ _ _ rfl]; rfl)
          exact ⟨rfl, h0.kept (Chg.alloc (fun _ => False) _ _) (fun h => h), (Chg.alloc (fun _ => False) wr _).al _⟩
        obtain ⟨t, ht⟩ : ∃ t, j - d = t := ⟨_, rfl⟩
        have htj : t < j := by omega
        have htn : (t : Int) < (n : Int) := by omega
        have htn2 : t < n := by omega
        have hji : j + 1 - d = t + 1 := by omega
        have hlj : l j = l (d + t) := by rw [show d + t = j by omega]
        have hg1 : ∀ (a : Addr) (m : Mode) (w : World), (store a (l j).g m).run Tryz.prog w = stored Tryz.prog w a (l j).g m := fun a m w => run_store Tryz.prog w a _ m hO.1
        have hg2 : ∀ (a : Addr) (m : Mode) (w : World), (store a (l j).st m).run Tryz.prog w = stored Tryz.prog w a (l j).st m := fun a m w => run_store Tryz.prog w a _ m hO.2
        have old : ∀ r, r < 4 → ∃ v, cu[t * 4 + r]? = some v := fun r hr => ⟨cu[t * 4 + r]'(by omega), by simp [show t * 4 + r < cu.size by omega]⟩
        obtain ⟨o0, q0⟩ := old 0 (by omega)
        obtain ⟨o1, q1⟩ := old 1 (by omega)
        obtain ⟨o2, q2⟩ := old 2 (by omega)
        obtain ⟨o3, q3⟩ := old 3 (by omega)
        have HN : Hid (∀ w', Chg (fun _ => False) wr w' → (w'.cell? ⟨b, t * 4, none⟩ = some o0 ∧ w'.cell? ⟨b, t * 4 + 1, none⟩ = some o1 ∧ w'.cell? ⟨b, t * 4 + 2, none⟩ = some o2 ∧ w'.cell? ⟨b, t * 4 + 3, none⟩ = some o3 ∧ ∀ o, w'.frozen? ⟨b, o, none⟩ = false) ∧
            Chg (fun k => k = b) w (putSp w' b t ⟨(l j).fi, (l j).wi, (l j).g, (l j).st⟩) ∧ SpR (putSp w' b t ⟨(l j).fi, (l j).wi, (l j).g, (l j).st⟩) b (setSp cu t (l j)) ∧ (setSp cu t (l j)).size = 4 * n ∧ (∀ m, m < j + 1 - d → SpEl (setSp cu t (l j)) m (l (d + m))) ∧ ∀ m, j + 1 ≤ m → m < n → SpEl (setSp cu t (l j)) m (l m)) := fun w' h' => by
          have x2' := x2.kept h' (fun h => h)
          refine ⟨⟨by rw [cell_of_row _ _ _ _ _ _ x2']; exact q0, by rw [cell_of_row _ _ _ _ _ _ x2']; exact q1, by rw [cell_of_row _ _ _ _ _ _ x2']; exact q2, by rw [cell_of_row _ _ _ _ _ _ x2']; exact q3, fun o => x2'.free o⟩, (x1.trans h' (fun _ _ h => h.elim)).trans (putSp_chg _ _ _ _) (fun _ _ h => h), x2'.put t (l j), by rw [setSp_size]; exact x3, fun m hm => ?_, fun m h1 h2 => setSp_other (by omega) (x5 m (by omega) h2)⟩
          by_cases e : m = t
          · subst e
            rw [← hlj]
            exact setSp_same (by omega)
          · exact setSp_other e (x4 m (by omega))
        rw [ht]
        generalize setSp cu t (l j) = cu2 at *
        generalize (l j).fi = fi at *
        generalize (l j).wi = wi at *
        generalize (l j).g = g at *
        generalize (l j).st = st at *
        clear x1 x2 x3 x4 x5 HX HO HD HL HR HS HI hO HB q0 q1 q2 q3 old hlj
        go_wp2_with fail
        refine HB2.out.mono ?_
        rintro e w2 ⟨rfl, hsp, hc2⟩
        obtain ⟨⟨g0, g1, g2, g3, g4⟩, hq⟩ := HN.out w2 hc2
        have HQ : Hid _ := hq
        obtain ⟨y0, y1, y2, y3⟩ := hsp
        clear HB2 hc2 HN hq
        go_wp2
        go_roundw
        case rel => exact ⟨j + 1, cu2, by omega, by omega, by rw [hji]; go_num, by go_num, HQ.out⟩
        case measure => simp [intOf]; omega
    · obtain rfl : j = n := by omega
      have k1 : ¬ ((j : Int) < (j : Int)) := by omega
      have k2 : ((j - d : Nat) : Int) ≤ (j : Int) := by omega
      have k3 : j - d ≤ j := by omega
      obtain ⟨cur', hcl, hke⟩ := run_clear_sp (o := j - d) (n := j - (j - d)) (c := c - (j - d)) 0 x2 (by omega) (by omega)
      obtain ⟨t, ht⟩ : ∃ t, j - d = t := ⟨_, rfl⟩
      have HF : Hid (Chg (fun k => k = b) w (wr.setRow b cur') ∧ SpR (wr.setRow b cur') b cur' ∧ ∀ m, m < t → SpEl cur' m (l (d + m))) := by
        refine ⟨x1.trans ⟨rfl, rfl, rfl, by simp, fun k _ hk => setRow_other wr b k _ (fun e => hk e)⟩ (fun _ _ h => h), setRow_heap wr b _ cur' _ _ x2, fun m hm => ?_⟩
        have h4 := x4 m (by omega)
        exact ⟨by rw [hke _ (by omega)]; exact h4.c0, by rw [hke _ (by omega)]; exact h4.c1, by rw [hke _ (by omega)]; exact h4.c2, by rw [hke _ (by omega)]; exact h4.c3⟩
      rw [ht] at hcl k2 k3 ⊢
      have k4 : t ≤ c := by omega
      clear x1 x2 x3 x4 x5 HX HO HD HL HR HS HI hcell hke
      go_wp2
      go_ret
      exact ⟨rfl, HF.out.1, cur', HF.out.2⟩
end
end Go.Proofs.YtnnaemlipahamaaGreat

namespace Go.Proofs.YtnnaemlipahamaaGreat
open Go.RowKit Go.Maps

/-- A spot for key k. -/
structure SpFor (w : World) (Y : Nat → Prop) (nb q k : Nat) (x : Sp) : Prop where
  fi : x.fi = (fst k : Int)
  wi : x.wi = wth k
  cl : SpK w Y nb q k x.g x.st
theorem SpK.one {w : World} {Y : Nat → Prop} {nb q k : Nat} {g st : Value} (h : SpK w Y nb q k g st) : g.oneCell' = true ∧ st.oneCell' = true := by
  rcases h with ⟨_, s, rfl, rfl, _⟩ | ⟨_, s, go, rfl, rfl, _⟩ <;> exact ⟨rfl, rfl⟩
theorem GK.kept {S Y : Nat → Prop} {w w' : World} {nb q k : Nat} {go : Value} (h : GK w Y nb q k go) (hc : Chg S w w') (hn : ∀ b, Y b → ¬ S b) : GK w' Y nb q k go := by
  rcases h with ⟨hf, s, e, h1, h2⟩ | ⟨hf, hp, s, s', e, h1, h2, h3, h4⟩
  · exact .inl ⟨hf, s, e, h1.kept hc (hn s h2), h2⟩
  · exact .inr ⟨hf, hp, s, s', e, h1.kept hc (fun b b1 b2 => hn b (h2 b b1 b2)), h2, h3.kept hc (hn s' h4), h4⟩
theorem SpK.kept {S Y : Nat → Prop} {w w' : World} {nb q k : Nat} {g st : Value} (h : SpK w Y nb q k g st) (hc : Chg S w w') (hn : ∀ b, Y b → ¬ S b) : SpK w' Y nb q k g st := by
  rcases h with ⟨hf, s, e1, e2, h1, h2⟩ | ⟨hf, s, go, e1, e2, h1, h2, h3⟩
  · exact .inl ⟨hf, s, e1, e2, h1.kept hc (hn s h2), h2⟩
  · exact .inr ⟨hf, s, go, e1, e2, h1.kept hc (fun b b1 b2 => hn b (h2 b b1 b2)), h2, h3.kept hc hn⟩
theorem SpFor.kept {S Y : Nat → Prop} {w w' : World} {nb q k : Nat} {x : Sp} (h : SpFor w Y nb q k x) (hc : Chg S w w') (hn : ∀ b, Y b → ¬ S b) : SpFor w' Y nb q k x := ⟨h.fi, h.wi, h.cl.kept hc hn⟩
theorem GK.sm {Y Z : Nat → Prop} {w w' : World} {nb q k : Nat} {go : Value} (h : GK w Y nb q k go) (hs : Sm Z w w') (hn : ∀ b, Y b → Z b) : GK w' Y nb q k go := by
  rcases h with ⟨hf, s, e, h1, h2⟩ | ⟨hf, hp, s, s', e, h1, h2, h3, h4⟩
  · exact .inl ⟨hf, s, e, h1.sm hs (hn s h2), h2⟩
  · exact .inr ⟨hf, hp, s, s', e, h1.sm hs (fun b b1 b2 => hn b (h2 b b1 b2)), h2, h3.sm hs (hn s' h4), h4⟩
theorem SpK.sm {Y Z : Nat → Prop} {w w' : World} {nb q k : Nat} {g st : Value} (h : SpK w Y nb q k g st) (hs : Sm Z w w') (hn : ∀ b, Y b → Z b) : SpK w' Y nb q k g st := by
  rcases h with ⟨hf, s, e1, e2, h1, h2⟩ | ⟨hf, s, go, e1, e2, h1, h2, h3⟩
  · exact .inl ⟨hf, s, e1, e2, h1.sm hs (hn s h2), h2⟩
  · exact .inr ⟨hf, s, go, e1, e2, h1.sm hs (fun b b1 b2 => hn b (h2 b b1 b2)), h2, h3.sm hs hn⟩
theorem SpFor.sm {Y Z : Nat → Prop} {w w' : World} {nb q k : Nat} {x : Sp} (h : SpFor w Y nb q k x) (hs : Sm Z w w') (hn : ∀ b, Y b → Z b) : SpFor w' Y nb q k x := ⟨h.fi, h.wi, h.cl.sm hs hn⟩
theorem GK.wide {Y Z : Nat → Prop} {w : World} {nb q k : Nat} {go : Value} (h : GK w Y nb q k go) (hn : ∀ b, Y b → Z b) : GK w Z nb q k go := by
  rcases h with ⟨hf, s, e, h1, h2⟩ | ⟨hf, hp, s, s', e, h1, h2, h3, h4⟩
  · exact .inl ⟨hf, s, e, h1, hn s h2⟩
  · exact .inr ⟨hf, hp, s, s', e, h1, fun b b1 b2 => hn b (h2 b b1 b2), h3, hn s' h4⟩
theorem SpFor.wide {Y Z : Nat → Prop} {w : World} {nb q k : Nat} {x : Sp} (h : SpFor w Y nb q k x) (hn : ∀ b, Y b → Z b) : SpFor w Z nb q k x := by
  obtain ⟨h1, h2, h⟩ := h
  refine ⟨h1, h2, ?_⟩
  rcases h with ⟨hf, s, e1, e2, h1, h2⟩ | ⟨hf, s, go, e1, e2, h1, h2, h3⟩
  · exact .inl ⟨hf, s, e1, e2, h1, hn s h2⟩
  · exact .inr ⟨hf, s, go, e1, e2, h1, fun b b1 b2 => hn b (h2 b b1 b2), h3.wide hn⟩

/-- The keys on the way to block i. -/
def wayK (i : Nat) : List Nat := if i < 8 then [2 * i] else if i < 136 then [1, 2 * i] else [3, 5 + 2 * ((i - 136) / 128), 2 * i]
theorem wayK_len (i : Nat) : (wayK i).length ≤ 3 ∧ 0 < (wayK i).length := by
  unfold wayK
  split
  · simp
  · split <;> simp
/-- Between w and b. -/
def Bet (a b : Nat) : Nat → Prop := fun k => a ≤ k ∧ k < b
theorem fld_d {i : Nat} (h : i < 8) : fld (2 * i) := by unfold fld; omega
theorem nfld_d {i : Nat} (h : 8 ≤ i) : ¬ fld (2 * i) := by unfold fld; omega
theorem fst_d (i : Nat) : fst (2 * i) = i := by unfold fst; rw [if_pos (by omega)]; omega
theorem live_fst {m k : Nat} : live m k ↔ fst k < m := by
  unfold live fst
  split
  · omega
  · split
    · omega
    · split <;> omega
set_option maxHeartbeats 1600000 in
theorem way_any (q nb i : Nat) (w : World) (hi : i < 16520) :
    Calls Tryz.prog 83 #[tI q, .pointer (some ⟨nb, 0, none⟩), .int .i64 (i : Int)] w fun e w' => ∃ (b : Nat) (l : Nat → Sp) (cur : Array Value), e = .returned (.slice (some ⟨b, 0, none⟩) (wayK i).length (wayK i).length) ∧ w.heap.size ≤ b ∧ SpR w' b cur ∧ cur.size = 4 * (wayK i).length ∧ Chg (fun _ => False) w w' ∧
      ∀ j, j < (wayK i).length → SpEl cur j (l j) ∧ SpFor w' (Bet w.heap.size b) nb q ((wayK i).getD j 0) (l j) := by
  by_cases h8 : i < 8
  · refine (way0 q nb i w h8).mono ?_
    rintro e w' ⟨b, s, rfl, h1, h2, h3, h4, h5, h6⟩
    have ek : wayK i = [2 * i] := by unfold wayK; rw [if_pos h8]
    rw [ek]
    refine ⟨b, fun _ => ⟨(i : Int), -1, gF s, sF s⟩, _, rfl, h1, h2, rfl, h6, fun j hj => ?_⟩
    obtain rfl : j = 0 := by simp at hj; omega
    refine ⟨⟨rfl, rfl, rfl, rfl⟩, by show (i : Int) = _; rw [show ([2 * i] : List Nat).getD 0 0 = 2 * i from rfl, fst_d], by show (-1 : Int) = wth (2 * i); unfold wth; rw [if_pos (fld_d h8)], .inl ⟨fld_d h8, s, rfl, rfl, ?_, h3, h4⟩⟩
    have : fo (2 * i) = 3 + i := by unfold fo; rw [if_neg (by omega), if_neg (by omega)]; omega
    show FldAt w' s ⟨nb, fo (2 * i), none⟩
    rw [this]; exact h5
  · by_cases h136 : i < 136
    · refine (way1 q nb i w (by omega) h136).mono ?_
      rintro e w' ⟨b, s, s2, rfl, h1, h2, h3, h4, h5, h6, h7, h8', h9⟩
      have ek : wayK i = [1, 2 * i] := by unfold wayK; rw [if_neg h8, if_pos h136]
      rw [ek]
      have f1 : fld 1 := .inl rfl
      have n2 : ¬ fld (2 * i) := nfld_d (by omega)
      have p2 : par (2 * i) = 1 := by unfold par; rw [if_neg (by omega), if_pos (by omega)]
      have i2 : idx (2 * i) = i - 8 := by unfold idx; rw [if_neg (by omega), if_pos (by omega)]; omega
      have e8 : ((i : Int) - 8) = ((i - 8 : Nat) : Int) := by omega
      rw [e8] at h8'
      refine ⟨b, fun j => if j = 0 then ⟨8, -1, gF s, sF s⟩ else ⟨(i : Int), 8, gE (s2 + 4) (s2 + 2), sE (s2 + 4) (s2 + 2) s2⟩, _, rfl, h1, h2, rfl, h9, fun j hj => ?_⟩
      have hj' : j = 0 ∨ j = 1 := by simp at hj; omega
      rcases hj' with rfl | rfl
      · exact ⟨⟨rfl, rfl, rfl, rfl⟩, (by decide : (8 : Int) = ((fst 1 : Nat) : Int)), (by decide : (-1 : Int) = wth 1), .inl ⟨f1, s, rfl, rfl, h7, h3, h4⟩⟩
      · refine ⟨⟨rfl, rfl, rfl, rfl⟩, by show (i : Int) = _; rw [show ([1, 2 * i] : List Nat).getD 1 0 = 2 * i from rfl, fst_d], ?_, .inr ⟨n2, s2, gF s, rfl, rfl, ?_, fun k k1 k2 => ⟨by omega, by omega⟩, .inl ⟨?_, s, rfl, ?_, h3, h4⟩⟩⟩
        · show (8 : Int) = wth (2 * i)
          unfold wth; rw [if_neg n2, p2]; rfl
        · show EntAt w' s2 q (gF s) ((idx (2 * i) : Nat) : Int)
          rw [i2]; exact h8'
        · show fld (par (2 * i))
          rw [p2]; exact f1
        · show FldAt w' s ⟨nb, fo (par (2 * i)), none⟩
          rw [p2]; exact h7
    · refine (way2 q nb i ((i - 136) / 128) ((i - 136) % 128) w (by omega) hi rfl rfl).mono ?_
      rintro e w' ⟨b, s, s2, s3, rfl, h1, h2, h3, h4, h5, h6, h7, h8', h9, h10, h11, h12⟩
      obtain ⟨A, hA⟩ : ∃ A, (i - 136) / 128 = A := ⟨_, rfl⟩
      have ek : wayK i = [3, 5 + 2 * A, 2 * i] := by unfold wayK; rw [if_neg h8, if_neg h136, hA]
      rw [ek]
      rw [hA] at h2 h10
      have f3 : fld 3 := .inr (.inl rfl)
      have nI : ¬ fld (5 + 2 * A) := by unfold fld; omega
      have nD : ¬ fld (2 * i) := nfld_d (by omega)
      have pI : par (5 + 2 * A) = 3 := by unfold par; rw [if_pos (by omega)]
      have pD : par (2 * i) = 5 + 2 * A := by unfold par; rw [if_neg (by omega), if_neg (by omega)]; omega
      have iI : idx (5 + 2 * A) = A := by unfold idx; rw [if_pos (by omega)]; omega
      have iD : idx (2 * i) = (i - 136) % 128 := by unfold idx; rw [if_neg (by omega), if_neg (by omega), show 2 * i / 2 = i by omega]
      have fI : fst (5 + 2 * A) = 136 + 128 * A := by unfold fst; rw [if_neg (by omega), if_neg (by omega), if_neg (by omega)]; omega
      refine ⟨b, fun j => if j = 0 then ⟨136, -1, gF s, sF s⟩ else if j = 1 then ⟨((136 + 128 * A : Nat) : Int), 136, gE (s2 + 4) (s2 + 2), sE (s2 + 4) (s2 + 2) s2⟩ else ⟨(i : Int), ((136 + 128 * A : Nat) : Int), gE (s3 + 4) (s3 + 2), sE (s3 + 4) (s3 + 2) s3⟩, _, rfl, h1, h2, rfl, h12, fun j hj => ?_⟩
      have hj' : j = 0 ∨ j = 1 ∨ j = 2 := by simp at hj; omega
      rcases hj' with rfl | rfl | rfl
      · exact ⟨⟨rfl, rfl, rfl, rfl⟩, (by decide : (136 : Int) = ((fst 3 : Nat) : Int)), (by decide : (-1 : Int) = wth 3), .inl ⟨f3, s, rfl, rfl, h9, h3, h4⟩⟩
      · refine ⟨⟨rfl, rfl, rfl, rfl⟩, by show ((136 + 128 * A : Nat) : Int) = ((fst (5 + 2 * A) : Nat) : Int); rw [fI], ?_, .inr ⟨nI, s2, gF s, rfl, rfl, ?_, fun k k1 k2 => ⟨by omega, by omega⟩, .inl ⟨?_, s, rfl, ?_, h3, h4⟩⟩⟩
        · show (136 : Int) = wth (5 + 2 * A)
          unfold wth; rw [if_neg nI, pI]; rfl
        · show EntAt w' s2 q (gF s) ((idx (5 + 2 * A) : Nat) : Int)
          rw [iI]; exact h10
        · show fld (par (5 + 2 * A))
          rw [pI]; exact f3
        · show FldAt w' s ⟨nb, fo (par (5 + 2 * A)), none⟩
          rw [pI]; exact h9
      · refine ⟨⟨rfl, rfl, rfl, rfl⟩, by show (i : Int) = ((fst (2 * i) : Nat) : Int); rw [fst_d], ?_, .inr ⟨nD, s3, gE (s2 + 4) (s2 + 2), rfl, rfl, ?_, fun k k1 k2 => ⟨by omega, by omega⟩, .inr ⟨?_, ?_, s2, s, rfl, ?_, fun k k1 k2 => ⟨by omega, by omega⟩, ?_, h3, h4⟩⟩⟩
        · show ((136 + 128 * A : Nat) : Int) = wth (2 * i)
          unfold wth; rw [if_neg nD, pD, fI]
        · show EntAt w' s3 q _ ((idx (2 * i) : Nat) : Int)
          rw [iD]; exact h11
        · show ¬ fld (par (2 * i))
          rw [pD]; exact nI
        · show fld (par (par (2 * i)))
          rw [pD, pI]; exact f3
        · show EntAt w' s2 q (gF s) ((idx (par (2 * i)) : Nat) : Int)
          rw [pD, iI]; exact h10
        · show FldAt w' s ⟨nb, fo (par (par (2 * i))), none⟩
          rw [pD, pI]; exact h9
end Go.Proofs.YtnnaemlipahamaaGreat

namespace Go.Proofs.YtnnaemlipahamaaGreat
open Go.RowKit Go.Maps

section
variable {L : List Nat} {X X' : Nat → Prop} {w0 w w' w1 : World} {pd pl q K : Nat} {f : Nat → List Int} {com : Nat → Option (List Int)} {pend N : Nat} {V : Nat → List Int} {live : Bool} {own : Nat → Option (List Int)} {wrote : Nat}
theorem Nw.put {F G : Nat → Prop} {r : Nat} (h : Nw X w0 w F G) (_hx : X r) (hr : w0.heap.size ≤ r) (hc : Chg (fun b => b = r) w w') : Nw X w0 w' F G :=
  ⟨h.chg.trans hc (fun i hi e => by omega), h.f, h.g, fun b hb => ⟨by have := (h.x b hb).1; have := hc.size; omega, (h.x b hb).2⟩⟩
theorem TxUp.put {r : Nat} (h : TxUp X w0 w pd pl q K f com pend live own wrote N) (hx : X r) (hr : w0.heap.size ≤ r) (hc : Chg (fun b => b = r) w w') : TxUp X w0 w' pd pl q K f com pend live own wrote N := by
  obtain ⟨F, G, S, m, V, mt, Vt, h1, h2, h3, h4, h5, h6, h7, h8⟩ := h
  have hn := h7.x r hx
  exact ⟨F, G, S, m, V, mt, Vt, h1.keptE hc (fun b hb e => hn.2.1 (e ▸ hb)) (fun b hb e => hn.2.2 (e ▸ hb)), h2, h3, h4, h5, h6, h7.put hx hr hc, h8⟩
/-- A store into memory that is not the log's. -/
theorem Tv.put {r : Nat} (h : Tv L X w0 w pd pl q K f com pend N V) (hx : X r) (hr : w0.heap.size ≤ r) (hc : Chg (fun b => b = r) w w') : Tv L X w0 w' pd pl q K f com pend N V := by
  obtain ⟨own, wrote, h1, h2⟩ := h
  exact ⟨own, wrote, h1.put hx hr hc, h2⟩
end
/-- What stays the same in a transaction: the blocks that may be written, the log, the pool. -/
structure Cx where
  L : List Nat
  w0 : World
  pd : Nat
  pl : Nat
  q : Nat
  K : Nat
  f : Nat → List Int
  com : Nat → Option (List Int)
  pend : Nat
  N : Nat
  M : Nat
  F : Nat
  n : Nat
/-- The transaction reads V. -/
abbrev Cx.tv (c : Cx) (X : Nat → Prop) (w : World) (V : Nat → List Int) : Prop := Tv c.L X c.w0 w c.pd c.pl c.q c.K c.f c.com c.pend c.N V
/-- The pool is right, its numbers are blocks of the log, apart from its map. -/
structure Cx.Ok (c : Cx) : Prop where
  pr : Pr c.L c.M c.F c.n c.K
  top : c.F + c.n ≤ c.K
  off : c.M + mapsN c.n ≤ c.F ∨ c.F + c.n ≤ c.M
/-- .. and its bits are T; all blocks are bytes. -/
structure Fs (c : Cx) (X : Nat → Prop) (w : World) (V : Nat → List Int) (T : Nat → Bool) : Prop where
  tv : c.tv X w V
  bt : Bt V c.M c.n T
  by' : ∀ n, n < c.K → IsBy (V n)
/-- The live keys' blocks are the pool's, and taken. -/
structure Fl (c : Cx) (Lv : Nat → Prop) (V : Nat → List Int) (nd : Nd) (B : Nat → Nat) (T : Nat → Bool) : Prop where
  sh : Sh Lv V nd B
  own : ∀ k, Lv k → c.F ≤ B k ∧ B k < c.F + c.n ∧ T (B k - c.F) = true
  idx : ∀ k, Lv k → ¬ fld k → idx k < 128
section
variable {c : Cx} {X Y : Nat → Prop} {w w' : World} {V : Nat → List Int} {T : Nat → Bool} {Lv : Nat → Prop} {nd : Nd} {B : Nat → Nat} {nb k : Nat} {Ty : TypeId} {x : Sp}
theorem Fs.more (h : Fs c X w V T) (hc : Chg (fun _ => False) w w') : Fs c X w' V T := ⟨h.tv.more hc, h.bt, h.by'⟩
theorem Fs.add (h : Fs c X w V T) (hc : Chg (fun _ => False) w w') : Fs c (addX X w.heap.size w'.heap.size) w' V T := ⟨h.tv.add hc, h.bt, h.by'⟩
theorem Fs.less (h : Fs c X w V T) {X' : Nat → Prop} (hx : ∀ b, X' b → X b) : Fs c X' w V T := ⟨h.tv.less hx, h.bt, h.by'⟩
theorem Fs.put {r : Nat} (h : Fs c X w V T) (hx : X r) (hr : c.w0.heap.size ≤ r) (hc : Chg (fun b => b = r) w w') : Fs c X w' V T := ⟨h.tv.put hx hr hc, h.bt, h.by'⟩
theorem Fl.lt (h : Fl c Lv V nd B T) (ho : c.Ok) (hk : Lv k) : B k < c.K := by have := h.own k hk; have := ho.top; omega
/-- A getter tells its key's block. -/
theorem gk_get {go : Value} (hg : GK w Y nb c.q k go) (hn : NdAt w nb nd) (hs : Fs c X w V T) (hf : Fl c Lv V nd B T) (ho : c.Ok) (hk : Lv k) : Gets w go (B k : Int) := by
  rcases hg with ⟨hfl, s, rfl, h1, _⟩ | ⟨hfl, hp, s, s', rfl, h1, _, h3, _⟩
  · have e := hf.sh.slot k hk
    rw [slotV_fld hfl] at e
    rw [← e]
    exact get_field h1 (hn.fdc hfl)
  · have e := hf.sh.slot k hk
    rw [slotV_num hfl] at e
    have hpl := hf.sh.par k hk hfl
    have e2 := hf.sh.slot _ hpl
    rw [slotV_fld hp] at e2
    have g2 : Gets w (gF s') (B (par k) : Int) := by rw [← e2]; exact get_field h3 (hn.fdc hp)
    rw [← e]
    exact get_entry h1 g2 hs.tv (hf.lt ho hpl) (hf.idx k hk hfl) (hs.by' _ (hf.lt ho hpl))
theorem sp_get (hg : SpFor w Y nb c.q k x) (hn : NdAt w nb nd) (hs : Fs c X w V T) (hf : Fl c Lv V nd B T) (ho : c.Ok) (hk : Lv k) : Gets w x.g (B k : Int) := by
  rcases hg.cl with ⟨hfl, s, e1, _, h1, _⟩ | ⟨hfl, s, go, e1, _, h1, _, h3⟩
  · have e := hf.sh.slot k hk
    rw [slotV_fld hfl] at e
    rw [← e, e1]
    exact get_field h1 (hn.fdc hfl)
  · have e := hf.sh.slot k hk
    rw [slotV_num hfl] at e
    have hpl := hf.sh.par k hk hfl
    rw [← e, e1]
    exact get_entry h1 (gk_get h3 hn hs hf ho hpl) hs.tv (hf.lt ho hpl) (hf.idx k hk hfl) (hs.by' _ (hf.lt ho hpl))
/-- What setting a key's number makes of the blocks, and of the node. -/
def setV (V : Nat → List Int) (B : Nat → Nat) (k : Nat) (y : Int) : Nat → List Int := if fld k then V else upd V (B (par k)) (setNum (V (B (par k))) (idx k) y)
def setN (nd : Nd) (k : Nat) (y : Int) : Nd := if fld k then nd.set (fo k) y else nd
theorem setV_by (h : ∀ n, n < c.K → IsBy (V n)) (y : Int) (_hp : ¬ fld k → B (par k) < c.K) : ∀ n, n < c.K → IsBy (setV V B k y n) := by
  intro n hn
  unfold setV
  split
  · exact h n hn
  · rename_i hf
    by_cases e : n = B (par k)
    · subst e; rw [upd_same]; exact isBy_setNum (h _ hn)
    · rw [upd_other _ _ e]; exact h n hn
/-- A setter sets its key's place: of a number in the node. -/
theorem sp_setF (hg : SpFor w Y nb c.q k x) (hfl : fld k) (hn : NdB Ty w nb nd) (hs : Fs c X w V T) (hx : X nb) (hr : c.w0.heap.size ≤ nb) (y : Int) :
    ∃ s, x.st = sF s ∧ Calls Tryz.prog 129 #[.int .i64 y, .pointer (some ⟨s, 0, none⟩)] w fun e w' => e = .returned (.int .i64 0) ∧ Fs c X w' (setV V B k y) T ∧ NdB Ty w' nb (setN nd k y) ∧ Chg (fun b => b = nb) w w' := by
  rcases hg.cl with ⟨_, s, _, e1, h1, _⟩ | ⟨h, _⟩
  · refine ⟨s, e1, (set_field y h1 (hn.at.fdc hfl) (hn.fr _)).mono ?_⟩
    rintro e w' ⟨rfl, rfl⟩
    have hc : Chg (fun b => b = nb) w (w.setCell ⟨nb, fo k, none⟩ (.int .i64 y)) := Chg.setCell (S := fun b => b = nb) _ _ _ rfl
    unfold setV setN
    rw [if_pos hfl, if_pos hfl]
    exact ⟨rfl, hs.put hx hr hc, hn.st _ y (fo_lt hfl), hc⟩
  · exact absurd hfl h
/-- .. of a number in a block. -/
theorem sp_setE (hg : SpFor w Y nb c.q k x) (hfl : ¬ fld k) (hn : NdB Ty w nb nd) (hs : Fs c X w V T) (hf : Fl c Lv V nd B T) (ho : c.Ok) (hp : Lv (par k)) (hi : idx k < 128) (hL : B (par k) ∈ c.L) (hx : X nb) (hY : ∀ b, Y b → X b) (y : Int) (y0 : 0 ≤ y) (y1 : y < 4294967296) :
    ∃ s, x.st = sE (s + 4) (s + 2) s ∧ Calls Tryz.prog 133 #[.int .i64 y, .pointer (some ⟨s + 4, 0, none⟩), .pointer (some ⟨s + 2, 0, none⟩), .pointer (some ⟨s, 0, none⟩)] w fun e w' => e = .returned (.int .i64 0) ∧ Fs c X w' (setV V B k y) T ∧ NdB Ty w' nb (setN nd k y) ∧ Sm X w w' := by
  rcases hg.cl with ⟨h, _⟩ | ⟨_, s, go, _, e1, h1, h2, h3⟩
  · exact absurd h hfl
  · refine ⟨s, e1, (set_entry y h1 (gk_get h3 hn.at hs hf ho hp) hs.tv (hf.lt ho hp) hi hL (hY s (h2 s (Nat.le_refl _) (by omega))) y0 y1).mono ?_⟩
    rintro e w' ⟨rfl, ht, hsm⟩
    have hb := hf.own _ hp
    have hoff := ho.off
    have hby := setV_by (k := k) (B := B) hs.by' y (fun _ => hf.lt ho hp)
    unfold setV at *
    unfold setN
    rw [if_neg hfl] at *
    rw [if_neg hfl]
    exact ⟨rfl, ⟨ht, hs.bt.same (fun i hi => upd_other _ _ (by omega)), hby⟩, (hsm nb hx).trans hn, hsm⟩
end
end Go.Proofs.YtnnaemlipahamaaGreat

namespace Go.Proofs.YtnnaemlipahamaaGreat
open Go.RowKit Go.Maps

theorem wayK_last (i : Nat) : (wayK i).getD ((wayK i).length - 1) 0 = 2 * i := by
  unfold wayK
  split
  · rfl
  · split <;> rfl
section
variable {c : Cx} {X Y : Nat → Prop} {w w' : World} {V : Nat → List Int} {T : Nat → Bool} {Lv : Nat → Prop} {nd : Nd} {B : Nat → Nat} {nb k : Nat} {Ty : TypeId} {x : Sp}
set_option maxHeartbeats 1600000 in
theorem find_any (i : Nat) (hs : Fs c X w V T) (hf : Fl c Lv V nd B T) (ho : c.Ok) (hk : Lv (2 * i)) (hi : i < 16520) :
    Calls Tryz.prog 79 #[tI c.q, nd.v, .int .i64 (i : Int)] w fun e w' => e = .returned (.tuple #[.int .i64 (B (2 * i) : Int), .int .i64 0]) ∧ Chg (fun _ => False) w w' := by
  have hn := NdAt.box w nd 29
  have WY : Hid (Calls Tryz.prog 83 #[tI c.q, .pointer (some ⟨w.heap.size, 0, none⟩), .int .i64 (i : Int)] (w.alloc (nd.o 29)) fun e w' => ∃ (b m t : Nat) (go : Value), e = .returned (.slice (some ⟨b, 0, none⟩) (m + 1) (m + 1)) ∧ m ≤ 2 ∧ t = m * 4 ∧ w'.cell? ⟨b, t + 2, none⟩ = some go ∧ Gets w' go (B (2 * i) : Int) ∧ Hid (Chg (fun _ => False) w w')) := by
    refine (way_any c.q w.heap.size i _ hi).mono ?_
    rintro e w' ⟨b, l, cur, rfl, h1, h2, h3, h4, h5⟩
    have hl := wayK_len i
    have hla := wayK_last i
    obtain ⟨m, hm⟩ : ∃ m, (wayK i).length = m + 1 := ⟨(wayK i).length - 1, by omega⟩
    rw [hm, Nat.add_sub_cancel] at hla
    obtain ⟨he, hsp⟩ := h5 m (by omega)
    rw [hla] at hsp
    have hc := h2.cell he
    rw [hm]
    exact ⟨b, m, m * 4, (l m).g, rfl, by omega, rfl, hc.2.2.1, sp_get hsp (hn.kept h4 (fun h => h)) (hs.more ((Chg.alloc (fun _ => False) w _).trans h4 (fun _ _ h => h))) hf ho hk, (Chg.alloc (fun _ => False) w _).trans h4 (fun _ _ h => h)⟩
  clear hs hf ho hk hn
  generalize (B (2 * i) : Int) = res at *
  go_enter Tryz.func79, Tryz.ntmps79
  go_wp2_with fail
  refine WY.out.mono ?_
  clear WY
  rintro e w1 ⟨b, m, t, go, rfl, hm, ht, hc, ⟨gn, cap, rfl, hcf, hcall⟩, HC⟩
  have HG : Hid _ := hcall w1 (Chg.refl _ _)
  clear hcall
  have e1 : ((m + 1 : Nat) : Int) - 1 = (m : Int) := by omega
  subst ht
  go_wp2_with fail
  refine (show Calls _ _ _ _ _ from HG.out).mono ?_
  clear HG
  rintro e w2 ⟨rfl, hc2⟩
  have HC2 : Hid (Chg (fun _ => False) w w2) := HC.out.trans hc2 (fun _ _ h => h)
  clear hc2 hc hcf
  go_wp2
  go_ret2
  exact ⟨rfl, HC2.out⟩

/-- How many of the way's spots go. -/
def goneK (i : Nat) : Nat := if i ≤ 8 then 0 else if i < 136 then 1 else if i = 136 then 0 else if (i - 136) % 128 = 0 then 1 else 2
theorem begunK_way (i : Nat) : goneK i < (wayK i).length ∧ (begunK i).length = (wayK i).length - goneK i ∧ (∀ j, j < (begunK i).length → (wayK i).getD (goneK i + j) 0 = (begunK i).getD j 0) ∧ ∀ j, j < (wayK i).length → (fst ((wayK i).getD j 0) < i ↔ j < goneK i) := by
  have f1 : fst 1 = 8 := by decide
  have f3 : fst 3 = 136 := by decide
  have fd := fst_d i
  by_cases h8 : i < 8
  · have ew : wayK i = [2 * i] := by unfold wayK; rw [if_pos h8]
    have eb : begunK i = [2 * i] := by unfold begunK; rw [if_neg (by omega), if_neg (by omega), if_neg (by omega)]
    have eg : goneK i = 0 := by unfold goneK; rw [if_pos (by omega)]
    rw [ew, eb, eg]
    refine ⟨by simp, by simp, fun j hj => ?_, fun j hj => ?_⟩
    · rw [Nat.zero_add]
    · obtain rfl : j = 0 := by simp at hj; omega
      show fst (2 * i) < i ↔ 0 < 0
      omega
  by_cases h136 : i < 136
  · have ew : wayK i = [1, 2 * i] := by unfold wayK; rw [if_neg h8, if_pos h136]
    by_cases e8 : i = 8
    · have eb : begunK i = [1, 2 * i] := by unfold begunK; rw [if_pos e8]
      have eg : goneK i = 0 := by unfold goneK; rw [if_pos (by omega)]
      rw [ew, eb, eg]
      refine ⟨by simp, by simp, fun j hj => ?_, fun j hj => ?_⟩
      · rw [Nat.zero_add]
      · have hj' : j = 0 ∨ j = 1 := by simp at hj; omega
        rcases hj' with rfl | rfl
        · show fst 1 < i ↔ 0 < 0
          omega
        · show fst (2 * i) < i ↔ 1 < 0
          omega
    · have eb : begunK i = [2 * i] := by unfold begunK; rw [if_neg e8, if_neg (by omega), if_neg (by omega)]
      have eg : goneK i = 1 := by unfold goneK; rw [if_neg (by omega), if_pos h136]
      rw [ew, eb, eg]
      refine ⟨by simp, by simp, fun j hj => ?_, fun j hj => ?_⟩
      · obtain rfl : j = 0 := by simp at hj; omega
        rfl
      · have hj' : j = 0 ∨ j = 1 := by simp at hj; omega
        rcases hj' with rfl | rfl
        · show fst 1 < i ↔ 0 < 1
          omega
        · show fst (2 * i) < i ↔ 1 < 1
          omega
  obtain ⟨A, hA⟩ : ∃ A, (i - 136) / 128 = A := ⟨_, rfl⟩
  have ew : wayK i = [3, 5 + 2 * A, 2 * i] := by unfold wayK; rw [if_neg h8, if_neg h136, hA]
  have fI : fst (5 + 2 * A) = 136 + 128 * A := by unfold fst; rw [if_neg (by omega), if_neg (by omega), if_neg (by omega)]; omega
  by_cases e136 : i = 136
  · have hA0 : A = 0 := by omega
    have eb : begunK i = [3, 5 + 2 * A, 2 * i] := by unfold begunK; rw [if_neg (by omega), if_pos e136, hA0]
    have eg : goneK i = 0 := by unfold goneK; rw [if_neg (by omega), if_neg h136, if_pos e136]
    rw [ew, eb, eg]
    refine ⟨by simp, by simp, fun j hj => ?_, fun j hj => ?_⟩
    · rw [Nat.zero_add]
    · have hj' : j = 0 ∨ j = 1 ∨ j = 2 := by simp at hj; omega
      rcases hj' with rfl | rfl | rfl
      · show fst 3 < i ↔ 0 < 0
        omega
      · show fst (5 + 2 * A) < i ↔ 1 < 0
        omega
      · show fst (2 * i) < i ↔ 2 < 0
        omega
  by_cases em : (i - 136) % 128 = 0
  · have eb : begunK i = [5 + 2 * A, 2 * i] := by unfold begunK; rw [if_neg (by omega), if_neg e136, if_pos ⟨by omega, em⟩, hA]
    have eg : goneK i = 1 := by unfold goneK; rw [if_neg (by omega), if_neg h136, if_neg e136, if_pos em]
    rw [ew, eb, eg]
    refine ⟨by simp, by simp, fun j hj => ?_, fun j hj => ?_⟩
    · have hj' : j = 0 ∨ j = 1 := by simp at hj; omega
      rcases hj' with rfl | rfl <;> rfl
    · have hj' : j = 0 ∨ j = 1 ∨ j = 2 := by simp at hj; omega
      rcases hj' with rfl | rfl | rfl
      · show fst 3 < i ↔ 0 < 1
        omega
      · show fst (5 + 2 * A) < i ↔ 1 < 1
        omega
      · show fst (2 * i) < i ↔ 2 < 1
        omega
  · have eb : begunK i = [2 * i] := by unfold begunK; rw [if_neg (by omega), if_neg e136, if_neg (fun h => em h.2)]
    have eg : goneK i = 2 := by unfold goneK; rw [if_neg (by omega), if_neg h136, if_neg e136, if_neg em]
    rw [ew, eb, eg]
    refine ⟨by simp, by simp, fun j hj => ?_, fun j hj => ?_⟩
    · obtain rfl : j = 0 := by simp at hj; omega
      rfl
    · have hj' : j = 0 ∨ j = 1 ∨ j = 2 := by simp at hj; omega
      rcases hj' with rfl | rfl | rfl
      · show fst 3 < i ↔ 0 < 2
        omega
      · show fst (5 + 2 * A) < i ↔ 1 < 2
        omega
      · show fst (2 * i) < i ↔ 2 < 2
        omega
set_option maxHeartbeats 1600000 in
theorem begun_any (q nb i : Nat) (w : World) (hi : i < 16520) :
    Calls Tryz.prog 51 #[tI q, .pointer (some ⟨nb, 0, none⟩), .int .i64 (i : Int)] w fun e w' => ∃ (b cp : Nat) (l : Nat → Sp) (cur : Array Value), e = .returned (.slice (some ⟨b, 0, none⟩) (begunK i).length cp) ∧ (begunK i).length ≤ cp ∧ w.heap.size ≤ b ∧ SpR w' b cur ∧ Chg (fun _ => False) w w' ∧
      ∀ j, j < (begunK i).length → SpEl cur j (l j) ∧ SpFor w' (Bet w.heap.size b) nb q ((begunK i).getD j 0) (l j) := by
  obtain ⟨hg1, hg2, hg3, hg4⟩ := begunK_way i
  have hwl := wayK_len i
  have hmf : ∀ (fn : Fn) (first cap : Array Value) (w : World), (Instr.makeFunc fn first cap).run Tryz.prog w = .ok (.func fn first cap) w := fun _ _ _ _ => rfl
  have hbx : (w.alloc (.cells #[.int .i64 (i : Int)] 3)).cell? ⟨w.heap.size, 0, none⟩ = some (.int .i64 (i : Int)) := by rw [World.cell?_alloc_at _ _ _ _ rfl]; rfl
  have WY : Hid (Calls Tryz.prog 83 #[tI q, .pointer (some ⟨nb, 0, none⟩), .int .i64 (i : Int)] (w.alloc (.cells #[.int .i64 (i : Int)] 3)) fun e w1 => ∃ b m, e = .returned (.slice (some ⟨b, 0, none⟩) m m) ∧
      Hid (Calls Tryz.prog 82 #[.slice (some ⟨b, 0, none⟩) m m, bgC w.heap.size] w1 fun e w' => ∃ v, e = .returned v ∧ Hid (∃ (cp : Nat) (l : Nat → Sp) (cur : Array Value), v = .slice (some ⟨b, 0, none⟩) (begunK i).length cp ∧ (begunK i).length ≤ cp ∧ w.heap.size ≤ b ∧ SpR w' b cur ∧ Chg (fun _ => False) w w' ∧
      ∀ j, j < (begunK i).length → SpEl cur j (l j) ∧ SpFor w' (Bet w.heap.size b) nb q ((begunK i).getD j 0) (l j)))) := by
    refine (way_any q nb i _ hi).mono ?_
    rintro e w1 ⟨b, l, cur, rfl, h1, h2, h3, h4, h5⟩
    refine ⟨b, _, rfl, ?_⟩
    have hc1 : Chg (fun _ => False) w w1 := (Chg.alloc (fun _ => False) w _).trans h4 (fun _ _ h => h)
    have hib := h4.cell hbx (fun h => h)
    have hsz : (w.alloc (.cells #[.int .i64 (i : Int)] 3)).heap.size = w.heap.size + 1 := by simp
    rw [hsz] at h1 h5
    have hfi : ∀ j, j < (wayK i).length → ((l j).fi < (i : Int) ↔ j < goneK i) := fun j hj => by
      rw [(h5 j hj).2.fi, ← hg4 j hj]; omega
    have hwide : ∀ k, Bet (w.heap.size + 1) b k → Bet w.heap.size b k := fun k hk => ⟨by have := hk.1; omega, hk.2⟩
    by_cases h0 : goneK i = 0
    · refine (delete_none h2 (fun j hj => (h5 j hj).1) hib (fun j hj => by rw [hfi j hj]; omega) hwl.1 (Nat.le_refl _)).mono ?_
      rintro e w' ⟨rfl, hc'⟩
      refine ⟨_, rfl, _, l, cur, by rw [hg2, h0]; rfl, by rw [hg2]; omega, by omega, h2.kept hc' (fun h => h), hc1.trans hc' (fun _ _ h => h), fun j hj => ?_⟩
      have hj' : j < (wayK i).length := by omega
      rw [← hg3 j hj, h0, Nat.zero_add]
      exact ⟨(h5 j hj').1, ((h5 j hj').2.wide hwide).kept hc' (fun _ _ h => h)⟩
    · refine (delete_some (d := goneK i) h2 (fun j hj => (h5 j hj).1) h3 hib (by omega) hfi (by omega) hg1 hwl.1 (Nat.le_refl _) (fun j hj => (h5 j hj).2.cl.one)).mono ?_
      rintro e w' ⟨cur', rfl, hc', h6, h7⟩
      have hcw : Chg (fun _ => False) w w' := hc1.trans hc' (fun k hk e => by omega)
      refine ⟨_, rfl, _, fun j => l (goneK i + j), cur', by rw [hg2], by rw [hg2]; omega, by omega, h6, hcw, fun j hj => ?_⟩
      have hj' : goneK i + j < (wayK i).length := by omega
      rw [← hg3 j hj]
      exact ⟨h7 j (by omega), ((h5 _ hj').2.wide hwide).kept hc' (fun k hk e => by have := hk.2; omega)⟩
  clear hg1 hg2 hg3 hg4 hwl
  go_enter Tryz.func51, Tryz.ntmps51
  go_wp2_with fail
  refine WY.out.mono ?_
  clear WY
  rintro e w1 ⟨b, m, rfl, DF⟩
  go_wp2_with fail
  refine DF.out.mono ?_
  clear DF
  rintro e w2 ⟨v, rfl, HV⟩
  go_wp2
  go_ret
  obtain ⟨cp, l, cur, rfl, h⟩ := HV.out
  exact ⟨b, cp, l, cur, rfl, h⟩
end
end Go.Proofs.YtnnaemlipahamaaGreat

namespace Go.Proofs.YtnnaemlipahamaaGreat
open Go.RowKit Go.Maps

/-- The least number that is free. -/
def frN (n : Nat) (T : Nat → Bool) : Nat := ((List.range n).find? (fun j => !T j)).getD n
theorem frN_spec {n : Nat} {T : Nat → Bool} (h : cntT T n < n) : frN n T < n ∧ T (frN n T) = false ∧ ∀ j, j < frN n T → T j = true := by
  unfold frN
  cases hf : (List.range n).find? (fun j => !T j) with
  | none =>
    rw [List.find?_eq_none] at hf
    have : cntT T n = n := cntT_all (fun k hk => by have := hf k (List.mem_range.2 hk); simpa using this)
    omega
  | some a =>
    have h1 := List.mem_of_find?_eq_some hf
    have h2 := List.find?_some hf
    rw [List.mem_range] at h1
    refine ⟨h1, by simpa using h2, fun j hj => ?_⟩
    have hj : j < a := hj
    cases hT : T j with
    | true => rfl
    | false =>
      exfalso
      rw [List.find?_eq_some_iff_getElem] at hf
      obtain ⟨_, i, hi, he, hall⟩ := hf
      rw [List.getElem_range] at he
      have := hall j (by omega)
      rw [List.getElem_range, hT] at this
      simp at this
/-- One key more. -/
def stp (F n : Nat) (s : (Nat → Bool) × (Nat → Nat)) (k : Nat) : (Nat → Bool) × (Nat → Nat) := (upd s.1 (frN n s.1) true, upd s.2 k (F + frN n s.1))
def grw (F n : Nat) (s : (Nat → Bool) × (Nat → Nat)) (ks : List Nat) : (Nat → Bool) × (Nat → Nat) := ks.foldl (stp F n) s
theorem grw_nil (F n : Nat) (s : (Nat → Bool) × (Nat → Nat)) : grw F n s [] = s := rfl
theorem grw_app (F n : Nat) (s : (Nat → Bool) × (Nat → Nat)) (a b : List Nat) : grw F n s (a ++ b) = grw F n (grw F n s a) b := List.foldl_append ..
theorem grw_one (F n : Nat) (s : (Nat → Bool) × (Nat → Nat)) (k : Nat) : grw F n s [k] = stp F n s k := rfl
theorem take_step {ks : List Nat} {j : Nat} (h : j < ks.length) : ks.take (j + 1) = ks.take j ++ [ks.getD j 0] := by
  rw [List.take_succ_eq_append_getElem h]; simp [List.getD, h]
theorem grw_step {F n : Nat} {s : (Nat → Bool) × (Nat → Nat)} {ks : List Nat} {j : Nat} (h : j < ks.length) : grw F n s (ks.take (j + 1)) = stp F n (grw F n s (ks.take j)) (ks.getD j 0) := by
  rw [take_step h, grw_app, grw_one]
theorem grw_other (F n : Nat) : ∀ (ks : List Nat) (s : (Nat → Bool) × (Nat → Nat)) (k : Nat), k ∉ ks → (grw F n s ks).2 k = s.2 k
  | [], _, _, _ => rfl
  | a :: r, s, k, h => by
    rw [show a :: r = [a] ++ r from rfl, grw_app, grw_other F n r _ k (fun e => h (List.mem_cons_of_mem _ e))]
    exact upd_other _ _ (fun e => h (e ▸ List.mem_cons_self))
theorem grw_cnt (F n : Nat) : ∀ (ks : List Nat) (s : (Nat → Bool) × (Nat → Nat)), cntT s.1 n + ks.length ≤ n → cntT (grw F n s ks).1 n = cntT s.1 n + ks.length
  | [], _, _ => rfl
  | a :: r, s, h => by
    rw [List.length_cons] at h
    have hs := frN_spec (n := n) (T := s.1) (by omega)
    have e : cntT (stp F n s a).1 n = cntT s.1 n + 1 := cntT_set hs.2.1 hs.1
    rw [show a :: r = [a] ++ r from rfl, grw_app, grw_one, grw_cnt F n r _ (by omega), e, List.length_append]
    simp; omega
theorem grw_mono (F n : Nat) : ∀ (ks : List Nat) (s : (Nat → Bool) × (Nat → Nat)) (j : Nat), s.1 j = true → (grw F n s ks).1 j = true
  | [], _, _, h => h
  | a :: r, s, j, h => by
    rw [show a :: r = [a] ++ r from rfl, grw_app]
    refine grw_mono F n r _ j ?_
    show upd s.1 (frN n s.1) true j = true
    by_cases e : j = frN n s.1
    · rw [e, upd_same]
    · rw [upd_other _ _ e]; exact h

/-- Keys that may be added one behind the other. -/
structure KsOk (Lv : Nat → Prop) (ks : List Nat) : Prop where
  nodup : ks.Nodup
  new : ∀ k, k ∈ ks → ¬ Lv k
  par : ∀ j, j < ks.length → ¬ fld (ks.getD j 0) → Lv (par (ks.getD j 0)) ∨ par (ks.getD j 0) ∈ ks.take j
  idx : ∀ k, k ∈ ks → ¬ fld k → idx k < 128
theorem mem_getD {ks : List Nat} {j : Nat} (h : j < ks.length) : ks.getD j 0 ∈ ks := by simp [List.getD, h]
theorem getD_not_take {ks : List Nat} {j : Nat} (hn : ks.Nodup) (h : j < ks.length) : ks.getD j 0 ∉ ks.take j := by
  intro hm
  rw [List.mem_take_iff_getElem] at hm
  obtain ⟨i, hi, e⟩ := hm
  have h2 : ks.getD j 0 = ks[j] := by simp [List.getD, h]
  rw [h2] at e
  exact (List.pairwise_iff_getElem.1 hn) i j (by omega) h (by omega) e
theorem begunK_ok {i : Nat} (hi : i < 16520) : KsOk (live i) (begunK i) := by
  refine ⟨?_, fun k hk => begunK_new hk, fun j hj hf => ?_, fun k hk hf => ?_⟩
  · unfold begunK
    split
    · simp; omega
    · split
      · simp; omega
      · split
        · simp; omega
        · simp
  · unfold begunK at *
    split at hj
    · rename_i e
      simp only [if_pos e] at *
      have hj' : j = 0 ∨ j = 1 := by simp at hj; omega
      rcases hj' with rfl | rfl
      · exact absurd (.inl rfl) hf
      · right; subst e; decide
    · rename_i e8
      simp only [if_neg e8] at *
      split at hj
      · rename_i e
        simp only [if_pos e] at *
        have hj' : j = 0 ∨ j = 1 ∨ j = 2 := by simp at hj; omega
        rcases hj' with rfl | rfl | rfl
        · exact absurd (.inr (.inl rfl)) hf
        · right; subst e; decide
        · right; subst e; decide
      · rename_i e136
        simp only [if_neg e136] at *
        split at hj
        · rename_i e
          simp only [if_pos e] at *
          have hj' : j = 0 ∨ j = 1 := by simp at hj; omega
          rcases hj' with rfl | rfl
          · left
            show live i (par (5 + 2 * ((i - 136) / 128)))
            have : par (5 + 2 * ((i - 136) / 128)) = 3 := by unfold par; rw [if_pos (by omega)]
            rw [this]; unfold live; omega
          · right
            show par (2 * i) ∈ [5 + 2 * ((i - 136) / 128)]
            have : par (2 * i) = 5 + 2 * ((i - 136) / 128) := by unfold par; rw [if_neg (by omega), if_neg (by omega)]; omega
            rw [this]; simp
        · rename_i e
          simp only [if_neg e] at *
          obtain rfl : j = 0 := by simp at hj; omega
          left
          have hf' : ¬ fld (2 * i) := hf
          have h8 : 8 ≤ i := by unfold fld at hf'; omega
          show live i (par (2 * i))
          by_cases h136 : i < 136
          · have : par (2 * i) = 1 := by unfold par; rw [if_neg (by omega), if_pos (by omega)]
            rw [this]; unfold live; omega
          · have : par (2 * i) = 5 + 2 * ((i - 136) / 128) := by unfold par; rw [if_neg (by omega), if_neg (by omega)]; omega
            rw [this]; unfold live; omega
  · have : live (i + 1) k := (live_succ i k).2 (.inr hk)
    exact idx_lt this (by omega)

section
variable {c : Cx} {Lv : Nat → Prop} {V V1 : Nat → List Int} {nd : Nd} {B : Nat → Nat} {T : Nat → Bool} {k j : Nat}
theorem Fl.fresh (h : Fl c Lv V nd B T) (hj : T j = false) : ∀ l, Lv l → B l ≠ c.F + j := by
  intro l hl e
  have := (h.own l hl).2.2
  rw [e, Nat.add_sub_cancel_left, hj] at this
  cases this
/-- A key is added: the block that was free, the place set. -/
theorem Fl.step (h : Fl c Lv V nd B T) (ho : c.Ok) (hlen : ∀ n, n < c.K → (V n).length = 512) (hj : j < c.n) (hT : T j = false) (hk : ¬ Lv k) (hp : ¬ fld k → Lv (par k) ∧ Go.Proofs.YtnnaemlipahamaaGreat.idx k < 128)
    (h1 : ∀ m, (m < c.M ∨ c.M + mapsN c.n ≤ m) → V1 m = V m) :
    Fl c (fun l => Lv l ∨ l = k) (setV (upd V1 (c.F + j) (zeros 512)) B k ((c.F + j : Nat) : Int)) (setN nd k ((c.F + j : Nat) : Int)) (upd B k (c.F + j)) (upd T j true) := by
  have hfr := h.fresh hT
  have htop := ho.top
  have hoff := ho.off
  have hkk := ho.pr.top
  have hF := ho.pr.f
  have hv : ∀ l, Lv l → upd V1 (c.F + j) (zeros 512) (B l) = V (B l) := fun l hl => by
    have := h.own l hl
    rw [upd_other _ _ (hfr l hl), h1 _ (by omega)]
  have hb : ∀ l, Lv l → upd B k (c.F + j) l = B l := fun l hl => upd_other _ _ (fun e => hk (e ▸ hl))
  have own' : ∀ l, (Lv l ∨ l = k) → c.F ≤ upd B k (c.F + j) l ∧ upd B k (c.F + j) l < c.F + c.n ∧ upd T j true (upd B k (c.F + j) l - c.F) = true := by
    intro l hl
    rcases hl with hl | rfl
    · rw [hb l hl]
      have := h.own l hl
      refine ⟨this.1, this.2.1, ?_⟩
      by_cases e : B l - c.F = j
      · rw [e, upd_same]
      · rw [upd_other _ _ e]; exact this.2.2
    · rw [upd_same, Nat.add_sub_cancel_left, upd_same]
      exact ⟨by omega, by omega, rfl⟩
  have idx' : ∀ l, (Lv l ∨ l = k) → ¬ fld l → Go.Proofs.YtnnaemlipahamaaGreat.idx l < 128 := by
    intro l hl hf
    rcases hl with hl | rfl
    · exact h.idx l hl hf
    · exact (hp hf).2
  by_cases hf : fld k
  · unfold setV setN
    rw [if_pos hf, if_pos hf]
    exact ⟨(h.sh.congrV hv).addF hf hk hfr, own', idx'⟩
  · unfold setV setN
    rw [if_neg hf, if_neg hf]
    have hpl := (hp hf).1
    refine ⟨(h.sh.congrV hv).addE hf hk hpl hfr ?_ (hp hf).2 (by omega) ?_ ?_, own', idx'⟩
    · rw [hv _ hpl]; exact hlen _ (h.lt ho hpl)
    · rw [upd_same]
    · intro l hl hne
      rw [upd_other _ _ (fun e => hne (h.sh.inj _ _ hl hpl e))]
/-- .. and which blocks are as they were. -/
theorem step_frame (h : Fl c Lv V nd B T) (ho : c.Ok) (hT : T j = false) (hp : ¬ fld k → Lv (par k)) (h1 : ∀ m, (m < c.M ∨ c.M + mapsN c.n ≤ m) → V1 m = V m) (x : Int) :
    (∀ m, c.F ≤ m → m < c.F + c.n → T (m - c.F) = true → (∀ l, l % 2 = 1 → Lv l → B l ≠ m) → setV (upd V1 (c.F + j) (zeros 512)) B k x m = V m) ∧ setV (upd V1 (c.F + j) (zeros 512)) B k x (c.F + j) = zeros 512 := by
  have hoff := ho.off
  have hpo : ¬ fld k → par k % 2 = 1 := fun hf => by
    unfold fld at hf; unfold par
    split
    · omega
    · split <;> omega
  refine ⟨fun m m1 m2 m3 m4 => ?_, ?_⟩
  · have hne : m ≠ c.F + j := fun e => by rw [e, Nat.add_sub_cancel_left, hT] at m3; cases m3
    unfold setV
    split
    · rw [upd_other _ _ hne, h1 _ (by omega)]
    · rename_i hf
      rw [upd_other _ _ (fun e => m4 _ (hpo hf) (hp hf) e.symm), upd_other _ _ hne, h1 _ (by omega)]
  · unfold setV
    split
    · rw [upd_same]
    · rename_i hf
      rw [upd_other _ _ (fun e => h.fresh hT _ (hp hf) e.symm), upd_same]
end
end Go.Proofs.YtnnaemlipahamaaGreat
