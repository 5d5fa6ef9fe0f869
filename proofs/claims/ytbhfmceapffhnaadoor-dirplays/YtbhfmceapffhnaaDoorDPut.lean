/-
  Put, Take, Move of package dir.
-/
import Derived.Test.YtbhfmceapffhnaaDoorDFind
namespace Go.Proofs.YtbhfmceapffhnaaDoor
open Go.RowKit

/-- How many bytes n slots have. -/
def sizeS (n : Nat) : Nat := (n + 7) / 8 * 512
theorem infoE : (Tryd.prog.info? 57).map (fun i => (i.zero, i.size, i.bytes)) = some (some (.agg #[.string ⟨#[]⟩, .int .i64 0]), 2, 24) := by kernel_rfl

set_option maxHeartbeats 800000 in
theorem size_any (v : Value) (es : List En) (w : World) (hv : Es w v es) (hl : es.length ≤ 1099511627776) :
    Calls Tryd.prog 38 #[v] w fun e w' => e = .returned (.int .i64 (sizeS es.length : Nat)) ∧ w' = w := by
  obtain ⟨a, c, rfl⟩ := hv.form
  obtain ⟨n, hn⟩ : ∃ n, Hid (es.length = n) := ⟨_, rfl⟩
  rw [hn.out] at hl ⊢
  clear hv hn
  go_enter Tryd.func38, Tryd.ntmps38
  go_wp2_with fail
  go_ret
  refine ⟨?_, rfl⟩
  have e : (((n : Int) + 8 - 1) / 8 * 512) = (sizeS n : Nat) := by unfold sizeS; omega
  rw [← e]
  rfl

set_option maxHeartbeats 800000 in
theorem fits_any (x : Int) (b : Bool) (w : World) (hb : Hid (decide (1 ≤ x ∧ x ≤ 65535) = b)) :
    Calls Tryd.prog 34 #[.int .i64 x] w fun e w' => e = .returned (.bool b) ∧ w' = w := by
  cases b with
  | true =>
    have h := of_decide_eq_true hb.out
    have h1 := h.1
    have h2 := h.2
    go_enter Tryd.func34, Tryd.ntmps34
    go_wp2_with fail
    go_ret
    exact ⟨rfl, rfl⟩
  | false =>
    have h := of_decide_eq_false hb.out
    go_enter Tryd.func34, Tryd.ntmps34
    by_cases h1 : 1 ≤ x
    · have h2 : ¬ x ≤ 65535 := fun e => h ⟨h1, e⟩
      clear h
      go_wp2_with fail
      go_ret
      exact ⟨rfl, rfl⟩
    · clear h
      go_wp2_with fail
      go_ret
      exact ⟨rfl, rfl⟩

theorem nil_is (w : World) : (binOp BinOp.eql 26 (.slice none 0 0) (.slice none 0 0)).run Tryd.prog w = .ok (.bool true) w := by kernel_rfl
theorem nil_not (a : Addr) (n c : Nat) (w : World) : (binOp BinOp.eql 26 (.slice (some a) n c) (.slice none 0 0)).run Tryd.prog w = .ok (.bool false) w := by kernel_rfl
set_option maxHeartbeats 800000 in
set_option maxRecDepth 100000 in
/-- slices.Clone: a row of its own. -/
theorem clone_any (v : Value) (es : List En) (w : World) (hv : Es w v es) (hl : es.length ≤ 1099511627776) :
    Calls Tryd.prog 36 #[v] w fun e w' => ∃ u, e = .returned u ∧ w'.ownsRow w.heap.size 57 2 u es.length (ecells es) ∧ Below w.heap.size w w' := by
  obtain ⟨i0, hi, hz0, hz1, hz2⟩ := info_parts infoE
  obtain ⟨a, c, rfl, h1, h2, h3, hx⟩ := hv
  have hv : Es w (.slice a es.length c) es := ⟨a, c, rfl, h1, h2, h3, hx⟩
  go_enter Tryd.func36, Tryd.ntmps36
  cases a with
  | none =>
    obtain rfl := h3 rfl
    have e0 : es = [] := List.eq_nil_of_length_eq_zero (by omega)
    subst e0
    clear hx h3 hv h1 h2 hl
    simp only [List.length_nil]
    have hE := nil_is
    go_wp2_with fail
    go_ret
    exact ⟨_, rfl, World.ownsRow_nil _ _ _ _, Below.refl _ _⟩
  | some a =>
    clear hx h3
    have B0 : Below w.heap.size w (w.alloc (.cells #[] 57)) := (Below.refl _ _).alloc (Nat.le_refl _) _
    have hv0 := hv.below B0
    have ho := lit_own2 w w.heap.size 57 (Nat.le_refl _)
    have hN0 := B0.size
    clear h1 h2
    have hE := fun w => nil_not a es.length c w
    go_wp2_with (at_builtin; go_must (refine wpList_app2 rfl _ (.tmp 6) 26 rfl w.heap.size 57 i0 Tryd.underlying26 hi hz0 hz1 hz2 _ _ 0 [] _ rfl ho rfl hv0 ?c1 ?c2 ?next))
    case c1 => simpa using hl
    case c2 => exact hN0
    case next =>
      intro u w1 hown hB
      have H1 : w1.ownsRow w.heap.size 57 2 u es.length (ecells es) := by simpa using hown
      have H2 := B0.trans hB
      clear hown hB
      go_wp2
      go_ret
      exact ⟨u, rfl, H1, H2⟩

/-- What Put answers: an error's number. -/
def putE (_es : List En) (nm : ByteArray) (ino r : Int) : Int := if nameB nm = false then 12 else if ¬ (1 ≤ ino ∧ ino ≤ 65535) then 1 else if 0 ≤ r then 9 else 0
/-- The slots behind a Put into the slot f (-1: behind all). -/
def putL (es : List En) (nm : ByteArray) (ino f : Int) : List En := if f < 0 then es ++ [⟨nm, ino⟩] else es.set f.toNat ⟨nm, ino⟩

set_option maxHeartbeats 1600000 in
theorem put_name (v : Value) (nm : ByteArray) (ino : Int) (w : World) (hn : Hid (nameB nm = false)) :
    Calls Tryd.prog 10 #[v, .string nm, .int .i64 ino] w fun e w' => e = .returned (.tuple #[.slice none 0 0, .int .i64 0, .int .i64 12]) ∧ w' = w := by
  go_enter Tryd.func10, Tryd.ntmps10
  go_wp2_with fail
  refine (name_any nm false _ hn).mono ?_
  rintro e w1 ⟨rfl, rfl⟩
  go_wp2_with fail
  go_ret3
  exact ⟨rfl, rfl⟩
set_option maxHeartbeats 1600000 in
theorem put_arg (v : Value) (nm : ByteArray) (ino : Int) (w : World) (hn : Hid (nameB nm = true)) (hi : Hid (decide (1 ≤ ino ∧ ino ≤ 65535) = false)) :
    Calls Tryd.prog 10 #[v, .string nm, .int .i64 ino] w fun e w' => e = .returned (.tuple #[.slice none 0 0, .int .i64 0, .int .i64 1]) ∧ w' = w := by
  go_enter Tryd.func10, Tryd.ntmps10
  go_wp2_with fail
  refine (name_any nm true _ hn).mono ?_
  rintro e w1 ⟨rfl, rfl⟩
  go_wp2_with fail
  refine (fits_any ino false _ hi).mono ?_
  rintro e w1 ⟨rfl, rfl⟩
  go_wp2_with fail
  go_ret3
  exact ⟨rfl, rfl⟩
set_option maxHeartbeats 1600000 in
theorem put_is (v : Value) (es : List En) (nm : ByteArray) (ino : Int) (r : Int) (w : World) (hv : Es w v es) (hl : es.length ≤ 1099511627776) (hn : Hid (nameB nm = true)) (hi : Hid (decide (1 ≤ ino ∧ ino ≤ 65535) = true)) (hr : Hid (IdxN es nm r)) (h0 : 0 ≤ r) :
    Calls Tryd.prog 10 #[v, .string nm, .int .i64 ino] w fun e w' => e = .returned (.tuple #[.slice none 0 0, .int .i64 0, .int .i64 9]) ∧ Below w.heap.size w w' := by
  go_enter Tryd.func10, Tryd.ntmps10
  go_wp2_with fail
  refine (name_any nm true _ hn).mono ?_
  rintro e w1 ⟨rfl, rfl⟩
  go_wp2_with fail
  refine (fits_any ino true _ hi).mono ?_
  rintro e w1 ⟨rfl, rfl⟩
  go_wp2_with fail
  refine (named_any v es nm _ hv hl).mono ?_
  rintro e w2 ⟨r', rfl, hr', B⟩
  obtain rfl := hr'.out.unique hr.out
  go_wp2_with fail
  go_ret3
  exact ⟨rfl, B⟩
set_option maxHeartbeats 1600000 in
/-- Put into a free slot. -/
theorem put_free (v : Value) (es : List En) (nm : ByteArray) (ino : Int) (f : Nat) (w : World) (hv : Es w v es) (hl : es.length ≤ 1099511627775) (hn : Hid (nameB nm = true)) (hi : Hid (decide (1 ≤ ino ∧ ino ≤ 65535) = true)) (hr : Hid (IdxN es nm (-1))) (hf : Hid (Idx es ⟨#[]⟩ (f : Int))) :
    Calls Tryd.prog 10 #[v, .string nm, .int .i64 ino] w fun e w' => ∃ u, e = .returned (.tuple #[u, .int .i64 0, .int .i64 0]) ∧ Es w' u (es.set f ⟨nm, ino⟩) ∧ Below w.heap.size w w' := by
  have hfl : f < es.length := by
    rcases hf.out with ⟨h, _⟩ | ⟨k, h, h2, _⟩
    · omega
    · omega
  go_enter Tryd.func10, Tryd.ntmps10
  go_wp2_with fail
  refine (name_any nm true _ hn).mono ?_
  rintro e w1 ⟨rfl, rfl⟩
  go_wp2_with fail
  refine (fits_any ino true _ hi).mono ?_
  rintro e w1 ⟨rfl, rfl⟩
  go_wp2_with fail
  refine (named_any v es nm _ hv (by omega)).mono ?_
  rintro e w2 ⟨r', rfl, hr', B2⟩
  obtain rfl := hr'.out.unique hr.out
  have hv2 := hv.below B2
  go_wp2_with fail
  refine (clone_any v es _ hv2 (by omega)).mono ?_
  rintro e w3 ⟨u, rfl, ho, B3⟩
  have Bn3 := B2.trans (B3.mono B2.size)
  have e3 := Es.ofOwns ho
  go_wp2_with fail
  refine (first_any u es ⟨#[]⟩ _ e3 (by omega)).mono ?_
  rintro e w4 ⟨r4, rfl, hr4, B4⟩
  obtain rfl := hr4.out.unique hf.out
  have hN := B2.size
  have ho4 : w4.ownsRow w1.heap.size 57 2 u es.length (ecells es) := by
    refine ⟨ho.1, ?_⟩
    rcases ho.2 with h | ⟨g, cap, cur, h1, h2, h3, h4⟩
    · exact .inl h
    · exact .inr ⟨g, cap, cur, h1, by omega, by rw [B4.block g (lt_of_block h3)]; exact h3, h4⟩
  have Bn4 := Bn3.trans (B4.mono Bn3.size)
  have hv4 := hv.below Bn4
  obtain ⟨g, cap, rfl⟩ : ∃ g cap, u = .slice (some ⟨g, 0, none⟩) es.length cap := by
    rcases ho.2 with ⟨_, h⟩ | ⟨g, cap, cur, h1, _⟩
    · omega
    · exact ⟨g, cap, h1⟩
  clear ho B2 B3 B4 hr' hr4 hv2 e3 hN
  obtain ⟨hs, hg⟩ := own_set2 ho4 hfl ⟨nm, ino⟩
  have e4 := Es.ofOwns ho4
  obtain ⟨b', off', eb, hcs⟩ := e4.nth hfl
  injection eb with eb
  injection eb with eb1 eb2
  subst eb1; subst eb2
  obtain ⟨c1, c2⟩ := hcs f hfl
  simp only [Nat.zero_add] at c1 c2
  have fz : ∀ j, w4.frozen? ⟨g, j, none⟩ = false := by
    intro j
    rcases ho4.2 with ⟨h, _⟩ | ⟨g', cap', cur, h1, h2, h3, h4⟩
    · cases h
    · injection h1 with h1
      injection h1 with h1
      injection h1 with h1
      subst h1
      simp [World.frozen?, h3]
  have f1 := fz (f * 2)
  have f2 := fz (f * 2 + 1)
  clear fz hcs ho4
  have g1 : ¬ ((f : Int) < 0) := by omega
  have g2 : (f : Int) < es.length := by omega
  go_wp2_with fail
  generalize hw5 : (w4.setCell ⟨g, f * 2, none⟩ (.string nm)).setCell ⟨g, f * 2 + 1, none⟩ (.int .i64 ino) = w5 at *
  have Bn5 : Below w1.heap.size w1 w5 := by
    rw [← hw5]
    exact (Bn4.trans ((Chg.setCell (S := fun k => k = g) w4 ⟨g, f * 2, none⟩ _ rfl).below Bn4.size (fun k hk => hk ▸ hg))).trans ((Chg.setCell (S := fun k => k = g) _ ⟨g, f * 2 + 1, none⟩ _ rfl).below (by rw [World.size_setCell]; exact Bn4.size) (fun k hk => hk ▸ hg))
  have hv5 := hv.below Bn5
  have e5 := Es.ofOwns hs
  have z : sizeS (es.set f ⟨nm, ino⟩).length = sizeS es.length := by rw [List.length_set]
  clear hw5 c1 c2 f1 f2 e4 hv4 Bn4 Bn3 hs
  refine (size_any _ _ _ e5 (by rw [List.length_set]; omega)).mono ?_
  rintro e w6 ⟨rfl, rfl⟩
  rw [z]
  obtain ⟨Z, hZ, hZ1⟩ : ∃ Z, Hid (sizeS es.length = Z) ∧ Z ≤ 1099511627776 * 64 := ⟨_, rfl, by unfold sizeS; omega⟩
  rw [hZ.out]
  go_wp2_with fail
  refine (size_any _ _ _ hv5 (by omega)).mono ?_
  rintro e w6 ⟨rfl, rfl⟩
  rw [hZ.out]
  clear z
  go_wp2_with fail
  go_ret3
  refine ⟨_, rfl, ?_, Bn5⟩
  exact e5

/-- What is owned stays, where nothing below is changed. -/
theorem own_kept {w w' : World} {N N' T n : Nat} {u : Value} {xs : List Value} (h : w.ownsRow N T 2 u n xs) (hb : Below w.heap.size w w') (hN : N' ≤ N) : w'.ownsRow N' T 2 u n xs := by
  refine ⟨h.1, ?_⟩
  rcases h.2 with h | ⟨g, cap, cur, h1, h2, h3, h4⟩
  · exact .inl h
  · exact .inr ⟨g, cap, cur, h1, by omega, by rw [hb.block g (lt_of_block h3)]; exact h3, h4⟩
/-- Where it lies, and that it may be written. -/
theorem own_place {w : World} {N T n : Nat} {u : Value} {es : List En} (h : w.ownsRow N T 2 u n (ecells es)) {f : Nat} (hf : f < es.length) :
    ∃ g cap, u = .slice (some ⟨g, 0, none⟩) es.length cap ∧ N ≤ g ∧ g < w.heap.size ∧ w.cell? ⟨g, f * 2, none⟩ = some (.string (es.getD f En.fr).nm) ∧ w.cell? ⟨g, f * 2 + 1, none⟩ = some (.int .i64 (es.getD f En.fr).ino) ∧ w.frozen? ⟨g, f * 2, none⟩ = false ∧ w.frozen? ⟨g, f * 2 + 1, none⟩ = false := by
  have hn : es.length = n := by have := h.1; rw [ecells_len] at this; omega
  subst hn
  have he := Es.ofOwns h
  rcases h.2 with ⟨_, h0⟩ | ⟨g, cap, cur, rfl, h2, h3, h4⟩
  · omega
  · obtain ⟨b', off', eb, hcs⟩ := he.nth hf
    injection eb with eb
    injection eb with eb1 eb2
    subst eb1; subst eb2
    obtain ⟨c1, c2⟩ := hcs f hf
    simp only [Nat.zero_add] at c1 c2
    exact ⟨g, cap, rfl, h2, lt_of_block h3, c1, c2, by simp [World.frozen?, h3], by simp [World.frozen?, h3]⟩
theorem below_two {w w1 : World} {N g i j : Nat} {a b : Value} (B : Below N w w1) (hN : N ≤ w1.heap.size) (hg : N ≤ g) : Below N w ((w1.setCell ⟨g, i, none⟩ a).setCell ⟨g, j, none⟩ b) :=
  (B.trans ((Chg.setCell (S := fun k => k = g) w1 ⟨g, i, none⟩ a rfl).below hN (fun k hk => hk ▸ hg))).trans ((Chg.setCell (S := fun k => k = g) _ ⟨g, j, none⟩ b rfl).below (by rw [World.size_setCell]; exact hN) (fun k hk => hk ▸ hg))

set_option maxHeartbeats 1600000 in
set_option maxRecDepth 100000 in
/-- Put behind all. -/
theorem put_more (v : Value) (es : List En) (nm : ByteArray) (ino : Int) (w : World) (hv : Es w v es) (hl : es.length ≤ 1000000000) (hn : Hid (nameB nm = true)) (hi : Hid (decide (1 ≤ ino ∧ ino ≤ 65535) = true)) (hr : Hid (IdxN es nm (-1))) (hf : Hid (Idx es ⟨#[]⟩ (-1))) :
    Calls Tryd.prog 10 #[v, .string nm, .int .i64 ino] w fun e w' => ∃ u, e = .returned (.tuple #[u, .int .i64 ((sizeS (es.length + 1) - sizeS es.length : Nat) : Int), .int .i64 0]) ∧ Es w' u (es ++ [⟨nm, ino⟩]) ∧ Below w.heap.size w w' := by
  obtain ⟨i0, hi0, hz0, hz1, hz2⟩ := info_parts infoE
  go_enter Tryd.func10, Tryd.ntmps10
  go_wp2_with fail
  refine (name_any nm true _ hn).mono ?_
  rintro e w1 ⟨rfl, rfl⟩
  go_wp2_with fail
  refine (fits_any ino true _ hi).mono ?_
  rintro e w1 ⟨rfl, rfl⟩
  go_wp2_with fail
  refine (named_any v es nm _ hv (by omega)).mono ?_
  rintro e w2 ⟨r', rfl, hr', B2⟩
  obtain rfl := hr'.out.unique hr.out
  have hv2 := hv.below B2
  go_wp2_with fail
  refine (clone_any v es _ hv2 (by omega)).mono ?_
  rintro e w3 ⟨u, rfl, ho, B3⟩
  have Bn3 := B2.trans (B3.mono B2.size)
  have e3 := Es.ofOwns ho
  go_wp2_with fail
  refine (first_any u es ⟨#[]⟩ _ e3 (by omega)).mono ?_
  rintro e w4 ⟨r4, rfl, hr4, B4⟩
  obtain rfl := hr4.out.unique hf.out
  have ho4 := own_kept ho B4 B2.size
  have Bn4 := Bn3.trans (B4.mono Bn3.size)
  obtain ⟨ua, uc, rfl⟩ := (Es.ofOwns ho4).form
  clear ho B2 B3 B4 hr' hr4 hv2 e3 Bn3
  have ho5 := ho4.alloc (.cells #[.string ⟨#[]⟩, .int .i64 0] 57)
  have x5 := Es.one w4 En.fr 57 (0, 0)
  have Bn5 := Bn4.alloc Bn4.size (.cells #[.string ⟨#[]⟩, .int .i64 0] 57)
  have hN5 := Bn5.size
  go_wp2_with (at_builtin; go_must (refine wpList_app2 rfl _ (.tmp 34) 26 rfl w1.heap.size 57 i0 Tryd.underlying26 hi0 hz0 hz1 hz2 _ _ es.length es [En.fr] rfl ho5 rfl x5 ?c1 ?c2 ?next))
  case c1 => simp; omega
  case c2 => exact hN5
  case next =>
    intro u w6 ho6 hB
    have Bn6 := Bn5.trans hB
    clear ho5 ho4 x5 Bn5 Bn4 hN5 hB
    have hl6 : (es ++ [En.fr]).length = es.length + 1 := by simp
    obtain ⟨g, cap, rfl, hg, hg2, c1, c2, f1, f2⟩ := own_place (f := es.length) ho6 (by omega)
    rw [hl6] at ho6 ⊢
    have hs := (own_set2 ho6 (k := es.length) (by omega) ⟨nm, ino⟩).1
    have he : (es ++ [En.fr]).set es.length ⟨nm, ino⟩ = es ++ [⟨nm, ino⟩] := by simp
    rw [he] at hs
    clear ho6 he hl6
    obtain ⟨x, hx⟩ : ∃ x, Hid ((es ++ [En.fr]).getD es.length En.fr = x) := ⟨_, rfl⟩
    rw [hx.out] at c1 c2
    go_wp2_with fail
    have Bn7 := below_two (i := es.length * 2) (j := es.length * 2 + 1) (a := .string nm) (b := .int .i64 ino) Bn6 Bn6.size hg
    generalize (w6.setCell ⟨g, es.length * 2, none⟩ (.string nm)).setCell ⟨g, es.length * 2 + 1, none⟩ (.int .i64 ino) = w7 at *
    have hv7 := hv.below Bn7
    have e7 := Es.ofOwns hs
    have z : (es ++ [(⟨nm, ino⟩ : En)]).length = es.length + 1 := by simp
    clear c1 c2 f1 f2 Bn6 hs hg2 hx
    refine (size_any _ _ _ e7 (by rw [z]; omega)).mono ?_
    rintro e w8 ⟨rfl, rfl⟩
    rw [z]
    obtain ⟨Z, hZ, hZ1⟩ : ∃ Z, Hid (sizeS es.length = Z) ∧ Z ≤ 1000000000000 := ⟨_, rfl, by unfold sizeS; omega⟩
    obtain ⟨Y, hY, hY1, hY2⟩ : ∃ Y, Hid (sizeS (es.length + 1) = Y) ∧ Y ≤ 1000000000000 ∧ Z ≤ Y := ⟨_, rfl, by unfold sizeS; omega, by rw [← hZ.out]; unfold sizeS; omega⟩
    rw [hY.out]
    clear z
    go_wp2_with fail
    refine (size_any _ _ _ hv7 (by omega)).mono ?_
    rintro e w9 ⟨rfl, rfl⟩
    rw [hZ.out]
    go_wp2_with fail
    go_ret3
    refine ⟨_, ?_, e7, Bn7⟩
    rw [hY.out, hZ.out]
    have e9 : ((Y - Z : Nat) : Int) = (Y : Int) - Z := by omega
    rw [e9]
    rfl

set_option maxHeartbeats 1600000 in
theorem take_none (v : Value) (es : List En) (nm : ByteArray) (w : World) (hv : Es w v es) (hl : es.length ≤ 1000000000) (hr : Hid (IdxN es nm (-1))) :
    Calls Tryd.prog 12 #[v, .string nm] w fun e w' => e = .returned (.tuple #[.slice none 0 0, .int .i64 0, .int .i64 8]) ∧ Below w.heap.size w w' := by
  go_enter Tryd.func12, Tryd.ntmps12
  go_wp2_with fail
  refine (named_any v es nm _ hv (by omega)).mono ?_
  rintro e w2 ⟨r', rfl, hr', B2⟩
  obtain rfl := hr'.out.unique hr.out
  go_wp2_with fail
  go_ret3
  exact ⟨rfl, B2⟩
theorem IdxN.lt {es : List En} {nm : ByteArray} {k : Nat} (h : IdxN es nm (k : Int)) : k < es.length := by
  rcases h.cases with h | ⟨j, h, h2, _⟩ <;> omega
set_option maxHeartbeats 1600000 in
theorem take_ok (v : Value) (es : List En) (nm : ByteArray) (k : Nat) (w : World) (hv : Es w v es) (hl : es.length ≤ 1000000000) (hr : Hid (IdxN es nm (k : Int))) :
    Calls Tryd.prog 12 #[v, .string nm] w fun e w' => ∃ u, e = .returned (.tuple #[u, .int .i64 (En.at es k).ino, .int .i64 0]) ∧ Es w' u (es.set k En.fr) ∧ Below w.heap.size w w' := by
  have hk := hr.out.lt
  go_enter Tryd.func12, Tryd.ntmps12
  go_wp2_with fail
  refine (named_any v es nm _ hv (by omega)).mono ?_
  rintro e w2 ⟨r', rfl, hr', B2⟩
  obtain rfl := hr'.out.unique hr.out
  have hv2 := hv.below B2
  have g1 : ¬ ((k : Int) < 0) := by omega
  have g2 : (k : Int) < es.length := by omega
  go_wp2_with fail
  refine (clone_any v es _ hv2 (by omega)).mono ?_
  rintro e w3 ⟨u, rfl, ho, B3⟩
  have Bn3 := B2.trans (B3.mono B2.size)
  obtain ⟨g, cap, rfl, hg, hg2, c1, c2, f1, f2⟩ := own_place (f := k) ho hk
  have hs := (own_set2 ho hk En.fr).1
  have hg' : w.heap.size ≤ g := Nat.le_trans B2.size hg
  have Bn4 := below_two (i := k * 2) (j := k * 2 + 1) (a := .string En.fr.nm) (b := .int .i64 En.fr.ino) Bn3 Bn3.size hg'
  obtain ⟨a, c, rfl⟩ := hv.form
  have hv4 := hv.below Bn4
  obtain ⟨b, off, rfl, hc⟩ := hv4.nth hk
  obtain ⟨d1, d2⟩ := hc k hk
  obtain ⟨x, hx⟩ : ∃ x, Hid (es.getD k En.fr = x) := ⟨_, rfl⟩
  rw [hx.out] at c1 c2 d1 d2
  have HX : Hid ((En.at es k).ino = x.ino) := by rw [Hid, En.at, hx.out]
  have H5 : Hid (∀ w5, (w3.setCell ⟨g, k * 2, none⟩ (.string ⟨#[]⟩)).setCell ⟨g, k * 2 + 1, none⟩ (.int .i64 0) = w5 → w5.cell? ⟨b, off + k * 2 + 1, none⟩ = some (.int .i64 x.ino) ∧ Es w5 (.slice (some ⟨g, 0, none⟩) es.length cap) (es.set k En.fr) ∧ Below w.heap.size w w5) := by
    rintro w5 rfl
    refine ⟨d2, ?_, Bn4⟩
    exact Es.ofOwns hs
  clear ho B2 B3 hr' hv2 Bn3 hs Bn4 hc d1 d2 hv4
  go_wp2_with fail
  generalize hw5 : (w3.setCell ⟨g, k * 2, none⟩ (.string ⟨#[]⟩)).setCell ⟨g, k * 2 + 1, none⟩ (.int .i64 0) = w5 at *
  obtain ⟨d2, e5, B5⟩ := H5.out w5 rfl
  clear hw5 H5 c1 c2 f1 f2
  go_quiet (fail)
  go_wp2_with fail
  go_ret3
  refine ⟨_, ?_, e5, B5.trans ((Chg.drewN (fun _ => False) w5 _).below B5.size (fun _ h => h.elim))⟩
  rw [HX.out]
  rfl

/-- The slot k has another name. -/
def mvL (es : List En) (k : Nat) (nm : ByteArray) : List En := es.set k ⟨nm, (En.at es k).ino⟩
set_option maxHeartbeats 1600000 in
theorem move_none (v : Value) (es : List En) (old nm : ByteArray) (w : World) (hv : Es w v es) (hl : es.length ≤ 1000000000) (hr : Hid (IdxN es old (-1))) :
    Calls Tryd.prog 14 #[v, .string old, .string nm] w fun e w' => e = .returned (.tuple #[.slice none 0 0, .int .i64 8]) ∧ Below w.heap.size w w' := by
  go_enter Tryd.func14, Tryd.ntmps14
  go_wp2_with fail
  refine (named_any v es old _ hv (by omega)).mono ?_
  rintro e w2 ⟨r', rfl, hr', B2⟩
  obtain rfl := hr'.out.unique hr.out
  go_wp2_with fail
  go_ret2
  exact ⟨rfl, B2⟩
set_option maxHeartbeats 1600000 in
theorem move_name (v : Value) (es : List En) (old nm : ByteArray) (k : Nat) (w : World) (hv : Es w v es) (hl : es.length ≤ 1000000000) (hr : Hid (IdxN es old (k : Int))) (hn : Hid (nameB nm = false)) :
    Calls Tryd.prog 14 #[v, .string old, .string nm] w fun e w' => e = .returned (.tuple #[.slice none 0 0, .int .i64 12]) ∧ Below w.heap.size w w' := by
  go_enter Tryd.func14, Tryd.ntmps14
  go_wp2_with fail
  refine (named_any v es old _ hv (by omega)).mono ?_
  rintro e w2 ⟨r', rfl, hr', B2⟩
  obtain rfl := hr'.out.unique hr.out
  have g1 : ¬ ((k : Int) < 0) := by omega
  go_wp2_with fail
  refine (name_any nm false _ hn).mono ?_
  rintro e w3 ⟨rfl, rfl⟩
  go_wp2_with fail
  go_ret2
  exact ⟨rfl, B2⟩
set_option maxHeartbeats 1600000 in
theorem move_is (v : Value) (es : List En) (old nm : ByteArray) (k j : Nat) (w : World) (hv : Es w v es) (hl : es.length ≤ 1000000000) (hr : Hid (IdxN es old (k : Int))) (hn : Hid (nameB nm = true)) (hne : (nm.toList == old.toList) = false) (hj : Hid (IdxN es nm (j : Int))) :
    Calls Tryd.prog 14 #[v, .string old, .string nm] w fun e w' => e = .returned (.tuple #[.slice none 0 0, .int .i64 9]) ∧ Below w.heap.size w w' := by
  go_enter Tryd.func14, Tryd.ntmps14
  go_wp2_with fail
  refine (named_any v es old _ hv (by omega)).mono ?_
  rintro e w2 ⟨r', rfl, hr', B2⟩
  obtain rfl := hr'.out.unique hr.out
  have g1 : ¬ ((k : Int) < 0) := by omega
  go_wp2_with fail
  refine (name_any nm true _ hn).mono ?_
  rintro e w3 ⟨rfl, rfl⟩
  have hv3 := hv.below B2
  go_wp2_with fail
  refine (named_any v es nm _ hv3 (by omega)).mono ?_
  rintro e w4 ⟨r', rfl, hj', B4⟩
  obtain rfl := hj'.out.unique hj.out
  have g2 : (0 : Int) ≤ (j : Int) := by omega
  have Bn4 := B2.trans (B4.mono B2.size)
  go_wp2_with fail
  go_ret2
  exact ⟨rfl, Bn4⟩
theorem set_same {α : Type} {l : List α} {i : Nat} {v : α} (h : l[i]? = some v) : l.set i v = l := by
  refine List.ext_getElem? fun j => ?_
  rw [List.getElem?_set]
  by_cases e : i = j
  · subst e
    obtain ⟨h1, h2⟩ := List.getElem?_eq_some_iff.1 h
    simp [h1, h2]
  · simp [e]
/-- An entry's name is stored. -/
theorem own_set1 {w : World} {N T n g cap k : Nat} {es : List En} (h : w.ownsRow N T 2 (.slice (some ⟨g, 0, none⟩) n cap) n (ecells es)) (hk : k < es.length) (nm : ByteArray) :
    (w.setCell ⟨g, k * 2, none⟩ (.string nm)).ownsRow N T 2 (.slice (some ⟨g, 0, none⟩) n cap) n (ecells (es.set k ⟨nm, (En.at es k).ino⟩)) := by
  rcases h.2 with ⟨h1, _⟩ | ⟨g', cap', cur, e1, hb, hg, hnc, hcm, hcs, htake⟩
  · cases h1
  · injection e1 with e1 e2 e3
    injection e1 with e1
    injection e1 with e1
    subst e1; subst e3
    have h1 := heap_setCell_same w g (k * 2) cur T (.string nm) hg
    have hl := ecells_len es
    refine ⟨by rw [ecells_len, List.length_set]; have := h.1; omega, .inr ⟨g, cap, _, rfl, hb, h1, hnc, hcm, by simpa using hcs, ?_⟩⟩
    have e2 : ((ecells es).set (k * 2) (.string nm)).set (k * 2 + 1) (.int .i64 (En.at es k).ino) = (ecells es).set (k * 2) (.string nm) := by
      refine set_same ?_
      rw [List.getElem?_set_ne (by omega)]
      exact (ecells_get es k hk).2
    rw [ecells_set es k _ hk, e2]
    simp only [Array.toList_setIfInBounds, List.take_set]
    rw [htake]
/-- May the slot k take the name? -/
def MvOk (es : List En) (old nm : ByteArray) : Prop := (nm.toList == old.toList) = true ∨ ((nm.toList == old.toList) = false ∧ IdxN es nm (-1))
set_option maxHeartbeats 1600000 in
theorem move_ok (v : Value) (es : List En) (old nm : ByteArray) (k : Nat) (w : World) (hv : Es w v es) (hl : es.length ≤ 1000000000) (hr : Hid (IdxN es old (k : Int))) (hn : Hid (nameB nm = true)) (hm : Hid (MvOk es old nm)) :
    Calls Tryd.prog 14 #[v, .string old, .string nm] w fun e w' => ∃ u, e = .returned (.tuple #[u, .int .i64 0]) ∧ Es w' u (mvL es k nm) ∧ Below w.heap.size w w' := by
  have hk := hr.out.lt
  have fin : ∀ w3 u, w3.ownsRow w.heap.size 57 2 u es.length (ecells es) → Below w.heap.size w w3 → ∃ g cap, u = .slice (some ⟨g, 0, none⟩) es.length cap ∧ (∃ s, w3.cell? ⟨g, k * 2, none⟩ = some (.string s)) ∧ w3.frozen? ⟨g, k * 2, none⟩ = false ∧ Hid (Es (w3.setCell ⟨g, k * 2, none⟩ (.string nm)) u (mvL es k nm) ∧ Below w.heap.size w (w3.setCell ⟨g, k * 2, none⟩ (.string nm))) := by
    intro w3 u ho B3
    obtain ⟨g, cap, rfl, hg, hg2, c1, c2, f1, f2⟩ := own_place (f := k) ho hk
    refine ⟨g, cap, rfl, ⟨_, c1⟩, f1, ?_, B3.trans ((Chg.setCell (S := fun k => k = g) w3 ⟨g, k * 2, none⟩ _ rfl).below B3.size (fun k hk => hk ▸ hg))⟩
    exact Es.ofOwns (own_set1 ho hk nm)
  go_enter Tryd.func14, Tryd.ntmps14
  go_wp2_with fail
  refine (named_any v es old _ hv (by omega)).mono ?_
  rintro e w2 ⟨r', rfl, hr', B2⟩
  obtain rfl := hr'.out.unique hr.out
  have g1 : ¬ ((k : Int) < 0) := by omega
  have g2 : (k : Int) < es.length := by omega
  go_wp2_with fail
  refine (name_any nm true _ hn).mono ?_
  rintro e w3 ⟨rfl, rfl⟩
  have hv3 := hv.below B2
  rcases hm.out with he | ⟨he, hj⟩
  · go_wp2_with fail
    refine (clone_any v es _ hv3 (by omega)).mono ?_
    rintro e w4 ⟨u, rfl, ho, B4⟩
    obtain ⟨g, cap, rfl, ⟨s, c1⟩, f1, H⟩ := fin w4 u (own_kept ho (Below.refl _ _) B2.size) (B2.trans (B4.mono B2.size))
    clear fin
    go_wp2_with fail
    go_ret2
    exact ⟨_, rfl, H.out.1, H.out.2⟩
  · go_wp2_with fail
    refine (named_any v es nm _ hv3 (by omega)).mono ?_
    rintro e w5 ⟨r', rfl, hj', B5⟩
    obtain rfl := hj'.out.unique hj
    have Bn5 := B2.trans (B5.mono B2.size)
    have hv5 := hv.below Bn5
    go_wp2_with fail
    refine (clone_any v es _ hv5 (by omega)).mono ?_
    rintro e w4 ⟨u, rfl, ho, B4⟩
    obtain ⟨g, cap, rfl, ⟨s, c1⟩, f1, H⟩ := fin w4 u (own_kept ho (Below.refl _ _) Bn5.size) (Bn5.trans (B4.mono Bn5.size))
    clear fin
    go_wp2_with fail
    go_ret2
    exact ⟨_, rfl, H.out.1, H.out.2⟩
end Go.Proofs.YtbhfmceapffhnaaDoor
