/-
  Acts on slots; few, texts, Of of the laws on dir.
-/
import Derived.Test.YtbhfmceapffhnaaDoorDStr
import Derived.Test.YtbhfmceapffhnaaDoorDRefPut
import Derived.Test.YtbhfmceapffhnaaDoorDBytes
import Derived.BigQuiet
import Derived.Deep.QuietTactic
namespace Go.Proofs.YtbhfmceapffhnaaDoor
open Go.RowKit Go.Sort

structure DAct where
  op : Int
  n : Int
  a : ByteArray
  b : ByteArray
def DAct.z : DAct := ⟨0, 0, ⟨#[]⟩, ⟨#[]⟩⟩
def DActs (w : World) (v : Value) (l : List DAct) : Prop :=
  ∃ a c, v = .slice a l.length c ∧ (0 < l.length → ∃ b off, a = some ⟨b, off, none⟩ ∧ ∀ j, j < l.length → w.cell? ⟨b, off + j * 4, none⟩ = some (.int .i64 (l.getD j DAct.z).op) ∧ w.cell? ⟨b, off + j * 4 + 1, none⟩ = some (.int .i64 (l.getD j DAct.z).n) ∧ w.cell? ⟨b, off + j * 4 + 2, none⟩ = some (.string (l.getD j DAct.z).a) ∧ w.cell? ⟨b, off + j * 4 + 3, none⟩ = some (.string (l.getD j DAct.z).b))
theorem DActs.form {w : World} {v : Value} {l : List DAct} (h : DActs w v l) : ∃ a c, v = .slice a l.length c := by
  obtain ⟨a, c, e, _⟩ := h
  exact ⟨a, c, e⟩
theorem DActs.nth {w : World} {a : Option Addr} {n c k : Nat} {l : List DAct} (h : DActs w (.slice a n c) l) (hk : k < l.length) : ∃ b off, a = some ⟨b, off, none⟩ ∧ ∀ j, j < l.length → w.cell? ⟨b, off + j * 4, none⟩ = some (.int .i64 (l.getD j DAct.z).op) ∧ w.cell? ⟨b, off + j * 4 + 1, none⟩ = some (.int .i64 (l.getD j DAct.z).n) ∧ w.cell? ⟨b, off + j * 4 + 2, none⟩ = some (.string (l.getD j DAct.z).a) ∧ w.cell? ⟨b, off + j * 4 + 3, none⟩ = some (.string (l.getD j DAct.z).b) := by
  obtain ⟨a', c', e, hx⟩ := h
  injection e with e1 e2 e3
  subst e1
  exact hx (by omega)
theorem DActs.below {w w' : World} {v : Value} {l : List DAct} (h : DActs w v l) (hb : RowKit.Below w.heap.size w w') : DActs w' v l := by
  obtain ⟨a, c, e, hx⟩ := h
  refine ⟨a, c, e, fun h0 => ?_⟩
  obtain ⟨b, off, e1, hc⟩ := hx h0
  have hg := Chg.ofBelowC hb
  exact ⟨b, off, e1, fun j hj => ⟨hg.cell (hc j hj).1 (fun h => h), hg.cell (hc j hj).2.1 (fun h => h), hg.cell (hc j hj).2.2.1 (fun h => h), hg.cell (hc j hj).2.2.2 (fun h => h)⟩⟩
/-- Few acts, short texts. -/
def FewA (l : List DAct) : Prop := l.length ≤ 120 ∧ ∀ j, j < l.length → (l.getD j DAct.z).a.size ≤ 200 ∧ (l.getD j DAct.z).b.size ≤ 200
set_option maxHeartbeats 1600000 in
theorem few_any (v : Value) (l : List DAct) (w : World) (hv : DActs w v l) :
    Calls Tryd.prog 9 #[v] w fun e w' => Hid (w' = w) ∧ (e = .returned (.bool false) ∨ (e = .returned (.bool true) ∧ Hid (FewA l))) := by
  obtain ⟨a, c, rfl⟩ := hv.form
  go_enter Tryd.func9, Tryd.ntmps9
  by_cases h1 : 120 < l.length
  · have k1 : 120 < (l.length : Int) := by omega
    go_wp2_with fail
    go_ret
    exact ⟨rfl, .inl rfl⟩
  have k1 : ¬ (120 < (l.length : Int)) := by omega
  go_wp2_with fail
  go_loopw [3] (fun i wr => ∃ k : Nat, k ≤ l.length ∧ i = .int .i64 k ∧ wr = w ∧ Hid (∀ j, j < k → (l.getD j DAct.z).a.size ≤ 200 ∧ (l.getD j DAct.z).b.size ≤ 200)) (fun i _ => l.length - (intOf i).toNat)
  case atStart => exact ⟨0, Nat.zero_le _, rfl, rfl, fun j h => by omega⟩
  case round =>
    obtain ⟨k, hk, rfl, rfl, HJ⟩ := hrel
    by_cases hlt : k < l.length
    · have q1 : (k : Int) < l.length := by omega
      obtain ⟨b, off, rfl, hc⟩ := hv.nth hlt
      obtain ⟨c0, c1, c2, c3⟩ := hc k hlt
      obtain ⟨x, hx⟩ : ∃ x, Hid (l.getD k DAct.z = x) := ⟨_, rfl⟩
      rw [hx.out] at c0 c1 c2 c3
      clear hc
      by_cases ha : 200 < x.a.size
      · have k2 : 200 < (x.a.size : Int) := by omega
        go_wp2_with fail
        go_ret
        exact ⟨rfl, .inl rfl⟩
      have k2 : ¬ (200 < (x.a.size : Int)) := by omega
      by_cases hb : 200 < x.b.size
      · have k3 : 200 < (x.b.size : Int) := by omega
        go_wp2_with fail
        go_ret
        exact ⟨rfl, .inl rfl⟩
      have k3 : ¬ (200 < (x.b.size : Int)) := by omega
      go_wp2_with fail
      go_roundw
      case rel =>
        refine ⟨k + 1, by omega, by go_num, trivial, fun j hj => ?_⟩
        rcases (by omega : j < k ∨ j = k) with h | rfl
        · exact HJ.out j h
        · rw [hx.out]; exact ⟨by omega, by omega⟩
      case measure => simp [intOf]; omega
    · have q1 : ¬ (k : Int) < l.length := by omega
      go_wp2_with fail
      go_ret
      exact ⟨rfl, .inr ⟨rfl, by omega, fun j hj => HJ.out j (by omega)⟩⟩
set_option maxHeartbeats 1600000 in
theorem texts_yes (s r : Value) (ss : List (List UInt8)) (w : World) (hs : Ss w s ss) (hr : Ss w r ss) (hl : ss.length ≤ 1000000) :
    Calls Tryd.prog 20 #[s, r] w fun e w' => e = .returned (.bool true) ∧ RowKit.Below w.heap.size w w' := by
  obtain ⟨sa, sc, rfl⟩ := hs.form
  obtain ⟨ra, rc, rfl⟩ := hr.form
  go_enter Tryd.func20, Tryd.ntmps20
  go_wp2_with fail
  go_loopw [5] (fun i wr => ∃ k : Nat, k ≤ ss.length ∧ i = .int .i64 k ∧ RowKit.Below w.heap.size w wr) (fun i _ => ss.length - (intOf i).toNat)
  case atStart => exact ⟨0, Nat.zero_le _, rfl, Below.refl _ _⟩
  case round =>
    obtain ⟨k, hk, rfl, B⟩ := hrel
    by_cases hlt : k < ss.length
    · have q1 : (k : Int) < ss.length := by omega
      have hs' := hs.below B
      have hr' := hr.below B
      obtain ⟨b, off, rfl, hc⟩ := hs'.nthS hlt
      obtain ⟨b2, off2, rfl, hc2⟩ := hr'.nthS hlt
      have c1 := hc k hlt
      have d1 := hc2 k hlt
      obtain ⟨Y, hY⟩ : ∃ Y : ByteArray, encStr (ss.getD k []) = .string Y := ⟨_, rfl⟩
      rw [hY] at c1 d1
      clear hc hc2 hs' hr' hY
      go_wp2_with fail
      go_quiet (fail)
      have B2 : RowKit.Below w.heap.size w (wr.drewN nq) := B.trans ((Chg.drewN (fun _ => False) wr _).below B.size (fun _ h => h.elim))
      go_wp2_with fail
      go_roundw
      case rel => exact ⟨k + 1, by omega, by go_num, B2⟩
      case measure => simp [intOf]; omega
    · have q1 : ¬ (k : Int) < ss.length := by omega
      go_wp2_with fail
      go_ret
      exact ⟨rfl, B⟩
set_option maxHeartbeats 1600000 in
theorem of_any (v : Value) (es : List En) (w : World) (hv : Es w v es) (hl : es.length ≤ 1000000) :
    Calls Tryd.prog 17 #[v] w fun e w' => ∃ u, e = .returned u ∧ Es w' u es ∧ RowKit.Below w.heap.size w w' := by
  obtain ⟨i0, hi0, hz0, hz1, hz2⟩ := info_parts infoR2
  obtain ⟨a, c, rfl⟩ := hv.form
  go_enter Tryd.func17, Tryd.ntmps17
  go_wp2_with fail
  go_loopw [3, 4] (fun u i wr => ∃ k : Nat, k ≤ es.length ∧ i = .int .i64 k ∧ RowKit.Below w.heap.size w wr ∧ wr.ownsRow w.heap.size 47 2 u k (ecells (es.take k))) (fun _ i _ => es.length - (intOf i).toNat)
  case atStart => exact ⟨0, Nat.zero_le _, rfl, Below.refl _ _, World.ownsRow_nil _ _ _ _⟩
  case round =>
    obtain ⟨k, hk, rfl, B, M⟩ := hrel
    by_cases hlt : k < es.length
    · have q1 : (k : Int) < es.length := by omega
      have hv' := hv.below B
      obtain ⟨b, off, rfl, hc⟩ := hv'.nth hlt
      obtain ⟨c1, c2⟩ := hc k hlt
      have HT : Hid (es.take (k + 1) = es.take k ++ [es.getD k En.fr]) := take_next es k hlt
      obtain ⟨x, hx⟩ : ∃ x, Hid (es.getD k En.fr = x) := ⟨_, rfl⟩
      rw [hx.out] at c1 c2 HT
      clear hc hv'
      have B1 := B.alloc B.size (.cells #[.string x.nm, .int .i64 x.ino] 47)
      have M1 := own_kept M ((Below.refl _ _).alloc (Nat.le_refl _) (.cells #[.string x.nm, .int .i64 x.ino] 47)) (Nat.le_refl _)
      have E1 := Es.one wr x 47 (0, 0)
      have hN1 := B1.size
      go_wp2_with (at_builtin; go_must (refine wpList_app2 rfl _ (.tmp 16) 27 rfl w.heap.size 47 i0 Tryd.underlying27 hi0 hz0 hz1 hz2 _ _ k (es.take k) [x] rfl M1 rfl E1 ?c1 ?c2 ?next))
      case c1 => simp; omega
      case c2 => exact hN1
      case next =>
        intro u w3 ho3 hB3
        have B3 := B1.trans hB3
        rw [← HT.out] at ho3
        clear M1 E1 hN1 hB3
        go_wp2_with fail
        go_roundw
        case rel => exact ⟨k + 1, by omega, by go_num, B3, by simpa using ho3⟩
        case measure => simp [intOf]; omega
    · have q1 : ¬ (k : Int) < es.length := by omega
      have e8 : es.take k = es := List.take_of_length_le (by omega)
      rw [e8] at M
      have y := Es.ofOwns M
      go_wp2_with fail
      go_ret
      exact ⟨_, rfl, y, B⟩
end Go.Proofs.YtbhfmceapffhnaaDoor
