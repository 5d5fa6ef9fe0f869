/-
  The contract of the reference's Get.
-/
import Derived.Test.YtioloobeakjbeaaRC5
namespace Go.Proofs.Ytioloobeakjbeaa
open Go.RowKit Go.Maps
attribute [local go_sem ↓] Go.wp_at_zero Go.wp_at_succ
attribute [local go_sem ↓] appG_eq

theorem strOf_nil : strOf [] = ByteArray.empty := by simp [strOf]
theorem who_false {C : Ca} {nb : Nat} (h : C.Wf nb) {k : Int} (hk : Who C k false) : C.L.length = C.size ∧ C.goes = none := by
  have := h.few
  rcases hk with ⟨_, _, h3⟩ | ⟨h1, h2, h3⟩
  · cases h3
  · refine ⟨by omega, ?_⟩
    rcases h2 with ⟨xs, x, ys, _, _, rfl⟩ | ⟨h2, _⟩
    · simp at h3
    · exact h2
theorem miss_room {S S' : St} {C C' : Ca} {E : Int} (n : Nat) (fb : List Int) (h : Room S C E S' C') : miss S C n 0 fb = if E ≠ 0 then ⟨E, S', C'⟩ else ⟨0, S', C'.add n fb⟩ := by
  unfold miss
  rcases h with ⟨h1, rfl, rfl, rfl⟩ | ⟨h1, g, hg, rfl, rfl, rfl⟩
  · rw [if_neg h1, if_neg (by simp)]
  · rw [if_pos h1, hg]
    show (if (0 : Int) ≠ 0 then _ else _) = _
    rw [if_neg (by simp)]
    by_cases he : cleanE S g = 0
    · rw [if_neg (by simpa using he), if_neg (by simpa using he), if_pos he]
    · rw [if_pos he, if_pos he, if_neg he]
theorem miss_fe {S : St} {C : Ca} {n : Nat} {fe : Int} {fb : List Int} (hfe : fe ≠ 0) (h : C.L.length = C.size → C.goes ≠ none) : miss S C n fe fb = ⟨fe, S, C⟩ := by
  unfold miss
  by_cases hl : C.L.length = C.size
  · rw [if_pos hl]
    cases hg : C.goes with
    | none => exact absurd hg (h hl)
    | some g => show (if fe ≠ 0 then _ else _) = _; rw [if_pos hfe]
  · rw [if_neg hl, if_pos hfe]
theorem miss_full {S : St} {C : Ca} {n : Nat} {fe : Int} {fb : List Int} (h : C.L.length = C.size ∧ C.goes = none) : miss S C n fe fb = ⟨13, S, C⟩ := by
  unfold miss
  rw [if_pos h.1, h.2]
theorem who_true {C : Ca} {k : Int} (hk : Who C k true) : C.L.length = C.size → C.goes ≠ none := fun hl e => by
  rcases hk with ⟨h1, _, _⟩ | ⟨_, h2, h3⟩
  · omega
  · rcases h2 with ⟨xs, x, ys, _, h5, _⟩ | ⟨_, rfl⟩
    · rw [e] at h5; cases h5
    · simp at h3
theorem found_has {L : List It} {C : Ca} (hL : C.L = L) {n : Int} {k : Int} (h : Found L n k) (hk : k < 0) : C.has n.toNat = false ∨ n < 0 := by
  rcases h with ⟨xs, x, ys, _, _, rfl⟩ | ⟨h, _⟩
  · omega
  · by_cases hn : n < 0
    · exact .inr hn
    · left
      cases hh : C.has n.toNat with
      | false => rfl
      | true =>
        obtain ⟨i, hi, e⟩ := Ca.has_iff.1 hh
        rw [hL] at hi
        exact absurd (by omega) (h i hi)

theorem rget_bad (G H : Nat → Prop) (c q : Nat) (S : St) (C : Ca) (lv : Value) (n : Int) (w : World) (h : RCk w G H c q S C lv) (hn : ¬ (0 ≤ n ∧ n < S.nb)) :
    Calls Try.prog 32 #[.pointer (some ⟨c, 0, none⟩), .int .i64 n] w fun e w' => e = .returned (.tuple #[.string ByteArray.empty, .int .i64 1]) ∧ w' = w := by
  have c0 := h.rc.c0
  have HI : Hid (Calls Try.prog 58 #[.pointer (some ⟨q, 0, none⟩), .int .i64 n] w fun e w' => e = .returned (.bool (decide (0 ≤ n ∧ n < S.nb))) ∧ w' = w) := ris_rk G q S n w h.rk
  have hd : decide (0 ≤ n ∧ n < S.nb) = false := by simpa using hn
  rw [hd] at HI
  clear h hn hd
  go_enter Try.func32, Try.ntmps32
  go_wp2_with fail
  refine (show Calls _ _ _ _ _ from HI.out).mono ?_
  rintro e w1 ⟨rfl, rfl⟩
  go_wp2
  go_ret2
  exact ⟨rfl, rfl⟩

set_option maxHeartbeats 800000 in
theorem rget_hit (G H : Nat → Prop) (c q : Nat) (S : St) (C : Ca) (lv : Value) (n : Int) (w : World) (h : RCk w G H c q S C lv) (hl : C.L.length ≤ 1024) (hu : C.hits < 1099511627776) (hn : 0 ≤ n ∧ n < S.nb) {x0 : It} (hx0 : x0 ∈ C.L) (hxn : (x0.n : Int) = n) :
    Calls Try.prog 32 #[.pointer (some ⟨c, 0, none⟩), .int .i64 n] w fun e w' => ∃ xs x ys, C.L = xs ++ x :: ys ∧ (x.n : Int) = n ∧ e = .returned (.tuple #[.string (strOf x.b), .int .i64 0]) ∧ RcTo H c q w w' { C with hits := C.hits + 1, L := xs ++ ys ++ [x] } := by
  have c0 := h.rc.c0
  have c3 := h.rc.c3
  have f3 := h.rc.fr 3
  have HI : Hid (Calls Try.prog 58 #[.pointer (some ⟨q, 0, none⟩), .int .i64 n] w fun e w' => e = .returned (.bool (decide (0 ≤ n ∧ n < S.nb))) ∧ w' = w) := ris_rk G q S n w h.rk
  have hd : decide (0 ≤ n ∧ n < S.nb) = true := by simpa using hn
  rw [hd] at HI
  have HF : Hid (Calls Try.prog 47 #[.pointer (some ⟨c, 0, none⟩), .int .i64 n] w fun e w' => ∃ (xs : List It) (x : It) (ys : List It) (i : Nat) (t : ByteArray) (g cap N : Nat) (hv : Int), e = .returned (.int .i64 (i : Int)) ∧ w' = w ∧ i < N ∧ N ≤ 1024 ∧ (C.hits : Int) = hv ∧
      (w.setCell ⟨c, 3, none⟩ (.int .i64 (hv + 1))).cell? ⟨c, 2, none⟩ = some (.slice (some ⟨g, 0, none⟩) N cap) ∧ (w.setCell ⟨c, 3, none⟩ (.int .i64 (hv + 1))).cell? ⟨g, i * 4 + 1, none⟩ = some (.string t) ∧
      Hid (Calls Try.prog 59 #[.pointer (some ⟨c, 0, none⟩), .int .i64 (i : Int)] (w.setCell ⟨c, 3, none⟩ (.int .i64 (hv + 1))) fun e w' => e = .returned (.tuple #[]) ∧ RcTo H c q w w' { C with hits := C.hits + 1, L := xs ++ ys ++ [x] }) ∧ Hid (C.L = xs ++ x :: ys ∧ (x.n : Int) = n ∧ t = strOf x.b)) := by
    refine (rfind_any H c q C lv n w h.rc hl).mono ?_
    rintro e w' ⟨k, rfl, hf, rfl⟩
    rcases hf with ⟨xs, x, ys, hL, hx, rfl⟩ | ⟨hf, _⟩
    · have hlt : xs.length < C.L.length := by rw [hL]; simp
      obtain ⟨g, cap, hlv, hcap, _, _⟩ := h.rc.sm hlt
      obtain ⟨a1, k1⟩ := h.rc.setHits
      rw [hlv] at a1
      have i1 := a1.item (i := xs.length) (k := 1) hlt (by decide) rfl
      have e1 : (jcell C.L[xs.length])[1]? = some (.string (strOf x.b)) := by simp [hL, jcell]
      have hxx : C.L[xs.length] = x := by simp [hL]
      refine ⟨xs, x, ys, xs.length, strOf x.b, g, cap, C.L.length, (C.hits : Int), rfl, rfl, hlt, hl, rfl, a1.c2, ?_, ?_, hL, hx, rfl⟩
      · simp only [hxx] at i1; exact i1
      · refine (rlastu_any H c q { C with hits := C.hits + 1 } g cap xs ys x _ a1 hcap hL hl _ rfl).mono ?_
        rintro e w2 ⟨rfl, ht⟩
        exact ⟨rfl, RcTo.trans (k1.mono (fun b _ e => by rw [e]; exact h.rc.fc)) (fun b hb => .inl hb) ht⟩
    · exact absurd hxn (hf x0 hx0)
  have hu' : (C.hits : Int) < 1099511627776 := by omega
  have hu0 : (0 : Int) ≤ (C.hits : Int) := by omega
  clear h hn hd hu hl hxn hx0
  go_enter Try.func32, Try.ntmps32
  go_wp2_with fail
  refine (show Calls _ _ _ _ _ from HI.out).mono ?_
  rintro e w1 ⟨rfl, rfl⟩
  go_wp2_with fail
  refine (show Calls _ _ _ _ _ from HF.out).mono ?_
  rintro e w2 ⟨xs, x, ys, i, t, g, cap, N, hv, rfl, rfl, hi, hN, hh, z2, z1, HL, HX⟩
  rw [hh] at c3 hu' hu0
  have hi' : (i : Int) < (N : Int) := by omega
  have hi0 : ¬ (i : Int) < 0 := by omega
  clear hh HF HI
  go_wp2_with fail
  refine (show Calls _ _ _ _ _ from HL.out).mono ?_
  rintro e w3 ⟨rfl, ht⟩
  have HT : Hid (RcTo H c q w2 w3 { C with hits := C.hits + 1, L := xs ++ ys ++ [x] }) := ht
  clear ht HL z1 z2 c0 c3 f3
  go_wp2
  go_ret2
  obtain ⟨e1, e2, e3⟩ := HX.out
  exact ⟨xs, x, ys, e1, e2, by rw [← e3]; rfl, HT.out⟩

theorem EvTo.refl {G H : Nat → Prop} {c q : Nat} {w w' : World} {S : St} {C : Ca} {lv : Value} (h : RCk w G H c q S C lv) (hc : Chg (fun _ => False) w w') : EvTo G H c q w w' S C :=
  ⟨G, H, lv, h.kept hc (fun _ _ h => h), hc.mono (fun _ _ h => h.elim), fun _ h => .inl h, fun _ h => .inl h⟩
theorem EvTo.after {G H : Nat → Prop} {c q : Nat} {w w1 w2 : World} {S2 : St} {C2 : Ca} (hc : Chg (fun _ => False) w w1) (h : EvTo G H c q w1 w2 S2 C2) : EvTo G H c q w w2 S2 C2 := by
  obtain ⟨G', H', lv', h1, h2, h3, h4⟩ := h
  exact ⟨G', H', lv', h1, (hc.mono (fun _ _ h => h.elim)).trans h2 (fun _ _ h => h), fun b hb => (h3 b hb).imp id (Nat.le_trans hc.size), fun b hb => (h4 b hb).imp id (Nat.le_trans hc.size)⟩
/-- .. and then the cache alone. -/
theorem EvTo.then {G H G1 H1 : Nat → Prop} {c q : Nat} {w w1 w2 : World} {S1 : St} {C1 C2 : Ca} {lv1 : Value} (h1 : RCk w1 G1 H1 c q S1 C1 lv1) (hc : Chg (fun b => G b ∨ H b) w w1) (hG : ∀ b, G1 b → G b ∨ w.heap.size ≤ b) (hH : ∀ b, H1 b → H b ∨ w.heap.size ≤ b) (ht : RcTo H1 c q w1 w2 C2) : EvTo G H c q w w2 S1 C2 := by
  obtain ⟨H', lv', m1, m2, m3⟩ := h1.cache ht
  refine ⟨G1, H', lv', m1, hc.trans m2 (fun k hk e => ?_), hG, fun b hb => ?_⟩
  · rcases hH k e with e | e
    · exact .inr e
    · omega
  · rcases m3 b hb with e | e
    · exact hH b e
    · exact .inr (Nat.le_trans hc.size e)

/-- What an added item leaves, for the walk. -/
def AddF (G H : Nat → Prop) (c q : Nat) (w w2 : World) (n : Int) (t : ByteArray) (d : Bool) (R : Res) : Prop :=
  ∃ (mi : Int) (lv v1 : Value) (w4 : World) (a2 : Option Addr) (n2 d2 : Nat) (w5 : World), w2.cell? ⟨c, 4, none⟩ = some (.int .i64 mi) ∧ w2.frozen? ⟨c, 4, none⟩ = false ∧ 0 ≤ mi ∧ mi < 1099511627776 ∧ (w2.setCell ⟨c, 4, none⟩ (.int .i64 (mi + 1))).cell? ⟨c, 2, none⟩ = some lv ∧ (∃ a len cp, lv = .slice a len cp) ∧
    (appG #[45, 45] 45 #[.slice (some ⟨w2.heap.size, 0, none⟩) 0 0, lv]).run Try.prog ((w2.setCell ⟨c, 4, none⟩ (.int .i64 (mi + 1))).alloc (.cells #[] 92)) = .ok v1 w4 ∧
    (appG #[45, 45] 45 #[v1, .slice (some ⟨w4.heap.size, 0, none⟩) 1 1]).run Try.prog (w4.alloc (.cells #[.int .i64 n, .string t, .bool d, .int .i64 0] 92)) = .ok (.slice a2 n2 d2) w5 ∧
    ((w2.setCell ⟨c, 4, none⟩ (.int .i64 (mi + 1))).alloc (.cells #[] 92)).cell? ⟨c, 2, none⟩ = some lv ∧ w5.cell? ⟨c, 2, none⟩ = some lv ∧ w5.frozen? ⟨c, 2, none⟩ = false ∧
    Hid (EvTo G H c q w (w5.setCell ⟨c, 2, none⟩ (.slice a2 n2 d2)) R.S R.C)
theorem addF {G H : Nat → Prop} {c q : Nat} {w w2 : World} {S' : St} {C' : Ca} (h : EvTo G H c q w w2 S' C') (hl : C'.L.length ≤ 1024) (hm : C'.misses < 1099511627776) (x : It) (hx : x.pins = 0) (R : Res) (hR : R = ⟨0, S', { C' with misses := C'.misses + 1, L := C'.L ++ [x] }⟩) : AddF G H c q w w2 (x.n : Int) (strOf x.b) x.dirty R := by
  obtain ⟨G1, H1, lv1, h1, hc, hG, hH⟩ := h
  obtain ⟨a1, k1⟩ := h1.rc.setMisses
  obtain ⟨v1, w4, a2, n2, d2, w5, r1, r2, z0, z1, z2, HZ⟩ := radd_facts a1 hl x _ rfl
  have hs : (w2.setCell ⟨c, 4, none⟩ (.int .i64 ((C'.misses : Int) + 1))).heap.size = w2.heap.size := by simp
  rw [hs] at r1
  rw [hx] at r2
  obtain ⟨a, cp, hlv, _⟩ := h1.rc.form
  refine ⟨(C'.misses : Int), lv1, v1, w4, a2, n2, d2, w5, h1.rc.c4, h1.rc.fr 4, by omega, by omega, a1.c2, ⟨a, _, cp, hlv⟩, r1, r2, z0, z1, z2, ?_⟩
  rw [hR]
  exact EvTo.then h1 hc hG hH (RcTo.trans (k1.mono (fun b _ e => by rw [e]; exact h1.rc.fc)) (fun b hb => .inl hb) HZ.out)

theorem room_wf {S S' : St} {C C' : Ca} {E : Int} {nb : Nat} (h : Room S C E S' C') (hw : C.Wf nb) : C'.L.length ≤ 1024 ∧ C'.misses = C.misses := by
  have := hw.few
  have := hw.top
  rcases h with ⟨_, _, _, rfl⟩ | ⟨_, g, _, _, _, rfl⟩
  · exact ⟨by omega, rfl⟩
  · split
    · exact ⟨Nat.le_trans (List.length_filter_le _ _) (by omega), rfl⟩
    · exact ⟨by omega, rfl⟩

set_option maxHeartbeats 1600000 in
theorem rget_miss (G H : Nat → Prop) (c q : Nat) (S : St) (C : Ca) (lv : Value) (m : Nat) (w : World) (h : RCk w G H c q S C lv) (hw : C.Wf S.nb) (hx : S.writes < 1099511627776) (hu : C.hits + C.misses < 1099511627776) (hev : C.evicted < 1099511627776) (hn : m < S.nb) (hh : C.has m = false) (R : Res) (hR : R = miss S C m (S.readE m) (S.readV m)) (B : ByteArray) (hB : B = if R.e = 0 then strOf (S.readV m) else ByteArray.empty) :
    Calls Try.prog 32 #[.pointer (some ⟨c, 0, none⟩), .int .i64 (m : Int)] w fun e w' => e = .returned (.tuple #[.string B, .int .i64 R.e]) ∧ EvTo G H c q w w' R.S R.C := by
  have htop := hw.top
  have hfew := hw.few
  have c0 := h.rc.c0
  have HI : Hid (Calls Try.prog 58 #[.pointer (some ⟨q, 0, none⟩), .int .i64 (m : Int)] w fun e w' => e = .returned (.bool (decide (0 ≤ (m : Int) ∧ (m : Int) < S.nb))) ∧ w' = w) := ris_rk G q S m w h.rk
  have hd : decide (0 ≤ (m : Int) ∧ (m : Int) < S.nb) = true := by simpa using hn
  rw [hd] at HI
  have HF : Hid (Calls Try.prog 47 #[.pointer (some ⟨c, 0, none⟩), .int .i64 (m : Int)] w fun e w' => e = .returned (.int .i64 (-1)) ∧ w' = w) := by
    refine (rfind_any H c q C lv m w h.rc (by omega)).mono ?_
    rintro e w' ⟨k, rfl, hf, rfl⟩
    rcases hf with ⟨xs, x, ys, hL, hx, rfl⟩ | ⟨_, rfl⟩
    · have : C.has m = true := Ca.has_iff.2 ⟨x, by rw [hL]; simp, by omega⟩
      rw [hh] at this; cases this
    · exact ⟨rfl, rfl⟩
  have HW : Hid (Calls Try.prog 60 #[.pointer (some ⟨c, 0, none⟩)] w fun e w1 => ∃ k b, e = .returned (.tuple #[.int .i64 k, .bool b]) ∧ w1.cell? ⟨c, 0, none⟩ = some (.pointer (some ⟨q, 0, none⟩)) ∧ (b = false → Hid (R.e = 13 ∧ EvTo G H c q w w1 R.S R.C)) ∧
      Hid (Calls Try.prog 61 #[.pointer (some ⟨q, 0, none⟩), .int .i64 (m : Int)] w1 fun e w' => e = .returned (.tuple #[.string (strOf (S.readV m)), .int .i64 (S.readE m)]) ∧ w' = w1) ∧
      (b = true → S.readE m ≠ 0 → Hid (R.e = S.readE m ∧ EvTo G H c q w w1 R.S R.C)) ∧
      (b = true → S.readE m = 0 → Hid (Calls Try.prog 62 #[.pointer (some ⟨c, 0, none⟩), .int .i64 k] w1 fun e w2 => ∃ E, e = .returned (.int .i64 E) ∧ R.e = E ∧ (E ≠ 0 → Hid (EvTo G H c q w w2 R.S R.C)) ∧ (E = 0 → AddF G H c q w w2 (m : Int) (strOf (S.readV m)) false R)))) := by
    refine (rwho_any H c q C lv w h.rc (by omega)).mono ?_
    rintro e w1 ⟨k, b, rfl, hk, hc⟩
    have k1 := h.kept hc (fun _ _ h => h)
    refine ⟨k, b, rfl, k1.rc.c0, fun hb => ?_, rread_any G q S m w1 k1.rk hx, fun hb hf => ?_, fun hb hf => ?_⟩
    · subst hb
      rw [hR, miss_full (who_false hw hk)]
      exact ⟨rfl, EvTo.refl h hc⟩
    · subst hb
      rw [hR, miss_fe hf (who_true hk)]
      exact ⟨rfl, EvTo.refl h hc⟩
    · subst hb
      refine (revict_any G H c q S C lv k w1 k1 hw hev hx hk).mono ?_
      rintro e w2 ⟨E, S', C', rfl, hr, ht⟩
      have hR2 := hR
      rw [hf, miss_room m (S.readV m) hr] at hR2
      refine ⟨E, rfl, ?_, fun he => ?_, fun he => ?_⟩
      · rw [hR2]
        by_cases he : E = 0
        · rw [if_neg (by simpa using he)]; exact he.symm
        · rw [if_pos he]
      · rw [if_pos he] at hR2
        rw [hR2]; exact EvTo.after hc ht
      · rw [if_neg (by simpa using he)] at hR2
        have hr2 := room_wf hr hw
        exact addF (EvTo.after hc ht) hr2.1 (by omega) ⟨m, S.readV m, false, 0⟩ rfl R hR2
  obtain ⟨fe, hfe⟩ : ∃ x, S.readE m = x := ⟨_, rfl⟩
  obtain ⟨t, ht⟩ : ∃ x, strOf (S.readV m) = x := ⟨_, rfl⟩
  rw [hfe, ht] at HW
  rw [ht] at hB
  have HB : Hid (B = if R.e = 0 then t else ByteArray.empty) := hB
  clear h hw hR hB hd hfe ht hh hn
  generalize (m : Int) = mi at *
  go_enter Try.func32, Try.ntmps32
  go_wp2_with fail
  refine (show Calls _ _ _ _ _ from HI.out).mono ?_
  rintro e w1 ⟨rfl, rfl⟩
  go_wp2_with fail
  refine (show Calls _ _ _ _ _ from HF.out).mono ?_
  rintro e w2 ⟨rfl, rfl⟩
  go_wp2_with fail
  refine (show Calls _ _ _ _ _ from HW.out).mono ?_
  clear HI HF HW c0
  rintro e w3 ⟨k, b, rfl, c0, y1, HR, y2, y3⟩
  cases b with
  | false =>
    have HY := y1 rfl
    clear y1 y2 y3 HR
    go_wp2
    go_ret2
    have hb := HB.out
    rw [HY.out.1, if_neg (by decide)] at hb
    rw [HY.out.1, hb]
    exact ⟨rfl, HY.out.2⟩
  | true =>
    have y2' := y2 rfl
    have y3' := y3 rfl
    clear y1 y2 y3
    go_wp2_with fail
    refine (show Calls _ _ _ _ _ from HR.out).mono ?_
    rintro e w4 ⟨rfl, rfl⟩
    clear HR c0
    by_cases hf : fe = 0
    · have HE := y3' hf
      subst hf
      clear y2' y3'
      go_wp2_with fail
      refine (show Calls _ _ _ _ _ from HE.out).mono ?_
      clear HE
      rintro e w5 ⟨E, rfl, hRE, u1, u2⟩
      by_cases he : E = 0
      · obtain ⟨ms, lv, v1, w6, a2, n2, d2, w7, c4, f4, m0, m1, z2, ⟨la, ll, lp, rfl⟩, r1, r2, z3, z4, z5, HZ⟩ := u2 he
        subst he
        have HRE : Hid (R.e = 0) := hRE
        clear u1 u2 hRE
        go_wp2
        go_ret2
        have hb := HB.out
        rw [HRE.out, if_pos rfl] at hb
        rw [HRE.out, hb]
        exact ⟨rfl, HZ.out⟩
      · have HY := u1 he
        have he0 : (E == 0) = false := by simpa using he
        have HRE : Hid (R.e = E) := hRE
        clear u1 u2 hRE
        go_wp2
        go_ret2
        have hb := HB.out
        rw [HRE.out, if_neg he] at hb
        rw [HRE.out, hb]
        exact ⟨rfl, HY.out⟩
    · have HY := y2' hf
      have he0 : (fe == 0) = false := by simpa using hf
      clear y2' y3'
      go_wp2
      go_ret2
      have hb := HB.out
      rw [HY.out.1, if_neg hf] at hb
      rw [HY.out.1, hb]
      exact ⟨rfl, HY.out.2⟩
end Go.Proofs.Ytioloobeakjbeaa
