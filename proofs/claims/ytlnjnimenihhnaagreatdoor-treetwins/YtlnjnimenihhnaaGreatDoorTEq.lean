/-
  same of two nodes: contract.
-/
import Derived.Test.YtlnjnimenihhnaaGreatDoorTTwD
import Derived.Test.YtlnjnimenihhnaaGreatDoorTGood
import Derived.BigRegion
import Derived.BigQuiet
import Derived.Deep.QuietTactic
namespace Go.Proofs.YtlnjnimenihhnaaGreatDoor
open Go.RowKit Go.Maps Go.Sort

theorem SMap.lookOk {w : World} {m n : Nat} {f : ByteArray → Option Value} (h : SMap w m n f) {s : ByteArray} (hs : s.size ≤ 256) :
    (Instr.lookup 54 (.map (some m)) (.string s) true).run Tryz.prog w = .ok (.tuple #[(f s).getD (.pointer none), .bool (f s).isSome]) w := by
  obtain ⟨D, ⟨es, clock, hb, F, _, rfl⟩, hD, _⟩ := h
  have h0 := hD.has s hs
  rcases Maps.fit_look true law9 Tryz.underlying54 (zeroN w) hb F (key9 hs) with ⟨hrun, _, hat⟩ | ⟨e0, y, _, _, hrun, hRv, hat, _⟩
  · rw [has_false_of_atKey hat] at h0
    have e : f s = none := by
      cases e : f s with
      | none => rfl
      | some u => rw [e] at h0; cases h0
    rw [hrun, e]
    rfl
  · rw [has_true_of_atKey hat] at h0
    obtain ⟨u, hu⟩ := Option.isSome_iff_exists.1 h0.symm
    have h1 := hD.at' s u hs hu .nil
    rw [hat] at h1
    simp [hold] at hRv
    rw [← hRv] at h1
    cases h1
    rw [hrun, hu]
    rfl
open Classical in
/-- What same answers of two nodes. -/
noncomputable def eqB (F G : Pth → Option Nd) (p q : Pth) : Bool := decide (EqT (subF F p) (subF G q))
theorem eqB_iff {F G : Pth → Option Nd} {p q : Pth} : eqB F G p q = true ↔ EqT (subF F p) (subF G q) := by unfold eqB; simp
theorem eqB_no {F G : Pth → Option Nd} {p q : Pth} (h : ¬ EqN (F p) (G q)) : eqB F G p q = false := by
  cases e : eqB F G p q
  · rfl
  · have := eqB_iff.1 e []
    simp only [subF, List.append_nil] at this
    exact absurd this h
section
variable {w : World} {t t' : Nat} {T U : Ts}
theorem kids_iff (hT : Gd T) {p : Pth} {s : Nat} {kn : List ByteArray} (hp : T.F p = some (.dir s kn)) (x : ByteArray) : x ∈ kn ↔ (T.F (p ++ [x])).isSome = true := by
  refine ⟨hT.dn p s kn x hp, fun h => ?_⟩
  obtain ⟨s', k', h1, h2⟩ := hT.up p x h
  rw [hp] at h1; cases h1
  exact h2
theorem below_kn (hT : Gd T) {p : Pth} {s : Nat} {kn : List ByteArray} (hp : T.F p = some (.dir s kn)) {x : ByteArray} (r : Pth) (hx : ¬ x ∈ kn) : T.F (p ++ x :: r) = none := by
  cases e : T.F (p ++ x :: r) with
  | none => rfl
  | some z =>
    have h1 : p ++ x :: r = (p ++ [x]) ++ r := by simp
    have := hT.pre (p ++ [x]) _ r rfl (by rw [← h1, e]; rfl)
    exact absurd ((kids_iff hT hp x).2 this) hx
theorem EqN.some_iff {a b : Option Nd} (h : EqN a b) : a.isSome = b.isSome := by
  cases a with
  | none => cases b with
    | none => rfl
    | some y => exact h.elim
  | some x => cases b with
    | none => cases x <;> exact h.elim
    | some y => rfl
/-- Two directories are the same just if they have the same names, and what stands there is. -/
theorem eq_dirs (hT : Gd T) (hU : Gd U) {p q : Pth} {s s' : Nat} {kn kn' : List ByteArray} (hp : T.F p = some (.dir s kn)) (hq : U.F q = some (.dir s' kn')) :
    EqT (subF T.F p) (subF U.F q) ↔ kn.length = kn'.length ∧ ∀ x ∈ kn, x ∈ kn' ∧ eqB T.F U.F (p ++ [x]) (q ++ [x]) = true := by
  have hnd := (hT.nms _ _ _ hp).1
  have hnd' := (hU.nms _ _ _ hq).1
  constructor
  · intro h
    have hx : ∀ x, x ∈ kn ↔ x ∈ kn' := fun x => by
      rw [kids_iff hT hp, kids_iff hU hq]
      have := (h [x]).some_iff
      simp only [subF] at this
      rw [this]
    refine ⟨Nat.le_antisymm (nodup_len _ _ hnd hnd' (fun x h => (hx x).1 h)) (nodup_len _ _ hnd' hnd (fun x h => (hx x).2 h)), fun x hx1 => ⟨(hx x).1 hx1, eqB_iff.2 (fun r => ?_)⟩⟩
    have := h (x :: r)
    simpa [subF] using this
  · rintro ⟨hl, h⟩ r
    cases r with
    | nil =>
      simp only [subF, List.append_nil]
      rw [hp, hq]; trivial
    | cons x r =>
      by_cases hx : x ∈ kn
      · have := eqB_iff.1 (h x hx).2 r
        simpa [subF] using this
      · have hx' : ¬ x ∈ kn' := fun h2 => by
          have h3 := nodup_len (x :: kn) kn' (List.nodup_cons.2 ⟨hx, hnd⟩) hnd' (fun y hy => by
            rcases List.mem_cons.1 hy with rfl | hy
            · exact h2
            · exact (h y hy).1)
          simp at h3
          omega
        simp only [subF]
        rw [below_kn hT hp r hx, below_kn hU hq r hx']
        trivial
theorem eq_files (hT : Gd T) (hU : Gd U) {p q : Pth} {bs cs : List Int} (hp : T.F p = some (.file bs)) (hq : U.F q = some (.file cs)) : EqT (subF T.F p) (subF U.F q) ↔ bs = cs := by
  have hn : ∀ {V : Ts} {p : Pth} {bs : List Int}, Gd V → V.F p = some (.file bs) → ∀ x r, V.F (p ++ x :: r) = none := fun {V p bs} hV hp x r => by
    cases e : V.F (p ++ x :: r) with
    | none => rfl
    | some z =>
      have h1 : p ++ x :: r = (p ++ [x]) ++ r := by simp
      have := hV.pre (p ++ [x]) _ r rfl (by rw [← h1, e]; rfl)
      obtain ⟨s, k, h2, _⟩ := hV.up p x this
      rw [hp] at h2; cases h2
  constructor
  · intro h
    have := h []
    simp only [subF, List.append_nil] at this
    rw [hp, hq] at this
    exact this
  · rintro rfl r
    cases r with
    | nil =>
      simp only [subF, List.append_nil]
      rw [hp, hq]
      exact EqN.refl _
    | cons x r =>
      simp only [subF]
      rw [hn hT hp, hn hU hq]
      trivial
end
set_option maxHeartbeats 1600000 in
/-- maps.EqualFunc of two nil maps. -/
theorem eqf_nil (w : World) (f : Value) : Calls Tryz.prog 77 #[.map none, .map none, f] w fun e w' => e = .returned (.bool true) ∧ Below w.heap.size w w' := by
  have hrg := run_range_nilMap (P := Tryz.prog) w 54 9 57 Tryz.underlying54
  have hnx : ∀ ty, (Instr.next (.pointer (some ⟨w.heap.size, 0, none⟩)) false ty).run Tryz.prog (w.alloc (.mapIter none 0 #[] 0)) = _ := fun ty => run_next_nilMap w ty 0 0 #[]
  go_enter Tryz.func77, Tryz.ntmps77
  go_wp2
  refine wp_loop_rounds 1 ?_
  rw [rounds_succ]
  go_wp2
  go_ret
  exact ⟨rfl, below_alloc _ _⟩
open Classical in
set_option maxHeartbeats 1600000 in
set_option maxRecDepth 100000 in
/-- maps.EqualFunc with same, of two maps of nodes. -/
theorem eqf_any (m1 m2 n1 n2 : Nat) (f1 f2 : ByteArray → Option Value) (kn kn' : List ByteArray) (E : ByteArray → Bool) (b1 b2 : ByteArray → Nat) (w : World) (h1 : SMap w m1 n1 f1) (h2 : SMap w m2 n2 f2) (_hn1 : n1 ≤ 1000000) (hn2 : n2 ≤ 1000000)
    (e1 : ∀ x, f1 x = if inB x kn = true then some (ptr (b1 x)) else none) (e2 : ∀ x, f2 x = if inB x kn' = true then some (ptr (b2 x)) else none) (hs : ∀ x ∈ kn, x.size ≤ 256)
    (HE : ∀ x wb, x ∈ kn → x ∈ kn' → Below w.heap.size w wb → Calls Tryz.prog 43 #[ptr (b1 x), ptr (b2 x)] wb fun e w' => e = .returned (.bool (E x)) ∧ Below wb.heap.size wb w') :
    Calls Tryz.prog 77 #[.map (some m1), .map (some m2), .func (.func 43) #[] #[]] w fun e w' => e = .returned (.bool (decide (n1 = n2) && decide (∀ x ∈ kn, x ∈ kn' ∧ E x = true))) ∧ Below w.heap.size w w' := by
  have l1 := h1.len 3
  have l2 := h2.len 3
  by_cases hn : n1 = n2
  case neg =>
    have k1 : ¬ ((n1 : Int) = n2) := by omega
    have k2 : ((n1 : Int) == n2) = false := by simpa using k1
    have e : (decide (n1 = n2) && decide (∀ x ∈ kn, x ∈ kn' ∧ E x = true)) = false := by simp [hn]
    rw [e]
    clear h1 h2 e1 e2 HE e
    go_enter Tryz.func77, Tryz.ntmps77
    go_wp2_with fail
    go_ret
    exact ⟨rfl, Below.refl _ _⟩
  subst hn
  have HF : ∀ r : Bool, (r = true ↔ ∀ x ∈ kn, x ∈ kn' ∧ E x = true) → (decide (n1 = n1) && decide (∀ x ∈ kn, x ∈ kn' ∧ E x = true)) = r := fun r h => by
    cases r
    · have : ¬ ∀ x ∈ kn, x ∈ kn' ∧ E x = true := fun h2 => by have := h.2 h2; cases this
      simp [this]
    · have := h.1 rfl
      simpa using this
  obtain ⟨R, hR⟩ : ∃ R, Hid ((decide (n1 = n1) && decide (∀ x ∈ kn, x ∈ kn' ∧ E x = true)) = R) := ⟨_, rfl⟩
  rw [hR.out]
  have HR : Hid (∀ r : Bool, (r = true ↔ ∀ x ∈ kn, x ∈ kn' ∧ E x = true) → r = R) := fun r h => (HF r h).symm.trans hR.out
  have H2 : Hid (SMap w m2 n1 f2 ∧ (∀ x, f1 x = if inB x kn = true then some (ptr (b1 x)) else none) ∧ (∀ x, f2 x = if inB x kn' = true then some (ptr (b2 x)) else none) ∧ (∀ x ∈ kn, x.size ≤ 256) ∧ (∀ x wb, x ∈ kn → x ∈ kn' → Below w.heap.size w wb → Calls Tryz.prog 43 #[ptr (b1 x), ptr (b2 x)] wb fun e w' => e = .returned (.bool (E x)) ∧ Below wb.heap.size wb w')) := ⟨h2, e1, e2, hs, HE⟩
  clear HF hR HE e1 e2 hs h2
  go_enter Tryz.func77, Tryz.ntmps77
  go_wp2_with (at_range; refine wpList_range_s _ rfl (.tmp 16) rfl m1 n1 f1 rfl h1 ?_; intro w0 cnt0 hrg0 hg0 hs0)
  go_frame
  have REL0 : Hid (Rng w0 m1 w.heap.size f1 (fun x => (f1 x).isSome) cnt0 ∧ Below w.heap.size w w0 ∧ w.heap.size < w0.heap.size ∧ m1 < w.heap.size ∧ ∀ x, x.size ≤ 256 → (f1 x).isSome = false → x ∈ kn → x ∈ kn' ∧ E x = true) := by
    refine ⟨hrg0, (Chg.of_none hg0).below (Nat.le_refl _) (fun _ h => h.elim), by omega, h1.lt, fun x _ h h2 => ?_⟩
    rw [H2.out.2.1 x, (inB_iff _ _).2 h2] at h
    cases h
  clear hrg0 hg0 hs0 l1 l2 h1
  go_loopw [7, 8, 9, 10] (fun _ _ _ _ wr => ∃ g cnt, Hid (Rng wr m1 w.heap.size f1 g cnt ∧ Below w.heap.size w wr ∧ w.heap.size < wr.heap.size ∧ m1 < w.heap.size ∧ ∀ x, x.size ≤ 256 → g x = false → x ∈ kn → x ∈ kn' ∧ E x = true)) (fun _ _ _ _ wr => wr.rangeLeft m1 w.heap.size)
  case atStart => exact ⟨_, _, REL0⟩
  case round =>
    clear REL0
    obtain ⟨g, cnt, HQ⟩ := hrel
    have hrg := HQ.out.1
    go_wp2_with (first
      | (at_next; refine wpList_next_s _ rfl (.tmp 17) rfl m1 w.heap.size f1 g cnt rfl hrg ?_ ?_)
      | go_in)
    · intro hdone
      have er : true = R := HR.out true ⟨fun _ x hx => HQ.out.2.2.2.2 x (H2.out.2.2.2.1 x hx) (hdone x (H2.out.2.2.2.1 x hx)) hx, fun _ => rfl⟩
      subst er
      have B := HQ.out.2.1
      clear HR HQ hrg H2
      go_wp2_with fail
      go_ret
      exact ⟨rfl, B⟩
    · intro x v w2 cnt2 hx hgx hfx hrg2 hlt2 hg2 hs2 hen
      have hk : x ∈ kn := by
        rw [H2.out.2.1 x] at hfx
        cases e : inB x kn
        · rw [e] at hfx; cases hfx
        · exact (inB_iff _ _).1 e
      have hv : v = ptr (b1 x) := by
        rw [H2.out.2.1 x, (inB_iff _ _).2 hk] at hfx
        cases hfx; rfl
      subst hv
      have B2 : Below w.heap.size w w2 := HQ.out.2.1.trans ((Chg.of_grown hg2).below HQ.out.2.1.size (fun _ h => by omega))
      have lk := (H2.out.1.kept ((Chg.ofBelowC B2).block m2 H2.out.1.lt (fun h => h))).lookOk hx
      rw [H2.out.2.2.1 x] at lk
      by_cases hk' : x ∈ kn'
      case neg =>
        rw [inB_not hk'] at lk
        simp only [Bool.false_eq_true, if_false, Option.getD_none, Option.isSome_none] at lk
        have er : false = R := HR.out false ⟨(fun h => by cases h), (fun h => absurd (h x hk).1 hk')⟩
        subst er
        clear HR HQ hrg H2 hrg2 hg2 hlt2 hs2 hfx
        go_wp2_with fail
        go_ret
        exact ⟨rfl, B2⟩
      rw [(inB_iff _ _).2 hk'] at lk
      simp only [if_true, Option.getD_some, Option.isSome_some] at lk
      have HC := H2.out.2.2.2.2 x w2 hk hk' B2
      have hl := hrg.left
      have HN : Hid (E x = true → ∀ w3, Below w2.heap.size w2 w3 → Rng w3 m1 w.heap.size f1 (updG g x) cnt2 ∧ Below w.heap.size w w3 ∧ w.heap.size < w3.heap.size ∧ m1 < w.heap.size ∧ ∀ y, y.size ≤ 256 → updG g x y = false → y ∈ kn → y ∈ kn' ∧ E y = true) := fun hE w3 B3 => by
        have C3 := Chg.ofBelowC B3
        refine ⟨hrg2.kept (C3.block m1 (by have := HQ.out.2.2.2.1; have := B2.size; omega) (fun h => h)) (C3.block _ hrg2.lt (fun h => h)), B2.trans (B3.mono B2.size), by have := B3.size; have := HQ.out.2.2.1; omega, HQ.out.2.2.2.1, fun y hy hgy hyk => ?_⟩
        unfold updG at hgy
        by_cases e : y = x
        · rw [e]; exact ⟨hk', hE⟩
        · rw [if_neg e] at hgy
          exact HQ.out.2.2.2.2 y hy hgy hyk
      have HX : Hid (E x = false → false = R) := fun hE => HR.out false ⟨(fun h => by cases h), fun h => by have := (h x hk).2; rw [hE] at this; cases this⟩
      have HB : Hid (Below w.heap.size w w2) := B2
      clear HQ hrg H2 hrg2 hg2 hs2 hfx HR B2 hk hk'
      go_wp2_with fail
      refine HC.mono ?_
      rintro e w3 ⟨rfl, B3⟩
      clear HC lk
      cases hE : E x with
      | false =>
        have er := HX.out hE
        subst er
        go_wp2_with fail
        go_ret
        exact ⟨rfl, HB.out.trans (B3.mono HB.out.size)⟩
      | true =>
        have N3 : Hid _ := HN.out hE w3 B3
        have hl3 := N3.out.1.left
        clear B3 HN HX HB
        go_wp2_with fail
        go_roundw
        case rel => exact ⟨_, cnt2, N3⟩
        case measure => rw [hl3, hl]; exact hlt2
set_option maxHeartbeats 400000 in
theorem equalB_any (u v : Value) (xs ys : List Int) (w : World) (hu : Bs w u xs) (hv : Bs w v ys) (hx : IsB xs) (hy : IsB ys) :
    Calls Tryz.prog 76 #[u, v] w fun e w' => e = .returned (.bool (decide (xs = ys))) ∧ w' = w := by
  have s1 := run_strC hu
  have s2 := run_strC hv
  by_cases h : xs = ys
  · subst h
    obtain ⟨t, ht⟩ : ∃ t, strC xs = t := ⟨_, rfl⟩
    rw [ht] at s1 s2
    clear ht hu hv
    go_enter Tryz.func76, Tryz.ntmps76
    go_wp2
    go_ret
    exact ⟨by simp, rfl⟩
  · have k := strC_ne xs ys hx hy h
    obtain ⟨t, ht⟩ : ∃ t, strC xs = t := ⟨_, rfl⟩
    obtain ⟨t', ht'⟩ : ∃ t, strC ys = t := ⟨_, rfl⟩
    rw [ht] at s1 k
    rw [ht'] at s2 k
    clear ht ht' hu hv
    go_enter Tryz.func76, Tryz.ntmps76
    go_wp2
    go_ret
    exact ⟨by simp [h], rfl⟩
set_option maxHeartbeats 1600000 in
theorem same_kind (b c : Nat) (x : Bool) (w : World) (c0 : w.cell? ⟨b, 0, none⟩ = some (.bool x)) (d0 : w.cell? ⟨c, 0, none⟩ = some (.bool (!x))) :
    Calls Tryz.prog 43 #[ptr b, ptr c] w fun e w' => e = .returned (.bool false) ∧ Below w.heap.size w w' := by
  cases x <;>
  · simp only [Bool.not_true, Bool.not_false] at d0
    go_enter Tryz.func43, Tryz.ntmps43
    go_wp2_with fail
    go_quiet (fail)
    go_wp2_with fail
    go_ret
    exact ⟨rfl, by first | exact below_drewN _ _ _ | exact below_drew _ _ | exact Below.refl _ _⟩
set_option maxHeartbeats 1600000 in
theorem same_bytes (b c : Nat) (x : Bool) (a1 a2 : Option Addr) (n1 n2 k1 k2 : Nat) (w : World) (c0 : w.cell? ⟨b, 0, none⟩ = some (.bool x)) (d0 : w.cell? ⟨c, 0, none⟩ = some (.bool x)) (c1 : w.cell? ⟨b, 1, none⟩ = some (.slice a1 n1 k1)) (d1 : w.cell? ⟨c, 1, none⟩ = some (.slice a2 n2 k2))
    (HQ : ∀ wb, Hid (Below w.heap.size w wb) → Hid (Calls Tryz.prog 76 #[.slice a1 n1 k1, .slice a2 n2 k2] wb fun e w' => e = .returned (.bool false) ∧ w' = wb)) :
    Calls Tryz.prog 43 #[ptr b, ptr c] w fun e w' => e = .returned (.bool false) ∧ Below w.heap.size w w' := by
  have B0 : ∀ k, Hid (Below w.heap.size w (w.drewN k).drew) := fun k => ⟨rfl, rfl, rfl, Nat.le_refl _, fun _ _ => rfl⟩
  have B9 : ∀ k, Hid (Below w.heap.size w (w.drewN k)) := fun k => ⟨rfl, rfl, rfl, Nat.le_refl _, fun _ _ => rfl⟩
  have B1 : Hid (Below w.heap.size w w.drew) := ⟨rfl, rfl, rfl, Nat.le_refl _, fun _ _ => rfl⟩
  cases x <;>
  · go_enter Tryz.func43, Tryz.ntmps43
    go_wp2_with fail
    go_quiet (first | (go_at_call 76; exact Calls.quiet_of_same (HQ _ (by first | exact B1 | exact B0 _ | exact B9 _)).out))
    go_wp2_with fail
    go_ret
    exact ⟨rfl, by first | exact below_drewN _ _ _ | exact below_drew _ _ | exact Below.refl _ _⟩
set_option maxHeartbeats 1600000 in
set_option maxRecDepth 100000 in
theorem same_go (b c : Nat) (x : Bool) (a1 a2 : Option Addr) (n1 n2 k1 k2 : Nat) (o1 o2 : Option Nat) (R : Bool) (w : World) (c0 : w.cell? ⟨b, 0, none⟩ = some (.bool x)) (d0 : w.cell? ⟨c, 0, none⟩ = some (.bool x)) (c1 : w.cell? ⟨b, 1, none⟩ = some (.slice a1 n1 k1)) (d1 : w.cell? ⟨c, 1, none⟩ = some (.slice a2 n2 k2)) (c2 : w.cell? ⟨b, 2, none⟩ = some (.map o1)) (d2 : w.cell? ⟨c, 2, none⟩ = some (.map o2))
    (HQ : ∀ wb, Hid (Below w.heap.size w wb) → Hid (Calls Tryz.prog 76 #[.slice a1 n1 k1, .slice a2 n2 k2] wb fun e w' => e = .returned (.bool true) ∧ Hid (Below w.heap.size w w')))
    (HF : ∀ wb, Hid (Below w.heap.size w wb) → Hid (Calls Tryz.prog 77 #[.map o1, .map o2, .func (.func 43) #[] #[]] wb fun e w' => e = .returned (.bool R) ∧ Hid (Below w.heap.size w w'))) :
    Calls Tryz.prog 43 #[ptr b, ptr c] w fun e w' => e = .returned (.bool R) ∧ Below w.heap.size w w' := by
  have B0 : ∀ k, Hid (Below w.heap.size w (w.drewN k).drew) := fun k => ⟨rfl, rfl, rfl, Nat.le_refl _, fun _ _ => rfl⟩
  have B9 : ∀ k, Hid (Below w.heap.size w (w.drewN k)) := fun k => ⟨rfl, rfl, rfl, Nat.le_refl _, fun _ _ => rfl⟩
  have B1 : Hid (Below w.heap.size w w.drew) := ⟨rfl, rfl, rfl, Nat.le_refl _, fun _ _ => rfl⟩
  have HS : ∀ w', Hid (Below w.heap.size w w') → (Hid (Below w.heap.size w w') ∧ w'.cell? ⟨b, 0, none⟩ = some (.bool x) ∧ w'.cell? ⟨c, 0, none⟩ = some (.bool x) ∧ w'.cell? ⟨b, 1, none⟩ = some (.slice a1 n1 k1) ∧ w'.cell? ⟨c, 1, none⟩ = some (.slice a2 n2 k2) ∧ w'.cell? ⟨b, 2, none⟩ = some (.map o1) ∧ w'.cell? ⟨c, 2, none⟩ = some (.map o2)) := fun w' hb => ⟨hb, (Chg.ofBelowC hb.out).cell c0 (fun h => h), (Chg.ofBelowC hb.out).cell d0 (fun h => h), (Chg.ofBelowC hb.out).cell c1 (fun h => h), (Chg.ofBelowC hb.out).cell d1 (fun h => h), (Chg.ofBelowC hb.out).cell c2 (fun h => h), (Chg.ofBelowC hb.out).cell d2 (fun h => h)⟩
  cases x
  · clear c0 c1 c2 d0 d1 d2
    go_enter Tryz.func43, Tryz.ntmps43
    go_wp2_with fail
    go_region_held (fun w' => (Hid (Below w.heap.size w w') ∧ w'.cell? ⟨b, 0, none⟩ = some (.bool false) ∧ w'.cell? ⟨c, 0, none⟩ = some (.bool false) ∧ w'.cell? ⟨b, 1, none⟩ = some (.slice a1 n1 k1) ∧ w'.cell? ⟨c, 1, none⟩ = some (.slice a2 n2 k2) ∧ w'.cell? ⟨b, 2, none⟩ = some (.map o1) ∧ w'.cell? ⟨c, 2, none⟩ = some (.map o2))) (exact HS _ (by first | with_reducible assumption | exact B1 | exact B0 _ | exact B9 _))
      (first | (go_at_call 76; refine (HQ _ (by first | with_reducible assumption | exact B1 | exact B0 _ | exact B9 _)).out.mono ?_; rintro e w5 ⟨rfl, HB5⟩) | (go_at_call 77; refine (HF _ (by first | with_reducible assumption | exact B1 | exact B0 _ | exact B9 _)).out.mono ?_; rintro e w5 ⟨rfl, HB5⟩))
    all_goals go_wp2_with fail
    all_goals go_ret
    all_goals exact ⟨rfl, by have := (by assumption : Hid (Below w.heap.size w _)); exact this.out⟩
  · clear c0 c1 c2 d0 d1 d2
    go_enter Tryz.func43, Tryz.ntmps43
    go_wp2_with fail
    go_region_held (fun w' => (Hid (Below w.heap.size w w') ∧ w'.cell? ⟨b, 0, none⟩ = some (.bool true) ∧ w'.cell? ⟨c, 0, none⟩ = some (.bool true) ∧ w'.cell? ⟨b, 1, none⟩ = some (.slice a1 n1 k1) ∧ w'.cell? ⟨c, 1, none⟩ = some (.slice a2 n2 k2) ∧ w'.cell? ⟨b, 2, none⟩ = some (.map o1) ∧ w'.cell? ⟨c, 2, none⟩ = some (.map o2))) (exact HS _ (by first | with_reducible assumption | exact B1 | exact B0 _ | exact B9 _))
      (first | (go_at_call 76; refine (HQ _ (by first | with_reducible assumption | exact B1 | exact B0 _ | exact B9 _)).out.mono ?_; rintro e w5 ⟨rfl, HB5⟩) | (go_at_call 77; refine (HF _ (by first | with_reducible assumption | exact B1 | exact B0 _ | exact B9 _)).out.mono ?_; rintro e w5 ⟨rfl, HB5⟩))
    all_goals go_wp2_with fail
    all_goals go_ret
    all_goals exact ⟨rfl, by have := (by assumption : Hid (Below w.heap.size w _)); exact this.out⟩
end Go.Proofs.YtlnjnimenihhnaaGreatDoor
