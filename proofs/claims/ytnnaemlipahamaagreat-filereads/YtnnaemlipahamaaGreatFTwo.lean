/-
  Two files over one pool: their blocks are apart, and nothing else is taken.
-/
import Derived.Test.YtnnaemlipahamaaGreatFAll
import Derived.Test.YtnnaemlipahamaaGreatFPut
import Derived.Test.YtnnaemlipahamaaGreatFCutB
namespace Go.Proofs.YtnnaemlipahamaaGreat
open Go.RowKit Go.Maps

theorem grw_fresh (F n : Nat) : ∀ (ks : List Nat) (s : (Nat → Bool) × (Nat → Nat)) (k : Nat), cntT s.1 n + ks.length ≤ n → k ∈ ks → s.1 ((grw F n s ks).2 k - F) = false
  | [], _, _, _, h => by cases h
  | a :: r, s, k, hc, h => by
    rw [List.length_cons] at hc
    have hs := frN_spec (n := n) (T := s.1) (by omega)
    have e : cntT (stp F n s a).1 n = cntT s.1 n + 1 := cntT_set hs.2.1 hs.1
    rw [show a :: r = [a] ++ r from rfl, grw_app, grw_one]
    by_cases hr : k ∈ r
    · have := grw_fresh F n r (stp F n s a) k (by omega) hr
      generalize (grw F n (stp F n s a) r).2 k - F = j at *
      have this' : upd s.1 (frN n s.1) true j = false := this
      by_cases ej : j = frN n s.1
      · rw [ej, upd_same] at this'; cases this'
      · rw [upd_other _ _ ej] at this'; exact this'
    · have hka : k = a := (List.mem_cons.1 h).resolve_right hr
      rw [grw_other F n r _ k hr, hka]
      have e2 : (stp F n s a).2 a = F + frN n s.1 := upd_same _ _ _
      rw [e2, Nat.add_sub_cancel_left]
      exact hs.2.1
theorem keysTo_nodup (m : Nat) : ∀ j, m + j ≤ 16520 → (keysTo m j).Nodup
  | 0, _ => List.nodup_nil
  | j + 1, h => by
    rw [keysTo, List.nodup_append]
    refine ⟨keysTo_nodup m j (by omega), (begunK_ok (by omega)).nodup, fun a ha b hb e => ?_⟩
    have h1 := keysTo_fst m ha
    have h2 := begunK_fst hb
    rw [e] at h1
    omega
theorem drp_cnt {F n : Nat} {B : Nat → Nat} {T : Nat → Bool} : ∀ {ks : List Nat}, ks.Nodup → (∀ k, k ∈ ks → F ≤ B k ∧ B k < F + n ∧ T (B k - F) = true) → (∀ k l, k ∈ ks → l ∈ ks → B k = B l → k = l) → cntT (drp F B T ks) n + ks.length = cntT T n
  | [], _, _, _ => by rw [drp_nil]; rfl
  | k :: r, hn, ho, hi => by
    rw [List.nodup_cons] at hn
    have hk := ho k (List.mem_cons_self ..)
    have ih := drp_cnt (F := F) (n := n) (B := B) (T := T) hn.2 (fun l hl => ho l (List.mem_cons_of_mem _ hl)) (fun a b ha hb => hi a b (List.mem_cons_of_mem _ ha) (List.mem_cons_of_mem _ hb))
    rw [drp_cons hk.1]
    have ht : drp F B T r (B k - F) = true := by
      rw [drp_keep (fun l hl e => ?_)]
      · exact hk.2.2
      · have : l = k := hi l k (List.mem_cons_of_mem _ hl) (List.mem_cons_self ..) (by omega)
        exact hn.1 (this ▸ hl)
    have := cntT_clear ht (n := n) (by omega)
    rw [List.length_cons]
    omega
section
variable {c : Cx} {V V' : Nat → List Int} {nd nd0 nd1 : Nd} {B B0 B1 : Nat → Nat} {T T' : Nat → Bool} {bs bs0 bs1 b : List Int} {X : Nat → Prop} {w w' : World}
/-- A file stays as it is where its blocks do. -/
theorem File.frame (h : File c V nd B T bs) (hV : ∀ k, live (blkC bs.length) k → V' (B k) = V (B k)) (hT : ∀ k, live (blkC bs.length) k → T' (B k - c.F) = true) : File c V' nd B T' bs :=
  ⟨⟨h.fl.sh.congrV hV, fun k hk => ⟨(h.fl.own k hk).1, (h.fl.own k hk).2.1, hT k hk⟩, h.fl.idx⟩, ⟨h.ct.len, fun i hi => by rw [hV _ (by unfold live; omega)]; exact h.ct.blk i hi⟩, h.sz, h.lim, h.by'⟩
/-- Two files, apart; nothing else is taken. -/
structure Two (c : Cx) (V : Nat → List Int) (T : Nat → Bool) (nd0 : Nd) (B0 : Nat → Nat) (bs0 : List Int) (nd1 : Nd) (B1 : Nat → Nat) (bs1 : List Int) : Prop where
  f0 : File c V nd0 B0 T bs0
  f1 : File c V nd1 B1 T bs1
  apart : ∀ k l, live (blkC bs0.length) k → live (blkC bs1.length) l → B0 k ≠ B1 l
  cnt : cntT T c.n = allM (blkC bs0.length) + allM (blkC bs1.length)
theorem Two.swap (h : Two c V T nd0 B0 bs0 nd1 B1 bs1) : Two c V T nd1 B1 bs1 nd0 B0 bs0 :=
  ⟨h.f1, h.f0, fun k l hk hl e => h.apart l k hl hk e.symm, by rw [h.cnt]; omega⟩
/-- Another context with the same pool. -/
theorem File.cx {c' : Cx} (h : File c V nd B T bs) (hF : c'.F = c.F) (hn : c'.n = c.n) : File c' V nd B T bs :=
  ⟨⟨h.fl.sh, fun k hk => by rw [hF, hn]; exact h.fl.own k hk, h.fl.idx⟩, h.ct, h.sz, h.lim, h.by'⟩
theorem Two.cx {c' : Cx} (h : Two c V T nd0 B0 bs0 nd1 B1 bs1) (hF : c'.F = c.F) (hn : c'.n = c.n) : Two c' V T nd0 B0 bs0 nd1 B1 bs1 :=
  ⟨h.f0.cx hF hn, h.f1.cx hF hn, h.apart, by rw [hn]; exact h.cnt⟩
theorem Two.empty (h0 : nd0.free) (h1 : nd1.free) : Two c V (fun _ => false) nd0 B0 [] nd1 B1 [] :=
  ⟨File.empty h0, File.empty h1, fun k _ hk => absurd hk live0, by rw [cntT_none (fun _ _ => rfl)]; rfl⟩
/-- Append to the first of them. -/
theorem two_append (u : Value) (hs : Fs c X w V T) (h : Two c V T nd0 B0 bs0 nd1 B1 bs1) (ho : c.Ok) (hl : bs0.length + b.length ≤ 8458240) (hb : Bs w u b) (hub : ∀ g, u.ownBlock = some g → 0 < b.length → X g) (hby : IsBy b)
    (hcnt : allM (blkC (bs0.length + b.length)) + allM (blkC bs1.length) ≤ c.n) (hW : Wrt c (grw c.F c.n (T, B0) (keysTo (blkC bs0.length) (blkC (bs0.length + b.length) - blkC bs0.length))).2 (blkC bs0.length) (blkC (bs0.length + b.length))) :
    Calls Tryz.prog 15 #[.pointer (some ⟨c.q, 0, none⟩), PV c.M c.F c.n, nd0.v, u] w fun e w' => ∃ nd' V' s, e = .returned (.tuple #[nd'.v, .int .i64 0]) ∧ s = grw c.F c.n (T, B0) (keysTo (blkC bs0.length) (blkC (bs0.length + b.length) - blkC bs0.length)) ∧ Fs c X w' V' s.1 ∧ Two c V' s.1 nd' s.2 (bs0 ++ b) nd1 B1 bs1 ∧ (nd'.kd = nd0.kd ∧ nd'.lk = nd0.lk) ∧ Sm X w w' := by
  have hc := h.cnt
  refine (append_ok u hs h.f0 ho hl hb hub hby (by omega) hW).mono ?_
  rintro e w' ⟨nd', rfl, V', s, hS, f', F', k', fr', sm'⟩
  refine ⟨nd', V', s, rfl, hS, f', ⟨F', ?_, ?_, ?_⟩, k', sm'⟩
  · refine h.f1.frame (fun k hk => ?_) (fun k hk => ?_)
    · have ho1 := h.f1.fl.own k hk
      exact fr' _ ho1.1 ho1.2.1 ho1.2.2 (fun l hl e => h.apart l k hl hk e)
    · rw [hS]
      exact grw_mono _ _ _ _ _ (h.f1.fl.own k hk).2.2
  · intro k l hk hl' e
    rw [List.length_append] at hk
    have hle : blkC bs0.length ≤ blkC (bs0.length + b.length) := by unfold blkC; omega
    have hkl := keysTo_len (blkC bs0.length) (blkC (bs0.length + b.length) - blkC bs0.length)
    have hkk := (keysTo_live (blkC bs0.length) (blkC (bs0.length + b.length) - blkC bs0.length) k).1 (by rw [show blkC bs0.length + (blkC (bs0.length + b.length) - blkC bs0.length) = blkC (bs0.length + b.length) by omega]; exact hk)
    rw [show blkC bs0.length + (blkC (bs0.length + b.length) - blkC bs0.length) = blkC (bs0.length + b.length) by omega] at hkl
    by_cases hm : k ∈ keysTo (blkC bs0.length) (blkC (bs0.length + b.length) - blkC bs0.length)
    · have := grw_fresh c.F c.n _ (T, B0) k (by show cntT T c.n + _ ≤ _; omega) hm
      rw [← hS, e] at this
      rw [show (T, B0).1 = T from rfl, (h.f1.fl.own l hl').2.2] at this
      cases this
    · rw [hS, grw_other _ _ _ _ _ hm] at e
      exact h.apart k l (hkk.resolve_right hm) hl' e
  · have hle : blkC bs0.length ≤ blkC (bs0.length + b.length) := by unfold blkC; omega
    have hkl := keysTo_len (blkC bs0.length) (blkC (bs0.length + b.length) - blkC bs0.length)
    rw [show blkC bs0.length + (blkC (bs0.length + b.length) - blkC bs0.length) = blkC (bs0.length + b.length) by omega] at hkl
    rw [hS, grw_cnt _ _ _ _ (by show cntT T c.n + _ ≤ _; omega), List.length_append]
    show cntT T c.n + _ = _
    omega
/-- .. where it does not fit. -/
theorem two_full (u : Value) (hs : Fs c X w V T) (h : Two c V T nd0 B0 bs0 nd1 B1 bs1) (ho : c.Ok) (hl : bs0.length + b.length ≤ 8458240) (hb : Bs w u b)
    (hcnt : c.n < allM (blkC (bs0.length + b.length)) + allM (blkC bs1.length)) :
    Calls Tryz.prog 15 #[.pointer (some ⟨c.q, 0, none⟩), PV c.M c.F c.n, nd0.v, u] w fun e w' => e = .returned (.tuple #[Nd.no.v, .int .i64 7]) ∧ Chg (fun _ => False) w w' := by
  have hc := h.cnt
  have := append_full u hs h.f0 ho hl hb (by omega)
  exact this
/-- Cut of the first of them. -/
theorem two_cut (size : Nat) (hs : Fs c X w V T) (h : Two c V T nd0 B0 bs0 nd1 B1 bs1) (ho : c.Ok) (hz : size ≤ bs0.length) (hW : WrtC c B0 (blkC size) size) :
    Calls Tryz.prog 18 #[.pointer (some ⟨c.q, 0, none⟩), PV c.M c.F c.n, nd0.v, .int .i64 (size : Int)] w fun e w' => ∃ nd' V' T', e = .returned (.tuple #[nd'.v, .int .i64 0]) ∧ T' = drp c.F B0 T (keysTo (blkC size) (blkC bs0.length - blkC size)) ∧ Fs c X w' V' T' ∧ Two c V' T' nd' B0 (bs0.take size) nd1 B1 bs1 ∧ (nd'.kd = nd0.kd ∧ nd'.lk = nd0.lk) ∧ Sm X w w' := by
  refine (cut_ok size hs h.f0 ho hz hW).mono ?_
  rintro e w' ⟨nd', rfl, V', T', hT, f', F', k', fr', sm'⟩
  have hlen : (bs0.take size).length = size := by rw [List.length_take]; omega
  have hle : blkC size ≤ blkC bs0.length := by unfold blkC; omega
  have hlim := h.f0.lim
  have hM : blkC bs0.length ≤ 16520 := by unfold blkC; omega
  have hkl : ∀ k, k ∈ keysTo (blkC size) (blkC bs0.length - blkC size) → live (blkC bs0.length) k := fun k hk => by
    have := (keysTo_live (blkC size) (blkC bs0.length - blkC size) k).2 (.inr hk)
    rw [show blkC size + (blkC bs0.length - blkC size) = blkC bs0.length by omega] at this
    exact this
  refine ⟨nd', V', T', rfl, hT, f', ⟨F', ?_, ?_, ?_⟩, k', sm'⟩
  · refine h.f1.frame (fun k hk => ?_) (fun k hk => ?_)
    · have ho1 := h.f1.fl.own k hk
      exact fr' _ ho1.1 ho1.2.1 (fun l hl e => h.apart l k hl hk e)
    · have ho1 := h.f1.fl.own k hk
      rw [hT, drp_keep (fun l hl e => ?_)]
      · exact ho1.2.2
      · exact h.apart l k (hkl l hl) hk (by omega)
  · intro k l hk hl
    rw [hlen] at hk
    exact h.apart k l (live_mono hk hle) hl
  · have hkc := keysTo_len (blkC size) (blkC bs0.length - blkC size)
    rw [show blkC size + (blkC bs0.length - blkC size) = blkC bs0.length by omega] at hkc
    have := drp_cnt (F := c.F) (n := c.n) (B := B0) (T := T) (keysTo_nodup (blkC size) (blkC bs0.length - blkC size) (by omega)) (fun k hk => h.f0.fl.own k (hkl k hk)) (fun k l hk hl e => h.f0.fl.sh.inj k l (hkl k hk) (hkl l hl) e)
    have hc := h.cnt
    rw [hlen, hT]
    omega
/-- Put into the first of them. -/
theorem two_put (off : Nat) (u : Value) (hs : Fs c X w V T) (h : Two c V T nd0 B0 bs0 nd1 B1 bs1) (ho : c.Ok) (hl : off + b.length ≤ bs0.length) (hb : Bs w u b) (hub : ∀ g, u.ownBlock = some g → 0 < b.length → X g) (hby : IsBy b) (hL : ∀ i, off / 512 ≤ i → 512 * i < off + b.length → B0 (2 * i) ∈ c.L) :
    Calls Tryz.prog 17 #[.pointer (some ⟨c.q, 0, none⟩), nd0.v, .int .i64 (off : Int), u] w fun e w' => ∃ V', e = .returned (.int .i64 0) ∧ Fs c X w' V' T ∧ Two c V' T nd0 B0 (splice bs0 off b) nd1 B1 bs1 ∧ Sm X w w' := by
  refine (put_ok off u hs h.f0 ho hl hb hub hby hL).mono ?_
  rintro e w' ⟨rfl, V', f', F', fr', sm'⟩
  have hlen := splice_len hl
  refine ⟨V', rfl, f', ⟨F', ?_, by rw [hlen]; exact h.apart, by rw [hlen]; exact h.cnt⟩, sm'⟩
  refine h.f1.frame (fun k hk => fr' _ (fun i hi e => h.apart (2 * i) k (by unfold live; omega) hk e)) (fun k hk => (h.f1.fl.own k hk).2.2)
end
/-- The blocks that an Append of some blocks writes to, for files of at most 264 blocks. -/
def appL (n : Nat) (T : Nat → Bool) (B : Nat → Nat) (m m' : Nat) : List Nat := [B 1, B 3, B 5, B (2 * (m - 1))] ++ (keysTo m (m' - m)).map (grw 1 n (T, B) (keysTo m (m' - m))).2
def cutL (B : Nat → Nat) (kept : Nat) : List Nat := [B 1, B 3, B 5, B (2 * (kept - 1))]
theorem live_odd {m k : Nat} (h : live m k) (hm : m ≤ 264) (ho : k % 2 = 1) : k = 1 ∨ k = 3 ∨ k = 5 := by unfold live at h; omega
theorem appL_len (n : Nat) (T : Nat → Bool) (B : Nat → Nat) (m m' : Nat) (h : m ≤ m') : (appL n T B m m').length + allM m = 4 + allM m' := by
  have := keysTo_len m (m' - m)
  rw [show m + (m' - m) = m' by omega] at this
  unfold appL
  rw [List.length_append, List.length_map]
  simp only [List.length_cons, List.length_nil]
  omega
theorem appL_wrt {c : Cx} {T : Nat → Bool} {B : Nat → Nat} {m m' : Nat} (hm : m ≤ m') (h264 : m' ≤ 264) (hF : c.F = 1) (hL : ∀ x, x ∈ appL c.n T B m m' → x ∈ c.L) : Wrt c (grw c.F c.n (T, B) (keysTo m (m' - m))).2 m m' := by
  intro k hk hcase
  rw [hF]
  by_cases hin : k ∈ keysTo m (m' - m)
  · exact hL _ (List.mem_append.2 (.inr (List.mem_map.2 ⟨k, hin, rfl⟩)))
  · have hlv : live m k := ((keysTo_live m (m' - m) k).1 (by rw [show m + (m' - m) = m' by omega]; exact hk)).resolve_right hin
    rw [grw_other _ _ _ _ _ hin]
    refine hL _ (List.mem_append.2 (.inl ?_))
    show B k ∈ [B 1, B 3, B 5, B (2 * (m - 1))]
    rcases hcase with h | h | h
    · exact absurd hlv h
    · rcases live_odd hk h264 h with rfl | rfl | rfl <;> simp
    · have : k = 2 * (m - 1) := by omega
      rw [this]; simp
theorem cutL_wrt {c : Cx} {B : Nat → Nat} {kept size : Nat} (h264 : kept ≤ 264) (hL : ∀ x, x ∈ cutL B kept → x ∈ c.L) : WrtC c B kept size := by
  refine ⟨fun k hk ho => hL _ ?_, fun _ => hL _ (by simp [cutL])⟩
  unfold cutL
  rcases live_odd hk h264 ho with rfl | rfl | rfl <;> simp
theorem allM_mono {a b : Nat} (h : a ≤ b) : allM a ≤ allM b := by
  unfold allM innM
  repeat' split
  all_goals omega
theorem allM_step {a b j : Nat} (h : b ≤ a + j) (hb : b ≤ 264) : allM b ≤ allM a + j + 3 := by
  unfold allM innM
  repeat' split
  all_goals omega
theorem allM_ge (m : Nat) : m ≤ allM m := by unfold allM; omega
end Go.Proofs.YtnnaemlipahamaaGreat
