/-
  A file grows key by key, each block the least that is free: what becomes of its shape.
-/
import Derived.Test.YthohgljlcfbpjaaGreatFDelete
import Derived.Test.YthohgljlcfbpjaaGreatFEach
namespace Go.Proofs.YthohgljlcfbpjaaGreat
open Go.RowKit Go.Maps

/-- The least number that is free. -/
def frN (n : Nat) (T : Nat → Bool) : Nat := ((List.range n).find? (fun j => !T j)).getD n
theorem frN_spec {n : Nat} {T : Nat → Bool} (h : cntT T n < n) : frN n T < n ∧ T (frN n T) = false ∧ ∀ j, j < frN n T → T j = true := by
  unfold frN
  cases hf : (List.range n).find? (fun j => !T j) with
  | none =>
    rw [List.find?_eq_none] at hf
    have : cntT T n = n := cntT_all (fun k hk => by have := hf k (List.mem_range.2 hk); simpa using this)
    omega
  | some a =>
    have h1 := List.mem_of_find?_eq_some hf
    have h2 := List.find?_some hf
    rw [List.mem_range] at h1
    refine ⟨h1, by simpa using h2, fun j hj => ?_⟩
    have hj : j < a := hj
    cases hT : T j with
    | true => rfl
    | false =>
      exfalso
      rw [List.find?_eq_some_iff_getElem] at hf
      obtain ⟨_, i, hi, he, hall⟩ := hf
      rw [List.getElem_range] at he
      have := hall j (by omega)
      rw [List.getElem_range, hT] at this
      simp at this
/-- One key more. -/
def stp (F n : Nat) (s : (Nat → Bool) × (Nat → Nat)) (k : Nat) : (Nat → Bool) × (Nat → Nat) := (upd s.1 (frN n s.1) true, upd s.2 k (F + frN n s.1))
def grw (F n : Nat) (s : (Nat → Bool) × (Nat → Nat)) (ks : List Nat) : (Nat → Bool) × (Nat → Nat) := ks.foldl (stp F n) s
theorem grw_nil (F n : Nat) (s : (Nat → Bool) × (Nat → Nat)) : grw F n s [] = s := rfl
theorem grw_app (F n : Nat) (s : (Nat → Bool) × (Nat → Nat)) (a b : List Nat) : grw F n s (a ++ b) = grw F n (grw F n s a) b := List.foldl_append ..
theorem grw_one (F n : Nat) (s : (Nat → Bool) × (Nat → Nat)) (k : Nat) : grw F n s [k] = stp F n s k := rfl
theorem take_step {ks : List Nat} {j : Nat} (h : j < ks.length) : ks.take (j + 1) = ks.take j ++ [ks.getD j 0] := by
  rw [List.take_succ_eq_append_getElem h]; simp [List.getD, h]
theorem grw_step {F n : Nat} {s : (Nat → Bool) × (Nat → Nat)} {ks : List Nat} {j : Nat} (h : j < ks.length) : grw F n s (ks.take (j + 1)) = stp F n (grw F n s (ks.take j)) (ks.getD j 0) := by
  rw [take_step h, grw_app, grw_one]
theorem grw_other (F n : Nat) : ∀ (ks : List Nat) (s : (Nat → Bool) × (Nat → Nat)) (k : Nat), k ∉ ks → (grw F n s ks).2 k = s.2 k
  | [], _, _, _ => rfl
  | a :: r, s, k, h => by
    rw [show a :: r = [a] ++ r from rfl, grw_app, grw_other F n r _ k (fun e => h (List.mem_cons_of_mem _ e))]
    exact upd_other _ _ (fun e => h (e ▸ List.mem_cons_self))
theorem grw_cnt (F n : Nat) : ∀ (ks : List Nat) (s : (Nat → Bool) × (Nat → Nat)), cntT s.1 n + ks.length ≤ n → cntT (grw F n s ks).1 n = cntT s.1 n + ks.length
  | [], _, _ => rfl
  | a :: r, s, h => by
    rw [List.length_cons] at h
    have hs := frN_spec (n := n) (T := s.1) (by omega)
    have e : cntT (stp F n s a).1 n = cntT s.1 n + 1 := cntT_set hs.2.1 hs.1
    rw [show a :: r = [a] ++ r from rfl, grw_app, grw_one, grw_cnt F n r _ (by omega), e, List.length_append]
    simp; omega
theorem grw_mono (F n : Nat) : ∀ (ks : List Nat) (s : (Nat → Bool) × (Nat → Nat)) (j : Nat), s.1 j = true → (grw F n s ks).1 j = true
  | [], _, _, h => h
  | a :: r, s, j, h => by
    rw [show a :: r = [a] ++ r from rfl, grw_app]
    refine grw_mono F n r _ j ?_
    show upd s.1 (frN n s.1) true j = true
    by_cases e : j = frN n s.1
    · rw [e, upd_same]
    · rw [upd_other _ _ e]; exact h

/-- Keys that may be added one behind the other. -/
structure KsOk (Lv : Nat → Prop) (ks : List Nat) : Prop where
  nodup : ks.Nodup
  new : ∀ k, k ∈ ks → ¬ Lv k
  par : ∀ j, j < ks.length → ¬ fld (ks.getD j 0) → Lv (par (ks.getD j 0)) ∨ par (ks.getD j 0) ∈ ks.take j
  idx : ∀ k, k ∈ ks → ¬ fld k → idx k < 128
theorem mem_getD {ks : List Nat} {j : Nat} (h : j < ks.length) : ks.getD j 0 ∈ ks := by simp [List.getD, h]
theorem getD_not_take {ks : List Nat} {j : Nat} (hn : ks.Nodup) (h : j < ks.length) : ks.getD j 0 ∉ ks.take j := by
  intro hm
  rw [List.mem_take_iff_getElem] at hm
  obtain ⟨i, hi, e⟩ := hm
  have h2 : ks.getD j 0 = ks[j] := by simp [List.getD, h]
  rw [h2] at e
  exact (List.pairwise_iff_getElem.1 hn) i j (by omega) h (by omega) e
theorem begunK_ok {i : Nat} (hi : i < 16520) : KsOk (live i) (begunK i) := by
  refine ⟨?_, fun k hk => begunK_new hk, fun j hj hf => ?_, fun k hk hf => ?_⟩
  · unfold begunK
    split
    · simp; omega
    · split
      · simp; omega
      · split
        · simp; omega
        · simp
  · unfold begunK at *
    split at hj
    · rename_i e
      simp only [if_pos e] at *
      have hj' : j = 0 ∨ j = 1 := by simp at hj; omega
      rcases hj' with rfl | rfl
      · exact absurd (.inl rfl) hf
      · right; subst e; decide
    · rename_i e8
      simp only [if_neg e8] at *
      split at hj
      · rename_i e
        simp only [if_pos e] at *
        have hj' : j = 0 ∨ j = 1 ∨ j = 2 := by simp at hj; omega
        rcases hj' with rfl | rfl | rfl
        · exact absurd (.inr (.inl rfl)) hf
        · right; subst e; decide
        · right; subst e; decide
      · rename_i e136
        simp only [if_neg e136] at *
        split at hj
        · rename_i e
          simp only [if_pos e] at *
          have hj' : j = 0 ∨ j = 1 := by simp at hj; omega
          rcases hj' with rfl | rfl
          · left
            show live i (par (5 + 2 * ((i - 136) / 128)))
            have : par (5 + 2 * ((i - 136) / 128)) = 3 := by unfold par; rw [if_pos (by omega)]
            rw [this]; unfold live; omega
          · right
            show par (2 * i) ∈ [5 + 2 * ((i - 136) / 128)]
            have : par (2 * i) = 5 + 2 * ((i - 136) / 128) := by unfold par; rw [if_neg (by omega), if_neg (by omega)]; omega
            rw [this]; simp
        · rename_i e
          simp only [if_neg e] at *
          obtain rfl : j = 0 := by simp at hj; omega
          left
          have hf' : ¬ fld (2 * i) := hf
          have h8 : 8 ≤ i := by unfold fld at hf'; omega
          show live i (par (2 * i))
          by_cases h136 : i < 136
          · have : par (2 * i) = 1 := by unfold par; rw [if_neg (by omega), if_pos (by omega)]
            rw [this]; unfold live; omega
          · have : par (2 * i) = 5 + 2 * ((i - 136) / 128) := by unfold par; rw [if_neg (by omega), if_neg (by omega)]; omega
            rw [this]; unfold live; omega
  · have : live (i + 1) k := (live_succ i k).2 (.inr hk)
    exact idx_lt this (by omega)

section
variable {c : Cx} {Lv : Nat → Prop} {V V1 : Nat → List Int} {nd : Nd} {B : Nat → Nat} {T : Nat → Bool} {k j : Nat}
theorem Fl.fresh (h : Fl c Lv V nd B T) (hj : T j = false) : ∀ l, Lv l → B l ≠ c.F + j := by
  intro l hl e
  have := (h.own l hl).2.2
  rw [e, Nat.add_sub_cancel_left, hj] at this
  cases this
/-- A key is added: the block that was free, the place set. -/
theorem Fl.step (h : Fl c Lv V nd B T) (ho : c.Ok) (hlen : ∀ n, n < c.K → (V n).length = 512) (hj : j < c.n) (hT : T j = false) (hk : ¬ Lv k) (hp : ¬ fld k → Lv (par k) ∧ Go.Proofs.YthohgljlcfbpjaaGreat.idx k < 128)
    (h1 : ∀ m, (m < c.M ∨ c.M + mapsN c.n ≤ m) → V1 m = V m) :
    Fl c (fun l => Lv l ∨ l = k) (setV (upd V1 (c.F + j) (zeros 512)) B k ((c.F + j : Nat) : Int)) (setN nd k ((c.F + j : Nat) : Int)) (upd B k (c.F + j)) (upd T j true) := by
  have hfr := h.fresh hT
  have htop := ho.top
  have hoff := ho.off
  have hkk := ho.pr.top
  have hF := ho.pr.f
  have hv : ∀ l, Lv l → upd V1 (c.F + j) (zeros 512) (B l) = V (B l) := fun l hl => by
    have := h.own l hl
    rw [upd_other _ _ (hfr l hl), h1 _ (by omega)]
  have hb : ∀ l, Lv l → upd B k (c.F + j) l = B l := fun l hl => upd_other _ _ (fun e => hk (e ▸ hl))
  have own' : ∀ l, (Lv l ∨ l = k) → c.F ≤ upd B k (c.F + j) l ∧ upd B k (c.F + j) l < c.F + c.n ∧ upd T j true (upd B k (c.F + j) l - c.F) = true := by
    intro l hl
    rcases hl with hl | rfl
    · rw [hb l hl]
      have := h.own l hl
      refine ⟨this.1, this.2.1, ?_⟩
      by_cases e : B l - c.F = j
      · rw [e, upd_same]
      · rw [upd_other _ _ e]; exact this.2.2
    · rw [upd_same, Nat.add_sub_cancel_left, upd_same]
      exact ⟨by omega, by omega, rfl⟩
  have idx' : ∀ l, (Lv l ∨ l = k) → ¬ fld l → Go.Proofs.YthohgljlcfbpjaaGreat.idx l < 128 := by
    intro l hl hf
    rcases hl with hl | rfl
    · exact h.idx l hl hf
    · exact (hp hf).2
  by_cases hf : fld k
  · unfold setV setN
    rw [if_pos hf, if_pos hf]
    exact ⟨(h.sh.congrV hv).addF hf hk hfr, own', idx'⟩
  · unfold setV setN
    rw [if_neg hf, if_neg hf]
    have hpl := (hp hf).1
    refine ⟨(h.sh.congrV hv).addE hf hk hpl hfr ?_ (hp hf).2 (by omega) ?_ ?_, own', idx'⟩
    · rw [hv _ hpl]; exact hlen _ (h.lt ho hpl)
    · rw [upd_same]
    · intro l hl hne
      rw [upd_other _ _ (fun e => hne (h.sh.inj _ _ hl hpl e))]
/-- .. and which blocks are as they were. -/
theorem step_frame (h : Fl c Lv V nd B T) (ho : c.Ok) (hT : T j = false) (hp : ¬ fld k → Lv (par k)) (h1 : ∀ m, (m < c.M ∨ c.M + mapsN c.n ≤ m) → V1 m = V m) (x : Int) :
    (∀ m, c.F ≤ m → m < c.F + c.n → T (m - c.F) = true → (∀ l, l % 2 = 1 → Lv l → B l ≠ m) → setV (upd V1 (c.F + j) (zeros 512)) B k x m = V m) ∧ setV (upd V1 (c.F + j) (zeros 512)) B k x (c.F + j) = zeros 512 := by
  have hoff := ho.off
  have hpo : ¬ fld k → par k % 2 = 1 := fun hf => by
    unfold fld at hf; unfold par
    split
    · omega
    · split <;> omega
  refine ⟨fun m m1 m2 m3 m4 => ?_, ?_⟩
  · have hne : m ≠ c.F + j := fun e => by rw [e, Nat.add_sub_cancel_left, hT] at m3; cases m3
    unfold setV
    split
    · rw [upd_other _ _ hne, h1 _ (by omega)]
    · rename_i hf
      rw [upd_other _ _ (fun e => m4 _ (hpo hf) (hp hf) e.symm), upd_other _ _ hne, h1 _ (by omega)]
  · unfold setV
    split
    · rw [upd_same]
    · rename_i hf
      rw [upd_other _ _ (fun e => h.fresh hT _ (hp hf) e.symm), upd_same]
end
end Go.Proofs.YthohgljlcfbpjaaGreat

namespace Go.Proofs.YthohgljlcfbpjaaGreat
open Go.RowKit Go.Maps

section
variable {L : List Nat} {X Y : Nat → Prop} {w0 w w1 ws : World} {pd pl q K : Nat} {f : Nat → List Int} {com : Nat → Option (List Int)} {pend N : Nat} {V : Nat → List Int} {T : Nat → Bool}
set_option maxHeartbeats 1600000 in
theorem pclear_ok (M F n : Nat) (h : Tv L X w0 w pd pl q K f com pend N V) (hp : Pr L M F n K) :
    Calls Tryz.prog 27 #[PV M F n, .pointer (some ⟨q, 0, none⟩)] w fun e w' => e = .returned (.int .i64 0) ∧ PTo L X w0 w pd pl q K f com pend N V M n (fun _ => false) w' := by
  have hmf : ∀ (fn : Fn) (first cap : Array Value) (w : World), (Instr.makeFunc fn first cap).run Tryz.prog w = .ok (.func fn first cap) w := fun _ _ _ _ => rfl
  have cb := boxes_chg w M F n q
  have h1 := h.add cb
  have c1 := Cap.box w M F n q
  have ALL : Hid (Calls Tryz.prog 33 #[PV M F n, .pointer (some ⟨q, 0, none⟩)] ((w.alloc (PO M F n)).alloc (TO q)) fun e w2 => e = .returned (.int .i64 0) ∧ Cap w2 w.heap.size (w.heap.size + 1) M F n q ∧
      Hid (Calls Tryz.prog 62 #[PV M F n, .pointer (some ⟨q, 0, none⟩)] w2 fun e w3 => e = .returned (.int .i64 0) ∧ Cap w3 w.heap.size (w.heap.size + 1) M F n q ∧
        Hid (Calls Tryz.prog 34 #[PV M F n, .func (.func 63) #[] #[.pointer (some ⟨w.heap.size, 0, none⟩), .pointer (some ⟨w.heap.size + 1, 0, none⟩)]] w3 fun e w' => e = .returned (.int .i64 0) ∧ Hid (PTo L X w0 w pd pl q K f com pend N V M n (fun _ => false) w')))) := by
    generalize hws : (w.alloc (PO M F n)).alloc (TO q) = ws at *
    have hz : ws.heap.size = w.heap.size + 2 := by rw [← hws]; simp
    rw [hz] at h1
    obtain ⟨Y, hY⟩ : ∃ Y, addX X w.heap.size (w.heap.size + 2) = Y := ⟨_, rfl⟩
    have y0 : Y w.heap.size := hY ▸ .inr ⟨Nat.le_refl _, by omega⟩
    have y1 : Y (w.heap.size + 1) := hY ▸ .inr ⟨by omega, by omega⟩
    have yx : ∀ b, X b → Y b := fun b hb => hY ▸ .inl hb
    rw [hY] at h1
    refine (stands_ok M F n h1 hp.f hp.one hp.top hp.in').mono ?_
    rintro e w2 ⟨rfl, hc2⟩
    have c2 := c1.kept hc2 (fun h => h) (fun h => h)
    have h2 := h1.more hc2
    refine ⟨rfl, c2, (claim_any M F n h2 hp).mono ?_⟩
    rintro e w3 ⟨rfl, h3, s3⟩
    have c3 := c2.sm s3 y0 y1
    refine ⟨rfl, c3, ?_⟩
    have s03 : Sm X w w3 := (Sm.ofChg cb h.xlt).trans (fun b hb => ((Sm.ofChg hc2 h1.xlt).trans s3) b (yx b hb))
    refine (each_clear M F n w.heap.size (w.heap.size + 1) (fun i w' => ∃ V', Tv L Y w0 w' pd pl q K f com pend N V' ∧ (∀ j, j < i → V' (M + j) = zeros 512) ∧ (∀ m, (m < M ∨ M + mapsN n ≤ m) → V' m = V m) ∧ Cap w' w.heap.size (w.heap.size + 1) M F n q ∧ Sm Y w3 w') w3 hp.one hp.top
      ⟨V, h3, fun j hj => by omega, fun _ _ => rfl, c3, fun _ _ => rfl⟩ (fun w' hc => ⟨V, h3.more hc, fun j hj => by omega, fun _ _ => rfl, c3.kept hc (fun h => h) (fun h => h), Sm.ofChg hc h3.xlt⟩) ?_).mono ?_
    · rintro i w' hi ⟨V', ht, hz, he, hcp, hs⟩
      refine (clear1_any M F n i _ _ ht hcp (by have := hp.in'; omega) (hp.all i hi)).mono ?_
      rintro e w'' ⟨rfl, ht2, hs2⟩
      refine ⟨rfl, _, ht2, fun j hj => ?_, fun m hm => ?_, hcp.sm hs2 y0 y1, hs.trans hs2⟩
      · by_cases e : j = i
        · subst e; rw [upd_same]
        · rw [upd_other _ _ (by omega)]; exact hz j (by omega)
      · rw [upd_other _ _ (by omega)]; exact he m hm
    · rintro e w' ⟨rfl, V', ht, hz, he, _, hs⟩
      exact ⟨rfl, V', ht.less yx, Bt.zero hz, he, s03.trans (fun b hb => hs b (yx b hb))⟩
  have p0 := c1.p.c0
  have p1 := c1.p.c1
  have p2 := c1.p.c2
  have p3 := c1.t
  clear h h1 hp cb c1
  unfold PV PO TO at *
  go_enter Tryz.func27, Tryz.ntmps27
  go_wp2_with fail
  refine ALL.out.mono ?_
  clear ALL
  rintro e w2 ⟨rfl, c2, CL⟩
  have q0 := c2.p.c0
  have q1 := c2.p.c1
  have q2 := c2.p.c2
  have q3 := c2.t
  clear c2
  go_wp2_with fail
  refine CL.out.mono ?_
  clear CL
  rintro e w3 ⟨rfl, c3, EA⟩
  have r0 := c3.p.c0
  have r1 := c3.p.c1
  have r2 := c3.p.c2
  have r3 := c3.t
  clear c3
  go_wp2_with fail
  refine EA.out.mono ?_
  clear EA
  rintro e w4 ⟨rfl, HT⟩
  go_wp2
  go_ret
  exact ⟨rfl, HT.out⟩
theorem pclear_no (M F n : Int) (h : Tv L X w0 w pd pl q K f com pend N V) (hw : M ≤ 9223372036854775807) (hr : ¬ (0 ≤ M ∧ 0 ≤ F ∧ F ≤ 1073741824 ∧ 1 ≤ n ∧ n ≤ 16384 ∧ M + (mapsN n.toNat : Int) ≤ (K : Int))) :
    Calls Tryz.prog 27 #[PV M F n, .pointer (some ⟨q, 0, none⟩)] w fun e w' => e = .returned (.int .i64 1) ∧ Chg (fun _ => False) w w' := by
  have cb := boxes_chg w M F n q
  have c1 := Cap.box w M F n q
  have ST : Hid (Calls Tryz.prog 33 #[PV M F n, .pointer (some ⟨q, 0, none⟩)] ((w.alloc (PO M F n)).alloc (TO q)) fun e w2 => e = .returned (.int .i64 1) ∧ Hid (Chg (fun _ => False) w w2)) := (stands_no M F n (h.more cb) hw hr).mono (by
    rintro e w2 ⟨rfl, hc⟩
    exact ⟨rfl, cb.trans hc (fun _ _ h => h)⟩)
  have p0 := c1.p.c0
  have p1 := c1.p.c1
  have p2 := c1.p.c2
  have p3 := c1.t
  clear h hr hw cb c1
  unfold PV PO TO at *
  go_enter Tryz.func27, Tryz.ntmps27
  go_wp2_with fail
  refine ST.out.mono ?_
  clear ST
  rintro e w2 ⟨rfl, HC⟩
  go_wp2
  go_ret
  exact ⟨rfl, HC.out⟩
theorem take_no (M F n : Int) (h : Tv L X w0 w pd pl q K f com pend N V) (hw : M ≤ 9223372036854775807) (hr : ¬ (0 ≤ M ∧ 0 ≤ F ∧ F ≤ 1073741824 ∧ 1 ≤ n ∧ n ≤ 16384 ∧ M + (mapsN n.toNat : Int) ≤ (K : Int))) :
    Calls Tryz.prog 78 #[PV M F n, .pointer (some ⟨q, 0, none⟩)] w fun e w' => e = .returned (.tuple #[.int .i64 0, .int .i64 1]) ∧ Chg (fun _ => False) w w' := by
  have cb := Chg.alloc (fun _ => False) w (PO M F n)
  have ST : Hid (Calls Tryz.prog 33 #[PV M F n, .pointer (some ⟨q, 0, none⟩)] (w.alloc (PO M F n)) fun e w2 => e = .returned (.int .i64 1) ∧ Hid (Chg (fun _ => False) w w2)) := (stands_no M F n (h.more cb) hw hr).mono (by
    rintro e w2 ⟨rfl, hc⟩
    exact ⟨rfl, cb.trans hc (fun _ _ h => h)⟩)
  clear h hr hw cb
  unfold PV PO at *
  go_enter Tryz.func78, Tryz.ntmps78
  go_wp2_with fail
  refine ST.out.mono ?_
  clear ST
  rintro e w2 ⟨rfl, HC⟩
  go_wp2
  go_ret2
  exact ⟨rfl, HC.out⟩
theorem free_no (M F n : Int) (h : Tv L X w0 w pd pl q K f com pend N V) (hw : M ≤ 9223372036854775807) (hr : ¬ (0 ≤ M ∧ 0 ≤ F ∧ F ≤ 1073741824 ∧ 1 ≤ n ∧ n ≤ 16384 ∧ M + (mapsN n.toNat : Int) ≤ (K : Int))) :
    Calls Tryz.prog 13 #[PV M F n, .pointer (some ⟨q, 0, none⟩)] w fun e w' => e = .returned (.tuple #[.int .i64 0, .int .i64 1]) ∧ Chg (fun _ => False) w w' := by
  have cb := boxes_chg w M F n q
  have c1 := Cap.box w M F n q
  have ST : Hid (Calls Tryz.prog 33 #[PV M F n, .pointer (some ⟨q, 0, none⟩)] ((w.alloc (PO M F n)).alloc (TO q)) fun e w2 => e = .returned (.int .i64 1) ∧ Hid (Chg (fun _ => False) w w2)) := (stands_no M F n (h.more cb) hw hr).mono (by
    rintro e w2 ⟨rfl, hc⟩
    exact ⟨rfl, cb.trans hc (fun _ _ h => h)⟩)
  have p0 := c1.p.c0
  have p1 := c1.p.c1
  have p2 := c1.p.c2
  have p3 := c1.t
  clear h hr hw cb c1
  unfold PV PO TO at *
  go_enter Tryz.func13, Tryz.ntmps13
  go_wp2_with fail
  refine ST.out.mono ?_
  clear ST
  rintro e w2 ⟨rfl, HC⟩
  go_wp2
  go_ret2
  exact ⟨rfl, HC.out⟩
end
end Go.Proofs.YthohgljlcfbpjaaGreat

namespace Go.Proofs.YthohgljlcfbpjaaGreat
open Go.RowKit Go.Maps

section
variable {L : List Nat} {X Y : Nat → Prop} {w0 w w1 ws : World} {pd pl q K : Nat} {f : Nat → List Int} {com : Nat → Option (List Int)} {pend N : Nat} {V : Nat → List Int} {T : Nat → Bool}
/-- A number in a box. -/
def IntAt (w : World) (E : Nat) (x : Int) : Prop := w.heap[E]? = some (.cells #[.int .i64 x] 3 (0, 0))
set_option maxHeartbeats 3200000 in
theorem free1_any (M F n i B D E : Nat) (x y : Int) (h : Tv L X w0 w pd pl q K f com pend N V) (hc : Cap w B D M F n q) (he : IntAt w E x) (_hBE : B ≠ E) (_hDE : D ≠ E) (hb : Bt V M n T) (hp : Pr L M F n K) (hi : i < mapsN n) (hx : 0 ≤ x ∧ x ≤ 16384) (hy : x - (cnt (V (M + i)) 0 (sizeN n i) : Int) = y) :
    Calls Tryz.prog 35 #[.int .i64 (i : Int), .pointer (some ⟨B, 0, none⟩), .pointer (some ⟨D, 0, none⟩), .pointer (some ⟨E, 0, none⟩)] w fun e w' => e = .returned (.int .i64 0) ∧ Chg (fun b => b = E) w w' ∧ IntAt w' E y := by
  have hin := hp.in'
  have hElt : E < w.heap.size := lt_of_block he
  have PT : Hid (Calls Tryz.prog 36 #[PV M F n, .pointer (some ⟨q, 0, none⟩), .int .i64 (i : Int)] w fun e w2 => ∃ u, e = .returned (.tuple #[u, .int .i64 0]) ∧ Chg (fun _ => False) w w2 ∧ Hid (Bs w2 u (V (M + i)))) := by
    refine (part_any M i F n h (by omega)).mono ?_
    rintro e w2 ⟨u, g, rfl, hu⟩
    exact ⟨u, rfl, hu.chg, hu.mp.bs⟩
  have SZ : Hid (∀ w : World, Calls Tryz.prog 38 #[PV M F n, .int .i64 (i : Int)] w fun e w' => e = .returned (.int .i64 (sizeN n i : Int)) ∧ w' = w.alloc (PO M F n)) := fun w => size_any M F n i w hp.one hp.top hi
  have hxs := hb.by' i hi
  have CT : Hid (∀ (u : Value) (w : World), Bs w u (V (M + i)) → Calls Tryz.prog 37 #[u, .int .i64 0, .int .i64 (sizeN n i : Int)] w fun e w' => e = .returned (.int .i64 (cnt (V (M + i)) 0 (sizeN n i) : Int)) ∧ ∃ n, w' = w.drewN n) := fun u w hu => by
    have := count_any u (V (M + i)) 0 (sizeN n i : Int) w hu hxs.1 (by rw [hxs.2]; omega) (by omega)
    unfold cntI at this
    rw [hiB_size hxs.2, show loB 0 = 0 from rfl, Nat.sub_zero] at this
    exact this
  have hcl := cnt_le (V (M + i)) 0 (sizeN n i)
  have hsl := sizeN_le n i
  generalize cnt (V (M + i)) 0 (sizeN n i) = c at *
  generalize sizeN n i = z at *
  have wr : IntKind.i64.wrap (x - (c : Int)) = y := by rw [IntKind.wrap_i64]; omega
  have wr2 : IntKind.i64.wrap y = y := by rw [IntKind.wrap_i64]; omega
  have p0 := hc.p.c0
  have p1 := hc.p.c1
  have p2 := hc.p.c2
  have p3 := hc.t
  have HCAP : Hid (Cap w B D M F n q) := hc
  have HEE : Hid (IntAt w E x) := he
  clear h hc he hb hp hin hi hxs hcl hsl
  unfold PV PO at *
  go_enter Tryz.func35, Tryz.ntmps35
  go_wp2_with fail
  refine PT.out.mono ?_
  clear PT
  rintro e w2 ⟨u, rfl, c2, HB⟩
  have k2 := HCAP.out.kept c2 (fun h => h) (fun h => h)
  have e2 : IntAt w2 E x := (c2.block E hElt (fun h => h)).trans HEE.out
  have HC2 : Hid (Chg (fun _ => False) w w2) := c2
  have hE2 : E < w2.heap.size := lt_of_block e2
  have ka := fun o => k2.kept (Chg.alloc (fun _ => False) w2 o) (fun h => h) (fun h => h)
  have ea : ∀ o, IntAt (w2.alloc o) E x := fun o => ((Chg.alloc (fun _ => False) w2 o).block E hE2 (fun h => h)).trans e2
  have q0 := k2.p.c0
  have q1 := k2.p.c1
  have q2 := k2.p.c2
  have x0 := cell_of_one e2
  have x1 := fun o => cell_of_one (ea o)
  have x2 := fun o => free_of_one (ea o)
  have EA : Hid (∀ o, IntAt (w2.alloc o) E x) := ea
  clear p0 p1 p2 p3 c2 k2 ka ea e2
  have CTT : Hid (∀ w', (∃ k o, w' = (w2.alloc o).drewN k) → Calls Tryz.prog 37 #[u, .int .i64 0, .int .i64 (z : Int)] w' fun e w'' => e = .returned (.int .i64 (c : Int)) ∧ ∃ k o, w'' = (w2.alloc o).drewN k) := fun w' hw' => by
    obtain ⟨k, o, rfl⟩ := hw'
    refine (CT.out u _ ((HB.out.kept (Chg.alloc (fun _ => False) w2 o) (fun _ _ _ _ _ h => h)).drewN k)).mono ?_
    rintro e w'' ⟨rfl, k', rfl⟩
    exact ⟨rfl, k + k', o, by rw [World.drewN_drewN]⟩
  go_wp2_with fail
  go_region_with (first | (go_at_call 38; refine (SZ.out _).mono ?_; rintro e w3 ⟨rfl, rfl⟩) | (go_at_call 37; refine (CTT.out _ ⟨1, _, rfl⟩).mono ?_; rintro e w3 ⟨rfl, k, o, rfl⟩))
  all_goals
    go_wp2
    go_ret
    exact ⟨rfl, ((HC2.out.mono (fun _ _ h => h.elim)).trans (Chg.alloc (fun b => b = E) w2 o) (fun _ _ h => h)).trans ((Chg.drewN (fun b => b = E) _ k).trans (Chg.setCell (S := fun b => b = E) _ ⟨E, 0, none⟩ _ rfl) (fun _ _ h => h)) (fun _ _ h => h), one_setCell (EA.out o)⟩
set_option maxHeartbeats 1600000 in
theorem free_ok (M F n : Nat) (h : Tv L X w0 w pd pl q K f com pend N V) (hp : Pr L M F n K) (hb : Bt V M n T) :
    Calls Tryz.prog 13 #[PV M F n, .pointer (some ⟨q, 0, none⟩)] w fun e w' => e = .returned (.tuple #[.int .i64 ((n - cntT T n : Nat) : Int), .int .i64 0]) ∧ Chg (fun _ => False) w w' := by
  have hmf : ∀ (fn : Fn) (first cap : Array Value) (w : World), (Instr.makeFunc fn first cap).run Tryz.prog w = .ok (.func fn first cap) w := fun _ _ _ _ => rfl
  have cb := boxes_chg w M F n q
  have h1 := h.more cb
  have c1 := Cap.box w M F n q
  have ST : Hid (Calls Tryz.prog 33 #[PV M F n, .pointer (some ⟨q, 0, none⟩)] ((w.alloc (PO M F n)).alloc (TO q)) fun e w2 => e = .returned (.int .i64 0) ∧ Chg (fun _ => False) ((w.alloc (PO M F n)).alloc (TO q)) w2) := stands_ok M F n h1 hp.f hp.one hp.top hp.in'
  have EA : Hid (∀ w3 : World, ∀ E, w.heap.size + 2 ≤ E → Chg (fun _ => False) w w3 → Cap w3 w.heap.size (w.heap.size + 1) M F n q → IntAt w3 E n →
      Calls Tryz.prog 34 #[PV M F n, .func (.func 35) #[] #[.pointer (some ⟨w.heap.size, 0, none⟩), .pointer (some ⟨w.heap.size + 1, 0, none⟩), .pointer (some ⟨E, 0, none⟩)]] w3 fun e w' => e = .returned (.int .i64 0) ∧ w'.cell? ⟨E, 0, none⟩ = some (.int .i64 ((n - cntT T n : Nat) : Int)) ∧ Hid (Chg (fun _ => False) w w')) := fun w3 E hE c3 k3 i3 => by
    have hn := hp.top
    have hone := hp.one
    have hElt : E < w3.heap.size := lt_of_block i3
    refine (each_free M F n w.heap.size (w.heap.size + 1) E (fun i w' => Chg (fun b => b = E) w3 w' ∧ IntAt w' E ((n : Int) - (cntT T (min n (i * 4096)) : Int))) w3 hone hn ⟨Chg.refl _ _, ?_⟩ (fun w' hc => ⟨hc.mono (fun _ _ h => h.elim), ?_⟩) ?_).mono ?_
    · simpa [cntT] using i3
    · have e : IntAt w' E n := (hc.block E hElt (fun h => h)).trans i3
      simpa [cntT] using e
    · rintro i w' hi ⟨hc, hx⟩
      have hcw : Chg (fun _ => False) w w' := c3.trans hc (fun b hb e => by omega)
      have hstep := hb.cnt hi hone
      have hle := cntT_le T (min n (i * 4096))
      have hle2 := cntT_le T (min n ((i + 1) * 4096))
      have m1 : min n (i * 4096) ≤ n := Nat.min_le_left _ _
      refine (free1_any M F n i _ _ E _ ((n : Int) - (cntT T (min n ((i + 1) * 4096)) : Int)) (h.more hcw) (k3.kept hc (by omega) (by omega)) hx (by omega) (by omega) hb hp hi (by omega) (by omega)).mono ?_
      rintro e w'' ⟨rfl, hc2, hx2⟩
      exact ⟨rfl, hc.trans hc2 (fun _ _ h => h), hx2⟩
    · rintro e w' ⟨rfl, hc, hx⟩
      have e1 : min n (mapsN n * 4096) = n := by unfold mapsN; omega
      rw [e1] at hx
      have hle := cntT_le T n
      have e2 : ((n - cntT T n : Nat) : Int) = (n : Int) - (cntT T n : Int) := by omega
      rw [e2]
      exact ⟨rfl, cell_of_one hx, c3.trans hc (fun b hb e => by omega)⟩
  have p0 := c1.p.c0
  have p1 := c1.p.c1
  have p2 := c1.p.c2
  have p3 := c1.t
  have CB : Hid (Chg (fun _ => False) w ((w.alloc (PO M F n)).alloc (TO q))) := cb
  generalize n - cntT T n = res at *
  clear h h1 hp cb hb
  have hsz : ((w.alloc (PO M F n)).alloc (TO q)).heap.size = w.heap.size + 2 := by simp
  unfold PV PO TO at *
  go_enter Tryz.func13, Tryz.ntmps13
  go_wp2_with fail
  refine ST.out.mono ?_
  clear ST
  rintro e w2 ⟨rfl, hc2⟩
  have c2 := c1.kept hc2 (fun h => h) (fun h => h)
  have q0 := c2.p.c0
  have q1 := c2.p.c1
  have q2 := c2.p.c2
  have q3 := c2.t
  have hs2 : w.heap.size + 2 ≤ w2.heap.size := by have := hc2.size; omega
  have HC2 : Hid (Chg (fun _ => False) w w2) := CB.out.trans hc2 (fun _ _ h => h)
  have K2 : Hid (Cap w2 w.heap.size (w.heap.size + 1) M F n q) := c2
  have ka := fun o => c2.kept (Chg.alloc (fun _ => False) w2 o) (fun h => h) (fun h => h)
  have r0 := fun o => (ka o).p.c0
  have r1 := fun o => (ka o).p.c1
  have r2 := fun o => (ka o).p.c2
  have EB : Hid _ := EA.out (w2.alloc (.cells #[.int .i64 (n : Int)] 3)) w2.heap.size hs2 (HC2.out.trans (Chg.alloc (fun _ => False) w2 _) (fun _ _ h => h)) (ka _) (heap_alloc_new _ _)
  clear hc2 c1 c2 p0 p1 p2 p3 CB hsz ka EA
  go_wp2_with fail
  refine (show Calls _ _ _ _ _ from EB.out).mono ?_
  clear EB
  rintro e w4 ⟨rfl, hx4, HC4⟩
  go_wp2
  go_ret2
  exact ⟨rfl, HC4.out⟩
end
end Go.Proofs.YthohgljlcfbpjaaGreat

namespace Go.Proofs.YthohgljlcfbpjaaGreat
open Go.RowKit Go.Maps

section
variable {c : Cx} {X Y : Nat → Prop} {w w' : World} {V : Nat → List Int} {T : Nat → Bool} {Lv : Nat → Prop} {nd : Nd} {B : Nat → Nat} {nb k i : Nat} {Ty : TypeId} {x : Sp}
theorem fs_take (hs : Fs c X w V T) (ho : c.Ok) (hc : cntT T c.n < c.n) :
    Calls Tryz.prog 78 #[PV c.M c.F c.n, .pointer (some ⟨c.q, 0, none⟩)] w fun e w' => e = .returned (.tuple #[.int .i64 ((c.F + frN c.n T : Nat) : Int), .int .i64 0]) ∧ ∃ V1, Fs c X w' V1 (upd T (frN c.n T) true) ∧ (∀ m, (m < c.M ∨ c.M + mapsN c.n ≤ m) → V1 m = V m) ∧ Sm X w w' := by
  obtain ⟨h1, h2, h3⟩ := frN_spec hc
  refine (take_ok c.M c.F c.n _ hs.tv ho.pr hs.bt h1 h2 h3).mono ?_
  rintro e w' ⟨rfl, V1, t1, t2, t3, t4⟩
  refine ⟨rfl, V1, ⟨t1, t2, fun n hn => ?_⟩, t3, t4⟩
  by_cases hm : n < c.M ∨ c.M + mapsN c.n ≤ n
  · rw [t3 n hm]; exact hs.by' n hn
  · have := t2.by' (n - c.M) (by omega)
    rw [show c.M + (n - c.M) = n by omega] at this
    exact this.1
/-- A block of the pool is written. -/
theorem fs_write {w1 : World} (n : Nat) (bs : List Int) (u : Value) (g : Nat) (hs : Fs c X w1 V T) (ho : c.Ok) (hb : NewM w1 w u g bs) (hi : IsBy bs) (h1 : c.F ≤ n) (h2 : n < c.F + c.n) (hL : n ∈ c.L) :
    Calls Tryz.prog 79 #[.pointer (some ⟨c.q, 0, none⟩), .int .i64 (n : Int), u] w fun e w' => e = .returned (.int .i64 0) ∧ Fs c X w' (upd V n bs) T ∧ Sm X w1 w' := by
  have htop := ho.top
  have hoff := ho.off
  obtain ⟨cp, rfl⟩ := hb.form
  refine (tv_write n bs _ cp hs.tv hb.newB hb.len (by omega) hL).mono ?_
  rintro e w' ⟨rfl, t1, t2⟩
  refine ⟨rfl, ⟨t1, hs.bt.same (fun i hi => upd_other _ _ (by omega)), fun m hm => ?_⟩, (Sm.ofChg hb.chg hs.tv.xlt).trans t2⟩
  by_cases e : m = n
  · subst e; rw [upd_same]; exact hi
  · rw [upd_other _ _ e]; exact hs.by' m hm
/-- The blocks that a row of keys writes to may be written. -/
def Lg (c : Cx) (s : (Nat → Bool) × (Nat → Nat)) (ks : List Nat) : Prop := ∀ j, j < ks.length → c.F + frN c.n (grw c.F c.n s (ks.take j)).1 ∈ c.L ∧ (¬ fld (ks.getD j 0) → (grw c.F c.n s (ks.take j)).2 (par (ks.getD j 0)) ∈ c.L)
/-- A file on its way: j keys of ks were added. -/
structure Gr (c : Cx) (Lv : Nat → Prop) (ks : List Nat) (V : Nat → List Int) (nd : Nd) (B : Nat → Nat) (T : Nat → Bool) (j : Nat) (V' : Nat → List Int) (nd' : Nd) : Prop where
  fl : Fl c (fun k => Lv k ∨ k ∈ ks.take j) V' nd' (grw c.F c.n (T, B) (ks.take j)).2 (grw c.F c.n (T, B) (ks.take j)).1
  same : nd'.kd = nd.kd ∧ nd'.lk = nd.lk ∧ nd'.sz = nd.sz
  fr : ∀ m, c.F ≤ m → m < c.F + c.n → T (m - c.F) = true → (∀ l, l % 2 = 1 → Lv l → B l ≠ m) → V' m = V m
  zr : ∀ k, k ∈ ks.take j → k % 2 = 0 → V' ((grw c.F c.n (T, B) (ks.take j)).2 k) = zeros 512
  nw : ∀ k, k ∈ ks.take j → T ((grw c.F c.n (T, B) (ks.take j)).2 k - c.F) = false
theorem Gr.start {ks : List Nat} (h : Fl c Lv V nd B T) : Gr c Lv ks V nd B T 0 V nd := by
  refine ⟨⟨h.sh.iff (fun k => by simp), fun k hk => h.own k (by simpa using hk), fun k hk => h.idx k (by simpa using hk)⟩, ⟨rfl, rfl, rfl⟩, fun _ _ _ _ _ => rfl, fun k hk => by simp at hk, fun k hk => by simp at hk⟩
theorem Nd.set_same (n : Nd) {k : Nat} (hk : fld k) (x : Int) : (n.set (fo k) x).kd = n.kd ∧ (n.set (fo k) x).lk = n.lk ∧ (n.set (fo k) x).sz = n.sz := by
  rcases fld_cases hk with rfl | rfl | rfl | rfl | rfl | rfl | rfl | rfl | rfl | rfl <;> exact ⟨rfl, rfl, rfl⟩
theorem setN_same (n : Nd) (k : Nat) (x : Int) : (setN n k x).kd = n.kd ∧ (setN n k x).lk = n.lk ∧ (setN n k x).sz = n.sz := by
  unfold setN
  split
  · rename_i h; exact n.set_same h x
  · exact ⟨rfl, rfl, rfl⟩
theorem Gr.step {ks : List Nat} {V' V1 : Nat → List Int} {nd' : Nd} {j t : Nat} {s : (Nat → Bool) × (Nat → Nat)} (h : Gr c Lv ks V nd B T j V' nd') (ho : c.Ok) (hk : KsOk Lv ks) (hj : j < ks.length) (hlen : ∀ n, n < c.K → (V' n).length = 512)
    (hs : grw c.F c.n (T, B) (ks.take j) = s) (ht : frN c.n s.1 = t) (h1 : t < c.n) (h2 : s.1 t = false) (hv : ∀ m, (m < c.M ∨ c.M + mapsN c.n ≤ m) → V1 m = V' m) :
    Gr c Lv ks V nd B T (j + 1) (setV (upd V1 (c.F + t) (zeros 512)) s.2 (ks.getD j 0) ((c.F + t : Nat) : Int)) (setN nd' (ks.getD j 0) ((c.F + t : Nat) : Int)) := by
  have hgs : grw c.F c.n (T, B) (ks.take (j + 1)) = (upd s.1 t true, upd s.2 (ks.getD j 0) (c.F + t)) := by
    rw [grw_step hj, hs]; unfold stp; rw [ht]
  have hfl := h.fl
  rw [hs] at hfl
  have hm := mem_getD hj
  have hnl : ¬ (Lv (ks.getD j 0) ∨ ks.getD j 0 ∈ ks.take j) := fun e => e.elim (hk.new _ hm) (getD_not_take hk.nodup hj)
  have hpar : ¬ fld (ks.getD j 0) → (Lv (par (ks.getD j 0)) ∨ par (ks.getD j 0) ∈ ks.take j) := hk.par j hj
  have hst := hfl.step (V1 := V1) ho hlen h1 h2 hnl (fun hf => ⟨hpar hf, hk.idx _ hm hf⟩) hv
  have hfr := step_frame (V1 := V1) hfl ho h2 hpar hv ((c.F + t : Nat) : Int)
  have hsn := setN_same nd' (ks.getD j 0) ((c.F + t : Nat) : Int)
  have hmono : ∀ m, T m = true → s.1 m = true := fun m hm' => by rw [← hs]; exact grw_mono _ _ _ _ _ hm'
  have hold : ∀ l, Lv l → s.2 l = B l := fun l hl => by
    rw [← hs]
    exact grw_other _ _ _ _ _ (fun e => hk.new l (List.mem_of_mem_take e) hl)
  refine ⟨?_, ⟨hsn.1.trans h.same.1, hsn.2.1.trans h.same.2.1, hsn.2.2.trans h.same.2.2⟩, fun m m1 m2 m3 m4 => ?_, fun k hk' he => ?_, fun k hk' => ?_⟩
  · rw [hgs]
    have e : ∀ k, ((Lv k ∨ k ∈ ks.take j) ∨ k = ks.getD j 0) ↔ (Lv k ∨ k ∈ ks.take (j + 1)) := fun k => by
      rw [take_step hj, List.mem_append, List.mem_singleton, or_assoc]
    exact ⟨hst.sh.iff e, fun k hk' => hst.own k ((e k).2 hk'), fun k hk' => hst.idx k ((e k).2 hk')⟩
  · rw [hfr.1 m m1 m2 (hmono _ m3) ?_]
    · exact h.fr m m1 m2 m3 m4
    · intro l hl1 hl2 e
      rcases hl2 with hl2 | hl2
      · rw [hold l hl2] at e; exact m4 l hl1 hl2 e
      · have := h.nw l hl2
        rw [hs, e, m3] at this
        cases this
  · rw [hgs]
    show setV _ _ _ _ (upd s.2 (ks.getD j 0) (c.F + t) k) = _
    by_cases e : k = ks.getD j 0
    · rw [e, upd_same]; exact hfr.2
    · rw [upd_other _ _ e]
      have hkt : k ∈ ks.take j := by
        rw [take_step hj, List.mem_append, List.mem_singleton] at hk'
        exact hk'.resolve_right e
      have ho' := hfl.own k (.inr hkt)
      rw [hfr.1 _ ho'.1 ho'.2.1 ho'.2.2 ?_]
      · have := h.zr k hkt he
        rw [hs] at this
        exact this
      · intro l hl1 hl2 e2
        have := hfl.sh.inj l k hl2 (.inr hkt) e2
        omega
  · rw [hgs]
    show T (upd s.2 (ks.getD j 0) (c.F + t) k - c.F) = false
    by_cases e : k = ks.getD j 0
    · rw [e, upd_same, Nat.add_sub_cancel_left]
      cases hTt : T t with
      | false => rfl
      | true => rw [hmono t hTt] at h2; cases h2
    · rw [upd_other _ _ e]
      have hkt : k ∈ ks.take j := by
        rw [take_step hj, List.mem_append, List.mem_singleton] at hk'
        exact hk'.resolve_right e
      have := h.nw k hkt
      rw [hs] at this
      exact this
/-- What grow finds between two keys. -/
structure GrW (c : Cx) (X : Nat → Prop) (ks : List Nat) (V : Nat → List Int) (nd : Nd) (B : Nat → Nat) (T : Nat → Bool) (Lv : Nat → Prop) (nb pb b lo : Nat) (l : Nat → Sp) (cur : Array Value) (w wr : World) (j : Nat) : Prop where
  st : ∃ V' nd', Fs c X wr V' (grw c.F c.n (T, B) (ks.take j)).1 ∧ Gr c Lv ks V nd B T j V' nd' ∧ NdB 29 wr nb nd'
  row : SpR wr b cur
  sp : ∀ m, m < ks.length → SpEl cur m (l m) ∧ SpFor wr (Bet lo b) nb c.q (ks.getD m 0) (l m)
  pool : PAt wr pb c.M c.F c.n
  sm : ∀ k, X k → k ≠ nb → wr.heap[k]? = w.heap[k]?
end
section
variable {c : Cx} {X : Nat → Prop} {w wr : World} {V : Nat → List Int} {T : Nat → Bool} {nd : Nd} {B : Nat → Nat} {nb pb b lo i j : Nat} {l : Nat → Sp} {cur : Array Value}
/-- One key: Take, Write, set. -/
theorem grow_key {s : (Nat → Bool) × (Nat → Nat)} {t k : Nat} (h : GrW c X (begunK i) V nd B T (live i) nb pb b lo l cur w wr j) (ho : c.Ok) (hj : j < (begunK i).length) (hk : (begunK i).getD j 0 = k) (hs : grw c.F c.n (T, B) ((begunK i).take j) = s) (ht : frN c.n s.1 = t) (hc : cntT s.1 c.n < c.n)
    (hi : i < 16520) (hX : ∀ m, lo ≤ m → m ≤ b → X m) (hn : X nb) (hr : c.w0.heap.size ≤ nb) (hpb : X pb) (hne : nb ≠ b ∧ nb ≠ pb ∧ nb < lo ∧ lo ≤ b) (hL : Lg c (T, B) (begunK i)) :
    ∀ o, Calls Tryz.prog 78 #[PV c.M c.F c.n, .pointer (some ⟨c.q, 0, none⟩)] (wr.alloc o) fun e w1 => e = .returned (.tuple #[.int .i64 ((c.F + t : Nat) : Int), .int .i64 0]) ∧ w1.heap[wr.heap.size]? = some o ∧
      Hid (∀ u g w2, NewM w1 w2 u g (zeros 512) → Calls Tryz.prog 79 #[.pointer (some ⟨c.q, 0, none⟩), .int .i64 ((c.F + t : Nat) : Int), u] w2 fun e w3 => e = .returned (.int .i64 0) ∧ w3.heap[wr.heap.size]? = some o ∧
        ((fld k ∧ ∃ sb, (l j).st = sF sb ∧ Hid (Calls Tryz.prog 131 #[.int .i64 ((c.F + t : Nat) : Int), .pointer (some ⟨sb, 0, none⟩)] w3 fun e w4 => e = .returned (.int .i64 0) ∧ Hid (GrW c X (begunK i) V nd B T (live i) nb pb b lo l cur w w4 (j + 1)))) ∨
         (¬ fld k ∧ ∃ sb, (l j).st = sE (sb + 4) (sb + 2) sb ∧ Hid (Calls Tryz.prog 135 #[.int .i64 ((c.F + t : Nat) : Int), .pointer (some ⟨sb + 4, 0, none⟩), .pointer (some ⟨sb + 2, 0, none⟩), .pointer (some ⟨sb, 0, none⟩)] w3 fun e w4 => e = .returned (.int .i64 0) ∧ Hid (GrW c X (begunK i) V nd B T (live i) nb pb b lo l cur w w4 (j + 1)))))) := by
  intro o
  obtain ⟨⟨V', nd', hfs, hgr, hnd⟩, hrow, hsp, hpool, hsm⟩ := h
  rw [hs] at hfs
  obtain ⟨t1, t2, t3⟩ := frN_spec hc
  rw [ht] at t1 t2 t3
  have hF := ho.pr.f
  have hnt := ho.pr.top
  have hc0 := Chg.alloc (fun _ => False) wr o
  have hfs0 := hfs.add hc0
  obtain ⟨Z, hZ⟩ : ∃ Z, addX X wr.heap.size (wr.alloc o).heap.size = Z := ⟨_, rfl⟩
  rw [hZ] at hfs0
  have hzX : ∀ m, X m → Z m := fun m hm => hZ ▸ .inl hm
  have hz : Z wr.heap.size := hZ ▸ .inr ⟨Nat.le_refl _, by simp⟩
  have hlen : ∀ n, n < c.K → (V' n).length = 512 := fun n hn => hfs.tv.len hn
  have hLj := hL j hj
  rw [hs, ht, hk] at hLj
  refine (fs_take hfs0 ho hc).mono ?_
  rintro e w1 ⟨rfl, V1, hf1, hv1, sm1⟩
  rw [ht] at hf1 ⊢
  refine ⟨rfl, (sm1 _ hz).trans (heap_alloc_new wr o), ?_⟩
  intro u g w2 hu
  refine (fs_write (c.F + t) (zeros 512) u g hf1 ho hu (isBy_zeros _) (by omega) (by omega) hLj.1).mono ?_
  rintro e w3 ⟨rfl, hf3, sm3⟩
  have sm13 : Sm Z (wr.alloc o) w3 := sm1.trans sm3
  refine ⟨rfl, (sm13 _ hz).trans (heap_alloc_new wr o), ?_⟩
  have hnd3 : NdB 29 w3 nb nd' := (sm13 nb (hzX _ hn)).trans (hnd.kept hc0 (fun h => h))
  have hsp3 : SpFor w3 (Bet lo b) nb c.q k (l j) := by
    have := (hsp j hj).2
    rw [hk] at this
    exact (this.kept hc0 (fun _ _ h => h)).sm sm13 (fun m hm => hzX m (hX m hm.1 (by have := hm.2; omega)))
  have hst := hgr.step (V1 := V1) ho (begunK_ok hi) hj hlen hs ht t1 t2 hv1
  rw [hk] at hst
  have fin : ∀ w4, Fs c Z w4 (setV (upd V1 (c.F + t) (zeros 512)) s.2 k ((c.F + t : Nat) : Int)) (upd s.1 t true) → NdB 29 w4 nb (setN nd' k ((c.F + t : Nat) : Int)) → (∀ m, Z m → m ≠ nb → w4.heap[m]? = w3.heap[m]?) → GrW c X (begunK i) V nd B T (live i) nb pb b lo l cur w w4 (j + 1) := by
    intro w4 f4 n4 s4
    have hgs : (grw c.F c.n (T, B) ((begunK i).take (j + 1))).1 = upd s.1 t true := by rw [grw_step hj, hs]; unfold stp; rw [ht]
    have hall : ∀ m, X m → m ≠ nb → w4.heap[m]? = wr.heap[m]? := fun m hm hne => (s4 m (hzX _ hm) hne).trans ((sm13 m (hzX _ hm)).trans (hc0.block m (hfs.tv.xlt m hm) (fun h => h)))
    have hS : Sm (fun m => X m ∧ m ≠ nb) wr w4 := fun m hm => hall m hm.1 hm.2
    refine ⟨⟨_, _, by rw [hgs]; exact f4.less hzX, hst, n4⟩, (hall b (hX b hne.2.2.2 (Nat.le_refl _)) (Ne.symm hne.1)).trans hrow, fun m hm => ⟨(hsp m hm).1, (hsp m hm).2.sm hS (fun m hm => ⟨hX m hm.1 (by have := hm.2; omega), by have := hm.1; omega⟩)⟩, hpool.sm hS ⟨hpb, Ne.symm hne.2.1⟩, fun m hm hne => (hall m hm hne).trans (hsm m hm hne)⟩
  by_cases hf : fld k
  · obtain ⟨sb, e1, hcall⟩ := sp_setF (B := s.2) hsp3 hf hnd3 hf3 (hzX _ hn) hr ((c.F + t : Nat) : Int)
    refine .inl ⟨hf, sb, e1, hcall.mono ?_⟩
    rintro e w4 ⟨rfl, f4, n4, c4⟩
    exact ⟨rfl, fin w4 f4 n4 (fun m hm hne => c4.block m (hf3.tv.xlt m hm) hne)⟩
  · have hfl := hgr.fl
    rw [hs] at hfl
    have hoff := ho.off
    have hfl2 : Fl c (fun m => live i m ∨ m ∈ (begunK i).take j) (upd V1 (c.F + t) (zeros 512)) nd' s.2 (upd s.1 t true) := by
      refine ⟨hfl.sh.congrV (fun m hm => ?_), fun m hm => ?_, hfl.idx⟩
      · have := hfl.own m hm
        rw [upd_other _ _ (hfl.fresh t2 m hm), hv1 _ (by omega)]
      · have := hfl.own m hm
        refine ⟨this.1, this.2.1, ?_⟩
        by_cases e : s.2 m - c.F = t
        · rw [e, upd_same]
        · rw [upd_other _ _ e]; exact this.2.2
    have hkj := (begunK_ok hi).par j hj
    have hki := (begunK_ok hi).idx _ (mem_getD hj)
    rw [hk] at hkj hki
    obtain ⟨sb, e1, hcall⟩ := sp_setE hsp3 hf hnd3 hf3 hfl2 ho (hkj hf) (hki hf) (hLj.2 hf) (hzX _ hn) (fun m hm => hzX _ (hX m hm.1 (by have := hm.2; omega))) ((c.F + t : Nat) : Int) (by omega) (by omega)
    refine .inr ⟨hf, sb, e1, hcall.mono ?_⟩
    rintro e w4 ⟨rfl, f4, n4, c4⟩
    exact ⟨rfl, fin w4 f4 n4 (fun m hm _ => c4 m hm)⟩
end
end Go.Proofs.YthohgljlcfbpjaaGreat
