/-
  Append of package file: its rounds, and what stands behind them.
-/
import Derived.Test.YtnnaemlipahamaaGreatFRead1
import Derived.Test.YtnnaemlipahamaaGreatWMem
namespace Go.Proofs.YtnnaemlipahamaaGreat
open Go.RowKit Go.Maps

section
variable {c : Cx} {X : Nat → Prop} {w w' : World} {V : Nat → List Int} {T : Nat → Bool} {nd : Nd} {B : Nat → Nat} {m : Nat} {cs bs b : List Int}
theorem Fs.sm (hs : Fs c X w V T) : ∀ k, X k → k < w.heap.size := hs.tv.xlt
theorem fs_free (hs : Fs c X w V T) (ho : c.Ok) :
    Calls Tryz.prog 11 #[PV c.M c.F c.n, .pointer (some ⟨c.q, 0, none⟩)] w fun e w' => e = .returned (.tuple #[.int .i64 ((c.n - cntT T c.n : Nat) : Int), .int .i64 0]) ∧ Chg (fun _ => False) w w' := free_ok c.M c.F c.n hs.tv ho.pr hs.bt
/-- Between two rounds of Append. -/
structure ApS (c : Cx) (X : Nat → Prop) (V : Nat → List Int) (nd : Nd) (B : Nat → Nat) (T : Nat → Bool) (m : Nat) (cs : List Int) (w : World) (pb nb rb j : Nat) (wr : World) : Prop where
  st : ∃ V' nd', Fs c X wr V' (grw c.F c.n (T, B) (keysTo m j)).1 ∧ Gm c m V nd B T cs j V' nd' ∧ NdB 29 wr nb nd'
  pool : PAt wr pb c.M c.F c.n
  res : NdB 29 wr rb Nd.no
  sm : ∀ k, X k → k ≠ nb → wr.heap[k]? = w.heap[k]?
theorem ApS.more {pb nb rb j : Nat} {wr wb : World} (h : ApS c X V nd B T m cs w pb nb rb j wr) (hc : Chg (fun _ => False) wr wb) : ApS c X V nd B T m cs w pb nb rb j wb := by
  obtain ⟨V', nd', h1, h2, h3⟩ := h.st
  exact ⟨⟨V', nd', h1.more hc, h2, h3.kept hc (fun h => h)⟩, h.pool.kept hc (fun h => h), h.res.kept hc (fun h => h), fun k hk hne => (hc.block k (h1.tv.xlt k hk) (fun h => h)).trans (h.sm k hk hne)⟩
theorem ApS.grow {pb nb rb j J : Nat} {wr : World} (h : ApS c X V nd B T m cs w pb nb rb j wr) (ho : c.Ok) (hj : j < J) (hM : m + J ≤ 16520) (hcnt : cntT T c.n + (keysTo m J).length ≤ c.n) (hW : Wrt c (grw c.F c.n (T, B) (keysTo m J)).2 m (m + J)) (hX : X nb ∧ X pb ∧ X rb ∧ nb ≠ pb ∧ nb ≠ rb) (hr : c.w0.heap.size ≤ nb) :
    Calls Tryz.prog 44 #[.pointer (some ⟨c.q, 0, none⟩), PV c.M c.F c.n, .pointer (some ⟨nb, 0, none⟩), .int .i64 ((m + j : Nat) : Int)] wr fun e w' => e = .returned (.int .i64 0) ∧ ApS c X V nd B T m cs w pb nb rb (j + 1) w' := by
  obtain ⟨V', nd', h1, h2, h3⟩ := h.st
  obtain ⟨s, hs⟩ : ∃ s, grw c.F c.n (T, B) (keysTo m j) = s := ⟨_, rfl⟩
  have hf := h2.fl
  have hlg := hW.lg (j := j) hj hM
  have hcn : cntT s.1 c.n + (begunK (m + j)).length ≤ c.n := by
    have l1 := keysTo_len m j
    have l2 := keysTo_len m (j + 1)
    have l3 := keysTo_len m J
    have l4 := begunK_len (m + j)
    have l5 : allM (m + j) + (begunK (m + j)).length ≤ allM (m + J) := by
      rw [l4]
      have : allM (m + (j + 1)) + (keysTo (m + (j + 1)) (J - (j + 1))).length = allM (m + (j + 1) + (J - (j + 1))) := keysTo_len _ _
      rw [show m + (j + 1) + (J - (j + 1)) = m + J by omega] at this
      have e : m + j + 1 = m + (j + 1) := by omega
      rw [e]; omega
    have := grw_cnt c.F c.n (keysTo m j) (T, B) (by simp only; omega)
    rw [hs] at this
    simp only at this
    omega
  rw [hs] at h1 hf hlg
  refine (grow_any h1 hf ho h3 hX.1 hr (by omega) hcn hlg).mono ?_
  rintro e w' ⟨rfl, V'', nd'', f1, g1, n1, s1⟩
  have hk : grw c.F c.n (T, B) (keysTo m (j + 1)) = grw c.F c.n s (begunK (m + j)) := by rw [keysTo, grw_app, hs]
  have hS : Sm (fun k => X k ∧ k ≠ nb) wr w' := fun k hk => s1 k hk.1 hk.2
  refine ⟨rfl, ⟨V'', nd'', by rw [hk]; exact f1, h2.step (by rw [hs]; exact g1), n1⟩, h.pool.sm hS ⟨hX.2.1, Ne.symm hX.2.2.2.1⟩, (hS rb ⟨hX.2.2.1, Ne.symm hX.2.2.2.2⟩).trans h.res, fun k hk hne => (s1 k hk hne).trans (h.sm k hk hne)⟩
/-- What Append leaves. -/
def AppTo (c : Cx) (X : Nat → Prop) (V : Nat → List Int) (nd : Nd) (B : Nat → Nat) (T : Nat → Bool) (bs b : List Int) (w : World) (nd' : Nd) (w' : World) : Prop :=
  ∃ V' s, s = grw c.F c.n (T, B) (keysTo (blkC bs.length) (blkC (bs.length + b.length) - blkC bs.length)) ∧ Fs c X w' V' s.1 ∧ File c V' nd' s.2 s.1 (bs ++ b) ∧ (nd'.kd = nd.kd ∧ nd'.lk = nd.lk) ∧
    (∀ x, c.F ≤ x → x < c.F + c.n → T (x - c.F) = true → (∀ k, live (blkC bs.length) k → B k ≠ x) → V' x = V x) ∧ Sm X w w'
theorem splice_pad {bs b : List Int} {J : Nat} (hJ : blkC bs.length + J = blkC (bs.length + b.length)) : splice (pad bs ++ zeros (512 * J)) bs.length b = pad (bs ++ b) := by
  have h1 := pad_len bs
  have hb : bs.length ≤ 512 * blkC bs.length := by unfold blkC; omega
  have hb2 : bs.length + b.length ≤ 512 * blkC (bs.length + b.length) := by unfold blkC; omega
  obtain ⟨K, hK⟩ : ∃ K, 512 * blkC bs.length - bs.length + 512 * J = K := ⟨_, rfl⟩
  have e : pad bs ++ zeros (512 * J) = bs ++ zeros K := by
    unfold pad
    rw [List.append_assoc]
    congr 1
    unfold zeros
    rw [List.replicate_append_replicate, hK]
  rw [e]
  unfold splice
  rw [List.take_left, List.append_assoc]
  unfold pad
  rw [List.append_assoc]
  congr 2
  rw [List.drop_append, List.drop_eq_nil_of_le (by omega), List.nil_append, List.length_append]
  unfold zeros
  rw [List.drop_replicate]
  congr 1
  omega
/-- lay, behind the rounds. -/
theorem ApS.lay {X0 : Nat → Prop} {pb nb rb J : Nat} {wr wb : World} {u : Value} (h : ApS c X V nd B T (blkC bs.length) (pad bs) w pb nb rb J wr) (ho : c.Ok) (hJ : blkC bs.length + J = blkC (bs.length + b.length)) (hl : bs.length + b.length ≤ 8458240) (hF : File c V nd B T bs) (hW : Wrt c (grw c.F c.n (T, B) (keysTo (blkC bs.length) J)).2 (blkC bs.length) (blkC bs.length + J))
    (hX : X nb ∧ X pb ∧ X rb ∧ nb ≠ pb ∧ nb ≠ rb) (hr : c.w0.heap.size ≤ nb ∧ c.w0.heap.size ≤ rb) (hb : Bs w u b) (hub : ∀ g, u.ownBlock = some g → 0 < b.length → X g ∧ g ≠ nb) (hby : IsBy b) (hwb : wb = wr.setCell ⟨nb, 2, none⟩ (.int .i64 ((bs.length + b.length : Nat) : Int)))
    {wA : World} (hX0 : ∀ k, X0 k → X k ∧ k ≠ nb ∧ k ≠ rb) (hw0 : ∀ k, X0 k → wA.heap[k]? = w.heap[k]?) :
    ∃ nd5, NdB 29 wb nb nd5 ∧ Calls Tryz.prog 45 #[tI c.q, nd5.v, .int .i64 (bs.length : Int), u] wb fun e w6 => e = .returned (.int .i64 0) ∧ NdB 29 w6 nb nd5 ∧ NdB 29 w6 rb Nd.no ∧
      Hid (∀ w7, Chg (fun k => k = rb) w6 w7 → AppTo c X0 V nd B T bs b wA nd5 w7) := by
  obtain ⟨V', nd', h1, h2, h3⟩ := h.st
  obtain ⟨s, hs⟩ : ∃ s, grw c.F c.n (T, B) (keysTo (blkC bs.length) J) = s := ⟨_, rfl⟩
  rw [hs] at hW
  have hf := h2.fl
  have hct := h2.ct
  rw [hs] at h1 hf hct
  have hcb : Chg (fun k => k = nb) wr wb := hwb ▸ Chg.setCell (S := fun k => k = nb) _ _ _ rfl
  have h1b := h1.put hX.1 hr.1 hcb
  have hn5 : NdB 29 wb nb (nd'.set 2 ((bs.length + b.length : Nat) : Int)) := hwb ▸ h3.st 2 _ (by omega)
  have hf5 : Fl c (live (blkC bs.length + J)) V' (nd'.set 2 ((bs.length + b.length : Nat) : Int)) s.2 s.1 := ⟨hf.sh.sz _, hf.own, hf.idx⟩
  have hbb : Bs wb u b := by
    rcases hb with e | ⟨a, cu, rfl, k1, k2, k3⟩
    · exact .inl e
    · refine .inr ⟨a, cu, rfl, k1, k2, fun j hj => ?_⟩
      rw [← k3 j hj]
      refine World.cell?_of_block ?_
      have e : (a.add j).block = a.block := by unfold Addr.add; split <;> rfl
      rw [e]
      have hx := hub a.block rfl (by omega)
      exact (hcb.block _ (h1.tv.xlt _ hx.1) hx.2).trans (h.sm _ hx.1 hx.2)
  have hbl : bs.length ≤ 512 * blkC bs.length := by unfold blkC; omega
  have hbl2 : bs.length + b.length ≤ 512 * (blkC bs.length + J) := by rw [hJ]; unfold blkC; omega
  have hM : blkC bs.length + J ≤ 16520 := by rw [hJ]; unfold blkC; omega
  refine ⟨_, hn5, (lay_any bs.length u b h1b hf5 ho hct hbb (fun g hg h0 => (hub g hg h0).1) hbl2 hM hby (fun i i1 i2 => ?_)).mono ?_⟩
  · have hli : live (blkC bs.length + J) (2 * i) := by
      have : i < blkC bs.length + J := by omega
      unfold live; omega
    refine hW _ hli ?_
    by_cases e : i < blkC bs.length
    · right; right
      unfold blkC at *
      omega
    · left
      unfold live; omega
  · rintro e w6 ⟨rfl, V'', f6, l6, c6, fr6, s6⟩
    refine ⟨rfl, (s6 nb hX.1).trans hn5, (s6 rb hX.2.2.1).trans ((hcb.block rb (h1.tv.xlt _ hX.2.2.1) (Ne.symm hX.2.2.2.2)).trans h.res), fun w7 hc7 => ?_⟩
    have f7 := f6.put hX.2.2.1 hr.2 hc7
    rw [splice_pad hJ] at c6
    have hJ' : blkC (bs.length + b.length) - blkC bs.length = J := by omega
    have hlen : (bs ++ b).length = bs.length + b.length := List.length_append
    rw [hJ] at l6 c6
    refine ⟨V'', s, by rw [hJ', hs], f7.less (fun k hk => (hX0 k hk).1), ⟨by rw [hlen]; exact l6, by rw [hlen]; exact c6, by rw [hlen]; rfl, by rw [hlen]; exact hl, fun y hy => ?_⟩, ⟨h2.same.1, h2.same.2.1⟩, fun x x1 x2 x3 x4 => ?_, fun k hk => ?_⟩
    · rcases List.mem_append.1 hy with e | e
      · exact hF.by' y e
      · exact hby y e
    · rw [fr6 x (fun i hi e => ?_)]
      · exact h2.fr x x1 x2 x3 x4
      · have hli : live (blkC bs.length + J) (2 * i) := by unfold live; omega
        by_cases hm : live (blkC bs.length) (2 * i)
        · have : s.2 (2 * i) = B (2 * i) := by rw [← hs]; exact keep_old hm
          rw [this] at e
          exact x4 _ hm e
        · have := h2.nw _ hli hm
          rw [hs, e, x3] at this
          cases this
    · obtain ⟨k1, k2, k3⟩ := hX0 k hk
      have := h1.tv.xlt _ k1
      exact (hc7.block k (by have := f6.tv.xlt _ k1; omega) k3).trans ((s6 k k1).trans ((hcb.block k this k2).trans ((h.sm k k1 k2).trans (hw0 k hk).symm)))
end
end Go.Proofs.YtnnaemlipahamaaGreat

namespace Go.Proofs.YtnnaemlipahamaaGreat
open Go.RowKit Go.Maps

theorem info3_parts : ∃ i, Tryz.prog.info? 3 = some i ∧ i.zero = some (.int .i64 0) ∧ i.size = 1 ∧ i.bytes = 8 := by
  have h : (Tryz.prog.info? 3).map (fun i => (i.zero, i.size, i.bytes)) = some (some (.int .i64 0), 1, 8) := by kernel_rfl
  cases hi : Tryz.prog.info? 3 with
  | none => rw [hi] at h; cases h
  | some i =>
    rw [hi] at h
    simp at h
    exact ⟨i, rfl, h.1, h.2.1, h.2.2⟩
/-- A row of numbers of one's own. -/
abbrev OwI (w : World) (N : Nat) (v : Value) (xs : List Nat) : Prop := w.ownsRow N 3 1 v xs.length (icells xs)
theorem OwI.nil (w : World) (N : Nat) : OwI w N (.slice none 0 0) [] := ⟨rfl, .inl ⟨rfl, rfl⟩⟩
theorem OwI.lo {w : World} {N g : Nat} {v : Value} {xs : List Nat} (h : OwI w N v xs) (e : v.ownBlock = some g) : N ≤ g ∧ g < w.heap.size := by
  rcases h.2 with ⟨e2, _⟩ | ⟨g', cap, cur, e2, hN, hg, _⟩
  · rw [e2] at e; cases e
  · rw [e2] at e
    have : g' = g := by simpa [Value.ownBlock] using e
    subst this
    exact ⟨hN, lt_of_block hg⟩
theorem OwI.kept {S : Nat → Prop} {w w' : World} {N : Nat} {v : Value} {xs : List Nat} (h : OwI w N v xs) (hc : Chg S w w') (hn : ∀ g, v.ownBlock = some g → ¬ S g) : OwI w' N v xs := by
  refine ⟨h.1, ?_⟩
  rcases h.2 with e | ⟨g, cap, cur, e, hb, hg, r⟩
  · exact .inl e
  · refine .inr ⟨g, cap, cur, e, hb, ?_, r⟩
    rw [hc.block g (lt_of_block hg) (hn g (by rw [e]; rfl))]; exact hg
theorem run_appI {w : World} {N x : Nat} {v : Value} {xs : List Nat} (h : OwI w N v xs) (hl : xs.length ≤ 100000) (hN : N ≤ w.heap.size) :
    ∃ v' w', (appG #[34, 34] 34 #[v, .slice (some ⟨w.heap.size, 0, none⟩) 1 1]).run Tryz.prog (w.alloc (.cells #[.int .i64 (x : Int)] 3)) = .ok v' w' ∧ OwI w' N v' (xs ++ [x]) ∧ Chg (fun k => v.ownBlock = some k) w w' ∧ (∀ g, v'.ownBlock = some g → v.ownBlock = some g ∨ w.heap.size ≤ g) ∧ ∃ g cp, v' = .slice (some ⟨g, 0, none⟩) (xs.length + 1) cp := by
  obtain ⟨i0, hi, hz0, hz1, hz2⟩ := info3_parts
  have h1 : OwI (w.alloc (.cells #[.int .i64 (x : Int)] 3)) N v xs := h.kept (Chg.alloc (fun _ => False) w _) (fun _ _ h => h)
  obtain ⟨v', w', hr, ho, hg, hne, hob⟩ := run_append_own_at (P := Tryz.prog) (w.alloc (.cells #[.int .i64 (x : Int)] 3)) N 34 34 3 i0 (.int .i64 0) 1 8 Tryz.underlying34 hi hz0 hz1 hz2 rfl (by decide) v xs.length (icells xs) h1 ⟨w.heap.size, 0, none⟩ 1 1 [.int .i64 (x : Int)] rfl (cell_one_new _ _ _) (by simp [Value.oneCell']) (by unfold maxLen; omega) (by omega) (by simp; omega)
  have e : icells (xs ++ [x]) = icells xs ++ [.int .i64 (x : Int)] := by simp [icells]
  refine ⟨v', w', hr, ⟨by rw [e]; simpa using ho.1, ?_⟩, ((Chg.alloc _ w _).trans (Chg.ofGrown hg) (fun _ _ h => h)), fun g hg' => ?_, ?_⟩
  · rw [e, List.length_append]
    exact ho.2
  · rcases hob with e2 | e2
    · exact .inl (e2 ▸ hg')
    · rw [hg'] at e2
      have : g = w.heap.size + 1 := by simpa using e2
      right; omega
  · rcases ho.2 with ⟨e2, e3⟩ | ⟨g, cp, cur, e2, _⟩
    · omega
    · exact ⟨g, cp, e2⟩
theorem icells_get' {xs : List Nat} {j : Nat} {u : Value} (h : (icells xs)[j]? = some u) : j < xs.length ∧ u.oneCell' = true := by
  unfold icells at h
  have hj : j < xs.length := by simpa using (List.getElem?_eq_some_iff.1 h).1
  refine ⟨hj, ?_⟩
  simp [hj] at h
  rw [← h]; rfl
/-- The two rows joined. -/
theorem run_appII {w : World} {N : Nat} {v u : Value} {xs ys : List Nat} (h : OwI w N v xs) (hu : OwI w N u ys) (hl : xs.length + ys.length ≤ 100000) (hN : N ≤ w.heap.size) :
    ∃ v' w', (appG #[34, 34] 34 #[v, u]).run Tryz.prog w = .ok v' w' ∧ OwI w' N v' (xs ++ ys) ∧ Chg (fun k => v.ownBlock = some k) w w' := by
  obtain ⟨i0, hi, hz0, hz1, hz2⟩ := info3_parts
  have e : icells (xs ++ ys) = icells xs ++ icells ys := by simp [icells]
  rcases hu.2 with ⟨rfl, h0⟩ | ⟨g, cap, cur, rfl, r⟩
  · have hy : ys = [] := List.eq_nil_of_length_eq_zero h0
    subst hy
    exact ⟨v, w, run_append_owned_none w N 34 34 3 i0 1 Tryz.underlying34 hi v _ _ h, by rw [List.append_nil]; exact h, Chg.refl _ _⟩
  · obtain ⟨v', w', hr, ho, hg, hne, hob⟩ := run_append_own_at (P := Tryz.prog) w N 34 34 3 i0 (.int .i64 0) 1 8 Tryz.underlying34 hi hz0 hz1 hz2 rfl (by decide) v xs.length (icells xs) h ⟨g, 0, none⟩ ys.length cap (icells ys) (by simp [icells]) (fun j u hj => hu.cells (g := g) rfl j u hj) (fun u hu' => by
        obtain ⟨j, hj⟩ := List.getElem?_of_mem hu'
        exact (icells_get' hj).2) (by unfold maxLen; omega) (by omega) hN
    refine ⟨v', w', hr, ⟨by rw [e]; have := ho.1; simpa using this, ?_⟩, Chg.ofGrown hg⟩
    rw [e, List.length_append]
    exact ho.2
/-- The keys of the blocks of numbers that the first i blocks need. -/
def nums : Nat → List Nat
  | 0 => []
  | i + 1 => nums i ++ (begunK i).dropLast
def usedK (m : Nat) : List Nat := (List.range m).map (2 * ·) ++ nums m
theorem begunK_last (i : Nat) : 0 < (begunK i).length ∧ (begunK i).getD ((begunK i).length - 1) 0 = 2 * i ∧ (begunK i).length ≤ 3 := by
  unfold begunK
  split
  · simp
  · split
    · simp
    · split <;> simp
/-- What Used finds: N on are its own blocks; the rows lie off the spots' blocks. -/
structure UsI (c : Cx) (X : Nat → Prop) (V : Nat → List Int) (T : Nat → Bool) (nd : Nd) (w : World) (xs ys : List Nat) (v6 v7 : Value) (wr : World) : Prop where
  fs : Fs c (addX X w.heap.size wr.heap.size) wr V T
  nd : NdB 29 wr w.heap.size nd
  r6 : OwI wr (w.heap.size + 1) v6 xs
  r7 : OwI wr (w.heap.size + 1) v7 ys
  ne : ∀ g, v6.ownBlock = some g → v7.ownBlock ≠ some g
  chg : Chg (fun _ => False) w wr
  lt : w.heap.size < wr.heap.size
  w0 : c.w0.heap.size ≤ w.heap.size
section
variable {c : Cx} {X : Nat → Prop} {w wr wb : World} {V : Nat → List Int} {T : Nat → Bool} {nd : Nd} {xs ys : List Nat} {v6 v7 : Value}
theorem UsI.more (h : UsI c X V T nd w xs ys v6 v7 wr) (hc : Chg (fun _ => False) wr wb) : UsI c X V T nd w xs ys v6 v7 wb := by
  have := h.fs.add hc
  rw [addX_addX h.chg.size hc.size] at this
  exact ⟨this, h.nd.kept hc (fun h => h), h.r6.kept hc (fun _ _ h => h), h.r7.kept hc (fun _ _ h => h), h.ne, h.chg.trans hc (fun _ _ h => h), by have := hc.size; have := h.lt; omega, h.w0⟩
theorem UsI.put {S : Nat → Prop} (h : UsI c X V T nd w xs ys v6 v7 wr) (hc : Chg S wr wb) (hS : ∀ g, S g → w.heap.size + 1 ≤ g) : Fs c (addX X w.heap.size wb.heap.size) wb V T ∧ NdB 29 wb w.heap.size nd ∧ Chg (fun _ => False) w wb := by
  have := h.fs.ref hc (fun b hb e => ⟨.inr ⟨by have := hS b e; omega, hb⟩, by have := hS b e; have := h.w0; omega⟩)
  rw [addX_addX h.chg.size hc.size] at this
  exact ⟨this, h.nd.kept hc (fun e => by have := hS _ e; omega), h.chg.trans hc (fun b hb e => by have := hS b e; omega)⟩
theorem UsI.add6 {x : Nat} (h : UsI c X V T nd w xs ys v6 v7 wr) (hl : xs.length ≤ 100000) :
    ∃ v' w', (appG #[34, 34] 34 #[v6, .slice (some ⟨wr.heap.size, 0, none⟩) 1 1]).run Tryz.prog (wr.alloc (.cells #[.int .i64 (x : Int)] 3)) = .ok v' w' ∧ UsI c X V T nd w (xs ++ [x]) ys v' v7 w' ∧ Chg (fun k => v6.ownBlock = some k) wr w' ∧ (∀ g, v'.ownBlock = some g → v6.ownBlock = some g ∨ wr.heap.size ≤ g) := by
  obtain ⟨v', w', hr, ho, hc, hn, _⟩ := run_appI (x := x) h.r6 hl (by have := h.lt; omega)
  obtain ⟨p1, p2, p3⟩ := h.put hc (fun g e => (h.r6.lo e).1)
  refine ⟨v', w', hr, ⟨p1, p2, ho, h.r7.kept hc (fun g e e2 => h.ne g e2 e), fun g e e2 => ?_, p3, by have := hc.size; have := h.lt; omega, h.w0⟩, hc, hn⟩
  rcases hn g e with e3 | e3
  · exact h.ne g e3 e2
  · have := (h.r7.lo e2).2; omega
theorem UsI.add7 {x : Nat} (h : UsI c X V T nd w xs ys v6 v7 wr) (hl : ys.length ≤ 100000) :
    ∃ v' w', (appG #[34, 34] 34 #[v7, .slice (some ⟨wr.heap.size, 0, none⟩) 1 1]).run Tryz.prog (wr.alloc (.cells #[.int .i64 (x : Int)] 3)) = .ok v' w' ∧ UsI c X V T nd w xs (ys ++ [x]) v6 v' w' ∧ Chg (fun k => v7.ownBlock = some k) wr w' ∧ (∀ g, v'.ownBlock = some g → v7.ownBlock = some g ∨ wr.heap.size ≤ g) := by
  obtain ⟨v', w', hr, ho, hc, hn, _⟩ := run_appI (x := x) h.r7 hl (by have := h.lt; omega)
  obtain ⟨p1, p2, p3⟩ := h.put hc (fun g e => (h.r7.lo e).1)
  refine ⟨v', w', hr, ⟨p1, p2, h.r6.kept hc (fun g e e2 => h.ne g e e2), ho, fun g e e2 => ?_, p3, by have := hc.size; have := h.lt; omega, h.w0⟩, hc, hn⟩
  rcases hn g e2 with e3 | e3
  · exact h.ne g e e3
  · have := (h.r6.lo e).2; omega
end
end Go.Proofs.YtnnaemlipahamaaGreat

namespace Go.Proofs.YtnnaemlipahamaaGreat
open Go.RowKit Go.Maps
attribute [local go_sem ↓] appG_eq

/-- What was collected behind k of block i's spots. -/
def iX (B : Nat → Nat) (i k : Nat) : List Nat := ((List.range (if k < (begunK i).length then i else i + 1)).map (2 * ·)).map B
def iY (B : Nat → Nat) (i k : Nat) : List Nat := (nums i ++ (begunK i).take (min k ((begunK i).length - 1))).map B
theorem iX_zero (B : Nat → Nat) (i : Nat) : iX B i 0 = ((List.range i).map (2 * ·)).map B := by
  unfold iX; rw [if_pos (begunK_last i).1]
theorem iY_zero (B : Nat → Nat) (i : Nat) : iY B i 0 = (nums i).map B := by
  unfold iY; simp
theorem iX_len (B : Nat → Nat) (i : Nat) : iX B i (begunK i).length = ((List.range (i + 1)).map (2 * ·)).map B := by
  unfold iX; rw [if_neg (by omega)]
theorem iY_len (B : Nat → Nat) (i : Nat) : iY B i (begunK i).length = (nums (i + 1)).map B := by
  unfold iY
  rw [Nat.min_eq_right (by omega), nums, List.dropLast_eq_take]
theorem iX_step {B : Nat → Nat} {i k : Nat} (h : k + 1 < (begunK i).length) : iX B i (k + 1) = iX B i k := by
  unfold iX; rw [if_pos h, if_pos (by omega)]
theorem iY_step {B : Nat → Nat} {i k : Nat} (h : k + 1 < (begunK i).length) : iY B i (k + 1) = iY B i k ++ [B ((begunK i).getD k 0)] := by
  unfold iY
  rw [Nat.min_eq_left (by omega), Nat.min_eq_left (by omega), take_step (by omega), ← List.append_assoc, List.map_append]
  rfl
theorem iX_last {B : Nat → Nat} {i k : Nat} (h : k + 1 = (begunK i).length) : iX B i (k + 1) = iX B i k ++ [B ((begunK i).getD k 0)] := by
  have := (begunK_last i).2.1
  rw [show (begunK i).length - 1 = k by omega] at this
  unfold iX
  rw [if_neg (by omega), if_pos (by omega), this, List.range_succ, List.map_append, List.map_append]
  rfl
theorem iY_last {B : Nat → Nat} {i k : Nat} (h : k + 1 = (begunK i).length) : iY B i (k + 1) = iY B i k := by
  unfold iY
  rw [Nat.min_eq_right (by omega), Nat.min_eq_left (by omega), show (begunK i).length - 1 = k by omega]
theorem nums_len : ∀ i, (nums i).length ≤ 2 * i
  | 0 => Nat.le_refl _
  | i + 1 => by
    have := nums_len i
    have := (begunK_last i).2.2
    rw [nums, List.length_append, List.length_dropLast]; omega
theorem iX_le (B : Nat → Nat) (i k : Nat) : (iX B i k).length ≤ i + 1 := by
  unfold iX; split <;> simp
theorem iY_le (B : Nat → Nat) (i k : Nat) : (iY B i k).length ≤ 2 * i + 3 := by
  have := nums_len i
  have := (begunK_last i).2.2
  unfold iY
  rw [List.length_map, List.length_append, List.length_take]; omega
/-- Between two spots. -/
structure UsJ (c : Cx) (X : Nat → Prop) (V : Nat → List Int) (T : Nat → Bool) (nd : Nd) (B : Nat → Nat) (w : World) (lo hi b i : Nat) (l : Nat → Sp) (cur : Array Value) (k : Nat) (v6 v7 : Value) (wr : World) : Prop where
  us : UsI c X V T nd w (iX B i k) (iY B i k) v6 v7 wr
  row : SpR wr b cur
  sp : ∀ j, j < (begunK i).length → SpEl cur j (l j) ∧ SpFor wr (Bet lo b) w.heap.size c.q ((begunK i).getD j 0) (l j)
  off6 : ∀ g, v6.ownBlock = some g → g < lo ∨ hi ≤ g
  off7 : ∀ g, v7.ownBlock = some g → g < lo ∨ hi ≤ g
  bd : lo ≤ b ∧ b < hi ∧ hi ≤ wr.heap.size
section
variable {c : Cx} {X : Nat → Prop} {w wr : World} {V : Nat → List Int} {T : Nat → Bool} {nd : Nd} {B : Nat → Nat} {m : Nat} {lo hi b i k : Nat} {l : Nat → Sp} {cur : Array Value} {v6 v7 : Value}
theorem UsJ.get (h : UsJ c X V T nd B w lo hi b i l cur k v6 v7 wr) (hf : Fl c (live m) V nd B T) (ho : c.Ok) (hk : k < (begunK i).length) (hi : i < m) (o : Obj) : Gets (wr.alloc o) (l k).g (B ((begunK i).getD k 0) : Int) := by
  have hc := Chg.alloc (fun _ => False) wr o
  refine sp_get ((h.sp k hk).2.kept hc (fun _ _ h => h)) (h.us.nd.at.kept hc (fun h => h)) (h.us.fs.more hc) hf ho ?_
  exact live_mono ((live_succ i _).2 (.inr (mem_getD hk))) (by omega)
theorem UsJ.step {v6' v7' : Value} {w2 w3 : World} {S : Nat → Prop} (h : UsJ c X V T nd B w lo hi b i l cur k v6 v7 wr) (hc2 : Chg (fun _ => False) wr w2) (hu : UsI c X V T nd w (iX B i (k + 1)) (iY B i (k + 1)) v6' v7' w3) (hc : Chg S w2 w3) (hS : ∀ g, S g → g < lo ∨ hi ≤ g) (h6 : ∀ g, v6'.ownBlock = some g → v6.ownBlock = some g ∨ w2.heap.size ≤ g) (h7 : ∀ g, v7'.ownBlock = some g → v7.ownBlock = some g ∨ w2.heap.size ≤ g) :
    UsJ c X V T nd B w lo hi b i l cur (k + 1) v6' v7' w3 := by
  obtain ⟨b1, b2, b3⟩ := h.bd
  have hs2 := hc2.size
  have hs3 := hc.size
  refine ⟨hu, (h.row.kept hc2 (fun h => h)).kept hc (fun e => by have := hS b e; omega), fun j hj => ⟨(h.sp j hj).1, ((h.sp j hj).2.kept hc2 (fun _ _ h => h)).kept hc (fun g hg e => by have := hS g e; have := hg.1; have := hg.2; omega)⟩, fun g hg => ?_, fun g hg => ?_, ⟨b1, b2, by omega⟩⟩
  · rcases h6 g hg with e | e
    · exact h.off6 g e
    · right; omega
  · rcases h7 g hg with e | e
    · exact h.off7 g e
    · right; omega
set_option maxHeartbeats 3200000 in
set_option maxRecDepth 100000 in
theorem used_any {sz : Nat} (hs : Fs c X w V T) (hf : Fl c (live m) V nd B T) (ho : c.Ok) (hsz : nd.sz = (sz : Int)) (hm : blkC sz = m) (hl : sz ≤ 8458240) :
    Calls Tryz.prog 20 #[tI c.q, nd.v] w fun e w' => ∃ u, e = .returned (.tuple #[u, .int .i64 0]) ∧ OwI w' (w.heap.size + 1) u ((usedK m).map B) ∧ Chg (fun _ => False) w w' := by
  have hM : m ≤ 16520 := by rw [← hm]; unfold blkC; omega
  have hc0 := Chg.alloc (fun _ => False) w (nd.o 29)
  have MB : Hid (Calls Tryz.prog 46 #[nd.v] (w.alloc (nd.o 29)) fun e w1 => e = .returned (.bool true) ∧ UsI c X V T nd w [] [] (.slice none 0 0) (.slice none 0 0) w1) := by
    refine (maybe_any nd _ (by omega) (by omega)).mono ?_
    rintro e w1 ⟨rfl, hc⟩
    exact ⟨rfl, UsI.more ⟨hs.add hc0, heap_alloc_new _ _, OwI.nil _ _, OwI.nil _ _, fun g e => by simp [Value.ownBlock] at e, hc0, by simp, hs.tv.chg.size⟩ hc⟩
  have eB := allN_blk (s := sz) hl
  rw [hm] at eB
  have BL : Hid (∀ wr, Calls Tryz.prog 43 #[.int .i64 (sz : Int)] wr fun e w' => e = .returned (.int .i64 (m : Int)) ∧ w' = wr) := fun wr => by
    have := iblocks_any (sz : Int) wr
    rw [eB.2] at this
    exact this
  have BG : Hid (∀ wr i v6 v7, i < m → UsI c X V T nd w (((List.range i).map (2 * ·)).map B) ((nums i).map B) v6 v7 wr → Calls Tryz.prog 51 #[tI c.q, .pointer (some ⟨w.heap.size, 0, none⟩), .int .i64 (i : Int)] wr fun e w2 => ∃ (b n cp : Nat), e = .returned (.slice (some ⟨b, 0, none⟩) n cp) ∧ n ≤ cp ∧ n ≤ 3 ∧ 0 < n ∧ Hid (∃ l cur, (begunK i).length = n ∧ UsJ c X V T nd B w wr.heap.size w2.heap.size b i l cur 0 v6 v7 w2)) := fun wr i v6 v7 hi hu => by
    refine (begun_any c.q w.heap.size i wr (by omega)).mono ?_
    rintro e w2 ⟨b, cp, l, cur, rfl, h1, h2, h3, h4, h5⟩
    have hbl := begunK_last i
    refine ⟨b, _, cp, rfl, h1, hbl.2.2, hbl.1, l, cur, rfl, ⟨by rw [iX_zero, iY_zero]; exact hu.more h4, h3, h5, fun g hg => .inl (hu.r6.lo hg).2, fun g hg => .inl (hu.r7.lo hg).2, ⟨h2, lt_of_block h3, Nat.le_refl _⟩⟩⟩
  have HF : Hid (Fl c (live m) V nd B T ∧ c.Ok) := ⟨hf, ho⟩
  obtain ⟨kd, lk, zz, e0, e1, e2, e3, e4, e5, e6, e7, on, tw⟩ := nd
  obtain rfl : zz = (sz : Int) := hsz
  clear hs hf ho hc0 eB hm
  go_enter Tryz.func20, Tryz.ntmps20
  go_wp2_with fail
  refine MB.out.mono ?_
  clear MB
  rintro e w1 ⟨rfl, hu1⟩
  have n2 := hu1.nd.at.c2
  simp only at n2
  have HU1 : Hid _ := hu1
  clear hu1
  go_wp2_with fail
  refine (BL.out w1).mono ?_
  clear BL
  rintro e w2 ⟨rfl, rfl⟩
  clear n2
  go_wp2_with fail
  go_loopw [6, 7, 20] (fun s6 s7 s20 wr => ∃ i : Nat, i ≤ m ∧ s20 = .int .i64 (i : Int) ∧ Hid (UsI c X V T ⟨kd, lk, (sz : Int), e0, e1, e2, e3, e4, e5, e6, e7, on, tw⟩ w (((List.range i).map (2 * ·)).map B) ((nums i).map B) s6 s7 wr)) (fun _ _ s20 _ => m - (intOf s20).toNat)
  case atStart => exact ⟨0, by omega, rfl, HU1⟩
  case round =>
    clear HU1
    obtain ⟨i, hi, rfl, HU⟩ := hrel
    by_cases hlt : i < m
    · have k1 : (i : Int) < (m : Int) := by omega
      have HB : Hid _ := BG.out wr i _ _ hlt HU.out
      obtain ⟨lo, hlo⟩ : ∃ lo, wr.heap.size = lo := ⟨_, rfl⟩
      rw [hlo] at HB
      clear HU hlo
      go_wp2_with fail
      refine (show Calls _ _ _ _ _ from HB.out).mono ?_
      clear HB
      rintro e w3 ⟨b, n, cp, rfl, hn1, hn2, hn3, HJ⟩
      obtain ⟨l, cur, hbl, hj⟩ := HJ.out
      obtain ⟨hi3, hhi⟩ : ∃ hi3, w3.heap.size = hi3 := ⟨_, rfl⟩
      rw [hhi] at hj
      have HJ0 : Hid (UsJ c X V T ⟨kd, lk, (sz : Int), e0, e1, e2, e3, e4, e5, e6, e7, on, tw⟩ B w lo hi3 b i l cur 0 u6 u7 w3) := hj
      have HBL : Hid ((begunK i).length = n) := hbl
      clear HJ hbl hj hhi
      go_wp2_with fail
      go_loopw [6, 7, 28] (fun s6 s7 s28 wq => ∃ k : Nat, k ≤ n ∧ s28 = .int .i64 (k : Int) ∧ Hid (UsJ c X V T ⟨kd, lk, (sz : Int), e0, e1, e2, e3, e4, e5, e6, e7, on, tw⟩ B w lo hi3 b i l cur k s6 s7 wq)) (fun _ _ s28 _ => n - (intOf s28).toNat)
      case atStart => exact ⟨0, by omega, rfl, HJ0⟩
      case round =>
        clear HJ0
        obtain ⟨k, hk, rfl, HQ⟩ := hrel
        by_cases hkn : k < n
        · have k2 : (k : Int) < (n : Int) := by omega
          have hkl : k < (begunK i).length := by have := HBL.out; omega
          obtain ⟨c0, c1, c2, c3⟩ := HQ.out.row.cell (HQ.out.sp k hkl).1
          have hst := (HQ.out.sp k hkl).2.cl.one.2
          have hG := HQ.out.get HF.out.1 HF.out.2 hkl hlt
          obtain ⟨x, hx⟩ : ∃ x, B ((begunK i).getD k 0) = x := ⟨_, rfl⟩
          rw [hx] at hG
          have HXX : Hid (B ((begunK i).getD k 0) = x) := hx
          have hxb : x < 4294967296 := by
            have hlv : live m ((begunK i).getD k 0) := live_mono ((live_succ i _).2 (.inr (mem_getD hkl))) (by omega)
            have := HF.out.1.own _ hlv
            have := HF.out.2.pr.f
            have := HF.out.2.pr.top
            omega
          obtain ⟨st, hss⟩ : ∃ st, (l k).st = st := ⟨_, rfl⟩
          obtain ⟨fi, hfi⟩ : ∃ fi, (l k).fi = fi := ⟨_, rfl⟩
          obtain ⟨wi, hwi⟩ : ∃ wi, (l k).wi = wi := ⟨_, rfl⟩
          rw [hss] at c3 hst
          rw [hfi] at c0
          rw [hwi] at c1
          have hg2 : ∀ (a : Addr) (m : Mode) (w : World), (store a st m).run Tryz.prog w = stored Tryz.prog w a st m := fun a m w => run_store Tryz.prog w a _ m hst
          obtain ⟨gn, cap, hgv, hcf, hcall⟩ := hG (spO fi wi (l k).g st)
          rw [hgv] at c2
          have HG : Hid _ := hcall _ (Chg.refl _ _)
          rw [hgv] at HG
          have HUS : Hid (∀ w4, Chg (fun _ => False) wr w4 → UsI c X V T ⟨kd, lk, (sz : Int), e0, e1, e2, e3, e4, e5, e6, e7, on, tw⟩ w (iX B i k) (iY B i k) u6 u7 w4) := fun w4 h4 => HQ.out.us.more h4
          have HKL : Hid (k < (begunK i).length) := hkl
          clear hx hkl hss hfi hwi hcall hG hst hgv
          go_wp2_with fail
          refine (show Calls _ _ _ _ _ from HG.out).mono ?_
          clear HG
          rintro e w4 ⟨rfl, hc4⟩
          have hcw4 : Chg (fun _ => False) wr w4 := (Chg.alloc (fun _ => False) wr _).trans hc4 (fun _ _ h => h)
          have hu4 := HUS.out w4 hcw4
          have HC4 : Hid (Chg (fun _ => False) wr w4) := hcw4
          clear hc4 hcw4 c0 c1 c2 c3 hcf hg2 HUS
          by_cases hla : k + 1 < n
          · have k3 : (k : Int) < (n : Int) - 1 := by omega
            obtain ⟨v', w5, hr, hu5, hc5, hn5⟩ := hu4.add7 (x := x) (by have := iY_le B i k; omega)
            have HN : Hid (UsJ c X V T ⟨kd, lk, (sz : Int), e0, e1, e2, e3, e4, e5, e6, e7, on, tw⟩ B w lo hi3 b i l cur (k + 1) u6 v' w5) := by
              refine HQ.out.step HC4.out ?_ hc5 (fun g e => HQ.out.off7 g e) (fun g e => .inl e) hn5
              rw [iX_step (by have := HBL.out; omega), iY_step (by have := HBL.out; omega), HXX.out]
              exact hu5
            clear hu4 hu5 hc5 hn5 HQ
            go_wp2
            go_roundw
            case rel => exact ⟨k + 1, by omega, by go_num, HN⟩
            case measure => simp [intOf]; omega
          · have k3 : ¬ ((k : Int) < (n : Int) - 1) := by omega
            obtain ⟨v', w5, hr, hu5, hc5, hn5⟩ := hu4.add6 (x := x) (by have := iX_le B i k; omega)
            have HN : Hid (UsJ c X V T ⟨kd, lk, (sz : Int), e0, e1, e2, e3, e4, e5, e6, e7, on, tw⟩ B w lo hi3 b i l cur (k + 1) v' u7 w5) := by
              refine HQ.out.step HC4.out ?_ hc5 (fun g e => HQ.out.off6 g e) hn5 (fun g e => .inl e)
              rw [iX_last (by have := HBL.out; have := HKL.out; omega), iY_last (by have := HBL.out; have := HKL.out; omega), HXX.out]
              exact hu5
            clear hu4 hu5 hc5 hn5 HQ
            go_wp2
            go_roundw
            case rel => exact ⟨k + 1, by omega, by go_num, HN⟩
            case measure => simp [intOf]; omega
        · have k2 : ¬ ((k : Int) < (n : Int)) := by omega
          have hkn' : k = n := by omega
          have hu := HQ.out.us
          rw [hkn', ← HBL.out, iX_len, iY_len] at hu
          have HUE : Hid _ := hu
          clear hu HQ
          go_wp2
          go_roundw
          case rel => exact ⟨i + 1, by omega, by go_num, HUE⟩
          case measure => simp [intOf]; omega
    · have k1 : ¬ ((i : Int) < (m : Int)) := by omega
      obtain rfl : i = m := by omega
      have hu := HU.out
      obtain ⟨v', w5, hr, ho5, hc5⟩ := run_appII hu.r6 hu.r7 (by have := nums_len i; simp; omega) (by have := hu.lt; omega)
      have HZ : Hid (OwI w5 (w.heap.size + 1) v' ((usedK i).map B) ∧ Chg (fun _ => False) w w5) := by
        refine ⟨by unfold usedK; rw [List.map_append]; exact ho5, hu.chg.trans hc5 (fun g hg e => by have := (hu.r6.lo e).1; omega)⟩
      clear hu ho5 hc5 HU
      go_wp2
      go_ret2
      exact ⟨_, rfl, HZ.out⟩
end
end Go.Proofs.YtnnaemlipahamaaGreat
