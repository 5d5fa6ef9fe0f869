/-
  One file in a pool of its own: its blocks are the first ones.
-/
import Derived.Test.YtnnaemlipahamaaGreatFAll
import Derived.Test.YtnnaemlipahamaaGreatFPut
import Derived.Test.YtnnaemlipahamaaGreatFTwo
namespace Go.Proofs.YtnnaemlipahamaaGreat
open Go.RowKit Go.Maps

theorem frN_pre {n a : Nat} {T : Nat → Bool} (h : ∀ j, T j = decide (j < a)) (ha : a < n) : frN n T = a := by
  have hc : cntT T n < n := by
    have hl := cntT_le T n
    rcases Nat.lt_or_ge (cntT T n) n with h1 | h1
    · exact h1
    · exfalso
      have := cntT_set (T := T) (j := a) (n := n) (by rw [h a]; simp) ha
      have := cntT_le (upd T a true) n
      omega
  obtain ⟨h1, h2, h3⟩ := frN_spec hc
  rw [h] at h2
  have h2' : ¬ frN n T < a := by simpa using h2
  by_cases e : a < frN n T
  · have := h3 a e
    rw [h a] at this
    simp at this
  · omega
theorem grw_pre (F n : Nat) : ∀ (ks : List Nat) (s : (Nat → Bool) × (Nat → Nat)) (a : Nat), (∀ j, s.1 j = decide (j < a)) → a + ks.length ≤ n →
    (∀ j, (grw F n s ks).1 j = decide (j < a + ks.length)) ∧ ∀ k, k ∈ ks → F + a ≤ (grw F n s ks).2 k ∧ (grw F n s ks).2 k < F + a + ks.length
  | [], s, a, h, _ => ⟨fun j => by rw [grw_nil]; exact h j, fun k hk => by cases hk⟩
  | b :: r, s, a, h, hn => by
    rw [List.length_cons] at hn
    have hf := frN_pre (n := n) h (by omega)
    have hs : ∀ j, (stp F n s b).1 j = decide (j < a + 1) := fun j => by
      show upd s.1 (frN n s.1) true j = _
      rw [hf]
      by_cases e : j = a
      · rw [e, upd_same]; simp
      · rw [upd_other _ _ e, h j]
        congr 1
        exact propext ⟨fun h => by omega, fun h => by omega⟩
    obtain ⟨h1, h2⟩ := grw_pre F n r (stp F n s b) (a + 1) hs (by omega)
    rw [show b :: r = [b] ++ r from rfl, grw_app, grw_one]
    refine ⟨fun j => ?_, fun k hk => ?_⟩
    · rw [h1 j]
      congr 1
      simp only [List.length_append, List.length_cons, List.length_nil]
      exact propext ⟨fun h => by omega, fun h => by omega⟩
    · have hl : ([b] ++ r).length = r.length + 1 := by simp
      rw [hl]
      by_cases hr : k ∈ r
      · have := h2 k hr; omega
      · have hka : k = b := by
          rcases List.mem_append.1 hk with e | e
          · exact List.mem_singleton.1 e
          · exact absurd e hr
        rw [grw_other F n r _ k hr, hka]
        have e2 : (stp F n s b).2 b = F + frN n s.1 := upd_same _ _ _
        rw [e2, hf]; omega
theorem cntT_pre {n a : Nat} {T : Nat → Bool} (h : ∀ j, T j = decide (j < a)) (ha : a ≤ n) : cntT T n = a := by
  have e : T = (grw 0 n ((fun _ => false), (fun _ => 0)) (List.range a)).1 := by
    funext j
    have := (grw_pre 0 n (List.range a) ((fun _ => false), (fun _ => 0)) 0 (fun j => by simp) (by simpa using ha)).1 j
    rw [this, h j]
    simp
  rw [e]
  have h0 : cntT (fun _ : Nat => false) n = 0 := cntT_none (fun _ _ => rfl)
  have := grw_cnt 0 n (List.range a) ((fun _ => false), (fun _ => 0)) (by simp only; rw [h0]; simpa using ha)
  rw [this]
  simp only
  rw [h0]; simp
theorem zero_in : 0 ∈ List.range 63 := by rw [List.mem_range]; omega
/-- A transaction with one file, in a pool that has nothing else; K stays as it is. -/
def Tp (K : Nat → Prop) (w0 : World) (bb pl q n : Nat) (nd : Nd) (bs : List Int) (w : World) : Prop :=
  ∃ X pd pr g U V T B f com pend N, Fs (cx8 (List.range 63) w0 pd pl q n f com pend N) X w V T ∧ File (cx8 (List.range 63) w0 pd pl q n f com pend N) V nd B T bs ∧ Bz X w0 bb pl pr g n U w ∧ (∀ j, T j = decide (j < allM (blkC bs.length))) ∧ (∀ b, K b → X b) ∧ allM (blkC bs.length) ≤ 62 ∧ 1 ≤ n ∧ n ≤ 4096
section
variable {K : Nat → Prop} {w0 w w' : World} {bb pl q n : Nat} {nd : Nd} {bs b : List Int}
theorem Tp.more (h : Tp K w0 bb pl q n nd bs w) (hc : Chg (fun _ => False) w w') : Tp K w0 bb pl q n nd bs w' := by
  obtain ⟨X, pd, pr, g, U, V, T, B, f, com, pend, N, h1, h2, h3, h4⟩ := h
  exact ⟨X, pd, pr, g, U, V, T, B, f, com, pend, N, h1.more hc, h2, h3.kept hc (fun h => h) (fun h => h) (fun h => h), h4⟩
theorem Tp.add (h : Tp K w0 bb pl q n nd bs w) (hc : Chg (fun _ => False) w w') : Tp (addX K w.heap.size w'.heap.size) w0 bb pl q n nd bs w' := by
  obtain ⟨X, pd, pr, g, U, V, T, B, f, com, pend, N, h1, h2, h3, h4, h5, h6⟩ := h
  refine ⟨_, pd, pr, g, U, V, T, B, f, com, pend, N, h1.add hc, h2, (h3.kept hc (fun h => h) (fun h => h) (fun h => h)).of (fun _ h => .inl h), h4, fun b hb => ?_, h6⟩
  rcases hb with hb | hb
  · exact .inl (h5 b hb)
  · exact .inr hb
theorem Tp.less {K' : Nat → Prop} (h : Tp K w0 bb pl q n nd bs w) (hk : ∀ b, K' b → K b) : Tp K' w0 bb pl q n nd bs w := by
  obtain ⟨X, pd, pr, g, U, V, T, B, f, com, pend, N, h1, h2, h3, h4, h5, h6⟩ := h
  exact ⟨X, pd, pr, g, U, V, T, B, f, com, pend, N, h1, h2, h3, h4, fun b hb => h5 b (hk b hb), h6⟩
theorem Tp.put {r : Nat} (h : Tp K w0 bb pl q n nd bs w) (hr : K r) (hlo : w0.heap.size ≤ r) (hc : Chg (fun b => b = r) w w') (hx : ∀ X pr g U, Bz X w0 bb pl pr g n U w → r ≠ bb ∧ r ≠ pr ∧ r ≠ g) : Tp K w0 bb pl q n nd bs w' := by
  obtain ⟨X, pd, pr, g, U, V, T, B, f, com, pend, N, h1, h2, h3, h4, h5, h6⟩ := h
  obtain ⟨x1, x2, x3⟩ := hx X pr g U h3
  exact ⟨X, pd, pr, g, U, V, T, B, f, com, pend, N, h1.put (h5 r hr) hlo hc, h2, h3.kept hc (Ne.symm x1) (Ne.symm x2) (Ne.symm x3), h4, h5, h6⟩
theorem Tp.chg (h : Tp K w0 bb pl q n nd bs w) : Chg (fun _ => False) w0 w := by
  obtain ⟨X, pd, pr, g, U, V, T, B, f, com, pend, N, h1, _⟩ := h
  exact h1.tv.chg
theorem Tp.bx (h : Tp K w0 bb pl q n nd bs w) : ∃ pr, w.heap[bb]? = some (.cells #[.pointer (some ⟨pl, 0, none⟩), .int .i64 0, .int .i64 1, .int .i64 (n : Int), .pointer (some ⟨pr, 0, none⟩)] 45 (0, 0)) := by
  obtain ⟨X, pd, pr, g, U, V, T, B, f, com, pend, N, _, _, h3, _⟩ := h
  exact ⟨pr, h3.bx⟩
theorem Tp.klt (h : Tp K w0 bb pl q n nd bs w) : ∀ b, K b → b < w.heap.size := by
  obtain ⟨X, pd, pr, g, U, V, T, B, f, com, pend, N, h1, _, _, _, h5, _⟩ := h
  exact fun b hb => h1.tv.xlt b (h5 b hb)
/-- Begin, behind made. -/
theorem tp_begin {X : Nat → Prop} {pd pr g : Nat} {V : Nat → List Int} {U : Nat → Bool} {w1 : World} (h : Md X w0 bb pd pl pr g n V (fun _ => false) U 1 w1) (h1 : 1 ≤ n) (h2 : n ≤ 4096) (hnd : nd.free) :
    Calls Tryz.prog 9 #[.pointer (some ⟨pl, 0, none⟩)] w1 fun e w2 => ∃ q, e = .returned (.tuple #[.pointer (some ⟨q, 0, none⟩), .int .i64 0]) ∧ Tp X w0 bb pl q n nd [] w2 := by
  refine (md_begin h h2 (by decide)).mono ?_
  rintro e w2 ⟨q, rfl, ⟨f, com, pend, N, hp, hN, hfs⟩, hbz, hs2⟩
  exact ⟨q, rfl, X, pd, pr, g, U, V, _, (fun _ => 0), f, com, pend, N, hfs (List.range 63) (by simp), File.empty hnd, hbz, fun j => by simp [allM, innM, blkC], fun b hb => hb, by decide, h1, h2⟩
theorem tp_append (u : Value) (h : Tp K w0 bb pl q n nd bs w) (hl : bs.length + b.length ≤ 8458240) (hb : Bs w u b) (hub : ∀ g, u.ownBlock = some g → 0 < b.length → K g) (hby : IsBy b) (hfit : allM (blkC (bs.length + b.length)) ≤ n) (h62 : allM (blkC (bs.length + b.length)) ≤ 62) :
    Calls Tryz.prog 15 #[.pointer (some ⟨q, 0, none⟩), PV 0 1 n, nd.v, u] w fun e w' => ∃ nd', e = .returned (.tuple #[nd'.v, .int .i64 0]) ∧ Tp K w0 bb pl q n nd' (bs ++ b) w' ∧ nd'.sz = ((bs.length + b.length : Nat) : Int) ∧ Sm K w w' := by
  obtain ⟨X, pd, pr, g, U, V, T, B, f, com, pend, N, f1, F1, bz, pre, hk, h6, n1, n2⟩ := h
  have hle : blkC bs.length ≤ blkC (bs.length + b.length) := by unfold blkC; omega
  have hkl := keysTo_len (blkC bs.length) (blkC (bs.length + b.length) - blkC bs.length)
  rw [show blkC bs.length + (blkC (bs.length + b.length) - blkC bs.length) = blkC (bs.length + b.length) by omega] at hkl
  have hct := cntT_pre (n := n) pre (by omega)
  have hgp := grw_pre 1 n (keysTo (blkC bs.length) (blkC (bs.length + b.length) - blkC bs.length)) (T, B) _ pre (by omega)
  rw [hkl] at hgp
  have hW : Wrt (cx8 (List.range 63) w0 pd pl q n f com pend N) (grw 1 n (T, B) (keysTo (blkC bs.length) (blkC (bs.length + b.length) - blkC bs.length))).2 (blkC bs.length) (blkC (bs.length + b.length)) := by
    intro k hk' _
    show _ ∈ List.range 63
    rw [List.mem_range]
    by_cases hm : k ∈ keysTo (blkC bs.length) (blkC (bs.length + b.length) - blkC bs.length)
    · have := hgp.2 k hm; omega
    · have hlv := (keysTo_live (blkC bs.length) (blkC (bs.length + b.length) - blkC bs.length) k).1 (by rw [show blkC bs.length + (blkC (bs.length + b.length) - blkC bs.length) = blkC (bs.length + b.length) by omega]; exact hk')
      have hl' := hlv.resolve_right hm
      rw [grw_other _ _ _ _ _ hm]
      have ho := F1.fl.own k hl'
      have hT : T (B k - 1) = true := ho.2.2
      rw [pre] at hT
      have : B k - 1 < allM (blkC bs.length) := by simpa using hT
      show B k < 63
      omega
  refine (append_ok u f1 F1 (cx8_ok n1 n2 zero_in) hl hb (fun g hg h0 => hk g (hub g hg h0)) hby (by show cntT T n + _ ≤ n + _; omega) hW).mono ?_
  rintro e w' ⟨nd', rfl, V', s', hs', f', F', k', fr', sm'⟩
  subst hs'
  have hlen : (bs ++ b).length = bs.length + b.length := List.length_append
  refine ⟨nd', rfl, ⟨X, pd, pr, g, U, V', _, _, f, com, pend, N, f', F', bz.sm sm', fun j => ?_, hk, by rw [hlen]; exact h62, n1, n2⟩, by rw [← hlen]; exact F'.sz, fun b hb => sm' b (hk b hb)⟩
  rw [hlen]
  exact hgp.1 j
theorem tp_full (u : Value) (h : Tp K w0 bb pl q n nd bs w) (hl : bs.length + b.length ≤ 8458240) (hb : Bs w u b) (hfit : n < allM (blkC (bs.length + b.length))) (ha : allM (blkC bs.length) ≤ n) :
    Calls Tryz.prog 15 #[.pointer (some ⟨q, 0, none⟩), PV 0 1 n, nd.v, u] w fun e w' => e = .returned (.tuple #[Nd.no.v, .int .i64 7]) ∧ Chg (fun _ => False) w w' := by
  obtain ⟨X, pd, pr, g, U, V, T, B, f, com, pend, N, f1, F1, bz, pre, hk, h6, n1, n2⟩ := h
  have hct := cntT_pre (n := n) pre ha
  have ho := cx8_ok (w0 := w0) (pd := pd) (pl := pl) (q := q) (f := f) (com := com) (pend := pend) (N := N) n1 n2 zero_in
  have h := append_full u f1 F1 ho hl hb (by show n + _ < cntT T n + _; omega)
  exact h
theorem tp_read (off cnt : Nat) (h : Tp K w0 bb pl q n nd bs w) (h1 : off < 9223372036854775808) (h2 : cnt < 9223372036854775808) :
    Calls Tryz.prog 16 #[tI q, nd.v, .int .i64 (off : Int), .int .i64 (cnt : Int)] w fun e w' => ∃ u, e = .returned (.tuple #[u, .int .i64 0]) ∧ Own w w' u ((bs.drop off).take cnt) := by
  obtain ⟨X, pd, pr, g, U, V, T, B, f, com, pend, N, f1, F1, bz, pre, hk, h6, n1, n2⟩ := h
  have ho := cx8_ok (w0 := w0) (pd := pd) (pl := pl) (q := q) (f := f) (com := com) (pend := pend) (N := N) n1 n2 zero_in
  have h := read_file off cnt f1 F1 ho h1 h2
  exact h
theorem tp_free (h : Tp K w0 bb pl q n nd bs w) (ha : allM (blkC bs.length) ≤ n) :
    Calls Tryz.prog 11 #[PV 0 1 n, .pointer (some ⟨q, 0, none⟩)] w fun e w' => e = .returned (.tuple #[.int .i64 ((n - allM (blkC bs.length) : Nat) : Int), .int .i64 0]) ∧ Chg (fun _ => False) w w' := by
  obtain ⟨X, pd, pr, g, U, V, T, B, f, com, pend, N, f1, F1, bz, pre, hk, h6, n1, n2⟩ := h
  have hct := cntT_pre (n := n) pre ha
  have ho := cx8_ok (w0 := w0) (pd := pd) (pl := pl) (q := q) (f := f) (com := com) (pend := pend) (N := N) n1 n2 zero_in
  have h := fs_free f1 ho
  rw [← hct]
  exact h
end
end Go.Proofs.YtnnaemlipahamaaGreat

namespace Go.Proofs.YtnnaemlipahamaaGreat
open Go.RowKit Go.Maps

theorem makeNc (z : Nat) (hz : z ≤ 16777216) : ∃ o : Obj, (∀ w : World, (Instr.makeSlice 33 (.int .i64 (z : Int)) (.int .i64 (z : Int))).run Tryz.prog w = .ok (.slice (some ⟨w.heap.size, 0, none⟩) z z) (w.alloc o)) ∧ ∀ (w : World) (g : Nat), w.heap[g]? = some o → Bs w (.slice (some ⟨g, 0, none⟩) z z) (zeros z) := by
  obtain ⟨i0, hi, hz0, hz1, hz2⟩ := info5_parts
  refine ⟨.cells (madeCells (Value.int .u8 0).cells (z * 1)) 5, fun w => ?_, fun w g hg => ?_⟩
  · have := run_make (P := Tryz.prog) w 33 5 i0 (.int .u8 0) Tryz.underlying33 hi hz0 .i64 .i64 (z : Int) (z : Int) (by omega) (by omega) (by rw [hz2]; omega) (by omega)
    rw [hz1] at this
    exact this
  · refine .inr ⟨_, z, by rw [zeros_len], by rw [zeros_len]; exact Nat.le_refl _, by unfold maxLen; omega, fun j hj => ?_⟩
    rw [show (⟨g, 0, none⟩ : Addr).add j = ⟨g, j, none⟩ by simp [Addr.add_lit], cell_of_row _ _ _ _ _ _ hg, ← Array.getElem?_toList, made_bytes]
    exact bcells_nth hj
theorem hn_al {w : World} {b : Nat} {o o' : Obj} (h : w.heap[b]? = some o) : (w.alloc o').heap[b]? = some o := (Below.heap_alloc w o' b (lt_of_block h)).trans h
theorem hn_dr {w : World} {b : Nat} {o : Obj} (h : w.heap[b]? = some o) : w.drew.heap[b]? = some o := h
theorem hn_set {w : World} {b r j : Nat} {v : Value} {o : Obj} (hr : ¬ r = b) (h : w.heap[b]? = some o) : (w.setCell ⟨r, j, none⟩ v).heap[b]? = some o := (Below.heap_setCell w ⟨r, j, none⟩ v b (fun e => hr e.symm)).trans h
/-- Behind the call: what was new ahead of it is as it was; whatever is written to such a block, or to a new one, Z holds. -/
structure Ret (w3 wb w5 : World) (Z : Nat → World → Prop) : Prop where
  keep : ∀ r, w3.heap.size ≤ r → r < wb.heap.size → w5.heap[r]? = wb.heap[r]?
  old : ∀ w6 r, w3.heap.size ≤ r → r < wb.heap.size → Chg (fun k => k = r) w5 w6 → Z r w6
  new : ∀ w6 r, w5.heap.size ≤ r → r < w6.heap.size → Chg (fun _ => False) w5 w6 → Z r w6
theorem Ret.from {w3 w4 wb w5 : World} {Z : Nat → World → Prop} (h : Ret w3 wb w5 Z) (hle : w3.heap.size ≤ w4.heap.size) : Ret w4 wb w5 Z :=
  ⟨fun r h1 h2 => h.keep r (by omega) h2, fun w6 r h1 h2 => h.old w6 r (by omega) h2, h.new⟩
/-- The box lies below the call: stored into it, Z holds. -/
theorem Ret.put {w3 wb w5 : World} {Z : Nat → World → Prop} {r : Nat} {n : Nd} (h : Ret w3 wb w5 Z) (hn : NdB 29 w5 r n) (h1 : w3.heap.size ≤ r) (h2 : r < wb.heap.size) (m : Nd) : NdB 29 (putNd w5 r m) r m ∧ Z r (putNd w5 r m) := by
  obtain ⟨p1, p2⟩ := hn.put m
  exact ⟨p1, h.old _ r h1 h2 p2⟩
theorem Ret.box {w3 wb w5 : World} {Z : Nat → World → Prop} {r : Nat} {n : Nd} (h : Ret w3 wb w5 Z) (hn : NdB 29 wb r n) (h1 : w3.heap.size ≤ r) : NdB 29 w5 r n ∧ ∀ m, NdB 29 (putNd w5 r m) r m ∧ Z r (putNd w5 r m) := by
  have h5 : NdB 29 w5 r n := (h.keep r h1 hn.lt).trans hn
  refine ⟨h5, fun m => ?_⟩
  obtain ⟨p1, p2⟩ := h5.put m
  exact ⟨p1, h.old _ r h1 hn.lt p2⟩
theorem Ret.box' {w3 wb w5 : World} {Z : Nat → World → Prop} (h : Ret w3 wb w5 Z) (m : Nd) : NdB 29 (putNd (w5.alloc (Nd.no.o 29)) w5.heap.size m) w5.heap.size m ∧ Z w5.heap.size (putNd (w5.alloc (Nd.no.o 29)) w5.heap.size m) := by
  have h5 : NdB 29 (w5.alloc (Nd.no.o 29)) w5.heap.size Nd.no := heap_alloc_new _ _
  obtain ⟨p1, p2⟩ := h5.put m
  exact ⟨p1, h.new _ _ (Nat.le_refl _) p1.lt ((Chg.alloc (fun _ => False) w5 _).trans p2 (fun i hi e => by omega))⟩
theorem Ret.boxA {w3 wb w5 : World} {Z : Nat → World → Prop} (h : Ret w3 wb w5 Z) (oz : Obj) (hb : wb.heap = ((w3.alloc oz).alloc (Nd.no.o 29)).heap) : NdB 29 w5 (w3.heap.size + 1) Nd.no := by
  refine (h.keep _ (by omega) (by rw [hb]; simp)).trans ?_
  rw [hb]
  exact heap_new' (by simp)
theorem Ret.boxB {w3 wb w5 : World} {Z : Nat → World → Prop} (h : Ret w3 wb w5 Z) (oz : Obj) (hb : wb.heap = ((w3.alloc (Nd.no.o 29)).alloc oz).heap) : NdB 29 w5 w3.heap.size Nd.no := by
  refine (h.keep _ (by omega) (by rw [hb]; simp; omega)).trans ?_
  rw [hb]
  exact hn_al (heap_alloc_new _ _)
theorem Ret.boxC {w3 wb w5 : World} {Z : Nat → World → Prop} (h : Ret w3 wb w5 Z) (hb : wb.heap = (w3.alloc (Nd.no.o 29)).heap) : NdB 29 w5 w3.heap.size Nd.no := by
  refine (h.keep _ (by omega) (by rw [hb]; simp)).trans ?_
  rw [hb]
  exact heap_alloc_new _ _
theorem Ret.shA {w3 w5 : World} {Z : Nat → World → Prop} {oz : Obj} (h : Ret w3 ((w3.alloc oz).alloc (.cells #[.int .i64 0, .int .i64 0, .int .i64 0, .int .i64 0, .int .i64 0, .int .i64 0, .int .i64 0, .int .i64 0, .int .i64 0, .int .i64 0, .int .i64 0, .int .i64 0, .int .i64 0] 29)).drew w5 Z) : NdB 29 w5 (w3.heap.size + 1) Nd.no := Ret.boxA h oz rfl
theorem Ret.shB {w3 w5 : World} {Z : Nat → World → Prop} {oz : Obj} (h : Ret w3 ((w3.alloc (.cells #[.int .i64 0, .int .i64 0, .int .i64 0, .int .i64 0, .int .i64 0, .int .i64 0, .int .i64 0, .int .i64 0, .int .i64 0, .int .i64 0, .int .i64 0, .int .i64 0, .int .i64 0] 29)).alloc oz).drew w5 Z) : NdB 29 w5 w3.heap.size Nd.no := Ret.boxB h oz rfl
theorem Ret.shC {w3 w5 : World} {Z : Nat → World → Prop} (h : Ret w3 (w3.alloc (.cells #[.int .i64 0, .int .i64 0, .int .i64 0, .int .i64 0, .int .i64 0, .int .i64 0, .int .i64 0, .int .i64 0, .int .i64 0, .int .i64 0, .int .i64 0, .int .i64 0, .int .i64 0] 29)).drew w5 Z) : NdB 29 w5 w3.heap.size Nd.no := Ret.boxC h rfl
theorem Ret.box1 {w3 wb w5 : World} {m : Nd} {Z : Nat → World → Prop} (h : Ret w3 wb w5 Z) : NdB 29 (w5.alloc (m.o 29)) w5.heap.size m ∧ Z w5.heap.size (w5.alloc (m.o 29)) :=
  ⟨heap_alloc_new _ _, h.new _ _ (Nat.le_refl _) (by simp) (Chg.alloc _ w5 _)⟩
theorem Ret.none {w3 wb w5 : World} {Z : Nat → World → Prop} (hc : Chg (fun _ => False) w3 wb) (h5 : Chg (fun _ => False) wb w5) (hz : ∀ w6 r, w3.heap.size ≤ r → r < w6.heap.size → Chg (fun _ => False) w3 w6 → Z r w6) : Ret w3 wb w5 Z := by
  have h35 := hc.trans h5 (fun _ _ h => h)
  refine ⟨fun r _ h2 => h5.block r h2 (fun h => h), fun w6 r h1 h2 c6 => hz _ _ h1 ?_ (h35.trans c6 (fun i hi e => by omega)), fun w6 r h1 h2 c6 => hz _ _ ?_ h2 (h35.trans c6 (fun _ _ h => h))⟩
  · have := h5.size; have := c6.size; omega
  · have := h35.size; omega
section
variable {K : Nat → Prop} {w0 w3 wb : World} {bb pl q n : Nat} {nd : Nd} {bs b : List Int}
/-- Append, whatever is laid ahead of its call. -/
theorem tp_box (h : Tp K w0 bb pl q n nd bs w3) (hl : bs.length + b.length ≤ 8458240) (hby : IsBy b) (hfit : allM (blkC (bs.length + b.length)) ≤ n) (h62 : allM (blkC (bs.length + b.length)) ≤ 62) (u : Value) (hc : Chg (fun _ => False) w3 wb) (hb : Bs wb u b) (hub : ∀ g, u.ownBlock = some g → 0 < b.length → K g ∨ (w3.heap.size ≤ g ∧ g < wb.heap.size)) :
    Calls Tryz.prog 15 #[.pointer (some ⟨q, 0, none⟩), PV 0 1 n, nd.v, u] wb fun e w5 => ∃ nd', e = .returned (.tuple #[nd'.v, .int .i64 0]) ∧ Ret w3 wb w5 (fun r w6 => Tp (fun k => K k ∨ k = r) w0 bb pl q n nd' (bs ++ b) w6 ∧ Sm K w3 w6) ∧ nd'.sz = ((bs.length + b.length : Nat) : Int) ∧ Sm K w3 w5 := by
  obtain ⟨X0, pd, pr, g, U, V, T, B, f, com, pend, N, f1, F1, bz, pre, hk, h6, n1, n2⟩ := h
  have lt1 := f1.tv.xlt
  have hw3 : w0.heap.size ≤ w3.heap.size := f1.tv.chg.size
  have bzb : Bz (addX X0 w3.heap.size wb.heap.size) w0 bb pl pr g n U wb := (bz.kept hc (fun h => h) (fun h => h) (fun h => h)).of (fun _ h => .inl h)
  have hT : Tp (addX X0 w3.heap.size wb.heap.size) w0 bb pl q n nd bs wb := ⟨_, pd, pr, g, U, V, T, B, f, com, pend, N, f1.add hc, F1, bzb, pre, fun b hb => hb, h6, n1, n2⟩
  have lb := lt1 _ bz.x.1
  have lp := lt1 _ bz.x.2.1
  have lg := lt1 _ bz.x.2.2.1
  refine (tp_append u hT hl hb (fun g hg h0 => ?_) hby hfit h62).mono ?_
  · rcases hub g hg h0 with h | h
    · exact .inl (hk g h)
    · exact .inr h
  · rintro e w5 ⟨nd', rfl, ht, hsz, hsm⟩
    have hK3 : ∀ k, K k → k < w3.heap.size := fun k hk' => lt1 _ (hk k hk')
    have hs5 : Sm K w3 w5 := fun k hk' => (hsm k (.inl (hk k hk'))).trans (hc.block k (hK3 k hk') (fun h => h))
    have bz5 := bzb.sm hsm
    have hl5 : ∀ k, K k → k < w5.heap.size := fun k hk' => ht.klt _ (.inl (hk k hk'))
    refine ⟨nd', rfl, ⟨fun r h1 h2 => hsm r (.inr ⟨h1, h2⟩), fun w6 r h1 h2 c6 => ⟨?_, fun k hk' => ?_⟩, fun w6 r h1 h2 c6 => ⟨(ht.add c6).less (fun k hk' => ?_), fun k hk' => (c6.block k (hl5 k hk') (fun h => h)).trans (hs5 k hk')⟩⟩, hsz, hs5⟩
    · obtain ⟨X', pd', pr', g', U', V', T', B', f', com', pend', N', a1, a2, a3, a4, a5, a6⟩ := ht
      have ebx : pr' = pr := by
        have := a3.bx.symm.trans bz5.bx
        simp at this
        exact this
      subst ebx
      have egx : g' = g := by
        have := a3.rp.at'.blk.symm.trans bz5.rp.at'.blk
        simp at this
        exact this
      subst egx
      refine ⟨X', pd', pr', g', U', V', T', B', f', com', pend', N', a1.put (a5 r (.inr ⟨h1, h2⟩)) (by show w0.heap.size ≤ r; omega) c6, a2, a3.kept c6 (by omega) (by omega) (by omega), a4, fun k hk' => ?_, a6⟩
      rcases hk' with hk' | hk'
      · exact a5 k (.inl (hk k hk'))
      · exact a5 k (.inr (by omega))
    · have := hK3 k hk'
      exact (c6.block k (hl5 k hk') (by omega)).trans (hs5 k hk')
    · rcases hk' with hk' | hk'
      · exact .inl (.inl (hk k hk'))
      · exact .inr (by omega)
end
end Go.Proofs.YtnnaemlipahamaaGreat

namespace Go.Proofs.YtnnaemlipahamaaGreat
open Go.RowKit Go.Maps

/-- Where all lies. -/
structure Pm where
  w0 : World
  bb : Nat
  pd : Nat
  pl : Nat
  pr : Nat
  g : Nat
  n : Nat
/-- Two files: what is taken, their blocks, bytes, nodes. -/
structure Fm where
  T : Nat → Bool
  B0 : Nat → Nat
  b0 : List Int
  n0 : Nd
  B1 : Nat → Nat
  b1 : List Int
  n1 : Nd
def Fm.swap (s : Fm) : Fm := ⟨s.T, s.B1, s.b1, s.n1, s.B0, s.b0, s.n0⟩
def Fm.none (x y : Nd) : Fm := ⟨fun _ => false, fun _ => 0, [], x, fun _ => 0, [], y⟩
/-- What the first one is behind an Append, a Cut. -/
def Fm.app (s : Fm) (n : Nat) (b : List Int) (x : Nd) : Fm := { s with T := (grw 1 n (s.T, s.B0) (keysTo (blkC s.b0.length) (blkC (s.b0.length + b.length) - blkC s.b0.length))).1, B0 := (grw 1 n (s.T, s.B0) (keysTo (blkC s.b0.length) (blkC (s.b0.length + b.length) - blkC s.b0.length))).2, b0 := s.b0 ++ b, n0 := x }
def Fm.cut (s : Fm) (size : Nat) (x : Nd) : Fm := { s with T := drp 1 s.B0 s.T (keysTo (blkC size) (blkC s.b0.length - blkC size)), b0 := s.b0.take size, n0 := x }
def Fm.put (s : Fm) (off : Nat) (b : List Int) : Fm := { s with b0 := splice s.b0 off b }
abbrev Pm.cx (p : Pm) (L : List Nat) (q : Nat) (f : Nat → List Int) (com : Nat → Option (List Int)) (pend N : Nat) : Cx := cx8 L p.w0 p.pd p.pl q p.n f com pend N
def Pm.two (p : Pm) (V : Nat → List Int) (s : Fm) : Prop := Two (p.cx [] 0 (fun _ => []) (fun _ => none) 0 0) V s.T s.n0 s.B0 s.b0 s.n1 s.B1 s.b1
/-- Between transactions. -/
def Btw (p : Pm) (X : Nat → Prop) (s : Fm) (U : Nat → Bool) (c : Nat) (w : World) : Prop :=
  ∃ V, Md X p.w0 p.bb p.pd p.pl p.pr p.g p.n V s.T U c w ∧ p.two V s ∧ 1 ≤ p.n ∧ p.n ≤ 4096
/-- A transaction has begun. -/
def Bgn (p : Pm) (X : Nat → Prop) (s : Fm) (U : Nat → Bool) (c q : Nat) (w : World) : Prop :=
  ∃ V f com pend N, (pend ≤ c ∧ N ≤ 20000 + 128 * c) ∧ (∀ L : List Nat, L.length ≤ 63 → Fs (p.cx L q f com pend N) X w V s.T) ∧ Bz X p.w0 p.bb p.pl p.pr p.g p.n U w ∧ p.two V s ∧ 1 ≤ p.n ∧ p.n ≤ 4096
/-- Within a transaction that may write the blocks L. -/
def Inx (p : Pm) (L : List Nat) (X : Nat → Prop) (s : Fm) (U : Nat → Bool) (c q : Nat) (w : World) : Prop :=
  ∃ V f com pend N, (pend ≤ c ∧ N ≤ 20000 + 128 * c) ∧ Fs (p.cx L q f com pend N) X w V s.T ∧ Bz X p.w0 p.bb p.pl p.pr p.g p.n U w ∧ p.two V s ∧ 1 ≤ p.n ∧ p.n ≤ 4096
section
variable {p : Pm} {X Y : Nat → Prop} {s : Fm} {U : Nat → Bool} {c q : Nat} {w w' : World} {L : List Nat} {b : List Int}
theorem btw_made {V : Nat → List Int} {x y : Nd} {bb pd pl pr g n : Nat} {w0 : World} (h : Md X w0 bb pd pl pr g n V (fun _ => false) U c w) (hx : x.free) (hy : y.free) (h1 : 1 ≤ n) (h2 : n ≤ 4096) : Btw ⟨w0, bb, pd, pl, pr, g, n⟩ X (Fm.none x y) U c w :=
  ⟨V, h, Two.empty hx hy, h1, h2⟩
theorem Btw.add (h : Btw p X s U c w) (hc : Chg (fun _ => False) w w') : Btw p (addX X w.heap.size w'.heap.size) s U c w' := by
  obtain ⟨V, h1, h2⟩ := h
  exact ⟨V, h1.add hc, h2⟩
theorem Btw.more (h : Btw p X s U c w) (hc : Chg (fun _ => False) w w') : Btw p X s U c w' := by
  obtain ⟨V, h1, h2⟩ := h
  exact ⟨V, h1.more hc, h2⟩
theorem Btw.bz (h : Btw p X s U c w) : Bz X p.w0 p.bb p.pl p.pr p.g p.n U w := by
  obtain ⟨V, h1, h2⟩ := h
  exact h1.bz
theorem Btw.xlt (h : Btw p X s U c w) : ∀ b, X b → b < w.heap.size := by
  obtain ⟨V, h1, h2⟩ := h
  exact h1.lz.xlt
theorem Btw.chg (h : Btw p X s U c w) : Chg (fun _ => False) p.w0 w := by
  obtain ⟨V, h1, h2⟩ := h
  exact h1.lz.chg
theorem Btw.put {r : Nat} (h : Btw p X s U c w) (hr : X r) (hlo : p.w0.heap.size ≤ r) (hn : r ≠ p.bb ∧ r ≠ p.pr ∧ r ≠ p.g) (hc : Chg (fun b => b = r) w w') : Btw p X s U c w' := by
  obtain ⟨V, h1, h2⟩ := h
  exact ⟨V, Md.mk' (h1.lz.put hr hlo hc) (h1.bz.kept hc (Ne.symm hn.1) (Ne.symm hn.2.1) (Ne.symm hn.2.2)) h1.bt h1.by', h2⟩
theorem Btw.less (h : Btw p X s U c w) (hy : ∀ b, Y b → X b) (hb : Y p.bb ∧ Y p.pr ∧ Y p.g) (ho : ∀ b, b < p.w0.heap.size → Y b) : Btw p Y s U c w := by
  obtain ⟨V, h1, h2⟩ := h
  have hz := h1.bz
  exact ⟨V, Md.mk' (h1.lz.less hy) ⟨hz.bx, hz.rp, ⟨hb.1, hb.2.1, hb.2.2, hz.x.2.2.2⟩, hz.lo, ho⟩ h1.bt h1.by', h2⟩
theorem Btw.swap (h : Btw p X s U c w) : Btw p X s.swap U c w := by
  obtain ⟨V, h1, h2, h3⟩ := h
  exact ⟨V, h1, h2.swap, h3⟩
theorem btw_begin (h : Btw p X s U c w) (hc : c ≤ 1000) :
    Calls Tryz.prog 9 #[.pointer (some ⟨p.pl, 0, none⟩)] w fun e w' => ∃ q, e = .returned (.tuple #[.pointer (some ⟨q, 0, none⟩), .int .i64 0]) ∧ Bgn p X s U c q w' ∧ Sm X w w' := by
  obtain ⟨V, h1, h2, h3, h4⟩ := h
  refine (md_begin h1 h4 hc).mono ?_
  rintro e w' ⟨q, rfl, ⟨f, com, pend, N, hp, hN, ht⟩, hb, hs⟩
  exact ⟨q, rfl, ⟨V, f, com, pend, N, ⟨hp, hN⟩, ht, hb, h2, h3, h4⟩, hs⟩
theorem Bgn.on (h : Bgn p X s U c q w) (hL : L.length ≤ 63) : Inx p L X s U c q w := by
  obtain ⟨V, f, com, pend, N, h1, h2, h3⟩ := h
  exact ⟨V, f, com, pend, N, h1, h2 L hL, h3⟩
theorem Bgn.add (h : Bgn p X s U c q w) (hc : Chg (fun _ => False) w w') : Bgn p (addX X w.heap.size w'.heap.size) s U c q w' := by
  obtain ⟨V, f, com, pend, N, h1, h2, h3, h4⟩ := h
  exact ⟨V, f, com, pend, N, h1, fun L hL => (h2 L hL).add hc, (h3.kept hc (fun h => h) (fun h => h) (fun h => h)).of (fun _ h => .inl h), h4⟩
theorem Bgn.more (h : Bgn p X s U c q w) (hc : Chg (fun _ => False) w w') : Bgn p X s U c q w' := by
  obtain ⟨V, f, com, pend, N, h1, h2, h3, h4⟩ := h
  exact ⟨V, f, com, pend, N, h1, fun L hL => (h2 L hL).more hc, h3.kept hc (fun h => h) (fun h => h) (fun h => h), h4⟩
theorem Bgn.swap (h : Bgn p X s U c q w) : Bgn p X s.swap U c q w := by
  obtain ⟨V, f, com, pend, N, h1, h2, h3, h4, h5⟩ := h
  exact ⟨V, f, com, pend, N, h1, h2, h3, h4.swap, h5⟩
theorem Bgn.xlt (h : Bgn p X s U c q w) : ∀ b, X b → b < w.heap.size := by
  obtain ⟨V, f, com, pend, N, h1, h2, h3, h4⟩ := h
  exact (h2 [] (by simp)).tv.xlt
theorem Bgn.bz (h : Bgn p X s U c q w) : Bz X p.w0 p.bb p.pl p.pr p.g p.n U w := by
  obtain ⟨V, f, com, pend, N, h1, h2, h3, h4⟩ := h
  exact h3
theorem Bgn.chg (h : Bgn p X s U c q w) : Chg (fun _ => False) p.w0 w := by
  obtain ⟨V, f, com, pend, N, h1, h2, h3, h4⟩ := h
  exact (h2 [] (by simp)).tv.chg
theorem Inx.add (h : Inx p L X s U c q w) (hc : Chg (fun _ => False) w w') : Inx p L (addX X w.heap.size w'.heap.size) s U c q w' := by
  obtain ⟨V, f, com, pend, N, h1, h2, h3, h4⟩ := h
  exact ⟨V, f, com, pend, N, h1, h2.add hc, (h3.kept hc (fun h => h) (fun h => h) (fun h => h)).of (fun _ h => .inl h), h4⟩
theorem Inx.more (h : Inx p L X s U c q w) (hc : Chg (fun _ => False) w w') : Inx p L X s U c q w' := by
  obtain ⟨V, f, com, pend, N, h1, h2, h3, h4⟩ := h
  exact ⟨V, f, com, pend, N, h1, h2.more hc, h3.kept hc (fun h => h) (fun h => h) (fun h => h), h4⟩
theorem Inx.put {r : Nat} (h : Inx p L X s U c q w) (hr : X r) (hlo : p.w0.heap.size ≤ r) (hn : r ≠ p.bb ∧ r ≠ p.pr ∧ r ≠ p.g) (hc : Chg (fun b => b = r) w w') : Inx p L X s U c q w' := by
  obtain ⟨V, f, com, pend, N, h1, h2, h3, h4⟩ := h
  exact ⟨V, f, com, pend, N, h1, h2.put hr hlo hc, h3.kept hc (Ne.symm hn.1) (Ne.symm hn.2.1) (Ne.symm hn.2.2), h4⟩
theorem Inx.less (h : Inx p L X s U c q w) (hy : ∀ b, Y b → X b) (hb : Y p.bb ∧ Y p.pr ∧ Y p.g) (ho : ∀ b, b < p.w0.heap.size → Y b) : Inx p L Y s U c q w := by
  obtain ⟨V, f, com, pend, N, h1, h2, h3, h4⟩ := h
  exact ⟨V, f, com, pend, N, h1, h2.less hy, ⟨h3.bx, h3.rp, ⟨hb.1, hb.2.1, hb.2.2, h3.x.2.2.2⟩, h3.lo, ho⟩, h4⟩
theorem Inx.swap (h : Inx p L X s U c q w) : Inx p L X s.swap U c q w := by
  obtain ⟨V, f, com, pend, N, h1, h2, h3, h4, h5⟩ := h
  exact ⟨V, f, com, pend, N, h1, h2, h3, h4.swap, h5⟩
theorem Inx.xlt (h : Inx p L X s U c q w) : ∀ b, X b → b < w.heap.size := by
  obtain ⟨V, f, com, pend, N, h1, h2, h3, h4⟩ := h
  exact h2.tv.xlt
theorem Inx.bz (h : Inx p L X s U c q w) : Bz X p.w0 p.bb p.pl p.pr p.g p.n U w := by
  obtain ⟨V, f, com, pend, N, h1, h2, h3, h4⟩ := h
  exact h3
theorem Inx.chg (h : Inx p L X s U c q w) : Chg (fun _ => False) p.w0 w := by
  obtain ⟨V, f, com, pend, N, h1, h2, h3, h4⟩ := h
  exact h2.tv.chg
theorem Inx.sz (h : Inx p L X s U c q w) : s.n0.sz = (s.b0.length : Int) ∧ s.b0.length ≤ 8458240 ∧ IsBy s.b0 := by
  obtain ⟨V, f, com, pend, N, h1, h2, h3, h4, h5⟩ := h
  exact ⟨h4.f0.sz, h4.f0.lim, h4.f0.by'⟩
theorem Bgn.sz (h : Bgn p X s U c q w) : s.n0.sz = (s.b0.length : Int) ∧ s.b0.length ≤ 8458240 ∧ IsBy s.b0 := (h.on (L := []) (by simp)).sz
theorem Inx.cnt (h : Inx p L X s U c q w) : cntT s.T p.n = allM (blkC s.b0.length) + allM (blkC s.b1.length) ∧ cntT s.T p.n ≤ p.n := by
  obtain ⟨V, f, com, pend, N, h1, h2, h3, h4, h5⟩ := h
  exact ⟨h4.cnt, cntT_le _ _⟩
theorem Bgn.cnt (h : Bgn p X s U c q w) : cntT s.T p.n = allM (blkC s.b0.length) + allM (blkC s.b1.length) ∧ cntT s.T p.n ≤ p.n := (h.on (L := []) (by simp)).cnt
theorem in_ret {w3 wb w5 : World} {s' : Fm} (lt3 : ∀ k, X k → k < w3.heap.size) (bz3 : Bz X p.w0 p.bb p.pl p.pr p.g p.n U w3) (w03 : p.w0.heap.size ≤ w3.heap.size) (hc : Chg (fun _ => False) w3 wb) (hi : Inx p L (addX X w3.heap.size wb.heap.size) s' U c q w5) (hsm : Sm (addX X w3.heap.size wb.heap.size) wb w5) : Ret w3 wb w5 (fun r w6 => Inx p L (fun k => X k ∨ k = r) s' U c q w6 ∧ Sm X w3 w6) := by
  have hs5 : Sm X w3 w5 := fun k hk => (hsm k (.inl hk)).trans (hc.block k (lt3 k hk) (fun h => h))
  have hl5 : ∀ k, X k → k < w5.heap.size := fun k hk => hi.xlt _ (.inl hk)
  have lb := lt3 _ bz3.x.1
  have lp := lt3 _ bz3.x.2.1
  have lg := lt3 _ bz3.x.2.2.1
  refine ⟨fun r h1 h2 => hsm r (.inr ⟨h1, h2⟩), fun w6 r h1 h2 c6 => ⟨(hi.put (.inr ⟨h1, h2⟩) (by omega) ⟨by omega, by omega, by omega⟩ c6).less (fun k hk => ?_) ⟨.inl bz3.x.1, .inl bz3.x.2.1, .inl bz3.x.2.2.1⟩ (fun k hk => .inl (bz3.old k hk)), fun k hk => ?_⟩, fun w6 r h1 h2 c6 => ⟨(hi.add c6).less (fun k hk => ?_) ⟨.inl bz3.x.1, .inl bz3.x.2.1, .inl bz3.x.2.2.1⟩ (fun k hk => .inl (bz3.old k hk)), fun k hk => (c6.block k (hl5 k hk) (fun h => h)).trans (hs5 k hk)⟩⟩
  · rcases hk with hk | hk
    · exact .inl hk
    · exact .inr (by omega)
  · have := lt3 k hk
    exact (c6.block k (hl5 k hk) (by omega)).trans (hs5 k hk)
  · rcases hk with hk | hk
    · exact .inl (.inl hk)
    · exact .inr (by omega)
/-- Append to the first one, where it fits. -/
theorem in_append (u : Value) (h : Inx p L X s U c q w) (h0 : 0 ∈ L) (hb : Bs w u b) (hub : ∀ g, u.ownBlock = some g → 0 < b.length → X g) (hby : IsBy b) (hn : p.n ≤ 264) (hfit : allM (blkC (s.b0.length + b.length)) + allM (blkC s.b1.length) ≤ p.n)
    (hL : ∀ x, x ∈ appL p.n s.T s.B0 (blkC s.b0.length) (blkC (s.b0.length + b.length)) → x ∈ L) :
    Calls Tryz.prog 15 #[.pointer (some ⟨q, 0, none⟩), PV 0 1 p.n, s.n0.v, u] w fun e w' => ∃ x, e = .returned (.tuple #[x.v, .int .i64 0]) ∧ Inx p L X (s.app p.n b x) U c q w' ∧ Sm X w w' ∧ x.kd = s.n0.kd ∧ x.lk = s.n0.lk := by
  obtain ⟨V, f, com, pend, N, h1, h2, h3, h4, h5, h6⟩ := h
  have ho := cx8_ok (w0 := p.w0) (pd := p.pd) (pl := p.pl) (q := q) (f := f) (com := com) (pend := pend) (N := N) h5 h6 h0
  have hg := allM_ge (blkC (s.b0.length + b.length))
  have hle : blkC s.b0.length ≤ blkC (s.b0.length + b.length) := by unfold blkC; omega
  have hW := appL_wrt (c := p.cx L q f com pend N) (T := s.T) (B := s.B0) hle (by omega) rfl hL
  have hlen : s.b0.length + b.length ≤ 8458240 := by unfold blkC at hg hfit; omega
  have hT : Two (p.cx L q f com pend N) V s.T s.n0 s.B0 s.b0 s.n1 s.B1 s.b1 := Two.cx h4 rfl rfl
  have HA := two_append u h2 hT ho hlen hb hub hby hfit hW
  refine HA.mono ?_
  rintro e w' ⟨x, V', s', rfl, hs', f', t', k', sm'⟩
  subst hs'
  exact ⟨x, rfl, ⟨V', f, com, pend, N, h1, f', h3.sm sm', Two.cx t' rfl rfl, h5, h6⟩, sm', k'⟩
/-- .. where it does not. -/
theorem in_full (u : Value) (h : Inx p L X s U c q w) (h0 : 0 ∈ L) (hb : Bs w u b) (hlen : s.b0.length + b.length ≤ 8458240) (hfit : p.n < allM (blkC (s.b0.length + b.length)) + allM (blkC s.b1.length)) :
    Calls Tryz.prog 15 #[.pointer (some ⟨q, 0, none⟩), PV 0 1 p.n, s.n0.v, u] w fun e w' => e = .returned (.tuple #[Nd.no.v, .int .i64 7]) ∧ Chg (fun _ => False) w w' := by
  obtain ⟨V, f, com, pend, N, h1, h2, h3, h4, h5, h6⟩ := h
  have ho := cx8_ok (w0 := p.w0) (pd := p.pd) (pl := p.pl) (q := q) (f := f) (com := com) (pend := pend) (N := N) h5 h6 h0
  have hT : Two (p.cx L q f com pend N) V s.T s.n0 s.B0 s.b0 s.n1 s.B1 s.b1 := Two.cx h4 rfl rfl
  have HA := two_full u h2 hT ho hlen hb hfit
  exact HA
theorem in_cut (size : Nat) (h : Inx p L X s U c q w) (h0 : 0 ∈ L) (hz : size ≤ s.b0.length) (hn : p.n ≤ 264) (hL : ∀ x, x ∈ cutL s.B0 (blkC size) → x ∈ L) :
    Calls Tryz.prog 18 #[.pointer (some ⟨q, 0, none⟩), PV 0 1 p.n, s.n0.v, .int .i64 (size : Int)] w fun e w' => ∃ x, e = .returned (.tuple #[x.v, .int .i64 0]) ∧ Inx p L X (s.cut size x) U c q w' ∧ Sm X w w' ∧ x.kd = s.n0.kd ∧ x.lk = s.n0.lk := by
  have hcn := h.cnt
  obtain ⟨V, f, com, pend, N, h1, h2, h3, h4, h5, h6⟩ := h
  have ho := cx8_ok (w0 := p.w0) (pd := p.pd) (pl := p.pl) (q := q) (f := f) (com := com) (pend := pend) (N := N) h5 h6 h0
  have hg := allM_ge (blkC s.b0.length)
  have hle : blkC size ≤ blkC s.b0.length := by unfold blkC; omega
  have hW := cutL_wrt (c := p.cx L q f com pend N) (B := s.B0) (size := size) (kept := blkC size) (by omega) hL
  have hT : Two (p.cx L q f com pend N) V s.T s.n0 s.B0 s.b0 s.n1 s.B1 s.b1 := Two.cx h4 rfl rfl
  have HA := two_cut size h2 hT ho hz hW
  refine HA.mono ?_
  rintro e w' ⟨x, V', T', rfl, hs', f', t', k', sm'⟩
  subst hs'
  exact ⟨x, rfl, ⟨V', f, com, pend, N, h1, f', h3.sm sm', Two.cx t' rfl rfl, h5, h6⟩, sm', k'⟩
theorem in_put (off : Nat) (u : Value) (h : Inx p L X s U c q w) (h0 : 0 ∈ L) (hz : off + b.length ≤ s.b0.length) (hb : Bs w u b) (hub : ∀ g, u.ownBlock = some g → 0 < b.length → X g) (hby : IsBy b) (hL : ∀ i, off / 512 ≤ i → 512 * i < off + b.length → s.B0 (2 * i) ∈ L) :
    Calls Tryz.prog 17 #[.pointer (some ⟨q, 0, none⟩), s.n0.v, .int .i64 (off : Int), u] w fun e w' => e = .returned (.int .i64 0) ∧ Inx p L X (s.put off b) U c q w' ∧ Sm X w w' := by
  obtain ⟨V, f, com, pend, N, h1, h2, h3, h4, h5, h6⟩ := h
  have ho := cx8_ok (w0 := p.w0) (pd := p.pd) (pl := p.pl) (q := q) (f := f) (com := com) (pend := pend) (N := N) h5 h6 h0
  have hT : Two (p.cx L q f com pend N) V s.T s.n0 s.B0 s.b0 s.n1 s.B1 s.b1 := Two.cx h4 rfl rfl
  have HA := two_put off u h2 hT ho hz hb hub hby hL
  refine HA.mono ?_
  rintro e w' ⟨V', rfl, f', t', sm'⟩
  exact ⟨rfl, ⟨V', f, com, pend, N, h1, f', h3.sm sm', Two.cx t' rfl rfl, h5, h6⟩, sm'⟩
theorem in_read (off cnt : Nat) (h : Inx p L X s U c q w) (h0 : 0 ∈ L) (h1 : off < 9223372036854775808) (h2 : cnt < 9223372036854775808) :
    Calls Tryz.prog 16 #[tI q, s.n0.v, .int .i64 (off : Int), .int .i64 (cnt : Int)] w fun e w' => ∃ u, e = .returned (.tuple #[u, .int .i64 0]) ∧ Own w w' u ((s.b0.drop off).take cnt) := by
  obtain ⟨V, f, com, pend, N, g1, g2, h3, h4, h5, h6⟩ := h
  have ho := cx8_ok (w0 := p.w0) (pd := p.pd) (pl := p.pl) (q := q) (f := f) (com := com) (pend := pend) (N := N) h5 h6 h0
  have hT : Two (p.cx L q f com pend N) V s.T s.n0 s.B0 s.b0 s.n1 s.B1 s.b1 := Two.cx h4 rfl rfl
  have HA := read_file off cnt g2 hT.f0 ho h1 h2
  exact HA
theorem in_used (h : Inx p L X s U c q w) (h0 : 0 ∈ L) :
    Calls Tryz.prog 20 #[tI q, s.n0.v] w fun e w' => ∃ u, e = .returned (.tuple #[u, .int .i64 0]) ∧ OwI w' (w.heap.size + 1) u ((usedK (blkC s.b0.length)).map s.B0) ∧ Chg (fun _ => False) w w' := by
  obtain ⟨V, f, com, pend, N, g1, g2, h3, h4, h5, h6⟩ := h
  have ho := cx8_ok (w0 := p.w0) (pd := p.pd) (pl := p.pl) (q := q) (f := f) (com := com) (pend := pend) (N := N) h5 h6 h0
  have hT : Two (p.cx L q f com pend N) V s.T s.n0 s.B0 s.b0 s.n1 s.B1 s.b1 := Two.cx h4 rfl rfl
  have HA := used_any g2 hT.f0.fl ho hT.f0.sz rfl hT.f0.lim
  exact HA
theorem in_free (h : Inx p L X s U c q w) (h0 : 0 ∈ L) :
    Calls Tryz.prog 11 #[PV 0 1 p.n, .pointer (some ⟨q, 0, none⟩)] w fun e w' => e = .returned (.tuple #[.int .i64 ((p.n - cntT s.T p.n : Nat) : Int), .int .i64 0]) ∧ Chg (fun _ => False) w w' := by
  obtain ⟨V, f, com, pend, N, g1, g2, h3, h4, h5, h6⟩ := h
  have ho := cx8_ok (w0 := p.w0) (pd := p.pd) (pl := p.pl) (q := q) (f := f) (com := com) (pend := pend) (N := N) h5 h6 h0
  have HA := fs_free g2 ho
  exact HA
theorem in_commit (h : Inx p L X s U c q w) (hc : c ≤ 1000) :
    Calls Tryz.prog 14 #[.pointer (some ⟨q, 0, none⟩)] w fun e w' => e = .returned (.int .i64 0) ∧ Btw p X s U (c + 1) w' ∧ Sm X w w' := by
  obtain ⟨V, f, com, pend, N, g1, g2, h3, h4, h5, h6⟩ := h
  refine (md_commit g2 h3 g1.1 g1.2 hc).mono ?_
  rintro e w' ⟨rfl, hm, hs⟩
  exact ⟨rfl, ⟨V, hm, h4, h5, h6⟩, hs⟩
/-- Append, whatever is laid ahead of its call; its node goes into a box. -/
theorem in_box {w3 wb : World} (u : Value) (h : Inx p L X s U c q w3) (hc : Chg (fun _ => False) w3 wb) (h0 : 0 ∈ L) (hb : Bs wb u b) (hub : ∀ g, u.ownBlock = some g → 0 < b.length → X g ∨ (w3.heap.size ≤ g ∧ g < wb.heap.size)) (hby : IsBy b) (hn : p.n ≤ 264) (hfit : allM (blkC (s.b0.length + b.length)) + allM (blkC s.b1.length) ≤ p.n)
    (hL : ∀ x, x ∈ appL p.n s.T s.B0 (blkC s.b0.length) (blkC (s.b0.length + b.length)) → x ∈ L) :
    Calls Tryz.prog 15 #[.pointer (some ⟨q, 0, none⟩), PV 0 1 p.n, s.n0.v, u] wb fun e w5 => ∃ x, e = .returned (.tuple #[x.v, .int .i64 0]) ∧ Ret w3 wb w5 (fun r w6 => Inx p L (fun k => X k ∨ k = r) (s.app p.n b x) U c q w6 ∧ Sm X w3 w6) ∧ Sm X w3 w5 ∧ x.kd = s.n0.kd ∧ x.lk = s.n0.lk := by
  have lt3 := h.xlt
  have bz3 := h.bz
  have w03 := h.chg.size
  refine (in_append u (h.add hc) h0 hb (fun g hg hl => (hub g hg hl).imp id id) hby hn hfit hL).mono ?_
  rintro e w5 ⟨x, rfl, hi, hsm, hkd⟩
  exact ⟨x, rfl, in_ret lt3 bz3 w03 hc hi hsm, fun k hk => (hsm k (.inl hk)).trans (hc.block k (lt3 k hk) (fun h => h)), hkd⟩
theorem cut_box {w3 wb : World} (size : Nat) (h : Inx p L X s U c q w3) (hc : Chg (fun _ => False) w3 wb) (h0 : 0 ∈ L) (hz : size ≤ s.b0.length) (hn : p.n ≤ 264) (hL : ∀ x, x ∈ cutL s.B0 (blkC size) → x ∈ L) :
    Calls Tryz.prog 18 #[.pointer (some ⟨q, 0, none⟩), PV 0 1 p.n, s.n0.v, .int .i64 (size : Int)] wb fun e w5 => ∃ x, e = .returned (.tuple #[x.v, .int .i64 0]) ∧ Ret w3 wb w5 (fun r w6 => Inx p L (fun k => X k ∨ k = r) (s.cut size x) U c q w6 ∧ Sm X w3 w6) ∧ Sm X w3 w5 ∧ x.kd = s.n0.kd ∧ x.lk = s.n0.lk := by
  have lt3 := h.xlt
  have bz3 := h.bz
  have w03 := h.chg.size
  refine (in_cut size (h.add hc) h0 hz hn hL).mono ?_
  rintro e w5 ⟨x, rfl, hi, hsm, hkd⟩
  exact ⟨x, rfl, in_ret lt3 bz3 w03 hc hi hsm, fun k hk => (hsm k (.inl hk)).trans (hc.block k (lt3 k hk) (fun h => h)), hkd⟩
end
end Go.Proofs.YtnnaemlipahamaaGreat

namespace Go.Proofs.YtnnaemlipahamaaGreat
open Go.RowKit Go.Maps

section
variable {L : List Nat} {X : Nat → Prop} {w0 w w' : World} {pd pl q K : Nat} {f : Nat → List Int} {com : Nat → Option (List Int)} {pend N : Nat} {V : Nat → List Int} {live : Bool} {own : Nat → Option (List Int)} {wrote : Nat} {S : Nat → Prop}
theorem Nw.putS {F G : Nat → Prop} (h : Nw X w0 w F G) (hS : ∀ k, S k → X k ∧ w0.heap.size ≤ k) (hc : Chg S w w') (hF : ∀ b, F b → b < w.heap.size) (hG : ∀ b, G b → b < w.heap.size) : Nw (addX X w.heap.size w'.heap.size) w0 w' F G := by
  refine ⟨h.chg.trans hc (fun i hi e => by have := (hS i e).2; omega), h.f, h.g, fun b hb => ?_⟩
  rcases hb with hb | hb
  · exact ⟨by have := (h.x b hb).1; have := hc.size; omega, (h.x b hb).2⟩
  · exact ⟨hb.2, fun hf => by have := hF b hf; omega, fun hg => by have := hG b hg; omega⟩
theorem TxUp.putS (h : TxUp X w0 w pd pl q K f com pend live own wrote N) (hS : ∀ k, S k → X k ∧ w0.heap.size ≤ k) (hc : Chg S w w') : TxUp (addX X w.heap.size w'.heap.size) w0 w' pd pl q K f com pend live own wrote N := by
  obtain ⟨F, G, S', m, V, mt, Vt, h1, h2, h3, h4, h5, h6, h7, h8⟩ := h
  exact ⟨F, G, S', m, V, mt, Vt, h1.keptE hc (fun b hb e => (h7.x b (hS b e).1).2.1 hb) (fun b hb e => (h7.x b (hS b e).1).2.2 hb), h2, h3, h4, h5, h6, h7.putS hS hc h1.lk.dk.lt h1.lk.lg.lt, h8⟩
theorem Tv.putS (h : Tv L X w0 w pd pl q K f com pend N V) (hS : ∀ k, S k → X k ∧ w0.heap.size ≤ k) (hc : Chg S w w') : Tv L (addX X w.heap.size w'.heap.size) w0 w' pd pl q K f com pend N V := by
  obtain ⟨own, wrote, h1, h2⟩ := h
  exact ⟨own, wrote, h1.putS hS hc, h2⟩
theorem LogUp.putS (h : LogUp X w0 w pd pl K f com pend N) (hS : ∀ k, S k → X k ∧ w0.heap.size ≤ k) (hc : Chg S w w') : LogUp (addX X w.heap.size w'.heap.size) w0 w' pd pl K f com pend N := by
  obtain ⟨F, G, S', m, V, h1, h2, h3, h4, h5, h6, h7⟩ := h
  exact ⟨F, G, S', m, V, ⟨h1.dk.kept hc (fun b hb e => (h7.x b (hS b e).1).2.1 hb), h1.lg.kept hc (fun b hb e => (h7.x b (hS b e).1).2.2 hb), h1.no, h1.nb⟩, h2, h3, h4, h5, h6, h7.putS hS hc h1.dk.lt h1.lg.lt⟩
end
section
variable {p : Pm} {X S : Nat → Prop} {s : Fm} {U : Nat → Bool} {c q : Nat} {w w' : World} {L : List Nat}
theorem Bz.of' {Y : Nat → Prop} {w0 : World} {bb pl pr g n : Nat} (h : Bz X w0 bb pl pr g n U w) (hS : ∀ k, S k → k ≠ bb ∧ k ≠ pr ∧ k ≠ g) (hc : Chg S w w') (hy : ∀ b, X b → Y b) : Bz Y w0 bb pl pr g n U w' :=
  (h.kept hc (fun e => (hS _ e).1 rfl) (fun e => (hS _ e).2.1 rfl) (fun e => (hS _ e).2.2 rfl)).of hy
theorem Inx.grow (h : Inx p L X s U c q w) (hS : ∀ k, S k → X k ∧ p.w0.heap.size ≤ k ∧ k ≠ p.bb ∧ k ≠ p.pr ∧ k ≠ p.g) (hc : Chg S w w') : Inx p L (addX X w.heap.size w'.heap.size) s U c q w' := by
  obtain ⟨V, f, com, pend, N, h1, h2, h3, h4⟩ := h
  exact ⟨V, f, com, pend, N, h1, ⟨h2.tv.putS (fun k hk => ⟨(hS k hk).1, (hS k hk).2.1⟩) hc, h2.bt, h2.by'⟩, h3.of' (fun k hk => (hS k hk).2.2) hc (fun _ h => .inl h), h4⟩
theorem Bgn.grow (h : Bgn p X s U c q w) (hS : ∀ k, S k → X k ∧ p.w0.heap.size ≤ k ∧ k ≠ p.bb ∧ k ≠ p.pr ∧ k ≠ p.g) (hc : Chg S w w') : Bgn p (addX X w.heap.size w'.heap.size) s U c q w' := by
  obtain ⟨V, f, com, pend, N, h1, h2, h3, h4⟩ := h
  exact ⟨V, f, com, pend, N, h1, fun L hL => ⟨(h2 L hL).tv.putS (fun k hk => ⟨(hS k hk).1, (hS k hk).2.1⟩) hc, (h2 L hL).bt, (h2 L hL).by'⟩, h3.of' (fun k hk => (hS k hk).2.2) hc (fun _ h => .inl h), h4⟩
theorem Btw.grow (h : Btw p X s U c w) (hS : ∀ k, S k → X k ∧ p.w0.heap.size ≤ k ∧ k ≠ p.bb ∧ k ≠ p.pr ∧ k ≠ p.g) (hc : Chg S w w') : Btw p (addX X w.heap.size w'.heap.size) s U c w' := by
  obtain ⟨V, h1, h2⟩ := h
  obtain ⟨f, com, pend, N, hl, hr⟩ := h1.lz.ex
  exact ⟨V, Md.mk' ⟨f, com, pend, N, hl.putS (fun k hk => ⟨(hS k hk).1, (hS k hk).2.1⟩) hc, hr⟩ (h1.bz.of' (fun k hk => (hS k hk).2.2) hc (fun _ h => .inl h)) h1.bt h1.by', h2⟩
end
end Go.Proofs.YtnnaemlipahamaaGreat
