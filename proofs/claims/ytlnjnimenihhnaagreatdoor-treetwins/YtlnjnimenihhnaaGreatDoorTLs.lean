/-
  Walk: the stops.
-/
import Derived.Test.YtlnjnimenihhnaaGreatDoorTBel
import Derived.Stop.RegionWithIn
namespace Go.Proofs.YtlnjnimenihhnaaGreatDoor
open Go.RowKit Go.Maps Go.Sort Go.Shelf

theorem infoSt : (Tryz.prog.info? 147).map (fun i => (i.zero, i.size, i.bytes)) = some (some (.agg #[.string ⟨#[]⟩, .bool false, .int .i64 0, .int .i64 0]), 4, 40) := by kernel_rfl
/-- What Stat tells of what stands there. -/
def infD : Option Nd → Bool × Int × Int
  | some (.file bs) => (false, bs.length, 0)
  | some (.dir _ kn) => (true, 0, kn.length)
  | none => (false, 0, 0)
theorem infD_inf (nd : Nd) : nd.inf = inV (infD (some nd)).1 (infD (some nd)).2.1 (infD (some nd)).2.2 := by cases nd <;> rfl
/-- A stop's cells. -/
def stC (F : Pth → Option Nd) (r : ByteArray × Pth) : List Value := [.string r.1, .bool (infD (F r.2)).1, .int .i64 (infD (F r.2)).2.1, .int .i64 (infD (F r.2)).2.2]
theorem stC_len (F : Pth → Option Nd) (l : List (ByteArray × Pth)) : (l.flatMap (stC F)).length = l.length * 4 := by
  induction l with
  | nil => rfl
  | cons x r ih => rw [List.flatMap_cons, List.length_append, ih]; simp [stC]; omega
theorem run_app4 {w : World} {N n g : Nat} {v : Value} {xs : List Value} {T : ByteArray} {d : Bool} {m k : Int} (hown : w.ownsRow N 147 4 v n xs) (hg : w.heap[g]? = some (.cells #[.string T, .bool d, .int .i64 m, .int .i64 k] 147 (0, 0))) (hn : n ≤ 1000000) (hN : N ≤ w.heap.size) (ty : TypeId) :
    ∃ v' w', (Builtin.append_ #[142, 142] ty #[v, .slice (some ⟨g, 0, none⟩) 1 1]).run Tryz.prog w = .ok v' w' ∧ w'.ownsRow N 147 4 v' (n + 1) (xs ++ [.string T, .bool d, .int .i64 m, .int .i64 k]) ∧ w.grownBy w' v.ownBlock := by
  obtain ⟨i0, hi, hz0, hz1, hz2⟩ := info_parts infoSt
  have ad : ∀ k, (⟨g, 0, none⟩ : Addr).add k = ⟨g, 0 + k, none⟩ := by intro k; unfold Addr.add; split <;> simp_all
  obtain ⟨v', w', h1, h2, h3, _, h5⟩ := run_append_own_at (P := Tryz.prog) w N 142 ty 147 i0 _ 4 40 Tryz.underlying142 hi hz0 hz1 hz2 rfl (by decide) v n xs hown ⟨g, 0, none⟩ 1 1 [.string T, .bool d, .int .i64 m, .int .i64 k] rfl
    (fun j u hu => by
      have hj := (List.getElem?_eq_some_iff.1 hu).1
      rw [ad, cell_of_row _ _ _ _ _ _ hg]
      simp only [List.length_cons, List.length_nil] at hj
      rcases (by omega : j = 0 ∨ j = 1 ∨ j = 2 ∨ j = 3) with rfl | rfl | rfl | rfl <;> exact hu)
    (fun u hu => by
      simp only [List.mem_cons, List.not_mem_nil, or_false] at hu
      rcases hu with rfl | rfl | rfl | rfl <;> rfl) (by unfold maxLen; omega) (by omega) hN
  exact ⟨v', w', h1, h2, h3⟩
theorem Chw.trans {B : Nat} {a b c : World} (h : Chw B a b) (k : Chw B b c) : Chw B a c := ⟨k.os.trans h.os, k.tape.trans h.tape, k.output.trans h.output, Nat.le_trans h.size k.size, fun j o hj hm => k.block j o (h.block j o hj hm) hm⟩
theorem own_chw {B N n : Nat} {W W' : World} {v : Value} {xs : List Value} (h : W.ownsRow N 147 4 v n xs) (hc : Chw B W W') : W'.ownsRow N 147 4 v n xs := by
  refine ⟨h.1, ?_⟩
  rcases h.2 with h | ⟨g, cap, cur, e, h1, h2, h3⟩
  · exact .inl h
  · exact .inr ⟨g, cap, cur, e, h1, hc.block g _ h2 (.inr (fun h => by rcases h with ⟨_, h⟩ | ⟨_, h⟩ <;> cases h)), h3⟩
theorem own_blk {N n : Nat} {W : World} {v : Value} {xs : List Value} (h : W.ownsRow N 147 4 v n xs) {g : Nat} (hg : v.ownBlock = some g) : N ≤ g ∧ ∃ cur, W.heap[g]? = some (.cells cur 147 (0, 0)) := by
  rcases h.2 with ⟨e, _⟩ | ⟨g', cap, cur, e, h1, h2, h3⟩
  · rw [e] at hg; cases hg
  · rw [e] at hg
    have e2 : g' = g := by simpa [Value.ownBlock] using hg
    subst e2
    exact ⟨h1, cur, h2⟩
theorem own_sl4 {N n : Nat} {W : World} {v : Value} {xs : List Value} (h : W.ownsRow N 147 4 v n xs) : ∃ a c, v = .slice a n c := by
  rcases h.2 with ⟨rfl, rfl⟩ | ⟨g, cap, cur, rfl, _⟩
  · exact ⟨_, _, rfl⟩
  · exact ⟨_, _, rfl⟩
/-- A row stands somewhere. -/
theorem rowsP_mem {T : Ts} (hG : Gd T) : ∀ (d : Nat) (p : Pth) (at' : ByteArray) (y : ByteArray × Pth), y ∈ rowsP T.F d p at' → ∃ nd, T.F y.2 = some nd
  | 0, _, _, _, h => by cases h
  | d + 1, p, at', y, h => by
    rw [rowsP_succ] at h
    obtain ⟨x, hx, hy⟩ := List.mem_flatMap.1 h
    rcases List.mem_cons.1 hy with rfl | hy
    · unfold nmOf at hx
      cases e : T.F p with
      | none => rw [e] at hx; cases hx
      | some nd =>
        cases nd with
        | file bs => rw [e] at hx; cases hx
        | dir s kn =>
          rw [e] at hx
          exact Option.isSome_iff_exists.1 (hG.dn p s kn _ e (nmL_mem hx))
    · exact rowsP_mem hG d _ _ y hy
/-- What the loop of Walk stands on. -/
structure WkJ (w W5 : World) (D : Nat) (ob : Obj) (t i : Nat) (rows : List (ByteArray × Pth)) (F : Pth → Option Nd) (W : World) : Prop where
  bel : Below w.heap.size w W
  lp : W.heap[D + 1]? = some ob
  df : W.heap[D]? = some (.deferred (some []))
  b1 : W.heap[w.heap.size + 1]? = some (.cells #[ptr t] 57)
  b2 : W.heap[w.heap.size + 2]? = some (.cells #[.string ⟨#[]⟩] 9)
  size : W5.heap.size ≤ W.heap.size
  row : ∃ v, W.heap[w.heap.size]? = some (.cells #[v] 142 (0, 0)) ∧ W.ownsRow W5.heap.size 147 4 v i ((rows.take i).flatMap (stC F))
theorem WkJ.chw {w W5 W W' : World} {D t i : Nat} {ob : Obj} {rows : List (ByteArray × Pth)} {F : Pth → Option Nd} (h : WkJ w W5 D ob t i rows F W) (hc : Chw W5.heap.size W W') (hD : D + 1 < W5.heap.size) (hN : w.heap.size + 2 < W5.heap.size) : WkJ w W5 D ob t i rows F W' := by
  obtain ⟨v, h1, h2⟩ := h.row
  refine ⟨⟨hc.os.trans h.bel.os, hc.tape.trans h.bel.tape, hc.output.trans h.bel.output, Nat.le_trans h.bel.size hc.size, fun k hk => ?_⟩, hc.block _ _ h.lp (.inl hD), hc.block _ _ h.df (.inl (by omega)), hc.block _ _ h.b1 (.inl (by omega)), hc.block _ _ h.b2 (.inl (by omega)), Nat.le_trans h.size hc.size, v, hc.block _ _ h1 (.inl (by omega)), own_chw h2 hc⟩
  have e := h.bel.block k hk
  rw [Array.getElem?_eq_getElem hk] at e ⊢
  exact hc.block k _ e (.inl (by omega))
/-- A row more. -/
theorem wk_more {w W5 Wx w5 : World} {D t i : Nat} {r1 r2 r3 : Loop} {rows : List (ByteArray × Pth)} {F : Pth → Option Nd} {y : ByteArray × Pth} {nd : Nd} (h : WkJ w W5 D (.loop r1) t i rows F Wx) (hD : D + 1 < W5.heap.size) (hDN : w.heap.size + 2 < D) (hy : rows[i]? = some y) (hnd : F y.2 = some nd) (hi : i ≤ 1000000)
    (hB : Below (Wx.putObj (D + 1) (.loop r2)).heap.size (Wx.putObj (D + 1) (.loop r2)) w5) (ty : TypeId) :
    ∃ a c a' c' w6, w5.cell? ⟨w.heap.size, 0, none⟩ = some (.slice a i c) ∧ (Builtin.append_ #[142, 142] ty #[.slice a i c, .slice (some ⟨w5.heap.size, 0, none⟩) 1 1]).run Tryz.prog (w5.alloc (.cells #[.string y.1, .bool (infD (some nd)).1, .int .i64 (infD (some nd)).2.1, .int .i64 (infD (some nd)).2.2] 147)) = .ok (.slice a' (i + 1) c') w6 ∧
      w6.cell? ⟨w.heap.size, 0, none⟩ = some (.slice a i c) ∧ w6.frozen? ⟨w.heap.size, 0, none⟩ = false ∧ ∀ w7, w6.setCell ⟨w.heap.size, 0, none⟩ (.slice a' (i + 1) c') = w7 → w7.heap[D + 1]? = some (.loop r2) ∧ WkJ w W5 D (.loop r3) t (i + 1) rows F (w7.putObj (D + 1) (.loop r3)) ∧ Kpy W5.heap.size Wx (w7.putObj (D + 1) (.loop r3)) := by
  have hz := h.size
  have cz : Chw (D + 1) Wx (Wx.putObj (D + 1) (.loop r2)) := Chw.put h.lp (Nat.le_refl _) _
  have hzl : (Wx.putObj (D + 1) (.loop r2)).heap[D + 1]? = some (.loop r2) := World.putObj_heap_same (by omega)
  have hzo : ∀ k, ¬ k = D + 1 → (Wx.putObj (D + 1) (.loop r2)).heap[k]? = Wx.heap[k]? := fun k hk => World.putObj_heap_other hk
  have hzs : (Wx.putObj (D + 1) (.loop r2)).heap.size = Wx.heap.size := by simp [World.putObj]
  generalize Wx.putObj (D + 1) (.loop r2) = Wz at *
  have hg := heap_alloc_new w5 (.cells #[.string y.1, .bool (infD (some nd)).1, .int .i64 (infD (some nd)).2.1, .int .i64 (infD (some nd)).2.2] 147)
  have BL := below_alloc w5 (.cells #[.string y.1, .bool (infD (some nd)).1, .int .i64 (infD (some nd)).2.1, .int .i64 (infD (some nd)).2.2] 147)
  generalize w5.alloc (.cells #[.string y.1, .bool (infD (some nd)).1, .int .i64 (infD (some nd)).2.1, .int .i64 (infD (some nd)).2.2] 147) = wl at *
  obtain ⟨v, h1, h2⟩ := h.row
  have cl : Chw (D + 1) Wx wl := (cz.trans (Chw.of_below hB)).trans (Chw.of_below BL)
  have hs5 := hB.size
  have hsl := BL.size
  -- blocks of Wx, but for the record, are in wl
  have hx5 : ∀ k o, ¬ k = D + 1 → Wx.heap[k]? = some o → w5.heap[k]? = some o := fun k o hk ho => by
    have hlt := (Array.getElem?_eq_some_iff.1 ho).1
    exact (hB.block k (by omega)).trans ((hzo k hk).trans ho)
  have hxl : ∀ k o, ¬ k = D + 1 → Wx.heap[k]? = some o → wl.heap[k]? = some o := fun k o hk ho => by
    have h3 := hx5 k o hk ho
    exact (BL.block k (Array.getElem?_eq_some_iff.1 h3).1).trans h3
  have hll : wl.heap[D + 1]? = some (.loop r2) := (BL.block _ (by omega)).trans ((hB.block _ (by omega)).trans hzl)
  have ol := own_chw h2 cl
  obtain ⟨v', w6, hr, ho, hgr⟩ := run_app4 ol hg hi (by omega) ty
  obtain ⟨a, c, rfl⟩ := own_sl4 h2
  obtain ⟨a', c', rfl⟩ := own_sl4 ho
  have hvN : ∀ g, (Value.slice a i c).ownBlock = some g → W5.heap.size ≤ g := fun g hg => (own_blk h2 hg).1
  have h6 : ∀ k, k < wl.heap.size → ¬ (Value.slice a i c).ownBlock = some k → w6.heap[k]? = wl.heap[k]? := fun k hk hne => hgr.block k hk (fun e => hne e.symm)
  have nNl : ¬ w.heap.size = D + 1 := by omega
  have c5 := hx5 _ _ nNl h1
  have cL := hxl _ _ nNl h1
  have c6 : w6.heap[w.heap.size]? = some (.cells #[.slice a i c] 142 (0, 0)) := (h6 _ (Array.getElem?_eq_some_iff.1 cL).1 (fun e => by have := hvN _ e; omega)).trans cL
  refine ⟨a, c, a', c', w6, by rw [cell_of_row _ _ _ _ _ _ c5]; rfl, hr, by rw [cell_of_row _ _ _ _ _ _ c6]; rfl, by simp [World.frozen?, c6], ?_⟩
  rintro w7 rfl
  have c7 := heap_setCell_same w6 w.heap.size 0 _ 142 (.slice a' (i + 1) c') c6
  have C7 : Chg (fun k => k = w.heap.size) w6 (w6.setCell ⟨w.heap.size, 0, none⟩ (.slice a' (i + 1) c')) := Chg.setCell _ _ _ rfl
  have hs7 : (w6.setCell ⟨w.heap.size, 0, none⟩ (.slice a' (i + 1) c')).heap.size = w6.heap.size := by simp
  have hs6 := hgr.size
  generalize w6.setCell ⟨w.heap.size, 0, none⟩ (.slice a' (i + 1) c') = w7 at *
  -- blocks of Wx, but for the record, the box and the row, are in w7
  have hx7 : ∀ k o, ¬ k = D + 1 → ¬ k = w.heap.size → ¬ (Value.slice a i c).ownBlock = some k → Wx.heap[k]? = some o → w7.heap[k]? = some o := fun k o hk1 hk2 hk3 ho => by
    have h3 := hxl k o hk1 ho
    have h4 := (Array.getElem?_eq_some_iff.1 h3).1
    exact (C7.block k (by omega) hk2).trans ((h6 k h4 hk3).trans h3)
  have hl7 : w7.heap[D + 1]? = some (.loop r2) := (C7.block _ (by omega) (by omega)).trans ((h6 _ (by omega) (fun e => by have := hvN _ e; omega)).trans hll)
  have o7 : w7.ownsRow W5.heap.size 147 4 (.slice a' (i + 1) c') (i + 1) ((rows.take (i + 1)).flatMap (stC F)) := by
    have e : (rows.take (i + 1)).flatMap (stC F) = (rows.take i).flatMap (stC F) ++ [.string y.1, .bool (infD (some nd)).1, .int .i64 (infD (some nd)).2.1, .int .i64 (infD (some nd)).2.2] := by
      rw [List.take_add_one, hy]
      simp [stC, hnd]
    rw [e]
    refine ⟨ho.1, ?_⟩
    rcases ho.2 with h | ⟨g, cap, cur, e, q1, q2, q3⟩
    · exact .inl h
    · exact .inr ⟨g, cap, cur, e, q1, (C7.block g (Array.getElem?_eq_some_iff.1 q2).1 (by omega)).trans q2, q3⟩
  obtain ⟨Wv, hWv⟩ : ∃ Wv, w7.putObj (D + 1) (.loop r3) = Wv := ⟨_, rfl⟩
  have hvo : ∀ j, ¬ j = D + 1 → Wv.heap[j]? = w7.heap[j]? := fun j h => by rw [← hWv]; exact World.putObj_heap_other h
  have hvs : Wv.heap.size = w7.heap.size := by rw [← hWv]; simp [World.putObj]
  have hvl : Wv.heap[D + 1]? = some (.loop r3) := by rw [← hWv]; exact World.putObj_heap_same (by omega)
  have hob : ∀ k, k < W5.heap.size → ¬ (Value.slice a i c).ownBlock = some k := fun k hk e => by have := hvN _ e; omega
  have hos : Wv.os = Wx.os ∧ Wv.tape = Wx.tape ∧ Wv.output = Wx.output := by
    refine ⟨?_, ?_, ?_⟩
    · rw [← hWv]; exact C7.os.trans (hgr.os.trans cl.os)
    · rw [← hWv]; exact C7.tape.trans (hgr.tape.trans cl.tape)
    · rw [← hWv]; exact C7.output.trans (hgr.output.trans cl.output)
  rw [hWv]
  refine ⟨hl7, ⟨⟨hos.1.trans h.bel.os, hos.2.1.trans h.bel.tape, hos.2.2.trans h.bel.output, by have := h.bel.size; omega, fun k hk => ?_⟩, hvl, (hvo _ (by omega)).trans (hx7 _ _ (by omega) (by omega) (hob _ (by omega)) h.df), (hvo _ (by omega)).trans (hx7 _ _ (by omega) (by omega) (hob _ (by omega)) h.b1), (hvo _ (by omega)).trans (hx7 _ _ (by omega) (by omega) (hob _ (by omega)) h.b2), by omega, .slice a' (i + 1) c', (hvo _ (by omega)).trans c7, ?_⟩, by omega, fun k o hk ho hns => ?_⟩
  · have e := h.bel.block k hk
    rw [Array.getElem?_eq_getElem hk] at e ⊢
    exact (hvo k (by omega)).trans (hx7 k _ (by omega) (by omega) (hob k (by omega)) e)
  · refine ⟨o7.1, ?_⟩
    rcases o7.2 with h | ⟨g, cap, cur, e, q1, q2, q3⟩
    · exact .inl h
    · exact .inr ⟨g, cap, cur, e, q1, (hvo g (by omega)).trans q2, q3⟩
  · refine (hvo k (by omega)).trans (hx7 k o (by omega) (by omega) (fun e => hns ?_) ho)
    obtain ⟨_, cur, h9⟩ := own_blk h2 e
    rw [ho] at h9
    cases h9
    exact ⟨_, _, rfl⟩
end Go.Proofs.YtlnjnimenihhnaaGreatDoor

namespace Go.Proofs.YtlnjnimenihhnaaGreatDoor
open Go.RowKit Go.Maps Go.Sort

theorem filt_len {α : Type} [DecidableEq α] : ∀ (L : List α) (x : α), L.Nodup → x ∈ L → (L.filter fun y => !decide (y = x)).length + 1 = L.length
  | [], _, _, h => by cases h
  | y :: r, x, hn, h => by
    have hn2 := List.nodup_cons.1 hn
    by_cases e : y = x
    · subst e
      have : r.filter (fun z => !decide (z = y)) = r := List.filter_eq_self.2 (fun z hz => by
        have hz2 : ¬ z = y := fun e2 => hn2.1 (by rw [← e2]; exact hz)
        simpa using hz2)
      rw [List.filter_cons_of_neg (by simp), this]
      simp
    · rw [List.filter_cons_of_pos (by simpa using e)]
      have := filt_len r x hn2.2 ((List.mem_cons.1 h).resolve_left (fun e2 => e e2.symm))
      simp only [List.length_cons]
      omega
theorem nodup_le {α : Type} [DecidableEq α] : ∀ (D L : List α), D.Nodup → L.Nodup → (∀ x ∈ D, x ∈ L) → D.length ≤ L.length
  | [], _, _, _, _ => Nat.zero_le _
  | x :: D, L, hD, hL, h => by
    have h1 := nodup_le D (L.filter fun y => !decide (y = x)) (List.nodup_cons.1 hD).2 (List.Pairwise.filter _ hL) (fun y hy => by
      refine List.mem_filter.2 ⟨h y (List.mem_cons_of_mem _ hy), ?_⟩
      have hz : ¬ y = x := fun e => (List.nodup_cons.1 hD).1 (e ▸ hy)
      simpa using hz)
    have h2 := filt_len L x hL (h x List.mem_cons_self)
    simp only [List.length_cons]
    omega
/-- As many things as inodes are taken; none deeper than M. -/
structure Cn (T : Ts) (n : Int) (M : Nat) : Prop where
  ex : ∃ L : List Pth, L.Nodup ∧ (∀ p, p ∈ L ↔ (¬ p = [] ∧ (T.F p).isSome = true)) ∧ T.ino + L.length = n
  dp : ∀ p : Pth, (T.F p).isSome = true → p.length ≤ M
theorem Cn.more {T : Ts} {n : Int} {M M' : Nat} (h : Cn T n M) (hM : M ≤ M') : Cn T n M' := ⟨h.ex, fun p hp => Nat.le_trans (h.dp p hp) hM⟩
theorem Cn.same {T T' : Ts} {n : Int} {M : Nat} (h : Cn T n M) (hF : ∀ p, (T'.F p).isSome = (T.F p).isSome) (hi : T'.ino = T.ino) : Cn T' n M := by
  obtain ⟨L, h1, h2, h3⟩ := h.ex
  exact ⟨⟨L, h1, fun p => by rw [hF]; exact h2 p, by rw [hi]; exact h3⟩, fun p hp => h.dp p (by rw [← hF]; exact hp)⟩
theorem Cn.add {T T' : Ts} {n : Int} {M : Nat} {ns : Pth} (h : Cn T n M) (h0 : ¬ ns = []) (hn : T.F ns = none) (hM : ns.length ≤ M) (hF : ∀ p, (T'.F p).isSome = (decide (p = ns) || (T.F p).isSome)) (hi : T'.ino = T.ino - 1) : Cn T' n M := by
  obtain ⟨L, h1, h2, h3⟩ := h.ex
  refine ⟨⟨ns :: L, List.nodup_cons.2 ⟨fun hm => ?_, h1⟩, fun p => ?_, ?_⟩, fun p hp => ?_⟩
  · have := ((h2 ns).1 hm).2
    rw [hn] at this; cases this
  · rw [List.mem_cons, h2, hF]
    by_cases e : p = ns
    · subst e; simp [h0]
    · simp [e]
  · rw [hi]; simp only [List.length_cons]; omega
  · rw [hF] at hp
    by_cases e : p = ns
    · rw [e]; exact hM
    · simp [e] at hp; exact h.dp p hp
theorem Cn.gone {T T' : Ts} {n : Int} {M : Nat} {ns : Pth} (h : Cn T n M) (h0 : ¬ ns = []) (hn : (T.F ns).isSome = true) (hF : ∀ p, (T'.F p).isSome = (!decide (p = ns) && (T.F p).isSome)) (hi : T'.ino = T.ino + 1) : Cn T' n M := by
  obtain ⟨L, h1, h2, h3⟩ := h.ex
  have hm : ns ∈ L := (h2 ns).2 ⟨h0, hn⟩
  have hl := filt_len L ns h1 hm
  refine ⟨⟨L.filter fun y => !decide (y = ns), List.Pairwise.filter _ h1, fun p => ?_, by rw [hi]; omega⟩, fun p hp => ?_⟩
  · rw [List.mem_filter, h2, hF]
    by_cases e : p = ns
    · subst e; simp
    · simp [e]
  · rw [hF] at hp
    exact h.dp p (by simp at hp; simp [hp.2])
theorem Cn.graft {T T' : Ts} {n : Int} {M : Nat} {f g : Pth} (h : Cn T n M) (hf0 : ¬ f = []) (hg0 : ¬ g = []) (hng : ∀ q, (T.F q).isSome = true → ¬ Un g q) (_hfg : ¬ Un f g) (hg8 : g.length ≤ 8) (F' : Pth → Option Nd) (hF' : ∀ p, (F' p).isSome = (T.F p).isSome) (hF : T'.F = graft F' f g) (hi : T'.ino = T.ino) : Cn T' n (M + 8) := by
  obtain ⟨L, h1, h2, h3⟩ := h.ex
  have hat : ∀ r, (T'.F (g ++ r)).isSome = (T.F (f ++ r)).isSome := fun r => by rw [hF, graft_at, hF']
  have hel : ∀ q, ¬ Un g q → ¬ Un f q → (T'.F q).isSome = (T.F q).isSome := fun q a b => by rw [hF, graft_else F' a b, hF']
  have hno : ∀ q, ¬ Un g q → Un f q → T'.F q = none := fun q a b => by rw [hF, graft_none F' a b]
  let φ : Pth → Pth := fun q => if Un f q then g ++ q.drop f.length else q
  have φf : ∀ r, φ (f ++ r) = g ++ r := fun r => by show (if Un f (f ++ r) then _ else _) = _; rw [if_pos (un_app f r)]; simp
  have φe : ∀ q, ¬ Un f q → φ q = q := fun q a => if_neg a
  have hLg : ∀ q ∈ L, ¬ Un g q := fun q hq => hng q ((h2 q).1 hq).2
  refine ⟨⟨L.map φ, ?_, fun p => ?_, by rw [hi, List.length_map]; exact h3⟩, fun p hp => ?_⟩
  · refine List.Pairwise.map _ (R := fun a b => a ∈ L ∧ b ∈ L ∧ ¬ a = b) ?_ (h1.imp_of_mem (fun ha hb hab => ⟨ha, hb, hab⟩))
    rintro a b ⟨ha, hb, hab⟩ e
    by_cases ua : Un f a
    · obtain ⟨ra, rfl⟩ := un_iff.1 ua
      rw [φf] at e
      by_cases ub : Un f b
      · obtain ⟨rb, rfl⟩ := un_iff.1 ub
        rw [φf] at e
        exact hab (by rw [List.append_cancel_left e])
      · rw [φe b ub] at e
        exact hLg b hb (by rw [← e]; exact un_app g ra)
    · rw [φe a ua] at e
      by_cases ub : Un f b
      · obtain ⟨rb, rfl⟩ := un_iff.1 ub
        rw [φf] at e
        exact hLg a ha (by rw [e]; exact un_app g rb)
      · rw [φe b ub] at e
        exact hab e
  · rw [List.mem_map]
    constructor
    · rintro ⟨q, hq, rfl⟩
      obtain ⟨q0, q1⟩ := (h2 q).1 hq
      by_cases u : Un f q
      · obtain ⟨r, rfl⟩ := un_iff.1 u
        rw [φf, hat]
        exact ⟨by simp [hg0], q1⟩
      · rw [φe q u, hel q (hLg q hq) u]
        exact ⟨q0, q1⟩
    · rintro ⟨p0, p1⟩
      by_cases ug : Un g p
      · obtain ⟨r, rfl⟩ := un_iff.1 ug
        rw [hat] at p1
        exact ⟨f ++ r, (h2 _).2 ⟨by simp [hf0], p1⟩, φf r⟩
      · by_cases uf : Un f p
        · rw [hno p ug uf] at p1; cases p1
        · rw [hel p ug uf] at p1
          exact ⟨p, (h2 p).2 ⟨p0, p1⟩, φe p uf⟩
  · by_cases ug : Un g p
    · obtain ⟨r, rfl⟩ := un_iff.1 ug
      rw [hat] at hp
      have := h.dp _ hp
      simp at this ⊢
      omega
    · by_cases uf : Un f p
      · rw [hno p ug uf] at hp; cases hp
      · rw [hel p ug uf] at hp
        have := h.dp p hp
        omega
theorem setN_some {F : Pth → Option Nd} {p : Pth} {nd nd' : Nd} (h : F p = some nd) (q : Pth) : (setN F p (some nd') q).isSome = (F q).isSome := by
  by_cases e : q = p
  · rw [e, setN_same, h]; rfl
  · rw [setN_other _ _ e]
theorem Cn.mov {T : Ts} {n : Int} {M : Nat} {f g : Pth} (h : Cn T n M) (hf0 : ¬ f = []) (hg0 : ¬ g = []) (hng : ∀ q, (T.F q).isSome = true → ¬ Un g q) (hfg : ¬ Un f g) (hg8 : g.length ≤ 8) : Cn (movR T f g).2 n (M + 8) := by
  unfold movR
  split
  · rename_i sf kf sg kg e1 e2
    split
    · exact h.graft hf0 hg0 hng hfg hg8 _ (setN_some e2) rfl rfl
    · rename_i hne
      split
      · exact h.more (by omega)
      · refine h.graft hf0 hg0 hng hfg hg8 _ (fun p => ?_) rfl rfl
        rw [setN_some (nd := .dir sg kg) (by rw [setN_other _ _ (fun e => hne e.symm)]; exact e2), setN_some e1]
  · exact h.more (by omega)
theorem Cn.goneT {T : Ts} {n : Int} {M : Nat} {ns : Pth} (h : Cn T n M) (h0 : ¬ ns = []) {nd : Nd} (hn : T.F ns = some nd) {s : Nat} {kn : List ByteArray} (hd : T.F ns.dropLast = some (.dir s kn)) : Cn (goneT T ns) n M ∧ ∀ p, ((Go.Proofs.YtlnjnimenihhnaaGreatDoor.goneT T ns).F p).isSome = (!decide (p = ns) && (T.F p).isSome) := by
  have e : Go.Proofs.YtlnjnimenihhnaaGreatDoor.goneT T ns = ⟨setN (setN T.F ns.dropLast (some (.dir s (dele kn (lastN ns))))) ns none, T.bl + nd.blk, T.ino + 1⟩ := by
    unfold Go.Proofs.YtlnjnimenihhnaaGreatDoor.goneT; rw [hn, hd]
  have hF : ∀ p, ((Go.Proofs.YtlnjnimenihhnaaGreatDoor.goneT T ns).F p).isSome = (!decide (p = ns) && (T.F p).isSome) := fun p => by
    rw [e]
    show (setN _ ns none p).isSome = _
    by_cases e2 : p = ns
    · rw [e2, setN_same]; simp
    · rw [setN_other _ _ e2, setN_some hd]; simp [e2]
  exact ⟨h.gone h0 (by rw [hn]; rfl) hF (by rw [e]), hF⟩
theorem drop_dir {T : Ts} (hG : Gd T) {p : Pth} (h0 : ¬ p = []) (hp : (T.F p).isSome = true) : ∃ s kn, T.F p.dropLast = some (.dir s kn) := by
  rw [pth_split h0] at hp
  obtain ⟨s, kn, h, _⟩ := hG.up _ _ hp
  exact ⟨s, kn, h⟩
theorem Cn.ren {T : Ts} {n : Int} {M : Nat} (hG : Gd T) (h : Cn T n M) (a b : ByteArray) : Cn (renR T a b).2 n (M + 8) := by
  have hs : Cn T n (M + 8) := h.more (by omega)
  unfold renR
  split
  · exact hs
  split
  · exact hs
  rename_i h2
  split
  · exact hs
  split
  · exact hs
  rename_i h4
  split
  · exact hs
  rename_i h5
  have f0 : ¬ spN a = [] := fun e => h5 (.inl e)
  have g0 : ¬ spN b = [] := fun e => h5 (.inr e)
  have g8 : (spN b).length ≤ 8 := (spN_all (by simpa using h2)).2
  split
  · exact hs
  split
  · exact hs
  split
  · exact hs
  rename_i h8
  split
  · rename_i h10
    obtain ⟨ng, hng⟩ := Option.isSome_iff_exists.1 h10
    obtain ⟨s, kn, hd⟩ := drop_dir hG g0 h10
    have GO : (∀ nm, ¬ ng.has nm) → Cn (movR (Go.Proofs.YtlnjnimenihhnaaGreatDoor.goneT T (spN b)) (spN a) (spN b)).2 n (M + 8) := fun hl => by
      obtain ⟨c1, c2⟩ := h.goneT g0 hng hd
      refine c1.mov f0 g0 (fun q hq hu => ?_) h8 g8
      rw [c2] at hq
      simp at hq
      obtain ⟨r, rfl⟩ := un_iff.1 hu
      cases r with
      | nil => exact hq.1 (by simp)
      | cons x r =>
        have e1 : spN b ++ x :: r = (spN b ++ [x]) ++ r := by simp
        have h9 := hG.pre (spN b ++ [x]) _ r rfl (by rw [← e1]; simp [hq.2])
        obtain ⟨s', k', h11, h12⟩ := hG.up _ _ h9
        rw [hng] at h11; cases h11
        exact hl x h12
    unfold repR
    split
    · exact hs
    · exact hs
    · rename_i e1 e2
      split
      · rename_i hk
        rw [hng] at e2; cases e2
        exact GO (fun nm hm => by subst hk; cases hm)
      · exact hs
    · rename_i e1 e2
      rw [hng] at e2; cases e2
      exact GO (fun nm hm => hm)
    · exact hs
  · rename_i h10
    exact h.mov f0 g0 (fun q hq hu => h10 (hG.un hu hq)) h8 g8
theorem Cn.addR {T : Ts} {n : Int} {M : Nat} (h : Cn T n M) (ns : Pth) (nd0 : Nd) (h0 : ∃ s k, T.F [] = some (.dir s k)) (h8 : ns.length ≤ 8) : Cn (addR T ns nd0).2 n (M + 8) := by
  have hs : Cn T n (M + 8) := h.more (by omega)
  unfold Go.Proofs.YtlnjnimenihhnaaGreatDoor.addR
  split
  · exact hs
  · rename_i e1 e2
    split
    · exact hs
    · have hne : ¬ ns = [] := fun e => by obtain ⟨s, k, h0⟩ := h0; rw [e, h0] at e1; cases e1
      refine hs.add hne e1 (by omega) (fun p => ?_) rfl
      show (setN _ ns (some nd0) p).isSome = _
      by_cases e : p = ns
      · rw [e, setN_same]; simp
      · rw [setN_other _ _ e, setN_some e2]; simp [e]
  · exact hs
theorem Cn.do_ {T : Ts} {n : Int} {M : Nat} (hG : Gd T) (h : Cn T n M) (o : Ac) : Cn (doR T o).2 n (M + 8) := by
  have hs : Cn T n (M + 8) := h.more (by omega)
  unfold doR
  split
  · exact hs
  split
  · exact h.ren hG _ _
  split
  · exact hs
  rename_i hfi
  have h8 : (spN o.p).length ≤ 8 := by
    refine (spN_all ?_).2
    unfold fiE at hfi
    by_cases e : spE o.p = 0
    · exact e
    · rw [if_neg e] at hfi; exact absurd e hfi
  have hgo : ∀ nd, T.F (spN o.p) = some nd → ¬ spN o.p = [] → Cn (Go.Proofs.YtlnjnimenihhnaaGreatDoor.goneT T (spN o.p)) n (M + 8) := fun nd hnd h0 => by
    obtain ⟨s, kn, hd⟩ := drop_dir hG h0 (by rw [hnd]; rfl)
    exact ((h.goneT h0 hnd hd).1).more (by omega)
  split
  · exact h.addR _ _ hG.rdir h8
  split
  · exact h.addR _ _ hG.rdir h8
  split
  · unfold extR
    split
    · exact hs
    · exact hs
    · rename_i e1
      split
      · exact hs
      · split
        · exact hs
        · exact hs.same (setN_some e1) rfl
  split
  · unfold cutR
    split
    · exact hs
    · exact hs
    · rename_i e1
      split
      · exact hs.same (setN_some e1) rfl
      · exact hs
  split
  · unfold unlR
    split
    · exact hs
    · exact hs
    · rename_i e1
      refine hgo _ e1 (fun e => ?_)
      obtain ⟨s, k, h0⟩ := hG.rdir
      rw [e, h0] at e1; cases e1
  · unfold rmdR
    split
    · exact hs
    · exact hs
    · rename_i e1
      split
      · exact hs
      · rename_i hb
        exact hgo _ e1 (fun e => hb (.inl e))
theorem Cn.start (b i : Int) : Cn (tr0 b i) i 0 := by
  have hF : ∀ p : Pth, ((tr0 b i).F p).isSome = true → p = [] := fun p hp => by
    by_cases e : p = []
    · exact e
    · simp [tr0, e] at hp
  refine ⟨⟨[], List.nodup_nil, fun p => ?_, by simp [tr0]⟩, fun p hp => by rw [hF p hp]; exact Nat.le_refl _⟩
  constructor
  · intro h; cases h
  · rintro ⟨h1, h2⟩; exact absurd (hF p h2) h1
end Go.Proofs.YtlnjnimenihhnaaGreatDoor

namespace Go.Proofs.YtlnjnimenihhnaaGreatDoor
open Go.RowKit Go.Maps Go.Sort

theorem nodup_fm {α β : Type} (f : α → List β) : ∀ l : List α, l.Nodup → (∀ x ∈ l, (f x).Nodup) → (∀ a b, ¬ a = b → ∀ q, q ∈ f a → q ∈ f b → False) → (l.flatMap f).Nodup
  | [], _, _, _ => List.nodup_nil
  | x :: l, hl, hf, hd => by
    have hl2 := List.nodup_cons.1 hl
    rw [List.flatMap_cons]
    refine List.pairwise_append.2 ⟨hf x List.mem_cons_self, nodup_fm f l hl2.2 (fun y hy => hf y (List.mem_cons_of_mem _ hy)) hd, fun a ha b hb e => ?_⟩
    obtain ⟨y, hy, hb⟩ := List.mem_flatMap.1 hb
    subst e
    exact hd x y (fun e => hl2.1 (e ▸ hy)) a ha hb
theorem nmL_mem' {kn : List ByteArray} {x : ByteArray} (h : x ∈ kn) : x.data.toList ∈ nmL kn := by
  unfold nmL
  exact (List.mergeSort_perm _ _).mem_iff.2 (List.mem_map.2 ⟨x, h, rfl⟩)
theorem nmL_nodup {kn : List ByteArray} (h : kn.Nodup) : (nmL kn).Nodup := by
  unfold nmL
  refine (List.mergeSort_perm _ _).nodup_iff.2 ?_
  exact List.Pairwise.map _ (fun a b hab e => hab (toList_inj e)) h
def txt (at' : ByteArray) (r : Pth) : ByteArray := r.foldl (fun a x => a ++ ⟨#[47]⟩ ++ x) at'
theorem txt_list : ∀ (r : Pth) (at' : ByteArray), (txt at' r).data.toList = at'.data.toList ++ r.flatMap (fun x => 47 :: x.data.toList)
  | [], at' => by simp [txt]
  | x :: r, at' => by
    have := txt_list r (at' ++ ⟨#[47]⟩ ++ x)
    unfold txt at this ⊢
    rw [List.foldl_cons, this]
    simp
theorem no47 {x : ByteArray} (h : nameB x = true) : ∀ c ∈ x.data.toList, ¬ c = 47 := fun c hc e => by
  have := List.all_eq_true.1 (nameB_parts h).2.2.2.2 c hc
  subst e
  exact absurd this (by decide)
theorem cut47 : ∀ (a b c d : List UInt8), (∀ x ∈ a, ¬ x = 47) → (∀ x ∈ b, ¬ x = 47) → (c = [] ∨ ∃ c', c = 47 :: c') → (d = [] ∨ ∃ d', d = 47 :: d') → a ++ c = b ++ d → a = b ∧ c = d
  | [], [], _, _, _, _, _, _, h => ⟨rfl, h⟩
  | [], y :: b, c, d, _, hb, hc, _, h => by
    rcases hc with rfl | ⟨c', rfl⟩
    · cases h
    · injection h with h1 h2
      exact absurd h1.symm (hb y List.mem_cons_self)
  | x :: a, [], c, d, ha, _, _, hd, h => by
    rcases hd with rfl | ⟨d', rfl⟩
    · cases h
    · injection h with h1 h2
      exact absurd h1 (ha x List.mem_cons_self)
  | x :: a, y :: b, c, d, ha, hb, hc, hd, h => by
    injection h with h1 h2
    obtain ⟨h3, h4⟩ := cut47 a b c d (fun z hz => ha z (List.mem_cons_of_mem _ hz)) (fun z hz => hb z (List.mem_cons_of_mem _ hz)) hc hd h2
    exact ⟨by rw [h1, h3], h4⟩
theorem fm47 (r : Pth) : (r.flatMap fun x => (47 : UInt8) :: x.data.toList) = [] ∨ ∃ c', (r.flatMap fun x => (47 : UInt8) :: x.data.toList) = 47 :: c' := by
  cases r with
  | nil => exact .inl rfl
  | cons x r => exact .inr ⟨_, by rw [List.flatMap_cons, List.cons_append]⟩
theorem fm_inj : ∀ (r s : Pth), (∀ x ∈ r, nameB x = true) → (∀ x ∈ s, nameB x = true) → (r.flatMap fun x => (47 : UInt8) :: x.data.toList) = (s.flatMap fun x => 47 :: x.data.toList) → r = s
  | [], [], _, _, _ => rfl
  | [], y :: s, _, _, h => by rw [List.flatMap_cons, List.cons_append] at h; cases h
  | x :: r, [], _, _, h => by rw [List.flatMap_cons, List.cons_append] at h; cases h
  | x :: r, y :: s, hr, hs, h => by
    rw [List.flatMap_cons, List.flatMap_cons, List.cons_append, List.cons_append] at h
    injection h with _ h
    obtain ⟨h1, h2⟩ := cut47 _ _ _ _ (no47 (hr x List.mem_cons_self)) (no47 (hs y List.mem_cons_self)) (fm47 r) (fm47 s) h
    rw [toList_inj h1, fm_inj r s (fun z hz => hr z (List.mem_cons_of_mem _ hz)) (fun z hz => hs z (List.mem_cons_of_mem _ hz)) h2]
theorem txt_inj {r s : Pth} (hr : ∀ x ∈ r, nameB x = true) (hs : ∀ x ∈ s, nameB x = true) (h : txt ⟨#[]⟩ r = txt ⟨#[]⟩ s) : r = s := by
  have := congrArg (fun b : ByteArray => b.data.toList) h
  simp only [txt_list] at this
  exact fm_inj r s hr hs (by simpa using this)
section
variable {T : Ts}
theorem rows_path (hG : Gd T) : ∀ (d : Nat) (p : Pth) (at' : ByteArray) (y : ByteArray × Pth), y ∈ rowsP T.F d p at' → ∃ x r, y.2 = p ++ x :: r ∧ y.1 = txt at' (x :: r) ∧ (∀ z ∈ x :: r, nameB z = true) ∧ (T.F y.2).isSome = true
  | 0, _, _, _, h => by cases h
  | d + 1, p, at', y, h => by
    rw [rowsP_succ] at h
    obtain ⟨x, hx, hy⟩ := List.mem_flatMap.1 h
    obtain ⟨s, kn, e, hxk⟩ : ∃ s kn, T.F p = some (.dir s kn) ∧ nmX x ∈ kn := by
      unfold nmOf at hx
      cases e : T.F p with
      | none => rw [e] at hx; cases hx
      | some nd =>
        cases nd with
        | file bs => rw [e] at hx; cases hx
        | dir s kn => rw [e] at hx; exact ⟨s, kn, rfl, nmL_mem hx⟩
    have hn := (hG.nms p s kn e).2.1 _ hxk
    rcases List.mem_cons.1 hy with rfl | hy
    · exact ⟨nmX x, [], rfl, rfl, fun z hz => by rw [List.mem_singleton.1 hz]; exact hn, hG.dn p s kn _ e hxk⟩
    · obtain ⟨x2, r, h1, h2, h3, h4⟩ := rows_path hG d _ _ y hy
      refine ⟨nmX x, x2 :: r, by rw [h1]; simp, by rw [h2]; rfl, fun z hz => ?_, h4⟩
      rcases List.mem_cons.1 hz with rfl | hz
      · exact hn
      · exact h3 z hz
theorem rows_all (hG : Gd T) : ∀ (d : Nat) (p : Pth) (at' : ByteArray) (x : ByteArray) (r : Pth), (T.F (p ++ x :: r)).isSome = true → r.length + 1 ≤ d → ∃ y ∈ rowsP T.F d p at', y.2 = p ++ x :: r
  | 0, _, _, _, _, _, h => by omega
  | d + 1, p, at', x, r, hs, hl => by
    have e1 : p ++ x :: r = (p ++ [x]) ++ r := by simp
    have hx : (T.F (p ++ [x])).isSome = true := hG.pre (p ++ [x]) _ r rfl (by rw [← e1]; exact hs)
    obtain ⟨s, kn, h1, h2⟩ := hG.up p x hx
    have hm : x.data.toList ∈ nmOf T.F p := by unfold nmOf; rw [h1]; exact nmL_mem' h2
    rw [rowsP_succ]
    cases r with
    | nil => exact ⟨_, List.mem_flatMap.2 ⟨_, hm, List.mem_cons_self⟩, rfl⟩
    | cons x2 r =>
      obtain ⟨y, hy, e⟩ := rows_all hG d (p ++ [nmX x.data.toList]) (joinT at' x.data.toList) x2 r (by rw [e1] at hs; exact hs) (by simp at hl; omega)
      exact ⟨y, List.mem_flatMap.2 ⟨_, hm, List.mem_cons_of_mem _ hy⟩, by rw [e, e1]⟩
theorem rows_nodup (hG : Gd T) : ∀ (d : Nat) (p : Pth) (at' : ByteArray), ((rowsP T.F d p at').map Prod.snd).Nodup
  | 0, _, _ => List.nodup_nil
  | d + 1, p, at' => by
    rw [rowsP_succ, List.map_flatMap]
    have hnd : (nmOf T.F p).Nodup := by
      unfold nmOf
      split
      · rename_i s kn e; exact nmL_nodup (hG.nms _ _ _ e).1
      · exact List.nodup_nil
    have pre : ∀ x q, q ∈ ((joinT at' x, p ++ [nmX x]) :: rowsP T.F d (p ++ [nmX x]) (joinT at' x)).map Prod.snd → ∃ r, q = p ++ nmX x :: r := fun x q hq => by
      rw [List.map_cons] at hq
      rcases List.mem_cons.1 hq with rfl | hq
      · exact ⟨[], rfl⟩
      · obtain ⟨y, hy, rfl⟩ := List.mem_map.1 hq
        obtain ⟨x2, r, h1, _⟩ := rows_path hG d _ _ y hy
        exact ⟨x2 :: r, by rw [h1]; simp⟩
    refine nodup_fm _ _ hnd (fun x _ => ?_) ?_
    · rw [List.map_cons]
      refine List.nodup_cons.2 ⟨fun h => ?_, rows_nodup hG d _ _⟩
      obtain ⟨y, hy, e⟩ := List.mem_map.1 h
      obtain ⟨x2, r, h1, _⟩ := rows_path hG d _ _ y hy
      rw [e] at h1
      have := congrArg List.length h1
      simp at this
    · intro a b hab q hqa hqb
      obtain ⟨r1, e1⟩ := pre a q hqa
      obtain ⟨r2, e2⟩ := pre b q hqb
      rw [e1] at e2
      have := List.append_cancel_left e2
      injection this with h1 _
      exact hab (by injection h1 with h2; injection h2)
theorem rows_count (hG : Gd T) {n : Int} {M : Nat} (h : Cn T n M) {d : Nat} (hd : M ≤ d) : T.ino + (rowsP T.F d [] ⟨#[]⟩).length = n := by
  obtain ⟨L, h1, h2, h3⟩ := h.ex
  have hr := rows_nodup hG d [] ⟨#[]⟩
  have e1 := nodup_le _ L hr h1 (fun q hq => by
    obtain ⟨y, hy, rfl⟩ := List.mem_map.1 hq
    obtain ⟨x, r, a1, _, _, a4⟩ := rows_path hG d _ _ y hy
    exact (h2 _).2 ⟨by rw [a1]; simp, a4⟩)
  have e2 := nodup_le L _ h1 hr (fun q hq => by
    obtain ⟨q0, q1⟩ := (h2 q).1 hq
    cases q with
    | nil => exact absurd rfl q0
    | cons x r =>
      have := h.dp _ q1
      obtain ⟨y, hy, e⟩ := rows_all hG d [] ⟨#[]⟩ x r q1 (by simp at this; omega)
      exact List.mem_map.2 ⟨y, hy, e⟩)
  rw [List.length_map] at e1 e2
  omega
end
end Go.Proofs.YtlnjnimenihhnaaGreatDoor

namespace Go.Proofs.YtlnjnimenihhnaaGreatDoor
open Go.RowKit Go.Maps Go.Sort Go.Shelf

/-- A row of stops, read. -/
theorem own_stop {N n : Nat} {W : World} {a : Option Addr} {m c : Nat} {F : Pth → Option Nd} {rows : List (ByteArray × Pth)} (h : W.ownsRow N 147 4 (.slice a m c) n (rows.flatMap (stC F))) {i : Nat} {r : ByteArray × Pth} (hr : rows[i]? = some r) : ∃ g, a = some ⟨g, 0, none⟩ ∧ W.cell? ⟨g, i * 4, none⟩ = some (.string r.1) ∧ W.cell? ⟨g, i * 4 + 1, none⟩ = some (.bool (infD (F r.2)).1) ∧ W.cell? ⟨g, i * 4 + 2, none⟩ = some (.int .i64 (infD (F r.2)).2.1) ∧ W.cell? ⟨g, i * 4 + 3, none⟩ = some (.int .i64 (infD (F r.2)).2.2) := by
  have hi := (List.getElem?_eq_some_iff.1 hr).1
  have hl := h.1
  rw [stC_len] at hl
  rcases h.2 with ⟨_, e⟩ | ⟨g, cap, cur, e, hb, hg, hnc, hcm, hcs, htk⟩
  · omega
  · cases e
    refine ⟨g, rfl, ?_⟩
    have key : ∀ (l : List (ByteArray × Pth)) (i : Nat) (j : Nat), l[i]? = some r → j < 4 → (l.flatMap (stC F))[i * 4 + j]? = (stC F r)[j]? := by
      intro l
      induction l with
      | nil => intro i j h; cases h
      | cons x l ih =>
        intro i j h hj
        rw [List.flatMap_cons]
        cases i with
        | zero =>
          simp at h
          subst h
          rw [Nat.zero_mul, Nat.zero_add, List.getElem?_append_left (by simp [stC]; omega)]
        | succ i =>
          have e : (i + 1) * 4 + j = (stC F x).length + (i * 4 + j) := by simp [stC]; omega
          rw [e, List.getElem?_append_right (by omega), Nat.add_sub_cancel_left]
          exact ih i j (by simpa using h) hj
    have cell : ∀ j u, j < 4 → (stC F r)[j]? = some u → W.cell? ⟨g, i * 4 + j, none⟩ = some u := fun j u hj hu => by
      rw [cell_of_row _ _ _ _ _ _ hg]
      have h4 : (cur.toList.take (n * 4))[i * 4 + j]? = some u := by rw [htk, key rows i j hr hj, hu]
      rw [List.getElem?_take] at h4
      split at h4
      · simpa using h4
      · cases h4
    exact ⟨by have := cell 0 _ (by omega) rfl; simpa using this, cell 1 _ (by omega) rfl, cell 2 _ (by omega) rfl, cell 3 _ (by omega) rfl⟩
attribute [local go_sem] Oper.semAt_some
set_option maxHeartbeats 3200000 in
set_option maxRecDepth 100000 in
theorem Walk1_in (b N0 L n : Nat) (a : Option Addr) (c : Nat) (F : Pth → Option Nd) (rows : List (ByteArray × Pth)) (hn : rows.length = n) (hn2 : n ≤ 1000000) (J : Nat → World → Prop)
    (hJ : ∀ i W W', J i W → Below W.heap.size W W' → J i W')
    (hR : ∀ i W, J i W → W.cell? ⟨b, 0, none⟩ = some (.slice a n c) ∧ W.ownsRow N0 147 4 (.slice a n c) n (rows.flatMap (stC F)))
    (hY : ∀ m i r W, rows[i]? = some r → J i W → YieldAt Fence.wide m Tryz.prog L #[.string r.1, .agg #[.bool (infD (F r.2)).1, .int .i64 (infD (F r.2)).2.1, .int .i64 (infD (F r.2)).2.2]] W fun e W' => e = .returned (.bool true) ∧ J (i + 1) W')
    (W : World) (h0 : J 0 W) :
    Calls Tryz.prog 92 #[.func (.yield L) #[] #[], ptr b] W fun e W' => (∃ v, e = .returned v) ∧ J n W' := by
  have HJ : Hid (∀ i W W', J i W → Below W.heap.size W W' → J i W') := hJ
  have HR : Hid (∀ i W, J i W → W.cell? ⟨b, 0, none⟩ = some (.slice a n c) ∧ W.ownsRow N0 147 4 (.slice a n c) n (rows.flatMap (stC F))) := hR
  have HY : Hid (∀ m i r W, rows[i]? = some r → J i W → YieldAt Fence.wide m Tryz.prog L #[.string r.1, .agg #[.bool (infD (F r.2)).1, .int .i64 (infD (F r.2)).2.1, .int .i64 (infD (F r.2)).2.2]] W fun e W' => e = .returned (.bool true) ∧ J (i + 1) W') := hY
  have c1 := (hR 0 W h0).1
  clear hJ hR hY
  refine (callsIn_wide (n := 5)).1 (callsIn_of_wp Tryz.func92 rfl trivial ?_ rfl)
  simp only [Tryz.ntmps92, List.size_toArray, List.length_cons, List.length_nil, Nat.reduceAdd, Nat.reduceSub, Array.replicate_succ, Array.replicate_zero, List.push_toArray, List.append_toArray, List.nil_append, List.cons_append]
  gi_wp2_with fail
  gi_loopw [4, 7] (fun _ s7 wr => ∃ k : Nat, k ≤ n ∧ s7 = .int .i64 (k : Int) ∧ Hid (J k wr)) (fun _ s7 _ => n - (intOf s7).toNat)
  case atStart => exact ⟨0, by omega, rfl, h0⟩
  case round =>
    obtain ⟨k, hk, rfl, HS⟩ := hrel
    clear c1
    by_cases hlt : k < n
    · have q1 : (k : Int) < n := by omega
      obtain ⟨r, hr⟩ : ∃ r, rows[k]? = some r := ⟨_, List.getElem?_eq_getElem (by omega)⟩
      obtain ⟨g, rfl, c0, c1, c2, c3⟩ := own_stop (HR.out k wr HS.out).2 hr
      obtain ⟨Tx, Q⟩ := r
      obtain ⟨di, ni, ki, hinf⟩ : ∃ di ni ki, infD (F Q) = (di, ni, ki) := ⟨_, _, _, rfl⟩
      simp only [hinf] at c0 c1 c2 c3
      have BA := below_alloc wr (.cells #[.string Tx, .bool di, .int .i64 ni, .int .i64 ki] 147)
      have J2 := HJ.out k wr _ HS.out BA
      have hy0 := HY.out 4 k (Tx, Q) _ hr J2
      simp only [hinf] at hy0
      obtain ⟨fn, tmps, assign, body, hy, hR1⟩ := hy0
      clear BA J2
      gi_wp2_with fail
      refine hR1.mono ?_
      rintro e W3 ⟨rfl, J3⟩
      have HJ3 : Hid (J (k + 1) W3) := J3
      clear hR1 hy J3 c0 c1 c2 c3
      gi_wp2_with fail
      go_roundw
      case rel => exact ⟨k + 1, by omega, by go_num, HJ3.out⟩
      case measure => simp [intOf]; omega
    · have q1 : ¬ (k : Int) < n := by omega
      obtain rfl : k = n := by omega
      gi_wp2_with fail
      go_end0
      exact ⟨⟨_, rfl⟩, HS.out⟩
end Go.Proofs.YtlnjnimenihhnaaGreatDoor

namespace Go.Proofs.YtlnjnimenihhnaaGreatDoor
open Go.RowKit Go.Maps Go.Sort Go.Shelf

attribute [local go_sem] Oper.semAt_some
def appG := @Builtin.append_
theorem appG_eq : @Builtin.append_ = appG := rfl
attribute [local go_sem ↓] appG_eq
set_option maxHeartbeats 6400000 in
set_option maxRecDepth 100000 in
theorem Walk_any {t : Nat} {T : Ts} {A : Pth → Nat} {O : Nat → Option (Pth × Nat)} {K : Nat} (hK : K ≤ 100000) (w : World) (h : Tr w t T.F A O T.bl T.ino K) (d : Nat) (hd : ∀ r : Pth, d < r.length → T.F r = none) (hd2 : d ≤ 300000) (hlen : (rowsP T.F (d + 1) [] ⟨#[]⟩).length ≤ 1000000) :
    Calls Tryz.prog 71 #[ptr t] w fun e w' => ∃ b v, e = .returned (.func (.func 92) #[] #[ptr b]) ∧ Below w.heap.size w w' ∧ w.heap.size ≤ b ∧ w'.heap[b]? = some (.cells #[v] 142 (0, 0)) ∧ w'.ownsRow w.heap.size 147 4 v (rowsP T.F (d + 1) [] ⟨#[]⟩).length ((rowsP T.F (d + 1) [] ⟨#[]⟩).flatMap (stC T.F)) := by
  have HH : Hid (Tr w t T.F A O T.bl T.ino K ∧ ∀ r : Pth, d < r.length → T.F r = none) := ⟨h, hd⟩
  have hmf : ∀ (fn : Fn) (first cap : Array Value) (w : World), (Instr.makeFunc fn first cap).run Tryz.prog w = .ok (.func fn first cap) w := fun _ _ _ _ => rfl
  clear h hd
  refine (callsIn_wide (n := 5)).1 (callsIn_of_wp_marks Tryz.func71 rfl trivial ?_ rfl)
  simp only [Tryz.ntmps71, List.size_toArray, List.length_cons, List.length_nil, Nat.reduceAdd, Nat.reduceSub, Array.replicate_succ, Array.replicate_zero, List.push_toArray, List.append_toArray, List.nil_append, List.cons_append]
  gi_wp2_with fail
  refine ⟨trivial, (callsIn_wide.2 (below_any _ _ _)).mono ?_⟩
  rintro e W3 ⟨rfl, hW3⟩
  have HW3 : Hid (W3 = _) := hW3
  clear hW3
  gi_wp2_with fail
  refine range_any rfl (fun _ _ => by kernel_rfl) (by omega) ?_
  intro fn rec hrec
  have HREC : Hid (∀ st, rec st = _) := hrec
  clear hrec
  have hW3 := HW3.out
  have z3 : W3.heap.size = w.heap.size + 3 := by rw [hW3]; simp
  obtain ⟨D, hD⟩ : ∃ D, W3.heap.size = D := ⟨_, rfl⟩
  obtain ⟨W5, hW5⟩ : ∃ W5, (W3.alloc (.deferred (some []))).alloc (.loop (rec .ready)) = W5 := ⟨_, rfl⟩
  rw [hD, hW5]
  have Ba := below_alloc w (.cells #[.slice none 0 0] 142)
  have Bb := below_alloc (w.alloc (.cells #[.slice none 0 0] 142)) (.cells #[ptr t] 57)
  have Bc := below_alloc ((w.alloc (.cells #[.slice none 0 0] 142)).alloc (.cells #[ptr t] 57)) (.cells #[.string ⟨#[]⟩] 9)
  have B35 : Below W3.heap.size W3 W5 := by rw [← hW5]; exact (below_alloc _ _).trans ((below_alloc _ _).mono (below_alloc _ _).size)
  have z5 : W5.heap.size = D + 2 := by rw [← hW5]; simp [hD]
  have b0 : W5.heap[w.heap.size]? = some (.cells #[.slice none 0 0] 142 (0, 0)) := by
    rw [B35.block _ (by omega), hW3, Bc.block _ (by simp; omega), Bb.block _ (by simp)]
    exact heap_alloc_new _ _
  have b1 : W5.heap[w.heap.size + 1]? = some (.cells #[ptr t] 57) := by
    rw [B35.block _ (by omega), hW3, Bc.block _ (by simp)]
    have := heap_alloc_new (w.alloc (.cells #[.slice none 0 0] 142)) (.cells #[ptr t] 57)
    simpa using this
  have b2 : W5.heap[w.heap.size + 2]? = some (.cells #[.string ⟨#[]⟩] 9) := by
    rw [B35.block _ (by omega), hW3]
    have := heap_alloc_new ((w.alloc (.cells #[.slice none 0 0] 142)).alloc (.cells #[ptr t] 57)) (.cells #[.string ⟨#[]⟩] 9)
    simpa using this
  have bD : W5.heap[D]? = some (.deferred (some [])) := by
    rw [← hW5]
    exact ((below_alloc (W3.alloc (.deferred (some []))) _).block _ (by simp [hD])).trans (by rw [← hD]; exact heap_alloc_new _ _)
  have bL : W5.heap[D + 1]? = some (.loop (rec .ready)) := by
    rw [← hW5]
    have := heap_alloc_new (W3.alloc (.deferred (some []))) (.loop (rec .ready))
    simpa [hD] using this
  have Bw5 : Below w.heap.size w W5 := by
    refine Below.trans ?_ (B35.mono (by omega))
    rw [hW3]
    exact Ba.trans ((Bb.mono Ba.size).trans (Bc.mono (by simp; omega)))
  obtain ⟨rows, hrows⟩ : ∃ rows, rowsP T.F (d + 1) [] ⟨#[]⟩ = rows := ⟨_, rfl⟩
  have hG := HH.out.1.good
  have hmem : ∀ y ∈ rows, ∃ nd, T.F y.2 = some nd := fun y hy => by rw [← hrows] at hy; exact rowsP_mem hG _ _ _ y hy
  obtain ⟨s0, n0, hr0⟩ := HH.out.1.rdir
  rw [hrows] at hlen
  have J0 : WkJ w W5 D (.loop (rec .ready)) t 0 rows T.F W5 := ⟨Bw5, bL, bD, b1, b2, Nat.le_refl _, .slice none 0 0, b0, World.ownsRow_nil _ _ _ _⟩
  have hroot := HH.out.1.root
  have ih := below_all (t := t) (F := T.F) (A := A) (O := O) (bl := T.bl) (ino := T.ino) hK d [] _ ⟨#[]⟩ (w.heap.size + 1) (w.heap.size + 1 + 1) (D + 1) W5.heap.size (fun i Wx => WkJ w W5 D (.loop (rec .ready)) t i rows T.F Wx) W5 hr0
    (fun r hr => by rw [List.nil_append]; exact HH.out.2 r hr) (by show (0 : Nat) + 300 * (d + 1) ≤ 100000000; omega)
    (fun i Wx Wy h hc => h.chw hc (by omega) (by omega))
    (fun i Wx h => ⟨h.size, HH.out.1.below h.bel, by rw [cell_of_row _ _ _ _ _ _ h.b1, hroot]; rfl, by rw [cell_of_row _ _ _ _ _ _ h.b2]; rfl⟩) ?hy rfl J0
  case hy =>
    rintro m i y Wx hyr hJ
    rw [hrows] at hyr
    obtain ⟨nd, hnd⟩ := hmem y (List.mem_of_getElem? hyr)
    have hi : i ≤ 1000000 := by have := (List.getElem?_eq_some_iff.1 hyr).1; omega
    have HWM := fun w5 hB ty => wk_more (r2 := rec .busy) (r3 := rec .ready) (w5 := w5) hJ (by omega) (by omega) hyr hnd hi hB ty
    obtain ⟨v0, r1, r2⟩ := hJ.row
    obtain ⟨a, c, rfl⟩ := own_sl4 r2
    have hlp := hJ.lp
    have hzo : ∀ k, ¬ k = D + 1 → (Wx.putObj (D + 1) (.loop (rec .busy))).heap[k]? = Wx.heap[k]? := fun k hk => World.putObj_heap_other hk
    have hTz : Tr (Wx.putObj (D + 1) (.loop (rec .busy))) t T.F A O T.bl T.ino K := HH.out.1.below ⟨hJ.bel.os, hJ.bel.tape, hJ.bel.output, by have := hJ.bel.size; simpa [World.putObj] using this, fun k hk => (hzo k (by omega)).trans (hJ.bel.block k hk)⟩
    obtain ⟨di, ni, ki, hinf⟩ : ∃ di ni ki, infD (some nd) = (di, ni, ki) := ⟨_, _, _, rfl⟩
    have hin := infD_inf nd
    rw [hinf] at hin HWM
    simp only at hin HWM
    obtain ⟨Tx, Q⟩ := y
    simp only at hnd HWM
    refine yield_any HREC.out hlp rfl ?_
    obtain ⟨Wz, hWz⟩ : ∃ Wz, Wx.putObj (D + 1) (.loop (rec .busy)) = Wz := ⟨_, rfl⟩
    rw [hWz] at hTz HWM
    have cz : Wz.cell? ⟨w.heap.size, 0, none⟩ = some (.slice a i c) := by
      rw [cell_of_row _ _ _ _ _ _ ((show Wz.heap[w.heap.size]? = Wx.heap[w.heap.size]? by rw [← hWz]; exact hzo _ (by omega)).trans r1)]; rfl
    have HI : ∀ wb, Hid (Below Wz.heap.size Wz wb) → Hid (Calls Tryz.prog 73 #[ptr (A Q)] wb fun e w' => e = .returned (.agg #[.bool di, .int .i64 ni, .int .i64 ki]) ∧ ∃ a' c' w6, w'.cell? ⟨w.heap.size, 0, none⟩ = some (.slice a i c) ∧ (w'.alloc (.cells #[.string Tx, .bool di, .int .i64 ni, .int .i64 ki] 147)).cell? ⟨w.heap.size, 0, none⟩ = some (.slice a i c) ∧ (appG #[142, 142] 142 #[.slice a i c, .slice (some ⟨w'.heap.size, 0, none⟩) 1 1]).run Tryz.prog (w'.alloc (.cells #[.string Tx, .bool di, .int .i64 ni, .int .i64 ki] 147)) = .ok (.slice a' (i + 1) c') w6 ∧ w6.cell? ⟨w.heap.size, 0, none⟩ = some (.slice a i c) ∧ w6.frozen? ⟨w.heap.size, 0, none⟩ = false ∧ Hid (∀ w7, w6.setCell ⟨w.heap.size, 0, none⟩ (.slice a' (i + 1) c') = w7 → w7.heap[D + 1]? = some (.loop (rec .busy)) ∧ WkJ w W5 D (.loop (rec .ready)) t (i + 1) rows T.F (w7.putObj (D + 1) (.loop (rec .ready))) ∧ Kpy W5.heap.size Wx (w7.putObj (D + 1) (.loop (rec .ready))))) := fun wb hb => by
      refine ((hTz.below hb.out).info hnd).mono ?_
      rintro e w' ⟨rfl, B⟩
      have BB := hb.out.trans (B.mono hb.out.size)
      obtain ⟨a2, c2, a', c', w6, e1, e2, e3, e4, e5⟩ := HWM w' BB 142
      have c5 := (Chg.ofBelowC BB).cell cz (fun h => h)
      rw [c5] at e1
      cases e1
      exact ⟨by rw [hin], a', c', w6, c5, (Chg.ofBelowC (below_alloc w' _)).cell c5 (fun h => h), e2, e3, e4, e5⟩
    have D0 : ∀ k, Hid (Below Wz.heap.size Wz (Wz.drewN k).drew) := fun k => ⟨rfl, rfl, rfl, Nat.le_refl _, fun _ _ => rfl⟩
    have D9 : ∀ k, Hid (Below Wz.heap.size Wz (Wz.drewN k)) := fun k => ⟨rfl, rfl, rfl, Nat.le_refl _, fun _ _ => rfl⟩
    have D1 : Hid (Below Wz.heap.size Wz Wz.drew) := ⟨rfl, rfl, rfl, Nat.le_refl _, fun _ _ => rfl⟩
    have HZ5 : Hid (W5.heap.size = D + 2) := z5
    gi_wp2_with fail
    clear HREC HWM hTz hzo r1 r2 hJ hlp hWz hyr hnd hmem b0 b1 b2 bD bL Bw5 B35 Ba Bb Bc J0 hG hr0 hroot hlen hrows HH HW3 hW3 hW5 hD hin hinf z5
    gi_region_with (first | (refine ⟨trivial, (fun h => by cases h), ((callsIn_wide.2 (HI _ (by first | exact D1 | exact D0 _ | exact D9 _)).out).inRound _).mono ?_⟩; clear HI; rintro e w5 ⟨rfl, a', c', w6, d5, d5a, hr, d6, f6, H7⟩))
    all_goals
      have HE := H7.out _ rfl
      rw [HZ5.out] at HE
      have HE2 : Hid _ := HE
      clear HE H7 hr d5 d5a d6 f6 cz D0 D9 D1
      gi_wp2_with fail
      exact HE2.out
  refine (show CallsIn Fence.wide (5 - 1) Tryz.prog 101 #[.func (.yield (D + 1)) #[] #[], .pointer (some ⟨w.heap.size + 1, 0, none⟩), .pointer (some ⟨w.heap.size + 1 + 1, 0, none⟩)] W5 _ from callsIn_wide.2 ih).mono ?_
  rintro e W7 ⟨⟨v, rfl⟩, hJ, hz7⟩
  refine ⟨⟨v, rfl⟩, hJ.lp, ?_⟩
  obtain ⟨W8, hW8⟩ : ∃ W8, W7.putObj (D + 1) (.loop (rec .exhausted)) = W8 := ⟨_, rfl⟩
  rw [hW8]
  have hlp := hJ.lp
  have c8 : Chw (D + 1) W7 W8 := by rw [← hW8]; exact Chw.put hlp (Nat.le_refl _) _
  have hvo : ∀ j, ¬ j = D + 1 → W8.heap[j]? = W7.heap[j]? := fun j h => by rw [← hW8]; exact World.putObj_heap_other h
  have hvs : W8.heap.size = W7.heap.size := by rw [← hW8]; simp [World.putObj]
  obtain ⟨v7, r1, r2⟩ := hJ.row
  have H8 : Hid (W8.heap[D]? = some (.deferred (some [])) ∧ Below w.heap.size w W8 ∧ W8.heap[w.heap.size]? = some (.cells #[v7] 142 (0, 0)) ∧ W8.ownsRow W5.heap.size 147 4 v7 rows.length (rows.flatMap (stC T.F)) ∧ D = w.heap.size + 3 ∧ W5.heap.size = D + 2) := by
    have o8 := own_chw r2 c8
    rw [hrows] at o8
    rw [List.take_length] at o8
    exact ⟨(hvo _ (by omega)).trans hJ.df, ⟨c8.os.trans hJ.bel.os, c8.tape.trans hJ.bel.tape, c8.output.trans hJ.bel.output, by have := hJ.bel.size; omega, fun k hk => (hvo k (by omega)).trans (hJ.bel.block k hk)⟩, (hvo _ (by omega)).trans r1, o8, by omega, z5⟩
  have HR : Hid (rowsP T.F (d + 1) [] ⟨#[]⟩ = rows) := hrows
  clear ih hW8 hlp c8 hvo hvs r1 r2 hJ hmem b0 b1 b2 bD bL Bw5 B35 Ba Bb Bc J0 hG hr0 hroot hlen hrows HH HW3 hW3 hW5 hD HREC hz7 z3
  gi_wp2_with fail
  show LeavesInM _ _ _ _ _ _ _ _ _
  refine leaves_marks [D] W8 (List.nodup_cons.2 ⟨(fun h => by cases h), List.nodup_nil⟩) (fun E hE => ?_) (fun W' e1 e2 e3 e4 e5 => ?_)
  · obtain rfl : E = D := by simpa using hE
    exact H8.out.1
  · obtain ⟨q1, q2, q3, q4, q5, q6⟩ := H8.out
    have e6 : ∀ k, ¬ k = D → W'.heap[k]? = W8.heap[k]? := fun k hk => e5 k (by simpa using hk)
    refine ⟨_, by simp [results, Tryz.f71, go_sem], w.heap.size, v7, rfl, ⟨e2.trans q2.os, e3.trans q2.tape, e4.trans q2.output, by have := q2.size; omega, fun k hk => (e6 k (by omega)).trans (q2.block k hk)⟩, Nat.le_refl _, (e6 _ (by omega)).trans q3, ?_⟩
    rw [HR.out]
    refine ⟨q4.1, ?_⟩
    rcases q4.2 with h | ⟨g, cap, cur, e, p1, p2, p3⟩
    · exact .inl h
    · exact .inr ⟨g, cap, cur, e, by omega, (e6 g (by omega)).trans p2, p3⟩
end Go.Proofs.YtlnjnimenihhnaaGreatDoor

namespace Go.Proofs.YtlnjnimenihhnaaGreatDoor
open Go.RowKit Go.Maps Go.Sort

abbrev iBx (n : Int) : Obj := .cells #[.int .i64 n] 3 (0, 0)
abbrev sBx (s : ByteArray) : Obj := .cells #[.string s] 9 (0, 0)
/-- Directories and files counted, the last text. -/
structure LsJ (W5 : World) (b0 D : Nat) (ob : Obj) (rows : List (ByteArray × Pth)) (i : Nat) (W : World) : Prop where
  chg : Chg (fun k => k = b0 ∨ k = b0 + 1 ∨ k = b0 + 1 + 1 ∨ k = D + 1) W5 W
  lp : W.heap[D + 1]? = some ob
  cn : ∃ (dn fn : Nat) (s : ByteArray), W.heap[b0]? = some (iBx dn) ∧ W.heap[b0 + 1]? = some (iBx fn) ∧ W.heap[b0 + 1 + 1]? = some (sBx s) ∧ dn + fn = i ∧ ∀ y, rows[i]? = some y → ¬ y.1 = s
theorem LsJ.below {W5 W W' : World} {b0 D i : Nat} {ob : Obj} {rows : List (ByteArray × Pth)} (h : LsJ W5 b0 D ob rows i W) (hb : Below W.heap.size W W') : LsJ W5 b0 D ob rows i W' := by
  have hk : ∀ k o, W.heap[k]? = some o → W'.heap[k]? = some o := fun k o ho => (hb.block k (Array.getElem?_eq_some_iff.1 ho).1).trans ho
  obtain ⟨dn, fn, s, h1, h2, h3, h4⟩ := h.cn
  exact ⟨h.chg.trans (Chg.ofBelowC hb) (fun _ _ h => h.elim), hk _ _ h.lp, dn, fn, s, hk _ _ h1, hk _ _ h2, hk _ _ h3, h4⟩
theorem box_cell {W : World} {b : Nat} {v : Value} {t : TypeId} (h : W.heap[b]? = some (.cells #[v] t (0, 0))) : W.cell? ⟨b, 0, none⟩ = some v ∧ W.frozen? ⟨b, 0, none⟩ = false := by
  refine ⟨by rw [cell_of_row _ _ _ _ _ _ h]; rfl, by simp [World.frozen?, h]⟩
end Go.Proofs.YtlnjnimenihhnaaGreatDoor
