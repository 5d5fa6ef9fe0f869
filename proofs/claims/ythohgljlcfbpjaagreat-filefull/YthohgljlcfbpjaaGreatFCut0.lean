/-
  Cut of package file: its rounds, and what stands behind them.
-/
import Derived.Test.YthohgljlcfbpjaaGreatFBack
namespace Go.Proofs.YthohgljlcfbpjaaGreat
open Go.RowKit Go.Maps

/-- The blocks that Cut writes to may be written: those of numbers that stay, the last one of bytes that stays. -/
structure WrtC (c : Cx) (B : Nat → Nat) (kept size : Nat) : Prop where
  odd : ∀ k, live kept k → k % 2 = 1 → B k ∈ c.L
  last : size < 512 * kept → B (2 * (kept - 1)) ∈ c.L
section
variable {c : Cx} {X : Nat → Prop} {w w' wr : World} {V : Nat → List Int} {T : Nat → Bool} {nd : Nd} {B : Nat → Nat} {m kept pb nb rb d : Nat} {bs : List Int}
/-- Between two rounds of Cut. -/
structure CuS (c : Cx) (X : Nat → Prop) (V : Nat → List Int) (nd : Nd) (B : Nat → Nat) (T : Nat → Bool) (m kept : Nat) (w : World) (pb nb rb d : Nat) (wr : World) : Prop where
  st : ∃ V' nd', Fs c X wr V' (drp c.F B T (keysTo (kept + d) (m - (kept + d)))) ∧ Fl c (live (kept + d)) V' nd' B (drp c.F B T (keysTo (kept + d) (m - (kept + d)))) ∧ (nd'.kd = nd.kd ∧ nd'.lk = nd.lk ∧ nd'.sz = nd.sz) ∧
    (∀ x, c.F ≤ x → x < c.F + c.n → (∀ l, l % 2 = 1 → live m l → B l ≠ x) → V' x = V x) ∧ NdB 29 wr nb nd'
  pool : PAt wr pb c.M c.F c.n
  res : NdB 29 wr rb Nd.no
  sm : ∀ k, X k → k ≠ nb → wr.heap[k]? = w.heap[k]?
theorem CuS.more (h : CuS c X V nd B T m kept w pb nb rb d wr) (hc : Chg (fun _ => False) wr w') : CuS c X V nd B T m kept w pb nb rb d w' := by
  obtain ⟨V', nd', h1, h2, h3, h4, h5⟩ := h.st
  exact ⟨⟨V', nd', h1.more hc, h2, h3, h4, h5.kept hc (fun h => h)⟩, h.pool.kept hc (fun h => h), h.res.kept hc (fun h => h), fun k hk hne => (hc.block k (h1.tv.xlt k hk) (fun h => h)).trans (h.sm k hk hne)⟩
theorem keysTo_one (i j : Nat) : keysTo i (1 + j) = begunK i ++ keysTo (i + 1) j := by
  rw [keysTo_app]; rfl
theorem CuS.drop {size : Nat} (h : CuS c X V nd B T m kept w pb nb rb (d + 1) wr) (ho : c.Ok) (hd : kept + d < m) (hM : m ≤ 16520) (hW : WrtC c B kept size) (hX : X nb ∧ X pb ∧ X rb ∧ nb ≠ pb ∧ nb ≠ rb) (hr : c.w0.heap.size ≤ nb) :
    Calls Tryz.prog 53 #[.pointer (some ⟨c.q, 0, none⟩), PV c.M c.F c.n, .pointer (some ⟨nb, 0, none⟩), .int .i64 ((kept + d : Nat) : Int), .int .i64 (kept : Int)] wr fun e w' => e = .returned (.int .i64 0) ∧ CuS c X V nd B T m kept w pb nb rb d w' := by
  obtain ⟨V', nd', h1, h2, h3, h4, h5⟩ := h.st
  refine (drop_any (i := kept + d) h1 h2 ho h5 hX.1 hr (by omega) (fun k hk hf hw => ?_)).mono ?_
  · unfold wth at hw
    rw [if_neg hf] at hw
    exact hW.odd _ (live_fst.2 (by omega)) (par_odd hf)
  · rintro e w' ⟨rfl, V'', nd'', f1, g1, n1, s1⟩
    have hS : Sm (fun k => X k ∧ k ≠ nb) wr w' := fun k hk => s1 k hk.1 hk.2
    have eT : drp c.F B (drp c.F B T (keysTo (kept + (d + 1)) (m - (kept + (d + 1))))) (begunK (kept + d)) = drp c.F B T (keysTo (kept + d) (m - (kept + d))) := by
      rw [drp_app, drp_comm, show m - (kept + d) = 1 + (m - (kept + (d + 1))) by omega, keysTo_one]
      rfl
    rw [eT] at f1
    have gf := g1.fl
    rw [List.drop_zero, eT] at gf
    have hlv : ∀ k, (live (kept + d) k ∨ k ∈ (begunK (kept + d)).take 0) ↔ live (kept + d) k := fun k => by simp
    refine ⟨rfl, ⟨V'', nd'', f1, ⟨gf.sh.iff hlv, fun k hk => gf.own k ((hlv k).2 hk), fun k hk => gf.idx k ((hlv k).2 hk)⟩, ⟨g1.same.1.trans h3.1, g1.same.2.1.trans h3.2.1, g1.same.2.2.trans h3.2.2⟩, fun x x1 x2 x3 => ?_, n1⟩, h.pool.sm hS ⟨hX.2.1, Ne.symm hX.2.2.2.1⟩, (hS rb ⟨hX.2.2.1, Ne.symm hX.2.2.2.2⟩).trans h.res, fun k hk hne => (s1 k hk hne).trans (h.sm k hk hne)⟩
    rw [g1.fr x x1 x2 (fun l l1 l2 => x3 l l1 ?_), h4 x x1 x2 x3]
    exact live_mono ((live_succ _ _).2 l2) (by omega)
/-- What Cut leaves. -/
def CutTo (c : Cx) (X : Nat → Prop) (V : Nat → List Int) (nd : Nd) (B : Nat → Nat) (T : Nat → Bool) (bs : List Int) (size : Nat) (w : World) (nd' : Nd) (w' : World) : Prop :=
  ∃ V' T', T' = drp c.F B T (keysTo (blkC size) (blkC bs.length - blkC size)) ∧ Fs c X w' V' T' ∧ File c V' nd' B T' (bs.take size) ∧ (nd'.kd = nd.kd ∧ nd'.lk = nd.lk) ∧
    (∀ x, c.F ≤ x → x < c.F + c.n → (∀ k, live (blkC bs.length) k → B k ≠ x) → V' x = V x) ∧ Sm X w w'
theorem pad_cut {size : Nat} (h : size ≤ bs.length) : splice ((pad bs).take (512 * blkC size)) size (zeros (512 * blkC size - size)) = pad (bs.take size) := by
  have hs : size ≤ 512 * blkC size := by unfold blkC; omega
  have hp := pad_len bs
  have hb : 512 * blkC size ≤ 512 * blkC bs.length := by unfold blkC; omega
  have ht : (bs.take size).length = size := by rw [List.length_take]; omega
  unfold splice
  rw [List.drop_eq_nil_of_le (by rw [List.length_take, zeros_len]; omega), List.append_nil, List.take_take, Nat.min_eq_left hs]
  unfold pad
  rw [ht, List.take_append_of_le_length h]
theorem pad_all {size : Nat} (h : size = bs.length) : (pad bs).take (512 * blkC size) = pad (bs.take size) := by
  have hp := pad_len bs
  subst h
  rw [List.take_of_length_le (by omega), List.take_length]
/-- Behind the rounds: the bytes are those that stay, and more up to the block's end. -/
theorem CuS.at0 {size : Nat} (h : CuS c X V nd B T (blkC bs.length) (blkC size) w pb nb rb 0 wr) (hF : File c V nd B T bs) (hsz : size ≤ bs.length) :
    ∃ V' nd' T', T' = drp c.F B T (keysTo (blkC size) (blkC bs.length - blkC size)) ∧ Fs c X wr V' T' ∧ Fl c (live (blkC size)) V' nd' B T' ∧ Ct (blkC size) V' B ((pad bs).take (512 * blkC size)) ∧ (nd'.kd = nd.kd ∧ nd'.lk = nd.lk ∧ nd'.sz = nd.sz) ∧
      (∀ x, c.F ≤ x → x < c.F + c.n → (∀ k, live (blkC bs.length) k → B k ≠ x) → V' x = V x) ∧ NdB 29 wr nb nd' := by
  obtain ⟨V', nd', h1, h2, h3, h4, h5⟩ := h.st
  rw [Nat.add_zero] at h1 h2
  have hk : blkC size ≤ blkC bs.length := by unfold blkC; omega
  refine ⟨V', nd', _, rfl, h1, h2, ⟨?_, fun i hi => ?_⟩, h3, fun x x1 x2 x3 => h4 x x1 x2 (fun l _ l2 => x3 l l2), h5⟩
  · rw [List.length_take, pad_len]; omega
  · have hl : live (blkC bs.length) (2 * i) := by unfold live; omega
    have ho := hF.fl.own _ hl
    rw [blkOf_take hi, ← hF.ct.blk i (by omega)]
    exact h4 _ ho.1 ho.2.1 (fun l l1 l2 e => by have := hF.fl.sh.inj _ _ l2 hl e; omega)
/-- The size is set, the result laid. -/
theorem CutTo.mk {X0 : Nat → Prop} {size : Nat} {V' : Nat → List Int} {nd4 : Nd} {T' : Nat → Bool} {w6 wA w0 : World} (hT : T' = drp c.F B T (keysTo (blkC size) (blkC bs.length - blkC size))) (hs : Fs c X w6 V' T') (hf : Fl c (live (blkC size)) V' nd4 B T') (hct : Ct (blkC size) V' B (pad (bs.take size))) (hF : File c V nd B T bs) (hsz : size ≤ bs.length) (hsame : nd4.kd = nd.kd ∧ nd4.lk = nd.lk ∧ nd4.sz = nd.sz)
    (hfr : ∀ x, c.F ≤ x → x < c.F + c.n → (∀ k, live (blkC bs.length) k → B k ≠ x) → V' x = V x) (hX : X nb ∧ X rb) (hr : c.w0.heap.size ≤ nb ∧ c.w0.heap.size ≤ rb) (hX0 : ∀ k, X0 k → X k ∧ k ≠ nb ∧ k ≠ rb) (hw : ∀ k, X k → k ≠ nb → w6.heap[k]? = w0.heap[k]?) (hw0 : ∀ k, X0 k → wA.heap[k]? = w0.heap[k]?) {w8 : World} (hc : Chg (fun k => k = rb) (w6.setCell ⟨nb, 2, none⟩ (.int .i64 (size : Int))) w8) :
    CutTo c X0 V nd B T bs size wA (nd4.set 2 (size : Int)) w8 := by
  have hc7 : Chg (fun k => k = nb) w6 (w6.setCell ⟨nb, 2, none⟩ (.int .i64 (size : Int))) := Chg.setCell (S := fun k => k = nb) _ _ _ rfl
  have f7 := hs.put hX.1 hr.1 hc7
  have f8 := f7.put hX.2 hr.2 hc
  have hlen : (bs.take size).length = size := by rw [List.length_take]; omega
  refine ⟨V', T', hT, f8.less (fun k hk => (hX0 k hk).1), ⟨?_, ?_, ?_, ?_, fun y hy => hF.by' y (List.mem_of_mem_take hy)⟩, ⟨hsame.1, hsame.2.1⟩, hfr, fun k hk => ?_⟩
  · rw [hlen]; exact ⟨hf.sh.sz _, hf.own, hf.idx⟩
  · rw [hlen]; exact hct
  · rw [hlen]; rfl
  · rw [hlen]; have := hF.lim; omega
  · obtain ⟨k1, k2, k3⟩ := hX0 k hk
    exact (hc.block k (f7.tv.xlt k k1) k3).trans ((hc7.block k (hs.tv.xlt k k1) k2).trans ((hw k k1 k2).trans (hw0 k hk).symm))
theorem CuS.lay {X0 : Nat → Prop} {size : Nat} {wA : World} (h : CuS c X V nd B T (blkC bs.length) (blkC size) w pb nb rb 0 wr) (ho : c.Ok) (hF : File c V nd B T bs) (hsz : size ≤ bs.length) (hW : WrtC c B (blkC size) size) (hX : X nb ∧ X pb ∧ X rb ∧ nb ≠ pb ∧ nb ≠ rb) (hr : c.w0.heap.size ≤ nb ∧ c.w0.heap.size ≤ rb) (hX0 : ∀ k, X0 k → X k ∧ k ≠ nb ∧ k ≠ rb) (hw0 : ∀ k, X0 k → wA.heap[k]? = w.heap[k]?) :
    ∃ nd4, NdB 29 wr nb nd4 ∧ nd4.sz = nd.sz ∧ Hid (∀ u wb, Chg (fun _ => False) wr wb → Bs wb u (zeros (512 * blkC size - size)) → (∀ g, u.ownBlock = some g → wr.heap.size ≤ g ∧ g < wb.heap.size) → Calls Tryz.prog 47 #[tI c.q, nd4.v, .int .i64 (size : Int), u] wb fun e w6 => e = .returned (.int .i64 0) ∧ NdB 29 w6 nb nd4 ∧ NdB 29 w6 rb Nd.no ∧
      Hid (∀ w8, Chg (fun k => k = rb) (w6.setCell ⟨nb, 2, none⟩ (.int .i64 (size : Int))) w8 → CutTo c X0 V nd B T bs size wA (nd4.set 2 (size : Int)) w8)) := by
  obtain ⟨V', nd', T', hT, h1, h2, h3, h4, h5, h6⟩ := h.at0 hF hsz
  refine ⟨nd', h6, h4.2.2, fun u wb hc hb hub => ?_⟩
  have hsb : size ≤ 512 * blkC size := by unfold blkC; omega
  have hM : blkC size ≤ 16520 := by have := hF.lim; unfold blkC; omega
  have h1a := h1.add hc
  obtain ⟨Z, hZ⟩ : ∃ Z, addX X wr.heap.size wb.heap.size = Z := ⟨_, rfl⟩
  rw [hZ] at h1a
  have hzX : ∀ k, X k → Z k := fun k hk => hZ ▸ .inl hk
  refine (lay_any size u _ h1a h2 ho h3 hb (fun g hg _ => hZ ▸ .inr (hub g hg)) (by rw [zeros_len]; omega) hM (isBy_zeros _) (fun i i1 i2 => ?_)).mono ?_
  · rw [zeros_len] at i2
    have : i = blkC size - 1 := by unfold blkC at *; omega
    rw [this]
    exact hW.last (by unfold blkC at *; omega)
  · rintro e w6 ⟨rfl, V'', f6, l6, c6, fr6, s6⟩
    have hs6 : ∀ k, X k → w6.heap[k]? = wr.heap[k]? := fun k hk => (s6 k (hzX k hk)).trans (hc.block k (h1.tv.xlt k hk) (fun h => h))
    refine ⟨rfl, (hs6 nb hX.1).trans h6, (hs6 rb hX.2.2.1).trans h.res, fun w8 hc8 => ?_⟩
    rw [pad_cut hsz] at c6
    refine CutTo.mk hT (f6.less hzX) l6 c6 hF hsz h4 (fun x x1 x2 x3 => ?_) ⟨hX.1, hX.2.2.1⟩ hr hX0 (fun k hk hne => (hs6 k hk).trans (h.sm k hk hne)) hw0 hc8
    rw [fr6 x (fun i hi => x3 _ ?_), h5 x x1 x2 x3]
    have : blkC size ≤ blkC bs.length := by unfold blkC; omega
    unfold live; omega
theorem CuS.same {X0 : Nat → Prop} {size : Nat} {wA : World} (h : CuS c X V nd B T (blkC bs.length) (blkC size) w pb nb rb 0 wr) (hF : File c V nd B T bs) (hsz : size = bs.length) (hX : X nb ∧ X pb ∧ X rb ∧ nb ≠ pb ∧ nb ≠ rb) (hr : c.w0.heap.size ≤ nb ∧ c.w0.heap.size ≤ rb) (hX0 : ∀ k, X0 k → X k ∧ k ≠ nb ∧ k ≠ rb) (hw0 : ∀ k, X0 k → wA.heap[k]? = w.heap[k]?) :
    ∃ nd4, NdB 29 wr nb nd4 ∧ nd4.sz = nd.sz ∧ Hid (∀ w8, Chg (fun k => k = rb) (wr.setCell ⟨nb, 2, none⟩ (.int .i64 (size : Int))) w8 → CutTo c X0 V nd B T bs size wA (nd4.set 2 (size : Int)) w8) := by
  obtain ⟨V', nd', T', hT, h1, h2, h3, h4, h5, h6⟩ := h.at0 hF (by omega)
  refine ⟨nd', h6, h4.2.2, fun w8 hc8 => ?_⟩
  rw [pad_all hsz] at h3
  exact CutTo.mk hT h1 h2 h3 hF (by omega) h4 h5 ⟨hX.1, hX.2.2.1⟩ hr hX0 h.sm hw0 hc8
/-- Bytes 0, as they are made. -/
theorem makeNb (z : Nat) (hz : z ≤ 16777216) : ∃ o : Obj, (∀ w : World, (Instr.makeSlice 33 (.int .i64 (z : Int)) (.int .i64 (z : Int))).run Tryz.prog w = .ok (.slice (some ⟨w.heap.size, 0, none⟩) z z) (w.alloc o)) ∧ ∀ w : World, Bs (w.alloc o) (.slice (some ⟨w.heap.size, 0, none⟩) z z) (zeros z) := by
  obtain ⟨i0, hi, hz0, hz1, hz2⟩ := info5_parts
  refine ⟨.cells (madeCells (Value.int .u8 0).cells (z * 1)) 5, fun w => ?_, fun w => ?_⟩
  · have := run_make (P := Tryz.prog) w 33 5 i0 (.int .u8 0) Tryz.underlying33 hi hz0 .i64 .i64 (z : Int) (z : Int) (by omega) (by omega) (by rw [hz2]; omega) (by omega)
    rw [hz1] at this
    exact this
  · refine .inr ⟨_, z, by rw [zeros_len], by rw [zeros_len]; exact Nat.le_refl _, by unfold maxLen; omega, fun j hj => ?_⟩
    rw [show (⟨w.heap.size, 0, none⟩ : Addr).add j = ⟨w.heap.size, j, none⟩ by simp [Addr.add_lit], cell_of_row _ _ _ _ _ _ (heap_alloc_new w _), ← Array.getElem?_toList, made_bytes]
    exact bcells_nth hj
end
end Go.Proofs.YthohgljlcfbpjaaGreat
