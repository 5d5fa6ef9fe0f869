/-
  A log with or without its transaction, the power going, beside memory of the laws.
-/
import Derived.Test.YtmlhjcjonfalhaaGreatCCor
import Derived.Test.YtmlhjcjonfalhaaGreatCUp
namespace Go.Proofs.YtmlhjcjonfalhaaGreat.C
open Go.RowKit Go.Maps

section
variable {F G : Nat → Prop} {pd pl q K : Nat} {S : St} {com own : Nat → Option (List Int)} {pend wrote m mt N : Nat} {live : Bool} {V Vt : Nat → Value} {X : Nat → Prop} {w0 w w' : World} {f : Nat → List Int}
/-- A store into memory that is not the log's. -/
theorem LogUp.put {r : Nat} (h : LogUp X w0 w pd pl K f com pend N) (hx : X r) (hr : w0.heap.size ≤ r) (hc : Chg (fun b => b = r) w w') : LogUp X w0 w' pd pl K f com pend N := by
  obtain ⟨F, G, S, m, V, h1, h2, h3, h4, h5, h6, h7⟩ := h
  have hn := h7.x r hx
  exact ⟨F, G, S, m, V, ⟨h1.dk.kept hc (fun b hb e => hn.2.1 (e ▸ hb)), h1.lg.kept hc (fun b hb e => hn.2.2 (e ▸ hb)), h1.no, h1.nb⟩, h2, h3, h4, h5, h6, h7.put hx hr hc⟩
theorem TxUp.put {r : Nat} (h : TxUp X w0 w pd pl q K f com pend live own wrote N) (hx : X r) (hr : w0.heap.size ≤ r) (hc : Chg (fun b => b = r) w w') : TxUp X w0 w' pd pl q K f com pend live own wrote N := by
  obtain ⟨F, G, S, m, V, mt, Vt, h1, h2, h3, h4, h5, h6, h7, h8⟩ := h
  have hn := h7.x r hx
  exact ⟨F, G, S, m, V, mt, Vt, h1.keptE hc (fun b hb e => hn.2.1 (e ▸ hb)) (fun b hb e => hn.2.2 (e ▸ hb)), h2, h3, h4, h5, h6, h7.put hx hr hc, h8⟩
theorem read_out_up (n : Int) (h : LogUp X w0 w pd pl K f com pend N) (hn : ¬ (0 ≤ n ∧ n < K)) :
    Calls Tryz.prog 18 #[.pointer (some ⟨pl, 0, none⟩), .int .i64 n] w fun e w' => e = .returned (.tuple #[.slice none 0 0, .int .i64 1]) ∧ w' = w := by
  obtain ⟨F, G, S, m, V, h1, _⟩ := h
  exact lread_out n w h1 hn

theorem tread_out_up (n : Int) (h : TxUp X w0 w pd pl q K f com pend live own wrote N) (hw : -9223372036854775808 ≤ n ∧ n ≤ 9223372036854775807) (hn : ¬ (0 ≤ n ∧ n < K)) :
    Calls Tryz.prog 76 #[.pointer (some ⟨q, 0, none⟩), .int .i64 n] w fun e w' => e = .returned (.tuple #[.slice none 0 0, .int .i64 1]) ∧ w' = w := by
  obtain ⟨F, G, S, m, V, mt, Vt, h1, h2, h3, _⟩ := h
  exact tread_out n w h1 hw hn h3
theorem twrite_out_up (n : Int) (v : Value) (h : TxUp X w0 w pd pl q K f com pend live own wrote N) (hn : ¬ (0 ≤ n ∧ n < K)) :
    Calls Tryz.prog 14 #[.pointer (some ⟨q, 0, none⟩), .int .i64 n, v] w fun e w' => e = .returned (.int .i64 1) ∧ w' = w := by
  obtain ⟨F, G, S, m, V, mt, Vt, h1, h2, h3, _⟩ := h
  exact twrite_out n v w h1 hn h3
theorem twrite_dead_up (n : Nat) (va : Option Addr) (vc : Nat) (h : TxUp X w0 w pd pl q K f com pend false own wrote N) (hn : n < K) :
    Calls Tryz.prog 14 #[.pointer (some ⟨q, 0, none⟩), .int .i64 (n : Int), .slice va 512 vc] w fun e w' => e = .returned (.int .i64 15) ∧ w' = w := by
  obtain ⟨F, G, S, m, V, mt, Vt, h1, h2, h3, _⟩ := h
  exact twrite_dead n va vc w h1 hn h3
theorem commit_dead_up (h : TxUp X w0 w pd pl q K f com pend false own wrote N) :
    Calls Tryz.prog 16 #[.pointer (some ⟨q, 0, none⟩)] w fun e w' => e = .returned (.int .i64 15) ∧ w' = w := by
  obtain ⟨F, G, S, m, V, mt, Vt, h1, _⟩ := h
  exact commit_dead w h1
theorem abort_dead_up (h : TxUp X w0 w pd pl q K f com pend false own wrote N) :
    Calls Tryz.prog 72 #[.pointer (some ⟨q, 0, none⟩)] w fun e w' => e = .returned (.tuple #[]) ∧ w' = w := by
  obtain ⟨F, G, S, m, V, mt, Vt, h1, _⟩ := h
  exact abort_dead w h1
theorem begin_busy_up (h : TxUp X w0 w pd pl q K f com pend true own wrote N) :
    Calls Tryz.prog 13 #[.pointer (some ⟨pl, 0, none⟩)] w fun e w' => e = .returned (.tuple #[.pointer none, .int .i64 15]) ∧ w' = w := by
  obtain ⟨F, G, S, m, V, mt, Vt, h1, h2, h3, _⟩ := h
  exact begin_busy ⟨q, 0, none⟩ w h1.lk h3
theorem read_outT (n : Int) (h : TxUp X w0 w pd pl q K f com pend live own wrote N) (hn : ¬ (0 ≤ n ∧ n < K)) :
    Calls Tryz.prog 18 #[.pointer (some ⟨pl, 0, none⟩), .int .i64 n] w fun e w' => e = .returned (.tuple #[.slice none 0 0, .int .i64 1]) ∧ w' = w := by
  obtain ⟨F, G, S, m, V, mt, Vt, h1, _⟩ := h
  exact lread_out n w h1.lk hn
theorem LogUp.ref {E : Nat → Prop} (h : LogUp X w0 w pd pl K f com pend N) (hc : Chg E w w') (hE : ∀ b, b < w.heap.size → E b → X b ∧ w0.heap.size ≤ b) : LogUp (addX X w.heap.size w'.heap.size) w0 w' pd pl K f com pend N := by
  obtain ⟨F, G, S, m, V, h1, h2, h3, h4, h5, h6, h7⟩ := h
  have hn : ∀ b, (F b ∨ G b) → ¬ E b := fun b hb e => by
    have hl : b < w.heap.size := by
      rcases hb with hb | hb
      · exact h1.dk.lt b hb
      · exact h1.lg.lt b hb
    have := h7.x b (hE b hl e).1
    rcases hb with hb | hb
    · exact this.2.1 hb
    · exact this.2.2 hb
  exact ⟨F, G, S, m, V, ⟨h1.dk.kept hc (fun b hb => hn b (.inl hb)), h1.lg.kept hc (fun b hb => hn b (.inr hb)), h1.no, h1.nb⟩, h2, h3, h4, h5, h6, h7.ref hc hE h1.dk.lt h1.lg.lt⟩
theorem TxUp.ref {E : Nat → Prop} (h : TxUp X w0 w pd pl q K f com pend live own wrote N) (hc : Chg E w w') (hE : ∀ b, b < w.heap.size → E b → X b ∧ w0.heap.size ≤ b) : TxUp (addX X w.heap.size w'.heap.size) w0 w' pd pl q K f com pend live own wrote N := by
  obtain ⟨F, G, S, m, V, mt, Vt, h1, h2, h3, h4, h5, h6, h7, h8⟩ := h
  have hn : ∀ b, (F b ∨ G b) → ¬ E b := fun b hb e => by
    have hl : b < w.heap.size := by
      rcases hb with hb | hb
      · exact h1.lk.dk.lt b hb
      · exact h1.lk.lg.lt b hb
    have := h7.x b (hE b hl e).1
    rcases hb with hb | hb
    · exact this.2.1 hb
    · exact this.2.2 hb
  exact ⟨F, G, S, m, V, mt, Vt, h1.keptE hc (fun b hb => hn b (.inl hb)) (fun b hb => hn b (.inr hb)), h2, h3, h4, h5, h6, h7.ref hc hE h1.lk.dk.lt h1.lk.lg.lt, h8⟩
theorem TxUp.xlt (h : TxUp X w0 w pd pl q K f com pend live own wrote N) : ∀ b, X b → b < w.heap.size := by
  obtain ⟨F, G, S, m, V, mt, Vt, h1, h2, h3, h4, h5, h6, h7, h8⟩ := h
  exact fun b hb => (h7.x b hb).1
end
end Go.Proofs.YtmlhjcjonfalhaaGreat.C

namespace Go.Proofs.YtmlhjcjonfalhaaGreat.C
open Go.RowKit Go.Maps

/-- A log, with its transaction or without. -/
def Up (X : Nat → Prop) (w0 w : World) (pd pl : Nat) (tv : Value) (f : Nat → List Int) (com : Nat → Option (List Int)) (pend : Nat) (live : Bool) (own : Nat → Option (List Int)) (wrote N : Nat) : Prop :=
  (tv = .pointer none ∧ live = false ∧ LogUp X w0 w pd pl 70 f com pend N) ∨ ∃ q, tv = .pointer (some ⟨q, 0, none⟩) ∧ TxUp X w0 w pd pl q 70 f com pend live own wrote N
/-- What the document's log keeps of its transactions: none yet, or a row of strings. -/
def NvOk (X : Nat → Prop) (w0 w : World) (pp pr lb db : Nat) (nv : Value) : Prop :=
  nv = .slice none 0 0 ∨ ∃ (b c : Nat) (T : Nat → ByteArray), nv = .slice (some ⟨b, 0, none⟩) 70 c ∧ 70 ≤ c ∧ Row w b 70 (fun n => .string (T n)) ∧ X b ∧ w0.heap.size ≤ b ∧ b ≠ pp ∧ b ≠ pr ∧ b ≠ lb ∧ b ≠ db
theorem NvOk.sm {X : Nat → Prop} {w0 w w' : World} {pp pr lb db : Nat} {nv : Value} (h : NvOk X w0 w pp pr lb db nv) (hs : Sm X w w') : NvOk X w0 w' pp pr lb db nv := by
  rcases h with h | ⟨b, c, T, h1, h2, h3, h4⟩
  · exact .inl h
  · exact .inr ⟨b, c, T, h1, h2, h3.sm hs h4.1, h4⟩
theorem NvOk.keptE {E X : Nat → Prop} {w0 w w' : World} {pp pr lb db : Nat} {nv : Value} (h : NvOk X w0 w pp pr lb db nv) (hc : Chg E w w') (hE : ∀ b, E b → b = pp ∨ b = pr ∨ b = lb ∨ b = db) : NvOk X w0 w' pp pr lb db nv := by
  rcases h with h | ⟨b, c, T, h1, h2, h3, h4, h5, h6, h7, h8, h9⟩
  · exact .inl h
  · refine .inr ⟨b, c, T, h1, h2, h3.kept hc (fun e => ?_), h4, h5, h6, h7, h8, h9⟩
    rcases hE b e with e | e | e | e
    · exact h6 e
    · exact h7 e
    · exact h8 e
    · exact h9 e
theorem NvOk.xsub {X X' : Nat → Prop} {w0 w : World} {pp pr lb db : Nat} {nv : Value} (h : NvOk X w0 w pp pr lb db nv) (hx : ∀ b, X b → X' b) : NvOk X' w0 w pp pr lb db nv := by
  rcases h with h | ⟨b, c, T, h1, h2, h3, h4, h5⟩
  · exact .inl h
  · exact .inr ⟨b, c, T, h1, h2, h3, hx b h4, h5⟩
theorem NvOk.ofOpen {X : Nat → Prop} {w0 w : World} {pp pr lb lc db dc nb nc : Nat} {nv : Value} {R : Rf} (h : RfAt w pr R lb lc db dc nb nc nv) (ho : R.op = true) (hx : X nb) (h0 : w0.heap.size ≤ nb) (hp : nb ≠ pp) : NvOk X w0 w pp pr lb db nv :=
  .inr ⟨nb, nc, R.W, (h.n ho).1, (h.n ho).2.1, (h.n ho).2.2, hx, h0, hp, h.pn ho, (h.nl ho).1, (h.nl ho).2⟩
/-- The play in memory, inside the world's block; blocks of Y are as they were in wY. -/
structure PlAt (Y : Nat → Prop) (wY : World) (dv mv cv : Value) (X : Nat → Prop) (w0 w : World) (pp pl : Nat) (tv : Value) (pr : Nat) (R : Rf) (lb lc db dc nb nc : Nat) (nv : Value) : Prop where
  blk : w.heap[pp]? = some (.cells #[dv, .pointer (some ⟨pl, 0, none⟩), tv, .pointer (some ⟨pr, 0, none⟩), mv, cv] 44 (0, 0))
  rf : RfAt w pr R lb lc db dc nb nc nv
  xp : X pp ∧ w0.heap.size ≤ pp
  xr : ∀ b, RfB pr lb db nb R.op b → X b ∧ w0.heap.size ≤ b
  ne : ∀ b, RfB pr lb db nb R.op b → b ≠ pp
  y : ∀ b, Y b → X b ∧ b ≠ pp ∧ ¬ RfB pr lb db nb R.op b ∧ b < w.heap.size
  sn : Sm Y wY w
  nvk : NvOk X w0 w pp pr lb db nv
/-- The whole, behind k acts; T tells of what lasts, what was committed, how many Syncs there were. -/
def Pl (T : (Nat → List Int) → (Nat → Option (List Int)) → Nat → Prop) (Y : Nat → Prop) (wY : World) (dv mv cv : Value) (w0 w : World) (pd pp k : Nat) : Prop :=
  ∃ X pl tv pr R lb lc db dc nb nc nv f com pend live own wrote, PlAt Y wY dv mv cv X w0 w pp pl tv pr R lb lc db dc nb nc nv ∧ Up X w0 w pd pl tv f com pend live own wrote (1000 + 128 * k) ∧ Cor R f com pend live own wrote ∧ pend ≤ k ∧ R.syncs ≤ k ∧ T f com R.syncs

section
variable {T : (Nat → List Int) → (Nat → Option (List Int)) → Nat → Prop} {Y : Nat → Prop} {wY : World} {dv mv cv : Value} {X : Nat → Prop} {w0 w w' : World} {pd pp pl q pr : Nat} {tv : Value} {R : Rf} {lb lc db dc nb nc : Nat} {nv : Value} {f : Nat → List Int} {com own : Nat → Option (List Int)} {pend wrote N k : Nat} {live : Bool}
theorem PlAt.cd (h : PlAt Y wY dv mv cv X w0 w pp pl tv pr R lb lc db dc nb nc nv) : w.cell? ⟨pp, 0, none⟩ = some dv := by rw [cell_of_row w pp 0 _ _ _ h.blk]; rfl
theorem PlAt.c0 (h : PlAt Y wY dv mv cv X w0 w pp pl tv pr R lb lc db dc nb nc nv) : w.cell? ⟨pp, 1, none⟩ = some (.pointer (some ⟨pl, 0, none⟩)) := by rw [cell_of_row w pp 1 _ _ _ h.blk]; rfl
theorem PlAt.c1 (h : PlAt Y wY dv mv cv X w0 w pp pl tv pr R lb lc db dc nb nc nv) : w.cell? ⟨pp, 2, none⟩ = some tv := by rw [cell_of_row w pp 2 _ _ _ h.blk]; rfl
theorem PlAt.c2 (h : PlAt Y wY dv mv cv X w0 w pp pl tv pr R lb lc db dc nb nc nv) : w.cell? ⟨pp, 3, none⟩ = some (.pointer (some ⟨pr, 0, none⟩)) := by rw [cell_of_row w pp 3 _ _ _ h.blk]; rfl
theorem PlAt.cm (h : PlAt Y wY dv mv cv X w0 w pp pl tv pr R lb lc db dc nb nc nv) : w.cell? ⟨pp, 4, none⟩ = some mv := by rw [cell_of_row w pp 4 _ _ _ h.blk]; rfl
theorem PlAt.cc (h : PlAt Y wY dv mv cv X w0 w pp pl tv pr R lb lc db dc nb nc nv) : w.cell? ⟨pp, 5, none⟩ = some cv := by rw [cell_of_row w pp 5 _ _ _ h.blk]; rfl
theorem PlAt.fr (h : PlAt Y wY dv mv cv X w0 w pp pl tv pr R lb lc db dc nb nc nv) (i : Nat) : w.frozen? ⟨pp, i, none⟩ = false := by simp [World.frozen?, h.blk]
theorem PlAt.sm (h : PlAt Y wY dv mv cv X w0 w pp pl tv pr R lb lc db dc nb nc nv) (hs : Sm X w w') : PlAt Y wY dv mv cv X w0 w' pp pl tv pr R lb lc db dc nb nc nv :=
  ⟨(hs pp h.xp.1).trans h.blk, h.rf.sm hs (fun b hb => (h.xr b hb).1), h.xp, h.xr, h.ne, fun b hb => ⟨(h.y b hb).1, (h.y b hb).2.1, (h.y b hb).2.2.1, by have e := hs b (h.y b hb).1; rw [Array.getElem?_eq_getElem (h.y b hb).2.2.2] at e; exact (Array.getElem?_eq_some_iff.1 e).1⟩, h.sn.trans (fun b hb => hs b (h.y b hb).1), h.nvk.sm hs⟩
theorem PlAt.kept (h : PlAt Y wY dv mv cv X w0 w pp pl tv pr R lb lc db dc nb nc nv) (hc : Chg (fun _ => False) w w') : PlAt Y wY dv mv cv X w0 w' pp pl tv pr R lb lc db dc nb nc nv :=
  ⟨(hc.block pp (Array.getElem?_eq_some_iff.1 h.blk).1 (fun h => h)).trans h.blk, h.rf.kept hc (fun h => h) (fun h => h) (fun h => h) (fun _ h => h), h.xp, h.xr, h.ne, fun b hb => ⟨(h.y b hb).1, (h.y b hb).2.1, (h.y b hb).2.2.1, by have := (h.y b hb).2.2.2; have := hc.size; omega⟩, h.sn.trans (fun b hb => hc.block b (h.y b hb).2.2.2 (fun h => h)), h.nvk.keptE hc (fun _ h => h.elim)⟩
theorem PlAt.xsub {X' : Nat → Prop} (h : PlAt Y wY dv mv cv X w0 w pp pl tv pr R lb lc db dc nb nc nv) (hx : ∀ b, X b → X' b) : PlAt Y wY dv mv cv X' w0 w pp pl tv pr R lb lc db dc nb nc nv :=
  ⟨h.blk, h.rf, ⟨hx _ h.xp.1, h.xp.2⟩, fun b hb => ⟨hx b (h.xr b hb).1, (h.xr b hb).2⟩, h.ne, fun b hb => ⟨hx b (h.y b hb).1, (h.y b hb).2⟩, h.sn, h.nvk.xsub hx⟩
/-- The document's log did something to its own blocks. -/
theorem PlAt.did {E : Nat → Prop} {R' : Rf} {nb' nc' : Nat} {nv' : Value} (h : PlAt Y wY dv mv cv X w0 w pp pl tv pr R lb lc db dc nb nc nv) (hr : RfAt w' pr R' lb lc db dc nb' nc' nv') (hc : Chg E w w') (hE : ¬ E pp) (ho : R'.op = true → (R.op = true ∧ nb' = nb) ∨ (w.heap.size ≤ nb' ∧ nb' < w'.heap.size)) (h0 : w0.heap.size ≤ w.heap.size) (hE2 : ∀ b, E b → RfB pr lb db nb R.op b) (hnv : NvOk (addX X w.heap.size w'.heap.size) w0 w' pp pr lb db nv') :
    PlAt Y wY dv mv cv (addX X w.heap.size w'.heap.size) w0 w' pp pl tv pr R' lb lc db dc nb' nc' nv' := by
  have hl : pp < w.heap.size := (Array.getElem?_eq_some_iff.1 h.blk).1
  have hb : ∀ b, RfB pr lb db nb' R'.op b → RfB pr lb db nb R.op b ∨ (w.heap.size ≤ b ∧ b < w'.heap.size) := fun b hb => by
    rcases hb with e | e | e | ⟨e1, e2⟩
    · exact .inl (.inl e)
    · exact .inl (.inr (.inl e))
    · exact .inl (.inr (.inr (.inl e)))
    · rcases ho e1 with ⟨e3, e4⟩ | e3
      · exact .inl (.inr (.inr (.inr ⟨e3, e2.trans e4⟩)))
      · exact .inr (e2 ▸ e3)
  refine ⟨(hc.block pp hl hE).trans h.blk, hr, ⟨.inl h.xp.1, h.xp.2⟩, fun b hb' => ?_, fun b hb' => ?_, fun b hb' => ⟨.inl (h.y b hb').1, (h.y b hb').2.1, fun e => ?_, by have := (h.y b hb').2.2.2; have := hc.size; omega⟩, h.sn.trans (fun b hb' => hc.block b (h.y b hb').2.2.2 (fun e => (h.y b hb').2.2.1 (hE2 b e))), hnv⟩
  · rcases hb b hb' with e | e
    · exact ⟨.inl (h.xr b e).1, (h.xr b e).2⟩
    · exact ⟨.inr e, by omega⟩
  · rcases hb b hb' with e | e
    · exact h.ne b e
    · omega
  · rcases hb b e with e | e
    · exact (h.y b hb').2.2.1 e
    · have := (h.y b hb').2.2.2; omega
theorem Up.chg (h : Up X w0 w pd pl tv f com pend live own wrote N) : Chg (fun _ => False) w0 w := by
  rcases h with ⟨_, _, h⟩ | ⟨q, _, h⟩
  · exact h.chg
  · exact h.chg
theorem Up.more (h : Up X w0 w pd pl tv f com pend live own wrote N) (hc : Chg (fun _ => False) w w') : Up X w0 w' pd pl tv f com pend live own wrote N := by
  rcases h with ⟨e1, e2, h⟩ | ⟨q, e1, h⟩
  · exact .inl ⟨e1, e2, h.more hc⟩
  · exact .inr ⟨q, e1, h.more hc⟩
theorem Up.mono {N' : Nat} (h : Up X w0 w pd pl tv f com pend live own wrote N) (hN : N ≤ N') : Up X w0 w pd pl tv f com pend live own wrote N' := by
  rcases h with ⟨e1, e2, h⟩ | ⟨q, e1, F, G, S, m, V, mt, Vt, h1, h2, h3, h4, h5, h6⟩
  · exact .inl ⟨e1, e2, h.mono hN⟩
  · exact .inr ⟨q, e1, F, G, S, m, V, mt, Vt, h1, h2, h3, h4, by omega, h6⟩
theorem Up.ref {E : Nat → Prop} (h : Up X w0 w pd pl tv f com pend live own wrote N) (hc : Chg E w w') (hE : ∀ b, b < w.heap.size → E b → X b ∧ w0.heap.size ≤ b) : Up (addX X w.heap.size w'.heap.size) w0 w' pd pl tv f com pend live own wrote N := by
  rcases h with ⟨e1, e2, h⟩ | ⟨q, e1, h⟩
  · exact .inl ⟨e1, e2, h.ref hc hE⟩
  · exact .inr ⟨q, e1, h.ref hc hE⟩
theorem Up.form (h : Up X w0 w pd pl tv f com pend live own wrote N) : tv = .pointer none ∨ ∃ q, tv = .pointer (some ⟨q, 0, none⟩) := by
  rcases h with ⟨e1, e2, h⟩ | ⟨q, e1, h⟩
  · exact .inl e1
  · exact .inr ⟨q, e1⟩
/-- With no transaction that is open: the log alone. -/
theorem Up.log (h : Up X w0 w pd pl tv f com pend false own wrote N) : LogUp X w0 w pd pl 70 f com pend N := by
  rcases h with ⟨_, _, h⟩ | ⟨q, _, h⟩
  · exact h
  · exact h.log
theorem Up.lt (h : Up X w0 w pd pl tv f com pend live own wrote N) : ∀ n b, com n = some b → n < 70 ∧ b.length = 512 := by
  rcases h with ⟨_, _, h⟩ | ⟨q, _, F, G, S, m, V, mt, Vt, h1, _⟩
  · exact h.lt.1
  · exact fun n b hb => ⟨(h1.lk.lg.mb.row n b hb).1, (h1.lk.lg.mb.row n b hb).2.1⟩
theorem Pl.up (h : Pl T Y wY dv mv cv w0 w pd pp k) {k' : Nat} (hk : k ≤ k') : Pl T Y wY dv mv cv w0 w pd pp k' := by
  obtain ⟨X, pl, tv, pr, R, lb, lc, db, dc, nb, nc, nv, f, com, pend, live, own, wrote, h1, h2, h3, h4, h5, h6⟩ := h
  exact ⟨X, pl, tv, pr, R, lb, lc, db, dc, nb, nc, nv, f, com, pend, live, own, wrote, h1, h2.mono (by omega), h3, by omega, by omega, h6⟩
theorem Pl.chg (h : Pl T Y wY dv mv cv w0 w pd pp k) : Chg (fun _ => False) w0 w := by
  obtain ⟨X, pl, tv, pr, R, lb, lc, db, dc, nb, nc, nv, f, com, pend, live, own, wrote, h1, h2, h3, h4, h5, h6⟩ := h
  exact h2.chg

theorem Pl.weak {T' : (Nat → List Int) → (Nat → Option (List Int)) → Nat → Prop} (h : Pl T Y wY dv mv cv w0 w pd pp k) (ht : ∀ f com s, T f com s → T' f com s) : Pl T' Y wY dv mv cv w0 w pd pp k := by
  obtain ⟨X, pl, tv, pr, R, lb, lc, db, dc, nb, nc, nv, f, com, pend, live, own, wrote, h1, h2, h3, h4, h5, h6⟩ := h
  exact ⟨X, pl, tv, pr, R, lb, lc, db, dc, nb, nc, nv, f, com, pend, live, own, wrote, h1, h2, h3, h4, h5, ht _ _ _ h6⟩
theorem Pl.enter (h : Pl T Y wY dv mv cv w0 w pd pp k) (o : Obj) : ∃ X pl tv pr R lb lc db dc nb nc nv f com pend live own wrote, PlAt Y wY dv mv cv X w0 (w.alloc o) pp pl tv pr R lb lc db dc nb nc nv ∧ Up X w0 (w.alloc o) pd pl tv f com pend live own wrote (1000 + 128 * k) ∧ Cor R f com pend live own wrote ∧ pend ≤ k ∧ R.syncs ≤ k ∧ T f com R.syncs ∧ X w.heap.size ∧ (∀ b, RfB pr lb db nb R.op b → b ≠ w.heap.size) ∧ pp ≠ w.heap.size := by
  obtain ⟨X, pl, tv, pr, R, lb, lc, db, dc, nb, nc, nv, f, com, pend, live, own, wrote, h1, h2, h3, h4, h5, h6⟩ := h
  have hc : Chg (fun _ => False) w (w.alloc o) := Chg.alloc (fun _ => False) w o
  have h2' : Up (addX X w.heap.size (w.alloc o).heap.size) w0 (w.alloc o) pd pl tv f com pend live own wrote (1000 + 128 * k) := by
    rcases h2 with ⟨e1, e2, h⟩ | ⟨q, e1, h⟩
    · exact .inl ⟨e1, e2, h.add hc⟩
    · exact .inr ⟨q, e1, h.add hc⟩
  have hx : ∀ b, X b → b < w.heap.size := by
    rcases h2 with ⟨e1, e2, h⟩ | ⟨q, e1, h⟩
    · exact h.xlt
    · exact h.xlt
  refine ⟨addX X w.heap.size (w.alloc o).heap.size, pl, tv, pr, R, lb, lc, db, dc, nb, nc, nv, f, com, pend, live, own, wrote, (h1.kept hc).xsub (fun b hb => .inl hb), h2', h3, h4, h5, h6, .inr ⟨Nat.le_refl _, by rw [World.size_alloc]; omega⟩, fun b hb => ?_, ?_⟩
  · have := hx b (h1.xr b hb).1; omega
  · have := hx pp h1.xp.1; omega
theorem Pl.more (h : Pl T Y wY dv mv cv w0 w pd pp k) (hc : Chg (fun _ => False) w w') : Pl T Y wY dv mv cv w0 w' pd pp k := by
  obtain ⟨X, pl, tv, pr, R, lb, lc, db, dc, nb, nc, nv, f, com, pend, live, own, wrote, h1, h2, h3, h4, h5, h6⟩ := h
  exact ⟨X, pl, tv, pr, R, lb, lc, db, dc, nb, nc, nv, f, com, pend, live, own, wrote, h1.kept hc, h2.more hc, h3, h4, h5, h6⟩

set_option maxHeartbeats 800000 in
set_option maxRecDepth 100000 in
theorem pstep_other (op n : Int) (bv : Value) (w : World) (h1 : op ≠ 1) (h2 : op ≠ 2) (h8 : op ≠ 8) (h3 : op ≠ 3) (h4 : op ≠ 4) (h5 : op ≠ 5) (h6 : op ≠ 6) (h7 : op ≠ 7) :
    Calls Tryz.prog 56 #[.pointer (some ⟨pp, 1, none⟩), .agg #[.int .i64 op, .int .i64 n, bv]] w fun e w' => e = .returned (.bool true) ∧ Chg (fun _ => False) w w' := by
  go_enter Tryz.func56, Tryz.ntmps56
  go_wp2
  go_ret
  exact ⟨rfl, Chg.alloc (fun _ => False) w _⟩
end
end Go.Proofs.YtmlhjcjonfalhaaGreat.C

namespace Go.Proofs.YtmlhjcjonfalhaaGreat.C
open Go.RowKit Go.Maps

section
variable {T : (Nat → List Int) → (Nat → Option (List Int)) → Nat → Prop} {Y : Nat → Prop} {wY : World} {dv mv cv : Value} {X : Nat → Prop} {w0 w w' : World} {pd pp pl q pr : Nat} {tv : Value} {R : Rf} {lb lc db dc nb nc : Nat} {nv : Value} {f : Nat → List Int} {com own : Nat → Option (List Int)} {pend wrote N k : Nat} {live : Bool}
theorem pl_begun {w1 w2 : World} {nb' nc' : Nat} {nv' : Value} (h : PlAt Y wY dv mv cv X w0 w pp pl tv pr R lb lc db dc nb nc nv) (hcor : Cor R f com pend false own wrote) (ht : TxUp X w0 w1 pd pl q 70 f com pend true (fun _ => none) 0 (1000 + 128 * k)) (hs : Sm X w w1)
    (hr : RfAt w2 pr { R with op := true, W := fun _ => ByteArray.empty, wrote := 0 } lb lc db dc nb' nc' nv') (hc : Chg (fun b => b = pr) w1 w2) (h1 : w1.heap.size ≤ nb') (h2 : nb' < w2.heap.size) (hp : pend ≤ k) (hsy : R.syncs ≤ k) (hT : T f com R.syncs) :
    w2.cell? ⟨pp, 2, none⟩ = some tv ∧ w2.frozen? ⟨pp, 2, none⟩ = false ∧ Hid (Pl T Y wY dv mv cv w0 (w2.setCell ⟨pp, 2, none⟩ (.pointer (some ⟨q, 0, none⟩))) pd pp (k + 1)) := by
  have h0 := ht.chg.size
  have hpr : RfB pr lb db nb R.op pr := .inl rfl
  have p1 := h.sm hs
  have hpl : pp < w1.heap.size := (Array.getElem?_eq_some_iff.1 p1.blk).1
  have p2 := p1.did hr hc (fun e => h.ne pr hpr e.symm) (fun _ => .inr ⟨h1, h2⟩) h0 (fun b e => .inl e) (NvOk.ofOpen hr rfl (.inr ⟨h1, h2⟩) (by omega) (by omega))
  have t2 := ht.ref hc (fun b _ e => e ▸ h.xr pr hpr)
  have hcs : Chg (fun b => b = pp) w2 (w2.setCell ⟨pp, 2, none⟩ (.pointer (some ⟨q, 0, none⟩))) := Chg.setCell _ _ _ rfl
  refine ⟨p2.c1, p2.fr 2, _, pl, .pointer (some ⟨q, 0, none⟩), pr, _, lb, lc, db, dc, nb', nc', nv', f, com, pend, true, _, 0, ⟨?_, ?_, p2.xp, p2.xr, p2.ne, fun b hb => ⟨(p2.y b hb).1, (p2.y b hb).2.1, (p2.y b hb).2.2.1, by have := (p2.y b hb).2.2.2; have := hcs.size; omega⟩, p2.sn.trans (fun b hb => hcs.block b (p2.y b hb).2.2.2 (p2.y b hb).2.1), p2.nvk.keptE hcs (fun b e => .inl e)⟩, Up.mono (.inr ⟨q, rfl, t2.put p2.xp.1 p2.xp.2 hcs⟩) (by omega), hcor.begun, by omega, ?_, hT⟩
  · have := heap_setCell_same w2 pp 2 _ 44 (.pointer (some ⟨q, 0, none⟩)) p2.blk
    simpa using this
  · exact p2.rf.kept hcs (p2.ne pr (.inl rfl)) (p2.ne lb (.inr (.inl rfl))) (p2.ne db (.inr (.inr (.inl rfl)))) (fun ho => p2.ne nb' (.inr (.inr (.inr ⟨ho, rfl⟩))))
  · show R.syncs ≤ k + 1; omega

set_option maxHeartbeats 1600000 in
set_option maxRecDepth 100000 in
theorem pstep_begin (n : Int) (bv : Value) (w : World) (h : Pl T Y wY dv mv cv w0 w pd pp k) :
    Calls Tryz.prog 56 #[.pointer (some ⟨pp, 1, none⟩), .agg #[.int .i64 1, .int .i64 n, bv]] w fun e w' => e = .returned (.bool true) ∧ Pl T Y wY dv mv cv w0 w' pd pp (k + 1) := by
  have HP : Hid (Pl T Y wY dv mv cv w0 w pd pp k) := h
  obtain ⟨X, pl, tv, pr, R, lb, lc, db, dc, nb, nc, nv, f, com, pend, live, own, wrote, p1, u1, c1, b1, b2, bT, x1, x2, x3⟩ := h.enter (.cells #[.int .i64 1, .int .i64 n, bv] 52)
  obtain ⟨w1, hw1⟩ : ∃ w1, w.alloc (.cells #[.int .i64 1, .int .i64 n, bv] 52) = w1 := ⟨_, rfl⟩
  have HW : Hid (Chg (fun _ => False) w w1) := by rw [← hw1]; exact Chg.alloc (fun _ => False) w _
  cases live with
  | true =>
    rw [hw1] at p1 u1
    rcases u1 with ⟨_, e, _⟩ | ⟨q, rfl, t1⟩
    · cases e
    have HK : Hid (PlAt Y wY dv mv cv X w0 w1 pp pl (.pointer (some ⟨q, 0, none⟩)) pr R lb lc db dc nb nc nv ∧ TxUp X w0 w1 pd pl q 70 f com pend true own wrote (1000 + 128 * k) ∧ R.op = true) := ⟨p1, t1, c1.o⟩
    have d0 := p1.c0
    have d2 := p1.c2
    rw [← hw1] at d0 d2
    have HW1 : Hid (w.alloc (.cells #[.int .i64 1, .int .i64 n, bv] 52) = w1) := hw1
    clear h p1 t1 c1 x1 x2 x3 hw1 bT
    go_enter Tryz.func56, Tryz.ntmps56
    go_wp2_with fail
    rw [HW1.out]
    rw [HW1.out] at d0 d2
    refine (begin_busy_up HK.out.2.1).mono ?_
    rintro e w2 ⟨rfl, rfl⟩
    go_wp2_with fail
    refine (rbegin_busy w2 HK.out.1.rf HK.out.2.2).mono ?_
    rintro e w3 ⟨rfl, rfl⟩
    have hq := eqT_nn
    have hq2 := neqT_nn
    have HQ : Hid (Pl T Y wY dv mv cv w0 w3 pd pp (k + 1)) := (HP.out.more HW.out).up (by omega)
    clear HK HP
    go_wp2
    go_ret
    exact ⟨rfl, HQ.out⟩
  | false =>
    rw [hw1] at p1 u1
    have HK : Hid (PlAt Y wY dv mv cv X w0 w1 pp pl tv pr R lb lc db dc nb nc nv ∧ LogUp X w0 w1 pd pl 70 f com pend (1000 + 128 * k) ∧ Cor R f com pend false own wrote) := ⟨p1, u1.log, c1⟩
    have d0 := p1.c0
    rw [← hw1] at d0
    have HW1 : Hid (w.alloc (.cells #[.int .i64 1, .int .i64 n, bv] 52) = w1) := hw1
    have HB : Hid (pend ≤ k ∧ R.syncs ≤ k ∧ T f com R.syncs) := ⟨b1, b2, bT⟩
    obtain htv := u1.form
    clear h p1 u1 c1 x1 x2 x3 hw1 b1 b2 bT
    go_enter Tryz.func56, Tryz.ntmps56
    go_wp2_with fail
    rw [HW1.out]
    rw [HW1.out] at d0
    refine (begin_up HK.out.2.1).mono ?_
    rintro e w2 ⟨q, rfl, t2, s2⟩
    have p2 := HK.out.1.sm s2
    have d2 := p2.c2
    have HT : Hid (TxUp X w0 w2 pd pl q 70 f com pend true (fun _ => none) 0 (1000 + 128 * k) ∧ Sm X w1 w2 ∧ RfAt w2 pr R lb lc db dc nb nc nv) := ⟨t2, s2, p2.rf⟩
    clear t2 s2 p2 d0
    go_wp2_with fail
    refine (rbegin_any w2 HT.out.2.2 HK.out.2.2.o).mono ?_
    rintro e w3 ⟨rfl, nb', nv', hr, hc, g1, g2⟩
    obtain ⟨e1, e2, HQ⟩ := pl_begun HK.out.1 HK.out.2.2 HT.out.1 HT.out.2.1 hr hc g1 g2 HB.out.1 HB.out.2.1 HB.out.2.2
    have hq := eqT_some ⟨q, 0, none⟩
    have hq2 := neqT_some ⟨q, 0, none⟩
    clear HT HK hr hc g1 g2 HB d2
    rcases htv with rfl | ⟨q0, rfl⟩
    · go_wp2
      go_ret
      exact ⟨rfl, HQ.out⟩
    · go_wp2
      go_ret
      exact ⟨rfl, HQ.out⟩
end
end Go.Proofs.YtmlhjcjonfalhaaGreat.C

namespace Go.Proofs.YtmlhjcjonfalhaaGreat.C
open Go.RowKit Go.Maps

section
variable {T : (Nat → List Int) → (Nat → Option (List Int)) → Nat → Prop} {Y : Nat → Prop} {wY : World} {dv mv cv : Value} {X : Nat → Prop} {w0 w w' : World} {pd pp pl q pr : Nat} {tv : Value} {R : Rf} {lb lc db dc nb nc : Nat} {nv : Value} {f : Nat → List Int} {com own : Nat → Option (List Int)} {pend wrote N k : Nat} {live : Bool}

/-- The document's log did something to its own blocks, and made none. -/
theorem pl_ref {E : Nat → Prop} {R' : Rf} {nv' : Value} (h : PlAt Y wY dv mv cv X w0 w pp pl tv pr R lb lc db dc nb nc nv) (hu : Up X w0 w pd pl tv f com pend live own wrote N) (hr : RfAt w' pr R' lb lc db dc nb nc nv') (hc : Chg E w w') (hE : ∀ b, E b → RfB pr lb db nb R.op b) (ho : R'.op = true → R.op = true) (hnv : NvOk X w0 w' pp pr lb db nv') :
    PlAt Y wY dv mv cv (addX X w.heap.size w'.heap.size) w0 w' pp pl tv pr R' lb lc db dc nb nc nv' ∧ Up (addX X w.heap.size w'.heap.size) w0 w' pd pl tv f com pend live own wrote N :=
  ⟨h.did hr hc (fun e => h.ne pp (hE pp e) rfl) (fun e => .inl ⟨ho e, rfl⟩) hu.chg.size hE (hnv.xsub (fun _b hb => .inl hb)), hu.ref hc (fun b _ e => h.xr b (hE b e))⟩
/-- What lasts behind an act: what lasted, or what was committed ahead of it. -/
def Tn (T : (Nat → List Int) → (Nat → Option (List Int)) → Nat → Prop) (f : Nat → List Int) (_com : Nat → Option (List Int)) (s : Nat) : Prop :=
  ∃ f0 com0 s0, T f0 com0 s0 ∧ ((f = f0 ∧ s = s0) ∨ (f = ovr f0 com0 ∧ s = s0 + 1))
theorem Tn.same {f : Nat → List Int} {com : Nat → Option (List Int)} {s : Nat} (h : T f com s) (com' : Nat → Option (List Int)) : Tn T f com' s := ⟨f, com, s, h, .inl ⟨rfl, rfl⟩⟩
theorem Tn.synced {f : Nat → List Int} {com : Nat → Option (List Int)} {s : Nat} (h : T f com s) (com' : Nat → Option (List Int)) : Tn T (ovr f com) com' (s + 1) := ⟨f, com, s, h, .inr ⟨rfl, rfl⟩⟩
/-- The power went in a Sync: one of two lasts. -/
def PlOff (T : (Nat → List Int) → (Nat → Option (List Int)) → Nat → Prop) (Y : Nat → Prop) (wY : World) (dv mv cv : Value) (w0 w : World) (pd pp k : Nat) : Prop :=
  ∃ X f0 com0 s0 pl tv pr, T f0 com0 s0 ∧ Off2 X w0 w pd f0 (ovr f0 com0) (1000 + 128 * k) ∧ w.heap[pp]? = some (.cells #[dv, .pointer (some ⟨pl, 0, none⟩), tv, .pointer (some ⟨pr, 0, none⟩), mv, cv] 44 (0, 0)) ∧ X pp ∧ w0.heap.size ≤ pp ∧ (∀ b, Y b → X b ∧ b ≠ pp) ∧ Sm Y wY w
theorem PlAt.gone {f0 : Nat → List Int} {com0 : Nat → Option (List Int)} {s0 : Nat} (h : PlAt Y wY dv mv cv X w0 w pp pl tv pr R lb lc db dc nb nc nv) (ht : T f0 com0 s0) (ho : Off2 X w0 w pd f0 (ovr f0 com0) (1000 + 128 * k)) : PlOff T Y wY dv mv cv w0 w pd pp k :=
  ⟨X, f0, com0, s0, pl, tv, pr, ht, ho, h.blk, h.xp.1, h.xp.2, fun b hb => ⟨(h.y b hb).1, (h.y b hb).2.1⟩, h.sn⟩
/-- An act is done, or cut. -/
def AcTo (T : (Nat → List Int) → (Nat → Option (List Int)) → Nat → Prop) (Y : Nat → Prop) (wY : World) (dv mv cv : Value) (w0 : World) (pd pp k : Nat) (e : Ending) (w : World) : Prop :=
  (e = .returned (.bool true) ∧ Pl (Tn T) Y wY dv mv cv w0 w pd pp k) ∨ ∃ b, e = .returned (.bool b) ∧ PlOff T Y wY dv mv cv w0 w pd pp k

set_option maxHeartbeats 1600000 in
set_option maxRecDepth 100000 in
theorem pstep_abort (n : Int) (bv : Value) (w : World) (h : Pl T Y wY dv mv cv w0 w pd pp k) :
    Calls Tryz.prog 56 #[.pointer (some ⟨pp, 1, none⟩), .agg #[.int .i64 4, .int .i64 n, bv]] w fun e w' => e = .returned (.bool true) ∧ Pl T Y wY dv mv cv w0 w' pd pp (k + 1) := by
  have HP : Hid (Pl T Y wY dv mv cv w0 w pd pp k) := h
  obtain ⟨X, pl, tv, pr, R, lb, lc, db, dc, nb, nc, nv, f, com, pend, live, own, wrote, p1, u1, c1, b1, b2, bT, x1, x2, x3⟩ := h.enter (.cells #[.int .i64 4, .int .i64 n, bv] 52)
  obtain ⟨w1, hw1⟩ : ∃ w1, w.alloc (.cells #[.int .i64 4, .int .i64 n, bv] 52) = w1 := ⟨_, rfl⟩
  have HW : Hid (Chg (fun _ => False) w w1) := by rw [← hw1]; exact Chg.alloc (fun _ => False) w _
  have d1 := p1.c1
  have HW1 : Hid (w.alloc (.cells #[.int .i64 4, .int .i64 n, bv] 52) = w1) := hw1
  rw [hw1] at p1 u1
  have HB : Hid (pend ≤ k ∧ R.syncs ≤ k ∧ Cor R f com pend live own wrote ∧ T f com R.syncs) := ⟨b1, b2, c1, bT⟩
  clear bT
  rcases u1 with ⟨rfl, e, l1⟩ | ⟨q, rfl, t1⟩
  · have hq := neqT_nn
    have HQ : Hid (Pl T Y wY dv mv cv w0 w1 pd pp (k + 1)) := (HP.out.more HW.out).up (by omega)
    clear h p1 c1 x1 x2 x3 l1 b1 b2 HB HP HW hw1
    go_enter Tryz.func56, Tryz.ntmps56
    go_wp2
    go_ret
    rw [HW1.out]
    exact ⟨rfl, HQ.out⟩
  · have hq := neqT_some ⟨q, 0, none⟩
    have AB : Hid (Calls Tryz.prog 72 #[.pointer (some ⟨q, 0, none⟩)] w1 fun e w2 => e = .returned (.tuple #[]) ∧ w2.cell? ⟨pp, 3, none⟩ = some (.pointer (some ⟨pr, 0, none⟩)) ∧ ∃ wrote', Hid (PlAt Y wY dv mv cv X w0 w2 pp pl (.pointer (some ⟨q, 0, none⟩)) pr R lb lc db dc nb nc nv ∧ TxUp X w0 w2 pd pl q 70 f com pend false (fun _ => none) wrote' (1000 + 128 * k))) := by
      cases live with
      | true =>
        refine (abort_up t1).mono ?_
        rintro e w2 ⟨rfl, t2, s2⟩
        exact ⟨rfl, (p1.sm s2).c2, _, p1.sm s2, t2⟩
      | false =>
        refine (abort_dead_up t1).mono ?_
        rintro e w2 ⟨rfl, rfl⟩
        have e := t1.ownNone
        subst e
        exact ⟨rfl, p1.c2, _, p1, t1⟩
    clear h p1 c1 x1 x2 x3 t1 b1 b2 HP HW hw1
    go_enter Tryz.func56, Tryz.ntmps56
    go_wp2_with fail
    rw [HW1.out]
    refine AB.out.mono ?_
    rintro e w2 ⟨rfl, d2, wrote', HK⟩
    rw [HW1.out] at d1
    clear AB d1
    go_wp2_with fail
    refine (rabort_any w2 HK.out.1.rf).mono ?_
    rintro e w3 ⟨rfl, hr, hc⟩
    have HQ : Hid (Pl T Y wY dv mv cv w0 w3 pd pp (k + 1)) := by
      obtain ⟨p3, u3⟩ := pl_ref HK.out.1 (.inr ⟨q, rfl, HK.out.2⟩) hr hc (fun b e => .inl e) (fun e => by cases e) (HK.out.1.nvk.keptE hc (fun b e => .inr (.inl e)))
      exact ⟨_, pl, _, pr, _, lb, lc, db, dc, nb, nc, nv, f, com, pend, false, _, wrote', p3, u3.mono (by omega), HB.out.2.2.1.aborted _ _, by have := HB.out.1; omega, by have := HB.out.2.1; show R.syncs ≤ k + 1; omega, HB.out.2.2.2⟩
    clear HK HB hr hc d2
    go_wp2
    go_ret
    exact ⟨rfl, HQ.out⟩

set_option maxHeartbeats 1600000 in
set_option maxRecDepth 100000 in
theorem pstep_sync (n : Int) (bv : Value) (w : World) (h : Pl T Y wY dv mv cv w0 w pd pp k) (hk : k < 1000) :
    Calls Tryz.prog 56 #[.pointer (some ⟨pp, 1, none⟩), .agg #[.int .i64 5, .int .i64 n, bv]] w fun e w' => AcTo T Y wY dv mv cv w0 pd pp (k + 1) e w' := by
  obtain ⟨X, pl, tv, pr, R, lb, lc, db, dc, nb, nc, nv, f, com, pend, live, own, wrote, p1, u1, c1, b1, b2, bT, x1, x2, x3⟩ := h.enter (.cells #[.int .i64 5, .int .i64 n, bv] 52)
  obtain ⟨w1, hw1⟩ : ∃ w1, w.alloc (.cells #[.int .i64 5, .int .i64 n, bv] 52) = w1 := ⟨_, rfl⟩
  have d2 := p1.c2
  have HW1 : Hid (w.alloc (.cells #[.int .i64 5, .int .i64 n, bv] 52) = w1) := hw1
  rw [hw1] at p1 u1
  have HK : Hid (PlAt Y wY dv mv cv X w0 w1 pp pl tv pr R lb lc db dc nb nc nv ∧ Up X w0 w1 pd pl tv f com pend live own wrote (1000 + 128 * k) ∧ R.syncs ≤ k) := ⟨p1, u1, b2⟩
  have HB : Hid (pend ≤ k ∧ R.syncs ≤ k ∧ Cor R f com pend live own wrote ∧ T f com R.syncs) := ⟨b1, b2, c1, bT⟩
  clear bT
  clear h p1 c1 x1 x2 x3 u1 b1 b2 hw1
  go_enter Tryz.func56, Tryz.ntmps56
  go_wp2_with fail
  rw [HW1.out]
  rw [HW1.out] at d2
  refine (rsync_any w1 HK.out.1.rf (by have := HK.out.2.2; omega)).mono ?_
  rintro e w2 ⟨rfl, hr, hc⟩
  obtain ⟨p2, u2⟩ := pl_ref HK.out.1 HK.out.2.1 hr hc (fun b e => by
    rcases e with e | e
    · exact .inl e
    · exact .inr (.inr (.inl e))) (fun e => e) (HK.out.1.nvk.keptE hc (fun b e => by
      rcases e with e | e
      · exact .inr (.inl e)
      · exact .inr (.inr (.inr e))))
  obtain ⟨X2, hX2⟩ : ∃ X2, addX X w1.heap.size w2.heap.size = X2 := ⟨_, rfl⟩
  rw [hX2] at p2 u2
  have d0 := p2.c0
  have SY : Hid (Calls Tryz.prog 17 #[.pointer (some ⟨pl, 0, none⟩)] w2 fun e w3 => (e = .returned (.int .i64 0) ∧ Hid (Pl (Tn T) Y wY dv mv cv w0 w3 pd pp (k + 1))) ∨ (e = .returned (.int .i64 6) ∧ Hid (PlOff T Y wY dv mv cv w0 w3 pd pp (k + 1)))) := by
    have hN : 1000 + 128 * k + 128 = 1000 + 128 * (k + 1) := by omega
    rcases u2 with ⟨e1, e2, l2⟩ | ⟨q, e1, t2⟩
    · refine (sync_up l2 (by omega)).mono ?_
      rintro e w3 ⟨s3, ⟨rfl, l3⟩ | ⟨rfl, o3⟩⟩
      · rw [hN] at l3
        exact .inl ⟨rfl, X2, pl, tv, pr, _, lb, lc, db, dc, nb, nc, nv, ovr f com, _, 0, live, own, wrote, p2.sm s3, .inl ⟨e1, e2, l3⟩, HB.out.2.2.1.synced, by omega, by have := HB.out.2.1; show R.syncs + 1 ≤ k + 1; omega, Tn.synced HB.out.2.2.2 _⟩
      · rw [hN] at o3
        exact .inr ⟨rfl, (p2.sm s3).gone HB.out.2.2.2 o3⟩
    · refine (sync_upT t2 (by omega)).mono ?_
      rintro e w3 ⟨s3, ⟨rfl, l3⟩ | ⟨rfl, o3⟩⟩
      · rw [hN] at l3
        exact .inl ⟨rfl, X2, pl, tv, pr, _, lb, lc, db, dc, nb, nc, nv, ovr f com, _, 0, live, own, wrote, p2.sm s3, .inr ⟨q, e1, l3⟩, HB.out.2.2.1.synced, by omega, by have := HB.out.2.1; show R.syncs + 1 ≤ k + 1; omega, Tn.synced HB.out.2.2.2 _⟩
      · rw [hN] at o3
        exact .inr ⟨rfl, (p2.sm s3).gone HB.out.2.2.2 o3⟩
  clear HK HB hr hc p2 u2 hX2 d2
  go_wp2_with fail
  refine SY.out.mono ?_
  rintro e w3 (⟨rfl, HQ⟩ | ⟨rfl, HQ⟩)
  · clear SY d0
    go_wp2
    go_ret
    exact .inl ⟨rfl, HQ.out⟩
  · clear SY d0
    go_wp2
    go_ret
    exact .inr ⟨false, rfl, HQ.out⟩
end
end Go.Proofs.YtmlhjcjonfalhaaGreat.C
