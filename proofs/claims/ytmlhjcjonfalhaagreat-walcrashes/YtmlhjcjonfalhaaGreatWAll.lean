/-
  Strings in a row, and the contract of all of the laws: a log that tells just these blocks.
-/
import Derived.Test.YtmlhjcjonfalhaaGreatWArm
import Derived.BigQuiet
import Derived.Deep.QuietTactic
namespace Go.Proofs.YtmlhjcjonfalhaaGreat
open Go.RowKit Go.Maps

/-- Block q is a row of m strings. -/
def Arr (W : World) (q m : Nat) (T : Nat → ByteArray) : Prop := ∃ (cs : Array Value) (ty : TypeId), W.heap[q]? = some (.cells cs ty (0, 0)) ∧ cs.size = m ∧ ∀ n, n < m → cs[n]? = some (.string (T n))
theorem Arr.cell {W : World} {q m : Nat} {T : Nat → ByteArray} (h : Arr W q m T) {n : Nat} (hn : n < m) : W.cell? ⟨q, n, none⟩ = some (.string (T n)) ∧ W.frozen? ⟨q, n, none⟩ = false := by
  obtain ⟨cs, ty, h1, h2, h3⟩ := h
  exact ⟨by rw [cell_of_row W q n _ _ _ h1]; exact h3 n hn, by simp [World.frozen?, h1]⟩
theorem Arr.lt {W : World} {q m : Nat} {T : Nat → ByteArray} (h : Arr W q m T) : q < W.heap.size := by
  obtain ⟨cs, ty, h1, _⟩ := h
  exact (Array.getElem?_eq_some_iff.1 h1).1
theorem Arr.kept {E : Nat → Prop} {W W' : World} {q m : Nat} {T : Nat → ByteArray} (h : Arr W q m T) (hc : Chg E W W') (hE : ¬ E q) : Arr W' q m T := by
  have hl := h.lt
  obtain ⟨cs, ty, h1, h2⟩ := h
  exact ⟨cs, ty, (hc.block q hl hE).trans h1, h2⟩
theorem Arr.sm {X : Nat → Prop} {W W' : World} {q m : Nat} {T : Nat → ByteArray} (h : Arr W q m T) (hs : Sm X W W') (hx : X q) : Arr W' q m T := by
  obtain ⟨cs, ty, h1, h2⟩ := h
  exact ⟨cs, ty, (hs q hx).trans h1, h2⟩
theorem Arr.set {W : World} {q m : Nat} {T : Nat → ByteArray} (h : Arr W q m T) {n : Nat} (hn : n < m) (t : ByteArray) : Arr (W.setCell ⟨q, n, none⟩ (.string t)) q m (upd T n t) := by
  obtain ⟨cs, ty, h1, h2, h3⟩ := h
  refine ⟨_, ty, heap_setCell_same W q n _ _ (.string t) h1, by simpa using h2, fun k hk => ?_⟩
  by_cases e : k = n
  · subst e
    rw [upd_same, Array.getElem?_setIfInBounds, if_pos rfl, if_pos (by rw [h2]; exact hk)]
  · rw [upd_other _ _ e, Array.getElem?_setIfInBounds, if_neg (fun e2 => e e2.symm)]
    exact h3 k hk
theorem Arr.congr {W : World} {q m : Nat} {T T' : Nat → ByteArray} (h : Arr W q m T) (e : ∀ n, n < m → T n = T' n) : Arr W q m T' := by
  obtain ⟨cs, ty, h1, h2, h3⟩ := h
  exact ⟨cs, ty, h1, h2, fun n hn => by rw [h3 n hn, e n hn]⟩
/-- A slice of strings. -/
def Ss (w : World) (v : Value) (T : Nat → ByteArray) (m : Nat) : Prop := ∃ g o c, v = .slice (some ⟨g, o, none⟩) m c ∧ m ≤ c ∧ ∀ n, n < m → w.cell? ⟨g, o + n, none⟩ = some (.string (T n))
theorem Ss.kept {w w' : World} {v : Value} {T : Nat → ByteArray} {m : Nat} (h : Ss w v T m) (hc : Chg (fun _ => False) w w') : Ss w' v T m := by
  obtain ⟨g, o, c, e, h1, h2⟩ := h
  exact ⟨g, o, c, e, h1, fun n hn => hc.cell (h2 n hn) (fun h => h)⟩
theorem Arr.ss {W : World} {q m : Nat} {T : Nat → ByteArray} (h : Arr W q m T) : Ss W (.slice (some ⟨q, 0, none⟩) m m) T m := ⟨q, 0, m, rfl, Nat.le_refl _, fun n hn => by rw [Nat.zero_add]; exact (h.cell hn).1⟩

section
variable {X : Nat → Prop} {w0 w w' : World} {pd pl q K : Nat} {f : Nat → List Int} {com own : Nat → Option (List Int)} {pend wrote N : Nat} {live : Bool}
theorem Nw.put {F G : Nat → Prop} {r : Nat} (h : Nw X w0 w F G) (_hx : X r) (hr : w0.heap.size ≤ r) (hc : Chg (fun b => b = r) w w') : Nw X w0 w' F G :=
  ⟨h.chg.trans hc (fun i hi e => by omega), h.f, h.g, fun b hb => ⟨by have := (h.x b hb).1; have := hc.size; omega, (h.x b hb).2⟩⟩
/-- A store into memory that is not the log's. -/
theorem LogUp.put {r : Nat} (h : LogUp X w0 w pd pl K f com pend N) (hx : X r) (hr : w0.heap.size ≤ r) (hc : Chg (fun b => b = r) w w') : LogUp X w0 w' pd pl K f com pend N := by
  obtain ⟨F, G, S, m, V, h1, h2, h3, h4, h5, h6, h7⟩ := h
  have hn := h7.x r hx
  exact ⟨F, G, S, m, V, ⟨h1.dk.kept hc (fun b hb e => hn.2.1 (e ▸ hb)), h1.lg.kept hc (fun b hb e => hn.2.2 (e ▸ hb)), h1.no, h1.nb⟩, h2, h3, h4, h5, h6, h7.put hx hr hc⟩
theorem TxUp.put {r : Nat} (h : TxUp X w0 w pd pl q K f com pend live own wrote N) (hx : X r) (hr : w0.heap.size ≤ r) (hc : Chg (fun b => b = r) w w') : TxUp X w0 w' pd pl q K f com pend live own wrote N := by
  obtain ⟨F, G, S, m, V, mt, Vt, h1, h2, h3, h4, h5, h6, h7, h8⟩ := h
  have hn := h7.x r hx
  exact ⟨F, G, S, m, V, mt, Vt, h1.keptE hc (fun b hb e => hn.2.1 (e ▸ hb)) (fun b hb e => hn.2.2 (e ▸ hb)), h2, h3, h4, h5, h6, h7.put hx hr hc, h8⟩
theorem TxUp.qlt (h : TxUp X w0 w pd pl q K f com pend live own wrote N) : q < w.heap.size := by
  obtain ⟨F, G, S, m, V, mt, Vt, h1, _⟩ := h
  exact h1.tx.lt q h1.tx.fp
theorem write_at (n : Nat) (bs : List Int) (ua : Option Addr) (uc : Nat) (h : TxUp X w0 w pd pl q K f com pend true own wrote N) (hb : Bs w (.slice ua 512 uc) bs) (hne : ∀ a, ua = some a → a.block ≠ q) (hl : bs.length = 512) (hn : n < K) (hr : own n ≠ none ∨ wrote < 63) :
    Calls Tryz.prog 14 #[.pointer (some ⟨q, 0, none⟩), .int .i64 (n : Int), .slice ua 512 uc] w fun e w' => e = .returned (.int .i64 0) ∧ TxUp X w0 w' pd pl q K f com pend true (upd own n (some bs)) (ks K (upd own n (some bs))).length N ∧ Sm X w w' := by
  obtain ⟨F, G, S, m, V, mt, Vt, h1, h2, h3, h4, h5, h6, h7, h8, h9⟩ := h
  have inv := h8 rfl
  have hgE : ∀ b, b < w.heap.size → (b = q ∨ b = mt) → F b ∨ G b := fun b _ e => by
    rcases e with e | e
    · exact .inr (e ▸ h1.tx.fp)
    · exact .inr (e ▸ h1.tx.mb.fm)
  cases ho : own n with
  | some b0 =>
    refine (twrite_again n bs b0 ua uc w h1 hn hb hl h3 ho).mono ?_
    rintro e w' ⟨G', Vt', rfl, htk, hch, hG⟩
    have e := ks_upd_again (K := K) (b := bs) ho
    have hq := h7.step hch hgE (fun _ h => .inl h) hG
    exact ⟨rfl, ⟨F, G', S, m, V, mt, Vt', by rw [e, ← inv.1]; exact htk, h2, h3, h4, h5, h6, hq.1, fun _ => ⟨rfl, by omega⟩, (fun h => by cases h)⟩, hq.2⟩
  | none =>
    have hr' : wrote < 63 := by
      rcases hr with h | h
      · exact absurd ho h
      · exact h
    refine (twrite_first n bs ua uc w h1 hn hb hl h3 ho hr' hne).mono ?_
    rintro e w' ⟨G', Vt', rfl, htk, hch, hG⟩
    have e := ks_upd_first (K := K) (b := bs) hn ho
    have hq := h7.step hch hgE (fun _ h => .inl h) hG
    exact ⟨rfl, ⟨F, G', S, m, V, mt, Vt', by rw [e, ← inv.1]; exact htk, h2, h3, h4, h5, h6, hq.1, fun _ => ⟨rfl, by omega⟩, (fun h => by cases h)⟩, hq.2⟩
theorem read_out_up (n : Int) (h : LogUp X w0 w pd pl K f com pend N) (hn : ¬ (0 ≤ n ∧ n < K)) :
    Calls Tryz.prog 18 #[.pointer (some ⟨pl, 0, none⟩), .int .i64 n] w fun e w' => e = .returned (.tuple #[.slice none 0 0, .int .i64 1]) ∧ w' = w := by
  obtain ⟨F, G, S, m, V, h1, _⟩ := h
  exact lread_out n w h1 hn

set_option maxHeartbeats 3200000 in
set_option maxRecDepth 100000 in
theorem all_true (v : Value) (T : Nat → ByteArray) (w : World) (h : LogUp X w0 w pd pl K f com pend N) (hs : Ss w v T K) (ht : ∀ n, n < K → T n = strOf (ovr f com n)) (hN : N < 1000000000) :
    Calls Tryz.prog 57 #[.pointer (some ⟨pl, 0, none⟩), v] w fun e w' => e = .returned (.bool true) ∧ Chg (fun _ => False) w w' := by
  obtain ⟨g, o, c, rfl, hc, hcell⟩ := hs
  have hK := h.lt.2.2
  have H0 : Hid (LogUp X w0 w pd pl K f com pend N ∧ (∀ n, n < K → w.cell? ⟨g, o + n, none⟩ = some (.string (T n))) ∧ (∀ n, n < K → T n = strOf (ovr f com n))) := ⟨h, hcell, ht⟩
  clear h hcell ht
  go_enter Tryz.func57, Tryz.ntmps57
  go_wp2
  go_loopw [5, 6, 7] (fun x _ _ wr => ∃ i, i ≤ K ∧ x = .int .i64 ((i : Nat) : Int) ∧ Hid (LogUp X w0 wr pd pl K f com pend N ∧ Chg (fun _ => False) w wr)) (fun x _ _ _ => K - (intOf x).toNat)
  case atStart => exact ⟨0, by omega, rfl, H0.out.1, Chg.refl _ _⟩
  case round =>
    obtain ⟨i, hi, rfl, HR⟩ := hrel
    by_cases hlt : i < K
    · have hki : (i : Int) < (K : Int) := by omega
      have hkn : i < K := hlt
      go_wp2_with fail
      refine (read_up i HR.out.1 hlt hN).mono ?_
      rintro e w1 ⟨u, rfl, fr⟩
      have hch : Chg (fun _ => False) w w1 := HR.out.2.trans fr.chg (fun _ _ h => h)
      have cl := hch.cell (H0.out.2.1 i hlt) (fun h => h)
      have H1 : Hid (LogUp X w0 w1 pd pl K f com pend N ∧ Chg (fun _ => False) w w1) := ⟨HR.out.1.more fr.chg, hch⟩
      rw [H0.out.2.2 i hlt] at cl
      have s1 := run_str (fr.bs.kept (Chg.drew (fun _ => False) w1) (fun _ _ _ _ _ h => h))
      have s0 := run_str fr.bs
      obtain ⟨t, ht⟩ : ∃ t, strOf (ovr f com i) = t := ⟨_, rfl⟩
      rw [ht] at cl s1 s0
      have hse := str_same t
      clear ht fr hch HR
      go_wp2_with fail
      go_region_held (fun w' => (convert 50 9 u).run Tryz.prog w' = .ok (.string t) w' ∧ w'.cell? ⟨g, o + i, none⟩ = some (.string t))
        (first | assumption | exact ⟨s1, cl⟩ | exact ⟨s0, cl⟩)
        (fail)
      all_goals
        clear s1 s0 cl
        go_wp2
        go_roundw
        case rel => exact ⟨i + 1, by omega, by go_num, H1.out.1.more (Chg.drew (fun _ => False) w1), H1.out.2.trans (Chg.drew (fun _ => False) w1) (fun _ _ h => h)⟩
        case measure => simp [intOf]; omega
    · have hie : i = K := by omega
      subst hie
      have hki : ¬ ((i : Int) < (i : Int)) := by omega
      go_wp2_with fail
      refine (read_out_up (i : Int) HR.out.1 (by omega)).mono ?_
      rintro e w1 ⟨rfl, rfl⟩
      go_wp2_with fail
      refine (blocks_up HR.out.1).mono ?_
      rintro e w2 ⟨rfl, rfl⟩
      have HQ : Hid (Chg (fun _ => False) w w2) := HR.out.2
      clear HR
      go_wp2
      go_ret
      exact ⟨by simp, HQ.out⟩
end
end Go.Proofs.YtmlhjcjonfalhaaGreat
