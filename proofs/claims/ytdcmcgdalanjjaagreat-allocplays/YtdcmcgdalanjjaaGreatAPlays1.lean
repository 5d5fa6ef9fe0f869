/-
  A pool beside the document's own, over transactions: the play of the law, and what each act makes of it.
-/
import Derived.Test.YtdcmcgdalanjjaaGreatARef2
import Derived.Test.YtdcmcgdalanjjaaGreatALawApart
import Derived.Maps.AppendAt
namespace Go.Proofs.YtdcmcgdalanjjaaGreat
open Go.RowKit Go.Maps

/-- An act. -/
structure PAct where
  op : Int
  n : Int
structure PActAt (w : World) (b o : Nat) (d : PAct) : Prop where
  c0 : w.cell? ⟨b, o, none⟩ = some (.int .i64 d.op)
  c1 : w.cell? ⟨b, o + 1, none⟩ = some (.int .i64 d.n)
  hn : -9223372036854775808 ≤ d.n ∧ d.n ≤ 9223372036854775807
/-- v is a slice of acts that reads l. -/
def PActs (w : World) (v : Value) (l : List PAct) : Prop :=
  ((∃ a c, v = .slice a 0 c) ∧ l = []) ∨
  ∃ b off c, v = .slice (some ⟨b, off, none⟩) l.length c ∧ ∀ (j : Nat) d, l[j]? = some d → PActAt w b (off + j * 2) d
theorem PActAt.kept {S : Nat → Prop} {w w' : World} {b o : Nat} {d : PAct} (h : PActAt w b o d) (hc : Chg S w w') (hS : ¬ S b) : PActAt w' b o d :=
  ⟨hc.cell h.c0 hS, hc.cell h.c1 hS, h.hn⟩
theorem PActs.kept {w w' : World} {v : Value} {l : List PAct} (h : PActs w v l) (hc : Chg (fun _ => False) w w') : PActs w' v l := by
  rcases h with h | ⟨b, off, c, e, hd⟩
  · exact .inl h
  · exact .inr ⟨b, off, c, e, fun j d hj => (hd j d hj).kept hc (fun h => h)⟩
theorem PActs.form {w : World} {v : Value} {l : List PAct} (h : PActs w v l) : ∃ a c, v = .slice a l.length c := by
  rcases h with ⟨⟨a, c, rfl⟩, rfl⟩ | ⟨b, off, c, rfl, _⟩
  · exact ⟨a, c, rfl⟩
  · exact ⟨_, _, rfl⟩
theorem PActs.at {w : World} {a : Option Addr} {n c i : Nat} {l : List PAct} (h : PActs w (.slice a n c) l) (hi : i < l.length) : ∃ b off, a = some ⟨b, off, none⟩ ∧ PActAt w b (off + i * 2) l[i] := by
  rcases h with ⟨_, rfl⟩ | ⟨b, off, c', e, hd⟩
  · simp at hi
  · cases e
    exact ⟨b, off, rfl, hd i l[i] (by simp [hi])⟩

/-- A row of bools copied: append([]bool{}, row...). -/
theorem copyB {w : World} {b c n : Nat} {T : Nat → Bool} (h : Bw w b n T) (h1 : 1 ≤ n) (h2 : n ≤ 16384) :
    ∃ (g' c' : Nat) (w' : World), (Builtin.append_ #[31, 31] 31 #[.slice (some ⟨w.heap.size, 0, none⟩) 0 0, .slice (some ⟨b, 0, none⟩) n c]).run Tryz.prog (w.alloc (.cells #[] 4)) = .ok (.slice (some ⟨g', 0, none⟩) n c') w' ∧ n ≤ c' ∧ Bw w' g' n T ∧ Chg (fun _ => False) w w' ∧ w.heap.size ≤ g' := by
  obtain ⟨i, hi, hz, hs, hb⟩ := info4_parts
  have hown : (w.alloc (.cells #[] 4)).ownsRow w.heap.size 4 1 (.slice (some ⟨w.heap.size, 0, none⟩) 0 0) 0 [] := World.ownsRow_lit (base := w.heap.size) (e := 4) (size := 1) w #[] 0 (Nat.le_refl _) (by simp [maxLen]) rfl
  have hk := h.kept (Chg.alloc (fun _ => False) w (.cells #[] 4)) (fun h => h)
  obtain ⟨v', w', hr, ho, hg, hne, hob⟩ := run_append_own_at (P := Tryz.prog) (w.alloc (.cells #[] 4)) w.heap.size 31 31 4 i (.bool false) 1 1 Tryz.underlying31 hi hz hs hb rfl (by decide) _ 0 [] hown ⟨b, 0, none⟩ n c ((List.range n).map fun j => Value.bool (T j)) (by simp)
    (fun j u hu => by
      have hj : j < n := by have := (List.getElem?_eq_some_iff.1 hu).1; simpa using this
      have e1 : u = .bool (T j) := by simp [hj] at hu; exact hu.symm
      rw [add_zero_off, e1]
      exact (hk.cell hj).1)
    (fun u hu => by obtain ⟨n, _, rfl⟩ := List.mem_map.1 hu; rfl) (by simp [maxLen]; omega) (by simp; omega) (by simp)
  have hc : Chg (fun _ => False) w w' := (Chg.alloc (fun _ => False) w (.cells #[] 4)).trans (Chg.ofGrown hg) (fun k hk e => by simp [Value.ownBlock] at e; omega)
  simp only [Nat.zero_add, List.nil_append] at ho
  rcases ho.2 with ⟨_, h0⟩ | ⟨g', cap, cur, rfl, hb', hg', hnc, hcm, hcs, htake⟩
  · omega
  · refine ⟨g', cap, w', hr, hnc, ⟨cur, 4, hg', by omega, fun j hj => ?_⟩, hc, hb'⟩
    have hcell := ho.cells (g := g') rfl j (.bool (T j)) (by simp [hj])
    rw [add_zero_off] at hcell
    simpa [World.cell?, hg'] using hcell

section
variable {X : Nat → Prop} {w0 w w' : World} {pd pl q K B M F n : Nat} {f : Nat → List Int} {com own : Nat → Option (List Int)} {pend wrote N : Nat} {live : Bool} {V : Nat → List Int} {T : Nat → Bool}
theorem Nw.ref {F G E : Nat → Prop} (h : Nw X w0 w F G) (hc : Chg E w w') (hE : ∀ b, b < w.heap.size → E b → X b ∧ w0.heap.size ≤ b) (hF : ∀ b, F b → b < w.heap.size) (hG : ∀ b, G b → b < w.heap.size) : Nw (addX X w.heap.size w'.heap.size) w0 w' F G := by
  have hz := h.chg.size
  have hz2 := hc.size
  refine ⟨h.chg.trans hc (fun i hi e => ?_), h.f, h.g, fun b hb => ?_⟩
  · have := (hE i (by omega) e).2; omega
  · rcases hb with e | e
    · exact ⟨by have := (h.x b e).1; omega, (h.x b e).2⟩
    · exact ⟨e.2, fun hf => by have := hF b hf; omega, fun hg => by have := hG b hg; omega⟩
theorem TxUp.ref {E : Nat → Prop} (h : TxUp X w0 w pd pl q K f com pend live own wrote N) (hc : Chg E w w') (hE : ∀ b, b < w.heap.size → E b → X b ∧ w0.heap.size ≤ b) : TxUp (addX X w.heap.size w'.heap.size) w0 w' pd pl q K f com pend live own wrote N := by
  obtain ⟨F, G, S, m, V, mt, Vt, h1, h2, h3, h4, h5, h6, h7, h8⟩ := h
  have hn : ∀ b, (F b ∨ G b) → ¬ E b := fun b hb e => by
    have hl : b < w.heap.size := by
      rcases hb with hb | hb
      · exact h1.lk.dk.lt b hb
      · exact h1.lk.lg.lt b hb
    have := h7.x b (hE b hl e).1
    rcases hb with hb | hb
    · exact this.2.1 hb
    · exact this.2.2 hb
  exact ⟨F, G, S, m, V, mt, Vt, h1.keptE hc (fun b hb => hn b (.inl hb)) (fun b hb => hn b (.inr hb)), h2, h3, h4, h5, h6, h7.ref hc hE h1.lk.dk.lt h1.lk.lg.lt, h8⟩
theorem Pq.ref {E : Nat → Prop} (h : Pq X w0 w pd pl q K f com pend N B M F n T) (hc : Chg E w w') (hE : ∀ b, b < w.heap.size → E b → X b ∧ w0.heap.size ≤ b) (hB : ¬ E B) : Pq (addX X w.heap.size w'.heap.size) w0 w' pd pl q K f com pend N B M F n T := by
  obtain ⟨V, ⟨own, wrote, h1, h2⟩, h3, h4, h5, h6⟩ := h
  exact ⟨V, ⟨own, wrote, h1.ref hc hE, h2⟩, h3, h4.kept hc hB, .inl h5, h6⟩
end
end Go.Proofs.YtdcmcgdalanjjaaGreat
