/-
  Entries in memory.
-/
import Derived.Test.YtlnjnimenihhnaaGreatDoorTInode
import Derived.Test.YtlnjnimenihhnaaGreatDoorReads
namespace Go.Proofs.YtlnjnimenihhnaaGreatDoor
open Go.RowKit

/-- An entry. -/
structure En where
  nm : ByteArray
  ino : Int
abbrev En.v (e : En) : Value := .agg #[.string e.nm, .int .i64 e.ino]
/-- A free one. -/
abbrev En.fr : En := ⟨⟨#[]⟩, 0⟩
/-- The cells of entries. -/
def ecells (es : List En) : List Value := es.flatMap fun e => [.string e.nm, .int .i64 e.ino]
theorem ecells_cons (e : En) (es : List En) : ecells (e :: es) = .string e.nm :: .int .i64 e.ino :: ecells es := rfl
theorem ecells_len (es : List En) : (ecells es).length = es.length * 2 := by
  induction es with
  | nil => rfl
  | cons e es ih => rw [ecells_cons, List.length_cons, List.length_cons, ih, List.length_cons]; omega
theorem ecells_app (a b : List En) : ecells (a ++ b) = ecells a ++ ecells b := by simp [ecells]
theorem ecells_one (es : List En) : ∀ u ∈ ecells es, u.oneCell' = true := by
  intro u hu
  obtain ⟨e, _, h⟩ := List.mem_flatMap.1 hu
  simp at h
  rcases h with rfl | rfl <;> rfl
theorem ecells_get (es : List En) (j : Nat) (hj : j < es.length) : (ecells es)[j * 2]? = some (.string (es.getD j En.fr).nm) ∧ (ecells es)[j * 2 + 1]? = some (.int .i64 (es.getD j En.fr).ino) := by
  induction es generalizing j with
  | nil => simp at hj
  | cons e es ih =>
    cases j with
    | zero => exact ⟨rfl, rfl⟩
    | succ j =>
      have h := ih j (by simpa using hj)
      have e1 : (j + 1) * 2 = j * 2 + 1 + 1 := by omega
      rw [ecells_cons, e1]
      exact h
theorem ecells_set (es : List En) (k : Nat) (e : En) (hk : k < es.length) : ecells (es.set k e) = ((ecells es).set (k * 2) (.string e.nm)).set (k * 2 + 1) (.int .i64 e.ino) := by
  induction es generalizing k with
  | nil => simp at hk
  | cons x es ih =>
    cases k with
    | zero => rfl
    | succ k =>
      have e1 : (k + 1) * 2 = k * 2 + 1 + 1 := by omega
      rw [List.set_cons_succ, ecells_cons, ecells_cons, ih k (by simpa using hk), e1]
      rfl
/-- v is a slice of the entries es. -/
def Es (w : World) (v : Value) (es : List En) : Prop :=
  ∃ a c, v = .slice a es.length c ∧ es.length ≤ c ∧ c ≤ maxLen ∧ (a = none → c = 0) ∧ (0 < es.length → ∃ b off, a = some ⟨b, off, none⟩ ∧ ∀ j, j < es.length → w.cell? ⟨b, off + j * 2, none⟩ = some (.string (es.getD j En.fr).nm) ∧ w.cell? ⟨b, off + j * 2 + 1, none⟩ = some (.int .i64 (es.getD j En.fr).ino))
theorem Es.form {w : World} {v : Value} {es : List En} (h : Es w v es) : ∃ a c, v = .slice a es.length c := by
  obtain ⟨a, c, e, _⟩ := h
  exact ⟨a, c, e⟩
theorem Es.len {w : World} {v : Value} {es : List En} (h : Es w v es) : es.length ≤ maxLen := by
  obtain ⟨a, c, e, h1, h2, _, _⟩ := h
  omega
theorem Es.nth {w : World} {a : Option Addr} {n c k : Nat} {es : List En} (h : Es w (.slice a n c) es) (hk : k < es.length) : ∃ b off, a = some ⟨b, off, none⟩ ∧ ∀ j, j < es.length → w.cell? ⟨b, off + j * 2, none⟩ = some (.string (es.getD j En.fr).nm) ∧ w.cell? ⟨b, off + j * 2 + 1, none⟩ = some (.int .i64 (es.getD j En.fr).ino) := by
  obtain ⟨a', c', e, _, _, _, hx⟩ := h
  injection e with e1 e2 e3
  subst e1
  exact hx (by omega)
theorem Es.nil (w : World) : Es w (.slice none 0 0) [] := ⟨none, 0, rfl, Nat.le_refl _, Nat.zero_le _, fun _ => rfl, fun h => absurd h (by simp)⟩
theorem Es.kept {S : Nat → Prop} {w w' : World} {v : Value} {es : List En} (h : Es w v es) (hc : Chg S w w') (hS : ∀ k, k < w.heap.size → ¬ S k) : Es w' v es := by
  obtain ⟨a, c, e, h1, h2, h3, hx⟩ := h
  refine ⟨a, c, e, h1, h2, h3, fun h0 => ?_⟩
  obtain ⟨b, off, e1, hc'⟩ := hx h0
  have hb : b < w.heap.size := World.block_lt_of_cell? w _ (hc' 0 h0).1
  exact ⟨b, off, e1, fun j hj => ⟨hc.cell (hc' j hj).1 (hS _ hb), hc.cell (hc' j hj).2 (hS _ hb)⟩⟩
theorem Es.more {w w' : World} {v : Value} {es : List En} (h : Es w v es) (hc : Chg (fun _ => False) w w') : Es w' v es := h.kept hc (fun _ _ h => h)
/-- What is below stays. -/
theorem Es.below {w w' : World} {v : Value} {es : List En} (h : Es w v es) (hb : Below w.heap.size w w') : Es w' v es := h.more (Chg.ofBelowC hb)
/-- What is owned reads. -/
theorem Es.ofOwns {w : World} {N T n : Nat} {v : Value} {es : List En} (h : w.ownsRow N T 2 v n (ecells es)) : Es w v es := by
  have hn : es.length = n := by have := h.1; rw [ecells_len] at this; omega
  subst hn
  rcases h.2 with ⟨rfl, h0⟩ | ⟨g, cap, cur, rfl, hb, hg, hnc, hcm, hcs, htake⟩
  · have : es = [] := List.eq_nil_of_length_eq_zero h0
    subst this
    exact Es.nil w
  · refine ⟨some ⟨g, 0, none⟩, cap, rfl, hnc, hcm, (fun h => by cases h), fun h0 => ⟨g, 0, rfl, fun j hj => ?_⟩⟩
    have h1 := h.cells (g := g) rfl (j * 2) _ (ecells_get es j hj).1
    have h2 := h.cells (g := g) rfl (j * 2 + 1) _ (ecells_get es j hj).2
    have ad : ∀ k, (⟨g, 0, none⟩ : Addr).add k = ⟨g, 0 + k, none⟩ := by intro k; unfold Addr.add; split <;> simp_all
    rw [ad] at h1 h2
    exact ⟨h1, h2⟩
/-- append of entries onto what is owned. -/
theorem run_app2 {P : Program} (w : World) (N T : Nat) (t ty : TypeId) (i : TypeInfo) (ht : P.underlying t = some (.slice T)) (hi : P.info? T = some i) (hz : i.zero = some (.agg #[.string ⟨#[]⟩, .int .i64 0])) (hs : i.size = 2) (hb : i.bytes = 24)
    (v x : Value) (n : Nat) (xs news : List En) (hown : w.ownsRow N T 2 v n (ecells xs)) (hx : Es w x news) (hlen : xs.length + news.length ≤ 1099511627776) (hN : N ≤ w.heap.size) :
    ∃ v' w', (Builtin.append_ #[t, t] ty #[v, x]).run P w = .ok v' w' ∧ w'.ownsRow N T 2 v' (n + news.length) (ecells (xs ++ news)) ∧ Below N w w' := by
  have hn : xs.length = n := by have := hown.1; rw [ecells_len] at this; omega
  subst hn
  have hrow : ∀ k, v.ownBlock = some k → N ≤ k := by
    intro k hk
    rcases hown.2 with ⟨rfl, h0⟩ | ⟨g, cap, cur, rfl, hb, _⟩
    · cases hk
    · have : g = k := by simpa [Value.ownBlock] using hk
      omega
  obtain ⟨a, c, rfl, h1, h2, h3, hx'⟩ := hx
  by_cases h0 : 0 < news.length
  · obtain ⟨b, off, rfl, hcell⟩ := hx' h0
    have ad : ∀ k, (⟨b, off, none⟩ : Addr).add k = ⟨b, off + k, none⟩ := by intro k; unfold Addr.add; split <;> simp_all
    obtain ⟨v', w', h1, h2, h3, _, h5⟩ := run_append_own_at (P := P) w N t ty T i _ 2 24 ht hi hz hs hb rfl (by decide) v xs.length (ecells xs) hown ⟨b, off, none⟩ news.length c (ecells news) (ecells_len news)
      (fun j u hu => by
        have hj : j < news.length * 2 := by rw [← ecells_len]; exact (List.getElem?_eq_some_iff.1 hu).1
        have hj2 : j / 2 < news.length := by omega
        have hg := ecells_get news (j / 2) hj2
        have hc := hcell (j / 2) hj2
        rw [ad]
        rcases (by omega : j = j / 2 * 2 ∨ j = j / 2 * 2 + 1) with e | e
        · rw [e, hg.1] at hu
          cases hu
          have e2 : off + j = off + j / 2 * 2 := by omega
          rw [e2]; exact hc.1
        · rw [e, hg.2] at hu
          cases hu
          have e2 : off + j = off + j / 2 * 2 + 1 := by omega
          rw [e2]; exact hc.2) (ecells_one news) (by unfold maxLen; omega) (by omega) hN
    exact ⟨v', w', h1, by rw [ecells_app]; exact h2, (Chg.ofGrown h3).below hN hrow⟩
  · have e0 : news = [] := List.eq_nil_of_length_eq_zero (by omega)
    subst e0
    cases a with
    | none =>
      obtain rfl := h3 rfl
      exact ⟨v, w, run_append_owned_none (P := P) w N t ty T i 2 ht hi v _ _ hown, by simpa using hown, Below.refl _ _⟩
    | some b =>
      obtain ⟨v', w', h1, h2, h3, _, h5⟩ := run_append_own_at (P := P) w N t ty T i _ 2 24 ht hi hz hs hb rfl (by decide) v xs.length (ecells xs) hown b 0 c [] rfl (fun j u hu => by simp at hu) (fun u hu => by cases hu) (by unfold maxLen; omega) (by omega) hN
      exact ⟨v', w', h1, by simpa using h2, (Chg.ofGrown h3).below hN hrow⟩
/-- The same at the operation. -/
theorem wpList_app2 {P : Program} {w : World} {ops : Array Oper} {rest : List Oper} {o : Oper} {a : Act} {Q : Exit → Act → World → Prop} (hgd : o.guard = none) (s x : Operand) (t : TypeId)
    (ho : o.op = .call { callee := .builtin .append, args := #[s, x], argTypes := #[t, t] }) (N T : Nat) (i : TypeInfo) (ht : P.underlying t = some (.slice T)) (hi : P.info? T = some i) (hz : i.zero = some (.agg #[.string ⟨#[]⟩, .int .i64 0])) (hs : i.size = 2) (hb : i.bytes = 24)
    (v vx : Value) (n : Nat) (xs news : List En) (hv : a.eval s = v) (hown : w.ownsRow N T 2 v n (ecells xs)) (hvx : a.eval x = vx) (hx : Es w vx news) (hlen : xs.length + news.length ≤ 1099511627776) (hN : N ≤ w.heap.size)
    (h : ∀ v' w', w'.ownsRow N T 2 v' (n + news.length) (ecells (xs ++ news)) → Below N w w' → wpList P ops Q rest (a.put o.dst v') w') : wpList P ops Q (o :: rest) a w := by
  obtain ⟨v', w', hr, h1, h2⟩ := run_app2 (P := P) w N T t o.type i ht hi hz hs hb v vx n xs news hown hx hlen hN
  exact Lib.wpList_append_run w hgd s x t t ho v vx hv hvx v' w' hr (h v' w' h1 h2)
/-- An empty literal is owned. -/
theorem lit_own2 (w : World) (N T : Nat) (hN : N ≤ w.heap.size) : (w.alloc (.cells #[] T)).ownsRow N T 2 (.slice (some ⟨w.heap.size, 0, none⟩) 0 0) 0 (ecells []) :=
  ⟨rfl, .inr ⟨w.heap.size, 0, #[], rfl, hN, heap_alloc_new w _, Nat.le_refl _, Nat.zero_le _, rfl, rfl⟩⟩
/-- A literal of one entry. -/
theorem Es.one (w : World) (e : En) (T : Nat) (fr : Nat × Nat) : Es (w.alloc (.cells #[.string e.nm, .int .i64 e.ino] T fr)) (.slice (some ⟨w.heap.size, 0, none⟩) 1 1) [e] := by
  refine ⟨_, 1, rfl, Nat.le_refl _, by simp [maxLen], (fun h => by cases h), fun _ => ⟨w.heap.size, 0, rfl, fun j hj => ?_⟩⟩
  have : j = 0 := by simp at hj; omega
  subst this
  have hb := heap_alloc_new w (.cells #[.string e.nm, .int .i64 e.ino] T fr)
  constructor <;> (rw [cell_of_row _ w.heap.size _ _ _ _ hb]; rfl)
/-- An entry's cells are stored. -/
theorem own_set2 {w : World} {N T n g cap k : Nat} {es : List En} (h : w.ownsRow N T 2 (.slice (some ⟨g, 0, none⟩) n cap) n (ecells es)) (hk : k < es.length) (e : En) :
    ((w.setCell ⟨g, k * 2, none⟩ (.string e.nm)).setCell ⟨g, k * 2 + 1, none⟩ (.int .i64 e.ino)).ownsRow N T 2 (.slice (some ⟨g, 0, none⟩) n cap) n (ecells (es.set k e)) ∧ N ≤ g := by
  rcases h.2 with ⟨h1, _⟩ | ⟨g', cap', cur, e1, hb, hg, hnc, hcm, hcs, htake⟩
  · cases h1
  · injection e1 with e1 e2 e3
    injection e1 with e1
    injection e1 with e1
    subst e1; subst e3
    have hl := ecells_len es
    have hn : es.length = n := by have := h.1; omega
    have s1 : k * 2 + 1 < cur.size := by rw [hcs]; omega
    have h1 := heap_setCell_same w g (k * 2) cur T (.string e.nm) hg
    have h2 := heap_setCell_same _ g (k * 2 + 1) _ T (.int .i64 e.ino) h1
    refine ⟨⟨by rw [ecells_len, List.length_set]; omega, .inr ⟨g, cap, _, rfl, hb, h2, hnc, hcm, by simpa using hcs, ?_⟩⟩, hb⟩
    rw [ecells_set es k e hk]
    simp only [Array.toList_setIfInBounds, List.take_set]
    rw [htake]
end Go.Proofs.YtlnjnimenihhnaaGreatDoor

namespace Go.Proofs.YtlnjnimenihhnaaGreatDoor
open Go.RowKit

/-- May it stand in a name? -/
def okB (x : UInt8) : Bool := decide (33 ≤ x.toNat) && decide (x.toNat ≤ 126) && !(x.toNat == 47)
/-- Is it a name? -/
def nameB (s : ByteArray) : Bool := decide (1 ≤ s.size) && decide (s.size ≤ 48) && !(s.toList == [46]) && !(s.toList == [46, 46]) && s.data.toList.all okB
theorem all_at {s : ByteArray} {k : Nat} (hk : k < s.size) (h : s.data.toList.all okB = true) : okB s[k] = true := by
  refine List.all_eq_true.1 h _ ?_
  show s.data[k] ∈ s.data.toList
  exact Array.getElem_mem_toList _
theorem all_of {s : ByteArray} (h : ∀ k, (hk : k < s.size) → okB s[k] = true) : s.data.toList.all okB = true := by
  refine List.all_eq_true.2 fun x hx => ?_
  obtain ⟨k, hk, e⟩ := List.getElem_of_mem hx
  have := h k (by simpa using hk)
  rw [← e]
  exact this
theorem nameB_parts {s : ByteArray} (h : nameB s = true) : 1 ≤ s.size ∧ s.size ≤ 48 ∧ (s.toList == [46]) = false ∧ (s.toList == [46, 46]) = false ∧ s.data.toList.all okB = true := by
  unfold nameB at h
  simp only [Bool.and_eq_true, Bool.not_eq_true', decide_eq_true_eq] at h
  exact ⟨h.1.1.1.1, h.1.1.1.2, h.1.1.2, h.1.2, h.2⟩
theorem nameB_not {s : ByteArray} (h : nameB s = false) : s.size < 1 ∨ (1 ≤ s.size ∧ 48 < s.size) ∨ (1 ≤ s.size ∧ s.size ≤ 48 ∧ (s.toList == [46]) = true) ∨ (1 ≤ s.size ∧ s.size ≤ 48 ∧ (s.toList == [46]) = false ∧ (s.toList == [46, 46]) = true) ∨ (1 ≤ s.size ∧ s.size ≤ 48 ∧ (s.toList == [46]) = false ∧ (s.toList == [46, 46]) = false ∧ s.data.toList.all okB = false) := by
  by_cases h1 : 1 ≤ s.size
  · by_cases h2 : s.size ≤ 48
    · cases h3 : (s.toList == [46]) with
      | true => exact .inr (.inr (.inl ⟨h1, h2, rfl⟩))
      | false => cases h4 : (s.toList == [46, 46]) with
        | true => exact .inr (.inr (.inr (.inl ⟨h1, h2, rfl, rfl⟩)))
        | false =>
          refine .inr (.inr (.inr (.inr ⟨h1, h2, rfl, rfl, ?_⟩)))
          unfold nameB at h
          simpa [h1, h2, h3, h4] using h
    · exact .inr (.inl ⟨h1, by omega⟩)
  · exact .inl (by omega)
theorem okB_yes {x : UInt8} (h : okB x = true) : 33 ≤ x.toNat ∧ x.toNat ≤ 126 ∧ (x.toNat == 47) = false := by
  unfold okB at h
  simp only [Bool.and_eq_true, Bool.not_eq_true', decide_eq_true_eq] at h
  exact ⟨h.1.1, h.1.2, h.2⟩
theorem okB_no {x : UInt8} (h : okB x = false) : x.toNat < 33 ∨ (33 ≤ x.toNat ∧ 126 < x.toNat) ∨ (33 ≤ x.toNat ∧ x.toNat ≤ 126 ∧ x.toNat = 47) := by
  unfold okB at h
  by_cases h1 : 33 ≤ x.toNat
  · by_cases h2 : x.toNat ≤ 126
    · refine .inr (.inr ⟨h1, h2, ?_⟩)
      simpa [h1, h2] using h
    · exact .inr (.inl ⟨h1, by omega⟩)
  · exact .inl (by omega)
theorem str_some {s : ByteArray} (h : 1 ≤ s.size) : ¬ s.toList = [] := by
  intro e
  have : s.data.toList = [] := by rw [← ByteArray.toList_eq]; exact e
  have h2 : s.data.size = 0 := by rw [← Array.length_toList, this]; rfl
  have : s.size = s.data.size := rfl
  omega

set_option maxHeartbeats 1600000 in
theorem name_any (s : ByteArray) (b : Bool) (w : World) (hb : Hid (nameB s = b)) :
    Calls Tryz.prog 98 #[.string s] w fun e w' => e = .returned (.bool b) ∧ w' = w := by
  cases b with
  | true =>
    obtain ⟨h1, h2, h3, h4, h5⟩ := nameB_parts hb.out
    have H : Hid (s.data.toList.all okB = true) := h5
    clear hb h5
    have g1 : ¬ ((s.size : Int) < 1) := by omega
    have g2 : ¬ (48 < (s.size : Int)) := by omega
    go_enter Tryz.func98, Tryz.ntmps98
    go_wp2_with fail
    go_loopw [22] (fun i wr => ∃ k : Nat, k ≤ s.size ∧ i = .int .i64 k ∧ wr = w) (fun i _ => s.size - (intOf i).toNat)
    case atStart => exact ⟨0, Nat.zero_le _, rfl, rfl⟩
    case round =>
      obtain ⟨k, hk, rfl, rfl⟩ := hrel
      by_cases hlt : k < s.size
      · have q1 : (k : Int) < s.size := by omega
        obtain ⟨p1, p2, p3⟩ := okB_yes (all_at hlt H.out)
        have p1' : (33 : Int) ≤ (s[k].toNat : Int) := by omega
        have p2' : (s[k].toNat : Int) ≤ 126 := by omega
        have p3' : ((s[k].toNat : Int) == 47) = false := by
          have := (beq_eq_false_iff_ne.1 p3); exact beq_eq_false_iff_ne.2 (by omega)
        clear p1 p2 p3
        go_wp2_with fail
        go_roundw
        case rel => exact ⟨k + 1, by omega, by go_num, trivial⟩
        case measure => simp [intOf]; omega
      · have q1 : ¬ (k : Int) < s.size := by omega
        go_wp2_with fail
        go_ret
        exact ⟨rfl, rfl⟩
  | false =>
    rcases nameB_not hb.out with h1 | ⟨h1, h2⟩ | ⟨h1, h2, h3⟩ | ⟨h1, h2, h3, h4⟩ | ⟨h1, h2, h3, h4, h5⟩
    · have g1 : (s.size : Int) < 1 := by omega
      have g0 : s.size = 0 := by omega
      have g3 : s = ⟨#[]⟩ := by
        obtain ⟨⟨l⟩⟩ := s
        have : l = [] := List.eq_nil_of_length_eq_zero g0
        rw [this]
      subst g3
      go_enter Tryz.func98, Tryz.ntmps98
      go_wp2_with fail
      go_ret
      exact ⟨rfl, rfl⟩
    · have g1 : ¬ ((s.size : Int) < 1) := by omega
      have g2 : 48 < (s.size : Int) := by omega
      go_enter Tryz.func98, Tryz.ntmps98
      go_wp2_with fail
      go_ret
      exact ⟨rfl, rfl⟩
    · have g1 : ¬ ((s.size : Int) < 1) := by omega
      have g2 : ¬ (48 < (s.size : Int)) := by omega
      go_enter Tryz.func98, Tryz.ntmps98
      go_wp2_with fail
      go_ret
      exact ⟨rfl, rfl⟩
    · have g1 : ¬ ((s.size : Int) < 1) := by omega
      have g2 : ¬ (48 < (s.size : Int)) := by omega
      go_enter Tryz.func98, Tryz.ntmps98
      go_wp2_with fail
      go_ret
      exact ⟨rfl, rfl⟩
    · have H : Hid (s.data.toList.all okB = false) := h5
      clear hb h5
      have g1 : ¬ ((s.size : Int) < 1) := by omega
      have g2 : ¬ (48 < (s.size : Int)) := by omega
      go_enter Tryz.func98, Tryz.ntmps98
      go_wp2_with fail
      go_loopw [22] (fun i wr => ∃ k : Nat, k ≤ s.size ∧ i = .int .i64 k ∧ wr = w ∧ Hid (∀ j, (hj : j < s.size) → j < k → okB s[j] = true)) (fun i _ => s.size - (intOf i).toNat)
      case atStart => exact ⟨0, Nat.zero_le _, rfl, rfl, fun j _ h => by omega⟩
      case round =>
        obtain ⟨k, hk, rfl, rfl, hA⟩ := hrel
        by_cases hlt : k < s.size
        · have q1 : (k : Int) < s.size := by omega
          cases ho : okB s[k] with
          | true =>
            have hA' : Hid (∀ j, (hj : j < s.size) → j < k + 1 → okB s[j] = true) := fun j hj h => by
              rcases (by omega : j < k ∨ j = k) with h | rfl
              · exact hA.out j hj h
              · exact ho
            obtain ⟨p1, p2, p3⟩ := okB_yes ho
            have p1' : (33 : Int) ≤ (s[k].toNat : Int) := by omega
            have p2' : (s[k].toNat : Int) ≤ 126 := by omega
            have p3' : ((s[k].toNat : Int) == 47) = false := by
              have := (beq_eq_false_iff_ne.1 p3); exact beq_eq_false_iff_ne.2 (by omega)
            clear p1 p2 p3 ho
            go_wp2_with fail
            go_roundw
            case rel => exact ⟨k + 1, by omega, by go_num, trivial, hA'⟩
            case measure => simp [intOf]; omega
          | false =>
            have ho' := okB_no ho
            clear ho
            rcases ho' with p1 | ⟨p1, p2⟩ | ⟨p1, p2, p3⟩
            · have p1' : (s[k].toNat : Int) < 33 := by omega
              clear p1
              go_wp2_with fail
              go_ret
              exact ⟨rfl, rfl⟩
            · have p1' : (33 : Int) ≤ (s[k].toNat : Int) := by omega
              have p2' : 126 < (s[k].toNat : Int) := by omega
              clear p1 p2
              go_wp2_with fail
              go_ret
              exact ⟨rfl, rfl⟩
            · have p1' : (33 : Int) ≤ (s[k].toNat : Int) := by omega
              have p2' : (s[k].toNat : Int) ≤ 126 := by omega
              have p3' : ((s[k].toNat : Int) == 47) = true := beq_iff_eq.2 (by omega)
              clear p1 p2 p3
              go_wp2_with fail
              go_ret
              exact ⟨rfl, rfl⟩
        · exact absurd (H.out.symm.trans (all_of fun j hj => hA.out j hj (by omega))) (by simp)
end Go.Proofs.YtlnjnimenihhnaaGreatDoor

namespace Go.Proofs.YtlnjnimenihhnaaGreatDoor
open Go.RowKit

set_option maxHeartbeats 1600000 in
theorem rname_any (s : ByteArray) (b : Bool) (w : World) (hb : Hid (nameB s = b)) :
    Calls Tryz.prog 58 #[.string s] w fun e w' => e = .returned (.bool b) ∧ w' = w := by
  cases b with
  | true =>
    obtain ⟨h1, h2, h3, h4, h5⟩ := nameB_parts hb.out
    have H : Hid (s.data.toList.all okB = true) := h5
    clear hb h5
    have g1 : ¬ ((s.size : Int) < 1) := by omega
    have g2 : ¬ (48 < (s.size : Int)) := by omega
    go_enter Tryz.func58, Tryz.ntmps58
    have g0 : (s.toList == []) = false := beq_eq_false_iff_ne.2 (str_some h1)
    go_wp2_with fail
    go_loopw [3] (fun i wr => ∃ k : Nat, k ≤ s.size ∧ i = .int .i64 k ∧ wr = w) (fun i _ => s.size - (intOf i).toNat)
    case atStart => exact ⟨0, Nat.zero_le _, rfl, rfl⟩
    case round =>
      obtain ⟨k, hk, rfl, rfl⟩ := hrel
      by_cases hlt : k < s.size
      · have q1 : (k : Int) < s.size := by omega
        obtain ⟨p1, p2, p3⟩ := okB_yes (all_at hlt H.out)
        have p1' : (33 : Int) ≤ (s[k].toNat : Int) := by omega
        have p2' : (s[k].toNat : Int) ≤ 126 := by omega
        have p3' : ((s[k].toNat : Int) == 47) = false := by
          have := (beq_eq_false_iff_ne.1 p3); exact beq_eq_false_iff_ne.2 (by omega)
        clear p1 p2 p3
        go_wp2_with fail
        go_roundw
        case rel => exact ⟨k + 1, by omega, by go_num, trivial⟩
        case measure => simp [intOf]; omega
      · have q1 : ¬ (k : Int) < s.size := by omega
        go_wp2_with fail
        go_ret
        exact ⟨rfl, rfl⟩
  | false =>
    rcases nameB_not hb.out with h1 | ⟨h1, h2⟩ | ⟨h1, h2, h3⟩ | ⟨h1, h2, h3, h4⟩ | ⟨h1, h2, h3, h4, h5⟩
    · have g1 : (s.size : Int) < 1 := by omega
      have g0 : s.size = 0 := by omega
      have g3 : s = ⟨#[]⟩ := by
        obtain ⟨⟨l⟩⟩ := s
        have : l = [] := List.eq_nil_of_length_eq_zero g0
        rw [this]
      subst g3
      go_enter Tryz.func58, Tryz.ntmps58
      go_wp2_with fail
      go_ret
      exact ⟨rfl, rfl⟩
    · have g1 : ¬ ((s.size : Int) < 1) := by omega
      have g2 : 48 < (s.size : Int) := by omega
      go_enter Tryz.func58, Tryz.ntmps58
      have g0 : (s.toList == []) = false := beq_eq_false_iff_ne.2 (str_some h1)
      go_wp2_with fail
      go_ret
      exact ⟨rfl, rfl⟩
    · have g1 : ¬ ((s.size : Int) < 1) := by omega
      have g2 : ¬ (48 < (s.size : Int)) := by omega
      go_enter Tryz.func58, Tryz.ntmps58
      have g0 : (s.toList == []) = false := beq_eq_false_iff_ne.2 (str_some h1)
      go_wp2_with fail
      go_ret
      exact ⟨rfl, rfl⟩
    · have g1 : ¬ ((s.size : Int) < 1) := by omega
      have g2 : ¬ (48 < (s.size : Int)) := by omega
      go_enter Tryz.func58, Tryz.ntmps58
      have g0 : (s.toList == []) = false := beq_eq_false_iff_ne.2 (str_some h1)
      go_wp2_with fail
      go_ret
      exact ⟨rfl, rfl⟩
    · have H : Hid (s.data.toList.all okB = false) := h5
      clear hb h5
      have g1 : ¬ ((s.size : Int) < 1) := by omega
      have g2 : ¬ (48 < (s.size : Int)) := by omega
      go_enter Tryz.func58, Tryz.ntmps58
      have g0 : (s.toList == []) = false := beq_eq_false_iff_ne.2 (str_some h1)
      go_wp2_with fail
      go_loopw [3] (fun i wr => ∃ k : Nat, k ≤ s.size ∧ i = .int .i64 k ∧ wr = w ∧ Hid (∀ j, (hj : j < s.size) → j < k → okB s[j] = true)) (fun i _ => s.size - (intOf i).toNat)
      case atStart => exact ⟨0, Nat.zero_le _, rfl, rfl, fun j _ h => by omega⟩
      case round =>
        obtain ⟨k, hk, rfl, rfl, hA⟩ := hrel
        by_cases hlt : k < s.size
        · have q1 : (k : Int) < s.size := by omega
          cases ho : okB s[k] with
          | true =>
            have hA' : Hid (∀ j, (hj : j < s.size) → j < k + 1 → okB s[j] = true) := fun j hj h => by
              rcases (by omega : j < k ∨ j = k) with h | rfl
              · exact hA.out j hj h
              · exact ho
            obtain ⟨p1, p2, p3⟩ := okB_yes ho
            have p1' : (33 : Int) ≤ (s[k].toNat : Int) := by omega
            have p2' : (s[k].toNat : Int) ≤ 126 := by omega
            have p3' : ((s[k].toNat : Int) == 47) = false := by
              have := (beq_eq_false_iff_ne.1 p3); exact beq_eq_false_iff_ne.2 (by omega)
            clear p1 p2 p3 ho
            go_wp2_with fail
            go_roundw
            case rel => exact ⟨k + 1, by omega, by go_num, trivial, hA'⟩
            case measure => simp [intOf]; omega
          | false =>
            have ho' := okB_no ho
            clear ho
            rcases ho' with p1 | ⟨p1, p2⟩ | ⟨p1, p2, p3⟩
            · have p1' : (s[k].toNat : Int) < 33 := by omega
              clear p1
              go_wp2_with fail
              go_ret
              exact ⟨rfl, rfl⟩
            · have p1' : (33 : Int) ≤ (s[k].toNat : Int) := by omega
              have p2' : 126 < (s[k].toNat : Int) := by omega
              clear p1 p2
              go_wp2_with fail
              go_ret
              exact ⟨rfl, rfl⟩
            · have p1' : (33 : Int) ≤ (s[k].toNat : Int) := by omega
              have p2' : (s[k].toNat : Int) ≤ 126 := by omega
              have p3' : ((s[k].toNat : Int) == 47) = true := beq_iff_eq.2 (by omega)
              clear p1 p2 p3
              go_wp2_with fail
              go_ret
              exact ⟨rfl, rfl⟩
        · exact absurd (H.out.symm.trans (all_of fun j hj => hA.out j hj (by omega))) (by simp)
end Go.Proofs.YtlnjnimenihhnaaGreatDoor

namespace Go.Proofs.YtlnjnimenihhnaaGreatDoor
open Go.RowKit

/-- A thing as it lies. -/
structure Rw where
  is : Bool
  dir : Bool
  ba : Option Addr
  bn : Nat
  bc : Nat
  sa : Option Addr
  sn : Nat
  sc : Nat
def Rw.z : Rw := ⟨false, false, none, 0, 0, none, 0, 0⟩
abbrev Rw.bv (x : Rw) : Value := .slice x.ba x.bn x.bc
abbrev Rw.sv (x : Rw) : Value := .slice x.sa x.sn x.sc
def rcells (l : List Rw) : List Value := l.flatMap fun x => [.bool x.is, .bool x.dir, x.bv, x.sv]
theorem rcells_cons (x : Rw) (l : List Rw) : rcells (x :: l) = .bool x.is :: .bool x.dir :: x.bv :: x.sv :: rcells l := rfl
theorem rcells_len (l : List Rw) : (rcells l).length = l.length * 4 := by
  induction l with
  | nil => rfl
  | cons e l ih => rw [rcells_cons]; simp only [List.length_cons]; rw [ih]; omega
theorem rcells_app (a b : List Rw) : rcells (a ++ b) = rcells a ++ rcells b := by simp [rcells]
theorem rcells_one (l : List Rw) : ∀ u ∈ rcells l, u.oneCell' = true := by
  intro u hu
  obtain ⟨e, _, h⟩ := List.mem_flatMap.1 hu
  simp at h
  rcases h with rfl | rfl | rfl | rfl <;> rfl
theorem rcells_get (l : List Rw) (j : Nat) (hj : j < l.length) : (rcells l)[j * 4]? = some (.bool (l.getD j Rw.z).is) ∧ (rcells l)[j * 4 + 1]? = some (.bool (l.getD j Rw.z).dir) ∧ (rcells l)[j * 4 + 2]? = some (l.getD j Rw.z).bv ∧ (rcells l)[j * 4 + 3]? = some (l.getD j Rw.z).sv := by
  induction l generalizing j with
  | nil => simp at hj
  | cons e l ih =>
    cases j with
    | zero => exact ⟨rfl, rfl, rfl, rfl⟩
    | succ j =>
      have h := ih j (by simpa using hj)
      have e1 : (j + 1) * 4 = j * 4 + 1 + 1 + 1 + 1 := by omega
      rw [rcells_cons, e1]
      exact h
theorem rcells_set (l : List Rw) (k : Nat) (x : Rw) (hk : k < l.length) : rcells (l.set k x) = ((((rcells l).set (k * 4) (.bool x.is)).set (k * 4 + 1) (.bool x.dir)).set (k * 4 + 2) x.bv).set (k * 4 + 3) x.sv := by
  induction l generalizing k with
  | nil => simp at hk
  | cons e l ih =>
    cases k with
    | zero => rfl
    | succ k =>
      have e1 : (k + 1) * 4 = k * 4 + 1 + 1 + 1 + 1 := by omega
      rw [List.set_cons_succ, rcells_cons, rcells_cons, ih k (by simpa using hk), e1]
      rfl
theorem set_self {α : Type} {l : List α} {i : Nat} {v : α} (h : l[i]? = some v) : l.set i v = l := by
  refine List.ext_getElem? fun j => ?_
  rw [List.getElem?_set]
  by_cases e : i = j
  · subst e
    rw [h]
    have : i < l.length := (List.getElem?_eq_some_iff.1 h).1
    simp [this]
  · simp [e]
theorem rcells_setS (l : List Rw) (k : Nat) (a : Option Addr) (n c : Nat) (hk : k < l.length) : rcells (l.set k { l.getD k Rw.z with sa := a, sn := n, sc := c }) = (rcells l).set (k * 4 + 3) (.slice a n c) := by
  obtain ⟨g0, g1, g2, g3⟩ := rcells_get l k hk
  rw [rcells_set l k _ hk, set_self g0, set_self g1, set_self g2]
theorem rcells_setB (l : List Rw) (k : Nat) (a : Option Addr) (n c : Nat) (hk : k < l.length) : rcells (l.set k { l.getD k Rw.z with ba := a, bn := n, bc := c }) = (rcells l).set (k * 4 + 2) (.slice a n c) := by
  obtain ⟨g0, g1, g2, g3⟩ := rcells_get l k hk
  rw [rcells_set l k _ hk, set_self g0, set_self g1]
  refine set_self ?_
  rw [List.getElem?_set, if_neg (by omega)]
  exact g3
/-- One cell of a row is stored. -/
theorem own_setC {w : World} {N T s n g cap j : Nat} {xs : List Value} (h : w.ownsRow N T s (.slice (some ⟨g, 0, none⟩) n cap) n xs) (u : Value) :
    (w.setCell ⟨g, j, none⟩ u).ownsRow N T s (.slice (some ⟨g, 0, none⟩) n cap) n (xs.set j u) := by
  rcases h.2 with ⟨h1, _⟩ | ⟨g', cap', cur, e1, hb, hg, hnc, hcm, hcs, htake⟩
  · cases h1
  · injection e1 with e1 e2 e3
    injection e1 with e1
    injection e1 with e1
    subst e1; subst e3
    have h1 := heap_setCell_same w g j cur T u hg
    refine ⟨by rw [List.length_set]; exact h.1, .inr ⟨g, cap, _, rfl, hb, h1, hnc, hcm, by simpa using hcs, ?_⟩⟩
    simp only [Array.toList_setIfInBounds, List.take_set]
    rw [htake]

/-- A thing. -/
inductive Th where
  | gone
  | file (bs : List Int)
  | dir (es : List En)
def ThM (w : World) (G : Nat → Prop) (x : Rw) : Th → Prop
  | .gone => x = Rw.z
  | .file bs => x.is = true ∧ x.dir = false ∧ Bs w x.bv bs ∧ IsB bs ∧ x.sv = .slice none 0 0 ∧ ∀ a, x.ba = some a → G a.block
  | .dir es => x.is = true ∧ x.dir = true ∧ x.bv = .slice none 0 0 ∧ Es w x.sv es ∧ ∀ a, x.sa = some a → G a.block
theorem Es.keptG {S : Nat → Prop} {w w' : World} {a : Option Addr} {n c : Nat} {es : List En} (h : Es w (.slice a n c) es) (hc : Chg S w w') (hS : ∀ q, a = some q → ¬ S q.block) : Es w' (.slice a n c) es := by
  obtain ⟨a', c', e, h1, h2, h3, hx⟩ := h
  injection e with e1 e2 e3
  subst e1; subst e2; subst e3
  refine ⟨a, c, rfl, h1, h2, h3, fun h0 => ?_⟩
  obtain ⟨b, off, e1, hc'⟩ := hx h0
  have hb := hS _ e1
  exact ⟨b, off, e1, fun j hj => ⟨hc.cell (hc' j hj).1 hb, hc.cell (hc' j hj).2 hb⟩⟩
theorem ThM.kept {S G G' : Nat → Prop} {w w' : World} {x : Rw} {t : Th} (h : ThM w G x t) (hc : Chg S w w') (hS : ∀ b, G b → ¬ S b) (hG : ∀ b, G b → G' b) : ThM w' G' x t := by
  cases t with
  | gone => exact h
  | file bs =>
    obtain ⟨h1, h2, h3, h4, h5, h6⟩ := h
    exact ⟨h1, h2, h3.kept hc (fun a n c e _ => hS _ (h6 a (by injection e))), h4, h5, fun a ha => hG _ (h6 a ha)⟩
  | dir es =>
    obtain ⟨h1, h2, h3, h4, h5⟩ := h
    exact ⟨h1, h2, h3, h4.keptG hc (fun a e => hS _ (h5 a e)), fun a ha => hG _ (h5 a ha)⟩
/-- The document's tree. -/
structure Rs where
  L : List Th
  bl : Int
  ino : Int
abbrev Rs.at (R : Rs) (k : Nat) : Th := R.L.getD k .gone
/-- It lies in block r, its things in block q, what they have in the blocks G. -/
structure Rt (w : World) (r q : Nat) (G : Nat → Prop) (R : Rs) : Prop where
  ne : ¬ r = q
  gr : ¬ G r
  gq : ¬ G q
  gl : ∀ b, G b → b < w.heap.size
  row : ∃ xs cap, w.cell? ⟨r, 0, none⟩ = some (.slice (some ⟨q, 0, none⟩) R.L.length cap) ∧ w.ownsRow 0 63 4 (.slice (some ⟨q, 0, none⟩) R.L.length cap) R.L.length (rcells xs) ∧ xs.length = R.L.length ∧ ∀ k, k < R.L.length → ThM w G (xs.getD k Rw.z) (R.at k)
  cB : w.cell? ⟨r, 1, none⟩ = some (.int .i64 R.bl)
  cI : w.cell? ⟨r, 2, none⟩ = some (.int .i64 R.ino)
  fr : ∀ i, w.frozen? ⟨r, i, none⟩ = false
theorem own_farC {S : Nat → Prop} {w w' : World} {N T s g n c : Nat} {xs : List Value} (h : w.ownsRow N T s (.slice (some ⟨g, 0, none⟩) n c) n xs) (hc : Chg S w w') (hS : ¬ S g) : w'.ownsRow N T s (.slice (some ⟨g, 0, none⟩) n c) n xs := by
  refine ⟨h.1, ?_⟩
  rcases h.2 with h | ⟨g', cap, cur, e, hb, hg, r⟩
  · exact .inl h
  · injection e with e1 e2 e3
    injection e1 with e1
    injection e1 with e1
    subst e1; subst e3
    refine .inr ⟨g, c, cur, rfl, hb, ?_, r⟩
    rw [hc.block g (lt_of_block hg) hS]
    exact hg
theorem Rt.lt {w : World} {r q : Nat} {G : Nat → Prop} {R : Rs} (h : Rt w r q G R) : r < w.heap.size ∧ q < w.heap.size := by
  refine ⟨World.block_lt_of_cell? w _ h.cB, ?_⟩
  obtain ⟨xs, cap, _, ho, _⟩ := h.row
  rcases ho.2 with ⟨h, _⟩ | ⟨g', cap, cur, e, hb, hg, r⟩
  · cases h
  · injection e with e1 e2 e3
    injection e1 with e1
    injection e1 with e1
    subst e1
    exact lt_of_block hg
theorem Rt.kept {S : Nat → Prop} {w w' : World} {r q : Nat} {G : Nat → Prop} {R : Rs} (h : Rt w r q G R) (hc : Chg S w w') (hr : ¬ S r) (hq : ¬ S q) (hG : ∀ b, G b → ¬ S b) : Rt w' r q G R := by
  obtain ⟨xs, cap, h1, h2, h3, h4⟩ := h.row
  exact ⟨h.ne, h.gr, h.gq, fun b hb => Nat.lt_of_lt_of_le (h.gl b hb) hc.size, ⟨xs, cap, hc.cell h1 hr, own_farC h2 hc hq, h3, fun k hk => (h4 k hk).kept hc hG (fun _ h => h)⟩, hc.cell h.cB hr, hc.cell h.cI hr, fun i => (World.frozen?_of_block (hc.block _ h.lt.1 hr)).trans (h.fr i)⟩
theorem Rt.below {w w' : World} {r q : Nat} {G : Nat → Prop} {R : Rs} (h : Rt w r q G R) (hb : Below w.heap.size w w') : Rt w' r q G R := h.kept (Chg.ofBelowC hb) (fun h => h) (fun h => h) (fun _ _ h => h)
theorem own_frz {w : World} {N T s g n c : Nat} {xs : List Value} (h : w.ownsRow N T s (.slice (some ⟨g, 0, none⟩) n c) n xs) (i : Nat) : w.frozen? ⟨g, i, none⟩ = false := by
  rcases h.2 with ⟨h, _⟩ | ⟨g', cap, cur, e, hb, hg, r⟩
  · cases h
  · injection e with e1 e2 e3
    injection e1 with e1
    injection e1 with e1
    subst e1
    simp [World.frozen?, hg]
/-- The cells of a thing. -/
theorem Rt.nth {w : World} {r q : Nat} {G : Nat → Prop} {R : Rs} (h : Rt w r q G R) {k : Nat} (hk : k < R.L.length) :
    ∃ c x, w.cell? ⟨r, 0, none⟩ = some (.slice (some ⟨q, 0, none⟩) R.L.length c) ∧ w.cell? ⟨q, k * 4, none⟩ = some (.bool x.is) ∧ w.cell? ⟨q, k * 4 + 1, none⟩ = some (.bool x.dir) ∧ w.cell? ⟨q, k * 4 + 2, none⟩ = some x.bv ∧ w.cell? ⟨q, k * 4 + 3, none⟩ = some x.sv ∧ ThM w G x (R.at k) ∧ ∀ i, w.frozen? ⟨q, i, none⟩ = false := by
  obtain ⟨xs, cap, h1, h2, h3, h4⟩ := h.row
  obtain ⟨g0, g1, g2, g3⟩ := rcells_get xs k (by omega)
  have e0 := h2.cells (g := q) rfl _ _ g0
  have e1 := h2.cells (g := q) rfl _ _ g1
  have e2 := h2.cells (g := q) rfl _ _ g2
  have e3 := h2.cells (g := q) rfl _ _ g3
  have ad : ∀ k, (⟨q, 0, none⟩ : Addr).add k = ⟨q, k, none⟩ := by intro k; unfold Addr.add; split <;> simp_all
  rw [ad] at e0 e1 e2 e3
  exact ⟨cap, xs.getD k Rw.z, h1, e0, e1, e2, e3, h4 k hk, own_frz h2⟩
theorem at_lt {R : Rs} {k : Nat} (h : ¬ R.at k = .gone) : k < R.L.length := by
  apply Nat.lt_of_not_le
  intro hk
  exact h (by simp [Rs.at, List.getD, List.getElem?_eq_none hk])
theorem Rt.dirAt {w : World} {r q : Nat} {G : Nat → Prop} {R : Rs} (h : Rt w r q G R) {k : Nat} {es : List En} (hk : R.at k = .dir es) :
    k < R.L.length ∧ ∃ c a d, w.cell? ⟨r, 0, none⟩ = some (.slice (some ⟨q, 0, none⟩) R.L.length c) ∧ w.cell? ⟨q, k * 4, none⟩ = some (.bool true) ∧ w.cell? ⟨q, k * 4 + 1, none⟩ = some (.bool true) ∧ w.cell? ⟨q, k * 4 + 2, none⟩ = some (.slice none 0 0) ∧ w.cell? ⟨q, k * 4 + 3, none⟩ = some (.slice a es.length d) ∧ Es w (.slice a es.length d) es ∧ (∀ p, a = some p → G p.block) ∧ ∀ i, w.frozen? ⟨q, i, none⟩ = false := by
  have hlt := at_lt (R := R) (k := k) (by rw [hk]; simp)
  obtain ⟨c, x, h1, c0, c1, c2, c3, hM, hf⟩ := h.nth hlt
  rw [hk] at hM
  obtain ⟨m1, m2, m3, m4, m5⟩ := hM
  obtain ⟨a, d, e⟩ := m4.form
  rw [m1] at c0; rw [m2] at c1; rw [m3] at c2; rw [e] at c3 m4
  injection e with e1 e2 e3
  exact ⟨hlt, c, a, d, h1, c0, c1, c2, c3, m4, fun p hp => m5 p (e1.trans hp), hf⟩
theorem Rt.fileAt {w : World} {r q : Nat} {G : Nat → Prop} {R : Rs} (h : Rt w r q G R) {k : Nat} {bs : List Int} (hk : R.at k = .file bs) :
    k < R.L.length ∧ ∃ c a d, w.cell? ⟨r, 0, none⟩ = some (.slice (some ⟨q, 0, none⟩) R.L.length c) ∧ w.cell? ⟨q, k * 4, none⟩ = some (.bool true) ∧ w.cell? ⟨q, k * 4 + 1, none⟩ = some (.bool false) ∧ w.cell? ⟨q, k * 4 + 2, none⟩ = some (.slice a bs.length d) ∧ w.cell? ⟨q, k * 4 + 3, none⟩ = some (.slice none 0 0) ∧ Bs w (.slice a bs.length d) bs ∧ IsB bs ∧ (∀ p, a = some p → G p.block) ∧ ∀ i, w.frozen? ⟨q, i, none⟩ = false := by
  have hlt := at_lt (R := R) (k := k) (by rw [hk]; simp)
  obtain ⟨c, x, h1, c0, c1, c2, c3, hM, hf⟩ := h.nth hlt
  rw [hk] at hM
  obtain ⟨m1, m2, m3, m4, m5, m6⟩ := hM
  have e : ∃ a d, x.bv = .slice a bs.length d := by
    rcases m3 with ⟨e, rfl⟩ | ⟨a, d, e, _⟩
    · exact ⟨none, 0, e⟩
    · exact ⟨some a, d, e⟩
  obtain ⟨a, d, e⟩ := e
  rw [m1] at c0; rw [m2] at c1; rw [m5] at c3; rw [e] at c2 m3
  injection e with e1 e2 e3
  exact ⟨hlt, c, a, d, h1, c0, c1, c2, c3, m3, m4, fun p hp => m6 p (e1.trans hp), hf⟩
/-- What a change of the things leaves. -/
theorem Rt.row' {w w' : World} {r q : Nat} {G G' : Nat → Prop} {R : Rs} (h : Rt w r q G R) {xs : List Rw} {c k : Nat} {x : Rw} {t : Th} (hx : xs.length = R.L.length) (h0 : w.cell? ⟨r, 0, none⟩ = some (.slice (some ⟨q, 0, none⟩) R.L.length c)) (hth : ∀ k, k < R.L.length → ThM w G (xs.getD k Rw.z) (R.at k)) (hc : Chg (fun b => b = q) w w') (ho : w'.ownsRow 0 63 4 (.slice (some ⟨q, 0, none⟩) R.L.length c) R.L.length (rcells (xs.set k x)))
    (hk : k < R.L.length) (hM : ThM w' G' x t) (hG : ∀ b, G b → G' b) (gr : ¬ G' r) (gq : ¬ G' q) (gl : ∀ b, G' b → b < w'.heap.size) : Rt w' r q G' { R with L := R.L.set k t } := by
  have hr : ¬ (fun b => b = q) r := h.ne
  have e : (R.L.set k t).length = R.L.length := List.length_set
  refine ⟨h.ne, gr, gq, gl, ⟨xs.set k x, c, ?_, ?_, ?_, ?_⟩, hc.cell h.cB hr, hc.cell h.cI hr, fun i => (World.frozen?_of_block (hc.block _ h.lt.1 hr)).trans (h.fr i)⟩
  · show w'.cell? _ = some (.slice _ (R.L.set k t).length c); rw [e]; exact hc.cell h0 hr
  · show w'.ownsRow _ _ _ (.slice _ (R.L.set k t).length c) (R.L.set k t).length _; rw [e]; exact ho
  · show _ = (R.L.set k t).length; rw [e, List.length_set]; exact hx
  · intro j hj
    have hj : j < R.L.length := by rw [← e]; exact hj
    by_cases ejk : k = j
    · subst ejk
      have h1 : (xs.set k x).getD k Rw.z = x := by simp [List.getD, hx, hk]
      have h2 : (R.L.set k t).getD k .gone = t := by simp [List.getD, hk]
      rw [h1]; show ThM _ _ _ ((R.L.set k t).getD k .gone); rw [h2]; exact hM
    · have h1 : (xs.set k x).getD j Rw.z = xs.getD j Rw.z := by simp [List.getD, ejk]
      have h2 : (R.L.set k t).getD j .gone = R.L.getD j .gone := by simp [List.getD, ejk]
      rw [h1]; show ThM _ _ _ ((R.L.set k t).getD j .gone); rw [h2]
      exact (hth j hj).kept hc (fun b hb e => h.gq (e ▸ hb)) hG
/-- Slots, bytes, a whole thing are stored. -/
theorem Rt.setS {w : World} {r q : Nat} {G : Nat → Prop} {R : Rs} (h : Rt w r q G R) {k : Nat} {es es' : List En} (hk : R.at k = .dir es) {a : Option Addr} {n d : Nat} (hE : Es w (.slice a n d) es') (ha : ∀ p, a = some p → ¬ p.block = r ∧ ¬ p.block = q ∧ p.block < w.heap.size) :
    Rt (w.setCell ⟨q, k * 4 + 3, none⟩ (.slice a n d)) r q (fun b => G b ∨ ∃ p, a = some p ∧ p.block = b) { R with L := R.L.set k (.dir es') } := by
  have hlt := at_lt (R := R) (k := k) (by rw [hk]; simp)
  obtain ⟨xs, c, h1, h2, h3, h4⟩ := h.row
  have hM := h4 k hlt
  rw [hk] at hM
  obtain ⟨m1, m2, m3, m4, m5⟩ := hM
  have hc : Chg (fun b => b = q) w (w.setCell ⟨q, k * 4 + 3, none⟩ (.slice a n d)) := Chg.setCell _ _ _ rfl
  refine h.row' h3 h1 h4 hc (x := { xs.getD k Rw.z with sa := a, sn := n, sc := d }) ?_ hlt ⟨m1, m2, m3, hE.keptG hc (fun p hp => (ha p hp).2.1), fun p hp => .inr ⟨p, hp, rfl⟩⟩ (fun _ h => .inl h) ?_ ?_ ?_
  · rw [rcells_setS xs k a n d (by omega)]; exact own_setC h2 _
  · rintro (h0 | ⟨p, hp, e⟩)
    · exact h.gr h0
    · exact (ha p hp).1 e
  · rintro (h0 | ⟨p, hp, e⟩)
    · exact h.gq h0
    · exact (ha p hp).2.1 e
  · rintro b (h0 | ⟨p, hp, rfl⟩)
    · rw [World.size_setCell]; exact h.gl b h0
    · rw [World.size_setCell]; exact (ha p hp).2.2
theorem Rt.setB {w : World} {r q : Nat} {G : Nat → Prop} {R : Rs} (h : Rt w r q G R) {k : Nat} {bs bs' : List Int} (hk : R.at k = .file bs) {a : Option Addr} {n d : Nat} (hE : Bs w (.slice a n d) bs') (hI : IsB bs') (ha : ∀ p, a = some p → ¬ p.block = r ∧ ¬ p.block = q ∧ p.block < w.heap.size) :
    Rt (w.setCell ⟨q, k * 4 + 2, none⟩ (.slice a n d)) r q (fun b => G b ∨ ∃ p, a = some p ∧ p.block = b) { R with L := R.L.set k (.file bs') } := by
  have hlt := at_lt (R := R) (k := k) (by rw [hk]; simp)
  obtain ⟨xs, c, h1, h2, h3, h4⟩ := h.row
  have hM := h4 k hlt
  rw [hk] at hM
  obtain ⟨m1, m2, m3, m4, m5, m6⟩ := hM
  have hc : Chg (fun b => b = q) w (w.setCell ⟨q, k * 4 + 2, none⟩ (.slice a n d)) := Chg.setCell _ _ _ rfl
  refine h.row' h3 h1 h4 hc (x := { xs.getD k Rw.z with ba := a, bn := n, bc := d }) ?_ hlt ⟨m1, m2, hE.kept hc (fun p n c e _ => (ha p (by injection e)).2.1), hI, m5, fun p hp => .inr ⟨p, hp, rfl⟩⟩ (fun _ h => .inl h) ?_ ?_ ?_
  · rw [rcells_setB xs k a n d (by omega)]; exact own_setC h2 _
  · rintro (h0 | ⟨p, hp, e⟩)
    · exact h.gr h0
    · exact (ha p hp).1 e
  · rintro (h0 | ⟨p, hp, e⟩)
    · exact h.gq h0
    · exact (ha p hp).2.1 e
  · rintro b (h0 | ⟨p, hp, rfl⟩)
    · rw [World.size_setCell]; exact h.gl b h0
    · rw [World.size_setCell]; exact (ha p hp).2.2
/-- The world behind the store of a whole thing. -/
def setTh (w : World) (q k : Nat) (x : Rw) : World := (((w.setCell ⟨q, k * 4, none⟩ (.bool x.is)).setCell ⟨q, k * 4 + 1, none⟩ (.bool x.dir)).setCell ⟨q, k * 4 + 2, none⟩ x.bv).setCell ⟨q, k * 4 + 3, none⟩ x.sv
theorem chg_setTh (w : World) (q k : Nat) (x : Rw) : Chg (fun b => b = q) w (setTh w q k x) := by
  unfold setTh
  have h1 : Chg (fun b => b = q) w (w.setCell ⟨q, k * 4, none⟩ (.bool x.is)) := Chg.setCell _ _ _ rfl
  generalize w.setCell ⟨q, k * 4, none⟩ (.bool x.is) = w1 at *
  have h2 : Chg (fun b => b = q) w1 (w1.setCell ⟨q, k * 4 + 1, none⟩ (.bool x.dir)) := Chg.setCell _ _ _ rfl
  generalize w1.setCell ⟨q, k * 4 + 1, none⟩ (.bool x.dir) = w2 at *
  have h3 : Chg (fun b => b = q) w2 (w2.setCell ⟨q, k * 4 + 2, none⟩ x.bv) := Chg.setCell _ _ _ rfl
  generalize w2.setCell ⟨q, k * 4 + 2, none⟩ x.bv = w3 at *
  have h4 : Chg (fun b => b = q) w3 (w3.setCell ⟨q, k * 4 + 3, none⟩ x.sv) := Chg.setCell _ _ _ rfl
  exact ((h1.trans h2 (fun _ _ h => h)).trans h3 (fun _ _ h => h)).trans h4 (fun _ _ h => h)
theorem Rt.setT {w : World} {r q : Nat} {G : Nat → Prop} {R : Rs} (h : Rt w r q G R) {k : Nat} (hlt : k < R.L.length) {x : Rw} {t : Th} (hM : ThM w G x t) :
    Rt (setTh w q k x) r q G { R with L := R.L.set k t } := by
  obtain ⟨xs, c, h1, h2, h3, h4⟩ := h.row
  have hc := chg_setTh w q k x
  refine h.row' h3 h1 h4 hc (x := x) ?_ hlt (hM.kept hc (fun b hb e => h.gq (e ▸ hb)) (fun _ h => h)) (fun _ h => h) h.gr h.gq (fun b hb => Nat.lt_of_lt_of_le (h.gl b hb) hc.size)
  rw [rcells_set xs k x (by omega)]
  exact own_setC (own_setC (own_setC (own_setC h2 _) _) _) _
/-- What is free. -/
theorem Rt.setBl {w : World} {r q : Nat} {G : Nat → Prop} {R : Rs} (h : Rt w r q G R) (n : Int) : Rt (w.setCell ⟨r, 1, none⟩ (.int .i64 n)) r q G { R with bl := n } := by
  obtain ⟨xs, c, h1, h2, h3, h4⟩ := h.row
  have hc : Chg (fun b => b = r) w (w.setCell ⟨r, 1, none⟩ (.int .i64 n)) := Chg.setCell _ _ _ rfl
  refine ⟨h.ne, h.gr, h.gq, fun b hb => by rw [World.size_setCell]; exact h.gl b hb, ⟨xs, c, ?_, own_farC h2 hc (fun e => h.ne e.symm), h3, fun k hk => (h4 k hk).kept hc (fun b hb e => h.gr (e ▸ hb)) (fun _ h => h)⟩, ?_, ?_, fun i => ?_⟩
  · rw [World.cell?_setCell_other _ _ _ _ (by simp)]; exact h1
  · exact World.cell?_setCell_same _ _ _ h.cB
  · rw [World.cell?_setCell_other _ _ _ _ (by simp)]; exact h.cI
  · rw [World.frozen?_setCell]; exact h.fr i
theorem Rt.setIno {w : World} {r q : Nat} {G : Nat → Prop} {R : Rs} (h : Rt w r q G R) (n : Int) : Rt (w.setCell ⟨r, 2, none⟩ (.int .i64 n)) r q G { R with ino := n } := by
  obtain ⟨xs, c, h1, h2, h3, h4⟩ := h.row
  have hc : Chg (fun b => b = r) w (w.setCell ⟨r, 2, none⟩ (.int .i64 n)) := Chg.setCell _ _ _ rfl
  refine ⟨h.ne, h.gr, h.gq, fun b hb => by rw [World.size_setCell]; exact h.gl b hb, ⟨xs, c, ?_, own_farC h2 hc (fun e => h.ne e.symm), h3, fun k hk => (h4 k hk).kept hc (fun b hb e => h.gr (e ▸ hb)) (fun _ h => h)⟩, ?_, ?_, fun i => ?_⟩
  · rw [World.cell?_setCell_other _ _ _ _ (by simp)]; exact h1
  · rw [World.cell?_setCell_other _ _ _ _ (by simp)]; exact h.cB
  · exact World.cell?_setCell_same _ _ _ h.cI
  · rw [World.frozen?_setCell]; exact h.fr i
end Go.Proofs.YtlnjnimenihhnaaGreatDoor
