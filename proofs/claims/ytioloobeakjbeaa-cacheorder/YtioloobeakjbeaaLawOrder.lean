/-
  CacheOrder answers true.
-/
import Derived.Test.YtioloobeakjbeaaNums
import Derived.Deep.QuietTactic
namespace Go.Proofs.Ytioloobeakjbeaa
open Go.RowKit Go.Maps

/-- append of numbers onto an owned row of numbers. -/
theorem run_appI {P : Program} (w : World) (N : Nat) (t ty : TypeId) (i : TypeInfo) (ht : P.underlying t = some (.slice 3)) (hi : P.info? 3 = some i) (hz : i.zero = some (.int .i64 0)) (hs : i.size = 1) (hb : i.bytes = 8)
    (v x : Value) (n : Nat) (xs news : List Int) (hown : w.ownsRow N 3 1 v n (xs.map (Value.int .i64))) (hx : Is w x news) (hlen : xs.length + news.length ≤ 1099511627776) (hN : N ≤ w.heap.size) :
    ∃ v' w', (Builtin.append_ #[t, t] ty #[v, x]).run P w = .ok v' w' ∧ w'.ownsRow N 3 1 v' (n + news.length) ((xs ++ news).map (Value.int .i64)) ∧ w.grownBy w' v.ownBlock ∧ (v'.ownBlock = v.ownBlock ∨ v'.ownBlock = some w.heap.size) := by
  have hn : xs.length = n := by have := hown.1; simpa using this
  subst hn
  rw [List.map_append]
  rcases hx with ⟨rfl, rfl⟩ | ⟨a, c, rfl, _, _, hcell⟩
  · exact ⟨v, w, run_append_owned_none w N t ty 3 i 1 ht hi v _ _ hown, by simpa using hown, ⟨rfl, rfl, rfl, Nat.le_refl _, fun _ _ _ => rfl⟩, .inl rfl⟩
  · obtain ⟨v', w', h1, h2, h3, _, h5⟩ := run_append_own_at (P := P) w N t ty 3 i (.int .i64 0) 1 8 ht hi hz hs hb rfl (by decide) v xs.length (xs.map (Value.int .i64)) hown a news.length c (news.map (Value.int .i64)) (by simp)
      (fun j u hu => by
        have hj : j < news.length := by simpa using (List.getElem?_eq_some_iff.1 hu).1
        have : u = .int .i64 (news.getD j 0) := by
          simp [hj] at hu
          simp [List.getD, hj, ← hu]
        rw [this]; exact hcell j hj) (fun u hu => by obtain ⟨z, _, rfl⟩ := List.mem_map.1 hu; rfl) (by unfold maxLen; omega) (by omega) hN
    exact ⟨v', w', h1, by simpa using h2, h3, h5⟩

namespace Order
/-- The row of those that were used, with one more. -/
def next (size : Nat) (U : List Nat) (n : Nat) : List Nat := if size < (U.filter (fun x => x != n) ++ [n]).length then (U.filter (fun x => x != n) ++ [n]).tail else U.filter (fun x => x != n) ++ [n]
structure Inv (size j : Nat) (U : List Nat) (S : St) (C : Ca) : Prop where
  pw : Pw S
  nb : S.nb = 32
  size : C.size = size
  pins : ∀ i ∈ C.L, i.pins = 0
  cl : ∀ i ∈ C.L, i.dirty = false
  ns : C.L.map It.n = U
  cnt : C.hits + C.misses = j
  ev : C.misses = C.evicted + U.length
theorem Inv.new {size : Nat} : Inv size 0 [] (St.new 32) (Ca.new size) := ⟨Pw.new 32, rfl, rfl, fun _i hi => (List.not_mem_nil hi).elim, fun _i hi => (List.not_mem_nil hi).elim, rfl, rfl, rfl⟩
theorem map_filter (L : List It) (n : Nat) : (L.filter fun i => i.n != n).map It.n = (L.map It.n).filter fun x => x != n := by
  rw [List.filter_map]; rfl
theorem Inv.get {size j : Nat} {U : List Nat} {S : St} {C : Ca} (h : Inv size j U S C) (hw : C.Wf S.nb) {n : Nat} (hn : n < 32) : ∃ C', _root_.Go.Proofs.Ytioloobeakjbeaa.get S C n = ⟨0, S, C'⟩ ∧ Inv size (j + 1) (next size U n) S C' := by
  have hnb : n < S.nb := by rw [h.nb]; exact hn
  have hU : U.Nodup := by rw [← h.ns]; exact hw.uniq
  have hlen : C.L.length = U.length := by rw [← h.ns]; simp
  have hfew := hw.few
  rw [h.size] at hfew
  rw [get_eq h.pw hnb]
  cases hh : C.has n with
  | true =>
    obtain ⟨i, hi, e⟩ := Ca.has_iff.1 hh
    obtain ⟨xs, ys, e2⟩ := List.append_of_mem hi
    have hf := Ca.filter_eq hw.uniq e2
    rw [e] at hf
    have hL : (C.hit n).L = (C.L.filter fun i => i.n != n) ++ [i] := by
      show _ ++ (C.L.filter fun i => i.n == n) = _
      rw [hf.2]
    have hns : (C.hit n).L.map It.n = U.filter (fun x => x != n) ++ [n] := by rw [hL, List.map_append, map_filter, h.ns]; simp [e]
    have hlen2 : (U.filter (fun x => x != n) ++ [n]).length = U.length := by
      rw [← hns, hL, hf.1, ← hlen, e2]
      simp
    have hnx : next size U n = U.filter (fun x => x != n) ++ [n] := by unfold next; rw [if_neg (by rw [hlen2]; omega)]
    refine ⟨C.hit n, use_hit 0 _ hnb hh, h.pw, h.nb, h.size, fun k hk => ?_, fun k hk => ?_, by rw [hnx, hns], by show C.hits + 1 + C.misses = j + 1; have := h.cnt; omega, by rw [hnx, hlen2]; exact h.ev⟩
    · rw [hL] at hk
      rcases List.mem_append.1 hk with q | q
      · exact h.pins k (List.mem_filter.1 q).1
      · simp at q; rw [q]; exact h.pins i hi
    · rw [hL] at hk
      rcases List.mem_append.1 hk with q | q
      · exact h.cl k (List.mem_filter.1 q).1
      · simp at q; rw [q]; exact h.cl i hi
  | false =>
    have hno : n ∉ U := fun hm => by
      rw [← h.ns] at hm
      obtain ⟨i, hi, e⟩ := List.mem_map.1 hm
      have := Ca.has_iff.2 ⟨i, hi, e⟩
      rw [hh] at this; cases this
    have hfil : U.filter (fun x => x != n) = U := List.filter_eq_self.2 (fun x hx => by simp; exact fun e => hno (e ▸ hx))
    by_cases hl : C.L.length = C.size
    · cases hLc : C.L with
      | nil => exfalso; have := hw.pos; rw [hLc] at hl; simp at hl; omega
      | cons g L =>
        have hg : C.goes = some g := by unfold Ca.goes; rw [hLc, List.find?_cons_of_pos]; simp [h.pins g (by rw [hLc]; simp)]
        have gm : g ∈ C.L := by rw [hLc]; simp
        have he : cleanE S g = 0 := by unfold cleanE; rw [h.cl g gm]; rfl
        have hS : cleanS S g = S := by unfold cleanS; rw [h.cl g gm]; rfl
        have hf := (Ca.filter_eq hw.uniq (xs := []) (i := g) (ys := L) hLc).1
        have hUU : U = g.n :: L.map It.n := by rw [← h.ns, hLc]; rfl
        have hnx : next size U n = L.map It.n ++ [n] := by
          unfold next
          rw [hfil, if_pos (by rw [List.length_append]; rw [h.size] at hl; simp; omega), hUU]
          rfl
        have hL' : ((C.out g.n).add n (S.last n)).L = L ++ [⟨n, S.last n, false, 0⟩] := by
          show (C.L.filter fun i => i.n != g.n) ++ _ = _
          rw [hf]; rfl
        refine ⟨(C.out g.n).add n (S.last n), by rw [use_goes hnb hh hl hg he, hS], h.pw, h.nb, h.size, fun k hk => ?_, fun k hk => ?_, by rw [hL', hnx, List.map_append]; rfl, by show C.hits + (C.misses + 1) = j + 1; have := h.cnt; omega, ?_⟩
        · rw [hL'] at hk
          rcases List.mem_append.1 hk with q | q
          · exact h.pins k (by rw [hLc]; simp [q])
          · simp at q; rw [q]
        · rw [hL'] at hk
          rcases List.mem_append.1 hk with q | q
          · exact h.cl k (by rw [hLc]; simp [q])
          · simp at q; rw [q]
        · rw [hnx]
          show C.misses + 1 = C.evicted + 1 + _
          have := h.ev
          rw [hUU] at this
          simp at this ⊢
          omega
    · have hnx : next size U n = U ++ [n] := by
        unfold next
        rw [hfil, if_neg (by rw [List.length_append]; rw [h.size] at hl; simp; omega)]
      refine ⟨C.add n (S.last n), use_room hnb hh hl, h.pw, h.nb, h.size, fun k hk => ?_, fun k hk => ?_, by rw [hnx, ← h.ns]; simp [Ca.add], by show C.hits + (C.misses + 1) = j + 1; have := h.cnt; omega, by rw [hnx]; show C.misses + 1 = C.evicted + _; have := h.ev; simp; omega⟩
      · rcases List.mem_append.1 (show k ∈ C.L ++ _ from hk) with q | q
        · exact h.pins k q
        · simp at q; rw [q]
      · rcases List.mem_append.1 (show k ∈ C.L ++ _ from hk) with q | q
        · exact h.cl k q
        · simp at q; rw [q]
theorem Inv.held {size j : Nat} {U : List Nat} {S : St} {C : Ca} (h : Inv size j U S C) (hw : C.Wf S.nb) : (C.held 32).length = U.length ∧ ∀ n ∈ C.held 32, n ∈ U := by
  have hU : U.Nodup := by rw [← h.ns]; exact hw.uniq
  have hm : ∀ n ∈ C.held 32, n ∈ U := fun n hn => by
    obtain ⟨i, hi, e⟩ := Ca.has_iff.1 (List.mem_filter.1 hn).2
    rw [← h.ns, ← e]; exact List.mem_map_of_mem hi
  refine ⟨Nat.le_antisymm (sub_len (List.nodup_range.sublist List.filter_sublist) hm) (sub_len hU (fun n hn => ?_)), hm⟩
  rw [← h.ns] at hn
  obtain ⟨i, hi, rfl⟩ := List.mem_map.1 hn
  have := hw.lt i hi
  rw [h.nb] at this
  exact List.mem_filter.2 ⟨List.mem_range.2 this, Ca.has_iff.2 ⟨i, hi, rfl⟩⟩
theorem next_len {size n : Nat} {U : List Nat} (h : U.length ≤ size) (_hs : 0 < size) : (next size U n).length ≤ size := by
  unfold next
  have := List.length_filter_le (fun x => x != n) U
  split
  · rw [List.length_tail, List.length_append]; simp; omega
  · omega
end Order
open Order

/-- u is a slice that reads U. -/
def Us (W : World) (u : Value) (U : List Nat) : Prop :=
  (u = .slice none 0 0 ∧ U = []) ∨ ∃ g off c, u = .slice (some ⟨g, off, none⟩) U.length c ∧ U.length ≤ c ∧ ∀ j, j < U.length → W.cell? ⟨g, off + j, none⟩ = some (.int .i64 ((U.getD j 0 : Nat) : Int))
theorem Us.form {W : World} {u : Value} {U : List Nat} (h : Us W u U) : ∃ a c, u = .slice a U.length c ∧ U.length ≤ c := by
  rcases h with ⟨rfl, rfl⟩ | ⟨g, off, c, rfl, hl, _⟩
  · exact ⟨none, 0, rfl, Nat.le_refl _⟩
  · exact ⟨_, c, rfl, hl⟩
theorem Us.kept {E : Nat → Prop} {W W' : World} {u : Value} {U : List Nat} (h : Us W u U) (hc : Chg E W W') (hn : ∀ g, u.ownBlock = some g → ¬ E g) : Us W' u U := by
  rcases h with h | ⟨g, off, c, rfl, hl, hcell⟩
  · exact .inl h
  · exact .inr ⟨g, off, c, rfl, hl, fun j hj => hc.cell (hcell j hj) (hn g rfl)⟩
theorem Us.nth {W : World} {a : Option Addr} {n c j : Nat} {U : List Nat} (h : Us W (.slice a n c) U) (hj : j < U.length) : ∃ g off, a = some ⟨g, off, none⟩ ∧ ∀ k, k < U.length → W.cell? ⟨g, off + k, none⟩ = some (.int .i64 ((U.getD k 0 : Nat) : Int)) := by
  rcases h with ⟨_, rfl⟩ | ⟨g, off, c', e, _, hc⟩
  · simp at hj
  · simp at e
    exact ⟨g, off, e.1, hc⟩
theorem Us.ofOwns {W : World} {N : Nat} {v : Value} {U : List Nat} (h : W.ownsRow N 3 1 v U.length (icells U)) : Us W v U := by
  rcases h.2 with ⟨hv, h0⟩ | ⟨g, cap, cur, hv, _, _, h1, _⟩
  · exact .inl ⟨hv, List.eq_nil_of_length_eq_zero h0⟩
  · refine .inr ⟨g, 0, cap, hv, h1, fun j hj => ?_⟩
    rw [Nat.zero_add]
    rw [hv] at h
    exact own_cells h j hj
/-- v's memory is neither the disk's nor the cache's. -/
def Ap (F G : Nat → Prop) (W : World) (v : Value) : Prop := ∀ g, v.ownBlock = some g → ¬ F g ∧ ¬ G g ∧ g < W.heap.size
theorem Ap.to {F G F' G' : Nat → Prop} {W W' : World} {v : Value} (h : Ap F G W v) (k : Gr F G W W' F' G') : Ap F' G' W' v := fun g hg => by
  obtain ⟨h1, h2, h3⟩ := h g hg
  refine ⟨fun e => ?_, fun e => ?_, Nat.lt_of_lt_of_le h3 k.chg.size⟩
  · rcases k.f g e with e | e
    · exact h1 e
    · omega
  · rcases k.g g e with e | e
    · exact h2 e
    · omega
theorem Us.to {F G F' G' : Nat → Prop} {W W' : World} {v : Value} {U : List Nat} (h : Us W v U) (ha : Ap F G W v) (k : Gr F G W W' F' G') : Us W' v U := h.kept k.chg (fun g hg e => by
  obtain ⟨h1, h2, _⟩ := ha g hg
  rcases e with e | e
  · exact h1 e
  · exact h2 e)

theorem icells_eq (R : List Nat) : (R.map fun n : Nat => (n : Int)).map (Value.int .i64) = icells R := by simp [icells]
theorem appN {W : World} {N : Nat} {rv : Value} {R : List Nat} (x : Nat) (ho : W.ownsRow N 3 1 rv R.length (icells R)) (hN : N ≤ W.heap.size) (hl : R.length ≤ 1000) :
    ∃ v' w', (Builtin.append_ #[40, 40] 40 #[rv, .slice (some ⟨W.heap.size, 0, none⟩) 1 1]).run Try.prog (W.alloc (.cells #[.int .i64 (x : Int)] 3)) = .ok v' w' ∧ w'.ownsRow N 3 1 v' (R ++ [x]).length (icells (R ++ [x])) ∧ Chg (fun b => N ≤ b) W w' := by
  obtain ⟨i0, hi, hz0, hz1, hz2⟩ := info_parts info3
  have ho' : (W.alloc (.cells #[.int .i64 (x : Int)] 3)).ownsRow N 3 1 rv R.length ((R.map fun n : Nat => (n : Int)).map (Value.int .i64)) := by rw [icells_eq]; exact ho.alloc _
  obtain ⟨v', w', h1, h2, h3, h4⟩ := run_appI (P := Try.prog) (W.alloc (.cells #[.int .i64 (x : Int)] 3)) N 40 40 i0 Try.underlying40 hi hz0 hz1 hz2 rv (.slice (some ⟨W.heap.size, 0, none⟩) 1 1) R.length (R.map fun n : Nat => (n : Int)) [(x : Int)] ho' (Is.one W x) (by simp; omega) (by simp; omega)
  refine ⟨v', w', h1, ?_, ?_⟩
  · have e : ((R.map fun n : Nat => (n : Int)) ++ [(x : Int)]).map (Value.int .i64) = icells (R ++ [x]) := by simp [icells]
    rw [e] at h2
    simpa using h2
  · refine (Chg.alloc (fun b => N ≤ b) W _).trans ((Chg.ofGrown h3).mono (fun b _ e => ?_)) (fun _ _ h => h)
    exact (ho.lt b e).1

/-- u[1:]. -/
theorem slice_one (g n c : Nat) (hn : 1 < n) (hc : n ≤ c) (w : World) : (Instr.slice 40 (.slice (some ⟨g, 0, none⟩) n c) (some (.int .i64 1)) none none).run Try.prog w = .ok (.slice (some ⟨g, 1, none⟩) (n - 1) (c - 1)) w := by
  have hb : (Instr.sliceBounds true n c (some (.int .i64 1)) none none).run Try.prog w = .ok (1, n, c) w := by
    have hs2 : ∀ code, (Instr.sliceBound (.int .i64 1) n code).run Try.prog w = .ok 1 w := fun code => by rw [run_sliceBound (P := Try.prog) w .i64 1 n code (by decide) (by omega)]; rfl
    simp [Instr.sliceBounds, hs2]
  rw [run_slice_any w 40 _ _ _ (by kernel_rfl), hb]
  have hsz : (sizeOf (Try.prog.elem 40)).run Try.prog w = .ok 1 w := by kernel_rfl
  simp only [Result.andThen, hsz, sliced]
  rw [if_neg (by omega)]
  show Result.ok (Value.slice (some ((⟨g, 0, none⟩ : Addr).add (1 * 1))) _ _) w = _
  rw [Nat.mul_one, add_zero_off]

set_option maxHeartbeats 6400000 in
set_option maxRecDepth 100000 in
theorem law_order (sz : Int) (v : Value) (l : List Int) (w : World) (hv : Is w v l) : Calls Try.prog 6 #[.int .i64 sz, v] w fun e w' => e = .returned (.bool true) ∧ Chg (fun _ => False) w w' := by
  obtain ⟨va, vc, hvf, _⟩ := hv.form
  subst hvf
  have HV : Hid (Is w (.slice va l.length vc) l) := hv
  clear hv
  go_enter Try.func6, Try.ntmps6
  go_wp2_with fail
  refine (known_any w).mono ?_
  rintro e w0 ⟨rfl, hc0⟩
  have HC0 : Hid (Chg (fun _ => False) w w0) := hc0
  clear hc0
  by_cases hbad : sz < 1 ∨ 20 < sz ∨ 150 < l.length
  · by_cases b1 : sz < 1
    · have k1 : decide (sz < 1) = true := by simpa using b1
      clear hbad b1
      go_wp2
      go_ret
      exact ⟨rfl, HC0.out⟩
    have k1 : decide (sz < 1) = false := by simpa using b1
    by_cases b2 : 20 < sz
    · have k2 : decide (20 < sz) = true := by simpa using b2
      clear hbad b1 b2
      go_wp2
      go_ret
      exact ⟨rfl, HC0.out⟩
    have k2 : decide (20 < sz) = false := by simpa using b2
    have k3 : decide ((150 : Int) < (l.length : Int)) = true := by simp; omega
    clear hbad b1 b2
    go_wp2
    go_ret
    exact ⟨rfl, HC0.out⟩
  obtain ⟨size, rfl⟩ := Int.eq_ofNat_of_zero_le (show 0 ≤ sz by omega)
  have k1 : decide ((size : Int) < 1) = false := by simp; omega
  have k2 : decide (20 < (size : Int)) = false := by simp; omega
  have k3 : decide ((150 : Int) < (l.length : Int)) = false := by simp; omega
  have hs1 : 0 < size := by omega
  have hs2 : size ≤ 20 := by omega
  have hl1 : l.length ≤ 150 := by omega
  clear hbad
  go_wp2_with fail
  refine (new_ok 32 w0 (by decide) (by decide)).mono ?_
  rintro e w1 ⟨F, p, rfl, h1, hc1, hF⟩
  have H1 : Hid (Dk w1 F p (St.new 32) ∧ Chg (fun _ => False) w0 w1 ∧ ∀ b, F b → w0.heap.size ≤ b) := ⟨h1, hc1, hF⟩
  clear h1 hc1 hF k1 k2 k3
  go_wp2_with fail
  refine (cnew_ok p size 32 w1 hs1 (by omega) (by decide)).mono ?_
  rintro e w2 ⟨c, G, m, r, nd, rfl, h2, hc2, hG⟩
  have h20 := Cc.start H1.out.1 H1.out.2.1 H1.out.2.2 h2 hc2 hG
  have hs0 := HC0.out.size
  have H2 : Hid (Cc w2 F G c p (St.new 32) (Ca.new size) ∧ Nw F G w w2) := ⟨h20.1, HC0.out.trans h20.2.chg (fun _ _ h => h), fun b hb => by have := h20.2.f b hb; omega⟩
  have hq := eq32_some' ⟨c, 0, none⟩
  clear h2 hc2 hG H1 h20 hs0
  go_wp2_with fail
  go_loopg [9, 10, 11, 12, 13, 14, 15, 16, 17] (l.length) (fun gg u x _ _ _ _ _ _ _ wr => ∃ (j : Nat) (U : List Nat) (ua : Option Addr) (uc : Nat) (F G : Nat → Prop) (C : Ca), j ≤ l.length ∧ x = .int .i64 (j : Int) ∧ u = .slice ua U.length uc ∧ U.length ≤ size ∧ l.length - j ≤ gg ∧
    Hid (Cc wr F G c p (St.new 32) C ∧ Nw F G w wr ∧ Inv size j U (St.new 32) C ∧ Us wr (.slice ua U.length uc) U ∧ Ap F G wr (.slice ua U.length uc)))
  case atStart => exact ⟨0, [], none, 0, F, G, _, Nat.zero_le _, rfl, rfl, Nat.zero_le _, by omega, H2.out.1, H2.out.2, Inv.new, .inl ⟨rfl, rfl⟩, fun g hg => by cases hg⟩
  case round =>
    clear H2
    obtain ⟨j, U, ua, uc, F, G, C, hj, rfl, rfl, hUl, hgg, HX⟩ := hrel
    by_cases hlt : j < l.length
    · have k1 : decide ((j : Int) < (l.length : Int)) = true := by simp; omega
      have k1' : (j : Int) < (l.length : Int) := by omega
      obtain ⟨vb, vo, hva, hcs⟩ := (HV.out.kept HX.out.2.1.chg (fun _ _ h => h)).nth hlt
      have hcell := hcs j hlt
      subst hva
      generalize l.getD j 0 = x at *
      obtain ⟨n, hn⟩ : ∃ n : Nat, x % 32 = (n : Int) := ⟨(x % 32).toNat, by omega⟩
      have hn32 : n < 32 := by omega
      have hand : bits .and .i64 x 31 = (n : Int) := by rw [and31, hn]
      obtain ⟨C', hget, hinv⟩ := HX.out.2.2.1.get HX.out.1.wf.2 hn32
      have hcnt := HX.out.2.2.1.cnt
      have hev := HX.out.2.2.1.ev
      have HG : Hid (_root_.Go.Proofs.Ytioloobeakjbeaa.get (St.new 32) C n = ⟨0, St.new 32, C'⟩ ∧ Inv size (j + 1) (next size U n) (St.new 32) C') := ⟨hget, hinv⟩
      clear hcs hn hget hinv
      go_wp2_with fail
      refine (get_any F G c p (St.new 32) C n wr HX.out.1 (by decide) (by omega) (by omega)).mono ?_
      rintro e w3 ⟨u3, F3, G3, rfl, h3, g3, _, _⟩
      rw [HG.out.1] at h3 ⊢
      have H3 : Hid (Cc w3 F3 G3 c p (St.new 32) C' ∧ Nw F3 G3 w w3 ∧ Us w3 (.slice ua U.length uc) U ∧ ∀ b, F3 b ∨ G3 b → b < w3.heap.size) := ⟨h3, HX.out.2.1.to g3, HX.out.2.2.2.1.to HX.out.2.2.2.2 g3, h3.lt⟩
      clear h3 g3 hcell hand HX hcnt hev
      go_wp2_with fail
      go_loopg [12, 13] (U.length) (fun gg rv kx wr => ∃ (k : Nat) (R : List Nat) (ra : Option Addr) (rc : Nat), k ≤ U.length ∧ kx = .int .i64 (k : Int) ∧ rv = .slice ra R.length rc ∧ R.length ≤ k ∧ U.length - k ≤ gg ∧
        Hid (wr.ownsRow w3.heap.size 3 1 (.slice ra R.length rc) R.length (icells R) ∧ R = (U.take k).filter (fun x => x != n) ∧ Chg (fun _ => False) w3 wr))
      case atStart => exact ⟨0, [], none, 0, Nat.zero_le _, rfl, rfl, Nat.le_refl _, by omega, World.ownsRow_nil _ _ _ _, rfl, Chg.refl _ _⟩
      case round =>
        obtain ⟨k, R, ra, rc, hk, rfl, rfl, hRk, hgk, HR⟩ := hrel
        by_cases hkl : k < U.length
        · have k2 : decide ((k : Int) < (U.length : Int)) = true := by simp; omega
          have k2' : (k : Int) < (U.length : Int) := by omega
          obtain ⟨ub, uo, hua, hus⟩ := (H3.out.2.2.1.kept HR.out.2.2 (fun _ _ h => h)).nth hkl
          have ucell := hus k hkl
          subst hua
          have htk : U.take (k + 1) = U.take k ++ [U.getD k 0] := by
            rw [List.take_add_one]
            congr 1
            simp [List.getD, hkl]
          have HT : Hid (U.take (k + 1) = U.take k ++ [U.getD k 0]) := htk
          generalize U.getD k 0 = y at *
          clear hus htk
          by_cases hyn : y = n
          · have q1 : ((y : Int) == (n : Int)) = true := by simp; omega
            have q2 : (y : Int) = (n : Int) := by omega
            have HY : Hid (y = n) := hyn
            subst hyn
            go_wp2
            go_roundg (U.length - (k + 1))
            case measure => omega
            case rel =>
              refine ⟨k + 1, R, ra, rc, by omega, by go_num, rfl, by omega, Nat.le_refl _, HR.out.1, ?_, HR.out.2.2⟩
              rw [HT.out, List.filter_append, ← HR.out.2.1, List.filter_cons_of_neg (by simp)]
              simp
          · have q1 : ((y : Int) == (n : Int)) = false := by simp; omega
            obtain ⟨v', w', hr, ho', hch'⟩ := appN y HR.out.1 HR.out.2.2.size (by omega)
            have hRe : R ++ [y] = (U.take (k + 1)).filter (fun x => x != n) := by
              rw [HT.out, List.filter_append, ← HR.out.2.1, List.filter_cons_of_pos (by simpa using hyn)]
              rfl
            have hRl : (R ++ [y]).length ≤ k + 1 := by simp; omega
            generalize R ++ [y] = R' at *
            obtain ⟨a', c', hv'⟩ := own_slice ho'
            have HN : Hid (w'.ownsRow w3.heap.size 3 1 (.slice a' R'.length c') R'.length (icells R') ∧ R' = (U.take (k + 1)).filter (fun x => x != n) ∧ Chg (fun _ => False) w3 w') :=
              ⟨by rw [← hv']; exact ho', hRe, HR.out.2.2.trans hch' (fun i hi e => by omega)⟩
            subst hv'
            clear ho' hch' hyn hRe
            go_wp2_with (at_builtin; go_must (refine Lib.wpList_append_run _ rfl (.tmp 76) (.tmp 81) 40 40 rfl _ _ rfl rfl _ w' hr ?_))
            go_roundg (U.length - (k + 1))
            case measure => omega
            case rel => exact ⟨k + 1, R', a', c', by omega, by go_num, rfl, hRl, Nat.le_refl _, HN.out⟩
        · have hke : k = U.length := by omega
          subst hke
          have k2 : decide ((U.length : Int) < (U.length : Int)) = false := by simp
          obtain ⟨v', w', hr, ho', hch'⟩ := appN n HR.out.1 HR.out.2.2.size (by omega)
          have hRe : R = U.filter (fun x => x != n) := by have := HR.out.2.1; rwa [List.take_length] at this
          have hU1e : U.filter (fun x => x != n) ++ [n] = R ++ [n] := by rw [hRe]
          have hVl := next_len (n := n) hUl hs1
          have hnx : next size U n = if size < (R ++ [n]).length then (R ++ [n]).tail else R ++ [n] := by unfold next; rw [hU1e]
          have hU1l : (R ++ [n]).length ≤ U.length + 1 := by simp; omega
          have hU1p : 0 < (R ++ [n]).length := by simp
          generalize R ++ [n] = U1 at *
          obtain ⟨a', c', hv'⟩ := own_slice ho'
          have hc4 : Chg (fun _ => False) w3 w' := HR.out.2.2.trans hch' (fun i hi e => by omega)
          obtain ⟨g', hga⟩ : ∃ g, a' = some ⟨g, 0, none⟩ := by
            rcases ho'.2 with ⟨e, h0⟩ | ⟨g, cap, cur, e, _⟩
            · omega
            · rw [hv'] at e; simp at e; exact ⟨g, e.1⟩
          subst hga
          subst hv'
          have hgl := ho'.lt g' rfl
          have hcap : U1.length ≤ c' := by
            rcases ho'.2 with ⟨e, h0⟩ | ⟨g, cap, cur, e, _, _, h1, _⟩
            · omega
            · simp at e; rw [e.2]; exact h1
          have hap : ∀ (x : Addr) (n1 c1 : Nat), x.block = g' → Ap F3 G3 w' (.slice (some x) n1 c1) := fun x n1 c1 hx g hg => by
            simp [Value.ownBlock] at hg
            have hgg : g = g' := by rw [← hg]; exact hx
            subst hgg
            exact ⟨fun e => by have := H3.out.2.2.2 g (.inl e); omega, fun e => by have := H3.out.2.2.2 g (.inr e); omega, hgl.2⟩
          have hcells := own_cells ho'
          by_cases hbig : size < U1.length
          · have q4 : decide ((size : Int) < (U1.length : Int)) = true := by simp; omega
            have hV : next size U n = U1.tail := by rw [hnx, if_pos hbig]
            rw [hV] at hVl HG
            have htl : U1.tail.length = U1.length - 1 := List.length_tail
            have hus : Us w' (.slice (some ⟨g', 1, none⟩) U1.tail.length (c' - 1)) U1.tail := by
              refine .inr ⟨g', 1, c' - 1, rfl, by rw [htl]; omega, fun i hi => ?_⟩
              rw [htl] at hi
              have := hcells (1 + i) (by omega)
              rw [this]
              congr 3
              cases U1 with
              | nil => simp at hU1p
              | cons a U1 => rw [Nat.add_comm]; rfl
            have HT5 : Hid (Cc w' F3 G3 c p (St.new 32) C' ∧ Nw F3 G3 w w' ∧ Inv size (j + 1) U1.tail (St.new 32) C' ∧ Us w' (.slice (some ⟨g', 1, none⟩) U1.tail.length (c' - 1)) U1.tail ∧ Ap F3 G3 w' (.slice (some ⟨g', 1, none⟩) U1.tail.length (c' - 1))) :=
              ⟨H3.out.1.kept hc4 (fun _ _ h => h), H3.out.2.1.more hc4, HG.out.2, hus, hap _ _ _ rfl⟩
            have sl0 := slice_one g' U1.length c' (by omega) hcap
            rw [← htl] at sl0
            clear ho' hch' hc4 hgl hap hcells hRe hU1e hnx hV hus HR H3
            generalize hVV : U1.tail = V at *
            obtain ⟨xa, hxa⟩ : ∃ xa, (some ⟨g', 1, none⟩ : Option Addr) = xa := ⟨_, rfl⟩
            obtain ⟨xc, hxc⟩ : ∃ xc, c' - 1 = xc := ⟨_, rfl⟩
            rw [hxa, hxc] at HT5 sl0
            clear htl hxa hxc
            go_wp2_with (at_builtin; go_must (refine Lib.wpList_append_run _ rfl (.tmp 83) (.tmp 85) 40 40 rfl _ _ rfl rfl _ w' hr ?_))
            clear hr sl0
            go_wp2_with fail
            obtain ⟨m5, r5, ls5, nd5, h5⟩ := HT5.out.1
            refine (held_any G3 c p 32 C' m5 r5 ls5 nd5 w' h5.ca).mono ?_
            rintro e w5 ⟨v5, rfl, ho5, hc5⟩
            have hZ := HT5.out.2.2.1.held (show C'.Wf (St.new 32).nb from h5.ca.wf)
            have H5 : Hid (w5.ownsRow w'.heap.size 3 1 v5 (C'.held 32).length (icells (C'.held 32)) ∧ Cc w5 F3 G3 c p (St.new 32) C' ∧ Nw F3 G3 w w5 ∧ Us w5 (.slice xa V.length xc) V ∧ Ap F3 G3 w5 (.slice xa V.length xc) ∧ (∀ z ∈ C'.held 32, z ∈ V) ∧ Inv size (j + 1) V (St.new 32) C') :=
              ⟨ho5, HT5.out.1.kept hc5 (fun _ _ h => h), HT5.out.2.1.more hc5, HT5.out.2.2.2.1.kept hc5 (fun _ _ h => h), fun g hg => ⟨(HT5.out.2.2.2.2 g hg).1, (HT5.out.2.2.2.2 g hg).2.1, Nat.lt_of_lt_of_le (HT5.out.2.2.2.2 g hg).2.2 hc5.size⟩, hZ.2, HT5.out.2.2.1⟩
            obtain ⟨a5, cp5, hv5⟩ := own_slice ho5
            have hZl : (C'.held 32).length = V.length := hZ.1
            have q5 : (((C'.held 32).length : Int) == (V.length : Int)) = true := by rw [hZl]; simp
            clear h5 ho5 hc5 hZ HT5
            subst hv5
            generalize C'.held 32 = Z at *
            go_wp2_with fail
            go_loopg [15, 16, 17] (Z.length) (fun gg kx _ _ wr => ∃ k : Nat, k ≤ Z.length ∧ kx = .int .i64 (k : Int) ∧ Z.length - k ≤ gg ∧ Hid (Chg (fun _ => False) w5 wr))
            case atStart => exact ⟨0, Nat.zero_le _, rfl, by omega, (show Chg (fun _ => False) w5 w5 from Chg.refl _ _)⟩
            case round =>
              obtain ⟨k, hk, rfl, hgk, HCk⟩ := hrel
              by_cases hkl : k < Z.length
              · have k2 : decide ((k : Int) < (Z.length : Int)) = true := by simp; omega
                have k2' : (k : Int) < (Z.length : Int) := by omega
                obtain ⟨gz, hza⟩ : ∃ g, a5 = some ⟨g, 0, none⟩ := by
                  rcases H5.out.1.2 with ⟨e, h0⟩ | ⟨g, cap, cur, e, _⟩
                  · omega
                  · simp at e; exact ⟨g, e.1⟩
                subst hza
                have zc5 := own_cells H5.out.1 k hkl
                have hzm : Z.getD k 0 ∈ Z := by
                  have : Z.getD k 0 = Z[k] := by simp [List.getD, hkl]
                  rw [this]; exact List.getElem_mem hkl
                have hzV := H5.out.2.2.2.2.2.1 _ hzm
                generalize Z.getD k 0 = z at *
                clear hzm
                go_wp2_with fail
                go_loopg [16, 17] (V.length) (fun gg bx jx wr => ∃ i : Nat, i ≤ V.length ∧ jx = .int .i64 (i : Int) ∧ bx = .bool (decide (z ∈ V.take i)) ∧ V.length - i ≤ gg ∧ Hid (Chg (fun _ => False) w5 wr))
                case atStart => exact ⟨0, Nat.zero_le _, rfl, by simp, by omega, HCk.out⟩
                case round =>
                  obtain ⟨i, hi, rfl, rfl, hgi, HCi⟩ := hrel
                  by_cases hil : i < V.length
                  · have k3 : decide ((i : Int) < (V.length : Int)) = true := by simp; omega
                    have k3' : (i : Int) < (V.length : Int) := by omega
                    have zcell := HCi.out.cell zc5 (fun h => h)
                    obtain ⟨xb, xo, hxa, hxs⟩ := (H5.out.2.2.2.1.kept HCi.out (fun _ _ h => h)).nth hil
                    have xcell := hxs i hil
                    subst hxa
                    have htk : V.take (i + 1) = V.take i ++ [V.getD i 0] := by
                      rw [List.take_add_one]
                      congr 1
                      simp [List.getD, hil]
                    have HT2 : Hid (V.take (i + 1) = V.take i ++ [V.getD i 0]) := htk
                    generalize V.getD i 0 = y at *
                    clear hxs htk
                    by_cases hin : z ∈ V.take i
                    · have hd : decide (z ∈ V.take i) = true := by simpa using hin
                      rw [hd]
                      have HI2 : Hid (z ∈ V.take i) := hin
                      clear hin hd
                      go_wp2_with fail
                      go_quiet (fail)
                      go_wp2
                      go_roundg (V.length - (i + 1))
                      case measure => omega
                      case rel => exact ⟨i + 1, by omega, by go_num, by rw [HT2.out]; simp [HI2.out], Nat.le_refl _, HCi.out.trans (Chg.drewN _ _ _) (fun _ _ h => h)⟩
                    · have hd : decide (z ∈ V.take i) = false := by simpa using hin
                      rw [hd]
                      have HI2 : Hid (¬ z ∈ V.take i) := hin
                      clear hin hd
                      go_wp2_with fail
                      go_quiet (fail)
                      go_wp2
                      go_roundg (V.length - (i + 1))
                      case measure => omega
                      case rel =>
                        refine ⟨i + 1, by omega, by go_num, ?_, Nat.le_refl _, HCi.out.trans (Chg.drewN _ _ _) (fun _ _ h => h)⟩
                        rw [HT2.out]
                        congr 1
                        rw [Bool.eq_iff_iff]
                        simp [HI2.out]
                        omega
                  · have hie : i = V.length := by omega
                    subst hie
                    have k3 : decide ((V.length : Int) < (V.length : Int)) = false := by simp
                    have hd : decide (z ∈ V.take V.length) = true := by rw [List.take_length]; simpa using hzV
                    rw [hd]
                    clear hd
                    go_wp2
                    go_roundg (Z.length - (k + 1))
                    case measure => omega
                    case rel => exact ⟨k + 1, by omega, by go_num, Nat.le_refl _, HCi.out⟩
              · have hke : k = Z.length := by omega
                subst hke
                have k2 : decide ((Z.length : Int) < (Z.length : Int)) = false := by simp
                go_wp2
                go_roundg (l.length - (j + 1))
                case measure => omega
                case rel =>
                  obtain ⟨_, e1, e2, e3, e4, _, e5⟩ := H5.out
                  exact ⟨j + 1, V, xa, xc, F3, G3, C', by omega, by go_num, rfl, hVl, Nat.le_refl _, e1.kept HCk.out (fun _ _ h => h), e2.more HCk.out, e5, e3.kept HCk.out (fun _ _ h => h), fun g hg => ⟨(e4 g hg).1, (e4 g hg).2.1, Nat.lt_of_lt_of_le (e4 g hg).2.2 HCk.out.size⟩⟩
          · have q4 : decide ((size : Int) < (U1.length : Int)) = false := by simp; omega
            have hV : next size U n = U1 := by rw [hnx, if_neg hbig]
            rw [hV] at hVl HG
            have HT5 : Hid (Cc w' F3 G3 c p (St.new 32) C' ∧ Nw F3 G3 w w' ∧ Inv size (j + 1) U1 (St.new 32) C' ∧ Us w' (.slice (some ⟨g', 0, none⟩) U1.length c') U1 ∧ Ap F3 G3 w' (.slice (some ⟨g', 0, none⟩) U1.length c')) :=
              ⟨H3.out.1.kept hc4 (fun _ _ h => h), H3.out.2.1.more hc4, HG.out.2, Us.ofOwns ho', hap _ _ _ rfl⟩
            clear ho' hch' hc4 hgl hap hcells hRe hU1e hnx hV HR H3
            generalize hVV : U1 = V at *
            obtain ⟨xa, hxa⟩ : ∃ xa, (some ⟨g', 0, none⟩ : Option Addr) = xa := ⟨_, rfl⟩
            obtain ⟨xc, hxc⟩ : ∃ xc, c' = xc := ⟨_, rfl⟩
            go_wp2_with (at_builtin; go_must (refine Lib.wpList_append_run _ rfl (.tmp 83) (.tmp 85) 40 40 rfl _ _ rfl rfl _ w' hr ?_))
            rw [hxa, hxc] at HT5
            clear hr hxa hxc
            go_wp2_with fail
            obtain ⟨m5, r5, ls5, nd5, h5⟩ := HT5.out.1
            refine (held_any G3 c p 32 C' m5 r5 ls5 nd5 w' h5.ca).mono ?_
            rintro e w5 ⟨v5, rfl, ho5, hc5⟩
            have hZ := HT5.out.2.2.1.held (show C'.Wf (St.new 32).nb from h5.ca.wf)
            have H5 : Hid (w5.ownsRow w'.heap.size 3 1 v5 (C'.held 32).length (icells (C'.held 32)) ∧ Cc w5 F3 G3 c p (St.new 32) C' ∧ Nw F3 G3 w w5 ∧ Us w5 (.slice xa V.length xc) V ∧ Ap F3 G3 w5 (.slice xa V.length xc) ∧ (∀ z ∈ C'.held 32, z ∈ V) ∧ Inv size (j + 1) V (St.new 32) C') :=
              ⟨ho5, HT5.out.1.kept hc5 (fun _ _ h => h), HT5.out.2.1.more hc5, HT5.out.2.2.2.1.kept hc5 (fun _ _ h => h), fun g hg => ⟨(HT5.out.2.2.2.2 g hg).1, (HT5.out.2.2.2.2 g hg).2.1, Nat.lt_of_lt_of_le (HT5.out.2.2.2.2 g hg).2.2 hc5.size⟩, hZ.2, HT5.out.2.2.1⟩
            obtain ⟨a5, cp5, hv5⟩ := own_slice ho5
            have hZl : (C'.held 32).length = V.length := hZ.1
            have q5 : (((C'.held 32).length : Int) == (V.length : Int)) = true := by rw [hZl]; simp
            clear h5 ho5 hc5 hZ HT5
            subst hv5
            generalize C'.held 32 = Z at *
            go_wp2_with fail
            go_loopg [15, 16, 17] (Z.length) (fun gg kx _ _ wr => ∃ k : Nat, k ≤ Z.length ∧ kx = .int .i64 (k : Int) ∧ Z.length - k ≤ gg ∧ Hid (Chg (fun _ => False) w5 wr))
            case atStart => exact ⟨0, Nat.zero_le _, rfl, by omega, (show Chg (fun _ => False) w5 w5 from Chg.refl _ _)⟩
            case round =>
              obtain ⟨k, hk, rfl, hgk, HCk⟩ := hrel
              by_cases hkl : k < Z.length
              · have k2 : decide ((k : Int) < (Z.length : Int)) = true := by simp; omega
                have k2' : (k : Int) < (Z.length : Int) := by omega
                obtain ⟨gz, hza⟩ : ∃ g, a5 = some ⟨g, 0, none⟩ := by
                  rcases H5.out.1.2 with ⟨e, h0⟩ | ⟨g, cap, cur, e, _⟩
                  · omega
                  · simp at e; exact ⟨g, e.1⟩
                subst hza
                have zc5 := own_cells H5.out.1 k hkl
                have hzm : Z.getD k 0 ∈ Z := by
                  have : Z.getD k 0 = Z[k] := by simp [List.getD, hkl]
                  rw [this]; exact List.getElem_mem hkl
                have hzV := H5.out.2.2.2.2.2.1 _ hzm
                generalize Z.getD k 0 = z at *
                clear hzm
                go_wp2_with fail
                go_loopg [16, 17] (V.length) (fun gg bx jx wr => ∃ i : Nat, i ≤ V.length ∧ jx = .int .i64 (i : Int) ∧ bx = .bool (decide (z ∈ V.take i)) ∧ V.length - i ≤ gg ∧ Hid (Chg (fun _ => False) w5 wr))
                case atStart => exact ⟨0, Nat.zero_le _, rfl, by simp, by omega, HCk.out⟩
                case round =>
                  obtain ⟨i, hi, rfl, rfl, hgi, HCi⟩ := hrel
                  by_cases hil : i < V.length
                  · have k3 : decide ((i : Int) < (V.length : Int)) = true := by simp; omega
                    have k3' : (i : Int) < (V.length : Int) := by omega
                    have zcell := HCi.out.cell zc5 (fun h => h)
                    obtain ⟨xb, xo, hxa, hxs⟩ := (H5.out.2.2.2.1.kept HCi.out (fun _ _ h => h)).nth hil
                    have xcell := hxs i hil
                    subst hxa
                    have htk : V.take (i + 1) = V.take i ++ [V.getD i 0] := by
                      rw [List.take_add_one]
                      congr 1
                      simp [List.getD, hil]
                    have HT2 : Hid (V.take (i + 1) = V.take i ++ [V.getD i 0]) := htk
                    generalize V.getD i 0 = y at *
                    clear hxs htk
                    by_cases hin : z ∈ V.take i
                    · have hd : decide (z ∈ V.take i) = true := by simpa using hin
                      rw [hd]
                      have HI2 : Hid (z ∈ V.take i) := hin
                      clear hin hd
                      go_wp2_with fail
                      go_quiet (fail)
                      go_wp2
                      go_roundg (V.length - (i + 1))
                      case measure => omega
                      case rel => exact ⟨i + 1, by omega, by go_num, by rw [HT2.out]; simp [HI2.out], Nat.le_refl _, HCi.out.trans (Chg.drewN _ _ _) (fun _ _ h => h)⟩
                    · have hd : decide (z ∈ V.take i) = false := by simpa using hin
                      rw [hd]
                      have HI2 : Hid (¬ z ∈ V.take i) := hin
                      clear hin hd
                      go_wp2_with fail
                      go_quiet (fail)
                      go_wp2
                      go_roundg (V.length - (i + 1))
                      case measure => omega
                      case rel =>
                        refine ⟨i + 1, by omega, by go_num, ?_, Nat.le_refl _, HCi.out.trans (Chg.drewN _ _ _) (fun _ _ h => h)⟩
                        rw [HT2.out]
                        congr 1
                        rw [Bool.eq_iff_iff]
                        simp [HI2.out]
                        omega
                  · have hie : i = V.length := by omega
                    subst hie
                    have k3 : decide ((V.length : Int) < (V.length : Int)) = false := by simp
                    have hd : decide (z ∈ V.take V.length) = true := by rw [List.take_length]; simpa using hzV
                    rw [hd]
                    clear hd
                    go_wp2
                    go_roundg (Z.length - (k + 1))
                    case measure => omega
                    case rel => exact ⟨k + 1, by omega, by go_num, Nat.le_refl _, HCi.out⟩
              · have hke : k = Z.length := by omega
                subst hke
                have k2 : decide ((Z.length : Int) < (Z.length : Int)) = false := by simp
                go_wp2
                go_roundg (l.length - (j + 1))
                case measure => omega
                case rel =>
                  obtain ⟨_, e1, e2, e3, e4, _, e5⟩ := H5.out
                  exact ⟨j + 1, V, xa, xc, F3, G3, C', by omega, by go_num, rfl, hVl, Nat.le_refl _, e1.kept HCk.out (fun _ _ h => h), e2.more HCk.out, e5, e3.kept HCk.out (fun _ _ h => h), fun g hg => ⟨(e4 g hg).1, (e4 g hg).2.1, Nat.lt_of_lt_of_le (e4 g hg).2.2 HCk.out.size⟩⟩
    · have hje : j = l.length := by omega
      subst hje
      have k1 : decide ((l.length : Int) < (l.length : Int)) = false := by simp
      obtain ⟨m, r, ls, nd, hck⟩ := HX.out.1
      have hcnt := HX.out.2.2.1.cnt
      have hev := HX.out.2.2.1.ev
      have HCA : Hid (CaAt wr G c p 32 C m r ls nd ∧ Nw F G w wr) := ⟨hck.ca, HX.out.2.1⟩
      clear hck HX
      go_wp2_with fail
      refine (stats_any G c p 32 C m r ls nd wr HCA.out.1).mono ?_
      rintro e w3 ⟨rfl, q3, hw3⟩
      have c3 : Chg (fun _ => False) wr w3 := by rw [hw3]; exact Chg.drewN _ _ _
      have HE : Hid (Chg (fun _ => False) w w3) := (HCA.out.2.more c3).chg
      clear hw3 c3 HCA
      have e1 : (C.hits : Int) + (C.misses : Int) = (l.length : Int) := by omega
      have e2 : (C.misses : Int) - (U.length : Int) = (C.evicted : Int) := by omega
      have r1 : C.hits ≤ 150 := by omega
      have r2 : C.misses ≤ 150 := by omega
      generalize C.hits = hh at *
      generalize C.misses = mm at *
      generalize C.evicted = vv at *
      clear hcnt hev
      go_wp2
      go_ret
      exact ⟨by simp, HE.out⟩
end Go.Proofs.Ytioloobeakjbeaa
