/-
  BlockTwins answers true.
-/
import Derived.Test.YtkafpnjimdhakaaDo
namespace Go.Proofs.Ytkafpnjimdhakaa
open Go.RowKit Go.Maps
attribute [local go_sem ↓] Go.wp_at_zero Go.wp_at_succ

/-- The disk behind the first i acts. -/
def runA (S : St) (l : List ActD) (i : Nat) : St := (l.take i).foldl St.act S
theorem runA_zero (S : St) (l : List ActD) : runA S l 0 = S := rfl
theorem runA_succ {S : St} {l : List ActD} {i : Nat} (hi : i < l.length) : runA S l (i + 1) = (runA S l i).act l[i] := by
  have e : l.take (i + 1) = l.take i ++ [l[i]] := by rw [List.take_add_one]; simp [hi]
  unfold runA
  rw [e, List.foldl_append]; rfl
theorem runA_writes (S : St) (l : List ActD) : ∀ i, (runA S l i).writes ≤ S.writes + i
  | 0 => Nat.le_refl _
  | i + 1 => by
    have ih := runA_writes S l i
    by_cases hi : i < l.length
    · rw [runA_succ hi]
      have := St.act_writes (runA S l i) l[i]
      omega
    · have e : runA S l (i + 1) = runA S l i := by unfold runA; rw [List.take_of_length_le (by omega), List.take_of_length_le (by omega)]
      rw [e]; omega
theorem runA_picks {S : St} {l : List ActD} (hS : S.picks.length ≤ 100) (hl : ∀ i (hi : i < l.length), l[i].bs.length ≤ 512 ∧ l[i].ps.length ≤ 100) : ∀ i, (runA S l i).picks.length ≤ 100
  | 0 => hS
  | i + 1 => by
    have ih := runA_picks hS hl i
    by_cases hi : i < l.length
    · rw [runA_succ hi]
      refine Nat.le_trans (St.act_picks (runA S l i) l[i]) (Nat.max_le.2 ⟨ih, (hl i hi).2⟩)
    · have e : runA S l (i + 1) = runA S l i := by unfold runA; rw [List.take_of_length_le (by omega), List.take_of_length_le (by omega)]
      rw [e]; exact ih
/-- What each act answers. -/
def outAt (S : St) (l : List ActD) (i : Nat) : Int := match l[i]? with
  | some d => (runA S l i).actE d
  | none => 0
theorem outAt_of {S : St} {l : List ActD} {i : Nat} (hi : i < l.length) : outAt S l i = (runA S l i).actE l[i] := by simp [outAt, hi]
def outs (S : St) (l : List ActD) (i : Nat) : List Int := (List.range i).map (outAt S l)
theorem outs_len (S : St) (l : List ActD) (i : Nat) : (outs S l i).length = i := by simp [outs]
theorem outs_succ (S : St) (l : List ActD) (i : Nat) : outs S l (i + 1) = outs S l i ++ [outAt S l i] := by simp [outs, List.range_succ]

theorem Is.argOff {w : World} {v : Value} {ps : List Int} {F : Nat → Prop} (h : Is w v ps) (hF : ∀ b, F b → w.heap.size ≤ b) : ps ≠ [] → ∀ g, v.ownBlock = some g → ¬ F g := fun hne g hg hf => by
  have h1 := hF g hf
  have hpl : 0 < ps.length := List.length_pos_iff.2 hne
  rcases h with ⟨e, e2⟩ | ⟨a, c, e, _, _, h3⟩
  · exact hne e2
  · rw [e] at hg
    have h4 := World.block_lt_of_cell? w _ (h3 0 hpl)
    have e5 : (a.add 0).block = a.block := by unfold Addr.add; split <;> rfl
    rw [e5] at h4
    have : a.block = g := by simpa [Value.ownBlock] using hg
    omega

/-- An act, done to a disk that the call has made. -/
theorem do_arg {w wr : World} {F : Nat → Prop} {p : Nat} {S : St} {b o : Nat} {d : ActD} (h : Dk wr F p S) (hc : Chg (fun _ => False) w wr) (hF : ∀ b, F b → w.heap.size ≤ b) (ha : ActAt w b o d) (hl : d.bs.length ≤ 512 ∧ d.ps.length ≤ 100) (hx : S.writes < 1099511627776) :
    Calls Try.prog 27 #[.pointer (some ⟨p, 0, none⟩), .agg #[.int .i64 d.op, .int .i64 d.n, d.bv, d.pv]] wr fun e w' => e = .returned (.int .i64 (S.actE d)) ∧ To F p wr w' (S.act d) :=
  do_any F p S d wr h (ha.bs.kept hc (fun _ _ _ _ _ h => h)) (ha.ps.kept hc (fun _ _ h => h)) (ha.ps.argOff hF) ha.n0 ha.n1 hl.1 hl.2 hx

theorem run_appI {P : Program} (w : World) (N : Nat) (t ty : TypeId) (i : TypeInfo) (ht : P.underlying t = some (.slice 3)) (hi : P.info? 3 = some i) (hz : i.zero = some (.int .i64 0)) (hs : i.size = 1) (hb : i.bytes = 8)
    (v x : Value) (n : Nat) (xs news : List Int) (hown : w.ownsRow N 3 1 v n (xs.map (Value.int .i64))) (hx : Is w x news) (hlen : n + news.length ≤ 1099511627776) (hN : N ≤ w.heap.size) :
    ∃ v' w', (Builtin.append_ #[t, t] ty #[v, x]).run P w = .ok v' w' ∧ w'.ownsRow N 3 1 v' (n + news.length) ((xs ++ news).map (Value.int .i64)) ∧ w.grownBy w' v.ownBlock ∧ (v'.ownBlock = v.ownBlock ∨ v'.ownBlock = some w.heap.size) := by
  rcases hx with ⟨rfl, rfl⟩ | ⟨a, c, rfl, _, _, hcell⟩
  · exact ⟨v, w, run_append_owned_none w N t ty 3 i 1 ht hi v _ _ hown, by simpa using hown, ⟨rfl, rfl, rfl, Nat.le_refl _, fun _ _ _ => rfl⟩, .inl rfl⟩
  · obtain ⟨v', w', h1, h2, h3, _, h5⟩ := run_append_own_at (P := P) w N t ty 3 i (.int .i64 0) 1 8 ht hi hz hs hb rfl (by decide) v n _ hown a news.length c (news.map (Value.int .i64)) (by simp)
      (fun j u hu => by
        have hj : j < news.length := by simpa using (List.getElem?_eq_some_iff.1 hu).1
        have : u = .int .i64 (news.getD j 0) := by
          simp [hj] at hu
          simp [List.getD, hj, ← hu]
        rw [this]; exact hcell j hj) (fun u hu => by obtain ⟨z, _, rfl⟩ := List.mem_map.1 hu; rfl) (by unfold maxLen; omega) (by omega) hN
    exact ⟨v', w', h1, by simpa using h2, h3, h5⟩

/-- Behind a call of the first, with a slice of numbers of the call's own beside them. -/
theorem Two.leftRow {w w1 w2 : World} {F G : Nat → Prop} {p q : Nat} {S' T : St} {v : Value} {n : Nat} {xs : List Value} (h : Two F G w w1) (t : Dk w1 G q T) (hto : To F p w1 w2 S') (row : w1.ownsRow w.heap.size 3 1 v n xs) (off : ∀ g, v.ownBlock = some g → ¬ F g ∧ ¬ G g) :
    ∃ F', Dk w2 F' p S' ∧ Dk w2 G q T ∧ Two F' G w w2 ∧ w2.ownsRow w.heap.size 3 1 v n xs ∧ ∀ g, v.ownBlock = some g → ¬ F' g ∧ ¬ G g := by
  obtain ⟨F', h1, h2, h3⟩ := hto
  refine ⟨F', h1, t.kept h2 (fun b hg hf => h.no b hf hg), ⟨h.chg.trans h2 (fun i hi e => by have := h.f i e; omega), fun b hb => ?_, h.g, fun b hb hg => ?_⟩, own_same row (fun g hg => h2.block g (row.lt g hg).2 (off g hg).1), fun g hg => ⟨fun hf => ?_, (off g hg).2⟩⟩
  · rcases h3 b hb with e | e
    · exact h.f b e
    · have := h.chg.size; omega
  · rcases h3 b hb with e | e
    · exact h.no b e hg
    · have := t.lt b hg; omega
  · rcases h3 g hf with e | e
    · exact (off g hg).1 e
    · have := (row.lt g hg).2; omega

/-- What the second loop keeps. -/
def Tw2 (w : World) (p q : Nat) (G : Nat → Prop) (S : St) (t : List ActD) (i : Nat) (v : Value) (wr : World) : Prop :=
  ∃ F, Dk wr F p (runA S t i) ∧ Dk wr G q S ∧ Two F G w wr ∧ wr.ownsRow w.heap.size 3 1 v i ((outs S t i).map (Value.int .i64)) ∧ ∀ g, v.ownBlock = some g → ¬ F g ∧ ¬ G g
theorem tw2_step {w wr : World} {p q : Nat} {G : Nat → Prop} {S : St} {t : List ActD} {i : Nat} {v : Value} {b o : Nat} (h : Tw2 w p q G S t i v wr) (hi : i < t.length) (ha : ActAt w b o t[i]) (hl : t[i].bs.length ≤ 512 ∧ t[i].ps.length ≤ 100) (hx : (runA S t i).writes < 1099511627776) (ht : t.length ≤ 150) :
    Calls Try.prog 27 #[.pointer (some ⟨p, 0, none⟩), .agg #[.int .i64 t[i].op, .int .i64 t[i].n, t[i].bv, t[i].pv]] wr fun e w1 => ∃ z v' w2, e = .returned (.int .i64 z) ∧
      (Builtin.append_ #[33, 33] 33 #[v, .slice (some ⟨w1.heap.size, 0, none⟩) 1 1]).run Try.prog (w1.alloc (.cells #[.int .i64 z] 3)) = .ok v' w2 ∧ Hid (Tw2 w p q G S t (i + 1) v' w2) := by
  obtain ⟨i0, hi3, hz0, hz1, hz2⟩ := info_parts info3
  obtain ⟨F, h1, h2, two, row, off⟩ := h
  refine (do_arg h1 two.chg two.f ha hl hx).mono ?_
  rintro e w1 ⟨rfl, hto⟩
  obtain ⟨F1, d1, g1, two1, row1, off1⟩ := two.leftRow h2 hto row off
  have ca := Chg.alloc (fun _ => False) w1 (.cells #[.int .i64 ((runA S t i).actE t[i])] 3)
  have row2 := own_same row1 (fun g hg => ca.block g (row1.lt g hg).2 (fun h => h))
  obtain ⟨v', w2, hr, ho, hg, hat⟩ := run_appI (P := Try.prog) _ w.heap.size 33 33 i0 Try.underlying33 hi3 hz0 hz1 hz2 v _ i (outs S t i) [(runA S t i).actE t[i]] row2 (Is.one w1 _) (by simp; omega) (Nat.le_trans two1.chg.size ca.size)
  have cg := Chg.ofGrown hg
  refine ⟨_, v', w2, rfl, hr, F1, ?_, ?_, ⟨(two1.chg.trans ca (fun _ _ h => h)).trans cg (fun k hk e => ?_), two1.f, two1.g, two1.no⟩, ?_, fun g hg' => ?_⟩
  · rw [runA_succ hi]
    exact (d1.kept ca (fun _ _ h => h)).kept cg (fun b hb e => (off1 b e).1 hb)
  · exact (g1.kept ca (fun _ _ h => h)).kept cg (fun b hb e => (off1 b e).2 hb)
  · have := (row1.lt k e).1; omega
  · rw [outs_succ, outAt_of hi]
    simpa using ho
  · rcases hat with e | e
    · exact off1 g (by rw [← e]; exact hg')
    · have e2 : g = w1.heap.size + 1 := by rw [hg'] at e; simpa using e
      exact ⟨fun hf => by have := d1.lt g hf; omega, fun hf => by have := g1.lt g hf; omega⟩
/-- What the third loop keeps. -/
def Tw3 (w : World) (p q : Nat) (F : Nat → Prop) (S : St) (t : List ActD) (v : Value) (i : Nat) (wr : World) : Prop :=
  ∃ G, Dk wr F p (runA S t t.length) ∧ Dk wr G q (runA S t i) ∧ Two F G w wr ∧ wr.ownsRow w.heap.size 3 1 v t.length ((outs S t t.length).map (Value.int .i64)) ∧ ∀ g, v.ownBlock = some g → ¬ F g ∧ ¬ G g
theorem Tw3.cell {w wr : World} {p q : Nat} {F : Nat → Prop} {S : St} {t : List ActD} {i j gb gc : Nat} (h : Tw3 w p q F S t (.slice (some ⟨gb, 0, none⟩) t.length gc) j wr) (hi : i < t.length) : wr.cell? ⟨gb, i, none⟩ = some (.int .i64 (outAt S t i)) := by
  obtain ⟨G, _, _, _, row, _⟩ := h
  have oc := row.cells (g := gb) rfl i (.int .i64 (outAt S t i)) (by simp [outs, hi])
  rwa [add_zero_off] at oc
theorem Tw3.two {w wr : World} {p q : Nat} {F : Nat → Prop} {S : St} {t : List ActD} {v : Value} {j : Nat} (h : Tw3 w p q F S t v j wr) : Chg (fun _ => False) w wr := by
  obtain ⟨G, _, _, two, _, _⟩ := h
  exact two.chg
theorem tw3_step {w wr : World} {p q : Nat} {F : Nat → Prop} {S : St} {t : List ActD} {i gb gc : Nat} {b o : Nat} (h : Tw3 w p q F S t (.slice (some ⟨gb, 0, none⟩) t.length gc) i wr) (hi : i < t.length) (ha : ActAt w b o t[i]) (hl : t[i].bs.length ≤ 512 ∧ t[i].ps.length ≤ 100) (hx : (runA S t i).writes < 1099511627776) :
    Calls Try.prog 27 #[.pointer (some ⟨q, 0, none⟩), .agg #[.int .i64 t[i].op, .int .i64 t[i].n, t[i].bv, t[i].pv]] wr.drew fun e w1 => e = .returned (.int .i64 (outAt S t i)) ∧ w1.cell? ⟨b, o, none⟩ = some (.int .i64 t[i].op) ∧ w1.cell? ⟨b, o + 1, none⟩ = some (.int .i64 t[i].n) ∧ w1.cell? ⟨b, o + 2, none⟩ = some t[i].bv ∧ w1.cell? ⟨b, o + 3, none⟩ = some t[i].pv ∧
      w1.cell? ⟨gb, i, none⟩ = some (.int .i64 (outAt S t i)) ∧ Hid (Tw3 w p q F S t (.slice (some ⟨gb, 0, none⟩) t.length gc) (i + 1) w1) := by
  obtain ⟨G, h1, h2, two, row, off⟩ := h
  have cd := Chg.drew (fun _ => False) wr
  have two' := two.more cd
  have d1 : Dk wr.drew F p (runA S t t.length) := h1.kept cd (fun _ _ h => h)
  have d2 : Dk wr.drew G q (runA S t i) := h2.kept cd (fun _ _ h => h)
  have row' : wr.drew.ownsRow w.heap.size 3 1 (.slice (some ⟨gb, 0, none⟩) t.length gc) t.length ((outs S t t.length).map (Value.int .i64)) := own_same row (fun _ _ => rfl)
  refine (do_arg d2 two'.chg two.g ha hl hx).mono ?_
  rintro e w1 ⟨rfl, hto⟩
  obtain ⟨G1, g1, f1, two1, row1, off1⟩ := two'.swap.leftRow d1 hto row' (fun g hg => (off g hg).symm)
  rw [← runA_succ hi] at g1
  have T3 : Tw3 w p q F S t (.slice (some ⟨gb, 0, none⟩) t.length gc) (i + 1) w1 := ⟨G1, f1, g1, two1.swap, row1, fun g hg => (off1 g hg).symm⟩
  have a1 := ha.kept two1.chg
  exact ⟨by rw [outAt_of hi], a1.op, a1.n, a1.bc, a1.pc, T3.cell hi, T3⟩
/-- Both disks in one world. -/
def Both (w : World) (p q : Nat) (F G : Nat → Prop) (T : St) (wr : World) : Prop := Dk wr F p T ∧ Dk wr G q T ∧ Chg (fun _ => False) w wr
theorem Both.more {w wr w2 : World} {p q : Nat} {F G : Nat → Prop} {T : St} (h : Both w p q F G T wr) (c : Chg (fun _ => False) wr w2) : Both w p q F G T w2 := ⟨h.1.kept c (fun _ _ h => h), h.2.1.kept c (fun _ _ h => h), h.2.2.trans c (fun _ _ h => h)⟩
theorem both_images {w wr : World} {p q : Nat} {F G : Nat → Prop} {T : St} (h : Both w p q F G T wr) (hx : T.writes < 1099511627776) {ts : ByteArray} (hts : strOf T.image = ts) :
    Calls Try.prog 18 #[.pointer (some ⟨q, 0, none⟩)] wr.drew fun e w1 => ∃ u, e = .returned u ∧ (convert 32 9 u).run Try.prog w1 = .ok (.string ts) w1 ∧
      Hid (Calls Try.prog 18 #[.pointer (some ⟨p, 0, none⟩)] w1 fun e w2 => ∃ u2, e = .returned u2 ∧ (convert 32 9 u).run Try.prog w2 = .ok (.string ts) w2 ∧ (convert 32 9 u2).run Try.prog w2 = .ok (.string ts) w2 ∧ Hid (Both w p q F G T w2)) := by
  have h0 := h.more (Chg.drew (fun _ => False) wr)
  refine (image_any G q T _ h0.2.1 hx).mono ?_
  rintro e w1 ⟨a, c, rfl, fr⟩
  have h1 := h0.more fr.chg
  refine ⟨_, rfl, by rw [← hts]; exact run_str fr.bs, ?_⟩
  refine (image_any F p T _ h1.1 hx).mono ?_
  rintro e w2 ⟨a2, c2, rfl, fr2⟩
  exact ⟨_, rfl, by rw [← hts]; exact run_str (fr.bs.kept fr2.chg (fun _ _ _ _ _ h => h)), by rw [← hts]; exact run_str fr2.bs, h1.more fr2.chg⟩

set_option maxHeartbeats 1600000 in
set_option maxRecDepth 100000 in
theorem twins_out1 (lv tv : Value) (l : List ActD) (w : World) (hl : Acts w lv l) (hf : fewA l = false) :
    Calls Try.prog 7 #[lv, tv] w fun e w' => e = .returned (.bool true) ∧ Chg (fun _ => False) w w' := by
  have HL : Hid (Acts w lv l) := hl
  clear hl
  go_enter Try.func7, Try.ntmps7
  go_wp2_with fail
  refine (known_any w).mono ?_
  rintro e w1 ⟨rfl, c1⟩
  go_wp2_with fail
  refine (few_any lv l w1 (HL.out.kept c1)).mono ?_
  rintro e w2 ⟨rfl, rfl⟩
  rw [hf]
  go_wp2
  go_ret
  exact ⟨rfl, c1⟩
set_option maxHeartbeats 1600000 in
set_option maxRecDepth 100000 in
theorem twins_out2 (lv tv : Value) (l t : List ActD) (w : World) (hl : Acts w lv l) (ht : Acts w tv t) (hf : fewA l = true) (hg : fewA t = false) :
    Calls Try.prog 7 #[lv, tv] w fun e w' => e = .returned (.bool true) ∧ Chg (fun _ => False) w w' := by
  have HL : Hid (Acts w lv l) := hl
  have HT : Hid (Acts w tv t) := ht
  clear hl ht
  go_enter Try.func7, Try.ntmps7
  go_wp2_with fail
  refine (known_any w).mono ?_
  rintro e w1 ⟨rfl, c1⟩
  go_wp2_with fail
  refine (few_any lv l w1 (HL.out.kept c1)).mono ?_
  rintro e w2 ⟨rfl, rfl⟩
  rw [hf]
  go_wp2_with fail
  refine (few_any tv t w2 (HT.out.kept c1)).mono ?_
  rintro e w3 ⟨rfl, rfl⟩
  rw [hg]
  go_wp2
  go_ret
  exact ⟨rfl, c1⟩

theorem few_len {l : List ActD} (h : fewA l = true) : l.length ≤ 150 ∧ ∀ i (hi : i < l.length), l[i].bs.length ≤ 512 ∧ l[i].ps.length ≤ 100 := by
  simp [fewA] at h
  refine ⟨h.1, fun i hi => ?_⟩
  have := h.2 l[i] (List.getElem_mem hi)
  simpa [ActD.few] using this

set_option maxHeartbeats 3200000 in
set_option maxRecDepth 100000 in
theorem twins_loop (lv tv : Value) (l t : List ActD) (w : World) (hl : Acts w lv l) (ht : Acts w tv t) (hf : fewA l = true) (hg : fewA t = true) :
    Calls Try.prog 7 #[lv, tv] w fun e w' => e = .returned (.bool true) ∧ Chg (fun _ => False) w w' := by
  obtain ⟨hl1, hl2⟩ := few_len hf
  obtain ⟨ht1, ht2⟩ := few_len hg
  obtain ⟨la, lc, rfl⟩ := hl.form
  obtain ⟨ta, tc, rfl⟩ := ht.form
  have HL : Hid (Acts w (.slice la l.length lc) l ∧ ∀ i (hi : i < l.length), l[i].bs.length ≤ 512 ∧ l[i].ps.length ≤ 100) := ⟨hl, hl2⟩
  have HT : Hid (Acts w (.slice ta t.length tc) t ∧ ∀ i (hi : i < t.length), t[i].bs.length ≤ 512 ∧ t[i].ps.length ≤ 100) := ⟨ht, ht2⟩
  have HPK : Hid (∀ i, (runA (St.new 5) l i).picks.length ≤ 100 ∧ (runA (St.new 5) l i).writes ≤ i) := fun i => ⟨runA_picks (by decide) hl2 i, by have := runA_writes (St.new 5) l i; simpa [St.new] using this⟩
  clear hl ht hl2 ht2
  go_enter Try.func7, Try.ntmps7
  go_wp2_with fail
  refine (known_any w).mono ?_
  rintro e w1 ⟨rfl, c1⟩
  go_wp2_with fail
  refine (few_any _ l w1 (HL.out.1.kept c1)).mono ?_
  rintro e w2 ⟨rfl, rfl⟩
  rw [hf]
  go_wp2_with fail
  refine (few_any _ t w2 (HT.out.1.kept c1)).mono ?_
  rintro e w3 ⟨rfl, rfl⟩
  rw [hg]
  clear hf hg
  go_wp2_with fail
  refine (new_ok 5 w3 (by decide) (by decide)).mono ?_
  rintro e w4 ⟨F, p, rfl, h4, c4, hF⟩
  have hq := eq25_some ⟨p, 0, none⟩
  have REL0 : ∃ F, Dk w4 F p (runA (St.new 5) l 0) ∧ Chg (fun _ => False) w w4 ∧ ∀ b, F b → w.heap.size ≤ b := ⟨F, h4, c1.trans c4 (fun _ _ h => h), fun b hb => Nat.le_trans c1.size (hF b hb)⟩
  clear h4 c1 c4 hF
  go_wp2_with fail
  clear hq
  go_loopw [8] (fun x wr => ∃ i : Nat, i ≤ l.length ∧ x = .int .i64 (i : Int) ∧ ∃ F, Dk wr F p (runA (St.new 5) l i) ∧ Chg (fun _ => False) w wr ∧ ∀ b, F b → w.heap.size ≤ b) (fun x _ => l.length - (intOf x).toNat)
  case atStart => exact ⟨0, Nat.zero_le _, rfl, REL0⟩
  case round =>
    clear REL0
    obtain ⟨i, hiL, rfl, F6, h6, c6, f6⟩ := hrel
    by_cases hlt : i < l.length
    · obtain ⟨b, off, rfl, hat⟩ := HL.out.1.at hlt
      have hli : (i : Int) < (l.length : Int) := by omega
      have DO := do_arg h6 c6 f6 hat (HL.out.2 i hlt) (by have := (HPK.out i).2; omega)
      rw [← runA_succ hlt] at DO
      obtain ⟨d, hd⟩ : ∃ d, l[i] = d := ⟨_, rfl⟩
      rw [hd] at hat DO
      have a6 := hat.kept c6
      have q0 := a6.op
      have q1 := a6.n
      have q2 := a6.bc
      have q3 := a6.pc
      obtain ⟨z, hz⟩ : ∃ z, (runA (St.new 5) l i).actE d = z := ⟨_, rfl⟩
      rw [hz] at DO
      have HD : Hid (Calls Try.prog 27 #[.pointer (some ⟨p, 0, none⟩), .agg #[.int .i64 d.op, .int .i64 d.n, d.bv, d.pv]] wr fun e w' => e = .returned (.int .i64 z) ∧ To F6 p wr w' (runA (St.new 5) l (i + 1))) := DO
      have H6 : Hid (Chg (fun _ => False) w wr ∧ ∀ b, F6 b → w.heap.size ≤ b) := ⟨c6, f6⟩
      clear a6 hat hd h6 c6 f6 DO hz
      generalize d.op = dop at *
      generalize d.n = dn at *
      generalize d.bv = dv at *
      generalize d.pv = dp at *
      go_wp2_with fail
      refine HD.out.mono ?_
      rintro e w7 ⟨rfl, h7⟩
      obtain ⟨F7, H7⟩ := step_next H6.out h7
      have HR : Hid (∃ F, Dk w7 F p (runA (St.new 5) l (i + 1)) ∧ Chg (fun _ => False) w w7 ∧ ∀ b, F b → w.heap.size ≤ b) := ⟨F7, H7⟩
      clear h7 H7 HD H6 q0 q1 q2 q3
      go_wp2
      go_roundw
      case rel => exact ⟨i + 1, by omega, by go_num, HR.out⟩
      case measure => simp [intOf]; omega
    · obtain ⟨S6, hS6⟩ : ∃ S, runA (St.new 5) l i = S := ⟨_, rfl⟩
      have hpk := HPK.out i
      rw [hS6] at hpk h6
      have hw6 : S6.writes ≤ 150 := by omega
      have HW : Hid (∀ j, j ≤ t.length → (runA S6 t j).writes < 1099511627776) := fun j hj => by have := runA_writes S6 t j; omega
      have hS6x : S6.writes < 1099511627776 := by omega
      have hp6 : S6.picks.length ≤ 1099511627776 := by omega
      have H6 : Hid (Dk wr F6 p S6 ∧ (Chg (fun _ => False) w wr ∧ ∀ b, F6 b → w.heap.size ≤ b)) := ⟨h6, c6, f6⟩
      have g3 : ¬ (i : Int) < (l.length : Int) := by omega
      clear h6 c6 f6 HL HPK hS6 hpk
      go_wp2_with fail
      refine (twin_any F6 p S6 wr H6.out.1 hS6x hp6).mono ?_
      rintro e w9 ⟨G9, q, rfl, t9, hc9, hG9⟩
      have H9 : Hid (Dk w9 F6 p S6 ∧ Dk w9 G9 q S6 ∧ Two F6 G9 w w9) := ⟨H6.out.1.kept hc9 (fun _ _ h => h), t9, two_start H6.out.1 H6.out.2 hc9 hG9⟩
      have hq2 := eq25_some ⟨q, 0, none⟩
      clear H6 t9 hc9 hG9 g3 hlt hiL hp6
      go_wp2_with fail
      refine (image_any G9 q S6 w9 H9.out.2.1 hS6x).mono ?_
      rintro e w10 ⟨ga, ca, rfl, fr⟩
      have s1 := run_str fr.bs
      obtain ⟨ts, hts⟩ : ∃ t, strOf S6.image = t := ⟨_, rfl⟩
      have HTS : Hid (strOf S6.image = ts) := hts
      rw [hts] at s1
      have H10 : Hid (Dk w10 F6 p S6 ∧ Dk w10 G9 q S6 ∧ Two F6 G9 w w10) := ⟨H9.out.1.kept fr.chg (fun _ _ h => h), H9.out.2.1.kept fr.chg (fun _ _ h => h), H9.out.2.2.more fr.chg⟩
      clear H9 fr hts hq2
      go_wp2_with fail
      clear s1
      refine (waiting_any G9 q S6 w10 H10.out.2.1 hS6x).mono ?_
      rintro e w11 ⟨rfl, c11⟩
      have REL1 : Tw2 w p q G9 S6 t 0 (.slice none 0 0) w11 := ⟨F6, H10.out.1.kept c11 (fun _ _ h => h), H10.out.2.1.kept c11 (fun _ _ h => h), H10.out.2.2.more c11, World.ownsRow_nil _ _ _ _, fun g hg => by cases hg⟩
      clear H10 c11
      obtain ⟨W, hW⟩ : ∃ W, S6.waiting = W := ⟨_, rfl⟩
      rw [hW]
      have HWT : Hid (S6.waiting = W) := hW
      clear hW
      go_wp2_with fail
      go_loopw [12, 13] (fun v x wr => ∃ (i : Nat) (u : Value), i ≤ t.length ∧ u = v ∧ x = .int .i64 (i : Int) ∧ Tw2 w p q G9 S6 t i u wr) (fun _ x _ => t.length - (intOf x).toNat)
      case atStart => exact ⟨0, _, Nat.zero_le _, rfl, rfl, REL1⟩
      case round =>
        clear REL1
        obtain ⟨i, gv, hiL, rfl, rfl, h2⟩ := hrel
        by_cases hlt : i < t.length
        · obtain ⟨b, off, rfl, hat⟩ := HT.out.1.at hlt
          have hli : (i : Int) < (t.length : Int) := by omega
          have DO := tw2_step h2 hlt hat (HT.out.2 i hlt) (HW.out i hiL) ht1
          obtain ⟨d, hd⟩ : ∃ d, t[i] = d := ⟨_, rfl⟩
          rw [hd] at hat DO
          have a6 : ActAt wr b (off + i * 4) d := by
            obtain ⟨_, _, _, two, _, _⟩ := h2
            exact hat.kept two.chg
          have q0 := a6.op
          have q1 := a6.n
          have q2 := a6.bc
          have q3 := a6.pc
          have HD : Hid (Calls Try.prog 27 #[.pointer (some ⟨p, 0, none⟩), .agg #[.int .i64 d.op, .int .i64 d.n, d.bv, d.pv]] wr fun e w1 => ∃ z v' w2, e = .returned (.int .i64 z) ∧
      (Builtin.append_ #[33, 33] 33 #[gv, .slice (some ⟨w1.heap.size, 0, none⟩) 1 1]).run Try.prog (w1.alloc (.cells #[.int .i64 z] 3)) = .ok v' w2 ∧ Hid (Tw2 w p q G9 S6 t (i + 1) v' w2)) := DO
          clear a6 hat hd h2 DO
          generalize d.op = dop at *
          generalize d.n = dn at *
          generalize d.bv = dv at *
          generalize d.pv = dp at *
          go_wp2_with fail
          refine HD.out.mono ?_
          rintro e w7 ⟨z, v', w8, rfl, hr, HR⟩
          clear HD q0 q1 q2 q3
          go_wp2_with (at_builtin; go_must (refine Lib.wpList_append_run _ rfl (.tmp 59) (.tmp 67) 33 33 rfl _ _ rfl rfl v' w8 hr ?_))
          go_roundw
          case rel => exact ⟨i + 1, _, by omega, rfl, by go_num, HR.out⟩
          case measure => simp [intOf]; omega
        · have hie : i = t.length := by omega
          subst hie
          obtain ⟨F7, d7, g7, two7, row7, off7⟩ := h2
          have H7 : Hid (Dk wr F7 p (runA S6 t t.length) ∧ Dk wr G9 q S6 ∧ Two F7 G9 w wr ∧ wr.ownsRow w.heap.size 3 1 gv t.length ((outs S6 t t.length).map (Value.int .i64)) ∧ ∀ g, gv.ownBlock = some g → ¬ F7 g ∧ ¬ G9 g) := ⟨d7, g7, two7, row7, off7⟩
          have g3 : ¬ (t.length : Int) < (t.length : Int) := by omega
          clear d7 g7 two7 row7 off7 hlt hiL
          go_wp2_with fail
          refine (image_any G9 q S6 wr H7.out.2.1 hS6x).mono ?_
          rintro e w10 ⟨ga2, ca2, rfl, fr⟩
          have s1 := run_str fr.bs
          rw [HTS.out] at s1
          have H10 : Hid (Dk w10 F7 p (runA S6 t t.length) ∧ Dk w10 G9 q S6 ∧ Two F7 G9 w w10 ∧ w10.ownsRow w.heap.size 3 1 gv t.length ((outs S6 t t.length).map (Value.int .i64)) ∧ ∀ g, gv.ownBlock = some g → ¬ F7 g ∧ ¬ G9 g) := ⟨H7.out.1.kept fr.chg (fun _ _ h => h), H7.out.2.1.kept fr.chg (fun _ _ h => h), H7.out.2.2.1.more fr.chg, own_same H7.out.2.2.2.1 (fun g hg => fr.chg.block g (H7.out.2.2.2.1.lt g hg).2 (fun h => h)), H7.out.2.2.2.2⟩
          clear H7 fr HTS
          go_wp2_with fail
          clear s1
          refine (waiting_any G9 q S6 w10 H10.out.2.1 hS6x).mono ?_
          rintro e w11 ⟨rfl, c11⟩
          rw [HWT.out]
          have REL2 : Tw3 w p q F7 S6 t gv 0 w11 := ⟨G9, H10.out.1.kept c11 (fun _ _ h => h), H10.out.2.1.kept c11 (fun _ _ h => h), H10.out.2.2.1.more c11, own_same H10.out.2.2.2.1 (fun g hg => c11.block g (H10.out.2.2.2.1.lt g hg).2 (fun h => h)), H10.out.2.2.2.2⟩
          clear H10 c11 HWT
          go_wp2_with fail
          go_loopw [14] (fun x wr => ∃ i : Nat, i ≤ t.length ∧ x = .int .i64 (i : Int) ∧ Tw3 w p q F7 S6 t gv i wr) (fun x _ => t.length - (intOf x).toNat)
          case atStart => exact ⟨0, Nat.zero_le _, rfl, REL2⟩
          case round =>
            clear REL2
            obtain ⟨j, hjL, rfl, h3⟩ := hrel
            by_cases hlt : j < t.length
            · obtain ⟨b, off, rfl, hat⟩ := HT.out.1.at hlt
              have hgv : ∃ gb gc, gv = .slice (some ⟨gb, 0, none⟩) t.length gc := by
                obtain ⟨_, _, _, _, row, _⟩ := h3
                rcases row.2 with ⟨_, h0⟩ | ⟨g, c, cur, e, _⟩
                · omega
                · exact ⟨g, c, e⟩
              obtain ⟨gb, gc, rfl⟩ := hgv
              have hli : (j : Int) < (t.length : Int) := by omega
              have DO := tw3_step h3 hlt hat (HT.out.2 j hlt) (HW.out j hjL)
              have q4 := h3.cell hlt
              obtain ⟨d, hd⟩ : ∃ d, t[j] = d := ⟨_, rfl⟩
              rw [hd] at hat DO
              have a6 := hat.kept h3.two
              have q0 := a6.op
              have q1 := a6.n
              have q2 := a6.bc
              have q3 := a6.pc
              obtain ⟨z, hz⟩ : ∃ z, outAt S6 t j = z := ⟨_, rfl⟩
              rw [hz] at DO q4
              have HD : Hid (Calls Try.prog 27 #[.pointer (some ⟨q, 0, none⟩), .agg #[.int .i64 d.op, .int .i64 d.n, d.bv, d.pv]] wr.drew fun e w1 => e = .returned (.int .i64 z) ∧ w1.cell? ⟨b, off + j * 4, none⟩ = some (.int .i64 d.op) ∧ w1.cell? ⟨b, off + j * 4 + 1, none⟩ = some (.int .i64 d.n) ∧ w1.cell? ⟨b, off + j * 4 + 2, none⟩ = some d.bv ∧ w1.cell? ⟨b, off + j * 4 + 3, none⟩ = some d.pv ∧
      w1.cell? ⟨gb, j, none⟩ = some (.int .i64 z) ∧ Hid (Tw3 w p q F7 S6 t (.slice (some ⟨gb, 0, none⟩) t.length gc) (j + 1) w1)) := DO
              clear a6 hat hd h3 DO hz
              generalize d.op = dop at *
              generalize d.n = dn at *
              generalize d.bv = dv at *
              generalize d.pv = dp at *
              go_wp2_with fail
              go_region_held (fun w' => w'.cell? ⟨b, off + j * 4, none⟩ = some (.int .i64 dop) ∧ w'.cell? ⟨b, off + j * 4 + 1, none⟩ = some (.int .i64 dn) ∧ w'.cell? ⟨b, off + j * 4 + 2, none⟩ = some dv ∧ w'.cell? ⟨b, off + j * 4 + 3, none⟩ = some dp ∧ w'.cell? ⟨gb, j, none⟩ = some (.int .i64 z))
                (first | exact ⟨q0, q1, q2, q3, q4⟩ | exact ⟨x0, x1, x2, x3, x4⟩)
                (first | (go_at_call 27; refine HD.out.mono ?_; clear HD; rintro e w7 ⟨rfl, x0, x1, x2, x3, x4, HR⟩))
              all_goals
                go_wp2
                go_roundw
                case rel => exact ⟨j + 1, by omega, by go_num, HR.out⟩
                case measure => simp [intOf]; omega
            · have hje : j = t.length := by omega
              subst hje
              obtain ⟨G8, d8, g8, two8, _, _⟩ := h3
              have hTx := HW.out t.length (Nat.le_refl _)
              obtain ⟨T, hT⟩ : ∃ T, runA S6 t t.length = T := ⟨_, rfl⟩
              rw [hT] at d8 g8 hTx
              obtain ⟨tt, htt⟩ : ∃ x, strOf T.image = x := ⟨_, rfl⟩
              have HI : Hid (Calls Try.prog 18 #[.pointer (some ⟨q, 0, none⟩)] wr.drew fun e w1 => ∃ u, e = .returned u ∧ (convert 32 9 u).run Try.prog w1 = .ok (.string tt) w1 ∧
                Hid (Calls Try.prog 18 #[.pointer (some ⟨p, 0, none⟩)] w1 fun e w2 => ∃ u2, e = .returned u2 ∧ (convert 32 9 u).run Try.prog w2 = .ok (.string tt) w2 ∧ (convert 32 9 u2).run Try.prog w2 = .ok (.string tt) w2 ∧ Hid (Both w p q F7 G8 T w2))) := both_images ⟨d8, g8, two8.chg⟩ hTx htt
              clear d8 g8 two8 HT HW htt hT hlt hjL g3
              go_wp2_with fail
              go_region_held (fun _ => True) (trivial)
                (first
                  | (go_at_call 18; refine HI.out.mono ?_; clear HI; rintro e w7 ⟨u7, rfl, s7, HJ⟩)
                  | (go_at_call 18; refine HJ.out.mono ?_; clear HJ; rintro e w8 ⟨u8, rfl, s8, t8, H8⟩)
                  | (go_at_call 15; refine (waiting_any G8 q T _ H8.out.2.1 hTx).mono ?_; rintro e w9 ⟨rfl, c9⟩; have H9 : Hid (Both w p q F7 G8 T w9) := H8.out.more c9; clear H8 c9)
                  | (go_at_call 15; refine (waiting_any F7 p T _ H9.out.1 hTx).mono ?_; rintro e w10 ⟨rfl, c10⟩; have H10 : Hid (Both w p q F7 G8 T w10) := H9.out.more c10; clear H9 c10)
                  | (go_at_call 16; refine (off_any G8 q T _ H10.out.2.1).mono ?_; rintro e w11 ⟨rfl, rfl⟩)
                  | (go_at_call 16; refine (off_any F7 p T _ H10.out.1).mono ?_; rintro e w11 ⟨rfl, rfl⟩)
                  | (go_at_call 17; refine (writes_any G8 q T _ H10.out.2.1).mono ?_; rintro e w11 ⟨rfl, rfl⟩)
                  | (go_at_call 17; refine (writes_any F7 p T _ H10.out.1).mono ?_; rintro e w11 ⟨rfl, rfl⟩))
              all_goals
                go_wp2
                go_ret
                exact ⟨rfl, H10.out.2.2⟩

theorem law_twins (lv tv : Value) (l t : List ActD) (w : World) (hl : Acts w lv l) (ht : Acts w tv t) :
    Calls Try.prog 7 #[lv, tv] w fun e w' => e = .returned (.bool true) ∧ Chg (fun _ => False) w w' := by
  cases hf : fewA l
  · exact twins_out1 lv tv l w hl hf
  cases hg : fewA t
  · exact twins_out2 lv tv l t w hl ht hf hg
  exact twins_loop lv tv l t w hl ht hf hg

end Go.Proofs.Ytkafpnjimdhakaa
