/-
  A log of package wal and its transaction in memory, and the contracts of the small methods.
-/
import Derived.Test.YtdcmcgdalanjjaaGreatHead
import Derived.Test.YtdcmcgdalanjjaaGreatHelp
import Derived.Test.YtdcmcgdalanjjaaGreatKeysB
namespace Go.Proofs.YtdcmcgdalanjjaaGreat
open Go.RowKit Go.Maps

/-- What a map of blocks holds. -/
def vf (f : Nat → Option (List Int)) (V : Nat → Value) (n : Nat) : Option Value := if (f n).isSome then some (V n) else none
theorem vf_none {f : Nat → Option (List Int)} {V : Nat → Value} {n : Nat} (h : f n = none) : vf f V n = none := by simp [vf, h]
theorem vf_some {f : Nat → Option (List Int)} {V : Nat → Value} {n : Nat} {b : List Int} (h : f n = some b) : vf f V n = some (V n) := by simp [vf, h]
theorem vf_upd (f : Nat → Option (List Int)) (V : Nat → Value) (n : Nat) (b : List Int) (v : Value) : vf (upd f n (some b)) (upd V n v) = upd (vf f V) n (some v) := by
  funext k
  by_cases e : k = n
  · subst e; simp [vf, upd_same]
  · simp [vf, upd_other _ _ e]
theorem vf_del (f : Nat → Option (List Int)) (V : Nat → Value) (n : Nat) : vf (upd f n none) V = upd (vf f V) n none := by
  funext k
  by_cases e : k = n
  · subst e; simp [vf, upd_same]
  · simp [vf, upd_other _ _ e]

/-- The map m of the blocks f; their bytes lie in blocks of G. -/
structure Mb (w : World) (G : Nat → Prop) (K m : Nat) (f : Nat → Option (List Int)) (V : Nat → Value) : Prop where
  map : MapIs w m K (vf f V)
  row : ∀ n b, f n = some b → n < K ∧ b.length = 512 ∧ ∃ g c, V n = .slice (some ⟨g, 0, none⟩) 512 c ∧ w.ownsRow 0 5 1 (V n) 512 (bcells b) ∧ G g
  fm : G m
theorem Mb.kept {w w' : World} {G E : Nat → Prop} {K m : Nat} {f : Nat → Option (List Int)} {V : Nat → Value} (h : Mb w G K m f V) (hc : Chg E w w') (hm : ¬ E m) (hr : ∀ g, G g → (∃ cur, w.heap[g]? = some (.cells cur 5 (0, 0))) → ¬ E g) : Mb w' G K m f V := by
  refine ⟨h.map.kept (hc.block m h.map.lt hm), fun n b hb => ?_, h.fm⟩
  obtain ⟨h1, h2, g, c, e, ho, hg⟩ := h.row n b hb
  rw [e] at ho ⊢
  exact ⟨h1, h2, g, c, rfl, own_same ho (fun g' hg' => by cases hg'; exact hc.block g (ho.lt g rfl).2 (hr g hg (own_obj ho rfl))), hg⟩
theorem Mb.mono {w : World} {G G' : Nat → Prop} {K m : Nat} {f : Nat → Option (List Int)} {V : Nat → Value} (h : Mb w G K m f V) (hG : ∀ b, G b → G' b) : Mb w G' K m f V :=
  ⟨h.map, fun n b hb => by obtain ⟨h1, h2, g, c, e, ho, hg⟩ := h.row n b hb; exact ⟨h1, h2, g, c, e, ho, hG g hg⟩, hG _ h.fm⟩
theorem Mb.bs {w : World} {G : Nat → Prop} {K m n : Nat} {f : Nat → Option (List Int)} {V : Nat → Value} {b : List Int} (h : Mb w G K m f V) (hb : f n = some b) : Bs w (V n) b := by
  obtain ⟨h1, h2, g, c, e, ho, hg⟩ := h.row n b hb
  exact Bs.ofOwns (by rw [← h2] at ho; exact ho)

/-- The log at pl, over the disk at pd. -/
structure LgAt (w : World) (G : Nat → Prop) (pd pl K : Nat) (com : Nat → Option (List Int)) (pend : Nat) (ov : Value) (m : Nat) (V : Nat → Value) : Prop where
  blk : w.heap[pl]? = some (.cells #[.pointer (some ⟨pd, 0, none⟩), .map (some m), .int .i64 (pend : Int), ov] 61 (0, 0))
  mb : Mb w G K m com V
  fp : G pl
  lt : ∀ b, G b → b < w.heap.size
/-- A transaction of the log at pl. -/
structure TxAt (w : World) (G : Nat → Prop) (pl q K : Nat) (own : Nat → Option (List Int)) (wrote m : Nat) (V : Nat → Value) : Prop where
  blk : w.heap[q]? = some (.cells #[.pointer (some ⟨pl, 0, none⟩), .map (some m), .int .i64 (wrote : Int)] 75 (0, 0))
  mb : Mb w G K m own V
  fp : G q
  lt : ∀ b, G b → b < w.heap.size
section
variable {w w' : World} {G E : Nat → Prop} {pd pl q K : Nat} {com own : Nat → Option (List Int)} {pend wrote : Nat} {ov : Value} {m : Nat} {V : Nat → Value}
theorem LgAt.c0 (h : LgAt w G pd pl K com pend ov m V) : w.cell? ⟨pl, 0, none⟩ = some (.pointer (some ⟨pd, 0, none⟩)) := by rw [cell_of_row w pl 0 _ _ _ h.blk]; rfl
theorem LgAt.c1 (h : LgAt w G pd pl K com pend ov m V) : w.cell? ⟨pl, 1, none⟩ = some (.map (some m)) := by rw [cell_of_row w pl 1 _ _ _ h.blk]; rfl
theorem LgAt.c2 (h : LgAt w G pd pl K com pend ov m V) : w.cell? ⟨pl, 2, none⟩ = some (.int .i64 (pend : Int)) := by rw [cell_of_row w pl 2 _ _ _ h.blk]; rfl
theorem LgAt.c3 (h : LgAt w G pd pl K com pend ov m V) : w.cell? ⟨pl, 3, none⟩ = some ov := by rw [cell_of_row w pl 3 _ _ _ h.blk]; rfl
theorem LgAt.fr (h : LgAt w G pd pl K com pend ov m V) (i : Nat) : w.frozen? ⟨pl, i, none⟩ = false := by simp [World.frozen?, h.blk]
theorem LgAt.pl_lt (h : LgAt w G pd pl K com pend ov m V) : pl < w.heap.size := h.lt _ h.fp
theorem TxAt.c0 (h : TxAt w G pl q K own wrote m V) : w.cell? ⟨q, 0, none⟩ = some (.pointer (some ⟨pl, 0, none⟩)) := by rw [cell_of_row w q 0 _ _ _ h.blk]; rfl
theorem TxAt.c1 (h : TxAt w G pl q K own wrote m V) : w.cell? ⟨q, 1, none⟩ = some (.map (some m)) := by rw [cell_of_row w q 1 _ _ _ h.blk]; rfl
theorem TxAt.c2 (h : TxAt w G pl q K own wrote m V) : w.cell? ⟨q, 2, none⟩ = some (.int .i64 (wrote : Int)) := by rw [cell_of_row w q 2 _ _ _ h.blk]; rfl
theorem TxAt.fr (h : TxAt w G pl q K own wrote m V) (i : Nat) : w.frozen? ⟨q, i, none⟩ = false := by simp [World.frozen?, h.blk]
theorem LgAt.kept (h : LgAt w G pd pl K com pend ov m V) (hc : Chg E w w') (hE : ∀ b, G b → ¬ E b) : LgAt w' G pd pl K com pend ov m V :=
  ⟨(hc.block pl h.pl_lt (hE pl h.fp)).trans h.blk, h.mb.kept hc (hE m h.mb.fm) (fun g hg _ => hE g hg), h.fp, fun b hb => Nat.lt_of_lt_of_le (h.lt b hb) hc.size⟩
theorem TxAt.kept (h : TxAt w G pl q K own wrote m V) (hc : Chg E w w') (hE : ∀ b, G b → ¬ E b) : TxAt w' G pl q K own wrote m V :=
  ⟨(hc.block q (h.lt q h.fp) (hE q h.fp)).trans h.blk, h.mb.kept hc (hE m h.mb.fm) (fun g hg _ => hE g hg), h.fp, fun b hb => Nat.lt_of_lt_of_le (h.lt b hb) hc.size⟩
theorem LgAt.mono (h : LgAt w G pd pl K com pend ov m V) {G' : Nat → Prop} (hG : ∀ b, G b → G' b) (hl : ∀ b, G' b → b < w.heap.size) : LgAt w G' pd pl K com pend ov m V := ⟨h.blk, h.mb.mono hG, hG _ h.fp, hl⟩
theorem TxAt.mono (h : TxAt w G pl q K own wrote m V) {G' : Nat → Prop} (hG : ∀ b, G b → G' b) (hl : ∀ b, G' b → b < w.heap.size) : TxAt w G' pl q K own wrote m V := ⟨h.blk, h.mb.mono hG, hG _ h.fp, hl⟩
/-- Only the struct and the map of the log have changed: the transaction stays. -/
theorem TxAt.beside {mt : Nat} {Vt : Nat → Value} (h : TxAt w G pl q K own wrote mt Vt) (hl : LgAt w G pd pl K com pend ov m V) (hmm : mt ≠ m) (hc : Chg (fun b => b = pl ∨ b = m) w w') : TxAt w' G pl q K own wrote mt Vt := by
  have hql : q ≠ pl := fun e => by subst e; have := hl.blk; rw [h.blk] at this; simp at this
  obtain ⟨es, cl, hom⟩ := hl.mb.map.obj
  have hqm : q ≠ m := fun e => by subst e; rw [h.blk] at hom; simp at hom
  obtain ⟨et, ct, homt⟩ := h.mb.map.obj
  have hmp : mt ≠ pl := fun e => by subst e; rw [hl.blk] at homt; simp at homt
  refine ⟨(hc.block q (h.lt q h.fp) (fun e => by rcases e with e | e; exact hql e; exact hqm e)).trans h.blk, h.mb.kept hc (fun e => by rcases e with e | e; exact hmp e; exact hmm e) (fun g hg ⟨cur, ho⟩ e => ?_), h.fp, fun b hb => Nat.lt_of_lt_of_le (h.lt b hb) hc.size⟩
  rcases e with e | e
  · subst e; rw [hl.blk] at ho; simp at ho
  · subst e; rw [hom] at ho; simp at ho
end
end Go.Proofs.YtdcmcgdalanjjaaGreat

namespace Go.Proofs.YtdcmcgdalanjjaaGreat
open Go.RowKit Go.Maps

set_option maxHeartbeats 400000 in
theorem off_any (F : Nat → Prop) (p : Nat) (S : St) (w : World) (h : Dk w F p S) : Calls Tryz.prog 49 #[.pointer (some ⟨p, 0, none⟩)] w fun e w' => e = .returned (.bool S.off) ∧ w' = w := by
  obtain ⟨s, sc, m, pv, V, h⟩ := h
  have c3 := h.c3
  clear h
  go_enter Tryz.func49, Tryz.ntmps49
  go_wp2
  go_ret
  exact ⟨rfl, rfl⟩

set_option maxHeartbeats 400000 in
theorem usable_small (F : Nat → Prop) (p : Nat) (S : St) (w : World) (h : Dk w F p S) (hn : S.nb ≤ 65) : Calls Tryz.prog 51 #[.pointer (some ⟨p, 0, none⟩)] w fun e w' => e = .returned (.int .i64 1) ∧ w' = w := by
  have k : decide ((S.nb : Int) ≤ 65) = true := by simp; omega
  go_enter Tryz.func51, Tryz.ntmps51
  go_wp2_with fail
  refine (blocks_any F p S w h).mono ?_
  rintro e w1 ⟨rfl, rfl⟩
  clear h
  go_wp2
  go_ret
  exact ⟨rfl, rfl⟩
set_option maxHeartbeats 400000 in
theorem usable_on (F : Nat → Prop) (p : Nat) (S : St) (w : World) (h : Dk w F p S) (hn : 65 < S.nb) (ho : S.off = false) : Calls Tryz.prog 51 #[.pointer (some ⟨p, 0, none⟩)] w fun e w' => e = .returned (.int .i64 0) ∧ w' = w := by
  have k : decide ((S.nb : Int) ≤ 65) = false := by simp; omega
  have HD : Hid (Dk w F p S) := h
  clear h
  go_enter Tryz.func51, Tryz.ntmps51
  go_wp2_with fail
  refine (blocks_any F p S w HD.out).mono ?_
  rintro e w1 ⟨rfl, rfl⟩
  go_wp2_with fail
  refine (off_any F p S w1 HD.out).mono ?_
  rintro e w2 ⟨rfl, rfl⟩
  rw [ho]
  go_wp2
  go_ret
  exact ⟨rfl, rfl⟩

theorem Chg.trans' {S : Nat → Prop} {a b c : World} (h : Chg (fun _ => False) a b) (k : Chg S b c) : Chg S a c := (h.mono (fun _ _ h => h.elim)).trans k (fun _ _ h => h)
theorem own_at {g b off n c : Nat} (h : (Value.slice (some ⟨b, off, none⟩) n c).ownBlock = some g) : g = b := by cases h; rfl
/-- What fix leaves: written and synced, or the power has gone. -/
def FixTo (S : St) (n : Nat) (bs : List Int) (E : Int) (S' : St) : Prop := (E = 0 ∧ S' = (S.pushed n bs).synced ∧ S.arm ≠ 1) ∨ (E = 6 ∧ S' = S.cut S.picks ∧ S.arm = 1)
theorem To.then {F : Nat → Prop} {p : Nat} {w w1 w2 : World} {S1 S2 : St} (h1 : To F p w w1 S1) (h2 : ∀ F1, Dk w1 F1 p S1 → To F1 p w1 w2 S2) : To F p w w2 S2 := by
  obtain ⟨F1, d1, c1, f1⟩ := h1
  exact To.trans c1 f1 (h2 F1 d1)

set_option maxHeartbeats 800000 in
theorem fix_any (F : Nat → Prop) (p : Nat) (S : St) (n : Nat) (v : Value) (bs : List Int) (w : World) (h : Dk w F p S) (hb : Bs w v bs) (hv : ∀ g, v.ownBlock = some g → ¬ F g) (hx : S.writes + 1 < 1099511627776) (hoff : S.off = false) (hn : n < S.nb) (hl : bs.length = 512) :
    Calls Tryz.prog 52 #[.pointer (some ⟨p, 0, none⟩), .int .i64 (n : Int), v] w fun e w' => ∃ E S', e = .returned (.int .i64 E) ∧ FixTo S n bs E S' ∧ To F p w w' S' := by
  have HW := write_any F p S n v bs w h hb hv (by omega)
  have HC := St.write_cases (b := bs) hoff hn hl
  clear h hb hv
  rcases HC with ⟨e1, e2, e3⟩ | ⟨e1, e2, e3⟩
  · rw [e1, e2] at HW
    have HW' : Hid (Calls Tryz.prog 53 #[.pointer (some ⟨p, 0, none⟩), .int .i64 (n : Int), v] w fun e w' => e = .returned (.int .i64 0) ∧ To F p w w' (S.pushed n bs)) := HW
    have hs1 : (S.pushed n bs).sync = (S.pushed n bs).synced := by unfold St.sync; rw [if_neg (by show ¬ S.off = true; simp [hoff])]
    have hs2 : (S.pushed n bs).syncE = 0 := by unfold St.syncE; rw [if_neg (by show ¬ S.off = true; simp [hoff])]
    have hwr : (S.pushed n bs).writes = S.writes + 1 := rfl
    have H1 : Hid (FixTo S n bs 0 (S.pushed n bs).synced) := .inl ⟨rfl, rfl, e3⟩
    clear HW e1 e2 e3
    obtain ⟨S1, hS1⟩ : ∃ S1, S.pushed n bs = S1 := ⟨_, rfl⟩
    rw [hS1] at HW' hs1 hs2 H1 hwr
    clear hS1
    go_enter Tryz.func52, Tryz.ntmps52
    go_wp2_with fail
    refine HW'.out.mono ?_
    rintro e w1 ⟨rfl, F1, d1, c1, f1⟩
    clear HW'
    go_wp2_with fail
    refine (sync_any F1 p S1 w1 d1 (by omega)).mono ?_
    rintro e w2 ⟨rfl, t2⟩
    rw [hs2]
    rw [hs1] at t2
    have HT : Hid (To F p w w2 S1.synced) := To.trans c1 f1 t2
    clear d1 c1 f1 t2
    go_wp2
    go_ret
    exact ⟨0, _, rfl, H1.out, HT.out⟩
  · rw [e1, e2] at HW
    have HW' : Hid (Calls Tryz.prog 53 #[.pointer (some ⟨p, 0, none⟩), .int .i64 (n : Int), v] w fun e w' => e = .returned (.int .i64 6) ∧ To F p w w' (S.cut S.picks)) := HW
    have H1 : Hid (FixTo S n bs 6 (S.cut S.picks)) := .inr ⟨rfl, rfl, e3⟩
    clear HW e1 e2 e3
    go_enter Tryz.func52, Tryz.ntmps52
    go_wp2_with fail
    refine HW'.out.mono ?_
    rintro e w1 ⟨rfl, t1⟩
    have HT : Hid (To F p w w1 (S.cut S.picks)) := t1
    clear HW' t1
    go_wp2
    go_ret
    exact ⟨6, _, rfl, H1.out, HT.out⟩

set_option maxHeartbeats 400000 in
theorem over_any (p : Nat) (K : Nat) (w : World) : Calls Tryz.prog 56 #[.pointer (some ⟨p, 0, none⟩)] w fun e w' => ∃ pl G m V, e = .returned (.pointer (some ⟨pl, 0, none⟩)) ∧ LgAt w' G p pl K (fun _ => none) 0 (.pointer none) m V ∧ (∀ b, G b → w.heap.size ≤ b) ∧ Chg (fun _ => False) w w' := by
  have hmm := @run_makeMap Tryz.prog
  go_enter Tryz.func56, Tryz.ntmps56
  go_wp2
  go_ret
  refine ⟨_, (fun b => b = w.heap.size ∨ b = w.heap.size + 1), w.heap.size, fun _ => .slice none 0 0, rfl, ⟨?_, ⟨?_, fun n b hb => (by cases hb), .inl rfl⟩, .inr rfl, fun b hb => ?_⟩, fun b hb => (by rcases hb with e | e <;> omega), (Chg.alloc _ _ _).trans (Chg.alloc (fun _ => False) _ _) (fun _ _ h => h)⟩
  · have := heap_alloc_new (w.alloc (.map #[] 0)) (.cells #[.pointer (some ⟨p, 0, none⟩), .map (some w.heap.size), .int .i64 0, .pointer none] 61)
    rw [World.size_alloc] at this
    exact this
  · have hm := (MapIs.new w K).kept (w' := (w.alloc (.map #[] 0)).alloc (.cells #[.pointer (some ⟨p, 0, none⟩), .map (some w.heap.size), .int .i64 0, .pointer none] 61)) (Below.heap_alloc _ _ _ (by simp))
    have e : vf (fun _ => none) (fun _ => .slice none 0 0) = fun _ => none := by funext n; exact vf_none rfl
    rw [e]
    exact hm
  · simp
    rcases hb with e | e <;> omega

/-- A log over its disk, and what is where. -/
structure Lk (w : World) (F G : Nat → Prop) (pd pl K : Nat) (S : St) (com : Nat → Option (List Int)) (pend : Nat) (ov : Value) (m : Nat) (V : Nat → Value) : Prop where
  dk : Dk w F pd S
  lg : LgAt w G pd pl K com pend ov m V
  no : ∀ b, F b → ¬ G b
  nb : S.nb = K + 65
section
variable {F G : Nat → Prop} {pd pl K : Nat} {S : St} {com : Nat → Option (List Int)} {pend : Nat} {ov : Value} {m : Nat} {V : Nat → Value}
theorem Lk.kept {w w' : World} (h : Lk w F G pd pl K S com pend ov m V) (hc : Chg (fun _ => False) w w') : Lk w' F G pd pl K S com pend ov m V := ⟨h.dk.kept hc (fun _ _ h => h), h.lg.kept hc (fun _ _ h => h), h.no, h.nb⟩
theorem Lk.top {w : World} (h : Lk w F G pd pl K S com pend ov m V) : K ≤ 16384 := by have := h.dk.wf.top; have := h.nb; omega

set_option maxHeartbeats 400000 in
theorem lblocks_any (w : World) (h : Lk w F G pd pl K S com pend ov m V) : Calls Tryz.prog 8 #[.pointer (some ⟨pl, 0, none⟩)] w fun e w' => e = .returned (.int .i64 (K : Int)) ∧ w' = w := by
  have c0 := h.lg.c0
  have hn := h.nb
  have ht := h.top
  have HD : Hid (Dk w F pd S) := h.dk
  have e1 : (S.nb : Int) = K + 65 := by omega
  clear h
  go_enter Tryz.func8, Tryz.ntmps8
  go_wp2_with fail
  refine (blocks_any F pd S w HD.out).mono ?_
  rintro e w1 ⟨rfl, rfl⟩
  rw [e1]
  have e2 : (K : Int) + 65 - 65 = K := by omega
  go_wp2
  go_ret
  simp
  try omega

set_option maxHeartbeats 400000 in
theorem lhas_any (n : Int) (w : World) (h : Lk w F G pd pl K S com pend ov m V) : Calls Tryz.prog 89 #[.pointer (some ⟨pl, 0, none⟩), .int .i64 n] w fun e w' => e = .returned (.bool (decide (0 ≤ n ∧ n < K))) ∧ w' = w := by
  by_cases h0 : 0 ≤ n
  · go_enter Tryz.func89, Tryz.ntmps89
    go_wp2_with fail
    refine (lblocks_any w h).mono ?_
    rintro e w1 ⟨rfl, rfl⟩
    clear h
    go_wp2
    go_ret
    simp [h0]
  · have k0 : decide (0 ≤ n) = false := by simpa using h0
    clear h
    go_enter Tryz.func89, Tryz.ntmps89
    go_wp2
    go_ret
    simp

end
end Go.Proofs.YtdcmcgdalanjjaaGreat
