/-
  A log of package wal and its transaction in memory, and the contracts of the small methods.
-/
import Derived.Test.YtepoaiaifclgnaaHead
import Derived.Test.YtepoaiaifclgnaaHelp
import Derived.Test.YtepoaiaifclgnaaKeys
namespace Go.Proofs.Ytepoaiaifclgnaa
open Go.RowKit Go.Maps

/-- What a map of blocks holds. -/
def vf (f : Nat → Option (List Int)) (V : Nat → Value) (n : Nat) : Option Value := if (f n).isSome then some (V n) else none
theorem vf_none {f : Nat → Option (List Int)} {V : Nat → Value} {n : Nat} (h : f n = none) : vf f V n = none := by simp [vf, h]
theorem vf_some {f : Nat → Option (List Int)} {V : Nat → Value} {n : Nat} {b : List Int} (h : f n = some b) : vf f V n = some (V n) := by simp [vf, h]
theorem vf_upd (f : Nat → Option (List Int)) (V : Nat → Value) (n : Nat) (b : List Int) (v : Value) : vf (upd f n (some b)) (upd V n v) = upd (vf f V) n (some v) := by
  funext k
  by_cases e : k = n
  · subst e; simp [vf, upd_same]
  · simp [vf, upd_other _ _ e]
theorem vf_del (f : Nat → Option (List Int)) (V : Nat → Value) (n : Nat) : vf (upd f n none) V = upd (vf f V) n none := by
  funext k
  by_cases e : k = n
  · subst e; simp [vf, upd_same]
  · simp [vf, upd_other _ _ e]

/-- The map m of the blocks f; their bytes lie in blocks of G. -/
structure Mb (w : World) (G : Nat → Prop) (K m : Nat) (f : Nat → Option (List Int)) (V : Nat → Value) : Prop where
  map : MapIs w m K (vf f V)
  row : ∀ n b, f n = some b → n < K ∧ b.length = 512 ∧ ∃ g c, V n = .slice (some ⟨g, 0, none⟩) 512 c ∧ w.ownsRow 0 5 1 (V n) 512 (bcells b) ∧ G g
  fm : G m
theorem Mb.kept {w w' : World} {G E : Nat → Prop} {K m : Nat} {f : Nat → Option (List Int)} {V : Nat → Value} (h : Mb w G K m f V) (hc : Chg E w w') (hm : ¬ E m) (hr : ∀ g, G g → (∃ cur, w.heap[g]? = some (.cells cur 5 (0, 0))) → ¬ E g) : Mb w' G K m f V := by
  refine ⟨h.map.kept (hc.block m h.map.lt hm), fun n b hb => ?_, h.fm⟩
  obtain ⟨h1, h2, g, c, e, ho, hg⟩ := h.row n b hb
  rw [e] at ho ⊢
  exact ⟨h1, h2, g, c, rfl, own_same ho (fun g' hg' => by cases hg'; exact hc.block g (ho.lt g rfl).2 (hr g hg (own_obj ho rfl))), hg⟩
theorem Mb.mono {w : World} {G G' : Nat → Prop} {K m : Nat} {f : Nat → Option (List Int)} {V : Nat → Value} (h : Mb w G K m f V) (hG : ∀ b, G b → G' b) : Mb w G' K m f V :=
  ⟨h.map, fun n b hb => by obtain ⟨h1, h2, g, c, e, ho, hg⟩ := h.row n b hb; exact ⟨h1, h2, g, c, e, ho, hG g hg⟩, hG _ h.fm⟩
theorem Mb.bs {w : World} {G : Nat → Prop} {K m n : Nat} {f : Nat → Option (List Int)} {V : Nat → Value} {b : List Int} (h : Mb w G K m f V) (hb : f n = some b) : Bs w (V n) b := by
  obtain ⟨h1, h2, g, c, e, ho, hg⟩ := h.row n b hb
  exact Bs.ofOwns (by rw [← h2] at ho; exact ho)

/-- The log at pl, over the disk at pd. -/
structure LgAt (w : World) (G : Nat → Prop) (pd pl K : Nat) (com : Nat → Option (List Int)) (pend : Nat) (ov : Value) (m : Nat) (V : Nat → Value) : Prop where
  blk : w.heap[pl]? = some (.cells #[.pointer (some ⟨pd, 0, none⟩), .map (some m), .int .i64 (pend : Int), ov] 70 (0, 0))
  mb : Mb w G K m com V
  fp : G pl
  lt : ∀ b, G b → b < w.heap.size
/-- A transaction of the log at pl. -/
structure TxAt (w : World) (G : Nat → Prop) (pl q K : Nat) (own : Nat → Option (List Int)) (wrote m : Nat) (V : Nat → Value) : Prop where
  blk : w.heap[q]? = some (.cells #[.pointer (some ⟨pl, 0, none⟩), .map (some m), .int .i64 (wrote : Int)] 72 (0, 0))
  mb : Mb w G K m own V
  fp : G q
  lt : ∀ b, G b → b < w.heap.size
section
variable {w w' : World} {G E : Nat → Prop} {pd pl q K : Nat} {com own : Nat → Option (List Int)} {pend wrote : Nat} {ov : Value} {m : Nat} {V : Nat → Value}
theorem LgAt.c0 (h : LgAt w G pd pl K com pend ov m V) : w.cell? ⟨pl, 0, none⟩ = some (.pointer (some ⟨pd, 0, none⟩)) := by rw [cell_of_row w pl 0 _ _ _ h.blk]; rfl
theorem LgAt.c1 (h : LgAt w G pd pl K com pend ov m V) : w.cell? ⟨pl, 1, none⟩ = some (.map (some m)) := by rw [cell_of_row w pl 1 _ _ _ h.blk]; rfl
theorem LgAt.c2 (h : LgAt w G pd pl K com pend ov m V) : w.cell? ⟨pl, 2, none⟩ = some (.int .i64 (pend : Int)) := by rw [cell_of_row w pl 2 _ _ _ h.blk]; rfl
theorem LgAt.c3 (h : LgAt w G pd pl K com pend ov m V) : w.cell? ⟨pl, 3, none⟩ = some ov := by rw [cell_of_row w pl 3 _ _ _ h.blk]; rfl
theorem LgAt.fr (h : LgAt w G pd pl K com pend ov m V) (i : Nat) : w.frozen? ⟨pl, i, none⟩ = false := by simp [World.frozen?, h.blk]
theorem LgAt.pl_lt (h : LgAt w G pd pl K com pend ov m V) : pl < w.heap.size := h.lt _ h.fp
theorem TxAt.c0 (h : TxAt w G pl q K own wrote m V) : w.cell? ⟨q, 0, none⟩ = some (.pointer (some ⟨pl, 0, none⟩)) := by rw [cell_of_row w q 0 _ _ _ h.blk]; rfl
theorem TxAt.c1 (h : TxAt w G pl q K own wrote m V) : w.cell? ⟨q, 1, none⟩ = some (.map (some m)) := by rw [cell_of_row w q 1 _ _ _ h.blk]; rfl
theorem TxAt.c2 (h : TxAt w G pl q K own wrote m V) : w.cell? ⟨q, 2, none⟩ = some (.int .i64 (wrote : Int)) := by rw [cell_of_row w q 2 _ _ _ h.blk]; rfl
theorem TxAt.fr (h : TxAt w G pl q K own wrote m V) (i : Nat) : w.frozen? ⟨q, i, none⟩ = false := by simp [World.frozen?, h.blk]
theorem LgAt.kept (h : LgAt w G pd pl K com pend ov m V) (hc : Chg E w w') (hE : ∀ b, G b → ¬ E b) : LgAt w' G pd pl K com pend ov m V :=
  ⟨(hc.block pl h.pl_lt (hE pl h.fp)).trans h.blk, h.mb.kept hc (hE m h.mb.fm) (fun g hg _ => hE g hg), h.fp, fun b hb => Nat.lt_of_lt_of_le (h.lt b hb) hc.size⟩
theorem TxAt.kept (h : TxAt w G pl q K own wrote m V) (hc : Chg E w w') (hE : ∀ b, G b → ¬ E b) : TxAt w' G pl q K own wrote m V :=
  ⟨(hc.block q (h.lt q h.fp) (hE q h.fp)).trans h.blk, h.mb.kept hc (hE m h.mb.fm) (fun g hg _ => hE g hg), h.fp, fun b hb => Nat.lt_of_lt_of_le (h.lt b hb) hc.size⟩
theorem LgAt.mono (h : LgAt w G pd pl K com pend ov m V) {G' : Nat → Prop} (hG : ∀ b, G b → G' b) (hl : ∀ b, G' b → b < w.heap.size) : LgAt w G' pd pl K com pend ov m V := ⟨h.blk, h.mb.mono hG, hG _ h.fp, hl⟩
theorem TxAt.mono (h : TxAt w G pl q K own wrote m V) {G' : Nat → Prop} (hG : ∀ b, G b → G' b) (hl : ∀ b, G' b → b < w.heap.size) : TxAt w G' pl q K own wrote m V := ⟨h.blk, h.mb.mono hG, hG _ h.fp, hl⟩
/-- Only the struct and the map of the log have changed: the transaction stays. -/
theorem TxAt.beside {mt : Nat} {Vt : Nat → Value} (h : TxAt w G pl q K own wrote mt Vt) (hl : LgAt w G pd pl K com pend ov m V) (hmm : mt ≠ m) (hc : Chg (fun b => b = pl ∨ b = m) w w') : TxAt w' G pl q K own wrote mt Vt := by
  have hql : q ≠ pl := fun e => by subst e; have := hl.blk; rw [h.blk] at this; simp at this
  obtain ⟨es, cl, hom⟩ := hl.mb.map.obj
  have hqm : q ≠ m := fun e => by subst e; rw [h.blk] at hom; simp at hom
  obtain ⟨et, ct, homt⟩ := h.mb.map.obj
  have hmp : mt ≠ pl := fun e => by subst e; rw [hl.blk] at homt; simp at homt
  refine ⟨(hc.block q (h.lt q h.fp) (fun e => by rcases e with e | e; exact hql e; exact hqm e)).trans h.blk, h.mb.kept hc (fun e => by rcases e with e | e; exact hmp e; exact hmm e) (fun g hg ⟨cur, ho⟩ e => ?_), h.fp, fun b hb => Nat.lt_of_lt_of_le (h.lt b hb) hc.size⟩
  rcases e with e | e
  · subst e; rw [hl.blk] at ho; simp at ho
  · subst e; rw [hom] at ho; simp at ho
end
end Go.Proofs.Ytepoaiaifclgnaa

namespace Go.Proofs.Ytepoaiaifclgnaa
open Go.RowKit Go.Maps

set_option maxHeartbeats 400000 in
theorem off_any (F : Nat → Prop) (p : Nat) (S : St) (w : World) (h : Dk w F p S) : Calls Try.prog 42 #[.pointer (some ⟨p, 0, none⟩)] w fun e w' => e = .returned (.bool S.off) ∧ w' = w := by
  obtain ⟨s, sc, m, pv, V, h⟩ := h
  have c3 := h.c3
  clear h
  go_enter Try.func42, Try.ntmps42
  go_wp2
  go_ret
  exact ⟨rfl, rfl⟩

set_option maxHeartbeats 400000 in
theorem usable_small (F : Nat → Prop) (p : Nat) (S : St) (w : World) (h : Dk w F p S) (hn : S.nb ≤ 65) : Calls Try.prog 24 #[.pointer (some ⟨p, 0, none⟩)] w fun e w' => e = .returned (.int .i64 1) ∧ w' = w := by
  have k : decide ((S.nb : Int) ≤ 65) = true := by simp; omega
  go_enter Try.func24, Try.ntmps24
  go_wp2_with fail
  refine (blocks_any F p S w h).mono ?_
  rintro e w1 ⟨rfl, rfl⟩
  clear h
  go_wp2
  go_ret
  exact ⟨rfl, rfl⟩
set_option maxHeartbeats 400000 in
theorem usable_on (F : Nat → Prop) (p : Nat) (S : St) (w : World) (h : Dk w F p S) (hn : 65 < S.nb) (ho : S.off = false) : Calls Try.prog 24 #[.pointer (some ⟨p, 0, none⟩)] w fun e w' => e = .returned (.int .i64 0) ∧ w' = w := by
  have k : decide ((S.nb : Int) ≤ 65) = false := by simp; omega
  have HD : Hid (Dk w F p S) := h
  clear h
  go_enter Try.func24, Try.ntmps24
  go_wp2_with fail
  refine (blocks_any F p S w HD.out).mono ?_
  rintro e w1 ⟨rfl, rfl⟩
  go_wp2_with fail
  refine (off_any F p S w1 HD.out).mono ?_
  rintro e w2 ⟨rfl, rfl⟩
  rw [ho]
  go_wp2
  go_ret
  exact ⟨rfl, rfl⟩

theorem Chg.trans' {S : Nat → Prop} {a b c : World} (h : Chg (fun _ => False) a b) (k : Chg S b c) : Chg S a c := (h.mono (fun _ _ h => h.elim)).trans k (fun _ _ h => h)
theorem own_at {g b off n c : Nat} (h : (Value.slice (some ⟨b, off, none⟩) n c).ownBlock = some g) : g = b := by cases h; rfl
/-- What fix leaves: written and synced, or the power has gone. -/
def FixTo (S : St) (n : Nat) (bs : List Int) (E : Int) (S' : St) : Prop := (E = 0 ∧ S' = (S.pushed n bs).synced ∧ S.arm ≠ 1) ∨ (E = 6 ∧ S' = S.cut S.picks ∧ S.arm = 1)
theorem To.then {F : Nat → Prop} {p : Nat} {w w1 w2 : World} {S1 S2 : St} (h1 : To F p w w1 S1) (h2 : ∀ F1, Dk w1 F1 p S1 → To F1 p w1 w2 S2) : To F p w w2 S2 := by
  obtain ⟨F1, d1, c1, f1⟩ := h1
  exact To.trans c1 f1 (h2 F1 d1)

set_option maxHeartbeats 800000 in
theorem fix_any (F : Nat → Prop) (p : Nat) (S : St) (n : Nat) (v : Value) (bs : List Int) (w : World) (h : Dk w F p S) (hb : Bs w v bs) (hv : ∀ g, v.ownBlock = some g → ¬ F g) (hx : S.writes + 1 < 1099511627776) (hoff : S.off = false) (hn : n < S.nb) (hl : bs.length = 512) :
    Calls Try.prog 25 #[.pointer (some ⟨p, 0, none⟩), .int .i64 (n : Int), v] w fun e w' => ∃ E S', e = .returned (.int .i64 E) ∧ FixTo S n bs E S' ∧ To F p w w' S' := by
  have HW := write_any F p S n v bs w h hb hv (by omega)
  have HC := St.write_cases (b := bs) hoff hn hl
  clear h hb hv
  rcases HC with ⟨e1, e2, e3⟩ | ⟨e1, e2, e3⟩
  · rw [e1, e2] at HW
    have HW' : Hid (Calls Try.prog 27 #[.pointer (some ⟨p, 0, none⟩), .int .i64 (n : Int), v] w fun e w' => e = .returned (.int .i64 0) ∧ To F p w w' (S.pushed n bs)) := HW
    have hs1 : (S.pushed n bs).sync = (S.pushed n bs).synced := by unfold St.sync; rw [if_neg (by show ¬ S.off = true; simp [hoff])]
    have hs2 : (S.pushed n bs).syncE = 0 := by unfold St.syncE; rw [if_neg (by show ¬ S.off = true; simp [hoff])]
    have hwr : (S.pushed n bs).writes = S.writes + 1 := rfl
    have H1 : Hid (FixTo S n bs 0 (S.pushed n bs).synced) := .inl ⟨rfl, rfl, e3⟩
    clear HW e1 e2 e3
    obtain ⟨S1, hS1⟩ : ∃ S1, S.pushed n bs = S1 := ⟨_, rfl⟩
    rw [hS1] at HW' hs1 hs2 H1 hwr
    clear hS1
    go_enter Try.func25, Try.ntmps25
    go_wp2_with fail
    refine HW'.out.mono ?_
    rintro e w1 ⟨rfl, F1, d1, c1, f1⟩
    clear HW'
    go_wp2_with fail
    refine (sync_any F1 p S1 w1 d1 (by omega)).mono ?_
    rintro e w2 ⟨rfl, t2⟩
    rw [hs2]
    rw [hs1] at t2
    have HT : Hid (To F p w w2 S1.synced) := To.trans c1 f1 t2
    clear d1 c1 f1 t2
    go_wp2
    go_ret
    exact ⟨0, _, rfl, H1.out, HT.out⟩
  · rw [e1, e2] at HW
    have HW' : Hid (Calls Try.prog 27 #[.pointer (some ⟨p, 0, none⟩), .int .i64 (n : Int), v] w fun e w' => e = .returned (.int .i64 6) ∧ To F p w w' (S.cut S.picks)) := HW
    have H1 : Hid (FixTo S n bs 6 (S.cut S.picks)) := .inr ⟨rfl, rfl, e3⟩
    clear HW e1 e2 e3
    go_enter Try.func25, Try.ntmps25
    go_wp2_with fail
    refine HW'.out.mono ?_
    rintro e w1 ⟨rfl, t1⟩
    have HT : Hid (To F p w w1 (S.cut S.picks)) := t1
    clear HW' t1
    go_wp2
    go_ret
    exact ⟨6, _, rfl, H1.out, HT.out⟩

set_option maxHeartbeats 400000 in
theorem over_any (p : Nat) (K : Nat) (w : World) : Calls Try.prog 30 #[.pointer (some ⟨p, 0, none⟩)] w fun e w' => ∃ pl G m V, e = .returned (.pointer (some ⟨pl, 0, none⟩)) ∧ LgAt w' G p pl K (fun _ => none) 0 (.pointer none) m V ∧ (∀ b, G b → w.heap.size ≤ b) ∧ Chg (fun _ => False) w w' := by
  have hmm := @run_makeMap Try.prog
  go_enter Try.func30, Try.ntmps30
  go_wp2
  go_ret
  refine ⟨_, (fun b => b = w.heap.size ∨ b = w.heap.size + 1), w.heap.size, fun _ => .slice none 0 0, rfl, ⟨?_, ⟨?_, fun n b hb => (by cases hb), .inl rfl⟩, .inr rfl, fun b hb => ?_⟩, fun b hb => (by rcases hb with e | e <;> omega), (Chg.alloc _ _ _).trans (Chg.alloc (fun _ => False) _ _) (fun _ _ h => h)⟩
  · have := heap_alloc_new (w.alloc (.map #[] 0)) (.cells #[.pointer (some ⟨p, 0, none⟩), .map (some w.heap.size), .int .i64 0, .pointer none] 70)
    rw [World.size_alloc] at this
    exact this
  · have hm := (MapIs.new w K).kept (w' := (w.alloc (.map #[] 0)).alloc (.cells #[.pointer (some ⟨p, 0, none⟩), .map (some w.heap.size), .int .i64 0, .pointer none] 70)) (Below.heap_alloc _ _ _ (by simp))
    have e : vf (fun _ => none) (fun _ => .slice none 0 0) = fun _ => none := by funext n; exact vf_none rfl
    rw [e]
    exact hm
  · simp
    rcases hb with e | e <;> omega

/-- A log over its disk, and what is where. -/
structure Lk (w : World) (F G : Nat → Prop) (pd pl K : Nat) (S : St) (com : Nat → Option (List Int)) (pend : Nat) (ov : Value) (m : Nat) (V : Nat → Value) : Prop where
  dk : Dk w F pd S
  lg : LgAt w G pd pl K com pend ov m V
  no : ∀ b, F b → ¬ G b
  nb : S.nb = K + 65
section
variable {F G : Nat → Prop} {pd pl K : Nat} {S : St} {com : Nat → Option (List Int)} {pend : Nat} {ov : Value} {m : Nat} {V : Nat → Value}
theorem Lk.kept {w w' : World} (h : Lk w F G pd pl K S com pend ov m V) (hc : Chg (fun _ => False) w w') : Lk w' F G pd pl K S com pend ov m V := ⟨h.dk.kept hc (fun _ _ h => h), h.lg.kept hc (fun _ _ h => h), h.no, h.nb⟩
theorem Lk.top {w : World} (h : Lk w F G pd pl K S com pend ov m V) : K ≤ 16384 := by have := h.dk.wf.top; have := h.nb; omega

set_option maxHeartbeats 400000 in
theorem lblocks_any (w : World) (h : Lk w F G pd pl K S com pend ov m V) : Calls Try.prog 15 #[.pointer (some ⟨pl, 0, none⟩)] w fun e w' => e = .returned (.int .i64 (K : Int)) ∧ w' = w := by
  have c0 := h.lg.c0
  have hn := h.nb
  have ht := h.top
  have HD : Hid (Dk w F pd S) := h.dk
  have e1 : (S.nb : Int) = K + 65 := by omega
  clear h
  go_enter Try.func15, Try.ntmps15
  go_wp2_with fail
  refine (blocks_any F pd S w HD.out).mono ?_
  rintro e w1 ⟨rfl, rfl⟩
  rw [e1]
  have e2 : (K : Int) + 65 - 65 = K := by omega
  go_wp2
  go_ret
  simp
  try omega

set_option maxHeartbeats 400000 in
theorem lhas_any (n : Int) (w : World) (h : Lk w F G pd pl K S com pend ov m V) : Calls Try.prog 48 #[.pointer (some ⟨pl, 0, none⟩), .int .i64 n] w fun e w' => e = .returned (.bool (decide (0 ≤ n ∧ n < K))) ∧ w' = w := by
  by_cases h0 : 0 ≤ n
  · go_enter Try.func48, Try.ntmps48
    go_wp2_with fail
    refine (lblocks_any w h).mono ?_
    rintro e w1 ⟨rfl, rfl⟩
    clear h
    go_wp2
    go_ret
    simp [h0]
  · have k0 : decide (0 ≤ n) = false := by simpa using h0
    clear h
    go_enter Try.func48, Try.ntmps48
    go_wp2
    go_ret
    simp

set_option maxHeartbeats 400000 in
theorem room_any (a : Addr) (w : World) : Calls Try.prog 16 #[.pointer (some a)] w fun e w' => e = .returned (.int .i64 63) ∧ w' = w := by
  go_enter Try.func16, Try.ntmps16
  go_wp2
  go_ret
  exact ⟨rfl, rfl⟩
set_option maxHeartbeats 400000 in
theorem pending_any (w : World) (h : LgAt w G pd pl K com pend ov m V) : Calls Try.prog 10 #[.pointer (some ⟨pl, 0, none⟩)] w fun e w' => e = .returned (.int .i64 (pend : Int)) ∧ w' = w := by
  have c2 := h.c2
  clear h
  go_enter Try.func10, Try.ntmps10
  go_wp2
  go_ret
  exact ⟨rfl, rfl⟩
end
end Go.Proofs.Ytepoaiaifclgnaa

namespace Go.Proofs.Ytepoaiaifclgnaa
open Go.RowKit Go.Maps

/-- What Format leaves: a log whose blocks are bytes 0, or the power has gone: the disk is as it was, or has no head. -/
def FmTo (F : Nat → Prop) (p K : Nat) (S : St) (w : World) (e : Ending) (w' : World) : Prop :=
  (∃ pl F' G m V S', e = .returned (.tuple #[.pointer (some ⟨pl, 0, none⟩), .int .i64 0]) ∧ Lk w' F' G p pl K S' (fun _ => none) 0 (.pointer none) m V ∧ Chg F w w' ∧ (∀ b, F' b → F b ∨ w.heap.size ≤ b) ∧ (∀ b, G b → w.heap.size ≤ b) ∧ Onw S S' (K + 2) ∧ Clean S' K (fun _ => zeros 512)) ∨
  (∃ S', e = .returned (.tuple #[.pointer none, .int .i64 6]) ∧ To F p w w' S' ∧ Gone S S' (K + 2) ∧ (S'.syn = S.syn ∨ S'.syn 0 = zeros 512))

theorem To.bs {F : Nat → Prop} {p : Nat} {w w' : World} {S' : St} {v : Value} {bs : List Int} (h : To F p w w' S') (hb : Bs w v bs) (hv : ∀ g, v.ownBlock = some g → ¬ F g) : Bs w' v bs := by
  obtain ⟨F', d, c, f⟩ := h
  exact hb.kept c (fun a _ _ e _ hf => hv a.block (by rw [e]; rfl) hf)

set_option maxHeartbeats 3200000 in
set_option maxRecDepth 100000 in
theorem format_any (F : Nat → Prop) (p K : Nat) (S : St) (w : World) (h : Dk w F p S) (hc : ∀ n, S.wait n = []) (hK : S.nb = K + 65) (hK1 : 1 ≤ K) (hoff : S.off = false) (hx : S.writes + 20000 < 1099511627776) :
    Calls Try.prog 7 #[.pointer (some ⟨p, 0, none⟩)] w fun e w' => FmTo F p K S w e w' := by
  obtain ⟨i0, hi, hz0, hz1, hz2⟩ := info_parts info5
  have HU : Hid (Calls Try.prog 24 #[.pointer (some ⟨p, 0, none⟩)] w fun e w' => e = .returned (.int .i64 0) ∧ w' = w) := usable_on F p S w h (by omega) hoff
  have HD : Hid (Dk w F p S) := h
  have hwf := h.wf
  have htop := hwf.top
  have hK2 : K ≤ 16384 := by omega
  have HWF : Hid (S.Wf ∧ (∀ n, S.wait n = []) ∧ S.off = false) := ⟨hwf, hc, hoff⟩
  clear h hc hwf hoff
  go_enter Try.func7, Try.ntmps7
  go_wp2_with fail
  refine HU.out.mono ?_
  rintro e w0 ⟨rfl, rfl⟩
  clear HU
  go_wp2_with (refine wpList_make_full _ rfl _ _ 39 rfl w0.heap.size 5 i0 (.int .u8 0) 1 Try.underlying39 hi hz0 hz1 .i64 .i64 _ _ 512 rfl rfl rfl rfl (by rw [hz2]; omega) (by unfold maxLen; omega) (Nat.le_refl _) ?_; intro w1 own1 grow1)
  rw [made_bytes] at own1
  have hc1 := Chg.of_none grow1
  have hbz := Bs.ofOwns own1
  have hgw : w0.heap.size < w1.heap.size := (own1.lt _ rfl).2
  have d1 := HD.out.kept hc1 (fun _ _ h => h)
  have hno : ∀ g, (Value.slice (some ⟨w0.heap.size, 0, none⟩) 512 512).ownBlock = some g → ¬ F g := fun g hg hf => by
    have e := own_at hg
    have := HD.out.lt _ hf
    omega
  have FX : Hid (Calls Try.prog 25 #[.pointer (some ⟨p, 0, none⟩), .int .i64 ((0 : Nat) : Int), .slice (some ⟨w0.heap.size, 0, none⟩) 512 512] w1 fun e w' => ∃ E S', e = .returned (.int .i64 E) ∧ FixTo S 0 (zeros 512) E S' ∧ To F p w1 w' S') :=
    fix_any F p S 0 _ (zeros 512) w1 d1 hbz hno (by omega) HWF.out.2.2 (by omega) (zeros_len 512)
  have HB : Hid (Bs w1 (.slice (some ⟨w0.heap.size, 0, none⟩) 512 512) (zeros 512)) := hbz
  have HN : Hid (∀ g, (Value.slice (some ⟨w0.heap.size, 0, none⟩) 512 512).ownBlock = some g → ¬ F g) := hno
  have HC1 : Hid (Chg (fun _ => False) w0 w1) := hc1
  clear own1 grow1 hbz d1 hno HD hc1
  go_wp2_with fail
  refine FX.out.mono ?_
  rintro e w2 ⟨E, S1, rfl, hfx, t2⟩
  clear FX
  rcases hfx with ⟨rfl, hS1, ha⟩ | ⟨rfl, hS1, ha⟩
  rotate_left
  · -- the power goes at once
    have HQ : Hid (FmTo F p K S w0 (.returned (.tuple #[.pointer none, .int .i64 6])) w2) := by
      refine .inr ⟨S1, rfl, ?_, ?_, .inl ?_⟩
      · obtain ⟨F2, d2, c2, f2⟩ := t2
        exact ⟨F2, d2, HC1.out.trans' c2, fun b hb => by
          rcases f2 b hb with h | h
          · exact .inl h
          · have := HC1.out.size; exact .inr (by omega)⟩
      · rw [hS1]; exact ((Onw.refl HWF.out.1 HWF.out.2.2).cut ha _).mono (by omega)
      · rw [hS1]; exact funext fun n => St.cut_syn _ (HWF.out.2.1 n)
    clear t2 hS1 ha
    go_wp2
    go_ret2
    exact HQ.out
  · have ho1 : Onw S S1 1 := by
      rw [hS1]
      exact ((Onw.refl HWF.out.1 HWF.out.2.2).push (by omega) (zeros_len 512)).synced
    have hz1' : S1.syn 0 = zeros 512 := by rw [hS1]; exact St.pushed_last_same S 0 (zeros 512)
    have hw1' : ∀ n, S1.wait n = [] := by rw [hS1]; exact fun _ => rfl
    have hnb1 : S1.nb = K + 65 := ho1.nb.trans hK
    have HO : Hid (Onw S S1 1 ∧ S1.syn 0 = zeros 512) := ⟨ho1, hz1'⟩
    have HT2 : Hid (To F p w1 w2 S1 ∧ Zer S1 S1 0) := ⟨t2, Zer.start ho1.wf ho1.off hw1'⟩
    have hwr1 := ho1.wr
    have HP : Hid (S.nb = K + 65 ∧ S1.nb = K + 65 ∧ S1.writes ≤ S.writes + 1) := ⟨hK, hnb1, hwr1⟩
    clear hS1 ha t2 ho1 hz1' hw1' hnb1 hwr1 hK
    go_wp2
    go_loopw [7, 8] (fun x _ wr => ∃ i Si, i ≤ K ∧ x = .int .i64 ((65 + i : Nat) : Int) ∧ Hid (To F p w1 wr Si ∧ Zer S1 Si i)) (fun x _ _ => K + 65 - (intOf x).toNat)
    case atStart => exact ⟨0, S1, Nat.zero_le _, rfl, HT2⟩
    case round =>
      obtain ⟨i, Si, hiK, rfl, HI⟩ := hrel
      clear HT2
      obtain ⟨Fi, di, ci, fi⟩ := HI.out.1
      have hon := HI.out.2.on
      have hnbi : Si.nb = K + 65 := hon.nb.trans HP.out.2.1
      have HDI : Hid (Dk wr Fi p Si) := di
      have HNI : Hid (∀ g, (Value.slice (some ⟨w0.heap.size, 0, none⟩) 512 512).ownBlock = some g → ¬ Fi g) := fun g hg hf => by
        rcases fi g hf with h | h
        · exact HN.out g hg h
        · have e := own_at hg; omega
      have HBI : Hid (Bs wr (.slice (some ⟨w0.heap.size, 0, none⟩) 512 512) (zeros 512)) := HI.out.1.bs HB.out HN.out
      have hwri : Si.writes ≤ S1.writes + i := hon.wr
      have hwr1 := HP.out.2.2
      have HCI : Hid (Chg F w1 wr ∧ ∀ b, Fi b → F b ∨ w1.heap.size ≤ b) := ⟨ci, fi⟩
      have hoffi := hon.off
      clear ci fi di hon
      go_wp2_with fail
      refine (blocks_any Fi p Si wr HDI.out).mono ?_
      rintro e w3 ⟨rfl, rfl⟩
      rw [hnbi]
      by_cases hlt : i < K
      · have kb : ((65 + i : Nat) : Int) < ((K + 65 : Nat) : Int) := by omega
        have WR : Hid (Calls Try.prog 27 #[.pointer (some ⟨p, 0, none⟩), .int .i64 ((65 + i : Nat) : Int), .slice (some ⟨w0.heap.size, 0, none⟩) 512 512] w3 fun e w' => e = .returned (.int .i64 (Si.writeE ((65 + i : Nat) : Int) (zeros 512))) ∧ To Fi p w3 w' (Si.write ((65 + i : Nat) : Int) (zeros 512))) :=
          write_any Fi p Si _ _ (zeros 512) w3 HDI.out HBI.out HNI.out (by omega)
        have WC := St.write_cases (S := Si) (n := 65 + i) (b := zeros 512) hoffi (by omega) (zeros_len 512)
        rcases WC with ⟨e1, e2, e3⟩ | ⟨e1, e2, e3⟩
        · rw [e1, e2] at WR
          have HZ : Hid (Zer S1 (Si.pushed (65 + i) (zeros 512)) (i + 1)) := HI.out.2.push (by omega)
          clear e1 e2 e3
          obtain ⟨S2, hS2⟩ : ∃ S2, Si.pushed (65 + i) (zeros 512) = S2 := ⟨_, rfl⟩
          rw [hS2] at WR HZ
          clear hS2
          go_wp2_with fail
          refine WR.out.mono ?_
          rintro e w4 ⟨rfl, t4⟩
          have HT4 : Hid (To F p w1 w4 S2) := To.trans HCI.out.1 HCI.out.2 t4
          clear WR t4 HI HDI HNI HBI HCI
          go_wp2
          go_roundw
          case rel => exact ⟨i + 1, S2, by omega, by go_num, HT4.out, HZ.out⟩
          case measure => simp [intOf]; omega
        · rw [e1, e2] at WR
          have HZ : Hid (Gone S1 (Si.cut Si.picks) i ∧ (Si.cut Si.picks).syn 0 = S1.syn 0) := HI.out.2.cut e3 _
          clear e1 e2 e3
          obtain ⟨S2, hS2⟩ : ∃ S2, Si.cut Si.picks = S2 := ⟨_, rfl⟩
          rw [hS2] at WR HZ
          clear hS2
          go_wp2_with fail
          refine WR.out.mono ?_
          rintro e w4 ⟨rfl, t4⟩
          have HQ : Hid (FmTo F p K S w0 (.returned (.tuple #[.pointer none, .int .i64 6])) w4) := by
            refine .inr ⟨S2, rfl, ?_, (HO.out.1.gone HZ.out.1).mono (by omega), .inr (HZ.out.2.trans HO.out.2)⟩
            obtain ⟨F2, d2, c2, f2⟩ := To.trans HCI.out.1 HCI.out.2 t4
            exact ⟨F2, d2, HC1.out.trans' c2, fun b hb => by
              rcases f2 b hb with h | h
              · exact .inl h
              · have := HC1.out.size; exact .inr (by omega)⟩
          clear WR t4 HI HDI HNI HBI HCI
          go_wp2
          go_ret2
          exact HQ.out
      · have hie : i = K := by omega
        subst hie
        have kb : ¬ (((65 + i : Nat) : Int) < ((i + 65 : Nat) : Int)) := by omega
        have hs1 : Si.sync = Si.synced := by unfold St.sync; rw [if_neg (by simp [hoffi])]
        have hs2 : Si.syncE = 0 := by unfold St.syncE; rw [if_neg (by simp [hoffi])]
        have SY : Hid (Calls Try.prog 28 #[.pointer (some ⟨p, 0, none⟩)] w3 fun e w' => e = .returned (.int .i64 0) ∧ To Fi p w3 w' Si.synced) := by
          have := sync_any Fi p Si w3 HDI.out (by omega)
          rw [hs1, hs2] at this
          exact this
        clear hs1 hs2
        go_wp2_with fail
        refine SY.out.mono ?_
        rintro e w4 ⟨rfl, t4⟩
        have t4' := To.trans HCI.out.1 HCI.out.2 t4
        obtain ⟨F4, d4, c4, f4⟩ := t4'
        have HT4 : Hid (Dk w4 F4 p Si.synced ∧ Chg F w1 w4 ∧ ∀ b, F4 b → F b ∨ w1.heap.size ≤ b) := ⟨d4, c4, f4⟩
        clear SY t4 HDI HNI HBI HCI d4 c4 f4
        go_wp2_with fail
        refine (layHead_any (.slice none 0 0) [] w4 (.inl ⟨rfl, rfl⟩) (by simp)).mono ?_
        rintro e w5 ⟨u, rfl, ho5, hc5⟩
        obtain ⟨ua, uc, rfl⟩ := cown_slice ho5
        have hb5 : Bs w5 (.slice ua 512 uc) (headB []) := Bs.ofOwns ho5
        have d5 := HT4.out.1.kept hc5 (fun _ _ h => h)
        have FX : Hid (Calls Try.prog 25 #[.pointer (some ⟨p, 0, none⟩), .int .i64 ((0 : Nat) : Int), .slice ua 512 uc] w5 fun e w' => ∃ E S', e = .returned (.int .i64 E) ∧ FixTo Si.synced 0 (headB []) E S' ∧ To F4 p w5 w' S') :=
          fix_any F4 p Si.synced 0 _ (headB []) w5 d5 hb5 (fun g hg hf => by
            have h1 := (ho5.lt g hg).1
            have h2 := HT4.out.1.lt g hf
            omega) (by show Si.writes + 1 < _; omega) hoffi (by show 0 < Si.nb; omega) (headB_len [])
        have HC5 : Hid (Chg (fun _ => False) w4 w5) := hc5
        clear ho5 hb5 d5 hc5
        go_wp2_with fail
        refine FX.out.mono ?_
        rintro e w6 ⟨E, S6, rfl, hfx, t6⟩
        clear FX
        have HT6 : Hid (To F p w0 w6 S6) := by
          obtain ⟨F6, d6, c6, f6⟩ := t6
          refine ⟨F6, d6, HC1.out.trans' ((HT4.out.2.1.trans (HC5.out.mono (fun _ _ h => h.elim) (S' := F)) (fun _ _ h => h)).trans c6 (fun b hb hf => ?_)), fun b hb => ?_⟩
          · rcases HT4.out.2.2 b hf with h | h
            · exact h
            · omega
          · have hz := HC1.out.size
            rcases f6 b hb with h | h
            · rcases HT4.out.2.2 b h with h2 | h2
              · exact .inl h2
              · exact .inr (by omega)
            · have h1 := HT4.out.2.1.size
              have h2 := HC5.out.size
              exact .inr (by omega)
        rcases hfx with ⟨rfl, hS6, ha⟩ | ⟨rfl, hS6, ha⟩
        · have HZ : Hid (Onw S S6 (i + 2) ∧ Clean S6 i (fun _ => zeros 512)) := by
            have hh := HI.out.2.head HP.out.2.1
            rw [← hS6] at hh
            exact ⟨(HO.out.1.trans hh.1).mono (by omega), hh.2⟩
          clear hS6 ha t6 HI
          go_wp2_with fail
          refine (over_any p i w6).mono ?_
          rintro e w7 ⟨pl, G, m, V, rfl, hl7, hg7, hc7⟩
          have HQ : Hid (FmTo F p i S w0 (.returned (.tuple #[.pointer (some ⟨pl, 0, none⟩), .int .i64 0])) w7) := by
            obtain ⟨F6, d6, c6, f6⟩ := HT6.out
            refine .inl ⟨pl, F6, G, m, V, S6, rfl, ⟨d6.kept hc7 (fun _ _ h => h), hl7, fun b hf hg => ?_, HZ.out.2.nb⟩, c6.trans hc7 (fun _ _ h => h.elim), f6, fun b hg => ?_, HZ.out.1, HZ.out.2⟩
            · have h1 := d6.lt b hf
              have h2 := hg7 b hg
              omega
            · have h1 := hg7 b hg
              have h2 := c6.size
              omega
          clear hl7 hg7 hc7 HT6 HZ
          go_wp2
          go_ret2
          exact HQ.out
        · have HQ : Hid (FmTo F p i S w0 (.returned (.tuple #[.pointer none, .int .i64 6])) w6) := by
            have hh := HI.out.2.headCut ha Si.synced.picks
            refine .inr ⟨S6, rfl, HT6.out, ?_, .inr ?_⟩
            · rw [hS6]; exact (HO.out.1.gone hh.1).mono (by omega)
            · rw [hS6]; exact hh.2.trans HO.out.2
          clear hS6 ha t6 HI HT6
          go_wp2
          go_ret2
          exact HQ.out
end Go.Proofs.Ytepoaiaifclgnaa
