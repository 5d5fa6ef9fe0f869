/-
  A log of package wal and its transaction in memory, and the contracts of the small methods.
-/
import Derived.Test.YtnnaemlipahamaaGreatHead
import Derived.Test.YtnnaemlipahamaaGreatHelp
import Derived.Test.YtnnaemlipahamaaGreatKeysB
import Derived.Deep.RegionHeld
namespace Go.Proofs.YtnnaemlipahamaaGreat
open Go.RowKit Go.Maps

/-- What a map of blocks holds. -/
def vf (f : Nat → Option (List Int)) (V : Nat → Value) (n : Nat) : Option Value := if (f n).isSome then some (V n) else none
theorem vf_none {f : Nat → Option (List Int)} {V : Nat → Value} {n : Nat} (h : f n = none) : vf f V n = none := by simp [vf, h]
theorem vf_some {f : Nat → Option (List Int)} {V : Nat → Value} {n : Nat} {b : List Int} (h : f n = some b) : vf f V n = some (V n) := by simp [vf, h]
theorem vf_upd (f : Nat → Option (List Int)) (V : Nat → Value) (n : Nat) (b : List Int) (v : Value) : vf (upd f n (some b)) (upd V n v) = upd (vf f V) n (some v) := by
  funext k
  by_cases e : k = n
  · subst e; simp [vf, upd_same]
  · simp [vf, upd_other _ _ e]
theorem vf_del (f : Nat → Option (List Int)) (V : Nat → Value) (n : Nat) : vf (upd f n none) V = upd (vf f V) n none := by
  funext k
  by_cases e : k = n
  · subst e; simp [vf, upd_same]
  · simp [vf, upd_other _ _ e]

/-- The map m of the blocks f; their bytes lie in blocks of G. -/
structure Mb (w : World) (G : Nat → Prop) (K m : Nat) (f : Nat → Option (List Int)) (V : Nat → Value) : Prop where
  map : MapIs w m K (vf f V)
  row : ∀ n b, f n = some b → n < K ∧ b.length = 512 ∧ ∃ g c, V n = .slice (some ⟨g, 0, none⟩) 512 c ∧ w.ownsRow 0 5 1 (V n) 512 (bcells b) ∧ G g
  fm : G m
theorem Mb.kept {w w' : World} {G E : Nat → Prop} {K m : Nat} {f : Nat → Option (List Int)} {V : Nat → Value} (h : Mb w G K m f V) (hc : Chg E w w') (hm : ¬ E m) (hr : ∀ g, G g → (∃ cur, w.heap[g]? = some (.cells cur 5 (0, 0))) → ¬ E g) : Mb w' G K m f V := by
  refine ⟨h.map.kept (hc.block m h.map.lt hm), fun n b hb => ?_, h.fm⟩
  obtain ⟨h1, h2, g, c, e, ho, hg⟩ := h.row n b hb
  rw [e] at ho ⊢
  exact ⟨h1, h2, g, c, rfl, own_same ho (fun g' hg' => by cases hg'; exact hc.block g (ho.lt g rfl).2 (hr g hg (own_obj ho rfl))), hg⟩
theorem Mb.mono {w : World} {G G' : Nat → Prop} {K m : Nat} {f : Nat → Option (List Int)} {V : Nat → Value} (h : Mb w G K m f V) (hG : ∀ b, G b → G' b) : Mb w G' K m f V :=
  ⟨h.map, fun n b hb => by obtain ⟨h1, h2, g, c, e, ho, hg⟩ := h.row n b hb; exact ⟨h1, h2, g, c, e, ho, hG g hg⟩, hG _ h.fm⟩
theorem Mb.bs {w : World} {G : Nat → Prop} {K m n : Nat} {f : Nat → Option (List Int)} {V : Nat → Value} {b : List Int} (h : Mb w G K m f V) (hb : f n = some b) : Bs w (V n) b := by
  obtain ⟨h1, h2, g, c, e, ho, hg⟩ := h.row n b hb
  exact Bs.ofOwns (by rw [← h2] at ho; exact ho)

/-- The log at pl, over the disk at pd. -/
structure LgAt (w : World) (G : Nat → Prop) (pd pl K : Nat) (com : Nat → Option (List Int)) (pend : Nat) (ov : Value) (m : Nat) (V : Nat → Value) : Prop where
  blk : w.heap[pl]? = some (.cells #[.pointer (some ⟨pd, 0, none⟩), .map (some m), .int .i64 (pend : Int), ov] 83 (0, 0))
  mb : Mb w G K m com V
  fp : G pl
  lt : ∀ b, G b → b < w.heap.size
/-- A transaction of the log at pl. -/
structure TxAt (w : World) (G : Nat → Prop) (pl q K : Nat) (own : Nat → Option (List Int)) (wrote m : Nat) (V : Nat → Value) : Prop where
  blk : w.heap[q]? = some (.cells #[.pointer (some ⟨pl, 0, none⟩), .map (some m), .int .i64 (wrote : Int)] 85 (0, 0))
  mb : Mb w G K m own V
  fp : G q
  lt : ∀ b, G b → b < w.heap.size
section
variable {w w' : World} {G E : Nat → Prop} {pd pl q K : Nat} {com own : Nat → Option (List Int)} {pend wrote : Nat} {ov : Value} {m : Nat} {V : Nat → Value}
theorem LgAt.c0 (h : LgAt w G pd pl K com pend ov m V) : w.cell? ⟨pl, 0, none⟩ = some (.pointer (some ⟨pd, 0, none⟩)) := by rw [cell_of_row w pl 0 _ _ _ h.blk]; rfl
theorem LgAt.c1 (h : LgAt w G pd pl K com pend ov m V) : w.cell? ⟨pl, 1, none⟩ = some (.map (some m)) := by rw [cell_of_row w pl 1 _ _ _ h.blk]; rfl
theorem LgAt.c2 (h : LgAt w G pd pl K com pend ov m V) : w.cell? ⟨pl, 2, none⟩ = some (.int .i64 (pend : Int)) := by rw [cell_of_row w pl 2 _ _ _ h.blk]; rfl
theorem LgAt.c3 (h : LgAt w G pd pl K com pend ov m V) : w.cell? ⟨pl, 3, none⟩ = some ov := by rw [cell_of_row w pl 3 _ _ _ h.blk]; rfl
theorem LgAt.fr (h : LgAt w G pd pl K com pend ov m V) (i : Nat) : w.frozen? ⟨pl, i, none⟩ = false := by simp [World.frozen?, h.blk]
theorem LgAt.pl_lt (h : LgAt w G pd pl K com pend ov m V) : pl < w.heap.size := h.lt _ h.fp
theorem TxAt.c0 (h : TxAt w G pl q K own wrote m V) : w.cell? ⟨q, 0, none⟩ = some (.pointer (some ⟨pl, 0, none⟩)) := by rw [cell_of_row w q 0 _ _ _ h.blk]; rfl
theorem TxAt.c1 (h : TxAt w G pl q K own wrote m V) : w.cell? ⟨q, 1, none⟩ = some (.map (some m)) := by rw [cell_of_row w q 1 _ _ _ h.blk]; rfl
theorem TxAt.c2 (h : TxAt w G pl q K own wrote m V) : w.cell? ⟨q, 2, none⟩ = some (.int .i64 (wrote : Int)) := by rw [cell_of_row w q 2 _ _ _ h.blk]; rfl
theorem TxAt.fr (h : TxAt w G pl q K own wrote m V) (i : Nat) : w.frozen? ⟨q, i, none⟩ = false := by simp [World.frozen?, h.blk]
theorem LgAt.kept (h : LgAt w G pd pl K com pend ov m V) (hc : Chg E w w') (hE : ∀ b, G b → ¬ E b) : LgAt w' G pd pl K com pend ov m V :=
  ⟨(hc.block pl h.pl_lt (hE pl h.fp)).trans h.blk, h.mb.kept hc (hE m h.mb.fm) (fun g hg _ => hE g hg), h.fp, fun b hb => Nat.lt_of_lt_of_le (h.lt b hb) hc.size⟩
theorem TxAt.kept (h : TxAt w G pl q K own wrote m V) (hc : Chg E w w') (hE : ∀ b, G b → ¬ E b) : TxAt w' G pl q K own wrote m V :=
  ⟨(hc.block q (h.lt q h.fp) (hE q h.fp)).trans h.blk, h.mb.kept hc (hE m h.mb.fm) (fun g hg _ => hE g hg), h.fp, fun b hb => Nat.lt_of_lt_of_le (h.lt b hb) hc.size⟩
theorem LgAt.mono (h : LgAt w G pd pl K com pend ov m V) {G' : Nat → Prop} (hG : ∀ b, G b → G' b) (hl : ∀ b, G' b → b < w.heap.size) : LgAt w G' pd pl K com pend ov m V := ⟨h.blk, h.mb.mono hG, hG _ h.fp, hl⟩
theorem TxAt.mono (h : TxAt w G pl q K own wrote m V) {G' : Nat → Prop} (hG : ∀ b, G b → G' b) (hl : ∀ b, G' b → b < w.heap.size) : TxAt w G' pl q K own wrote m V := ⟨h.blk, h.mb.mono hG, hG _ h.fp, hl⟩
/-- Only the struct and the map of the log have changed: the transaction stays. -/
theorem TxAt.beside {mt : Nat} {Vt : Nat → Value} (h : TxAt w G pl q K own wrote mt Vt) (hl : LgAt w G pd pl K com pend ov m V) (hmm : mt ≠ m) (hc : Chg (fun b => b = pl ∨ b = m) w w') : TxAt w' G pl q K own wrote mt Vt := by
  have hql : q ≠ pl := fun e => by subst e; have := hl.blk; rw [h.blk] at this; simp at this
  obtain ⟨es, cl, hom⟩ := hl.mb.map.obj
  have hqm : q ≠ m := fun e => by subst e; rw [h.blk] at hom; simp at hom
  obtain ⟨et, ct, homt⟩ := h.mb.map.obj
  have hmp : mt ≠ pl := fun e => by subst e; rw [hl.blk] at homt; simp at homt
  refine ⟨(hc.block q (h.lt q h.fp) (fun e => by rcases e with e | e; exact hql e; exact hqm e)).trans h.blk, h.mb.kept hc (fun e => by rcases e with e | e; exact hmp e; exact hmm e) (fun g hg ⟨cur, ho⟩ e => ?_), h.fp, fun b hb => Nat.lt_of_lt_of_le (h.lt b hb) hc.size⟩
  rcases e with e | e
  · subst e; rw [hl.blk] at ho; simp at ho
  · subst e; rw [hom] at ho; simp at ho
end
end Go.Proofs.YtnnaemlipahamaaGreat

namespace Go.Proofs.YtnnaemlipahamaaGreat
open Go.RowKit Go.Maps

set_option maxHeartbeats 400000 in
theorem off_any (F : Nat → Prop) (p : Nat) (S : St) (w : World) (h : Dk w F p S) : Calls Tryz.prog 25 #[.pointer (some ⟨p, 0, none⟩)] w fun e w' => e = .returned (.bool S.off) ∧ w' = w := by
  obtain ⟨s, sc, m, pv, V, h⟩ := h
  have c3 := h.c3
  clear h
  go_enter Tryz.func25, Tryz.ntmps25
  go_wp2
  go_ret
  exact ⟨rfl, rfl⟩

set_option maxHeartbeats 400000 in
theorem usable_small (F : Nat → Prop) (p : Nat) (S : St) (w : World) (h : Dk w F p S) (hn : S.nb ≤ 65) : Calls Tryz.prog 52 #[.pointer (some ⟨p, 0, none⟩)] w fun e w' => e = .returned (.int .i64 1) ∧ w' = w := by
  have k : decide ((S.nb : Int) ≤ 65) = true := by simp; omega
  go_enter Tryz.func52, Tryz.ntmps52
  go_wp2_with fail
  refine (blocks_any F p S w h).mono ?_
  rintro e w1 ⟨rfl, rfl⟩
  clear h
  go_wp2
  go_ret
  exact ⟨rfl, rfl⟩
set_option maxHeartbeats 400000 in
theorem usable_on (F : Nat → Prop) (p : Nat) (S : St) (w : World) (h : Dk w F p S) (hn : 65 < S.nb) (ho : S.off = false) : Calls Tryz.prog 52 #[.pointer (some ⟨p, 0, none⟩)] w fun e w' => e = .returned (.int .i64 0) ∧ w' = w := by
  have k : decide ((S.nb : Int) ≤ 65) = false := by simp; omega
  have HD : Hid (Dk w F p S) := h
  clear h
  go_enter Tryz.func52, Tryz.ntmps52
  go_wp2_with fail
  refine (blocks_any F p S w HD.out).mono ?_
  rintro e w1 ⟨rfl, rfl⟩
  go_wp2_with fail
  refine (off_any F p S w1 HD.out).mono ?_
  rintro e w2 ⟨rfl, rfl⟩
  rw [ho]
  go_wp2
  go_ret
  exact ⟨rfl, rfl⟩

theorem Chg.trans' {S : Nat → Prop} {a b c : World} (h : Chg (fun _ => False) a b) (k : Chg S b c) : Chg S a c := (h.mono (fun _ _ h => h.elim)).trans k (fun _ _ h => h)
theorem own_at {g b off n c : Nat} (h : (Value.slice (some ⟨b, off, none⟩) n c).ownBlock = some g) : g = b := by cases h; rfl
/-- What fix leaves: written and synced, or the power has gone. -/
def FixTo (S : St) (n : Nat) (bs : List Int) (E : Int) (S' : St) : Prop := (E = 0 ∧ S' = (S.pushed n bs).synced ∧ S.arm ≠ 1) ∨ (E = 6 ∧ S' = S.cut S.picks ∧ S.arm = 1)
theorem To.then {F : Nat → Prop} {p : Nat} {w w1 w2 : World} {S1 S2 : St} (h1 : To F p w w1 S1) (h2 : ∀ F1, Dk w1 F1 p S1 → To F1 p w1 w2 S2) : To F p w w2 S2 := by
  obtain ⟨F1, d1, c1, f1⟩ := h1
  exact To.trans c1 f1 (h2 F1 d1)

set_option maxHeartbeats 800000 in
theorem fix_any (F : Nat → Prop) (p : Nat) (S : St) (n : Nat) (v : Value) (bs : List Int) (w : World) (h : Dk w F p S) (hb : Bs w v bs) (hv : ∀ g, v.ownBlock = some g → ¬ F g) (hx : S.writes + 1 < 1099511627776) (hoff : S.off = false) (hn : n < S.nb) (hl : bs.length = 512) :
    Calls Tryz.prog 53 #[.pointer (some ⟨p, 0, none⟩), .int .i64 (n : Int), v] w fun e w' => ∃ E S', e = .returned (.int .i64 E) ∧ FixTo S n bs E S' ∧ To F p w w' S' := by
  have HW := write_any F p S n v bs w h hb hv (by omega)
  have HC := St.write_cases (b := bs) hoff hn hl
  clear h hb hv
  rcases HC with ⟨e1, e2, e3⟩ | ⟨e1, e2, e3⟩
  · rw [e1, e2] at HW
    have HW' : Hid (Calls Tryz.prog 55 #[.pointer (some ⟨p, 0, none⟩), .int .i64 (n : Int), v] w fun e w' => e = .returned (.int .i64 0) ∧ To F p w w' (S.pushed n bs)) := HW
    have hs1 : (S.pushed n bs).sync = (S.pushed n bs).synced := by unfold St.sync; rw [if_neg (by show ¬ S.off = true; simp [hoff])]
    have hs2 : (S.pushed n bs).syncE = 0 := by unfold St.syncE; rw [if_neg (by show ¬ S.off = true; simp [hoff])]
    have hwr : (S.pushed n bs).writes = S.writes + 1 := rfl
    have H1 : Hid (FixTo S n bs 0 (S.pushed n bs).synced) := .inl ⟨rfl, rfl, e3⟩
    clear HW e1 e2 e3
    obtain ⟨S1, hS1⟩ : ∃ S1, S.pushed n bs = S1 := ⟨_, rfl⟩
    rw [hS1] at HW' hs1 hs2 H1 hwr
    clear hS1
    go_enter Tryz.func53, Tryz.ntmps53
    go_wp2_with fail
    refine HW'.out.mono ?_
    rintro e w1 ⟨rfl, F1, d1, c1, f1⟩
    clear HW'
    go_wp2_with fail
    refine (sync_any F1 p S1 w1 d1 (by omega)).mono ?_
    rintro e w2 ⟨rfl, t2⟩
    rw [hs2]
    rw [hs1] at t2
    have HT : Hid (To F p w w2 S1.synced) := To.trans c1 f1 t2
    clear d1 c1 f1 t2
    go_wp2
    go_ret
    exact ⟨0, _, rfl, H1.out, HT.out⟩
  · rw [e1, e2] at HW
    have HW' : Hid (Calls Tryz.prog 55 #[.pointer (some ⟨p, 0, none⟩), .int .i64 (n : Int), v] w fun e w' => e = .returned (.int .i64 6) ∧ To F p w w' (S.cut S.picks)) := HW
    have H1 : Hid (FixTo S n bs 6 (S.cut S.picks)) := .inr ⟨rfl, rfl, e3⟩
    clear HW e1 e2 e3
    go_enter Tryz.func53, Tryz.ntmps53
    go_wp2_with fail
    refine HW'.out.mono ?_
    rintro e w1 ⟨rfl, t1⟩
    have HT : Hid (To F p w w1 (S.cut S.picks)) := t1
    clear HW' t1
    go_wp2
    go_ret
    exact ⟨6, _, rfl, H1.out, HT.out⟩

set_option maxHeartbeats 400000 in
theorem over_any (p : Nat) (K : Nat) (w : World) : Calls Tryz.prog 58 #[.pointer (some ⟨p, 0, none⟩)] w fun e w' => ∃ pl G m V, e = .returned (.pointer (some ⟨pl, 0, none⟩)) ∧ LgAt w' G p pl K (fun _ => none) 0 (.pointer none) m V ∧ (∀ b, G b → w.heap.size ≤ b) ∧ Chg (fun _ => False) w w' := by
  have hmm := @run_makeMap Tryz.prog
  go_enter Tryz.func58, Tryz.ntmps58
  go_wp2
  go_ret
  refine ⟨_, (fun b => b = w.heap.size ∨ b = w.heap.size + 1), w.heap.size, fun _ => .slice none 0 0, rfl, ⟨?_, ⟨?_, fun n b hb => (by cases hb), .inl rfl⟩, .inr rfl, fun b hb => ?_⟩, fun b hb => (by rcases hb with e | e <;> omega), (Chg.alloc _ _ _).trans (Chg.alloc (fun _ => False) _ _) (fun _ _ h => h)⟩
  · have := heap_alloc_new (w.alloc (.map #[] 0)) (.cells #[.pointer (some ⟨p, 0, none⟩), .map (some w.heap.size), .int .i64 0, .pointer none] 83)
    rw [World.size_alloc] at this
    exact this
  · have hm := (MapIs.new w K).kept (w' := (w.alloc (.map #[] 0)).alloc (.cells #[.pointer (some ⟨p, 0, none⟩), .map (some w.heap.size), .int .i64 0, .pointer none] 83)) (Below.heap_alloc _ _ _ (by simp))
    have e : vf (fun _ => none) (fun _ => .slice none 0 0) = fun _ => none := by funext n; exact vf_none rfl
    rw [e]
    exact hm
  · simp
    rcases hb with e | e <;> omega

/-- A log over its disk, and what is where. -/
structure Lk (w : World) (F G : Nat → Prop) (pd pl K : Nat) (S : St) (com : Nat → Option (List Int)) (pend : Nat) (ov : Value) (m : Nat) (V : Nat → Value) : Prop where
  dk : Dk w F pd S
  lg : LgAt w G pd pl K com pend ov m V
  no : ∀ b, F b → ¬ G b
  nb : S.nb = K + 65
section
variable {F G : Nat → Prop} {pd pl K : Nat} {S : St} {com : Nat → Option (List Int)} {pend : Nat} {ov : Value} {m : Nat} {V : Nat → Value}
theorem Lk.kept {w w' : World} (h : Lk w F G pd pl K S com pend ov m V) (hc : Chg (fun _ => False) w w') : Lk w' F G pd pl K S com pend ov m V := ⟨h.dk.kept hc (fun _ _ h => h), h.lg.kept hc (fun _ _ h => h), h.no, h.nb⟩
theorem Lk.top {w : World} (h : Lk w F G pd pl K S com pend ov m V) : K ≤ 16384 := by have := h.dk.wf.top; have := h.nb; omega

set_option maxHeartbeats 400000 in
theorem lblocks_any (w : World) (h : Lk w F G pd pl K S com pend ov m V) : Calls Tryz.prog 127 #[.pointer (some ⟨pl, 0, none⟩)] w fun e w' => e = .returned (.int .i64 (K : Int)) ∧ w' = w := by
  have c0 := h.lg.c0
  have hn := h.nb
  have ht := h.top
  have HD : Hid (Dk w F pd S) := h.dk
  have e1 : (S.nb : Int) = K + 65 := by omega
  clear h
  go_enter Tryz.func127, Tryz.ntmps127
  go_wp2_with fail
  refine (blocks_any F pd S w HD.out).mono ?_
  rintro e w1 ⟨rfl, rfl⟩
  rw [e1]
  have e2 : (K : Int) + 65 - 65 = K := by omega
  go_wp2
  go_ret
  simp
  try omega

set_option maxHeartbeats 400000 in
theorem lhas_any (n : Int) (w : World) (h : Lk w F G pd pl K S com pend ov m V) : Calls Tryz.prog 109 #[.pointer (some ⟨pl, 0, none⟩), .int .i64 n] w fun e w' => e = .returned (.bool (decide (0 ≤ n ∧ n < K))) ∧ w' = w := by
  by_cases h0 : 0 ≤ n
  · go_enter Tryz.func109, Tryz.ntmps109
    go_wp2_with fail
    refine (lblocks_any w h).mono ?_
    rintro e w1 ⟨rfl, rfl⟩
    clear h
    go_wp2
    go_ret
    simp [h0]
  · have k0 : decide (0 ≤ n) = false := by simpa using h0
    clear h
    go_enter Tryz.func109, Tryz.ntmps109
    go_wp2
    go_ret
    simp

end
end Go.Proofs.YtnnaemlipahamaaGreat

namespace Go.Proofs.YtnnaemlipahamaaGreat
open Go.RowKit Go.Maps

theorem strOf_list (xs : List Int) : (strOf xs).data.toList = xs.map (fun n => UInt8.ofNat n.toNat) := by
  have h : ∀ (l : List Int) (s : ByteArray), (l.foldl (fun r n => r.push (UInt8.ofNat n.toNat)) s).data.toList = s.data.toList ++ l.map (fun n => UInt8.ofNat n.toNat) := by
    intro l
    induction l with
    | nil => intro s; simp
    | cons x r ih => intro s; rw [List.foldl_cons, ih]; simp [ByteArray.push]
  have := h xs ByteArray.empty
  simpa [strOf] using this
theorem map_inj (xs ys : List Int) (hx : IsB xs) (hy : IsB ys) (h : xs.map (fun n => UInt8.ofNat n.toNat) = ys.map (fun n => UInt8.ofNat n.toNat)) : xs = ys := by
  induction xs generalizing ys with
  | nil => cases ys with
    | nil => rfl
    | cons y s => simp at h
  | cons x r ih =>
    cases ys with
    | nil => simp at h
    | cons y s =>
      simp only [List.map_cons, List.cons.injEq] at h
      have a := hx x (List.mem_cons_self ..)
      have b := hy y (List.mem_cons_self ..)
      have e : x = y := by
        have h1 := congrArg UInt8.toNat h.1
        rw [UInt8.toNat_ofNat', UInt8.toNat_ofNat'] at h1
        omega
      rw [e, ih s (fun z hz => hx z (List.mem_cons_of_mem _ hz)) (fun z hz => hy z (List.mem_cons_of_mem _ hz)) h.2]
theorem strOf_inj (xs ys : List Int) (hx : IsB xs) (hy : IsB ys) (h : strOf xs = strOf ys) : xs = ys := by
  refine map_inj xs ys hx hy ?_
  rw [← strOf_list, ← strOf_list, h]

theorem str_ne (xs ys : List Int) (hx : IsB xs) (hy : IsB ys) (h : xs ≠ ys) : ((strOf xs).toList == (strOf ys).toList) = false := by
  rw [ByteArray.toList_eq, ByteArray.toList_eq, strOf_list, strOf_list]
  simp only [beq_eq_false_iff_ne, ne_eq]
  exact fun e => h (map_inj xs ys hx hy e)
theorem str_same (t : ByteArray) : (t.toList == t.toList) = true := by simp

end Go.Proofs.YtnnaemlipahamaaGreat

namespace Go.Proofs.YtnnaemlipahamaaGreat
open Go.RowKit Go.Maps

/-- The numbers that are read out of x are hs. -/
structure Heads (K : Nat) (x : List Int) (hs : List Nat) : Prop where
  len : x.length = 512
  isB : IsB x
  cnt : valB ((x.drop 13).take 2) = (hs.length : Int)
  num : ∀ (i n : Nat), hs[i]? = some n → valB ((x.drop (15 + 2 * i)).take 2) = (n : Int)
  small : hs.length ≤ 63
  lt : ∀ n ∈ hs, n < K

theorem take2 (n : Int) (r : List Int) : (leTo n 2 ++ r).take 2 = leTo n 2 := by
  have h := leTo_len n 2
  rw [List.take_append_of_le_length (by omega), List.take_of_length_le (by omega)]
theorem valB_le (n : Nat) (h : n < 65536) : valB (leTo (n : Int) 2) = (n : Int) := by
  have : leTo (n : Int) 2 = [(n : Int) % 256, (n : Int) / 256 % 256] := by simp [leTo, List.range_succ]
  rw [this]
  simp [valB]
  omega
theorem leTo_isB (n : Int) (k : Nat) : IsB (leTo n k) := by
  intro x hx
  obtain ⟨i, _, rfl⟩ := List.mem_map.1 hx
  exact ⟨Int.emod_nonneg _ (by decide), Int.emod_lt_of_pos _ (by decide)⟩
theorem IsB.app {xs ys : List Int} (hx : IsB xs) (hy : IsB ys) : IsB (xs ++ ys) := fun x h => by
  rcases List.mem_append.1 h with h | h
  · exact hx x h
  · exact hy x h
theorem zeros_isB (n : Nat) : IsB (zeros n) := fun x h => by
  have := List.eq_of_mem_replicate h
  subst this; exact ⟨by decide, by decide⟩
theorem numsB_isB (hs : List Nat) : IsB (numsB hs) := fun x h => by
  obtain ⟨n, _, h⟩ := List.mem_flatMap.1 h
  exact leTo_isB _ _ x h
theorem markB_isB : IsB markB := by
  intro x hx
  have h : ∀ x ∈ markB, 0 ≤ x ∧ x < 256 := by decide
  exact h x hx
theorem headB_eq {hs : List Nat} (h : hs.length ≤ 63) : headB hs = markB ++ (leTo (hs.length : Int) 2 ++ (numsB hs ++ zeros (497 - 2 * hs.length))) := by
  have hl : (markB ++ leTo (hs.length : Int) 2 ++ numsB hs).length = 15 + 2 * hs.length := by
    rw [List.length_append, List.length_append, leTo_len, numsB_len]; rfl
  unfold headB fixB
  have e : (min (512 : Int) 65536).toNat = 512 := rfl
  rw [e, List.take_of_length_le (by omega), hl]
  have e2 : 512 - (15 + 2 * hs.length) = 497 - 2 * hs.length := by omega
  rw [e2]
  simp [zeros, List.append_assoc]
theorem headB_isB {hs : List Nat} (h : hs.length ≤ 63) : IsB (headB hs) := by
  rw [headB_eq h]
  exact markB_isB.app ((leTo_isB _ _).app ((numsB_isB hs).app (zeros_isB _)))
theorem numsB_split (hs : List Nat) : ∀ {i n : Nat}, hs[i]? = some n → ∃ r, numsB hs = numsB (hs.take i) ++ (leTo (n : Int) 2 ++ r) := by
  intro i n h
  have e : hs = hs.take i ++ n :: hs.drop (i + 1) := by
    obtain ⟨h1, h2⟩ := List.getElem?_eq_some_iff.1 h
    have h3 : hs.drop i = n :: hs.drop (i + 1) := by rw [List.drop_eq_getElem_cons h1, h2]
    rw [← h3, List.take_append_drop]
  refine ⟨numsB (hs.drop (i + 1)), ?_⟩
  conv => lhs; rw [e]
  simp [numsB]
/-- A head that was laid tells what it names. -/
theorem headB_heads {K : Nat} {hs : List Nat} (h : Valid K hs) (hK : K ≤ 16384) : Heads K (headB hs) hs := by
  have hm : markB.length = 13 := rfl
  refine ⟨headB_len hs, headB_isB h.len, ?_, fun i n hn => ?_, h.len, h.lt⟩
  · rw [headB_eq h.len, ← hm, List.drop_left, take2]
    exact valB_le _ (by have := h.len; omega)
  · have hil := (List.getElem?_eq_some_iff.1 hn).1
    obtain ⟨r, hr⟩ := numsB_split hs hn
    rw [headB_eq h.len, hr]
    have e : markB ++ (leTo (hs.length : Int) 2 ++ (numsB (hs.take i) ++ (leTo (n : Int) 2 ++ r) ++ zeros (497 - 2 * hs.length))) = (markB ++ leTo (hs.length : Int) 2 ++ numsB (hs.take i)) ++ (leTo (n : Int) 2 ++ (r ++ zeros (497 - 2 * hs.length))) := by simp [List.append_assoc]
    have hl : 15 + 2 * i = (markB ++ leTo (hs.length : Int) 2 ++ numsB (hs.take i)).length := by
      rw [List.length_append, List.length_append, leTo_len, numsB_len, List.length_take, hm]; omega
    rw [e, hl, List.drop_left, take2]
    exact valB_le _ (by have := h.lt n (List.mem_of_getElem? hn); omega)
theorem zeros_heads (K : Nat) : Heads K (zeros 512) [] := by
  refine ⟨zeros_len 512, zeros_isB 512, ?_, fun i n h => (by simp at h), by simp, by simp⟩
  have : ((zeros 512).drop 13).take 2 = [0, 0] := by unfold zeros; rw [List.drop_replicate, List.take_replicate]; rfl
  rw [this]; rfl
theorem zeros_ne : zeros 512 ≠ headB [] := fun e => by
  rw [headB_eq (by simp)] at e
  have h1 : (zeros 512).head? = some 0 := rfl
  rw [e] at h1
  have h2 : (markB ++ (leTo (([] : List Nat).length : Int) 2 ++ (numsB [] ++ zeros (497 - 2 * ([] : List Nat).length)))).head? = some 109 := rfl
  rw [h2] at h1
  simp at h1

/-- The first i numbers, the others 0. -/
def hTo (hs : List Nat) (i : Nat) : List Nat := hs.take i ++ List.replicate (hs.length - i) 0
theorem hTo_zero (hs : List Nat) : hTo hs 0 = List.replicate hs.length 0 := by simp [hTo]
theorem hTo_end (hs : List Nat) : hTo hs hs.length = hs := by simp [hTo]
theorem hTo_len {hs : List Nat} {i : Nat} (h : i ≤ hs.length) : (hTo hs i).length = hs.length := by simp [hTo]; omega
theorem hTo_succ {hs : List Nat} {i n : Nat} (h : hs[i]? = some n) : (hTo hs i).set i n = hTo hs (i + 1) := by
  have hil := (List.getElem?_eq_some_iff.1 h).1
  apply List.ext_getElem?
  intro j
  rw [List.getElem?_set, hTo_len (by omega)]
  by_cases e : i = j
  · subst e
    rw [if_pos rfl, if_pos hil]
    have h2 : (hTo hs (i + 1))[i]? = hs[i]? := by
      unfold hTo
      rw [List.getElem?_append_left (by rw [List.length_take]; omega), List.getElem?_take_of_lt (by omega)]
    rw [h2, h]
  · rw [if_neg e]
    by_cases hj : j < i
    · simp [hTo, List.getElem?_append, List.length_take, show j < min (i + 1) hs.length by omega, show j < min i hs.length by omega]
    · simp [hTo, List.getElem?_append, List.length_take, show ¬ j < min (i + 1) hs.length by omega, show ¬ j < min i hs.length by omega, List.getElem?_replicate]
      by_cases hjl : j < hs.length
      · rw [if_pos (by omega), if_pos (by omega)]
      · rw [if_neg (by omega), if_neg (by omega)]
def icells (hs : List Nat) : List Value := hs.map fun n : Nat => Value.int .i64 (n : Int)
theorem made_ints (n : Nat) : (madeCells (Value.int .i64 0).cells (n * 1)).toList = icells (List.replicate n 0) := by
  rw [Nat.mul_one]
  apply List.ext_getElem
  · simp [size_madeCells, icells]
  · intro i h1 h2
    simp [madeCells, Value.cells, icells, Nat.mod_one]
theorem Is.ofI {w : World} {N : Nat} {v : Value} {hs : List Nat} {n : Nat} (h : w.ownsRow N 3 1 v n (icells hs)) : Is w v (hs.map fun n : Nat => (n : Int)) := by
  refine Is.ofOwns (N := N) (n := n) ?_
  rw [List.map_map]
  exact h

section
variable {F G : Nat → Prop} {pd pl K : Nat} {S : St} {com : Nat → Option (List Int)} {pend : Nat} {ov : Value} {m : Nat} {V : Nat → Value}
/-- What readHead tells. -/
def RhTo (x : List Int) (hs : List Nat) (w : World) (e : Ending) (w' : World) : Prop :=
  Chg (fun _ => False) w w' ∧ ((x = headB hs ∧ ∃ u, e = .returned (.tuple #[u, .int .i64 0]) ∧ w'.ownsRow w.heap.size 3 1 u hs.length (icells hs)) ∨ (x ≠ headB hs ∧ e = .returned (.tuple #[.slice none 0 0, .int .i64 3])))

end
end Go.Proofs.YtnnaemlipahamaaGreat

namespace Go.Proofs.YtnnaemlipahamaaGreat
open Go.RowKit Go.Maps

/-- f, but what com has. -/
def ovr (f : Nat → List Int) (com : Nat → Option (List Int)) (n : Nat) : List Int := (com n).getD (f n)
theorem ovr_none {f : Nat → List Int} {com : Nat → Option (List Int)} {n : Nat} (h : com n = none) : ovr f com n = f n := by simp [ovr, h]
theorem ovr_some {f : Nat → List Int} {com : Nat → Option (List Int)} {n : Nat} {b : List Int} (h : com n = some b) : ovr f com n = b := by simp [ovr, h]

/-- Done (what holds then), or the power has gone (what lasts then). -/
def Ran (F : Nat → Prop) (pd : Nat) (S : St) (k : Nat) (done cut : St → Prop) (w : World) (e : Ending) (w' : World) : Prop :=
  ∃ E S', e = .returned (.int .i64 E) ∧ To F pd w w' S' ∧ ((E = 0 ∧ Onw S S' k ∧ done S') ∨ (E = 6 ∧ Gone S S' k ∧ cut S'))

section
variable {F G : Nat → Prop} {pd pl K : Nat} {S : St} {com : Nat → Option (List Int)} {pend : Nat} {ov : Value} {m : Nat} {V : Nat → Value}
theorem LgAt.lookB {w : World} (h : LgAt w G pd pl K com pend ov m V) (hK : K ≤ 16384) {n : Nat} {b : List Int} (hn : com n = some b) : ∃ g c, V n = .slice (some ⟨g, 0, none⟩) 512 c ∧ G g ∧ (Instr.lookup 81 (.map (some m)) (.int .i64 (n : Int)) false).run Tryz.prog w = .ok (.slice (some ⟨g, 0, none⟩) 512 c) w ∧ Bs w (.slice (some ⟨g, 0, none⟩) 512 c) b := by
  obtain ⟨h1, h2, g, c, e, ho, hg⟩ := h.mb.row n b hn
  have hl := h.mb.map.lookB hK h1
  rw [vf_some hn] at hl
  have hb := h.mb.bs hn
  rw [e] at hb
  exact ⟨g, c, e, hg, by rw [hl, Option.getD_some, e], hb⟩
theorem Lk.lgTo {w w' : World} (h : Lk w F G pd pl K S com pend ov m V) {S' : St} (t : To F pd w w' S') : LgAt w' G pd pl K com pend ov m V := by
  obtain ⟨F', d, c, f⟩ := t
  exact h.lg.kept c (fun b hg hf => h.no b hf hg)
theorem Lk.to {w w' : World} (h : Lk w F G pd pl K S com pend ov m V) {S' : St} (t : To F pd w w' S') (hn : S'.nb = S.nb) : ∃ F', Lk w' F' G pd pl K S' com pend ov m V ∧ Chg F w w' ∧ ∀ b, F' b → F b ∨ w.heap.size ≤ b := by
  have hl := h.lgTo t
  obtain ⟨F', d, c, f⟩ := t
  refine ⟨F', ⟨d, hl, fun b hf hg => ?_, hn.trans h.nb⟩, c, f⟩
  rcases f b hf with e | e
  · exact h.no b e hg
  · have := h.lg.lt b hg; omega

set_option maxHeartbeats 3200000 in
set_option maxRecDepth 100000 in
theorem record_any (f : Nat → List Int) (hs : List Nat) (va : Option Addr) (vc : Nat) (w : World) (h : Lk w F G pd pl K S com pend ov m V) (hv : Is w (.slice va hs.length vc) (hs.map fun n : Nat => (n : Int))) (hvF : ∀ a, va = some a → ¬ F a.block) (hcl : Clean S K f) (hoff : S.off = false)
    (hval : Valid K hs) (hm1 : ∀ n ∈ hs, (com n).isSome) (hm2 : ∀ n, n < K → n ∉ hs → com n = none) (hx : S.writes + 1000 < 1099511627776) :
    Calls Tryz.prog 73 #[.pointer (some ⟨pl, 0, none⟩), .slice va hs.length vc] w fun e w' => Ran F pd S 64 (fun S' => Holds S' K (ovr f com) hs) (fun S' => Lasts S' K f) w e w' := by
  have hl := hval.len
  have HV : Hid (Valid K hs ∧ (∀ n ∈ hs, (com n).isSome) ∧ (∀ n, n < K → n ∉ hs → com n = none)) := ⟨hval, hm1, hm2⟩
  have HC : Hid (Clean S K f ∧ S.off = false) := ⟨hcl, hoff⟩
  have HK : Hid (Lk w F G pd pl K S com pend ov m V) := h
  have HI : Hid (Is w (.slice va hs.length vc) (hs.map fun n : Nat => (n : Int))) := hv
  have HF : Hid (∀ a, va = some a → ¬ F a.block) := hvF
  have hwf := h.dk.wf
  have hnb := h.nb
  have hK := h.top
  clear h hv hvF hcl hval hm1 hm2
  by_cases h0 : hs.length = 0
  · have hs0 : hs = [] := List.eq_nil_of_length_eq_zero h0
    have HQ : Hid (Ran F pd S 64 (fun S' => Holds S' K (ovr f com) hs) (fun S' => Lasts S' K f) w (.returned (.int .i64 0)) w) := by
      refine ⟨0, S, rfl, To.refl HK.out.dk, .inl ⟨rfl, (Onw.refl hwf hoff).mono (by omega), ?_⟩⟩
      subst hs0
      refine Holds.ext HC.out.1 (fun n hn => ?_)
      exact (ovr_none (HV.out.2.2 n hn (by simp))).symm
    have k0 : ((hs.length : Nat) : Int) = 0 := by omega
    clear hwf hnb
    go_enter Tryz.func73, Tryz.ntmps73
    go_wp2
    go_ret
    exact HQ.out
  · obtain ⟨xs, hxs⟩ : ∃ xs, (hs.map fun n => (com n).getD []) = xs := ⟨_, rfl⟩
    have HX : Hid (∀ j n, hs[j]? = some n → ∃ b, com n = some b ∧ xs.getD j [] = b ∧ b.length = 512) := by
      intro j n hj
      obtain ⟨b, hb⟩ := Option.isSome_iff_exists.1 (HV.out.2.1 n (List.mem_of_getElem? hj))
      refine ⟨b, hb, ?_, (HK.out.lg.mb.row n b hb).2.1⟩
      rw [← hxs]
      simp [List.getD, hj, hb]
    have k0 : (((hs.length : Nat) : Int) == 0) = false := by rw [beq_eq_false_iff_ne]; omega
    have HT0 : Hid (To F pd w w S ∧ Cop S S xs 0) := ⟨To.refl HK.out.dk, Cop.start hwf hoff HC.out.1.calm xs⟩
    clear hxs hwf hoff
    go_enter Tryz.func73, Tryz.ntmps73
    go_wp2
    go_loopw [5, 6, 7, 14] (fun _ _ _ x wr => ∃ i Si, i ≤ hs.length ∧ x = .int .i64 (i : Int) ∧ Hid (To F pd w wr Si ∧ Cop S Si xs i)) (fun _ _ _ x _ => hs.length - (intOf x).toNat)
    case atStart => exact ⟨0, S, Nat.zero_le _, rfl, HT0⟩
    case round =>
      obtain ⟨i, Si, hile, rfl, HR⟩ := hrel
      clear HT0
      have hlg := HK.out.lgTo HR.out.1
      have c0 := hlg.c0
      have c1 := hlg.c1
      obtain ⟨Fi, di, ci, fi⟩ := HR.out.1
      have hon := HR.out.2.on
      have hoffi := hon.off
      have hwri := hon.wr
      have hnbi : Si.nb = K + 65 := hon.nb.trans hnb
      have HD : Hid (Dk wr Fi pd Si ∧ Chg F w wr ∧ ∀ b, Fi b → F b ∨ w.heap.size ≤ b) := ⟨di, ci, fi⟩
      have his : Is wr (.slice va hs.length vc) (hs.map fun n : Nat => (n : Int)) := HI.out.kept ci (fun g hg => by
        cases va with
        | none => cases hg
        | some a =>
          have e : g = a.block := by cases hg; rfl
          rw [e]; exact HF.out a rfl)
      by_cases hlt : i < hs.length
      · obtain ⟨n, hn⟩ : ∃ n, hs[i]? = some n := ⟨hs[i], List.getElem?_eq_getElem hlt⟩
        obtain ⟨bb, off, hva, hcs⟩ := his.nth (j := i) (by simpa using hlt)
        have hc := hcs i (by simpa using hlt)
        have hg : (hs.map fun n : Nat => (n : Int)).getD i 0 = (n : Int) := by simp [List.getD, hn]
        rw [hg] at hc
        obtain ⟨b, hb, hxb, hbl⟩ := HX.out i n hn
        obtain ⟨g, c, _, hgG, lk, hbs⟩ := hlg.lookB hK hb
        have lkd : (Instr.lookup 81 (.map (some m)) (.int .i64 (n : Int)) false).run Tryz.prog wr.drew = .ok (.slice (some ⟨g, 0, none⟩) 512 c) wr.drew := by
          obtain ⟨g', c', _, _, lk', _⟩ := (hlg.kept (Chg.drew (fun _ => False) wr) (fun _ _ h => h)).lookB hK hb
          have := (hlg.mb.row n b hb)
          simp_all
        have hki : (i : Int) < (hs.length : Int) := by omega
        have wr1 : IntKind.i64.wrap (1 + (i : Int)) = 1 + (i : Int) := by rw [IntKind.wrap_i64]; omega
        have WR0 := write_any Fi pd Si ((1 + i : Nat) : Int) (.slice (some ⟨g, 0, none⟩) 512 c) b wr.drew (di.kept (Chg.drew (fun _ => False) wr) (fun _ _ h => h)) (hbs.kept (Chg.drew (fun _ => False) wr) (fun _ _ _ _ _ h => h)) (fun g' hg' hf => by
          have e := own_at hg'
          subst e
          rcases fi _ hf with h | h
          · exact HK.out.no _ h hgG
          · have := HK.out.lg.lt _ hgG; omega) (by omega)
        have WC := St.write_cases (S := Si) (n := 1 + i) (b := b) hoffi (by omega) hbl
        obtain ⟨E, hE⟩ : ∃ E, Si.writeE ((1 + i : Nat) : Int) b = E := ⟨_, rfl⟩
        obtain ⟨S2, hS2⟩ : ∃ S2, Si.write ((1 + i : Nat) : Int) b = S2 := ⟨_, rfl⟩
        rw [hE, hS2] at WR0 WC
        have WR : Hid (Calls Tryz.prog 55 #[.pointer (some ⟨pd, 0, none⟩), .int .i64 (1 + (i : Int)), .slice (some ⟨g, 0, none⟩) 512 c] wr.drew fun e w' => e = .returned (.int .i64 E) ∧ w'.cell? ⟨pl, 0, none⟩ = some (.pointer (some ⟨pd, 0, none⟩)) ∧ w'.cell? ⟨pl, 1, none⟩ = some (.map (some m)) ∧ (Instr.lookup 81 (.map (some m)) (.int .i64 (n : Int)) false).run Tryz.prog w' = .ok (.slice (some ⟨g, 0, none⟩) 512 c) w' ∧ Hid (To F pd w w' S2)) := by
          have e1 : (1 : Int) + (i : Int) = ((1 + i : Nat) : Int) := by omega
          rw [e1]
          refine WR0.mono ?_
          rintro e w' ⟨rfl, t⟩
          have t2 : To F pd w w' S2 := To.trans (ci.trans (Chg.drew F wr) (fun _ _ h => h)) fi t
          have hl2 := HK.out.lgTo t2
          obtain ⟨g', c', e', _, lk', _⟩ := hl2.lookB hK hb
          refine ⟨rfl, hl2.c0, hl2.c1, ?_, t2⟩
          have e'' := (hlg.lookB hK hb)
          obtain ⟨g2, c2, e2, _, lk2, _⟩ := e''
          have : Value.slice (some ⟨g', 0, none⟩) 512 c' = Value.slice (some ⟨g, 0, none⟩) 512 c := by
            rw [lk2] at lk
            injection lk with h1 h2
            rw [← h1, ← e', ← e2]
          rw [← this]; exact lk'
        have HN : Hid (hs[i]? = some n ∧ xs.getD i [] = b ∧ b.length = 512 ∧ Si.nb = K + 65) := ⟨hn, hxb, hbl, hnbi⟩
        have HWC : Hid ((E = 0 ∧ S2 = Si.pushed (1 + i) b ∧ Si.arm ≠ 1) ∨ (E = 6 ∧ S2 = Si.cut Si.picks ∧ Si.arm = 1)) := WC
        subst hva
        clear his hcs hg hn hxb hbl hb hgG hbs WR0 WC hE hS2 hlg di ci fi hon hoffi hnbi hwri HD
        go_wp2_with fail
        go_region_held (fun w' => w'.cell? ⟨pl, 0, none⟩ = some (.pointer (some ⟨pd, 0, none⟩)) ∧ w'.cell? ⟨pl, 1, none⟩ = some (.map (some m)) ∧ (Instr.lookup 81 (.map (some m)) (.int .i64 (n : Int)) false).run Tryz.prog w' = .ok (.slice (some ⟨g, 0, none⟩) 512 c) w')
          (first | assumption | exact ⟨c0, c1, lk⟩ | exact ⟨c0, c1, lkd⟩ | exact ⟨q0, q1, q2⟩)
          (first | (go_at_call 55; refine WR.out.mono ?_; clear WR; rintro e w2 ⟨rfl, q0, q1, q2, HT⟩))
        all_goals
          clear lk lkd c0 c1 hc wr1
          rcases HWC.out with ⟨hE, hS2, hA⟩ | ⟨hE, hS2, hA⟩
          · subst hE
            have HC2 : Hid (To F pd w w2 S2 ∧ Cop S S2 xs (i + 1)) := by
              refine ⟨HT.out, ?_⟩
              obtain ⟨n1, n2, n3, n4⟩ := HN.out
              rw [hS2, ← n2]
              exact HR.out.2.push (by omega) (by omega) (by rw [n2]; exact n3)
            clear hS2 hA HWC HR HT q0 q1 q2
            go_wp2
            go_roundw
            case rel => exact ⟨i + 1, S2, by omega, by go_num, HC2⟩
            case measure => simp [intOf]; omega
          · subst hE
            have HQ : Hid (Ran F pd S 64 (fun S' => Holds S' K (ovr f com) hs) (fun S' => Lasts S' K f) w (.returned (.int .i64 6)) w2) := by
              have hh := HR.out.2.cut HC.out.1 hA Si.picks
              refine ⟨6, S2, rfl, HT.out, .inr ⟨rfl, ?_, ?_⟩⟩
              · rw [hS2]; exact hh.1.mono (by omega)
              · rw [hS2]; exact hh.2
            clear hS2 hA HWC HR HT q0 q1 q2
            go_wp2
            go_ret
            exact HQ.out
      · have hie : i = hs.length := by omega
        subst hie
        have hki : ¬ ((hs.length : Int) < (hs.length : Int)) := by omega
        have SY : Hid (Calls Tryz.prog 56 #[.pointer (some ⟨pd, 0, none⟩)] wr fun e w' => e = .returned (.int .i64 0) ∧ To Fi pd wr w' Si.synced) := by
          have h1 := sync_any Fi pd Si wr di (by omega)
          rw [show Si.sync = Si.synced by unfold St.sync; rw [if_neg (by simp [hoffi])], show Si.syncE = 0 by unfold St.syncE; rw [if_neg (by simp [hoffi])]] at h1
          exact h1
        have HN : Hid (Si.nb = K + 65 ∧ Si.writes ≤ S.writes + hs.length ∧ Si.off = false) := ⟨hnbi, hwri, hoffi⟩
        clear his hlg di ci fi hon hoffi hnbi hwri c1
        go_wp2_with fail
        refine SY.out.mono ?_
        rintro e w4 ⟨rfl, t4⟩
        have t4' := To.trans HD.out.2.1 HD.out.2.2 t4
        have hl4 := HK.out.lgTo t4'
        have c4 := hl4.c0
        have LH : Hid (Calls Tryz.prog 57 #[.slice va hs.length vc] w4.drew fun e w5 => ∃ ua uc, e = .returned (.slice ua 512 uc) ∧ w5.cell? ⟨pl, 0, none⟩ = some (.pointer (some ⟨pd, 0, none⟩)) ∧
            Hid (Calls Tryz.prog 53 #[.pointer (some ⟨pd, 0, none⟩), .int .i64 ((0 : Nat) : Int), .slice ua 512 uc] w5 fun e w6 => ∃ E, e = .returned (.int .i64 E) ∧ w6.cell? ⟨pl, 0, none⟩ = some (.pointer (some ⟨pd, 0, none⟩)) ∧ Hid (∃ S6, FixTo Si.synced 0 (headB hs) E S6 ∧ To F pd w w6 S6))) := by
          obtain ⟨F4, d4, c4', f4⟩ := t4'
          have his4 : Is w4.drew (.slice va hs.length vc) (hs.map fun n : Nat => (n : Int)) := HI.out.kept (c4'.trans (Chg.drew F w4) (fun _ _ h => h)) (fun g hg => by
            cases va with
            | none => cases hg
            | some a =>
              have e : g = a.block := by cases hg; rfl
              rw [e]; exact HF.out a rfl)
          refine (layHead_any (.slice va hs.length vc) hs w4.drew his4 hl).mono ?_
          rintro e w5 ⟨u, rfl, ho5, hc5⟩
          obtain ⟨ua, uc, rfl⟩ := cown_slice ho5
          have hcc : Chg (fun _ => False) w4 w5 := (Chg.drew (fun _ => False) w4).trans hc5 (fun _ _ h => h)
          have hl5 := hl4.kept hcc (fun _ _ h => h)
          refine ⟨ua, uc, rfl, hl5.c0, ?_⟩
          have hb5 : Bs w5 (.slice ua 512 uc) (headB hs) := Bs.ofOwns ho5
          refine (fix_any F4 pd Si.synced 0 _ (headB hs) w5 (d4.kept hcc (fun _ _ h => h)) hb5 (fun g hg hf => by
              have h1 := (ho5.lt g hg).1
              have h2 := d4.lt g hf
              have h3 : w4.drew.heap.size = w4.heap.size := rfl
              omega) (by show Si.writes + 1 < _; have := HN.out.2.1; omega) HN.out.2.2 (by show 0 < Si.nb; rw [HN.out.1]; omega) (headB_len hs)).mono ?_
          rintro e w6 ⟨E, S6, rfl, hfx, t6⟩
          have t6' : To F pd w w6 S6 := To.trans (c4'.trans hcc (fun _ _ h => h.elim)) f4 (by
            obtain ⟨F6, d6, c6, f6⟩ := t6
            exact ⟨F6, d6, c6, f6⟩)
          exact ⟨E, rfl, (HK.out.lgTo t6').c0, S6, hfx, t6'⟩
        clear SY t4 t4' hl4 HD c0
        go_wp2_with fail
        go_region_held (fun w' => w'.cell? ⟨pl, 0, none⟩ = some (.pointer (some ⟨pd, 0, none⟩)))
          (first | assumption | exact c4 | exact q5 | exact q6)
          (first | (go_at_call 57; refine LH.out.mono ?_; clear LH; rintro e w5 ⟨ua, uc, rfl, q5, FX⟩) | (go_at_call 53; refine FX.out.mono ?_; clear FX; rintro e w6 ⟨E, rfl, q6, HS⟩))
        all_goals
          have HQ : Hid (Ran F pd S 64 (fun S' => Holds S' K (ovr f com) hs) (fun S' => Lasts S' K f) w (.returned (.int .i64 E)) w6) := by
            obtain ⟨S6, hfx, t6⟩ := HS.out
            refine ⟨E, S6, rfl, t6, ?_⟩
            rcases hfx with ⟨hE, hS6, hA⟩ | ⟨hE, hS6, hA⟩
            · have hh := HR.out.2.head (g := ovr f com) HC.out.1 HV.out.1 (fun j n hj => by
                obtain ⟨b, hb, hxb, _⟩ := HX.out j n hj
                rw [hxb, ovr_some hb]) (fun n hn hm => ovr_none (HV.out.2.2 n hn hm))
              rw [← hS6] at hh
              exact .inl ⟨hE, hh.1.mono (by omega), hh.2⟩
            · have hh := HR.out.2.headCut HC.out.1 hA Si.synced.picks
              rw [← hS6] at hh
              exact .inr ⟨hE, hh.1.mono (by omega), hh.2⟩
          clear HS HR c4 q5 q6
          go_wp2
          go_ret
          exact HQ.out
end
end Go.Proofs.YtnnaemlipahamaaGreat
