/-
  Contracts of Off of package block and of usable, fix, over, Blocks, has, Room, Pending of package wal.
-/
import Derived.Test.YthohgljlcfbpjaaGreatHead
namespace Go.Proofs.YthohgljlcfbpjaaGreat
open Go.RowKit Go.Maps

set_option maxHeartbeats 400000 in
theorem off_any (F : Nat → Prop) (p : Nat) (S : St) (w : World) (h : Dk w F p S) : Calls Tryz.prog 28 #[.pointer (some ⟨p, 0, none⟩)] w fun e w' => e = .returned (.bool S.off) ∧ w' = w := by
  obtain ⟨s, sc, m, pv, V, h⟩ := h
  have c3 := h.c3
  clear h
  go_enter Tryz.func28, Tryz.ntmps28
  go_wp2
  go_ret
  exact ⟨rfl, rfl⟩

set_option maxHeartbeats 400000 in
theorem usable_small (F : Nat → Prop) (p : Nat) (S : St) (w : World) (h : Dk w F p S) (hn : S.nb ≤ 65) : Calls Tryz.prog 55 #[.pointer (some ⟨p, 0, none⟩)] w fun e w' => e = .returned (.int .i64 1) ∧ w' = w := by
  have k : decide ((S.nb : Int) ≤ 65) = true := by simp; omega
  go_enter Tryz.func55, Tryz.ntmps55
  go_wp2_with fail
  refine (blocks_any F p S w h).mono ?_
  rintro e w1 ⟨rfl, rfl⟩
  clear h
  go_wp2
  go_ret
  exact ⟨rfl, rfl⟩
set_option maxHeartbeats 400000 in
theorem usable_on (F : Nat → Prop) (p : Nat) (S : St) (w : World) (h : Dk w F p S) (hn : 65 < S.nb) (ho : S.off = false) : Calls Tryz.prog 55 #[.pointer (some ⟨p, 0, none⟩)] w fun e w' => e = .returned (.int .i64 0) ∧ w' = w := by
  have k : decide ((S.nb : Int) ≤ 65) = false := by simp; omega
  have HD : Hid (Dk w F p S) := h
  clear h
  go_enter Tryz.func55, Tryz.ntmps55
  go_wp2_with fail
  refine (blocks_any F p S w HD.out).mono ?_
  rintro e w1 ⟨rfl, rfl⟩
  go_wp2_with fail
  refine (off_any F p S w1 HD.out).mono ?_
  rintro e w2 ⟨rfl, rfl⟩
  rw [ho]
  go_wp2
  go_ret
  exact ⟨rfl, rfl⟩

theorem Chg.trans' {S : Nat → Prop} {a b c : World} (h : Chg (fun _ => False) a b) (k : Chg S b c) : Chg S a c := (h.mono (fun _ _ h => h.elim)).trans k (fun _ _ h => h)
theorem own_at {g b off n c : Nat} (h : (Value.slice (some ⟨b, off, none⟩) n c).ownBlock = some g) : g = b := by cases h; rfl
/-- What fix leaves: written and synced, or the power has gone. -/
def FixTo (S : St) (n : Nat) (bs : List Int) (E : Int) (S' : St) : Prop := (E = 0 ∧ S' = (S.pushed n bs).synced ∧ S.arm ≠ 1) ∨ (E = 6 ∧ S' = S.cut S.picks ∧ S.arm = 1)
theorem To.then {F : Nat → Prop} {p : Nat} {w w1 w2 : World} {S1 S2 : St} (h1 : To F p w w1 S1) (h2 : ∀ F1, Dk w1 F1 p S1 → To F1 p w1 w2 S2) : To F p w w2 S2 := by
  obtain ⟨F1, d1, c1, f1⟩ := h1
  exact To.trans c1 f1 (h2 F1 d1)

set_option maxHeartbeats 800000 in
theorem fix_any (F : Nat → Prop) (p : Nat) (S : St) (n : Nat) (v : Value) (bs : List Int) (w : World) (h : Dk w F p S) (hb : Bs w v bs) (hv : ∀ g, v.ownBlock = some g → ¬ F g) (hx : S.writes + 1 < 1099511627776) (hoff : S.off = false) (hn : n < S.nb) (hl : bs.length = 512) :
    Calls Tryz.prog 56 #[.pointer (some ⟨p, 0, none⟩), .int .i64 (n : Int), v] w fun e w' => ∃ E S', e = .returned (.int .i64 E) ∧ FixTo S n bs E S' ∧ To F p w w' S' := by
  have HW := write_any F p S n v bs w h hb hv (by omega)
  have HC := St.write_cases (b := bs) hoff hn hl
  clear h hb hv
  rcases HC with ⟨e1, e2, e3⟩ | ⟨e1, e2, e3⟩
  · rw [e1, e2] at HW
    have HW' : Hid (Calls Tryz.prog 58 #[.pointer (some ⟨p, 0, none⟩), .int .i64 (n : Int), v] w fun e w' => e = .returned (.int .i64 0) ∧ To F p w w' (S.pushed n bs)) := HW
    have hs1 : (S.pushed n bs).sync = (S.pushed n bs).synced := by unfold St.sync; rw [if_neg (by show ¬ S.off = true; simp [hoff])]
    have hs2 : (S.pushed n bs).syncE = 0 := by unfold St.syncE; rw [if_neg (by show ¬ S.off = true; simp [hoff])]
    have hwr : (S.pushed n bs).writes = S.writes + 1 := rfl
    have H1 : Hid (FixTo S n bs 0 (S.pushed n bs).synced) := .inl ⟨rfl, rfl, e3⟩
    clear HW e1 e2 e3
    obtain ⟨S1, hS1⟩ : ∃ S1, S.pushed n bs = S1 := ⟨_, rfl⟩
    rw [hS1] at HW' hs1 hs2 H1 hwr
    clear hS1
    go_enter Tryz.func56, Tryz.ntmps56
    go_wp2_with fail
    refine HW'.out.mono ?_
    rintro e w1 ⟨rfl, F1, d1, c1, f1⟩
    clear HW'
    go_wp2_with fail
    refine (sync_any F1 p S1 w1 d1 (by omega)).mono ?_
    rintro e w2 ⟨rfl, t2⟩
    rw [hs2]
    rw [hs1] at t2
    have HT : Hid (To F p w w2 S1.synced) := To.trans c1 f1 t2
    clear d1 c1 f1 t2
    go_wp2
    go_ret
    exact ⟨0, _, rfl, H1.out, HT.out⟩
  · rw [e1, e2] at HW
    have HW' : Hid (Calls Tryz.prog 58 #[.pointer (some ⟨p, 0, none⟩), .int .i64 (n : Int), v] w fun e w' => e = .returned (.int .i64 6) ∧ To F p w w' (S.cut S.picks)) := HW
    have H1 : Hid (FixTo S n bs 6 (S.cut S.picks)) := .inr ⟨rfl, rfl, e3⟩
    clear HW e1 e2 e3
    go_enter Tryz.func56, Tryz.ntmps56
    go_wp2_with fail
    refine HW'.out.mono ?_
    rintro e w1 ⟨rfl, t1⟩
    have HT : Hid (To F p w w1 (S.cut S.picks)) := t1
    clear HW' t1
    go_wp2
    go_ret
    exact ⟨6, _, rfl, H1.out, HT.out⟩

set_option maxHeartbeats 400000 in
theorem over_any (p : Nat) (K : Nat) (w : World) : Calls Tryz.prog 61 #[.pointer (some ⟨p, 0, none⟩)] w fun e w' => ∃ pl G m V, e = .returned (.pointer (some ⟨pl, 0, none⟩)) ∧ LgAt w' G p pl K (fun _ => none) 0 (.pointer none) m V ∧ (∀ b, G b → w.heap.size ≤ b) ∧ Chg (fun _ => False) w w' := by
  have hmm := @run_makeMap Tryz.prog
  go_enter Tryz.func61, Tryz.ntmps61
  go_wp2
  go_ret
  refine ⟨_, (fun b => b = w.heap.size ∨ b = w.heap.size + 1), w.heap.size, fun _ => .slice none 0 0, rfl, ⟨?_, ⟨?_, fun n b hb => (by cases hb), .inl rfl⟩, .inr rfl, fun b hb => ?_⟩, fun b hb => (by rcases hb with e | e <;> omega), (Chg.alloc _ _ _).trans (Chg.alloc (fun _ => False) _ _) (fun _ _ h => h)⟩
  · have := heap_alloc_new (w.alloc (.map #[] 0)) (.cells #[.pointer (some ⟨p, 0, none⟩), .map (some w.heap.size), .int .i64 0, .pointer none] 85)
    rw [World.size_alloc] at this
    exact this
  · have hm := (MapIs.new w K).kept (w' := (w.alloc (.map #[] 0)).alloc (.cells #[.pointer (some ⟨p, 0, none⟩), .map (some w.heap.size), .int .i64 0, .pointer none] 85)) (Below.heap_alloc _ _ _ (by simp))
    have e : vf (fun _ => none) (fun _ => .slice none 0 0) = fun _ => none := by funext n; exact vf_none rfl
    rw [e]
    exact hm
  · simp
    rcases hb with e | e <;> omega

/-- A log over its disk, and what is where. -/
structure Lk (w : World) (F G : Nat → Prop) (pd pl K : Nat) (S : St) (com : Nat → Option (List Int)) (pend : Nat) (ov : Value) (m : Nat) (V : Nat → Value) : Prop where
  dk : Dk w F pd S
  lg : LgAt w G pd pl K com pend ov m V
  no : ∀ b, F b → ¬ G b
  nb : S.nb = K + 65
section
variable {F G : Nat → Prop} {pd pl K : Nat} {S : St} {com : Nat → Option (List Int)} {pend : Nat} {ov : Value} {m : Nat} {V : Nat → Value}
theorem Lk.kept {w w' : World} (h : Lk w F G pd pl K S com pend ov m V) (hc : Chg (fun _ => False) w w') : Lk w' F G pd pl K S com pend ov m V := ⟨h.dk.kept hc (fun _ _ h => h), h.lg.kept hc (fun _ _ h => h), h.no, h.nb⟩
theorem Lk.top {w : World} (h : Lk w F G pd pl K S com pend ov m V) : K ≤ 16384 := by have := h.dk.wf.top; have := h.nb; omega

set_option maxHeartbeats 400000 in
theorem lblocks_any (w : World) (h : Lk w F G pd pl K S com pend ov m V) : Calls Tryz.prog 129 #[.pointer (some ⟨pl, 0, none⟩)] w fun e w' => e = .returned (.int .i64 (K : Int)) ∧ w' = w := by
  have c0 := h.lg.c0
  have hn := h.nb
  have ht := h.top
  have HD : Hid (Dk w F pd S) := h.dk
  have e1 : (S.nb : Int) = K + 65 := by omega
  clear h
  go_enter Tryz.func129, Tryz.ntmps129
  go_wp2_with fail
  refine (blocks_any F pd S w HD.out).mono ?_
  rintro e w1 ⟨rfl, rfl⟩
  rw [e1]
  have e2 : (K : Int) + 65 - 65 = K := by omega
  go_wp2
  go_ret
  simp
  try omega

set_option maxHeartbeats 400000 in
theorem lhas_any (n : Int) (w : World) (h : Lk w F G pd pl K S com pend ov m V) : Calls Tryz.prog 111 #[.pointer (some ⟨pl, 0, none⟩), .int .i64 n] w fun e w' => e = .returned (.bool (decide (0 ≤ n ∧ n < K))) ∧ w' = w := by
  by_cases h0 : 0 ≤ n
  · go_enter Tryz.func111, Tryz.ntmps111
    go_wp2_with fail
    refine (lblocks_any w h).mono ?_
    rintro e w1 ⟨rfl, rfl⟩
    clear h
    go_wp2
    go_ret
    simp [h0]
  · have k0 : decide (0 ≤ n) = false := by simpa using h0
    clear h
    go_enter Tryz.func111, Tryz.ntmps111
    go_wp2
    go_ret
    simp

end
end Go.Proofs.YthohgljlcfbpjaaGreat
