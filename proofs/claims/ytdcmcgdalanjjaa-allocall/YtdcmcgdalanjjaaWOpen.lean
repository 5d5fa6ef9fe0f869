/-
  The contract of Open of package wal.
-/
import Derived.Test.YtdcmcgdalanjjaaStrs
import Derived.Test.YtdcmcgdalanjjaaWFormat
namespace Go.Proofs.Ytdcmcgdalanjjaa
open Go.RowKit Go.Maps

/-- What Open leaves: the log, or the power has gone: what lasted lasts. -/
def OpTo (F : Nat → Prop) (p K : Nat) (f : Nat → List Int) (S : St) (w : World) (e : Ending) (w' : World) : Prop :=
  (∃ pl F' G m V S', e = .returned (.tuple #[.pointer (some ⟨pl, 0, none⟩), .int .i64 0]) ∧ Lk w' F' G p pl K S' (fun _ => none) 0 (.pointer none) m V ∧ Chg F w w' ∧ (∀ b, F' b → F b ∨ w.heap.size ≤ b) ∧ (∀ b, G b → w.heap.size ≤ b) ∧ Onw S S' 64 ∧ Clean S' K f) ∨
  (∃ S', e = .returned (.tuple #[.pointer none, .int .i64 6]) ∧ To F p w w' S' ∧ Gone S S' 64 ∧ Lasts S' K f)

theorem Holds.synced {S : St} {K : Nat} {f : Nat → List Int} {hs : List Nat} (h : Holds S K f hs) : Holds S.synced K f hs :=
  h.same (St.synced_wf h.wf) rfl (funext fun n => St.last_calm (h.calm n)) (fun _ => rfl)

set_option maxHeartbeats 800000 in
theorem format_small (F : Nat → Prop) (p : Nat) (S : St) (w : World) (h : Dk w F p S) (hnb : S.nb ≤ 65) : Calls Try.prog 13 #[.pointer (some ⟨p, 0, none⟩)] w fun e w' => e = .returned (.tuple #[.pointer none, .int .i64 1]) ∧ w' = w := by
  go_enter Try.func13, Try.ntmps13
  go_wp2_with fail
  refine (usable_small F p S w h hnb).mono ?_
  rintro e w0 ⟨rfl, rfl⟩
  clear h
  go_wp2
  go_ret2
  exact ⟨rfl, rfl⟩
end Go.Proofs.Ytdcmcgdalanjjaa

namespace Go.Proofs.Ytdcmcgdalanjjaa
open Go.RowKit Go.Maps

theorem Chg.ofBelow {w w' : World} (h : Below w.heap.size w w') : Chg (fun _ => False) w w' := ⟨h.os, h.tape, h.output, h.size, fun k hk _ => h.block k hk⟩

/-- The blocks that were committed, by their numbers. -/
def ks (K : Nat) (com : Nat → Option (List Int)) : List Nat := (List.range K).filter fun n => (com n).isSome
theorem ks_vf (K : Nat) (com : Nat → Option (List Int)) (V : Nat → Value) : keysOf K (vf com V) = ks K com := by
  unfold keysOf ks
  refine List.filter_congr (fun n _ => ?_)
  unfold vf
  cases com n <;> rfl
theorem mem_ks {K n : Nat} {com : Nat → Option (List Int)} : n ∈ ks K com ↔ n < K ∧ (com n).isSome = true := by simp [ks, List.mem_filter]
theorem ks_valid {K : Nat} {com : Nat → Option (List Int)} (h : (ks K com).length ≤ 63) : Valid K (ks K com) :=
  ⟨h, fun _n hn => (mem_ks.1 hn).1, List.Pairwise.filter _ List.nodup_range⟩

/-- com without the first i of hs. -/
def less (com : Nat → Option (List Int)) (hs : List Nat) (i : Nat) (n : Nat) : Option (List Int) := if n ∈ hs.take i then none else com n
theorem less_zero (com : Nat → Option (List Int)) (hs : List Nat) : less com hs 0 = com := by funext n; simp [less]
theorem less_succ {com : Nat → Option (List Int)} {hs : List Nat} {i n : Nat} (h : hs[i]? = some n) : upd (less com hs i) n none = less com hs (i + 1) := by
  funext k
  have e : hs.take (i + 1) = hs.take i ++ [n] := by rw [List.take_add_one, h]; rfl
  unfold less
  rw [e]
  by_cases hk : k = n
  · subst hk; rw [upd_same]; simp
  · rw [upd_other _ _ hk]; simp [hk]
theorem less_end {K : Nat} {com : Nat → Option (List Int)} (h : ∀ n b, com n = some b → n < K) : less com (ks K com) (ks K com).length = fun _ => none := by
  funext n
  unfold less
  rw [List.take_length]
  split
  · rfl
  · rename_i hn
    cases hc : com n with
    | none => rfl
    | some b => exact absurd (mem_ks.2 ⟨h n b hc, by rw [hc]; rfl⟩) hn

section
variable {F G : Nat → Prop} {pd pl K : Nat} {S : St} {com : Nat → Option (List Int)} {pend : Nat} {ov : Value} {m : Nat} {V : Nat → Value}
/-- The log's map alone has changed. -/
theorem Lk.remap {w w' : World} {com' : Nat → Option (List Int)} (h : Lk w F G pd pl K S com pend ov m V) (hc : Chg (fun b => b = m) w w') (hm : MapIs w' m K (vf com' V)) (hs : ∀ n b, com' n = some b → com n = some b) : Lk w' F G pd pl K S com' pend ov m V := by
  obtain ⟨es, cl, hom⟩ := h.lg.mb.map.obj
  have hmG := h.lg.mb.fm
  have hmF : ∀ b, F b → ¬ b = m := fun b hf e => h.no b hf (e ▸ hmG)
  have hpm : ¬ pl = m := fun e => by rw [e] at h; have := h.lg.blk; rw [hom] at this; cases this
  refine ⟨h.dk.kept hc hmF, ⟨(hc.block pl h.lg.pl_lt hpm).trans h.lg.blk, ⟨hm, fun n b hb => ?_, hmG⟩, h.lg.fp, fun b hb => Nat.lt_of_lt_of_le (h.lg.lt b hb) hc.size⟩, h.no, h.nb⟩
  obtain ⟨h1, h2, g, c, e, ho, hg⟩ := h.lg.mb.row n b (hs n b hb)
  rw [e] at ho ⊢
  refine ⟨h1, h2, g, c, rfl, own_same ho (fun g' hg' => ?_), hg⟩
  have e' := own_at hg'
  subst e'
  refine hc.block _ (ho.lt _ rfl).2 (fun e2 => ?_)
  obtain ⟨cur, hcur⟩ := own_obj ho rfl
  rw [e2, hom] at hcur
  cases hcur
/-- The log's struct alone has changed. -/
theorem Lk.restruct {w : World} {pend' : Nat} {ov' : Value} (h : Lk w F G pd pl K S com pend ov m V) {w' : World} (hc : Chg (fun b => b = pl) w w') (hb : w'.heap[pl]? = some (.cells #[.pointer (some ⟨pd, 0, none⟩), .map (some m), .int .i64 (pend' : Int), ov'] 72 (0, 0))) : Lk w' F G pd pl K S com pend' ov' m V := by
  obtain ⟨es, cl, hom⟩ := h.lg.mb.map.obj
  have hmp : ¬ m = pl := fun e => by have := h.lg.blk; rw [← e, hom] at this; cases this
  refine ⟨h.dk.kept hc (fun b hf e => h.no b hf (e ▸ h.lg.fp)), ⟨hb, h.lg.mb.kept hc hmp (fun g hg ⟨cur, hcur⟩ e => ?_), h.lg.fp, fun b hb => Nat.lt_of_lt_of_le (h.lg.lt b hb) hc.size⟩, h.no, h.nb⟩
  rw [e, h.lg.blk] at hcur
  cases hcur

/-- What Sync leaves. -/
def SyTo (F G : Nat → Prop) (pd pl K : Nat) (S : St) (com : Nat → Option (List Int)) (pend : Nat) (ov : Value) (m : Nat) (V : Nat → Value) (f : Nat → List Int) (w : World) (e : Ending) (w' : World) : Prop :=
  (∃ F' S', e = .returned (.int .i64 0) ∧ Lk w' F' G pd pl K S' (fun _ => none) 0 ov m V ∧ Chg (fun b => F b ∨ b = pl ∨ b = m) w w' ∧ (∀ b, F' b → F b ∨ w.heap.size ≤ b) ∧ Onw S S' 128 ∧ Clean S' K (ovr f com)) ∨
  (∃ F' S', e = .returned (.int .i64 6) ∧ Lk w' F' G pd pl K S' com pend ov m V ∧ Chg F w w' ∧ (∀ b, F' b → F b ∨ w.heap.size ≤ b) ∧ Gone S S' 128 ∧ (Lasts S' K f ∨ Lasts S' K (ovr f com)))

end
end Go.Proofs.Ytdcmcgdalanjjaa
