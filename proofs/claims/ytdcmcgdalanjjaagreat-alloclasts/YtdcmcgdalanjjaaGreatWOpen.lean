/-
  The contract of Open of package wal.
-/
import Derived.Test.YtdcmcgdalanjjaaGreatWHome
import Derived.Test.YtdcmcgdalanjjaaGreatWFormat
namespace Go.Proofs.YtdcmcgdalanjjaaGreat
open Go.RowKit Go.Maps

/-- What Open leaves: the log, or the power has gone: what lasted lasts. -/
def OpTo (F : Nat → Prop) (p K : Nat) (f : Nat → List Int) (S : St) (w : World) (e : Ending) (w' : World) : Prop :=
  (∃ pl F' G m V S', e = .returned (.tuple #[.pointer (some ⟨pl, 0, none⟩), .int .i64 0]) ∧ Lk w' F' G p pl K S' (fun _ => none) 0 (.pointer none) m V ∧ Chg F w w' ∧ (∀ b, F' b → F b ∨ w.heap.size ≤ b) ∧ (∀ b, G b → w.heap.size ≤ b) ∧ Onw S S' 64 ∧ Clean S' K f) ∨
  (∃ S', e = .returned (.tuple #[.pointer none, .int .i64 6]) ∧ To F p w w' S' ∧ Gone S S' 64 ∧ Lasts S' K f)

theorem Holds.synced {S : St} {K : Nat} {f : Nat → List Int} {hs : List Nat} (h : Holds S K f hs) : Holds S.synced K f hs :=
  h.same (St.synced_wf h.wf) rfl (funext fun n => St.last_calm (h.calm n)) (fun _ => rfl)

set_option maxHeartbeats 3200000 in
set_option maxRecDepth 100000 in
theorem open_ok (F : Nat → Prop) (p K : Nat) (f : Nat → List Int) (S : St) (w : World) (h : Dk w F p S) (hla : Lasts S K f) (hK1 : 1 ≤ K) (hoff : S.off = false) (hx : S.writes + 2000 < 1099511627776) :
    Calls Tryz.prog 30 #[.pointer (some ⟨p, 0, none⟩)] w fun e w' => OpTo F p K f S w e w' := by
  obtain ⟨hs, hh⟩ := hla
  have hnb := hh.nb
  have HU : Hid (Calls Tryz.prog 51 #[.pointer (some ⟨p, 0, none⟩)] w fun e w' => e = .returned (.int .i64 0) ∧ w' = w) := usable_on F p S w h (by omega) hoff
  have HD : Hid (Dk w F p S) := h
  have HH : Hid (Holds S K f hs ∧ S.off = false) := ⟨hh, hoff⟩
  have htop := h.wf.top
  have hlen := hh.val.len
  clear h hh hoff
  go_enter Tryz.func30, Tryz.ntmps30
  go_wp2_with fail
  refine HU.out.mono ?_
  rintro e w0 ⟨rfl, rfl⟩
  clear HU
  go_wp2_with fail
  refine (over_any p K w0).mono ?_
  rintro e w1 ⟨pl, G, m, V, rfl, hl1, hg1, hc1⟩
  have H1 : Hid (Lk w1 F G p pl K S (fun _ => none) 0 (.pointer none) m V ∧ (∀ b, G b → w0.heap.size ≤ b) ∧ Chg (fun _ => False) w0 w1) :=
    ⟨⟨HD.out.kept hc1 (fun _ _ h => h), hl1, fun b hf hg => by have h1 := HD.out.lt b hf; have h2 := hg1 b hg; omega, hnb⟩, hg1, hc1⟩
  clear hl1 hg1 hc1
  go_wp2_with fail
  refine (readHead_any (headB hs) hs w1 H1.out.1 HH.out.2 (by omega) (by rw [St.last_calm (HH.out.1.calm 0)]; exact HH.out.1.hd) (headB_heads HH.out.1.val (by omega))).mono ?_
  rintro e w2 ⟨hc2, hr2⟩
  rcases hr2 with ⟨_, u, rfl, ho2⟩ | ⟨hne, _⟩
  rotate_left
  · exact absurd rfl hne
  obtain ⟨ua, uc, rfl⟩ := own_slice ho2
  have H2 : Hid (Lk w2 F G p pl K S (fun _ => none) 0 (.pointer none) m V ∧ (∀ b, G b → w0.heap.size ≤ b) ∧ Chg (fun _ => False) w0 w2 ∧ w2.ownsRow w1.heap.size 3 1 (.slice ua hs.length uc) hs.length (icells hs)) :=
    ⟨H1.out.1.kept hc2, H1.out.2.1, H1.out.2.2.trans hc2 (fun _ _ h => h), ho2⟩
  have HF2 : Hid (∀ a, ua = some a → ¬ F a.block) := fun a ha hf => by
    have h1 := (ho2.lt a.block (by rw [ha]; rfl)).1
    have h2 := H1.out.1.dk.lt _ hf
    omega
  clear hc2 ho2 H1
  have SY : Hid (Calls Tryz.prog 54 #[.pointer (some ⟨p, 0, none⟩)] w2 fun e w' => e = .returned (.int .i64 0) ∧ To F p w2 w' S.synced) := by
    have h1 := sync_any F p S w2 H2.out.1.dk (by omega)
    rw [show S.sync = S.synced by unfold St.sync; rw [if_neg (by simp [HH.out.2])], show S.syncE = 0 by unfold St.syncE; rw [if_neg (by simp [HH.out.2])]] at h1
    exact h1
  go_wp2_with fail
  refine SY.out.mono ?_
  rintro e w3 ⟨rfl, t3⟩
  clear SY
  have BH : Hid (Calls Tryz.prog 60 #[.pointer (some ⟨pl, 0, none⟩), .slice ua hs.length uc] w3 fun e w' => ∃ E, e = .returned (.int .i64 E) ∧
      Hid ((E = 0 ∧ OpTo F p K f S w0 (.returned (.tuple #[.pointer (some ⟨pl, 0, none⟩), .int .i64 0])) w') ∨ (E = 6 ∧ OpTo F p K f S w0 (.returned (.tuple #[.pointer none, .int .i64 6])) w'))) := by
    have hb3 : Is w3 (.slice ua hs.length uc) (hs.map fun n : Nat => (n : Int)) := by
      obtain ⟨F3, d3, c3, f3⟩ := t3
      exact (Is.ofI H2.out.2.2.2).kept c3 (fun g hg => by
        cases ua with
        | none => cases hg
        | some a =>
          have e : g = a.block := by cases hg; rfl
          rw [e]; exact HF2.out a rfl)
    obtain ⟨F3, hk3, c3, f3⟩ := H2.out.1.to t3 rfl
    have hc03 : Chg F w0 w3 := H2.out.2.2.1.trans' c3
    refine (home_any f hs ua uc w3 hk3 hb3 (fun a ha hf => ?_) HH.out.1.synced HH.out.2 (by show S.writes + 1000 < _; omega)).mono ?_
    · rcases f3 _ hf with h | h
      · exact HF2.out a ha h
      · have := (H2.out.2.2.2.lt a.block (by rw [ha]; rfl)).2; omega
    rintro e w4 ⟨E, S4, rfl, t4, hr⟩
    have hz := H2.out.2.2.1.size
    have o3 : Onw S S.synced 0 := (Onw.refl HH.out.1.wf HH.out.2).synced
    refine ⟨E, rfl, ?_⟩
    rcases hr with ⟨hE, hon, hcl⟩ | ⟨hE, hgo, hla⟩
    · refine .inl ⟨hE, .inl ?_⟩
      obtain ⟨F4, hk4, c4, f4⟩ := hk3.to t4 (hon.nb)
      refine ⟨pl, F4, G, m, V, S4, rfl, hk4, hc03.trans c4 (fun b hb hf => ?_), fun b hb => ?_, H2.out.2.1, (o3.trans hon).mono (by omega), hcl⟩
      · rcases f3 b hf with h | h
        · exact h
        · omega
      · rcases f4 b hb with h | h
        · rcases f3 b h with h | h
          · exact .inl h
          · exact .inr (by omega)
        · have := c3.size; exact .inr (by omega)
    · refine .inr ⟨hE, .inr ⟨S4, rfl, ?_, (o3.gone hgo).mono (by omega), hla⟩⟩
      exact To.trans hc03 (fun b hb => by
        rcases f3 b hb with h | h
        · exact .inl h
        · exact .inr (by omega)) t4
  clear t3 H2 HF2 HD
  go_wp2_with fail
  refine BH.out.mono ?_
  rintro e w4 ⟨E, rfl, HQ⟩
  clear BH
  rcases HQ.out with ⟨hE, hq⟩ | ⟨hE, hq⟩
  · subst hE
    have HQ' : Hid (OpTo F p K f S w0 (.returned (.tuple #[.pointer (some ⟨pl, 0, none⟩), .int .i64 0])) w4) := hq
    clear HQ hq
    go_wp2
    go_ret2
    exact HQ'.out
  · subst hE
    have HQ' : Hid (OpTo F p K f S w0 (.returned (.tuple #[.pointer none, .int .i64 6])) w4) := hq
    clear HQ hq
    go_wp2
    go_ret2
    exact HQ'.out

set_option maxHeartbeats 1600000 in
set_option maxRecDepth 100000 in
/-- A disk that has no head. -/
theorem open_none (F : Nat → Prop) (p K : Nat) (S : St) (w : World) (h : Dk w F p S) (hz : S.last 0 = zeros 512) (hnb : S.nb = K + 65) (hK1 : 1 ≤ K) (hoff : S.off = false) (hx : S.writes < 1099511627776) :
    Calls Tryz.prog 30 #[.pointer (some ⟨p, 0, none⟩)] w fun e w' => e = .returned (.tuple #[.pointer none, .int .i64 3]) ∧ Chg (fun _ => False) w w' := by
  have HU : Hid (Calls Tryz.prog 51 #[.pointer (some ⟨p, 0, none⟩)] w fun e w' => e = .returned (.int .i64 0) ∧ w' = w) := usable_on F p S w h (by omega) hoff
  have HD : Hid (Dk w F p S) := h
  have HH : Hid (S.last 0 = zeros 512 ∧ S.off = false) := ⟨hz, hoff⟩
  have htop := h.wf.top
  clear h hz hoff
  go_enter Tryz.func30, Tryz.ntmps30
  go_wp2_with fail
  refine HU.out.mono ?_
  rintro e w0 ⟨rfl, rfl⟩
  clear HU
  go_wp2_with fail
  refine (over_any p K w0).mono ?_
  rintro e w1 ⟨pl, G, m, V, rfl, hl1, hg1, hc1⟩
  have H1 : Hid (Lk w1 F G p pl K S (fun _ => none) 0 (.pointer none) m V ∧ Chg (fun _ => False) w0 w1) :=
    ⟨⟨HD.out.kept hc1 (fun _ _ h => h), hl1, fun b hf hg => by have h1 := HD.out.lt b hf; have h2 := hg1 b hg; omega, hnb⟩, hc1⟩
  clear hl1 hg1 hc1
  go_wp2_with fail
  refine (readHead_any (zeros 512) [] w1 H1.out.1 HH.out.2 hx HH.out.1 (zeros_heads K)).mono ?_
  rintro e w2 ⟨hc2, hr2⟩
  rcases hr2 with ⟨he, _⟩ | ⟨_, rfl⟩
  · exact absurd he zeros_ne
  have HQ : Hid (Chg (fun _ => False) w0 w2) := H1.out.2.trans hc2 (fun _ _ h => h)
  clear hc2 H1
  go_wp2
  go_ret2
  exact ⟨rfl, HQ.out⟩

set_option maxHeartbeats 800000 in
theorem open_small (F : Nat → Prop) (p : Nat) (S : St) (w : World) (h : Dk w F p S) (hnb : S.nb ≤ 65) : Calls Tryz.prog 30 #[.pointer (some ⟨p, 0, none⟩)] w fun e w' => e = .returned (.tuple #[.pointer none, .int .i64 1]) ∧ w' = w := by
  go_enter Tryz.func30, Tryz.ntmps30
  go_wp2_with fail
  refine (usable_small F p S w h hnb).mono ?_
  rintro e w0 ⟨rfl, rfl⟩
  clear h
  go_wp2
  go_ret2
  exact ⟨rfl, rfl⟩
set_option maxHeartbeats 800000 in
theorem format_small (F : Nat → Prop) (p : Nat) (S : St) (w : World) (h : Dk w F p S) (hnb : S.nb ≤ 65) : Calls Tryz.prog 26 #[.pointer (some ⟨p, 0, none⟩)] w fun e w' => e = .returned (.tuple #[.pointer none, .int .i64 1]) ∧ w' = w := by
  go_enter Tryz.func26, Tryz.ntmps26
  go_wp2_with fail
  refine (usable_small F p S w h hnb).mono ?_
  rintro e w0 ⟨rfl, rfl⟩
  clear h
  go_wp2
  go_ret2
  exact ⟨rfl, rfl⟩
end Go.Proofs.YtdcmcgdalanjjaaGreat

namespace Go.Proofs.YtdcmcgdalanjjaaGreat
open Go.RowKit Go.Maps

theorem Chg.ofBelow {w w' : World} (h : Below w.heap.size w w') : Chg (fun _ => False) w w' := ⟨h.os, h.tape, h.output, h.size, fun k hk _ => h.block k hk⟩

/-- The blocks that were committed, by their numbers. -/
def ks (K : Nat) (com : Nat → Option (List Int)) : List Nat := (List.range K).filter fun n => (com n).isSome
theorem ks_vf (K : Nat) (com : Nat → Option (List Int)) (V : Nat → Value) : keysOf K (vf com V) = ks K com := by
  unfold keysOf ks
  refine List.filter_congr (fun n _ => ?_)
  unfold vf
  cases com n <;> rfl
theorem mem_ks {K n : Nat} {com : Nat → Option (List Int)} : n ∈ ks K com ↔ n < K ∧ (com n).isSome = true := by simp [ks, List.mem_filter]
theorem ks_valid {K : Nat} {com : Nat → Option (List Int)} (h : (ks K com).length ≤ 63) : Valid K (ks K com) :=
  ⟨h, fun _n hn => (mem_ks.1 hn).1, List.Pairwise.filter _ List.nodup_range⟩

/-- com without the first i of hs. -/
def less (com : Nat → Option (List Int)) (hs : List Nat) (i : Nat) (n : Nat) : Option (List Int) := if n ∈ hs.take i then none else com n
theorem less_zero (com : Nat → Option (List Int)) (hs : List Nat) : less com hs 0 = com := by funext n; simp [less]
theorem less_succ {com : Nat → Option (List Int)} {hs : List Nat} {i n : Nat} (h : hs[i]? = some n) : upd (less com hs i) n none = less com hs (i + 1) := by
  funext k
  have e : hs.take (i + 1) = hs.take i ++ [n] := by rw [List.take_add_one, h]; rfl
  unfold less
  rw [e]
  by_cases hk : k = n
  · subst hk; rw [upd_same]; simp
  · rw [upd_other _ _ hk]; simp [hk]
theorem less_end {K : Nat} {com : Nat → Option (List Int)} (h : ∀ n b, com n = some b → n < K) : less com (ks K com) (ks K com).length = fun _ => none := by
  funext n
  unfold less
  rw [List.take_length]
  split
  · rfl
  · rename_i hn
    cases hc : com n with
    | none => rfl
    | some b => exact absurd (mem_ks.2 ⟨h n b hc, by rw [hc]; rfl⟩) hn

section
variable {F G : Nat → Prop} {pd pl K : Nat} {S : St} {com : Nat → Option (List Int)} {pend : Nat} {ov : Value} {m : Nat} {V : Nat → Value}
/-- The log's map alone has changed. -/
theorem Lk.remap {w w' : World} {com' : Nat → Option (List Int)} (h : Lk w F G pd pl K S com pend ov m V) (hc : Chg (fun b => b = m) w w') (hm : MapIs w' m K (vf com' V)) (hs : ∀ n b, com' n = some b → com n = some b) : Lk w' F G pd pl K S com' pend ov m V := by
  obtain ⟨es, cl, hom⟩ := h.lg.mb.map.obj
  have hmG := h.lg.mb.fm
  have hmF : ∀ b, F b → ¬ b = m := fun b hf e => h.no b hf (e ▸ hmG)
  have hpm : ¬ pl = m := fun e => by rw [e] at h; have := h.lg.blk; rw [hom] at this; cases this
  refine ⟨h.dk.kept hc hmF, ⟨(hc.block pl h.lg.pl_lt hpm).trans h.lg.blk, ⟨hm, fun n b hb => ?_, hmG⟩, h.lg.fp, fun b hb => Nat.lt_of_lt_of_le (h.lg.lt b hb) hc.size⟩, h.no, h.nb⟩
  obtain ⟨h1, h2, g, c, e, ho, hg⟩ := h.lg.mb.row n b (hs n b hb)
  rw [e] at ho ⊢
  refine ⟨h1, h2, g, c, rfl, own_same ho (fun g' hg' => ?_), hg⟩
  have e' := own_at hg'
  subst e'
  refine hc.block _ (ho.lt _ rfl).2 (fun e2 => ?_)
  obtain ⟨cur, hcur⟩ := own_obj ho rfl
  rw [e2, hom] at hcur
  cases hcur
/-- The log's struct alone has changed. -/
theorem Lk.restruct {w : World} {pend' : Nat} {ov' : Value} (h : Lk w F G pd pl K S com pend ov m V) {w' : World} (hc : Chg (fun b => b = pl) w w') (hb : w'.heap[pl]? = some (.cells #[.pointer (some ⟨pd, 0, none⟩), .map (some m), .int .i64 (pend' : Int), ov'] 61 (0, 0))) : Lk w' F G pd pl K S com pend' ov' m V := by
  obtain ⟨es, cl, hom⟩ := h.lg.mb.map.obj
  have hmp : ¬ m = pl := fun e => by have := h.lg.blk; rw [← e, hom] at this; cases this
  refine ⟨h.dk.kept hc (fun b hf e => h.no b hf (e ▸ h.lg.fp)), ⟨hb, h.lg.mb.kept hc hmp (fun g hg ⟨cur, hcur⟩ e => ?_), h.lg.fp, fun b hb => Nat.lt_of_lt_of_le (h.lg.lt b hb) hc.size⟩, h.no, h.nb⟩
  rw [e, h.lg.blk] at hcur
  cases hcur

/-- What Sync leaves. -/
def SyTo (F G : Nat → Prop) (pd pl K : Nat) (S : St) (com : Nat → Option (List Int)) (pend : Nat) (ov : Value) (m : Nat) (V : Nat → Value) (f : Nat → List Int) (w : World) (e : Ending) (w' : World) : Prop :=
  (∃ F' S', e = .returned (.int .i64 0) ∧ Lk w' F' G pd pl K S' (fun _ => none) 0 ov m V ∧ Chg (fun b => F b ∨ b = pl ∨ b = m) w w' ∧ (∀ b, F' b → F b ∨ w.heap.size ≤ b) ∧ Onw S S' 128 ∧ Clean S' K (ovr f com)) ∨
  (∃ F' S', e = .returned (.int .i64 6) ∧ Lk w' F' G pd pl K S' com pend ov m V ∧ Chg F w w' ∧ (∀ b, F' b → F b ∨ w.heap.size ≤ b) ∧ Gone S S' 128 ∧ (Lasts S' K f ∨ Lasts S' K (ovr f com)))

set_option maxHeartbeats 3200000 in
set_option maxRecDepth 100000 in
theorem lsync_any (f : Nat → List Int) (w : World) (h : Lk w F G pd pl K S com pend ov m V) (hcl : Clean S K f) (hoff : S.off = false) (hk : (ks K com).length ≤ 63) (hx : S.writes + 2000 < 1099511627776) :
    Calls Tryz.prog 27 #[.pointer (some ⟨pl, 0, none⟩)] w fun e w' => SyTo F G pd pl K S com pend ov m V f w e w' := by
  have HK : Hid (Lk w F G pd pl K S com pend ov m V ∧ Clean S K f ∧ S.off = false) := ⟨h, hcl, hoff⟩
  have c0 := h.lg.c0
  have c1 := h.lg.c1
  have hK := h.top
  obtain ⟨hs, hhs⟩ : ∃ hs, ks K com = hs := ⟨_, rfl⟩
  rw [hhs] at hk
  have HS : Hid (ks K com = hs) := hhs
  have HV : Hid (Valid K hs) := by have := ks_valid (K := K) (com := com) (by rw [hhs]; exact hk); rw [hhs] at this; exact this
  clear h hcl hoff hhs
  go_enter Tryz.func27, Tryz.ntmps27
  go_wp2_with fail
  refine (off_any F pd S w HK.out.1.dk).mono ?_
  rintro e w0 ⟨rfl, rfl⟩
  rw [HK.out.2.2]
  go_wp2_with fail
  refine (keysB_any (some m) w0).mono ?_
  rintro e w1 ⟨rfl, hw1⟩
  have hk1 : w1.heap[w0.heap.size]? = some (.cells #[.map (some m)] 59 (0, 0)) := by rw [hw1]; exact heap_alloc_new w0 _
  have hc1 : Chg (fun _ => False) w0 w1 := by rw [hw1]; exact Chg.alloc _ _ _
  have hm1 := (HK.out.1.kept hc1).lg.mb.map
  clear hw1
  go_wp2_with fail
  refine (sortedB_any w0.heap.size m K (vf com V) w1 hm1 hK hk1).mono ?_
  rintro e w2 ⟨v, rfl, ho2, hb2⟩
  rw [ks_vf, HS.out] at ho2
  obtain ⟨va, vc, rfl⟩ := own_slice ho2
  have hc2 : Chg (fun _ => False) w0 w2 := hc1.trans (Chg.ofBelow hb2) (fun _ _ h => h)
  have H2 : Hid (Lk w2 F G pd pl K S com pend ov m V ∧ Chg (fun _ => False) w0 w2 ∧ w2.ownsRow w0.heap.size 3 1 (.slice va hs.length vc) hs.length (icells hs)) := ⟨HK.out.1.kept hc2, hc2, own_mono ho2 hc1.size⟩
  have HVF : Hid (∀ a, va = some a → w0.heap.size ≤ a.block ∧ a.block < w2.heap.size) := fun a ha => by
    have h1 := ho2.lt a.block (by rw [ha]; rfl)
    have h2 := hc1.size
    exact ⟨by omega, h1.2⟩
  have RE : Hid (Calls Tryz.prog 59 #[.pointer (some ⟨pl, 0, none⟩), .slice va hs.length vc] w2 fun e w' => Ran F pd S 64 (fun S' => Holds S' K (ovr f com) hs) (fun S' => Lasts S' K f) w2 e w') := by
    refine record_any f hs va vc w2 H2.out.1 (Is.ofI H2.out.2.2) (fun a ha hf => ?_) HK.out.2.1 HK.out.2.2 HV.out (fun n hn => ?_) (fun n hn hm => ?_) (by omega)
    · have h1 := HK.out.1.dk.lt _ hf
      have h2 := HVF.out a ha
      omega
    · rw [← HS.out] at hn; exact (mem_ks.1 hn).2
    · cases hc : com n with
      | none => rfl
      | some b => exact absurd (by rw [← HS.out]; exact mem_ks.2 ⟨hn, by rw [hc]; rfl⟩) hm
  clear ho2 hb2 hc1 hm1 hk1 c0 c1 hc2
  go_wp2_with fail
  refine RE.out.mono ?_
  rintro e w3 ⟨E, S3, rfl, t3, hr3⟩
  clear RE
  rcases hr3 with ⟨rfl, hon3, hh3⟩ | ⟨rfl, hgo3, hla3⟩
  rotate_left
  · have HQ : Hid (SyTo F G pd pl K S com pend ov m V f w0 (.returned (.int .i64 6)) w3) := by
      obtain ⟨F3, hk3, cc3, f3⟩ := H2.out.1.to t3 hgo3.nb
      exact .inr ⟨F3, S3, rfl, hk3, H2.out.2.1.trans' cc3, fun b hb => by
        rcases f3 b hb with h | h
        · exact .inl h
        · have := H2.out.2.1.size; exact .inr (by omega), hgo3.mono (by omega), .inl hla3⟩
    clear t3 hgo3 hla3 H2
    go_wp2
    go_ret
    exact HQ.out
  have hi3 : Is w3 (.slice va hs.length vc) (hs.map fun n : Nat => (n : Int)) := by
    obtain ⟨F3, d3, c3, f3⟩ := t3
    exact (Is.ofI H2.out.2.2).kept c3 (fun g hg => by
      cases va with
      | none => cases hg
      | some a =>
        have e : g = a.block := by cases hg; rfl
        rw [e]; intro hf
        have h1 := HK.out.1.dk.lt _ hf
        have h2 := HVF.out a rfl
        omega)
  obtain ⟨F3, hk3, cc3, f3⟩ := H2.out.1.to t3 hon3.nb
  have H3 : Hid (Lk w3 F3 G pd pl K S3 com pend ov m V ∧ Chg F w0 w3 ∧ (∀ b, F3 b → F b ∨ w2.heap.size ≤ b) ∧ Onw S S3 64) := ⟨hk3, H2.out.2.1.trans' cc3, f3, hon3⟩
  have BH : Hid (Calls Tryz.prog 60 #[.pointer (some ⟨pl, 0, none⟩), .slice va hs.length vc] w3 fun e w' => Ran F3 pd S3 64 (fun S' => Clean S' K (ovr f com)) (fun S' => Lasts S' K (ovr f com)) w3 e w') := by
    refine home_any (ovr f com) hs va vc w3 hk3 hi3 (fun a ha hf => ?_) hh3 hon3.off (by have := hon3.wr; omega)
    have h2 := HVF.out a ha
    rcases f3 _ hf with h | h
    · have h1 := HK.out.1.dk.lt _ h
      omega
    · omega
  have HI3 : Hid (Is w3 (.slice va hs.length vc) (hs.map fun n : Nat => (n : Int))) := hi3
  have hz2 := H2.out.2.1.size
  clear t3 hi3 hk3 cc3 f3 hon3 hh3 H2
  go_wp2_with fail
  refine BH.out.mono ?_
  rintro e w4 ⟨E, S4, rfl, t4, hr4⟩
  clear BH
  rcases hr4 with ⟨rfl, hon4, hh4⟩ | ⟨rfl, hgo4, hla4⟩
  rotate_left
  · have HQ : Hid (SyTo F G pd pl K S com pend ov m V f w0 (.returned (.int .i64 6)) w4) := by
      obtain ⟨F4, hk4, cc4, f4⟩ := H3.out.1.to t4 hgo4.nb
      have hz3 := H3.out.2.1.size
      refine .inr ⟨F4, S4, rfl, hk4, H3.out.2.1.trans cc4 (fun b hb hf => ?_), fun b hb => ?_, (H3.out.2.2.2.gone hgo4).mono (by omega), .inr hla4⟩
      · rcases H3.out.2.2.1 b hf with h | h
        · exact h
        · omega
      · rcases f4 b hb with h | h
        · rcases H3.out.2.2.1 b h with h | h
          · exact .inl h
          · exact .inr (by omega)
        · exact .inr (by omega)
    clear t4 hgo4 hla4 H3
    go_wp2
    go_ret
    exact HQ.out
  have hi4 : Is w4 (.slice va hs.length vc) (hs.map fun n : Nat => (n : Int)) := by
    obtain ⟨F4, d4, c4, f4⟩ := t4
    exact HI3.out.kept c4 (fun g hg => by
      cases va with
      | none => cases hg
      | some a =>
        have e : g = a.block := by cases hg; rfl
        rw [e]; intro hf
        have h2 := HVF.out a rfl
        rcases H3.out.2.2.1 _ hf with h | h
        · have h1 := HK.out.1.dk.lt _ h
          omega
        · omega)
  obtain ⟨F4, hk4, cc4, f4⟩ := H3.out.1.to t4 hon4.nb
  have H4 : Hid (Lk w4 F4 G pd pl K S4 com pend ov m V ∧ Chg F w0 w4 ∧ (∀ b, F4 b → F b ∨ w0.heap.size ≤ b) ∧ Onw S S4 128 ∧ Clean S4 K (ovr f com) ∧ Is w4 (.slice va hs.length vc) (hs.map fun n : Nat => (n : Int))) := by
    have hz3 := H3.out.2.1.size
    refine ⟨hk4, H3.out.2.1.trans cc4 (fun b hb hf => ?_), fun b hb => ?_, (H3.out.2.2.2.trans hon4).mono (by omega), hh4, hi4⟩
    · rcases H3.out.2.2.1 b hf with h | h
      · exact h
      · omega
    · rcases f4 b hb with h | h
      · rcases H3.out.2.2.1 b h with h | h
        · exact .inl h
        · exact .inr (by omega)
      · exact .inr (by omega)
  have HVM : Hid (∀ a, va = some a → a.block ≠ m) := fun a ha e => by
    have h1 := HVF.out a ha
    have h2 := HK.out.1.lg.lt m HK.out.1.lg.mb.fm
    omega
  clear t4 hi4 hk4 cc4 f4 hon4 hh4 H3 HI3
  go_wp2
  go_loopw [7, 33] (fun _ x wr => ∃ i, i ≤ hs.length ∧ x = .int .i64 (i : Int) ∧ Hid (Lk wr F4 G pd pl K S4 (less com hs i) pend ov m V ∧ Chg (fun b => b = m) w4 wr)) (fun _ x _ => hs.length - (intOf x).toNat)
  case atStart => exact ⟨0, Nat.zero_le _, rfl, by rw [less_zero]; exact H4.out.1, Chg.refl _ _⟩
  case round =>
    obtain ⟨i, hile, rfl, HR⟩ := hrel
    have c0 := HR.out.1.lg.c0
    have c1 := HR.out.1.lg.c1
    by_cases hlt : i < hs.length
    · obtain ⟨n, hn⟩ : ∃ n, hs[i]? = some n := ⟨hs[i], List.getElem?_eq_getElem hlt⟩
      have his : Is wr (.slice va hs.length vc) (hs.map fun n : Nat => (n : Int)) := H4.out.2.2.2.2.2.kept HR.out.2 (fun g hg => by
        cases va with
        | none => cases hg
        | some a =>
          have e : g = a.block := by cases hg; rfl
          rw [e]; exact HVM.out a rfl)
      obtain ⟨bb, off, hva, hcs⟩ := his.nth (j := i) (by simpa using hlt)
      have hc := hcs i (by simpa using hlt)
      have hg : (hs.map fun n : Nat => (n : Int)).getD i 0 = (n : Int) := by simp [List.getD, hn]
      rw [hg] at hc
      have hnK : n < K := HV.out.lt n (List.mem_of_getElem? hn)
      have hki : (i : Int) < (hs.length : Int) := by omega
      obtain ⟨w5, hrun, hm5, hg5, hz5, _⟩ := HR.out.1.lg.mb.map.deleteB hK hnK 0
      have hc5 := Chg.of_grown hg5
      have H5 : Hid (Lk w5 F4 G pd pl K S4 (less com hs (i + 1)) pend ov m V ∧ Chg (fun b => b = m) w4 w5) := by
        rw [← vf_del, less_succ hn] at hm5
        refine ⟨HR.out.1.remap hc5 hm5 (fun k b hb => ?_), HR.out.2.trans hc5 (fun _ _ h => h)⟩
        rw [← less_succ hn] at hb
        by_cases e : k = n
        · subst e; rw [upd_same] at hb; cases hb
        · rw [upd_other _ _ e] at hb; exact hb
      subst hva
      clear his hcs hg hn hm5 hg5 hz5 hc5 HR
      go_wp2_with (refine wpList_delete_eq _ rfl _ _ _ _ rfl _ _ rfl rfl _ _ hrun ?_)
      go_wp2
      go_roundw
      case rel => exact ⟨i + 1, by omega, by go_num, H5⟩
      case measure => simp [intOf]; omega
    · have hie : i = hs.length := by omega
      subst hie
      have hki : ¬ ((hs.length : Int) < (hs.length : Int)) := by omega
      have c2 := HR.out.1.lg.c2
      have fr2 := HR.out.1.lg.fr 2
      have HQ : Hid (SyTo F G pd pl K S com pend ov m V f w0 (.returned (.int .i64 0)) (wr.setCell ⟨pl, 2, none⟩ (.int .i64 0))) := by
        have e0 : less com hs hs.length = fun _ => none := by
          rw [← HS.out]; exact less_end (fun n b hb => (HK.out.1.lg.mb.row n b hb).1)
        have hl := HR.out.1
        rw [e0] at hl
        have hcs : Chg (fun b => b = pl) wr (wr.setCell ⟨pl, 2, none⟩ (.int .i64 0)) := Chg.setCell _ _ _ rfl
        have hb : (wr.setCell ⟨pl, 2, none⟩ (.int .i64 0)).heap[pl]? = some (.cells #[.pointer (some ⟨pd, 0, none⟩), .map (some m), .int .i64 ((0 : Nat) : Int), ov] 61 (0, 0)) := by
          have := heap_setCell_same wr pl 2 _ 61 (.int .i64 0) hl.lg.blk
          simpa using this
        refine .inl ⟨F4, S4, rfl, hl.restruct hcs hb, ?_, H4.out.2.2.1, H4.out.2.2.2.1, H4.out.2.2.2.2.1⟩
        exact ((H4.out.2.1.mono (fun _ _ h => .inl h)).trans HR.out.2 (fun _ _ h => .inr (.inr h))).trans hcs (fun _ _ h => .inr (.inl h))
      clear HR H4
      go_wp2
      go_ret
      exact HQ.out
end
end Go.Proofs.YtdcmcgdalanjjaaGreat
