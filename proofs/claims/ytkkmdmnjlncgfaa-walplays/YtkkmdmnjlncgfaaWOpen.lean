/-
  The contract of Open of package wal.
-/
import Derived.Test.YtkkmdmnjlncgfaaWHome
import Derived.Test.YtkkmdmnjlncgfaaWFormat
namespace Go.Proofs.Ytkkmdmnjlncgfaa
open Go.RowKit Go.Maps

/-- What Open leaves: the log, or the power has gone: what lasted lasts. -/
def OpTo (F : Nat → Prop) (p K : Nat) (f : Nat → List Int) (S : St) (w : World) (e : Ending) (w' : World) : Prop :=
  (∃ pl F' G m V S', e = .returned (.tuple #[.pointer (some ⟨pl, 0, none⟩), .int .i64 0]) ∧ Lk w' F' G p pl K S' (fun _ => none) 0 (.pointer none) m V ∧ Chg F w w' ∧ (∀ b, F' b → F b ∨ w.heap.size ≤ b) ∧ (∀ b, G b → w.heap.size ≤ b) ∧ Onw S S' 64 ∧ Clean S' K f) ∨
  (∃ S', e = .returned (.tuple #[.pointer none, .int .i64 6]) ∧ To F p w w' S' ∧ Gone S S' 64 ∧ Lasts S' K f)

theorem Holds.synced {S : St} {K : Nat} {f : Nat → List Int} {hs : List Nat} (h : Holds S K f hs) : Holds S.synced K f hs :=
  h.same (St.synced_wf h.wf) rfl (funext fun n => St.last_calm (h.calm n)) (fun _ => rfl)

set_option maxHeartbeats 3200000 in
set_option maxRecDepth 100000 in
theorem open_ok (F : Nat → Prop) (p K : Nat) (f : Nat → List Int) (S : St) (w : World) (h : Dk w F p S) (hla : Lasts S K f) (hK1 : 1 ≤ K) (hoff : S.off = false) (hx : S.writes + 2000 < 1099511627776) :
    Calls Try.prog 18 #[.pointer (some ⟨p, 0, none⟩)] w fun e w' => OpTo F p K f S w e w' := by
  obtain ⟨hs, hh⟩ := hla
  have hnb := hh.nb
  have HU : Hid (Calls Try.prog 34 #[.pointer (some ⟨p, 0, none⟩)] w fun e w' => e = .returned (.int .i64 0) ∧ w' = w) := usable_on F p S w h (by omega) hoff
  have HD : Hid (Dk w F p S) := h
  have HH : Hid (Holds S K f hs ∧ S.off = false) := ⟨hh, hoff⟩
  have htop := h.wf.top
  have hlen := hh.val.len
  clear h hh hoff
  go_enter Try.func18, Try.ntmps18
  go_wp2_with fail
  refine HU.out.mono ?_
  rintro e w0 ⟨rfl, rfl⟩
  clear HU
  go_wp2_with fail
  refine (over_any p K w0).mono ?_
  rintro e w1 ⟨pl, G, m, V, rfl, hl1, hg1, hc1⟩
  have H1 : Hid (Lk w1 F G p pl K S (fun _ => none) 0 (.pointer none) m V ∧ (∀ b, G b → w0.heap.size ≤ b) ∧ Chg (fun _ => False) w0 w1) :=
    ⟨⟨HD.out.kept hc1 (fun _ _ h => h), hl1, fun b hf hg => by have h1 := HD.out.lt b hf; have h2 := hg1 b hg; omega, hnb⟩, hg1, hc1⟩
  clear hl1 hg1 hc1
  go_wp2_with fail
  refine (readHead_any (headB hs) hs w1 H1.out.1 HH.out.2 (by omega) (by rw [St.last_calm (HH.out.1.calm 0)]; exact HH.out.1.hd) (headB_heads HH.out.1.val (by omega))).mono ?_
  rintro e w2 ⟨hc2, hr2⟩
  rcases hr2 with ⟨_, u, rfl, ho2⟩ | ⟨hne, _⟩
  rotate_left
  · exact absurd rfl hne
  obtain ⟨ua, uc, rfl⟩ := own_slice ho2
  have H2 : Hid (Lk w2 F G p pl K S (fun _ => none) 0 (.pointer none) m V ∧ (∀ b, G b → w0.heap.size ≤ b) ∧ Chg (fun _ => False) w0 w2 ∧ w2.ownsRow w1.heap.size 3 1 (.slice ua hs.length uc) hs.length (icells hs)) :=
    ⟨H1.out.1.kept hc2, H1.out.2.1, H1.out.2.2.trans hc2 (fun _ _ h => h), ho2⟩
  have HF2 : Hid (∀ a, ua = some a → ¬ F a.block) := fun a ha hf => by
    have h1 := (ho2.lt a.block (by rw [ha]; rfl)).1
    have h2 := H1.out.1.dk.lt _ hf
    omega
  clear hc2 ho2 H1
  have SY : Hid (Calls Try.prog 38 #[.pointer (some ⟨p, 0, none⟩)] w2 fun e w' => e = .returned (.int .i64 0) ∧ To F p w2 w' S.synced) := by
    have h1 := sync_any F p S w2 H2.out.1.dk (by omega)
    rw [show S.sync = S.synced by unfold St.sync; rw [if_neg (by simp [HH.out.2])], show S.syncE = 0 by unfold St.syncE; rw [if_neg (by simp [HH.out.2])]] at h1
    exact h1
  go_wp2_with fail
  refine SY.out.mono ?_
  rintro e w3 ⟨rfl, t3⟩
  clear SY
  have BH : Hid (Calls Try.prog 53 #[.pointer (some ⟨pl, 0, none⟩), .slice ua hs.length uc] w3 fun e w' => ∃ E, e = .returned (.int .i64 E) ∧
      Hid ((E = 0 ∧ OpTo F p K f S w0 (.returned (.tuple #[.pointer (some ⟨pl, 0, none⟩), .int .i64 0])) w') ∨ (E = 6 ∧ OpTo F p K f S w0 (.returned (.tuple #[.pointer none, .int .i64 6])) w'))) := by
    have hb3 : Is w3 (.slice ua hs.length uc) (hs.map fun n : Nat => (n : Int)) := by
      obtain ⟨F3, d3, c3, f3⟩ := t3
      exact (Is.ofI H2.out.2.2.2).kept c3 (fun g hg => by
        cases ua with
        | none => cases hg
        | some a =>
          have e : g = a.block := by cases hg; rfl
          rw [e]; exact HF2.out a rfl)
    obtain ⟨F3, hk3, c3, f3⟩ := H2.out.1.to t3 rfl
    have hc03 : Chg F w0 w3 := H2.out.2.2.1.trans' c3
    refine (home_any f hs ua uc w3 hk3 hb3 (fun a ha hf => ?_) HH.out.1.synced HH.out.2 (by show S.writes + 1000 < _; omega)).mono ?_
    · rcases f3 _ hf with h | h
      · exact HF2.out a ha h
      · have := (H2.out.2.2.2.lt a.block (by rw [ha]; rfl)).2; omega
    rintro e w4 ⟨E, S4, rfl, t4, hr⟩
    have hz := H2.out.2.2.1.size
    have o3 : Onw S S.synced 0 := (Onw.refl HH.out.1.wf HH.out.2).synced
    refine ⟨E, rfl, ?_⟩
    rcases hr with ⟨hE, hon, hcl⟩ | ⟨hE, hgo, hla⟩
    · refine .inl ⟨hE, .inl ?_⟩
      obtain ⟨F4, hk4, c4, f4⟩ := hk3.to t4 (hon.nb)
      refine ⟨pl, F4, G, m, V, S4, rfl, hk4, hc03.trans c4 (fun b hb hf => ?_), fun b hb => ?_, H2.out.2.1, (o3.trans hon).mono (by omega), hcl⟩
      · rcases f3 b hf with h | h
        · exact h
        · omega
      · rcases f4 b hb with h | h
        · rcases f3 b h with h | h
          · exact .inl h
          · exact .inr (by omega)
        · have := c3.size; exact .inr (by omega)
    · refine .inr ⟨hE, .inr ⟨S4, rfl, ?_, (o3.gone hgo).mono (by omega), hla⟩⟩
      exact To.trans hc03 (fun b hb => by
        rcases f3 b hb with h | h
        · exact .inl h
        · exact .inr (by omega)) t4
  clear t3 H2 HF2 HD
  go_wp2_with fail
  refine BH.out.mono ?_
  rintro e w4 ⟨E, rfl, HQ⟩
  clear BH
  rcases HQ.out with ⟨hE, hq⟩ | ⟨hE, hq⟩
  · subst hE
    have HQ' : Hid (OpTo F p K f S w0 (.returned (.tuple #[.pointer (some ⟨pl, 0, none⟩), .int .i64 0])) w4) := hq
    clear HQ hq
    go_wp2
    go_ret2
    exact HQ'.out
  · subst hE
    have HQ' : Hid (OpTo F p K f S w0 (.returned (.tuple #[.pointer none, .int .i64 6])) w4) := hq
    clear HQ hq
    go_wp2
    go_ret2
    exact HQ'.out

set_option maxHeartbeats 1600000 in
set_option maxRecDepth 100000 in
/-- A disk that has no head. -/
theorem open_none (F : Nat → Prop) (p K : Nat) (S : St) (w : World) (h : Dk w F p S) (hz : S.last 0 = zeros 512) (hnb : S.nb = K + 65) (hK1 : 1 ≤ K) (hoff : S.off = false) (hx : S.writes < 1099511627776) :
    Calls Try.prog 18 #[.pointer (some ⟨p, 0, none⟩)] w fun e w' => e = .returned (.tuple #[.pointer none, .int .i64 3]) ∧ Chg (fun _ => False) w w' := by
  have HU : Hid (Calls Try.prog 34 #[.pointer (some ⟨p, 0, none⟩)] w fun e w' => e = .returned (.int .i64 0) ∧ w' = w) := usable_on F p S w h (by omega) hoff
  have HD : Hid (Dk w F p S) := h
  have HH : Hid (S.last 0 = zeros 512 ∧ S.off = false) := ⟨hz, hoff⟩
  have htop := h.wf.top
  clear h hz hoff
  go_enter Try.func18, Try.ntmps18
  go_wp2_with fail
  refine HU.out.mono ?_
  rintro e w0 ⟨rfl, rfl⟩
  clear HU
  go_wp2_with fail
  refine (over_any p K w0).mono ?_
  rintro e w1 ⟨pl, G, m, V, rfl, hl1, hg1, hc1⟩
  have H1 : Hid (Lk w1 F G p pl K S (fun _ => none) 0 (.pointer none) m V ∧ Chg (fun _ => False) w0 w1) :=
    ⟨⟨HD.out.kept hc1 (fun _ _ h => h), hl1, fun b hf hg => by have h1 := HD.out.lt b hf; have h2 := hg1 b hg; omega, hnb⟩, hc1⟩
  clear hl1 hg1 hc1
  go_wp2_with fail
  refine (readHead_any (zeros 512) [] w1 H1.out.1 HH.out.2 hx HH.out.1 (zeros_heads K)).mono ?_
  rintro e w2 ⟨hc2, hr2⟩
  rcases hr2 with ⟨he, _⟩ | ⟨_, rfl⟩
  · exact absurd he zeros_ne
  have HQ : Hid (Chg (fun _ => False) w0 w2) := H1.out.2.trans hc2 (fun _ _ h => h)
  clear hc2 H1
  go_wp2
  go_ret2
  exact ⟨rfl, HQ.out⟩

set_option maxHeartbeats 800000 in
theorem open_small (F : Nat → Prop) (p : Nat) (S : St) (w : World) (h : Dk w F p S) (hnb : S.nb ≤ 65) : Calls Try.prog 18 #[.pointer (some ⟨p, 0, none⟩)] w fun e w' => e = .returned (.tuple #[.pointer none, .int .i64 1]) ∧ w' = w := by
  go_enter Try.func18, Try.ntmps18
  go_wp2_with fail
  refine (usable_small F p S w h hnb).mono ?_
  rintro e w0 ⟨rfl, rfl⟩
  clear h
  go_wp2
  go_ret2
  exact ⟨rfl, rfl⟩
set_option maxHeartbeats 800000 in
theorem format_small (F : Nat → Prop) (p : Nat) (S : St) (w : World) (h : Dk w F p S) (hnb : S.nb ≤ 65) : Calls Try.prog 11 #[.pointer (some ⟨p, 0, none⟩)] w fun e w' => e = .returned (.tuple #[.pointer none, .int .i64 1]) ∧ w' = w := by
  go_enter Try.func11, Try.ntmps11
  go_wp2_with fail
  refine (usable_small F p S w h hnb).mono ?_
  rintro e w0 ⟨rfl, rfl⟩
  clear h
  go_wp2
  go_ret2
  exact ⟨rfl, rfl⟩
end Go.Proofs.Ytkkmdmnjlncgfaa
