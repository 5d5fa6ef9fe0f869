/-
  The contract of Sync of package block.
-/
import Derived.Test.YthohgljlcfbpjaaGreatDisk
namespace Go.Proofs.YthohgljlcfbpjaaGreat
open Go.RowKit Go.Maps

/-- Where g does not hold, the block is synced. -/
def mask (S : St) (g : Nat → Bool) : St := { S with syn := fun n => if g n then S.syn n else S.last n, wait := fun n => if g n then S.wait n else [] }
theorem mask_start {S : St} {g : Nat → Bool} (h : ∀ n, g n = false → S.wait n = []) : mask S g = S := by
  have e1 : (fun n => if g n then S.syn n else S.last n) = S.syn := by
    funext n
    cases hg : g n
    · simp [St.last, St.ver, h n hg]
    · simp
  have e2 : (fun n => if g n then S.wait n else []) = S.wait := by
    funext n
    cases hg : g n
    · simp [h n hg]
    · simp
  unfold mask
  rw [e1, e2]
theorem mask_end {S : St} {g : Nat → Bool} (h : ∀ n, g n = true → S.wait n = []) : mask S g = S.synced := by
  have e1 : (fun n => if g n then S.syn n else S.last n) = S.last := by
    funext n
    cases hg : g n
    · simp
    · simp [St.last, St.ver, h n hg]
  have e2 : (fun n => if g n then S.wait n else []) = fun _ => [] := by
    funext n
    cases hg : g n
    · simp
    · simp [h n hg]
  unfold mask St.synced
  rw [e1, e2]
theorem mask_step {S : St} {g : Nat → Bool} {n : Nat} (hg : g n = true) : (mask S g).settle n ((mask S g).wait n).length = mask S (upd g n false) := by
  have hw : (mask S g).wait n = S.wait n := by simp [mask, hg]
  have hv : (mask S g).ver n (S.wait n).length = S.last n := by
    unfold St.last St.ver
    rw [hw]
    split
    · simp [mask, hg]
    · rfl
  have e1 : upd (mask S g).syn n ((mask S g).ver n (S.wait n).length) = fun k => if upd g n false k then S.syn k else S.last k := by
    rw [hv]
    funext k
    by_cases e : k = n
    · subst e; simp [upd_same]
    · simp [upd_other _ _ e, mask]
  have e2 : upd (mask S g).wait n [] = fun k => if upd g n false k then S.wait k else [] := by
    funext k
    by_cases e : k = n
    · subst e; simp [upd_same]
    · simp [upd_other _ _ e, mask]
  rw [hw]
  unfold St.settle
  rw [e1, e2]
  rfl
theorem upd_upd {α : Type} (f : Nat → α) (n : Nat) (a b : α) : upd (upd f n a) n b = upd f n b := by
  funext k; unfold upd; split <;> rfl

/-- A step of the range, where the elements are slices. -/
theorem wpList_next_sl (w : World) {ops : Array Oper} {rest : List Oper} {o : Oper} {a : Act} {Q : Exit → Act → World → Prop} (hg : o.guard = none) (it : Operand) (hop : o.op = Op.next it false) (m r nb : Nat) (f : Nat → Option Value) (g : Nat → Bool) (cnt : Nat) (len : Nat → Nat)
    (hnb : nb ≤ 16384) (hit : a.eval it = .pointer (some ⟨r, 0, none⟩)) (h : Rng w m r nb f g cnt) (hform : ∀ n v, n < nb → f n = some v → ∃ a c, v = .slice a (len n) c)
    (hDone : (∀ n, n < nb → g n = false) → wpList Tryz.prog ops Q rest (a.put o.dst (.tuple #[.bool false])) w)
    (hMore : ∀ (n : Nat) (x : Option Addr) (c : Nat) (w' : World) (cnt' : Nat), n < nb → g n = true → f n = some (.slice x (len n) c) → Rng w' m r nb f (upd g n false) cnt' → cnt' < cnt → w.grownBy w' (some r) → w'.heap.size = w.heap.size →
      (Instr.entry (.pointer (some ⟨r, 0, none⟩))).run Tryz.prog w' = .ok (.tuple #[.int .i64 (n : Int), .slice x (len n) c]) w' → wpList Tryz.prog ops Q rest (a.put o.dst (.tuple #[.bool true, .int .i64 (n : Int), .slice x (len n) c])) w') :
    wpList Tryz.prog ops Q (o :: rest) a w :=
  wpList_next_is w hg it hop m r nb f g cnt hnb hit h hDone (fun n v w' cnt' h1 h2 h3 h4 h5 h6 h7 h8 => by
    obtain ⟨x, c, rfl⟩ := hform n v h1 h3
    exact hMore n x c w' cnt' h1 h2 h3 h4 h5 h6 h7 h8)

theorem DkAt.form {w : World} {F : Nat → Prop} {p : Nat} {S : St} {s sc m : Nat} {pv : Value} {V : Nat → Value} (h : DkAt w F p S s sc m pv V) : ∀ n v, n < S.nb → mf S V n = some v → ∃ a c, v = .slice a (S.wait n).length c := fun n v _ hv => by
  unfold mf at hv
  split at hv
  · cases hv
  · rename_i hne
    have hw : S.wait n ≠ [] := by simpa [List.isEmpty_iff] using hne
    cases hv
    obtain ⟨us, ho, _⟩ := h.row n hw
    rcases ho.2 with ⟨e, h0⟩ | ⟨go, co, cur, hV, _⟩
    · exact ⟨none, 0, by rw [e, h0]⟩
    · exact ⟨_, _, hV⟩

theorem Chg.of_grown {w w' : World} {r : Nat} (h : w.grownBy w' (some r)) : Chg (fun k => k = r) w w' := ⟨h.os, h.tape, h.output, h.size, fun k hk hn => h.block k hk (by simpa using hn)⟩
theorem Chg.of_none {w w' : World} (h : w.grownBy w' none) : Chg (fun _ => False) w w' := ⟨h.os, h.tape, h.output, h.size, fun k hk _ => h.block k hk (by simp)⟩

set_option maxHeartbeats 1600000 in
theorem sync_any (F : Nat → Prop) (p : Nat) (S : St) (w : World) (h : Dk w F p S) (hx : S.writes < 1099511627776) :
    Calls Tryz.prog 59 #[.pointer (some ⟨p, 0, none⟩)] w fun e w' => e = .returned (.int .i64 S.syncE) ∧ To F p w w' S.sync := by
  obtain ⟨s, sc, m, pv, V, h⟩ := h
  have c3 := h.c3
  by_cases hoff : S.off = true
  · have e1 : S.syncE = 6 := by simp [St.syncE, hoff]
    have e2 : S.sync = S := by simp [St.sync, hoff]
    rw [e1, e2]
    have HH : Hid (DkAt w F p S s sc m pv V) := h
    rw [hoff] at c3
    clear h e1 e2
    go_enter Tryz.func59, Tryz.ntmps59
    go_wp2
    go_ret
    exact ⟨rfl, To.refl ⟨s, sc, m, pv, V, HH.out⟩⟩
  · have e1 : S.syncE = 0 := by simp [St.syncE, hoff]
    have e2 : S.sync = S.synced := by simp [St.sync, hoff]
    rw [e1, e2]
    have hof : S.off = false := by simpa using hoff
    rw [hof] at c3
    have c1 := h.c1
    have hlt := h.lt
    have HH : Hid (DkAt w F p S s sc m pv V) := h
    have hmap := h.map
    have htop := h.wf.top
    clear h e1 e2 hoff
    go_enter Tryz.func59, Tryz.ntmps59
    go_wp2_with (at_range; refine wpList_range_is _ rfl (.tmp 12) rfl m S.nb (mf S V) rfl hmap ?_; intro w0 cnt0 hrg0 hg0 hs0)
    go_frame
    have hst : mask S (fun n => (mf S V n).isSome) = S := mask_start (fun n hn => by
      by_cases hw : S.wait n = []
      · exact hw
      · rw [mf_some hw] at hn; cases hn)
    have REL0 : Rng w0 m w.heap.size S.nb (mf (mask S fun n => (mf S V n).isSome) V) (fun n => (mf S V n).isSome) cnt0 ∧ DkAt w0 F p (mask S fun n => (mf S V n).isSome) s sc m pv V ∧ Chg F w w0 := by
      rw [hst]
      exact ⟨hrg0, HH.out.kept (Chg.of_none hg0) (fun _ _ h => h), (Chg.of_none hg0).mono (fun _ _ h => h.elim)⟩
    have HS : Hid (∀ n, S.nb ≤ n → S.wait n = []) := HH.out.wf.out
    clear HH hmap hrg0 hg0 hs0 hst c1 c3
    go_loopw [3, 4] (fun _ _ wr => ∃ g cnt, Rng wr m w.heap.size S.nb (mf (mask S g) V) g cnt ∧ DkAt wr F p (mask S g) s sc m pv V ∧ Chg F w wr) (fun _ _ wr => wr.rangeLeft m w.heap.size)
    case atStart => exact ⟨_, _, REL0⟩
    case round =>
      clear REL0
      obtain ⟨g, cnt, hrg, hdk, hch⟩ := hrel
      have hform := hdk.form
      go_wp2_with (first
        | (at_next; refine wpList_next_sl _ rfl (.tmp 13) rfl m w.heap.size S.nb (mf (mask S g) V) g cnt (fun n => ((mask S g).wait n).length) htop rfl hrg hform ?_ ?_)
        | go_in)
      · intro hdone
        clear hform
        go_wp2
        go_ret
        refine ⟨rfl, F, ⟨s, sc, m, pv, V, ?_⟩, hch, fun _ h => .inl h⟩
        rw [← mask_end (g := g) (fun n hn => by
          by_cases h : n < S.nb
          · rw [hdone n h] at hn; cases hn
          · exact HS.out n (by omega))]
        exact hdk
      · intro n x c w2 cnt2 hn hgn hf hrg2 hlt2 hg2 hs2 hen
        have hdk2 := hdk.kept (Chg.of_grown hg2) (fun b hb e => by have := hlt b hb; omega)
        have hch2 : Chg F w w2 := hch.trans (Chg.of_grown hg2) (fun i hi e => by omega)
        have hl := hrg.left
        clear hform hf hs2 hrg hdk hch hg2
        go_wp2_with fail
        refine (settle_any F p (mask S g) n ((mask S g).wait n).length _ hdk2 hn (Nat.le_refl _) hx).mono ?_
        rintro e w3 ⟨rfl, hdk3, hc3, hs3, hr3⟩
        obtain ⟨cnt3, hrg3, hle3⟩ := hr3 _ _ _ hrg2
        rw [mask_step hgn, upd_upd] at hrg3
        rw [mask_step hgn] at hdk3
        have hch3 : Chg F w w3 := hch2.trans hc3 (fun i _ e => by
          rcases e with rfl | rfl
          · exact hdk2.fs
          · exact hdk2.fm)
        clear hr3 hc3 hs3 hrg2 hdk2 hch2 hen
        go_wp2
        go_roundw
        case rel => exact ⟨_, cnt3, hrg3, hdk3, hch3⟩
        case measure => rw [hrg3.left, hl]; omega
end Go.Proofs.YthohgljlcfbpjaaGreat
