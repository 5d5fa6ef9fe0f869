/-
  Set and Feed of the document's splitter.
-/
import Derived.Test.YtfbildadidfolaaLPut
namespace Go.Proofs.Ytfbildadidfolaa
open Go.RowKit

theorem put_any (N p : Nat) (w : World) (v : Value) (S : Sp) (c : Int) (h : Rf N p w v S) (hS : S.Wf) (hn : S.n ≤ 1099511627000) :
    Calls Try.prog 23 #[.pointer (some ⟨p, 0, none⟩), .int .u8 c] w fun e w' => ∃ v' l ok, e = .returned (.tuple #[Ln.v l, .bool ok]) ∧ PutR N p w v S c v' l ok w' := by
  by_cases hc : S.cr = true ∧ c = 10
  · obtain ⟨hc, rfl⟩ := hc
    exact (put_line N p w v S h hS hc).mono fun e w' h9 => h9.elim fun v' h2 => ⟨v', _, _, h2⟩
  · exact (put_more N p w v S c h hS hn hc).mono fun e w' h9 => h9.elim fun v' h2 => ⟨v', _, _, h2⟩

theorem infoM : ∃ i : TypeInfo, Try.prog.info? 56 = some i ∧ i.zero = some (.agg #[.string ⟨#[]⟩, .bool false]) ∧ i.size = 2 ∧ i.bytes = 24 := info_parts (by kernel_rfl)
theorem st_pos {S : Sp} (h : S.st = 0) : ¬ (0 : Int) < S.n ∧ S.cr = false := by
  have := st_zero h
  exact ⟨by omega, this.2⟩
theorem st_ne {S : Sp} (h : ¬ S.st = 0) (hc : S.cr = false) : (0 : Int) < S.n := by
  have h1 : ¬ S.n = 0 := by
    intro e
    apply h
    unfold Sp.st
    rw [if_neg (by simp [hc]), if_pos e]
  omega
set_option maxHeartbeats 800000 in
theorem set_any (N p : Nat) (w : World) (v : Value) (S : Sp) (m : Int) (h : Rf N p w v S) :
    Calls Try.prog 15 #[.pointer (some ⟨p, 0, none⟩), .int .i64 m] w fun e w' => e = .returned (.bool (mayB m && (S.st == 0))) ∧ Rf N p w' v (S.bound m) ∧ RT p w v w' v := by
  obtain ⟨h0, h1, h2, h3⟩ := h.c
  have f0 := h.fr 0
  obtain ⟨va, vc, rfl⟩ := own_sl h.own
  cases hm : mayB m with
  | false =>
    have HM : Hid (mayB m = false) := hm
    have HB : Hid (S.bound m = S) := S.bound_no m (by rw [hm]; rfl)
    clear hm
    go_enter Try.func15, Try.ntmps15
    go_wp2_with (go_at_call 10; refine (right_any m _).mono ?_; rintro e w1 ⟨rfl, rfl⟩; rw [HM.out])
    go_ret
    exact ⟨rfl, by rw [HB.out]; exact h, RT.refl _ _ _⟩
  | true =>
    have HM : Hid (mayB m = true) := hm
    by_cases hs : S.st = 0
    · obtain ⟨p1, p2⟩ := st_pos hs
      rw [p2] at h3
      have q1 : (S.st == 0) = true := by simpa using hs
      have HB : Hid (S.bound m = ⟨m.toNat, S.held, S.n, S.cr⟩) := S.bound_yes m (by rw [hm, q1]; rfl)
      obtain ⟨k, rfl, hk⟩ := mayB_nat hm
      have HL : Hid (Rf N p (w.setCell ⟨p, 0, none⟩ (.int .i64 k)) (.slice va S.held.length vc) (S.bound k)) := by
        rw [HB.out]
        exact h.setM k
      clear hm hs p2
      go_enter Try.func15, Try.ntmps15
      go_wp2_with (go_at_call 10; refine (right_any k _).mono ?_; rintro e w1 ⟨rfl, rfl⟩; rw [HM.out])
      go_ret
      exact ⟨by rw [q1]; rfl, HL.out, RT.cell p 0 _ _ _⟩
    · have q1 : (S.st == 0) = false := by simpa using hs
      have HB : Hid (S.bound m = S) := S.bound_no m (by rw [q1]; simp)
      cases hc : S.cr with
      | true =>
        rw [hc] at h3
        by_cases p1 : (0 : Int) < S.n
        · clear hm hc hs
          go_enter Try.func15, Try.ntmps15
          go_wp2_with (go_at_call 10; refine (right_any m _).mono ?_; rintro e w1 ⟨rfl, rfl⟩; rw [HM.out])
          go_ret
          exact ⟨by rw [q1]; rfl, by rw [HB.out]; exact h, RT.refl _ _ _⟩
        · clear hm hc hs
          go_enter Try.func15, Try.ntmps15
          go_wp2_with (go_at_call 10; refine (right_any m _).mono ?_; rintro e w1 ⟨rfl, rfl⟩; rw [HM.out])
          go_ret
          exact ⟨by rw [q1]; rfl, by rw [HB.out]; exact h, RT.refl _ _ _⟩
      | false =>
        rw [hc] at h3
        have p1 := st_ne hs hc
        clear hm hc hs
        go_enter Try.func15, Try.ntmps15
        go_wp2_with (go_at_call 10; refine (right_any m _).mono ?_; rintro e w1 ⟨rfl, rfl⟩; rw [HM.out])
        go_ret
        exact ⟨by rw [q1]; rfl, by rw [HB.out]; exact h, RT.refl _ _ _⟩
/-- What the document's Feed answers. -/
def RFeedR (N p : Nat) (w : World) (v : Value) (S : Sp) (bs : List Int) (v' o : Value) (w' : World) : Prop :=
  Rf N p w' v' (S.feed bs).1 ∧ RT p w v w' v' ∧ w'.ownsRow w.heap.size 56 2 o (S.feed bs).2.length (lcells (S.feed bs).2) ∧ ∀ k, o.ownBlock = some k → k ≠ p ∧ v'.ownBlock ≠ some k
theorem RFeedR.more {N p : Nat} {w w1 w2 : World} {v v' o : Value} {S : Sp} {bs : List Int} (h : RFeedR N p w v S bs v' o w1) (hc : Chg (fun _ => False) w1 w2) : RFeedR N p w v S bs v' o w2 :=
  ⟨h.1.more hc, h.2.1.more hc, own_kept h.2.2.1 hc (fun _ _ h => h), h.2.2.2⟩
theorem Sp.feed_one (S : Sp) (c : Int) : S.feed [c] = ((S.put c).1, (S.put c).2.toList) := by
  rw [Sp.feed]
  rcases e : S.put c with ⟨T, _ | l⟩ <;> rfl
theorem Sp.feed_step (S : Sp) (bs : List Int) (k : Nat) (hk : k < bs.length) : S.feed (bs.take (k + 1)) = (((S.feed (bs.take k)).1.put (bs.getD k 0)).1, (S.feed (bs.take k)).2 ++ ((S.feed (bs.take k)).1.put (bs.getD k 0)).2.toList) := by
  have e : bs.take (k + 1) = bs.take k ++ [bs.getD k 0] := by
    rw [List.take_succ_eq_append_getElem hk, List.getD_eq_getElem?_getD, List.getElem?_eq_getElem hk]
    rfl
  rw [e, S.feed_app, Sp.feed_one]

set_option maxHeartbeats 3200000 in
theorem rfeed_any (N p : Nat) (w : World) (v u : Value) (S : Sp) (bs : List Int) (hS : S.Wf) (h : Rf N p w v S) (hu : Bs w u bs) (hi : In (fun k => k ≠ p) u) (hn : S.n ≤ 4294967296) (hb : bs.length ≤ 4294967296) :
    Calls Try.prog 13 #[.pointer (some ⟨p, 0, none⟩), u] w fun e w' => ∃ v' o, e = .returned o ∧ RFeedR N p w v S bs v' o w' := by
  obtain ⟨iL, hiL, hzL, hsL, hbL⟩ := infoM
  have hp := h.lt
  obtain ⟨ua, uc, rfl, huc, _⟩ := hu.form
  go_enter Try.func13, Try.ntmps13
  go_wp2_with fail
  go_loopw [5, 6] (fun ov0 i wr => ∃ (ov : Value) (k : Nat) (v' : Value) (S' : Sp) (outs : List Ln), ov = ov0 ∧ i = .int .i64 k ∧ k ≤ bs.length ∧ Hid (S.feed (bs.take k) = (S', outs)) ∧ Rf N p wr v' S' ∧ Hid (RT p w v wr v') ∧
    wr.ownsRow w.heap.size 56 2 ov outs.length (lcells outs) ∧ Hid (∀ k, ov.ownBlock = some k → k ≠ p ∧ v'.ownBlock ≠ some k)) (fun _ i _ => bs.length - (intOf i).toNat)
  case atStart => exact ⟨_, 0, v, S, [], rfl, rfl, Nat.zero_le _, rfl, h, RT.refl _ _ _, World.ownsRow_nil _ _ _ _, (fun k h => by cases h)⟩
  case round =>
    obtain ⟨ov, k, v', S', outs, rfl, rfl, hk, hf, hL, hT, hO, hA⟩ := hrel
    obtain ⟨oa, oc, rfl⟩ := own_sl hO
    by_cases hlt : k < bs.length
    · have q1 : (k : Int) < bs.length := by omega
      have hB : Bs _ (.slice ua bs.length uc) bs := hu.stays hi hT.out.chg (fun _ h e => h e)
      obtain ⟨b, off, rfl, hc⟩ := hB.atC hlt
      have ck := hc k hlt
      obtain ⟨x, hx⟩ : ∃ x, Hid (bs.getD k 0 = x) := ⟨_, rfl⟩
      rw [hx.out] at ck
      have hs := S.feed_step bs k hlt
      rw [hf.out, hx.out] at hs
      have hW' : S'.Wf := by have := hS.feed (bs.take k); rw [hf.out] at this; exact this
      have hn' : S'.n ≤ 1099511627000 := by
        have := S.feed_n (bs.take k)
        rw [hf.out] at this
        simp at this
        omega
      have hol : outs.length ≤ k := by
        have := S.feed_len (bs.take k)
        rw [hf.out] at this
        simp at this
        omega
      obtain ⟨S2, hS2⟩ : ∃ S2, (S'.put x).1 = S2 := ⟨_, rfl⟩
      have HP0 := put_any N p _ v' S' x hL hW' hn'
      have HI : Hid (Bs w (.slice (some ⟨b, off, none⟩) bs.length uc) bs ∧ In (fun k => k ≠ p) (.slice (some ⟨b, off, none⟩) bs.length uc) ∧ S.Wf ∧ Rf N p w v S) := ⟨hu, hi, hS, h⟩
      have HO := hO
      cases hpx : (S'.put x).2 with
      | none =>
        have HS : Hid (S.feed (bs.take (k + 1)) = (S2, outs)) := by rw [hpx, hS2] at hs; show _ = _; simpa using hs
        have HQ : Hid (Calls Try.prog 23 #[.pointer (some ⟨p, 0, none⟩), .int .u8 x] wr fun e w9 => e = .returned (.tuple #[Ln.zero.v, .bool false]) ∧ ∃ v9, Hid (Rf N p w9 v9 S2 ∧ RT p w v w9 v9 ∧
            w9.ownsRow w.heap.size 56 2 (.slice oa outs.length oc) outs.length (lcells outs) ∧ ∀ k, (Value.slice oa outs.length oc).ownBlock = some k → k ≠ p ∧ v9.ownBlock ≠ some k)) := by
          refine HP0.mono fun e w9 h9 => ?_
          obtain ⟨v9, l, ok, he, h1, h2, h3⟩ := h9
          rw [hpx] at h3
          rcases h3 with ⟨_, rfl, rfl⟩ | ⟨h3, _⟩
          · exact ⟨he, v9, hS2 ▸ h1, hT.out.trans h2, own_kept hO h2.chg fun k hk h => (hA.out k hk).1 h, fun k hk => ⟨(hA.out k hk).1, fun e => (h2.new k e).elim (hA.out k hk).2 fun h => by have := (own_ge hO hk).2; omega⟩⟩
          · cases h3
        clear HP0 hs hpx hW' hn' hol hS2 hc hB hL hO hA hT hf HO hu hi hS h
        go_wp2_with (go_at_call 23; refine HQ.out.mono ?_; clear HQ; rintro e w9 ⟨rfl, v9, H9⟩)
        go_roundw
        case rel =>
          have hc : Chg (fun _ => False) w9 (w9.alloc (.cells #[.string ⟨#[]⟩, .bool false] 56)) := Chg.alloc _ _ _
          exact ⟨_, k + 1, v9, S2, outs, rfl, by go_num, hlt, HS, H9.out.1.more hc, H9.out.2.1.more hc, own_kept H9.out.2.2.1 hc (fun _ _ h => h), H9.out.2.2.2⟩
        case measure => simp [intOf]; omega
      | some l =>
        have HS : Hid (S.feed (bs.take (k + 1)) = (S2, outs ++ [l])) := by rw [hpx, hS2] at hs; exact hs
        have HQ : Hid (Calls Try.prog 23 #[.pointer (some ⟨p, 0, none⟩), .int .u8 x] wr fun e w9 => e = .returned (.tuple #[l.v, .bool true]) ∧ ∃ v9, Hid (Rf N p w9 v9 S2 ∧ RT p w v w9 v9 ∧
            w9.ownsRow w.heap.size 56 2 (.slice oa outs.length oc) outs.length (lcells outs) ∧ ∀ k, (Value.slice oa outs.length oc).ownBlock = some k → k ≠ p ∧ v9.ownBlock ≠ some k)) := by
          refine HP0.mono fun e w9 h9 => ?_
          obtain ⟨v9, l', ok, he, h1, h2, h3⟩ := h9
          rw [hpx] at h3
          rcases h3 with ⟨h3, _⟩ | ⟨h3, rfl⟩
          · cases h3
          · cases h3
            exact ⟨he, v9, hS2 ▸ h1, hT.out.trans h2, own_kept hO h2.chg fun k hk h => (hA.out k hk).1 h, fun k hk => ⟨(hA.out k hk).1, fun e => (h2.new k e).elim (hA.out k hk).2 fun h => by have := (own_ge hO hk).2; omega⟩⟩
        clear HP0 hs hpx hW' hn' hS2 hc hB hL hO hA hT hf HO hu hi hS h
        have HOL : Hid (outs.length ≤ k ∧ bs.length ≤ 4294967296) := ⟨hol, hb⟩
        clear hol
        go_wp2_with (first
          | (go_at_call 23; refine HQ.out.mono ?_; clear HQ; rintro e w9 ⟨rfl, v9, H9⟩)
          | (at_builtin
             have O2 : ((w9.alloc (.cells #[.string l.t, .bool l.long] 56)).alloc (.cells #[.string l.t, .bool l.long] 56)).ownsRow w.heap.size 56 2 (.slice oa outs.length oc) outs.length (lcells outs) :=
               own_kept (own_kept H9.out.2.2.1 (Chg.alloc (fun _ => False) _ _) (fun _ _ h => h)) (Chg.alloc (fun _ => False) _ _) (fun _ _ h => h)
             have U2 : Lns ((w9.alloc (.cells #[.string l.t, .bool l.long] 56)).alloc (.cells #[.string l.t, .bool l.long] 56)) (.slice (some ⟨w9.heap.size + 1, 0, none⟩) 1 1) [l] := by
               have h := Lns.one (w9.alloc (.cells #[.string l.t, .bool l.long] 56)) l 56 (0, 0)
               rwa [show (w9.alloc (.cells #[.string l.t, .bool l.long] 56)).heap.size = w9.heap.size + 1 from by simp] at h
             go_must (refine wpList_appL rfl (.tmp 25) (.tmp 27) 40 rfl w.heap.size 56 iL Try.underlying40 hiL hzL hsL hbL _ _ outs.length outs [l] rfl O2 rfl U2 ?c1 ?c2 ?next)))
        case c1 =>
          have := HOL.out
          simp
          omega
        case c2 =>
          have := H9.out.2.1.chg.size
          simp
          omega
        case next =>
          intro v3 w3 ho hg hn
          obtain ⟨L9, T9, O9, A9⟩ := H9.out
          have C3 : Chg (fun k => (Value.slice oa outs.length oc).ownBlock = some k) w9 w3 := (((Chg.alloc (fun _ => False) w9 _).trans (Chg.alloc (fun _ => False) _ _) (fun _ _ h => h)).mono (fun _ _ h => h.elim)).trans (Chg.ofGrown hg) (fun _ _ h => h)
          have hge : ∀ k, (Value.slice oa outs.length oc).ownBlock = some k → w.heap.size ≤ k := fun k hk => (own_ge O9 hk).1
          have HX : Hid (Rf N p w3 v9 S2 ∧ RT p w v w3 v9 ∧ w3.ownsRow w.heap.size 56 2 v3 (outs ++ [l]).length (lcells (outs ++ [l])) ∧ (∀ k, v3.ownBlock = some k → k ≠ p ∧ v9.ownBlock ≠ some k)) := by
            refine ⟨L9.kept C3 (fun h => (A9 p h).1 rfl) (fun k hk h => (A9 k h).2 hk), T9.freshS C3 hge, by rw [List.length_append]; exact ho, ?_⟩
            intro k hk
            rcases hn with e | e
            · exact A9 k (e ▸ hk)
            · rw [e] at hk
              injection hk with hk
              have : w9.heap.size + 1 + 1 = k := by simpa using hk
              refine ⟨fun h => ?_, fun h => ?_⟩
              · have := T9.chg.size
                omega
              · have := (own_ge L9.own h).2
                omega
          clear ho hg hn L9 T9 O9 A9 C3 hge H9
          go_wp2_with fail
          go_roundw
          case rel => exact ⟨_, k + 1, v9, S2, outs ++ [l], rfl, by go_num, hlt, HS, HX.out.1, HX.out.2.1, HX.out.2.2.1, HX.out.2.2.2⟩
          case measure => simp [intOf]; omega
    · have q1 : ¬ (k : Int) < bs.length := by omega
      have hk2 : bs.take k = bs := List.take_of_length_le (by omega)
      have HR : Hid (RFeedR N p w v S bs v' (.slice oa outs.length oc) wr) := by
        have e := hf.out
        rw [hk2] at e
        refine ⟨by rw [e]; exact hL, hT.out, by rw [e]; exact hO, hA.out⟩
      clear hu hi hS h hL hT hO hA hf hk2
      go_wp2_with fail
      go_ret
      exact ⟨_, _, rfl, HR.out⟩
end Go.Proofs.Ytfbildadidfolaa
