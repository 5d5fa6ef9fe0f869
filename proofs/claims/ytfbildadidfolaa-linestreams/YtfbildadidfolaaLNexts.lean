/-
  nexts of the laws on line.
-/
import Derived.Test.YtfbildadidfolaaLKnown
namespace Go.Proofs.Ytfbildadidfolaa
open Go.RowKit

theorem addr_add (b o k : Nat) : (⟨b, o, none⟩ : Addr).add k = ⟨b, o + k, none⟩ := by unfold Addr.add; split <;> simp_all
theorem run_strN {w : World} {u : Value} {xs : List Int} (h : Bs w u xs) (n : Nat) : (convert 31 9 u).run Try.prog (w.drewN n) = .ok (.string (strC xs)) (w.drewN n) := run_strC (h.kept (Chg.drewN (fun _ => False) w n) (fun _ _ _ _ _ h => h))

set_option maxHeartbeats 3200000 in
set_option maxRecDepth 100000 in
theorem nexts_any (N p : Nat) (w : World) (v u : Value) (S : Sp) (bs : List Int) (P : Nat → Prop) (hS : S.Wf) (h : LsS N p w v S) (hu : Bs w u bs) (hi : In P u)
    (hP : ∀ k, P k → k < w.heap.size ∧ k ≠ p ∧ v.ownBlock ≠ some k) (hb : bs.length ≤ 4096) :
    Calls Try.prog 11 #[.pointer (some ⟨p, 0, none⟩), u] w fun e w' => ∃ v' o, e = .returned (.tuple #[o, .bool true]) ∧ FeedR N p w v S bs v' o w' := by
  obtain ⟨iL, hiL, hzL, hsL, hbL⟩ := infoL
  have hp := h.lt
  go_enter Try.func11, Try.ntmps11
  go_wp2_with fail
  go_loopw [1, 6, 7] (fun sv0 ov0 i wr => ∃ (sv ov : Value) (bs' : List Int) (v' : Value) (S' : Sp) (outs : List Ln) (Q : Nat → Prop), sv = sv0 ∧ ov = ov0 ∧ i = .int .i64 (outs.length : Nat) ∧ Bs wr sv bs' ∧ In Q sv ∧ outs.length + bs'.length ≤ bs.length ∧ S'.Wf ∧ Hid ((S.feed bs).1 = (S'.feed bs').1 ∧ (S.feed bs).2 = outs ++ (S'.feed bs').2) ∧ LsS N p wr v' S' ∧ Hid (To p w v wr v') ∧
    wr.ownsRow w.heap.size 47 2 ov outs.length (lcells outs) ∧ Hid (∀ k, ov.ownBlock = some k → k ≠ p ∧ v'.ownBlock ≠ some k) ∧ Hid (∀ k, Q k → (k < wr.heap.size ∧ k ≠ p ∧ v'.ownBlock ≠ some k) ∧ ov.ownBlock ≠ some k)) (fun sv _ _ _ => lenOf sv)
  case atStart => exact ⟨_, _, bs, v, S, [], P, rfl, rfl, rfl, hu, hi, by simp, hS, ⟨rfl, rfl⟩, h, To.refl _ _ _, World.ownsRow_nil _ _ _ _, (fun k h => by cases h), fun k hk => ⟨hP k hk, fun e => by cases e⟩⟩
  case round =>
    clear hu hi hS h
    obtain ⟨sv, ov, bs', v', S', outs, Q, rfl, rfl, rfl, hB, hI, hle, hS', hn, hL, hT, hO, hA, hQ⟩ := hrel
    have hb' : bs'.length ≤ 4294967296 := by omega
    have hk : (outs.length : Int) ≤ 4096 := by omega
    obtain ⟨oa, oc, rfl⟩ := own_sl hO
    cases hnx : (S'.next bs').2 with
    | none =>
      have hf := S'.next_none bs' hnx
      have HT : Hid (Calls Try.prog 22 #[.pointer (some ⟨p, 0, none⟩), sv] wr fun e w9 => e = .returned (.tuple #[Ln.zero.v, .bool false, .slice none 0 0]) ∧ ∃ v9, Hid (FeedR N p w v S bs v9 (.slice oa outs.length oc) w9)) := by
        refine (next_any N p wr v' sv S' bs' Q hS' hL hB hI (fun k hk => (hQ.out k hk).1) hb').mono fun e w9 h9 => ?_
        obtain ⟨v9, l, ok, u9, he, hL9, hT9, hR⟩ := h9
        rw [hnx] at hR
        rcases hR with ⟨_, rfl, rfl, rfl⟩ | ⟨r, hr, _⟩
        · refine ⟨he, v9, ?_, hT.out.trans hT9, ?_, fun k hk => ⟨(hA.out k hk).1, fun e => (hT9.new k e).elim (hA.out k hk).2 fun h => by have := (own_ge hO hk).2; omega⟩⟩
          · rw [hn.out.1, hf]; exact hL9
          · rw [hn.out.2, hf, List.append_nil]
            exact own_kept hO hT9.chg fun k hk h => h.elim (fun e => (hA.out k hk).1 e) (hA.out k hk).2
        · cases hr
      have x1 := fun w => eqlL Ln.zero w
      clear hQ hB hI hS' hn hL hT hO hA hnx hf hP
      go_wp2_with (go_at_call 22; refine HT.out.mono ?_; clear HT; rintro e w9 ⟨rfl, v9, H9⟩)
      go_quiet (fail)
      go_wp2_with fail
      go_ret2
      exact ⟨v9, _, rfl, H9.out.more ((Chg.alloc (fun _ => False) w9 _).trans (Chg.drewN (fun _ => False) _ nq) (fun _ _ h => h))⟩
    | some lr =>
      obtain ⟨l, r⟩ := lr
      have hf := S'.next_some bs' hnx
      obtain ⟨hlt, kr, hkr0, hkr⟩ := S'.next_less bs' l r hnx
      have hkr2 : bs'.length = kr + r.length := by have := congrArg List.length hkr; rw [List.length_drop] at this; omega
      obtain ⟨S2, hS2⟩ : ∃ S2, (S'.next bs').1 = S2 := ⟨_, rfl⟩
      have hW2 : S2.Wf := hS2 ▸ hS'.next bs'
      rw [hS2] at hf
      have HN : Hid ((S.feed bs).1 = (S2.feed r).1 ∧ (S.feed bs).2 = (outs ++ [l]) ++ (S2.feed r).2) := by
        refine ⟨by rw [hn.out.1, hf], ?_⟩
        rw [hn.out.2, hf, List.append_assoc]
        rfl
      obtain ⟨sa, sc, rfl, hsc, _⟩ := hB.form
      obtain ⟨bb, bo, rfl, _⟩ := hB.atC (k := 0) (by omega)
      have HT : Hid (Calls Try.prog 22 #[.pointer (some ⟨p, 0, none⟩), .slice (some ⟨bb, bo, none⟩) bs'.length sc] wr fun e w9 => ∃ ua uc, e = .returned (.tuple #[l.v, .bool true, .slice ua r.length uc]) ∧ ∃ v9, Hid (Bs w9 (.slice (some ⟨bb, bo, none⟩) bs'.length sc) bs' ∧ w9.ownsRow wr.heap.size 5 1 (.slice ua r.length uc) r.length (bcells r) ∧ LsS N p w9 v9 S2 ∧ To p w v w9 v9 ∧
          w9.ownsRow w.heap.size 47 2 (.slice oa outs.length oc) outs.length (lcells outs) ∧ (∀ k, (Value.slice oa outs.length oc).ownBlock = some k → (k ≠ p ∧ v9.ownBlock ≠ some k) ∧ k < wr.heap.size) ∧ (∀ k, (Value.slice ua r.length uc).ownBlock = some k → k ≠ p ∧ v9.ownBlock ≠ some k) ∧ w.heap.size ≤ wr.heap.size)) := by
        refine (next_any N p wr v' _ S' bs' Q hS' hL hB hI (fun k hk => (hQ.out k hk).1) hb').mono fun e w9 h9 => ?_
        obtain ⟨v9, l', ok, u9, he, hL9, hT9, hR⟩ := h9
        rw [hnx] at hR
        rcases hR with ⟨hr, _⟩ | ⟨r', hr, rfl, hU9, hA9⟩
        · cases hr
        · cases hr
          obtain ⟨ua, uc, rfl⟩ := own_sl hU9
          exact ⟨ua, uc, he, v9, hB.stays hI hT9.chg (fun k hk h => h.elim (hQ.out k hk).1.2.1 (hQ.out k hk).1.2.2), hU9, hS2 ▸ hL9, hT.out.trans hT9, own_kept hO hT9.chg fun k hk h => h.elim (fun e => (hA.out k hk).1 e) (hA.out k hk).2,
            fun k hk => ⟨⟨(hA.out k hk).1, fun e => (hT9.new k e).elim (hA.out k hk).2 fun h => by have := (own_ge hO hk).2; omega⟩, (own_ge hO hk).2⟩, hA9, hT.out.chg.size⟩
      have HS : Hid (lenOf (.slice (some ⟨bb, bo, none⟩) bs'.length sc) = bs'.length) := rfl
      have HL : Hid (outs.length + bs'.length ≤ bs.length ∧ r.length < bs'.length ∧ bs.length ≤ 4096) := ⟨hle, hlt, hb⟩
      have HK : Hid (r = bs'.drop kr ∧ kr ≤ bs'.length ∧ bs'.length ≤ sc) := ⟨hkr, hkr0, hsc⟩
      have p1 : decide (bs'.length ≤ r.length) = false := by simp; omega
      have p2 : ¬ (bs'.length : Int) ≤ r.length := by omega
      have p6 : bs'.length ≤ 4096 := by omega
      have HW : Hid (bs'.length = kr + r.length) := hkr2
      have p3 : kr ≤ bs'.length := hkr0
      have p4 : kr ≤ 5000 := by omega
      have p5 : bs'.length ≤ sc := hsc
      clear hB hI hS' hn hL hT hO hA hnx hf hlt hS2 hle hb' hkr hkr0 hkr2 hQ hP
      go_wp2_with (go_at_call 22; refine HT.out.mono ?_; clear HT; rintro e w9 ⟨ua, uc, rfl, v9, H9⟩)
      have C1 : Chg (fun _ => False) w9 (w9.alloc (.cells #[.string l.t, .bool l.long] 47)) := Chg.alloc _ _ _
      have hx1 := fun n => run_strN ((H9.out.1.kept C1 (fun _ _ _ _ _ h => h)).rest HK.out.2.1) n
      have hx2 := fun n => run_strN ((Bs.ofOwns H9.out.2.1).kept C1 (fun _ _ _ _ _ h => h)) n
      rw [← HK.out.1] at hx1
      obtain ⟨t, ht⟩ : ∃ t, strC r = t := ⟨_, rfl⟩
      rw [ht] at hx1 hx2
      clear C1
      have hw : IntKind.i64.wrap ((bs'.length : Int) - r.length) = (kr : Int) := by rw [IntKind.wrap_i64]; have := HW.out; omega
      by_cases hc1 : sc = kr
      · subst hc1
        rw [if_pos rfl, show bs'.length - sc = 0 by omega, Nat.sub_self] at hx1
        go_quiet (fail)
        clear hx1 hx2 hw ht
        have C9 : Chg (fun _ => False) w9 ((w9.alloc (.cells #[.string l.t, .bool l.long] 47)).drewN nq) := (Chg.alloc (fun _ => False) w9 _).trans (Chg.drewN (fun _ => False) _ nq) (fun _ _ h => h)
        have B9 : Bx 47 ((w9.alloc (.cells #[.string l.t, .bool l.long] 47)).drewN nq) w9.heap.size l := heap_alloc_new w9 _
        obtain ⟨X, hX⟩ : ∃ X, (w9.alloc (.cells #[.string l.t, .bool l.long] 47)).drewN nq = X := ⟨_, rfl⟩
        rw [hX] at C9 B9 ⊢
        clear hX
        obtain ⟨g0, g1, _, _⟩ := B9.c
        have HX : Hid (X.ownsRow wr.heap.size 5 1 (.slice ua r.length uc) r.length (bcells r) ∧ LsS N p X v9 S2 ∧ To p w v X v9 ∧
          X.ownsRow w.heap.size 47 2 (.slice oa outs.length oc) outs.length (lcells outs) ∧ (∀ k, (Value.slice oa outs.length oc).ownBlock = some k → (k ≠ p ∧ v9.ownBlock ≠ some k) ∧ k < wr.heap.size) ∧ (∀ k, (Value.slice ua r.length uc).ownBlock = some k → k ≠ p ∧ v9.ownBlock ≠ some k) ∧ w.heap.size ≤ wr.heap.size) :=
          ⟨own_kept H9.out.2.1 C9 (fun _ _ h => h), H9.out.2.2.1.more C9, H9.out.2.2.2.1.more C9, own_kept H9.out.2.2.2.2.1 C9 (fun _ _ h => h), H9.out.2.2.2.2.2⟩
        clear C9 B9 H9
        go_wp2_with (at_builtin
                     have O2 : (X.alloc (.cells #[.string l.t, .bool l.long] 47)).ownsRow w.heap.size 47 2 (.slice oa outs.length oc) outs.length (lcells outs) :=
                       own_kept HX.out.2.2.2.1 (Chg.alloc (fun _ => False) _ _) (fun _ _ h => h)
                     have U2 := Lns.one X l 47 (0, 0)
                     go_must (refine wpList_appL rfl (.tmp 52) (.tmp 54) 36 rfl w.heap.size 47 iL Try.underlying36 hiL hzL hsL hbL _ _ outs.length outs [l] rfl O2 rfl U2 ?c1 ?c2 ?next))
        case c1 =>
          have := HL.out
          simp
          omega
        case c2 =>
          have := HX.out.2.2.1.chg.size
          simp
          omega
        case next =>
          intro v3 w3 ho hg hn
          obtain ⟨R9, L9, T9, O9, A9, D9, hsz⟩ := HX.out
          have C3 : Chg (fun k => (Value.slice oa outs.length oc).ownBlock = some k) X w3 := ((Chg.alloc (fun _ => False) X _).mono (fun _ _ h => h.elim)).trans (Chg.ofGrown hg) (fun _ _ h => h)
          have hge : ∀ k, (Value.slice oa outs.length oc).ownBlock = some k → w.heap.size ≤ k := fun k hk => (own_ge O9 hk).1
          have hX3 : ∀ k, v3.ownBlock = some k → (Value.slice oa outs.length oc).ownBlock = some k ∨ X.heap.size ≤ k := fun k hk => by
            rcases hn with e | e
            · exact .inl (e ▸ hk)
            · rw [e] at hk
              injection hk with hk
              have : X.heap.size + 1 = k := by simpa using hk
              exact .inr (by omega)
          have hno : ∀ k, (Value.slice ua r.length uc).ownBlock = some k → ¬ (Value.slice oa outs.length oc).ownBlock = some k := fun k hk e => by
            have := (own_ge R9 hk).1
            have := (A9 k e).2
            omega
          have HY : Hid (w3.ownsRow wr.heap.size 5 1 (.slice ua r.length uc) r.length (bcells r) ∧ (outs ++ [l]).length + r.length ≤ bs.length ∧ LsS N p w3 v9 S2 ∧ To p w v w3 v9 ∧ w3.ownsRow w.heap.size 47 2 v3 (outs ++ [l]).length (lcells (outs ++ [l])) ∧ (∀ k, v3.ownBlock = some k → k ≠ p ∧ v9.ownBlock ≠ some k) ∧
              (∀ k, (Value.slice ua r.length uc).ownBlock = some k → (k < w3.heap.size ∧ k ≠ p ∧ v9.ownBlock ≠ some k) ∧ v3.ownBlock ≠ some k)) := by
            refine ⟨own_kept R9 C3 hno, ?_, L9.kept C3 (fun h => (A9 p h).1.1 rfl) (fun k hk h => (A9 k h).1.2 hk), T9.freshS C3 hge, by rw [List.length_append]; exact ho, fun k hk => ?_, fun k hk => ⟨⟨Nat.lt_of_lt_of_le (own_ge R9 hk).2 C3.size, D9 k hk⟩, fun e => ?_⟩⟩
            · have := HL.out
              simp
              omega
            · rcases hX3 k hk with h | h
              · exact (A9 k h).1
              · refine ⟨fun e => ?_, fun e => ?_⟩
                · have := T9.chg.size
                  omega
                · have := (own_ge L9.own e).2
                  omega
            · rcases hX3 k e with h | h
              · exact hno k hk h
              · have := (own_ge R9 hk).2
                omega
          clear ho hg hn R9 L9 T9 O9 A9 D9 C3 hge hX3 hno HX
          go_wp2_with fail
          go_roundw
          case rel => exact ⟨_, _, r, v9, S2, outs ++ [l], fun k => (Value.slice ua r.length uc).ownBlock = some k, rfl, rfl, by simp, Bs.ofOwns HY.out.1, In.own HY.out.1 (fun _ h => h), HY.out.2.1, hW2, HN, HY.out.2.2.1, HY.out.2.2.2.1, HY.out.2.2.2.2.1, HY.out.2.2.2.2.2.1, HY.out.2.2.2.2.2.2⟩
          case measure => exact HL.out.2.1
      · rw [if_neg hc1] at hx1
        simp only [Option.map_some, addr_add] at hx1
        go_quiet (fail)
        clear hx1 hx2 hw ht
        have C9 : Chg (fun _ => False) w9 ((w9.alloc (.cells #[.string l.t, .bool l.long] 47)).drewN nq) := (Chg.alloc (fun _ => False) w9 _).trans (Chg.drewN (fun _ => False) _ nq) (fun _ _ h => h)
        have B9 : Bx 47 ((w9.alloc (.cells #[.string l.t, .bool l.long] 47)).drewN nq) w9.heap.size l := heap_alloc_new w9 _
        obtain ⟨X, hX⟩ : ∃ X, (w9.alloc (.cells #[.string l.t, .bool l.long] 47)).drewN nq = X := ⟨_, rfl⟩
        rw [hX] at C9 B9 ⊢
        clear hX
        obtain ⟨g0, g1, _, _⟩ := B9.c
        have HX : Hid (X.ownsRow wr.heap.size 5 1 (.slice ua r.length uc) r.length (bcells r) ∧ LsS N p X v9 S2 ∧ To p w v X v9 ∧
          X.ownsRow w.heap.size 47 2 (.slice oa outs.length oc) outs.length (lcells outs) ∧ (∀ k, (Value.slice oa outs.length oc).ownBlock = some k → (k ≠ p ∧ v9.ownBlock ≠ some k) ∧ k < wr.heap.size) ∧ (∀ k, (Value.slice ua r.length uc).ownBlock = some k → k ≠ p ∧ v9.ownBlock ≠ some k) ∧ w.heap.size ≤ wr.heap.size) :=
          ⟨own_kept H9.out.2.1 C9 (fun _ _ h => h), H9.out.2.2.1.more C9, H9.out.2.2.2.1.more C9, own_kept H9.out.2.2.2.2.1 C9 (fun _ _ h => h), H9.out.2.2.2.2.2⟩
        clear C9 B9 H9
        go_wp2_with (at_builtin
                     have O2 : (X.alloc (.cells #[.string l.t, .bool l.long] 47)).ownsRow w.heap.size 47 2 (.slice oa outs.length oc) outs.length (lcells outs) :=
                       own_kept HX.out.2.2.2.1 (Chg.alloc (fun _ => False) _ _) (fun _ _ h => h)
                     have U2 := Lns.one X l 47 (0, 0)
                     go_must (refine wpList_appL rfl (.tmp 52) (.tmp 54) 36 rfl w.heap.size 47 iL Try.underlying36 hiL hzL hsL hbL _ _ outs.length outs [l] rfl O2 rfl U2 ?c1 ?c2 ?next))
        case c1 =>
          have := HL.out
          simp
          omega
        case c2 =>
          have := HX.out.2.2.1.chg.size
          simp
          omega
        case next =>
          intro v3 w3 ho hg hn
          obtain ⟨R9, L9, T9, O9, A9, D9, hsz⟩ := HX.out
          have C3 : Chg (fun k => (Value.slice oa outs.length oc).ownBlock = some k) X w3 := ((Chg.alloc (fun _ => False) X _).mono (fun _ _ h => h.elim)).trans (Chg.ofGrown hg) (fun _ _ h => h)
          have hge : ∀ k, (Value.slice oa outs.length oc).ownBlock = some k → w.heap.size ≤ k := fun k hk => (own_ge O9 hk).1
          have hX3 : ∀ k, v3.ownBlock = some k → (Value.slice oa outs.length oc).ownBlock = some k ∨ X.heap.size ≤ k := fun k hk => by
            rcases hn with e | e
            · exact .inl (e ▸ hk)
            · rw [e] at hk
              injection hk with hk
              have : X.heap.size + 1 = k := by simpa using hk
              exact .inr (by omega)
          have hno : ∀ k, (Value.slice ua r.length uc).ownBlock = some k → ¬ (Value.slice oa outs.length oc).ownBlock = some k := fun k hk e => by
            have := (own_ge R9 hk).1
            have := (A9 k e).2
            omega
          have HY : Hid (w3.ownsRow wr.heap.size 5 1 (.slice ua r.length uc) r.length (bcells r) ∧ (outs ++ [l]).length + r.length ≤ bs.length ∧ LsS N p w3 v9 S2 ∧ To p w v w3 v9 ∧ w3.ownsRow w.heap.size 47 2 v3 (outs ++ [l]).length (lcells (outs ++ [l])) ∧ (∀ k, v3.ownBlock = some k → k ≠ p ∧ v9.ownBlock ≠ some k) ∧
              (∀ k, (Value.slice ua r.length uc).ownBlock = some k → (k < w3.heap.size ∧ k ≠ p ∧ v9.ownBlock ≠ some k) ∧ v3.ownBlock ≠ some k)) := by
            refine ⟨own_kept R9 C3 hno, ?_, L9.kept C3 (fun h => (A9 p h).1.1 rfl) (fun k hk h => (A9 k h).1.2 hk), T9.freshS C3 hge, by rw [List.length_append]; exact ho, fun k hk => ?_, fun k hk => ⟨⟨Nat.lt_of_lt_of_le (own_ge R9 hk).2 C3.size, D9 k hk⟩, fun e => ?_⟩⟩
            · have := HL.out
              simp
              omega
            · rcases hX3 k hk with h | h
              · exact (A9 k h).1
              · refine ⟨fun e => ?_, fun e => ?_⟩
                · have := T9.chg.size
                  omega
                · have := (own_ge L9.own e).2
                  omega
            · rcases hX3 k e with h | h
              · exact hno k hk h
              · have := (own_ge R9 hk).2
                omega
          clear ho hg hn R9 L9 T9 O9 A9 D9 C3 hge hX3 hno HX
          go_wp2_with fail
          go_roundw
          case rel => exact ⟨_, _, r, v9, S2, outs ++ [l], fun k => (Value.slice ua r.length uc).ownBlock = some k, rfl, rfl, by simp, Bs.ofOwns HY.out.1, In.own HY.out.1 (fun _ h => h), HY.out.2.1, hW2, HN, HY.out.2.2.1, HY.out.2.2.2.1, HY.out.2.2.2.2.1, HY.out.2.2.2.2.2.1, HY.out.2.2.2.2.2.2⟩
          case measure => exact HL.out.2.1
end Go.Proofs.Ytfbildadidfolaa
