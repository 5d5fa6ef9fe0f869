/-
  Feed of the splitter of package line.
-/
import Derived.Test.YtfbildadidfolaaLLns
namespace Go.Proofs.Ytfbildadidfolaa
open Go.RowKit

/-- What Feed answers. -/
def FeedR (N p : Nat) (w : World) (v : Value) (S : Sp) (bs : List Int) (v' o : Value) (w' : World) : Prop :=
  LsS N p w' v' (S.feed bs).1 ∧ To p w v w' v' ∧ w'.ownsRow w.heap.size 47 2 o (S.feed bs).2.length (lcells (S.feed bs).2) ∧ ∀ k, o.ownBlock = some k → k ≠ p ∧ v'.ownBlock ≠ some k

theorem Bs.len {w : World} {v : Value} {xs : List Int} (h : Bs w v xs) : lenOf v = xs.length := by
  obtain ⟨a, c, rfl, _⟩ := h.form
  rfl
theorem To.freshS {S : Nat → Prop} {p : Nat} {w w1 w2 : World} {v v1 : Value} (a : To p w v w1 v1) (b : Chg S w1 w2) (hS : ∀ k, S k → w.heap.size ≤ k) : To p w v w2 v1 :=
  ⟨a.chg.trans b fun k hi h => by have := hS k h; omega, a.new⟩
theorem FeedR.more {N p : Nat} {w w1 w2 : World} {v v' o : Value} {S : Sp} {bs : List Int} (h : FeedR N p w v S bs v' o w1) (hc : Chg (fun _ => False) w1 w2) : FeedR N p w v S bs v' o w2 :=
  ⟨h.1.more hc, h.2.1.more hc, own_kept h.2.2.1 hc (fun _ _ h => h), h.2.2.2⟩

set_option maxHeartbeats 3200000 in
theorem feed_any (N p : Nat) (w : World) (v u : Value) (S : Sp) (bs : List Int) (P : Nat → Prop) (hS : S.Wf) (h : LsS N p w v S) (hu : Bs w u bs) (hi : In P u)
    (hP : ∀ k, P k → k < w.heap.size ∧ k ≠ p ∧ v.ownBlock ≠ some k) (hb : bs.length ≤ 4294967296) :
    Calls Try.prog 18 #[.pointer (some ⟨p, 0, none⟩), u] w fun e w' => ∃ v' o, e = .returned o ∧ FeedR N p w v S bs v' o w' := by
  obtain ⟨iL, hiL, hzL, hsL, hbL⟩ := infoL
  have hp := h.lt
  go_enter Try.func18, Try.ntmps18
  go_wp2_with fail
  go_loopw [1, 5] (fun sv0 ov0 wr => ∃ (sv ov : Value) (bs' : List Int) (v' : Value) (S' : Sp) (outs : List Ln), sv = sv0 ∧ ov = ov0 ∧ Bs wr sv bs' ∧ In P sv ∧ outs.length + bs'.length ≤ bs.length ∧ S'.Wf ∧ Hid ((S.feed bs).1 = (S'.feed bs').1 ∧ (S.feed bs).2 = outs ++ (S'.feed bs').2) ∧ LsS N p wr v' S' ∧ Hid (To p w v wr v') ∧
    wr.ownsRow w.heap.size 47 2 ov outs.length (lcells outs) ∧ Hid (∀ k, ov.ownBlock = some k → k ≠ p ∧ v'.ownBlock ≠ some k)) (fun sv _ _ => lenOf sv)
  case atStart => exact ⟨_, _, bs, v, S, [], rfl, rfl, hu, hi, by simp, hS, ⟨rfl, rfl⟩, h, To.refl _ _ _, World.ownsRow_nil _ _ _ _, (fun k h => by cases h)⟩
  case round =>
    clear hu hi hS h
    obtain ⟨sv, ov, bs', v', S', outs, rfl, rfl, hB, hI, hle, hS', hn, hL, hT, hO, hA⟩ := hrel
    have hP' := Ls.stays hT.out hP
    have hb' : bs'.length ≤ 4294967296 := by omega
    cases hnx : (S'.next bs').2 with
    | none =>
      have hf := S'.next_none bs' hnx
      have HT : Hid (Calls Try.prog 24 #[.pointer (some ⟨p, 0, none⟩), sv] wr fun e w9 => e = .returned (.tuple #[Ln.zero.v, .bool false, .slice none 0 0]) ∧ ∃ v9, Hid (FeedR N p w v S bs v9 ov w9)) := by
        refine (take_any N p wr v' sv S' bs' P hS' hL hB hI hP' hb').mono fun e w9 h9 => ?_
        obtain ⟨v9, l, ok, u9, he, hL9, hT9, hR⟩ := h9
        rw [hnx] at hR
        rcases hR with ⟨_, rfl, rfl, rfl⟩ | ⟨r, hr, _⟩
        · refine ⟨he, v9, ?_, hT.out.trans hT9, ?_, fun k hk => ⟨(hA.out k hk).1, fun e => (hT9.new k e).elim (hA.out k hk).2 fun h => by have := (own_ge hO hk).2; omega⟩⟩
          · rw [hn.out.1, hf]; exact hL9
          · rw [hn.out.2, hf, List.append_nil]
            exact own_kept hO hT9.chg fun k hk h => h.elim (fun e => (hA.out k hk).1 e) (hA.out k hk).2
        · cases hr
      obtain ⟨oa, oc, rfl⟩ := own_sl hO
      clear hP' hB hI hS' hn hL hT hO hA hnx hf
      go_wp2_with (go_at_call 24; refine HT.out.mono ?_; clear HT; rintro e w9 ⟨rfl, v9, H9⟩)
      go_ret
      exact ⟨_, _, rfl, H9.out.more (Chg.alloc (fun _ => False) w9 _)⟩
    | some lr =>
      obtain ⟨l, r⟩ := lr
      have HS : Hid (lenOf sv = bs'.length) := hB.len
      have hf := S'.next_some bs' hnx
      obtain ⟨hlt, kr, _, hkr⟩ := S'.next_less bs' l r hnx
      obtain ⟨S2, hS2⟩ : ∃ S2, (S'.next bs').1 = S2 := ⟨_, rfl⟩
      have hW2 : S2.Wf := hS2 ▸ hS'.next bs'
      rw [hS2] at hf
      have HN : Hid ((S.feed bs).1 = (S2.feed r).1 ∧ (S.feed bs).2 = (outs ++ [l]) ++ (S2.feed r).2) := by
        refine ⟨by rw [hn.out.1, hf], ?_⟩
        rw [hn.out.2, hf, List.append_assoc]
        rfl
      have HT : Hid (Calls Try.prog 24 #[.pointer (some ⟨p, 0, none⟩), sv] wr fun e w9 => ∃ u9, e = .returned (.tuple #[l.v, .bool true, u9]) ∧ ∃ v9, Hid (Bs w9 u9 r ∧ In P u9 ∧ LsS N p w9 v9 S2 ∧ To p w v w9 v9 ∧
          w9.ownsRow w.heap.size 47 2 ov outs.length (lcells outs) ∧ (∀ k, ov.ownBlock = some k → k ≠ p ∧ v9.ownBlock ≠ some k) ∧ ∀ k, P k → k < w9.heap.size ∧ k ≠ p ∧ v9.ownBlock ≠ some k)) := by
        refine (take_any N p wr v' sv S' bs' P hS' hL hB hI hP' hb').mono fun e w9 h9 => ?_
        obtain ⟨v9, l', ok, u9, he, hL9, hT9, hR⟩ := h9
        rw [hnx] at hR
        rcases hR with ⟨hr, _⟩ | ⟨r', hr, rfl, hB9, hI9⟩
        · cases hr
        · cases hr
          refine ⟨u9, he, v9, hB9, hI9, hS2 ▸ hL9, hT.out.trans hT9, own_kept hO hT9.chg fun k hk h => h.elim (fun e => (hA.out k hk).1 e) (hA.out k hk).2, fun k hk => ⟨(hA.out k hk).1, fun e => (hT9.new k e).elim (hA.out k hk).2 fun h => by have := (own_ge hO hk).2; omega⟩, Ls.stays hT9 hP'⟩
      obtain ⟨oa, oc, rfl⟩ := own_sl hO
      have HL : Hid (outs.length + bs'.length ≤ bs.length ∧ r.length < bs'.length ∧ bs'.length ≤ 4294967296) := ⟨hle, hlt, hb'⟩
      clear hP' hB hI hS' hn hL hT hO hA hnx hf hlt hkr hS2 hle hb'
      go_wp2_with (first
        | (go_at_call 24; refine HT.out.mono ?_; clear HT; rintro e w9 ⟨u9, rfl, v9, H9⟩)
        | (at_builtin
           have O2 : ((w9.alloc (.cells #[.string l.t, .bool l.long] 47)).alloc (.cells #[.string l.t, .bool l.long] 47)).ownsRow w.heap.size 47 2 (.slice oa outs.length oc) outs.length (lcells outs) :=
             own_kept (own_kept H9.out.2.2.2.2.1 (Chg.alloc (fun _ => False) _ _) (fun _ _ h => h)) (Chg.alloc (fun _ => False) _ _) (fun _ _ h => h)
           have U2 : Lns ((w9.alloc (.cells #[.string l.t, .bool l.long] 47)).alloc (.cells #[.string l.t, .bool l.long] 47)) (.slice (some ⟨w9.heap.size + 1, 0, none⟩) 1 1) [l] := by
             have h := Lns.one (w9.alloc (.cells #[.string l.t, .bool l.long] 47)) l 47 (0, 0)
             rwa [show (w9.alloc (.cells #[.string l.t, .bool l.long] 47)).heap.size = w9.heap.size + 1 from by simp] at h
           go_must (refine wpList_appL rfl (.tmp 19) (.tmp 21) 36 rfl w.heap.size 47 iL Try.underlying36 hiL hzL hsL hbL _ _ outs.length outs [l] rfl O2 rfl U2 ?c1 ?c2 ?next)))
      case c1 =>
        have := HL.out
        simp
        omega
      case c2 =>
        have := H9.out.2.2.2.1.chg.size
        simp
        omega
      case next =>
        intro v3 w3 ho hg hn
        obtain ⟨B9, I9, L9, T9, O9, A9, P9⟩ := H9.out
        have C3 : Chg (fun k => (Value.slice oa outs.length oc).ownBlock = some k) w9 w3 := (((Chg.alloc (fun _ => False) w9 _).trans (Chg.alloc (fun _ => False) _ _) (fun _ _ h => h)).mono (fun _ _ h => h.elim)).trans (Chg.ofGrown hg) (fun _ _ h => h)
        have hge : ∀ k, (Value.slice oa outs.length oc).ownBlock = some k → w.heap.size ≤ k := fun k hk => (own_ge O9 hk).1
        have HX : Hid (Bs w3 u9 r ∧ In P u9 ∧ (outs ++ [l]).length + r.length ≤ bs.length ∧ LsS N p w3 v9 S2 ∧ To p w v w3 v9 ∧ w3.ownsRow w.heap.size 47 2 v3 (outs ++ [l]).length (lcells (outs ++ [l])) ∧ (∀ k, v3.ownBlock = some k → k ≠ p ∧ v9.ownBlock ≠ some k)) := by
          refine ⟨B9.stays I9 C3 (fun k hk h => by have := hge k h; have := (hP k hk).1; omega), I9, ?_, L9.kept C3 (fun h => (A9 p h).1 rfl) (fun k hk h => (A9 k h).2 hk), T9.freshS C3 hge, by rw [List.length_append]; exact ho, ?_⟩
          · have := HL.out
            simp
            omega
          · intro k hk
            rcases hn with e | e
            · exact A9 k (e ▸ hk)
            · rw [e] at hk
              injection hk with hk
              have : w9.heap.size + 1 + 1 = k := by simpa using hk
              refine ⟨fun h => ?_, fun h => ?_⟩
              · have := T9.chg.size
                omega
              · have := (own_ge L9.own h).2
                omega
        clear ho hg hn B9 I9 L9 T9 O9 A9 P9 C3 hge H9
        go_wp2_with fail
        go_roundw
        case rel => exact ⟨_, _, r, v9, S2, outs ++ [l], rfl, rfl, HX.out.1, HX.out.2.1, HX.out.2.2.1, hW2, HN, HX.out.2.2.2.1, HX.out.2.2.2.2.1, HX.out.2.2.2.2.2.1, HX.out.2.2.2.2.2.2⟩
        case measure =>
          rw [HX.out.1.len, HS.out]
          exact HL.out.2.1
end Go.Proofs.Ytfbildadidfolaa
