/-
  take of the splitter of package line.
-/
import Derived.Test.YtfbildadidfolaaLEnd
import Derived.Deep.RegionWith
import Derived.Deep.DeepCutAuto
namespace Go.Proofs.Ytfbildadidfolaa
open Go.RowKit

theorem Bs.atC {w : World} {a : Option Addr} {n c k : Nat} {xs : List Int} (h : Bs w (.slice a n c) xs) (hk : k < xs.length) : ∃ b off, a = some ⟨b, off, none⟩ ∧ ∀ j, j < xs.length → w.cell? ⟨b, off + j, none⟩ = some (.int .u8 (xs.getD j 0)) := by
  rcases h with ⟨e, rfl⟩ | ⟨x, c', e, hl, hm, hcell⟩
  · simp at hk
  · cases e
    obtain ⟨b, off, spot⟩ := x
    have h0 := hcell 0 (by omega)
    have hspot : spot = none := by simpa [Addr.add] using World.cell?_spot h0
    subst hspot
    refine ⟨b, off, rfl, fun j hj => ?_⟩
    have := hcell j hj
    unfold Addr.add at this
    split at this
    · rename_i e; subst e; simpa using this
    · exact this
/-- A splitter as it stands between two calls. -/
abbrev LsS (N p : Nat) (w : World) (v : Value) (S : Sp) : Prop := Ls N p w v S.most S.st S.held S.long
theorem LsS.reset {N p : Nat} {w : World} {S : Sp} (h : Ls N p w (.slice none 0 0) S.most 0 [] false) : LsS N p w (.slice none 0 0) S.reset := by
  have e : S.reset.long = false := by simp [Sp.long, Sp.reset]
  unfold LsS
  rw [e]
  exact h
theorem getD_zero (c : Int) (r : List Int) : (c :: r).getD 0 0 = c := rfl
theorem split_at {bs : List Int} {k : Nat} (hk : k < bs.length) (h : bs.getD k 0 = 13) : bs = bs.take k ++ 13 :: bs.drop (k + 1) := by
  have e : bs[k] = 13 := by rw [List.getD_eq_getElem?_getD, List.getElem?_eq_getElem hk] at h; exact h
  rw [← e, ← List.drop_eq_getElem_cons hk, List.take_append_drop]
theorem take_ne {bs : List Int} {k : Nat} (h : ∀ j, j < k → bs.getD j 0 ≠ 13) : ∀ x ∈ bs.take k, x ≠ 13 := by
  intro x hx
  obtain ⟨j, hj, rfl⟩ := List.mem_iff_getElem.1 hx
  have hj2 : j < k ∧ j < bs.length := by rw [List.length_take] at hj; omega
  have := h j hj2.1
  rw [List.getElem_take]
  rwa [List.getD_eq_getElem?_getD, List.getElem?_eq_getElem hj2.2] at this

theorem st_two {S : Sp} (h : S.cr = true) : S.st = 2 := by unfold Sp.st; rw [if_pos h]
theorem st_not {S : Sp} (h : ¬ S.cr = true) : (S.st == 2) = false := by
  unfold Sp.st
  rw [if_neg h]
  split <;> rfl
theorem st_add {T : Sp} (h : T.cr = false) (bs : List Int) (h0 : 0 < bs.length) : (T.add bs).st = 1 := by
  have h1 : ¬ (T.add bs).cr = true := by show ¬ T.cr = true; simp [h]
  have h2 : ¬ (T.add bs).n = 0 := by show ¬ T.n + bs.length = 0; omega
  unfold Sp.st
  rw [if_neg h1, if_neg h2]
theorem Sp.Wf.room {S : Sp} (h : S.Wf) : S.held.length + 2 ≤ S.most := by have := h.len; have := h.lo; omega
/-- How long a slice is. -/
def lenOf : Value → Nat
  | .slice _ n _ => n
  | _ => 0
/-- What take answers. -/
def TakeR (P : Nat → Prop) (N p : Nat) (w : World) (v : Value) (S : Sp) (bs : List Int) (v' : Value) (l : Ln) (ok : Bool) (u' : Value) (w' : World) : Prop :=
  LsS N p w' v' (S.next bs).1 ∧ To p w v w' v' ∧
      (((S.next bs).2 = none ∧ l = Ln.zero ∧ ok = false ∧ u' = .slice none 0 0) ∨ ∃ r, (S.next bs).2 = some (l, r) ∧ ok = true ∧ Bs w' u' r ∧ In P u')

set_option maxHeartbeats 3200000 in
theorem take_any (N p : Nat) (w : World) (v u : Value) (S : Sp) (bs : List Int) (P : Nat → Prop) (hS : S.Wf) (h : LsS N p w v S) (hu : Bs w u bs) (hi : In P u)
    (hP : ∀ k, P k → k < w.heap.size ∧ k ≠ p ∧ v.ownBlock ≠ some k) (hb : bs.length ≤ 4294967296) :
    Calls Try.prog 24 #[.pointer (some ⟨p, 0, none⟩), u] w fun e w' => ∃ v' l ok u', e = .returned (.tuple #[Ln.v l, .bool ok, u']) ∧ TakeR P N p w v S bs v' l ok u' w' := by
  go_enter Try.func24, Try.ntmps24
  go_wp2_with fail
  have C0 : Chg (fun _ => False) w (w.alloc (.cells #[.string ⟨#[]⟩, .bool false] 47)) := Chg.alloc (fun _ => False) w _
  have D0 : Bx 47 (w.alloc (.cells #[.string ⟨#[]⟩, .bool false] 47)) w.heap.size Ln.zero := heap_alloc_new w _
  obtain ⟨W, hW⟩ : ∃ W, w.alloc (.cells #[.string ⟨#[]⟩, .bool false] 47) = W := ⟨_, rfl⟩
  rw [hW] at C0 D0 ⊢
  clear hW
  have hP0 : ∀ k, (P k ∨ k = w.heap.size) → k < W.heap.size ∧ k ≠ p ∧ v.ownBlock ≠ some k := fun k hk => hk.elim (fun hk => ⟨Nat.lt_of_lt_of_le (hP k hk).1 C0.size, (hP k hk).2⟩) fun e => by
    subst e
    exact ⟨D0.lt, (fun e => by have := h.lt; omega), fun e => by have := (own_ge h.own e).2; omega⟩
  have L0 : LsS N p W v S := h.more C0
  have U0 : Bs W u bs := hu.stays hi C0 (fun _ _ h => h)
  have T0 : To p w v W v := (To.refl p w v).more C0
  have hPw := hP
  clear h hu hP C0
  obtain ⟨D, hD⟩ : ∃ D, w.heap.size = D := ⟨_, rfl⟩
  rw [hD] at hP0 D0 ⊢
  have HT0 : Hid (To p w v W v) := T0
  have HD : Hid (w.heap.size = D) := hD
  have hPD : Hid (¬ P D) := fun h => by have := (hPw D h).1; omega
  have HP0 : Hid (∀ k, (P k ∨ k = D) → k < W.heap.size ∧ k ≠ p ∧ v.ownBlock ≠ some k) := hP0
  clear T0 hD hP0 hPw
  go_step3
  go_wp2_with fail
  go_step3
  go_wp2_with fail
  go_loopw [1] (fun sv wr => ∃ (bs' : List Int) (v' : Value) (S' : Sp), Bs wr sv bs' ∧ In P sv ∧ bs'.length ≤ bs.length ∧ S'.Wf ∧ Hid (S.next bs = S'.next bs') ∧ LsS N p wr v' S' ∧ Hid (To p W v wr v') ∧ Bx 47 wr D Ln.zero) (fun sv _ => lenOf sv)
  case atStart => exact ⟨bs, v, S, U0, hi, Nat.le_refl _, hS, rfl, L0, To.refl _ _ _, D0⟩
  case round =>
    clear U0 hi hS L0 D0
    obtain ⟨bs', v', S', hB, hI, hle, hS', hn, hL, hT, hD⟩ := hrel
    obtain ⟨a, c, rfl, hcc, hcm⟩ := hB.form
    have hP' := Ls.stays hT.out HP0.out
    by_cases h0 : 0 < bs'.length
    · have q1 : (0 : Int) < bs'.length := by omega
      obtain ⟨b, off, rfl, hc⟩ := hB.atC h0
      have c0 := hc 0 h0
      rw [Nat.add_zero] at c0
      obtain ⟨x, hx⟩ : ∃ x, Hid (bs'.getD 0 0 = x) := ⟨_, rfl⟩
      rw [hx.out] at c0
      have hb1 := hL.c1
      by_cases hcr : S'.cr = true
      · rw [st_two hcr] at hb1
        by_cases h10 : x = 10
        · have p1 : (x == 10) = true := by simpa using h10
          have hN : (S.next bs).1 = S'.reset ∧ (S.next bs).2 = some (S'.line, bs'.drop 1) := by
            rw [hn.out]
            cases hbs : bs' with
            | nil => rw [hbs] at h0; simp at h0
            | cons y r =>
              have hy : y = 10 := by have := hx.out; rw [hbs] at this; exact this.trans h10
              rw [hy, Sp.next, S'.put_end hcr]
              exact ⟨rfl, rfl⟩
          have r1 := hB.rest (lo := 1) h0
          have r2 := hI.rest (lo := 1) h0 hcc
          have HEND : Hid (Calls Try.prog 27 #[.pointer (some ⟨p, 0, none⟩)] wr.drew fun e w9 => e = .returned (Ln.v S'.line) ∧ ∃ d0 d1, w9.cell? ⟨D, 0, none⟩ = some d0 ∧ w9.cell? ⟨D, 1, none⟩ = some d1 ∧ w9.frozen? ⟨D, 0, none⟩ = false ∧ w9.frozen? ⟨D, 1, none⟩ = false ∧
              Hid (LsS N p w9 (.slice none 0 0) S'.reset ∧ To p wr v' w9 (.slice none 0 0) ∧ Bx 47 w9 D Ln.zero)) := by
            refine (end_any N p wr.drew v' S'.most S'.st S'.held S'.long (hL.more (Chg.drew _ _))).mono fun e w9 h9 => ⟨h9.1, ?_⟩
            have B9 : Bx 47 w9 D Ln.zero := (hD.kept (Chg.drew (fun _ => False) wr) (fun h => h)).kept h9.2.2.chg (fun h => h.elim (fun e => (hP' D (.inr rfl)).2.1 e) (fun e => (hP' D (.inr rfl)).2.2 e))
            obtain ⟨d0, d1, f0, f1⟩ := B9.c
            exact ⟨_, _, d0, d1, f0, f1, ⟨LsS.reset h9.2.1, To.after (Chg.drew _ _) h9.2.2, B9⟩⟩
          obtain ⟨L1, hL1⟩ : ∃ l, Hid (S'.line = l) := ⟨_, rfl⟩
          rw [hL1.out] at HEND hN
          have HN : Hid ((S.next bs).1 = S'.reset ∧ (S.next bs).2 = some (L1, bs'.drop 1)) := hN
          have hPa : Hid (∀ k, P k → k ≠ p ∧ v'.ownBlock ≠ some k) := fun k hk => (hP' k (.inl hk)).2
          have HDp : Hid (D ≠ p) := (hP' D (.inr rfl)).2.1
          have HDP : Hid (¬ P D) := hPD.out
          clear hL hD hP' hc hcr h10 hN hB hI
          by_cases hc1 : c = 1
          · rw [if_pos hc1] at r1 r2
            subst hc1
            have hl1 : bs'.length - 1 = 0 := by omega
            rw [hl1] at r1 r2
            have HR : Hid (Bs wr (.slice (some ⟨b, off, none⟩) 0 0) (bs'.drop 1) ∧ In P (.slice (some ⟨b, off, none⟩) 0 0)) := ⟨r1, r2⟩
            clear r1 r2 hl1
            go_wp2_with fail
            go_region_with (go_at_call 27; refine HEND.out.mono ?_; clear HEND; rintro e w9 ⟨rfl, d0, d1, h0, h1, f0, f1, H9⟩)
            all_goals
              obtain ⟨s1, s2⟩ := H9.out.2.2.put L1
              have LL := H9.out.1.kept s2 (fun e => HDp.out e.symm) (fun _ h => by cases h)
              have TL := ((HT0.out.trans hT.out).trans H9.out.2.1).fresh s2 (Nat.le_of_eq HD.out)
              obtain ⟨z0, z1, _, _⟩ := s1.c
              have U9 := (HR.out.1.stays HR.out.2 H9.out.2.1.chg (fun k hk => fun h => h.elim (hPa.out k hk).1 (hPa.out k hk).2)).stays HR.out.2 s2 (fun k hk e => HDP.out (e ▸ hk))
              have HE : Hid (TakeR P N p w v S bs (.slice none 0 0) L1 true (.slice (some ⟨b, off, none⟩) 0 0) ((w9.setCell ⟨D, 0, none⟩ (.string L1.t)).setCell ⟨D, 1, none⟩ (.bool L1.long))) :=
                ⟨by rw [HN.out.1]; exact LL, TL, .inr ⟨_, HN.out.2, rfl, U9, HR.out.2⟩⟩
              clear LL TL s1 s2 U9
              go_wp2_with fail
              try simp only [Exit.inBlock, Exit.then]
              try rw [Exit.noGoto_ret]
              obtain ⟨w10, hw10⟩ : ∃ w10, (w9.setCell ⟨D, 0, none⟩ (.string L1.t)).setCell ⟨D, 1, none⟩ (.bool L1.long) = w10 := ⟨_, rfl⟩
              simp only [hw10] at z0 z1 HE ⊢
              refine bodyPost_ret (v := .tuple #[L1.v, .bool true, (.slice (some ⟨b, off, none⟩) 0 0)]) ?_ rfl ?_
              · simp [results, Try.results24, go_sem, z0, z1]
              · exact ⟨_, _, _, _, rfl, HE.out⟩
          · rw [if_neg hc1] at r1 r2
            have HR : Hid (Bs wr (.slice (some ⟨b, off + 1, none⟩) (bs'.length - 1) (c - 1)) (bs'.drop 1) ∧ In P (.slice (some ⟨b, off + 1, none⟩) (bs'.length - 1) (c - 1))) := ⟨r1, r2⟩
            clear r1 r2
            go_wp2_with fail
            go_region_with (go_at_call 27; refine HEND.out.mono ?_; clear HEND; rintro e w9 ⟨rfl, d0, d1, h0, h1, f0, f1, H9⟩)
            all_goals
              obtain ⟨s1, s2⟩ := H9.out.2.2.put L1
              have LL := H9.out.1.kept s2 (fun e => HDp.out e.symm) (fun _ h => by cases h)
              have TL := ((HT0.out.trans hT.out).trans H9.out.2.1).fresh s2 (Nat.le_of_eq HD.out)
              obtain ⟨z0, z1, _, _⟩ := s1.c
              have U9 := (HR.out.1.stays HR.out.2 H9.out.2.1.chg (fun k hk => fun h => h.elim (hPa.out k hk).1 (hPa.out k hk).2)).stays HR.out.2 s2 (fun k hk e => HDP.out (e ▸ hk))
              have HE : Hid (TakeR P N p w v S bs (.slice none 0 0) L1 true (.slice (some ⟨b, off + 1, none⟩) (bs'.length - 1) (c - 1)) ((w9.setCell ⟨D, 0, none⟩ (.string L1.t)).setCell ⟨D, 1, none⟩ (.bool L1.long))) :=
                ⟨by rw [HN.out.1]; exact LL, TL, .inr ⟨_, HN.out.2, rfl, U9, HR.out.2⟩⟩
              clear LL TL s1 s2 U9
              go_wp2_with fail
              try simp only [Exit.inBlock, Exit.then]
              try rw [Exit.noGoto_ret]
              obtain ⟨w10, hw10⟩ : ∃ w10, (w9.setCell ⟨D, 0, none⟩ (.string L1.t)).setCell ⟨D, 1, none⟩ (.bool L1.long) = w10 := ⟨_, rfl⟩
              simp only [hw10] at z0 z1 HE ⊢
              refine bodyPost_ret (v := .tuple #[L1.v, .bool true, (.slice (some ⟨b, off + 1, none⟩) (bs'.length - 1) (c - 1))]) ?_ rfl ?_
              · simp [results, Try.results24, go_sem, z0, z1]
              · exact ⟨_, _, _, _, rfl, HE.out⟩
        · -- A
          have p1 : (x == 10) = false := by simpa using h10
          have hn2 : S.next bs = S'.was.next bs' := by
            rw [hn.out]
            cases hbs : bs' with
            | nil => rw [hbs] at h0; simp at h0
            | cons z r => exact S'.next_was z r (fun _ e => h10 (by have := hx.out; rw [hbs] at this; exact this.symm.trans e))
          obtain ⟨T, hTe⟩ : ∃ T, Hid (S'.was = T) := ⟨_, rfl⟩
          have HTW : Hid (T.Wf ∧ T.cr = false ∧ S.next bs = T.next bs') := by rw [← hTe.out]; exact ⟨hS'.was, S'.was_cr, hn2⟩
          have HI : Hid (In P (.slice (some ⟨b, off, none⟩) bs'.length c)) := hI
          have HK1 : Hid (Calls Try.prog 28 #[.pointer (some ⟨p, 0, none⟩), .slice (some ⟨wr.heap.size, 0, none⟩) 1 1] (wr.alloc (.cells #[.int .u8 13] 5)) fun e w9 => e = .returned (.tuple #[]) ∧ ∃ v9,
              Hid (Ls N p w9 v9 T.most 2 T.held T.long ∧ To p W v w9 v9 ∧ Bs w9 (.slice (some ⟨b, off, none⟩) bs'.length c) bs' ∧ Bx 47 w9 D Ln.zero)) := by
            have CA : Chg (fun _ => False) wr (wr.alloc (.cells #[.int .u8 13] 5)) := Chg.alloc (fun _ => False) wr _
            have LA := hL.more CA
            rw [st_two hcr] at LA
            refine (keep_any N p _ v' _ S'.most 2 S'.held [13] S'.long LA (Bs.lit wr [13] (0, 0) (by decide)) (fun a n c e h0 => by injection e with e1 e2 e3; injection e1 with e1; subst e1; have := hL.lt; show wr.heap.size ≠ p; omega) hS'.hi hS'.room (by decide)).mono fun e w9 h9 => ⟨h9.1, ?_⟩
            obtain ⟨v9, L9, T9⟩ := h9.2
            refine ⟨v9, ?_, (hT.out.more CA).trans T9, ?_, ?_⟩
            · rw [← hTe.out, S'.was_yes hcr]
              show Ls N p w9 v9 S'.most 2 (S'.add [13]).held (S'.add [13]).long
              rw [hS'.long]
              exact L9
            · exact (hB.stays hI CA fun _ _ h => h).stays hI T9.chg fun k hk h => h.elim (hP' k (.inl hk)).2.1 (hP' k (.inl hk)).2.2
            · exact (hD.kept CA fun h => h).kept T9.chg fun h => h.elim (hP' D (.inr rfl)).2.1 (hP' D (.inr rfl)).2.2
          clear hL hD hP' hc hcr h10 hB hI hT hn hn2
          obtain ⟨st', hst'⟩ : ∃ st' : Int, (2 : Int) = st' := ⟨_, rfl⟩
          go_wp2_with (go_at_call 28; refine HK1.out.mono ?_; clear HK1; rintro e X ⟨rfl, vX, HX⟩; rw [hst'] at HX; clear hst')
          obtain ⟨LX, TX, BX, DX⟩ := HX.out
          have hPX := Ls.stays TX HP0.out
          go_loopw [1, 30] (fun sv i wr' => ∃ k : Nat, sv = .slice (some ⟨b, off, none⟩) bs'.length c ∧ k ≤ bs'.length ∧ i = .int .i64 k ∧ X = wr' ∧ Hid (∀ j, j < k → bs'.getD j 0 ≠ 13)) (fun _ i _ => bs'.length - (intOf i).toNat)
          case atStart => exact ⟨0, rfl, Nat.zero_le _, rfl, rfl, fun j h => by omega⟩
          case round =>
            obtain ⟨k, rfl, hk, rfl, rfl, hA⟩ := hrel
            by_cases hlt : k < bs'.length
            · have q1 : (k : Int) < bs'.length := by omega
              obtain ⟨b9, off9, e9, hcX⟩ := BX.atC hlt
              injection e9 with e9
              injection e9 with e91 e92 e93
              subst e91; subst e92
              have ck := hcX k hlt
              obtain ⟨y, hy⟩ : ∃ y, Hid (bs'.getD k 0 = y) := ⟨_, rfl⟩
              rw [hy.out] at ck
              by_cases h13 : y = 13
              · have p2 : (y == 13) = true := by simpa using h13
                obtain ⟨T2, hT2⟩ : ∃ T2, Hid ((T.add (bs'.take k)).wait true = T2) := ⟨_, rfl⟩
                have hTw : T2.Wf := by rw [← hT2.out]; exact (HTW.out.1.add _).wait _
                have hN2 : Hid (S.next bs = T2.next (bs'.drop (k + 1))) := by
                  show _ = _
                  rw [HTW.out.2.2, ← hT2.out]
                  conv => lhs; rw [split_at hlt (hy.out.trans h13)]
                  exact T.next_to _ _ HTW.out.2.1 (take_ne hA.out)
                have hlen : (bs'.take k).length ≤ 4294967296 := by simp; omega
                have HK : Hid (Calls Try.prog 28 #[.pointer (some ⟨p, 0, none⟩), .slice (some ⟨b, off, none⟩) k c] X fun e w9 => e = .returned (.tuple #[]) ∧ ∃ v9, w9.cell? ⟨p, 1, none⟩ = some (.int .i64 st') ∧ w9.frozen? ⟨p, 1, none⟩ = false ∧
                    Hid (LsS N p (w9.setCell ⟨p, 1, none⟩ (.int .i64 2)) v9 T2 ∧ To p W v (w9.setCell ⟨p, 1, none⟩ (.int .i64 2)) v9 ∧ Bs (w9.setCell ⟨p, 1, none⟩ (.int .i64 2)) (.slice (some ⟨b, off, none⟩) bs'.length c) bs' ∧ Bx 47 (w9.setCell ⟨p, 1, none⟩ (.int .i64 2)) D Ln.zero)) := by
                  refine (keep_any N p X vX _ T.most st' T.held (bs'.take k) T.long LX (BX.top hk) ((HI.out.mono fun k hk => (hPX k (.inl hk)).2.1).top hk) HTW.out.1.hi HTW.out.1.room hlen).mono fun e w9 h9 => ⟨h9.1, ?_⟩
                  obtain ⟨v9, L9, T9⟩ := h9.2
                  have hp9 : Chg (fun k => k = p) w9 (w9.setCell ⟨p, 1, none⟩ (.int .i64 2)) := Chg.setCell (S := fun k => k = p) w9 ⟨p, 1, none⟩ _ rfl
                  refine ⟨v9, L9.c1, L9.fr 1, ?_, (TX.trans T9).trans (To.cell p 1 w9 v9 _), ?_, ?_⟩
                  · have := L9.setS 2
                    rw [← hT2.out]
                    unfold LsS
                    rw [show ((T.add (bs'.take k)).wait true).long = (T.long || decide (T.most - 2 - T.held.length < (bs'.take k).length)) from HTW.out.1.long _]
                    exact this
                  · exact (BX.stays HI.out T9.chg fun k hk h => h.elim (hPX k (.inl hk)).2.1 (hPX k (.inl hk)).2.2).stays HI.out hp9 fun k hk h => (hPX k (.inl hk)).2.1 h
                  · exact (DX.kept T9.chg fun h => h.elim (hPX D (.inr rfl)).2.1 (hPX D (.inr rfl)).2.2).kept hp9 fun h => (hPX D (.inr rfl)).2.1 h
                have HL : Hid (bs'.length ≤ c ∧ k < bs'.length ∧ bs'.length ≤ bs.length) := ⟨hcc, hlt, hle⟩
                have q2 : ((k : Int) + 1) ≤ bs'.length := by omega
                have q3 : k + 1 ≤ bs'.length := hlt
                have q4 : bs'.length ≤ c := hcc
                clear hcX h13 LX TX BX DX hPX hlen
                by_cases hc1 : c = k + 1
                · subst hc1
                  go_wp2_with (go_at_call 28; refine HK.out.mono ?_; clear HK; rintro e w9 ⟨rfl, v9, d1, f1, H9⟩)
                  refine ⟨⟨bs'.drop (k + 1), v9, T2, ?_, ?_, ?_, hTw, hN2, H9.out.1, H9.out.2.1, H9.out.2.2.2⟩, ?_⟩
                  · have r1 := H9.out.2.2.1.rest (lo := k + 1) q3
                    rw [if_pos rfl, show bs'.length - (k + 1) = 0 by omega, Nat.sub_self] at r1
                    exact r1
                  · have r1 := HI.out.rest (lo := k + 1) q3 q4
                    rw [if_pos rfl, show bs'.length - (k + 1) = 0 by omega, Nat.sub_self] at r1
                    exact r1
                  · have := HL.out.2.2
                    rw [List.length_drop]
                    omega
                  · show 0 < bs'.length
                    omega
                · go_wp2_with (go_at_call 28; refine HK.out.mono ?_; clear HK; rintro e w9 ⟨rfl, v9, d1, f1, H9⟩)
                  refine ⟨⟨bs'.drop (k + 1), v9, T2, ?_, ?_, ?_, hTw, hN2, H9.out.1, H9.out.2.1, H9.out.2.2.2⟩, ?_⟩
                  · have r1 := H9.out.2.2.1.rest (lo := k + 1) q3
                    rw [if_neg hc1] at r1
                    exact r1
                  · have r1 := HI.out.rest (lo := k + 1) q3 q4
                    rw [if_neg hc1] at r1
                    exact r1
                  · have := HL.out.2.2
                    rw [List.length_drop]
                    omega
                  · show bs'.length - (k + 1) < bs'.length
                    omega
              · have p2 : (y == 13) = false := by simpa using h13
                have hA' : Hid (∀ j, j < k + 1 → bs'.getD j 0 ≠ 13) := fun j h => by
                  rcases (by omega : j < k ∨ j = k) with h | rfl
                  · exact hA.out j h
                  · rw [hy.out]; exact h13
                clear hcX h13 LX TX BX DX hPX
                go_wp2_with fail
                go_roundw
                case rel => exact ⟨k + 1, rfl, by omega, by go_num, trivial, hA'⟩
                case measure => simp [intOf]; omega
            · have q1 : ¬ (k : Int) < bs'.length := by omega
              have hall : ∀ z ∈ bs', z ≠ 13 := fun z hz => take_ne (k := k) hA.out z (by rw [List.take_of_length_le (by omega)]; exact hz)
              have hN : (S.next bs).1 = T.add bs' ∧ (S.next bs).2 = none := by rw [HTW.out.2.2, T.next_all bs' HTW.out.2.1 hall]; exact ⟨rfl, rfl⟩
              have hlen : bs'.length ≤ 4294967296 := by omega
              have HK : Hid (Calls Try.prog 28 #[.pointer (some ⟨p, 0, none⟩), .slice (some ⟨b, off, none⟩) bs'.length c] X fun e w9 => e = .returned (.tuple #[]) ∧ ∃ v9 d0 d1, w9.cell? ⟨p, 1, none⟩ = some (.int .i64 st') ∧ w9.frozen? ⟨p, 1, none⟩ = false ∧
                  (w9.setCell ⟨p, 1, none⟩ (.int .i64 1)).cell? ⟨D, 0, none⟩ = some d0 ∧ (w9.setCell ⟨p, 1, none⟩ (.int .i64 1)).cell? ⟨D, 1, none⟩ = some d1 ∧ (w9.setCell ⟨p, 1, none⟩ (.int .i64 1)).frozen? ⟨D, 0, none⟩ = false ∧ (w9.setCell ⟨p, 1, none⟩ (.int .i64 1)).frozen? ⟨D, 1, none⟩ = false ∧
                  Hid (TakeR P N p w v S bs v9 Ln.zero false (.slice none 0 0) (((w9.setCell ⟨p, 1, none⟩ (.int .i64 1)).setCell ⟨D, 0, none⟩ (.string Ln.zero.t)).setCell ⟨D, 1, none⟩ (.bool Ln.zero.long)) ∧ Bx 47 (((w9.setCell ⟨p, 1, none⟩ (.int .i64 1)).setCell ⟨D, 0, none⟩ (.string Ln.zero.t)).setCell ⟨D, 1, none⟩ (.bool Ln.zero.long)) D Ln.zero)) := by
                refine (keep_any N p X vX _ T.most st' T.held bs' T.long LX BX (HI.out.mono fun k hk => (hPX k (.inl hk)).2.1) HTW.out.1.hi HTW.out.1.room hlen).mono fun e w9 h9 => ⟨h9.1, ?_⟩
                obtain ⟨v9, L9, T9⟩ := h9.2
                have hp9 : Chg (fun k => k = p) w9 (w9.setCell ⟨p, 1, none⟩ (.int .i64 1)) := Chg.setCell (S := fun k => k = p) w9 ⟨p, 1, none⟩ _ rfl
                have D9 := (DX.kept T9.chg fun h => h.elim (hPX D (.inr rfl)).2.1 (hPX D (.inr rfl)).2.2).kept hp9 fun h => (hPX D (.inr rfl)).2.1 h
                obtain ⟨d0, d1, f0, f1⟩ := D9.c
                obtain ⟨s1, s2⟩ := D9.put Ln.zero
                have hPZ := Ls.stays ((TX.trans T9).trans (To.cell p 1 w9 v9 (.int .i64 1))) HP0.out
                refine ⟨v9, _, _, L9.c1, L9.fr 1, d0, d1, f0, f1, ⟨?_, ((HT0.out.trans TX).trans (T9.trans (To.cell p 1 w9 v9 _))).fresh s2 (Nat.le_of_eq HD.out), .inl ⟨hN.2, rfl, rfl, rfl⟩⟩, s1⟩
                rw [hN.1]
                refine Ls.kept ?_ s2 (fun e => (hPZ D (.inr rfl)).2.1 e.symm) (fun k hk e => (hPZ D (.inr rfl)).2.2 (e ▸ hk))
                have := L9.setS 1
                rw [HTW.out.1.long, st_add HTW.out.2.1 bs' h0]
                exact this
              clear hall hN hlen LX TX BX DX hPX
              go_wp2_with (go_at_call 28; refine HK.out.mono ?_; clear HK; rintro e w9 ⟨rfl, v9, d0, d1, g1, g2, g3, g4, g5, g6, H9⟩)
              obtain ⟨HE, HB⟩ := H9.out
              obtain ⟨z0, z1, _, _⟩ := HB.c
              clear HB H9
              try simp only [Exit.inBlock, Exit.then]
              try rw [Exit.noGoto_ret]
              obtain ⟨w10, hw10⟩ : ∃ w10, ((w9.setCell ⟨p, 1, none⟩ (.int .i64 1)).setCell ⟨D, 0, none⟩ (.string ⟨#[]⟩)).setCell ⟨D, 1, none⟩ (.bool false) = w10 := ⟨_, rfl⟩
              simp only [hw10] at z0 z1 HE ⊢
              refine bodyPost_ret (v := .tuple #[Ln.zero.v, .bool false, .slice none 0 0]) ?_ rfl ?_
              · simp [results, Try.results24, go_sem, z0, z1]
              · exact ⟨_, _, _, _, rfl, HE⟩
      · -- B
        have hn2 : S.next bs = S'.was.next bs' := by
          rw [hn.out]
          cases hbs : bs' with
          | nil => rw [hbs] at h0; simp at h0
          | cons z r => exact S'.next_was z r (fun h => absurd h hcr)
        obtain ⟨T, hTe⟩ : ∃ T, Hid (S'.was = T) := ⟨_, rfl⟩
        have HTW : Hid (T.Wf ∧ T.cr = false ∧ S.next bs = T.next bs') := by rw [← hTe.out]; exact ⟨hS'.was, S'.was_cr, hn2⟩
        have HI : Hid (In P (.slice (some ⟨b, off, none⟩) bs'.length c)) := hI
        have p1 := st_not hcr
        have HX : Hid (Ls N p wr v' T.most S'.st T.held T.long ∧ To p W v wr v' ∧ Bs wr (.slice (some ⟨b, off, none⟩) bs'.length c) bs' ∧ Bx 47 wr D Ln.zero) := by
          rw [← hTe.out, S'.was_no (by simpa using hcr)]
          exact ⟨hL, hT.out, hB, hD⟩
        clear hL hD hP' hc hcr hB hI hT hn hn2
        obtain ⟨st', hst'⟩ : ∃ st' : Int, S'.st = st' := ⟨_, rfl⟩
        rw [hst'] at HX p1 hb1
        obtain ⟨X, hX⟩ : ∃ X, wr = X := ⟨_, rfl⟩
        obtain ⟨vX, hvX⟩ : ∃ vX, v' = vX := ⟨_, rfl⟩
        rw [hvX, hX] at HX
        rw [hX] at hb1 c0 ⊢
        go_wp2_with fail
        obtain ⟨LX, TX, BX, DX⟩ := HX.out
        have hPX := Ls.stays TX HP0.out
        go_loopw [1, 30] (fun sv i wr' => ∃ k : Nat, sv = .slice (some ⟨b, off, none⟩) bs'.length c ∧ k ≤ bs'.length ∧ i = .int .i64 k ∧ X = wr' ∧ Hid (∀ j, j < k → bs'.getD j 0 ≠ 13)) (fun _ i _ => bs'.length - (intOf i).toNat)
        case atStart => exact ⟨0, rfl, Nat.zero_le _, rfl, rfl, fun j h => by omega⟩
        case round =>
          obtain ⟨k, rfl, hk, rfl, rfl, hA⟩ := hrel
          by_cases hlt : k < bs'.length
          · have q1 : (k : Int) < bs'.length := by omega
            obtain ⟨b9, off9, e9, hcX⟩ := BX.atC hlt
            injection e9 with e9
            injection e9 with e91 e92 e93
            subst e91; subst e92
            have ck := hcX k hlt
            obtain ⟨y, hy⟩ : ∃ y, Hid (bs'.getD k 0 = y) := ⟨_, rfl⟩
            rw [hy.out] at ck
            by_cases h13 : y = 13
            · have p2 : (y == 13) = true := by simpa using h13
              obtain ⟨T2, hT2⟩ : ∃ T2, Hid ((T.add (bs'.take k)).wait true = T2) := ⟨_, rfl⟩
              have hTw : T2.Wf := by rw [← hT2.out]; exact (HTW.out.1.add _).wait _
              have hN2 : Hid (S.next bs = T2.next (bs'.drop (k + 1))) := by
                show _ = _
                rw [HTW.out.2.2, ← hT2.out]
                conv => lhs; rw [split_at hlt (hy.out.trans h13)]
                exact T.next_to _ _ HTW.out.2.1 (take_ne hA.out)
              have hlen : (bs'.take k).length ≤ 4294967296 := by simp; omega
              have HK : Hid (Calls Try.prog 28 #[.pointer (some ⟨p, 0, none⟩), .slice (some ⟨b, off, none⟩) k c] X fun e w9 => e = .returned (.tuple #[]) ∧ ∃ v9, w9.cell? ⟨p, 1, none⟩ = some (.int .i64 st') ∧ w9.frozen? ⟨p, 1, none⟩ = false ∧
                  Hid (LsS N p (w9.setCell ⟨p, 1, none⟩ (.int .i64 2)) v9 T2 ∧ To p W v (w9.setCell ⟨p, 1, none⟩ (.int .i64 2)) v9 ∧ Bs (w9.setCell ⟨p, 1, none⟩ (.int .i64 2)) (.slice (some ⟨b, off, none⟩) bs'.length c) bs' ∧ Bx 47 (w9.setCell ⟨p, 1, none⟩ (.int .i64 2)) D Ln.zero)) := by
                refine (keep_any N p X vX _ T.most st' T.held (bs'.take k) T.long LX (BX.top hk) ((HI.out.mono fun k hk => (hPX k (.inl hk)).2.1).top hk) HTW.out.1.hi HTW.out.1.room hlen).mono fun e w9 h9 => ⟨h9.1, ?_⟩
                obtain ⟨v9, L9, T9⟩ := h9.2
                have hp9 : Chg (fun k => k = p) w9 (w9.setCell ⟨p, 1, none⟩ (.int .i64 2)) := Chg.setCell (S := fun k => k = p) w9 ⟨p, 1, none⟩ _ rfl
                refine ⟨v9, L9.c1, L9.fr 1, ?_, (TX.trans T9).trans (To.cell p 1 w9 v9 _), ?_, ?_⟩
                · have := L9.setS 2
                  rw [← hT2.out]
                  unfold LsS
                  rw [show ((T.add (bs'.take k)).wait true).long = (T.long || decide (T.most - 2 - T.held.length < (bs'.take k).length)) from HTW.out.1.long _]
                  exact this
                · exact (BX.stays HI.out T9.chg fun k hk h => h.elim (hPX k (.inl hk)).2.1 (hPX k (.inl hk)).2.2).stays HI.out hp9 fun k hk h => (hPX k (.inl hk)).2.1 h
                · exact (DX.kept T9.chg fun h => h.elim (hPX D (.inr rfl)).2.1 (hPX D (.inr rfl)).2.2).kept hp9 fun h => (hPX D (.inr rfl)).2.1 h
              have HL : Hid (bs'.length ≤ c ∧ k < bs'.length ∧ bs'.length ≤ bs.length) := ⟨hcc, hlt, hle⟩
              have q2 : ((k : Int) + 1) ≤ bs'.length := by omega
              have q3 : k + 1 ≤ bs'.length := hlt
              have q4 : bs'.length ≤ c := hcc
              clear hcX h13 LX TX BX DX hPX hlen
              by_cases hc1 : c = k + 1
              · subst hc1
                go_wp2_with (go_at_call 28; refine HK.out.mono ?_; clear HK; rintro e w9 ⟨rfl, v9, d1, f1, H9⟩)
                refine ⟨⟨bs'.drop (k + 1), v9, T2, ?_, ?_, ?_, hTw, hN2, H9.out.1, H9.out.2.1, H9.out.2.2.2⟩, ?_⟩
                · have r1 := H9.out.2.2.1.rest (lo := k + 1) q3
                  rw [if_pos rfl, show bs'.length - (k + 1) = 0 by omega, Nat.sub_self] at r1
                  exact r1
                · have r1 := HI.out.rest (lo := k + 1) q3 q4
                  rw [if_pos rfl, show bs'.length - (k + 1) = 0 by omega, Nat.sub_self] at r1
                  exact r1
                · have := HL.out.2.2
                  rw [List.length_drop]
                  omega
                · show 0 < bs'.length
                  omega
              · go_wp2_with (go_at_call 28; refine HK.out.mono ?_; clear HK; rintro e w9 ⟨rfl, v9, d1, f1, H9⟩)
                refine ⟨⟨bs'.drop (k + 1), v9, T2, ?_, ?_, ?_, hTw, hN2, H9.out.1, H9.out.2.1, H9.out.2.2.2⟩, ?_⟩
                · have r1 := H9.out.2.2.1.rest (lo := k + 1) q3
                  rw [if_neg hc1] at r1
                  exact r1
                · have r1 := HI.out.rest (lo := k + 1) q3 q4
                  rw [if_neg hc1] at r1
                  exact r1
                · have := HL.out.2.2
                  rw [List.length_drop]
                  omega
                · show bs'.length - (k + 1) < bs'.length
                  omega
            · have p2 : (y == 13) = false := by simpa using h13
              have hA' : Hid (∀ j, j < k + 1 → bs'.getD j 0 ≠ 13) := fun j h => by
                rcases (by omega : j < k ∨ j = k) with h | rfl
                · exact hA.out j h
                · rw [hy.out]; exact h13
              clear hcX h13 LX TX BX DX hPX
              go_wp2_with fail
              go_roundw
              case rel => exact ⟨k + 1, rfl, by omega, by go_num, trivial, hA'⟩
              case measure => simp [intOf]; omega
          · have q1 : ¬ (k : Int) < bs'.length := by omega
            have hall : ∀ z ∈ bs', z ≠ 13 := fun z hz => take_ne (k := k) hA.out z (by rw [List.take_of_length_le (by omega)]; exact hz)
            have hN : (S.next bs).1 = T.add bs' ∧ (S.next bs).2 = none := by rw [HTW.out.2.2, T.next_all bs' HTW.out.2.1 hall]; exact ⟨rfl, rfl⟩
            have hlen : bs'.length ≤ 4294967296 := by omega
            have HK : Hid (Calls Try.prog 28 #[.pointer (some ⟨p, 0, none⟩), .slice (some ⟨b, off, none⟩) bs'.length c] X fun e w9 => e = .returned (.tuple #[]) ∧ ∃ v9 d0 d1, w9.cell? ⟨p, 1, none⟩ = some (.int .i64 st') ∧ w9.frozen? ⟨p, 1, none⟩ = false ∧
                (w9.setCell ⟨p, 1, none⟩ (.int .i64 1)).cell? ⟨D, 0, none⟩ = some d0 ∧ (w9.setCell ⟨p, 1, none⟩ (.int .i64 1)).cell? ⟨D, 1, none⟩ = some d1 ∧ (w9.setCell ⟨p, 1, none⟩ (.int .i64 1)).frozen? ⟨D, 0, none⟩ = false ∧ (w9.setCell ⟨p, 1, none⟩ (.int .i64 1)).frozen? ⟨D, 1, none⟩ = false ∧
                Hid (TakeR P N p w v S bs v9 Ln.zero false (.slice none 0 0) (((w9.setCell ⟨p, 1, none⟩ (.int .i64 1)).setCell ⟨D, 0, none⟩ (.string Ln.zero.t)).setCell ⟨D, 1, none⟩ (.bool Ln.zero.long)) ∧ Bx 47 (((w9.setCell ⟨p, 1, none⟩ (.int .i64 1)).setCell ⟨D, 0, none⟩ (.string Ln.zero.t)).setCell ⟨D, 1, none⟩ (.bool Ln.zero.long)) D Ln.zero)) := by
              refine (keep_any N p X vX _ T.most st' T.held bs' T.long LX BX (HI.out.mono fun k hk => (hPX k (.inl hk)).2.1) HTW.out.1.hi HTW.out.1.room hlen).mono fun e w9 h9 => ⟨h9.1, ?_⟩
              obtain ⟨v9, L9, T9⟩ := h9.2
              have hp9 : Chg (fun k => k = p) w9 (w9.setCell ⟨p, 1, none⟩ (.int .i64 1)) := Chg.setCell (S := fun k => k = p) w9 ⟨p, 1, none⟩ _ rfl
              have D9 := (DX.kept T9.chg fun h => h.elim (hPX D (.inr rfl)).2.1 (hPX D (.inr rfl)).2.2).kept hp9 fun h => (hPX D (.inr rfl)).2.1 h
              obtain ⟨d0, d1, f0, f1⟩ := D9.c
              obtain ⟨s1, s2⟩ := D9.put Ln.zero
              have hPZ := Ls.stays ((TX.trans T9).trans (To.cell p 1 w9 v9 (.int .i64 1))) HP0.out
              refine ⟨v9, _, _, L9.c1, L9.fr 1, d0, d1, f0, f1, ⟨?_, ((HT0.out.trans TX).trans (T9.trans (To.cell p 1 w9 v9 _))).fresh s2 (Nat.le_of_eq HD.out), .inl ⟨hN.2, rfl, rfl, rfl⟩⟩, s1⟩
              rw [hN.1]
              refine Ls.kept ?_ s2 (fun e => (hPZ D (.inr rfl)).2.1 e.symm) (fun k hk e => (hPZ D (.inr rfl)).2.2 (e ▸ hk))
              have := L9.setS 1
              rw [HTW.out.1.long, st_add HTW.out.2.1 bs' h0]
              exact this
            clear hall hN hlen LX TX BX DX hPX
            go_wp2_with (go_at_call 28; refine HK.out.mono ?_; clear HK; rintro e w9 ⟨rfl, v9, d0, d1, g1, g2, g3, g4, g5, g6, H9⟩)
            obtain ⟨HE, HB⟩ := H9.out
            obtain ⟨z0, z1, _, _⟩ := HB.c
            clear HB H9
            try simp only [Exit.inBlock, Exit.then]
            try rw [Exit.noGoto_ret]
            obtain ⟨w10, hw10⟩ : ∃ w10, ((w9.setCell ⟨p, 1, none⟩ (.int .i64 1)).setCell ⟨D, 0, none⟩ (.string ⟨#[]⟩)).setCell ⟨D, 1, none⟩ (.bool false) = w10 := ⟨_, rfl⟩
            simp only [hw10] at z0 z1 HE ⊢
            refine bodyPost_ret (v := .tuple #[Ln.zero.v, .bool false, .slice none 0 0]) ?_ rfl ?_
            · simp [results, Try.results24, go_sem, z0, z1]
            · exact ⟨_, _, _, _, rfl, HE⟩
    · have q1 : ¬ (0 : Int) < bs'.length := by omega
      obtain rfl : bs' = [] := List.eq_nil_of_length_eq_zero (by omega)
      obtain ⟨d0, d1, f0, f1⟩ := hD.c
      obtain ⟨s1, s2⟩ := hD.put Ln.zero
      have hN : (S.next bs).1 = S' ∧ (S.next bs).2 = none := by rw [hn.out]; exact ⟨rfl, rfl⟩
      have LL := hL.kept s2 (fun e => (hP' D (.inr rfl)).2.1 e.symm) (fun k hk e => (hP' D (.inr rfl)).2.2 (e ▸ hk))
      have TL := (HT0.out.trans hT.out).fresh s2 (Nat.le_of_eq HD.out)
      obtain ⟨z0, z1, _, _⟩ := s1.c
      have HE : Hid (TakeR P N p w v S bs v' Ln.zero false (.slice none 0 0) ((wr.setCell ⟨D, 0, none⟩ (.string Ln.zero.t)).setCell ⟨D, 1, none⟩ (.bool Ln.zero.long))) :=
        ⟨by rw [hN.1]; exact LL, TL, .inl ⟨hN.2, rfl, rfl, rfl⟩⟩
      clear LL TL s1 s2 hN hL hB hI hP' hT hn hS' HT0 HP0 HD hD hle h0
      go_wp2_with fail
      try simp only [Exit.inBlock, Exit.then]
      try rw [Exit.noGoto_ret]
      obtain ⟨w10, hw10⟩ : ∃ w10, (wr.setCell ⟨D, 0, none⟩ (.string ⟨#[]⟩)).setCell ⟨D, 1, none⟩ (.bool false) = w10 := ⟨_, rfl⟩
      simp only [hw10] at z0 z1 HE ⊢
      refine bodyPost_ret (v := .tuple #[Ln.zero.v, .bool false, .slice none 0 0]) ?_ rfl ?_
      · simp [results, Try.results24, go_sem, z0, z1]
      · exact ⟨_, _, _, _, rfl, HE.out⟩
end Go.Proofs.Ytfbildadidfolaa
