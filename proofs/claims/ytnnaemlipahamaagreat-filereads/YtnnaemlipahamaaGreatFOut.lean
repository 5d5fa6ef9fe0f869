/-
  A transaction with the power on, by what it reads: Read, also out of range, and Write.
-/
import Derived.Test.YtnnaemlipahamaaGreatWUp
import Derived.Test.YtnnaemlipahamaaGreatAPool
import Derived.Deep.RegionWith
namespace Go.Proofs.YtnnaemlipahamaaGreat
open Go.RowKit Go.Maps

theorem MapIs.lookOut {w : World} {m nb : Nat} {f : Nat → Option Value} (h : MapIs w m nb f) (n : Int) (hw : -9223372036854775808 ≤ n ∧ n ≤ 9223372036854775807) (hn : ¬ (0 ≤ n ∧ n < nb)) :
    (Instr.lookup 81 (.map (some m)) (.int .i64 n) true).run Tryz.prog w = .ok (.tuple #[.slice none 0 0, .bool false]) w := by
  obtain ⟨c, D, ho, hD⟩ := h
  have hkey : keyOf Tryz.prog 3 (.int .i64 n) = some (.int .i64 n) := keyOf_int_mk Tryz.underlying3 (WalkArith.wf_i64 (by omega))
  obtain ⟨v, ps, hrun, hv⟩ := ho.look_ok law3 Tryz.underlying81 (zeroB w) (show hold (.slice none 0 0) = some (.held (.slice none 0 0), []) from rfl) hkey
  have hno : Maps.has D (.int .i64 n) = false := by
    cases hh : Maps.has D (.int .i64 n) with
    | false => rfl
    | true =>
      obtain ⟨k, hk, e⟩ := hD.keys _ hh
      simp [kn] at e
      exact absurd (show 0 ≤ n ∧ n < nb by omega) hn
  rw [hrun, hno]
  have e : DataW.held v = D.atKey (.int .i64 n) (.held (.slice none 0 0)) := by simpa [hold] using congrArg (Option.map Prod.fst) hv
  rw [atKey_of_not_has hno] at e
  cases e; rfl

section
variable {L : List Nat} {F G : Nat → Prop} {pd pl q K : Nat} {S : St} {com own : Nat → Option (List Int)} {pend wrote m mt N : Nat} {live : Bool} {V Vt : Nat → Value} {X : Nat → Prop} {w0 w w' : World} {f : Nat → List Int}
set_option maxHeartbeats 1600000 in
theorem tread_out (n : Int) (w : World) (h : Tk w F G pd pl q K S com pend live own wrote m V mt Vt) (hw : -9223372036854775808 ≤ n ∧ n ≤ 9223372036854775807) (hn : ¬ (0 ≤ n ∧ n < K)) (hoff : S.off = false) :
    Calls Tryz.prog 68 #[.pointer (some ⟨q, 0, none⟩), .int .i64 n] w fun e w' => e = .returned (.tuple #[.slice none 0 0, .int .i64 1]) ∧ w' = w := by
  have HK : Hid (Tk w F G pd pl q K S com pend live own wrote m V mt Vt) := h
  have t0 := h.tx.c0
  have t1 := h.tx.c1
  have c0 := h.lk.lg.c0
  have lk := h.tx.mb.map.lookOut n hw hn
  have HN : Hid (¬ (0 ≤ n ∧ n < K)) := hn
  clear h hn hw
  go_enter Tryz.func68, Tryz.ntmps68
  go_wp2_with fail
  refine (off_any F pd S w HK.out.lk.dk).mono ?_
  rintro e w2 ⟨rfl, rfl⟩
  rw [hoff]
  go_wp2_with fail
  refine (lread_out n w2 HK.out.lk HN.out).mono ?_
  rintro e w3 ⟨rfl, rfl⟩
  clear HK
  go_wp2
  go_ret2
  exact ⟨rfl, rfl⟩
theorem tread_out_up (n : Int) (h : TxUp X w0 w pd pl q K f com pend live own wrote N) (hw : -9223372036854775808 ≤ n ∧ n ≤ 9223372036854775807) (hn : ¬ (0 ≤ n ∧ n < K)) :
    Calls Tryz.prog 68 #[.pointer (some ⟨q, 0, none⟩), .int .i64 n] w fun e w' => e = .returned (.tuple #[.slice none 0 0, .int .i64 1]) ∧ w' = w := by
  obtain ⟨F, G, S, m, V, mt, Vt, h1, h2, h3, _⟩ := h
  exact tread_out n w h1 hw hn h3
end

/-- A transaction by what it reads: V; f lasts, com was committed; it can write all blocks of the log. -/
def Tv (L : List Nat) (X : Nat → Prop) (w0 w : World) (pd pl q K : Nat) (f : Nat → List Int) (com : Nat → Option (List Int)) (pend N : Nat) (V : Nat → List Int) : Prop :=
  ∃ own wrote, TxUp X w0 w pd pl q K f com pend true own wrote N ∧ (∀ n, ovr (ovr f com) own n = V n) ∧ N < 1000000000 ∧ K ≤ 16319 ∧ (∀ n, own n ≠ none → n ∈ L) ∧ L.length ≤ 63
section
variable {L : List Nat} {X X' : Nat → Prop} {w0 w w' w1 : World} {pd pl q K : Nat} {f : Nat → List Int} {com : Nat → Option (List Int)} {pend N : Nat} {V : Nat → List Int}
theorem Tv.more (h : Tv L X w0 w pd pl q K f com pend N V) (hc : Chg (fun _ => False) w w') : Tv L X w0 w' pd pl q K f com pend N V := by
  obtain ⟨own, wrote, h1, h2⟩ := h
  exact ⟨own, wrote, h1.more hc, h2⟩
theorem Tv.add (h : Tv L X w0 w pd pl q K f com pend N V) (hc : Chg (fun _ => False) w w') : Tv L (addX X w.heap.size w'.heap.size) w0 w' pd pl q K f com pend N V := by
  obtain ⟨own, wrote, h1, h2⟩ := h
  exact ⟨own, wrote, h1.add hc, h2⟩
theorem Tv.less (h : Tv L X w0 w pd pl q K f com pend N V) (hx : ∀ b, X' b → X b) : Tv L X' w0 w pd pl q K f com pend N V := by
  obtain ⟨own, wrote, h1, h2⟩ := h
  exact ⟨own, wrote, h1.less hx, h2⟩
theorem Tv.chg (h : Tv L X w0 w pd pl q K f com pend N V) : Chg (fun _ => False) w0 w := by
  obtain ⟨own, wrote, h1, h2⟩ := h
  exact h1.chg
theorem Tv.xlt (h : Tv L X w0 w pd pl q K f com pend N V) : ∀ b, X b → b < w.heap.size := by
  obtain ⟨own, wrote, ⟨F, G, S, m, Vv, mt, Vt, h1, h2, h3, h4, h5, h6, h7, h8⟩, _⟩ := h
  exact fun b hb => (h7.x b hb).1
theorem Tv.start (h : TxUp X w0 w pd pl q K f com pend true (fun _ => none) 0 N) (hN : N < 1000000000) (hK : K ≤ 16319) (hL : L.length ≤ 63) : Tv L X w0 w pd pl q K f com pend N (ovr f com) :=
  ⟨_, _, h, fun _ => ovr_none rfl, hN, hK, fun _ h => absurd rfl h, hL⟩
theorem Tv.len (h : Tv L X w0 w pd pl q K f com pend N V) {n : Nat} (hn : n < K) : (V n).length = 512 := by
  obtain ⟨own, wrote, h1, h2, _, _, _⟩ := h
  rw [← h2 n]
  have hl := h1.lt n
  cases ho : own n with
  | some b => rw [ovr_some ho]; exact (hl b ho).2
  | none =>
    rw [ovr_none ho]
    obtain ⟨F, G, S, m, Vv, mt, Vt, h3, h4, h5, h6, h7, h8, h9, h10⟩ := h1
    cases hc : com n with
    | some b => rw [ovr_some hc]; exact (h3.lk.lg.mb.row n b hc).2.1
    | none =>
      rw [ovr_none hc, ← h4.last hn]
      exact St.last_len h4.wf (by have := h4.nb; omega)
theorem ks_le (K : Nat) (own : Nat → Option (List Int)) : (ks K own).length ≤ K := by
  unfold ks
  exact Nat.le_trans (List.length_filter_le _ _) (by simp)
theorem len_le_of_sub : ∀ (l : List Nat), l.Nodup → ∀ L : List Nat, (∀ n, n ∈ l → n ∈ L) → l.length ≤ L.length := by
  intro l
  induction l with
  | nil => intro _ L _; simp
  | cons a r ih =>
    intro hnd L hs
    rw [List.nodup_cons] at hnd
    have ha := hs a List.mem_cons_self
    have := ih hnd.2 (L.erase a) (fun n hn => (List.mem_erase_of_ne (by intro e; subst e; exact hnd.1 hn)).2 (hs n (List.mem_cons_of_mem _ hn)))
    rw [List.length_erase_of_mem ha] at this
    have := List.length_pos_of_mem ha
    simp only [List.length_cons]; omega
theorem ks_lt_of {own : Nat → Option (List Int)} {n : Nat} (h5 : ∀ n, own n ≠ none → n ∈ L) (hL : n ∈ L) (ho : own n = none) : (ks K own).length < L.length := by
  have := len_le_of_sub (ks K own) (by unfold ks; exact List.nodup_range.filter _) (L.erase n) (fun m hm => by
    have hm' : own m ≠ none := by
      unfold ks at hm
      rw [List.mem_filter] at hm
      intro e; rw [e] at hm; simp at hm
    exact (List.mem_erase_of_ne (by intro e; subst e; exact hm' ho)).2 (h5 m hm'))
  rw [List.length_erase_of_mem hL] at this
  have := List.length_pos_of_mem hL
  omega
theorem tv_read (n : Nat) (h : Tv L X w0 w pd pl q K f com pend N V) (hn : n < K) :
    Calls Tryz.prog 68 #[.pointer (some ⟨q, 0, none⟩), .int .i64 (n : Int)] w fun e w' => ∃ u, e = .returned (.tuple #[u, .int .i64 0]) ∧ Fresh w w' u (V n) := by
  obtain ⟨own, wrote, h1, h2, h3, _⟩ := h
  rw [← h2 n]
  exact tread_up n h1 hn h3
theorem tv_read_out (n : Int) (h : Tv L X w0 w pd pl q K f com pend N V) (hw : -9223372036854775808 ≤ n ∧ n ≤ 9223372036854775807) (hn : ¬ (0 ≤ n ∧ n < K)) :
    Calls Tryz.prog 68 #[.pointer (some ⟨q, 0, none⟩), .int .i64 n] w fun e w' => e = .returned (.tuple #[.slice none 0 0, .int .i64 1]) ∧ w' = w := by
  obtain ⟨own, wrote, h1, h2, h3, _⟩ := h
  exact tread_out_up n h1 hw hn
theorem tv_write (n : Nat) (bs : List Int) (ua : Option Addr) (uc : Nat) (h : Tv L X w0 w1 pd pl q K f com pend N V) (hb : NewB w1 w (.slice ua 512 uc) bs) (hl : bs.length = 512) (hn : n < K) (hL : n ∈ L) :
    Calls Tryz.prog 77 #[.pointer (some ⟨q, 0, none⟩), .int .i64 (n : Int), .slice ua 512 uc] w fun e w' => e = .returned (.int .i64 0) ∧ Tv L X w0 w' pd pl q K f com pend N (upd V n bs) ∧ Sm X w w' := by
  obtain ⟨own, wrote, h1, h2, h3, h4, h5, h6⟩ := h
  have hi := h1.inv
  have hr : own n ≠ none ∨ wrote < 63 := by
    by_cases ho : own n = none
    · right
      have := ks_lt_of (K := K) h5 hL ho
      omega
    · exact .inl ho
  refine (write_up n bs ua uc h1 hb hl hn hr).mono ?_
  rintro e w' ⟨rfl, ht, hs⟩
  refine ⟨rfl, ⟨_, _, ht, fun k => ?_, h3, h4, fun k hk => ?_, h6⟩, hs⟩
  · by_cases e : k = n
    · subst e; rw [upd_same]; exact ovr_some (upd_same _ _ _)
    · rw [upd_other _ _ e, ← h2 k]; unfold ovr; rw [upd_other _ _ e]
  · by_cases e : k = n
    · subst e; exact hL
    · rw [upd_other _ _ e] at hk; exact h5 k hk
theorem Tv.wide {L' : List Nat} (h : Tv L X w0 w pd pl q K f com pend N V) (hL : ∀ n, n ∈ L → n ∈ L') (hl : L'.length ≤ 63) : Tv L' X w0 w pd pl q K f com pend N V := by
  obtain ⟨own, wrote, h1, h2, h3, h4, h5, h6⟩ := h
  exact ⟨own, wrote, h1, h2, h3, h4, fun n hn => hL n (h5 n hn), hl⟩
theorem Tv.kle (h : Tv L X w0 w pd pl q K f com pend N V) : K ≤ 16319 := by
  obtain ⟨own, wrote, h1, h2, h3, h4, h5, h6⟩ := h
  exact h4
end
end Go.Proofs.YtnnaemlipahamaaGreat

namespace Go.Proofs.YtnnaemlipahamaaGreat
open Go.RowKit Go.Maps

section
variable {L : List Nat} {X : Nat → Prop} {w0 w w1 : World} {pd pl q K : Nat} {f : Nat → List Int} {com : Nat → Option (List Int)} {pend N : Nat} {V : Nat → List Int}
/-- Bytes of 512 that are new since w, at the head of a block of their own. -/
structure NewM (w w' : World) (u : Value) (g : Nat) (bs : List Int) : Prop where
  mp : Mp w' g u bs
  chg : Chg (fun _ => False) w w'
  new : w.heap.size ≤ g
  len : bs.length = 512
  form : ∃ c, u = .slice (some ⟨g, 0, none⟩) 512 c
theorem Fresh.newM {w w1 w' : World} {u : Value} {bs : List Int} (h : Fresh w1 w' u bs) (hl : bs.length = 512) (hc : Chg (fun _ => False) w w1) : ∃ g, NewM w w' u g bs := by
  obtain ⟨g, hm, hg⟩ := Mp.ofOwns h.own
  rcases hm with ⟨_, e⟩ | ⟨c, cur, ty, rfl, hb, h1, h2, h3⟩
  · rw [e] at hl; cases hl
  · refine ⟨g, .inr ⟨c, cur, ty, rfl, hb, h1, h2, h3⟩, hc.trans h.chg (fun _ _ h => h), ?_, hl, c, by rw [hl]⟩
    have := h.new g rfl
    have := hc.size
    omega
theorem NewM.newB {w' : World} {u : Value} {g : Nat} {bs : List Int} (h : NewM w w' u g bs) : NewB w w' u bs := by
  obtain ⟨c, rfl⟩ := h.form
  exact ⟨h.mp.bs, h.chg, fun b e => by cases e; exact h.new⟩
theorem NewM.step {S : Nat → Prop} {w' w'' : World} {u : Value} {g : Nat} {bs bs' : List Int} (h : NewM w w' u g bs) (hm : Mp w'' g u bs') (hl : bs'.length = 512) (hc : Chg S w' w'') (hs : ∀ b, S b → b = g) : NewM w w'' u g bs' :=
  ⟨hm, h.chg.trans hc (fun b hb e => by have := hs b e; have := h.new; omega), h.new, hl, h.form⟩
theorem NewM.more {w' w'' : World} {u : Value} {g : Nat} {bs : List Int} (h : NewM w w' u g bs) (hc : Chg (fun _ => False) w' w'') : NewM w w'' u g bs :=
  h.step (h.mp.kept hc (fun h => h)) h.len hc (fun _ h => h.elim)

theorem part_any (M i : Nat) (F n : Int) (h : Tv L X w0 w pd pl q K f com pend N V) (hi : M + i < K) :
    Calls Tryz.prog 33 #[PV M F n, .pointer (some ⟨q, 0, none⟩), .int .i64 (i : Int)] w fun e w' => ∃ u g, e = .returned (.tuple #[u, .int .i64 0]) ∧ NewM w w' u g (V (M + i)) := by
  have h1 := h.more (Chg.alloc (fun _ => False) w (PO M F n))
  have hl := h.len hi
  have RD : Hid (Calls Tryz.prog 68 #[.pointer (some ⟨q, 0, none⟩), .int .i64 ((M : Int) + (i : Int))] (w.alloc (PO M F n)) fun e w' => ∃ u g, e = .returned (.tuple #[u, .int .i64 0]) ∧ NewM w w' u g (V (M + i))) := by
    rw [← Int.natCast_add]
    refine (tv_read (M + i) h1 hi).mono ?_
    rintro e w' ⟨u, rfl, fr⟩
    obtain ⟨g, hg⟩ := fr.newM hl (Chg.alloc (fun _ => False) w (PO M F n))
    exact ⟨u, g, rfl, hg⟩
  have hK : K ≤ 16319 := h.kle
  clear h h1 hl
  unfold PO at RD
  unfold PV
  go_enter Tryz.func33, Tryz.ntmps33
  go_wp2_with fail
  refine RD.out.mono ?_
  rintro e w' ⟨u, g, rfl, hn⟩
  have HN : Hid (NewM w w' u g (V (M + i))) := hn
  clear hn RD
  go_wp2
  go_ret2
  exact ⟨_, _, rfl, HN.out⟩
theorem store_any (M i : Nat) (F n : Int) (u : Value) (g : Nat) (bs : List Int) (h : Tv L X w0 w1 pd pl q K f com pend N V) (hb : NewM w1 w u g bs) (hi : M + i < K) (hL : M + i ∈ L) :
    Calls Tryz.prog 61 #[PV M F n, .pointer (some ⟨q, 0, none⟩), .int .i64 (i : Int), u] w fun e w' => e = .returned (.int .i64 0) ∧ Tv L X w0 w' pd pl q K f com pend N (upd V (M + i) bs) ∧ Sm X w w' := by
  have hx := h.xlt
  have hsz := hb.chg.size
  obtain ⟨c, rfl⟩ := hb.form
  have WR : Hid (Calls Tryz.prog 77 #[.pointer (some ⟨q, 0, none⟩), .int .i64 ((M : Int) + (i : Int)), .slice (some ⟨g, 0, none⟩) 512 c] (w.alloc (PO M F n)) fun e w' => e = .returned (.int .i64 0) ∧ Tv L X w0 w' pd pl q K f com pend N (upd V (M + i) bs) ∧ Sm X w w') := by
    rw [← Int.natCast_add]
    refine (tv_write (M + i) bs _ c h (hb.more (Chg.alloc (fun _ => False) w (PO M F n))).newB hb.len hi hL).mono ?_
    rintro e w' ⟨rfl, ht, hs⟩
    refine ⟨rfl, ht, fun b hb => (hs b hb).trans ?_⟩
    have := hx b hb
    exact (Chg.alloc (fun _ => False) w (PO M F n)).block b (by omega) (fun h => h)
  have hK : K ≤ 16319 := h.kle
  clear h hb hx hsz
  unfold PO at WR
  unfold PV
  go_enter Tryz.func61, Tryz.ntmps61
  go_wp2_with fail
  refine WR.out.mono ?_
  rintro e w' ⟨rfl, hn⟩
  have HN : Hid (Tv L X w0 w' pd pl q K f com pend N (upd V (M + i) bs) ∧ Sm X w w') := hn
  clear hn WR
  go_wp2
  go_ret
  exact ⟨rfl, HN.out⟩
theorem part_out (M i : Nat) (F n : Int) (h : Tv L X w0 w pd pl q K f com pend N V) (hi : K ≤ M + i) (hM : M ≤ 1000000000) (hi2 : i ≤ 1000000000) :
    Calls Tryz.prog 33 #[PV M F n, .pointer (some ⟨q, 0, none⟩), .int .i64 (i : Int)] w fun e w' => e = .returned (.tuple #[.slice none 0 0, .int .i64 1]) ∧ Chg (fun _ => False) w w' := by
  have h1 := h.more (Chg.alloc (fun _ => False) w (PO M F n))
  have RD : Hid (Calls Tryz.prog 68 #[.pointer (some ⟨q, 0, none⟩), .int .i64 ((M : Int) + (i : Int))] (w.alloc (PO M F n)) fun e w' => e = .returned (.tuple #[.slice none 0 0, .int .i64 1]) ∧ Chg (fun _ => False) w w') := by
    refine (tv_read_out ((M : Int) + (i : Int)) h1 (by omega) (by omega)).mono ?_
    rintro e w' ⟨rfl, rfl⟩
    exact ⟨rfl, Chg.alloc (fun _ => False) w (PO M F n)⟩
  clear h h1
  unfold PO at RD
  unfold PV
  go_enter Tryz.func33, Tryz.ntmps33
  go_wp2_with fail
  refine RD.out.mono ?_
  rintro e w' ⟨rfl, hn⟩
  have HN : Hid (Chg (fun _ => False) w w') := hn
  clear hn RD
  go_wp2
  go_ret2
  exact ⟨rfl, HN.out⟩
set_option maxHeartbeats 1600000 in
theorem stands_ok (M F n : Nat) (h : Tv L X w0 w pd pl q K f com pend N V) (hF : F ≤ 1073741824) (h1 : 1 ≤ n) (h2 : n ≤ 16384) (hM : M + mapsN n ≤ K) :
    Calls Tryz.prog 30 #[PV M F n, .pointer (some ⟨q, 0, none⟩)] w fun e w' => e = .returned (.int .i64 0) ∧ Chg (fun _ => False) w w' := by
  have hK : K ≤ 16319 := h.kle
  have hb := PAt.box w M F n
  have RT : Hid (Calls Tryz.prog 66 #[PV M F n, .int .i64 16319] (w.alloc (PO M F n)) fun e w' => e = .returned (.bool true) ∧ Chg (fun _ => False) (w.alloc (PO M F n)) w') := right_yes M F n 16319 _ hF h1 h2 (by omega) (by omega)
  have MP : Hid (∀ w : World, Calls Tryz.prog 67 #[PV M F n] w fun e w' => e = .returned (.int .i64 (mapsN n : Int)) ∧ w' = w.alloc (PO M F n)) := fun w => maps_yes M F n w h1 h2
  have hmp := mapsN_pos n
  have PT : Hid (∀ w' : World, Chg (fun _ => False) w w' → Calls Tryz.prog 33 #[PV M F n, .pointer (some ⟨q, 0, none⟩), .int .i64 ((mapsN n : Int) - 1)] w' fun e w'' => ∃ u, e = .returned (.tuple #[u, .int .i64 0]) ∧ Chg (fun _ => False) w w'') := fun w' hc => by
    have e : (mapsN n : Int) - 1 = ((mapsN n - 1 : Nat) : Int) := by omega
    rw [e]
    refine (part_any M (mapsN n - 1) F n (h.more hc) (by omega)).mono ?_
    rintro e w'' ⟨u, g, rfl, hn⟩
    exact ⟨u, rfl, hc.trans hn.chg (fun _ _ h => h)⟩
  have hm4 := mapsN_le h2
  obtain ⟨m, hm⟩ : ∃ m, mapsN n = m := ⟨_, rfl⟩
  rw [hm] at MP PT hmp hm4
  have wr : IntKind.i64.wrap ((m : Int) - 1) = (m : Int) - 1 := by rw [IntKind.wrap_i64]; omega
  clear hm h hM h1 h2 hF
  unfold PV PO at *
  go_enter Tryz.func30, Tryz.ntmps30
  go_wp2_with fail
  refine RT.out.mono ?_
  rintro e w2 ⟨rfl, hc⟩
  have HC : Hid (Chg (fun _ => False) w w2) := (Chg.alloc (fun _ => False) w _).trans hc (fun _ _ h => h)
  have hb2 := hb.kept hc (fun h => h)
  have hp0 := hb2.c0
  have hp1 := hb2.c1
  have hp2 := hb2.c2
  have hlt : w.heap.size < w2.heap.size := by have := hc.size; simp at this; omega
  clear RT hb hb2 hc
  go_wp2_with fail
  go_region_with (first | (go_at_call 67; refine (MP.out _).mono ?_; rintro e w3 ⟨rfl, rfl⟩) | (go_at_call 33; refine (PT.out _ (HC.out.trans ((Chg.alloc (fun _ => False) _ _).trans (Chg.drew (fun _ => False) _) (fun _ _ h => h)) (fun _ _ h => h))).mono ?_; rintro e w4 ⟨u, rfl, hw4⟩))
  all_goals
    have HW : Hid (Chg (fun _ => False) w w4) := hw4
    clear hw4
    go_wp2
    go_ret
    exact ⟨rfl, HW.out⟩
set_option maxHeartbeats 1600000 in
theorem stands_far (M F n : Nat) (h : Tv L X w0 w pd pl q K f com pend N V) (hF : F ≤ 1073741824) (h1 : 1 ≤ n) (h2 : n ≤ 16384) (hM : M + mapsN n ≤ 16319) (hM2 : K < M + mapsN n) :
    Calls Tryz.prog 30 #[PV M F n, .pointer (some ⟨q, 0, none⟩)] w fun e w' => e = .returned (.int .i64 1) ∧ Chg (fun _ => False) w w' := by
  have hb := PAt.box w M F n
  have RT : Hid (Calls Tryz.prog 66 #[PV M F n, .int .i64 16319] (w.alloc (PO M F n)) fun e w' => e = .returned (.bool true) ∧ Chg (fun _ => False) (w.alloc (PO M F n)) w') := right_yes M F n 16319 _ hF h1 h2 (by omega) (by omega)
  have MP : Hid (∀ w : World, Calls Tryz.prog 67 #[PV M F n] w fun e w' => e = .returned (.int .i64 (mapsN n : Int)) ∧ w' = w.alloc (PO M F n)) := fun w => maps_yes M F n w h1 h2
  have hmp := mapsN_pos n
  have PT : Hid (∀ w' : World, Chg (fun _ => False) w w' → Calls Tryz.prog 33 #[PV M F n, .pointer (some ⟨q, 0, none⟩), .int .i64 ((mapsN n : Int) - 1)] w' fun e w'' => e = .returned (.tuple #[.slice none 0 0, .int .i64 1]) ∧ Chg (fun _ => False) w w'') := fun w' hc => by
    have e : (mapsN n : Int) - 1 = ((mapsN n - 1 : Nat) : Int) := by omega
    rw [e]
    refine (part_out M (mapsN n - 1) F n (h.more hc) (by omega) (by omega) (by have := mapsN_le h2; omega)).mono ?_
    rintro e w'' ⟨rfl, hn⟩
    exact ⟨rfl, hc.trans hn (fun _ _ h => h)⟩
  have hm4 := mapsN_le h2
  obtain ⟨m, hm⟩ : ∃ m, mapsN n = m := ⟨_, rfl⟩
  rw [hm] at MP PT hmp hm4
  have wr : IntKind.i64.wrap ((m : Int) - 1) = (m : Int) - 1 := by rw [IntKind.wrap_i64]; omega
  clear hm h hM hM2 h1 h2 hF
  unfold PV PO at *
  go_enter Tryz.func30, Tryz.ntmps30
  go_wp2_with fail
  refine RT.out.mono ?_
  rintro e w2 ⟨rfl, hc⟩
  have HC : Hid (Chg (fun _ => False) w w2) := (Chg.alloc (fun _ => False) w _).trans hc (fun _ _ h => h)
  have hb2 := hb.kept hc (fun h => h)
  have hp0 := hb2.c0
  have hp1 := hb2.c1
  have hp2 := hb2.c2
  have hlt : w.heap.size < w2.heap.size := by have := hc.size; simp at this; omega
  clear RT hb hb2 hc
  go_wp2_with fail
  go_region_with (first | (go_at_call 67; refine (MP.out _).mono ?_; rintro e w3 ⟨rfl, rfl⟩) | (go_at_call 33; refine (PT.out _ (HC.out.trans ((Chg.alloc (fun _ => False) _ _).trans (Chg.drew (fun _ => False) _) (fun _ _ h => h)) (fun _ _ h => h))).mono ?_; rintro e w4 ⟨rfl, hw4⟩))
  all_goals
    have HW : Hid (Chg (fun _ => False) w w4) := hw4
    clear hw4
    go_wp2
    go_ret
    exact ⟨rfl, HW.out⟩
theorem stands_wrong (M F n : Int) (v : Value) (w : World) (hw : M ≤ 9223372036854775807) (h : ¬ (0 ≤ M ∧ 0 ≤ F ∧ F ≤ 1073741824 ∧ 1 ≤ n ∧ n ≤ 16384 ∧ M + (mapsN n.toNat : Int) ≤ 16319)) :
    Calls Tryz.prog 30 #[PV M F n, v] w fun e w' => e = .returned (.int .i64 1) ∧ Chg (fun _ => False) w w' := by
  have RT : Hid (Calls Tryz.prog 66 #[PV M F n, .int .i64 16319] (w.alloc (PO M F n)) fun e w' => e = .returned (.bool false) ∧ Chg (fun _ => False) (w.alloc (PO M F n)) w') := right_no M F n 16319 _ hw (by omega) (by omega) h
  clear h hw
  unfold PV PO at *
  go_enter Tryz.func30, Tryz.ntmps30
  go_wp2_with fail
  refine RT.out.mono ?_
  rintro e w2 ⟨rfl, hc⟩
  have HC : Hid (Chg (fun _ => False) w w2) := (Chg.alloc (fun _ => False) w _).trans hc (fun _ _ h => h)
  clear RT hc
  go_wp2
  go_ret
  exact ⟨rfl, HC.out⟩
/-- A pool that is not right in a log of K blocks. -/
theorem stands_no (M F n : Int) (h : Tv L X w0 w pd pl q K f com pend N V) (hw : M ≤ 9223372036854775807) (hr : ¬ (0 ≤ M ∧ 0 ≤ F ∧ F ≤ 1073741824 ∧ 1 ≤ n ∧ n ≤ 16384 ∧ M + (mapsN n.toNat : Int) ≤ (K : Int))) :
    Calls Tryz.prog 30 #[PV M F n, .pointer (some ⟨q, 0, none⟩)] w fun e w' => e = .returned (.int .i64 1) ∧ Chg (fun _ => False) w w' := by
  by_cases g : 0 ≤ M ∧ 0 ≤ F ∧ F ≤ 1073741824 ∧ 1 ≤ n ∧ n ≤ 16384 ∧ M + (mapsN n.toNat : Int) ≤ 16319
  · obtain ⟨M', rfl⟩ : ∃ M' : Nat, M = (M' : Int) := ⟨M.toNat, by omega⟩
    obtain ⟨F', rfl⟩ : ∃ F' : Nat, F = (F' : Int) := ⟨F.toNat, by omega⟩
    obtain ⟨n', rfl⟩ : ∃ n' : Nat, n = (n' : Int) := ⟨n.toNat, by omega⟩
    rw [Int.toNat_natCast] at g hr
    exact stands_far M' F' n' h (by omega) (by omega) (by omega) (by omega) (by omega)
  · exact stands_wrong M F n _ w hw g
end
end Go.Proofs.YtnnaemlipahamaaGreat

namespace Go.Proofs.YtnnaemlipahamaaGreat
open Go.RowKit Go.Maps

section
variable {L : List Nat} {X : Nat → Prop} {w0 w w1 : World} {pd pl q K : Nat} {f : Nat → List Int} {com : Nat → Option (List Int)} {pend N : Nat} {V : Nat → List Int} {T : Nat → Bool}
/-- A pool of a log with a transaction. -/
structure Pr (L : List Nat) (M F n K : Nat) : Prop where
  f : F ≤ 1073741824
  one : 1 ≤ n
  top : n ≤ 16384
  in' : M + mapsN n ≤ K
  all : ∀ i, i < mapsN n → M + i ∈ L
/-- The pool is at T, all else as in V. -/
def PTo (L : List Nat) (X : Nat → Prop) (w0 w : World) (pd pl q K : Nat) (f : Nat → List Int) (com : Nat → Option (List Int)) (pend N : Nat) (V : Nat → List Int) (M n : Nat) (T : Nat → Bool) (w' : World) : Prop :=
  ∃ V', Tv L X w0 w' pd pl q K f com pend N V' ∧ Bt V' M n T ∧ (∀ m, (m < M ∨ M + mapsN n ≤ m) → V' m = V m) ∧ Sm X w w'
theorem box_in (X : Nat → Prop) (w : World) (o : Obj) : addX X w.heap.size (w.alloc o).heap.size w.heap.size := .inr ⟨Nat.le_refl _, by simp⟩
theorem PAt.sm {Y : Nat → Prop} {w w' : World} {b : Nat} {M F n : Int} (h : PAt w b M F n) (hs : Sm Y w w') (hy : Y b) : PAt w' b M F n := ⟨hs.cell h.c0 hy, hs.cell h.c1 hy, hs.cell h.c2 hy⟩
theorem Sm.ofChg {Y : Nat → Prop} {w w' : World} (hc : Chg (fun _ => False) w w') (hy : ∀ b, Y b → b < w.heap.size) : Sm Y w w' := fun b hb => hc.block b (hy b hb) (fun h => h)

theorem PTo.less {Y : Nat → Prop} {M n : Nat} {w' : World} (h : PTo L Y w0 w1 pd pl q K f com pend N V M n T w') (hxy : ∀ b, X b → Y b) (hc : Chg (fun _ => False) w w1) (hx : ∀ b, X b → b < w.heap.size) : PTo L X w0 w pd pl q K f com pend N V M n T w' := by
  obtain ⟨V', h1, h2, h3, h4⟩ := h
  exact ⟨V', h1.less hxy, h2, h3, (Sm.ofChg hc hx).trans (fun b hb => h4 b (hxy b hb))⟩
/-- Part, First, Set, store: all that a round of Take meets where a bit is free. -/
theorem take_last {Y : Nat → Prop} (M F n i s : Nat) (u : Value) (g : Nat) (w w2 : World) (h : Tv L Y w0 w pd pl q K f com pend N V) (hu : NewM w w2 u g (V (M + i))) (hb : Bt V M n T) (hi : i < mapsN n) (hM : M + mapsN n ≤ K) (hL : M + i ∈ L) (hs : s < 4096) (hT : T (i * 4096 + s) = false) (hin : i * 4096 + s < n) :
    Calls Tryz.prog 108 #[u, .int .i64 (s : Int)] w2 fun e w3 => e = .returned (.bool true) ∧ Chg (fun b => b = g) w2 w3 ∧
      Hid (Calls Tryz.prog 61 #[PV M F n, .pointer (some ⟨q, 0, none⟩), .int .i64 (i : Int), u] w3 fun e w4 => e = .returned (.int .i64 0) ∧ Sm Y w3 w4 ∧ Hid (PTo L Y w0 w pd pl q K f com pend N V M n (upd T (i * 4096 + s) true) w4)) := by
  have hx := hb.by' i hi
  have hbit : bitN (V (M + i)) s = false := by
    rw [← hT, ← hb.bit _ hin, show (i * 4096 + s) / 4096 = i by omega, show (i * 4096 + s) % 4096 = s by omega]
  refine (set_new g u (V (M + i)) s w2 hu.mp hx.1 (by rw [hx.2]; omega) (by rw [hx.2]; omega) hbit).mono ?_
  rintro e w3 ⟨rfl, hm, hc⟩
  have hu3 := hu.step hm (by rw [flipN_len]; exact hx.2) hc (fun _ h => h)
  refine ⟨rfl, hc, (store_any M i F n u g _ h hu3 (by omega) hL).mono ?_⟩
  rintro e w4 ⟨rfl, ht, hsm⟩
  refine ⟨rfl, hsm, _, ht, ?_, fun m hm => upd_other _ _ (by omega), (Sm.ofChg hu3.chg h.xlt).trans hsm⟩
  have e := hb.flip hin
  rw [show (i * 4096 + s) / 4096 = i by omega, show (i * 4096 + s) % 4096 = s by omega, hT] at e
  exact e

/-- Part, size, First: what a round of Take looks at; r: what is found. -/
theorem take_look {Y : Nat → Prop} (M F n i : Nat) (r : Option Nat) (rv : Int) (rb : Bool) (w : World) (h : Tv L Y w0 w pd pl q K f com pend N V) (hb : Bt V M n T) (hi : i < mapsN n) (hp : Pr L M F n K) (hr : runI (V (M + i)) 0 (sizeN n i : Int) 1 = r) (hv : runV r = rv) (hi2 : r.isSome = rb) :
    Calls Tryz.prog 33 #[PV M F n, .pointer (some ⟨q, 0, none⟩), .int .i64 (i : Int)] w fun e w2 => ∃ u g, e = .returned (.tuple #[u, .int .i64 0]) ∧ Chg (fun _ => False) w w2 ∧
      Hid (Calls Tryz.prog 35 #[PV M F n, .int .i64 (i : Int)] w2 fun e w3 => ∃ z, e = .returned (.int .i64 z) ∧ Chg (fun _ => False) w w3 ∧
        Hid (Calls Tryz.prog 107 #[u, .int .i64 0, .int .i64 z] w3 fun e w4 => e = .returned (.tuple #[.int .i64 rv, .bool rb]) ∧ Hid (NewM w w4 u g (V (M + i))))) := by
  have hx := hb.by' i hi
  have hin := hp.in'
  refine (part_any M i F n h (by omega)).mono ?_
  rintro e w2 ⟨u, g, rfl, hu⟩
  refine ⟨u, g, rfl, hu.chg, (size_any M F n i w2 hp.one hp.top hi).mono ?_⟩
  rintro e w3 ⟨rfl, rfl⟩
  have hu3 := hu.more (Chg.alloc (fun _ => False) w2 (PO M F n))
  refine ⟨_, rfl, hu3.chg, (first_any u (V (M + i)) 0 _ _ hu3.mp.bs hx.1 (by rw [hx.2]; omega) (by omega)).mono ?_⟩
  rintro e w4 ⟨rfl, k, rfl⟩
  rw [hr]
  unfold placed
  rw [hv, hi2]
  exact ⟨rfl, hu3.more (Chg.drewN _ _ k)⟩

set_option maxHeartbeats 3200000 in
set_option maxRecDepth 100000 in
theorem take_ok (M F n k : Nat) (h : Tv L X w0 w pd pl q K f com pend N V) (hp : Pr L M F n K) (hb : Bt V M n T) (hk : k < n) (hT : T k = false) (hall : ∀ j, j < k → T j = true) :
    Calls Tryz.prog 76 #[PV M F n, .pointer (some ⟨q, 0, none⟩)] w fun e w' => e = .returned (.tuple #[.int .i64 ((F + k : Nat) : Int), .int .i64 0]) ∧ PTo L X w0 w pd pl q K f com pend N V M n (upd T k true) w' := by
  have HP : Hid (Pr L M F n K) := hp
  have HB : Hid (Bt V M n T) := hb
  have HT : Hid (T k = false) := hT
  have HA : Hid (∀ j, j < k → T j = true) := hall
  have hbx := PAt.box w M F n
  have h1 := h.add (Chg.alloc (fun _ => False) w (PO M F n))
  have hy := box_in X w (PO M F n)
  have H1 : Hid (Tv L (addX X w.heap.size (w.alloc (PO M F n)).heap.size) w0 (w.alloc (PO M F n)) pd pl q K f com pend N V) := h1
  have HX : Hid (∀ b, X b → b < w.heap.size) := h.xlt
  have ST : Hid (Calls Tryz.prog 30 #[PV M F n, .pointer (some ⟨q, 0, none⟩)] (w.alloc (PO M F n)) fun e w' => e = .returned (.int .i64 0) ∧ Chg (fun _ => False) (w.alloc (PO M F n)) w') := stands_ok M F n h1 hp.f hp.one hp.top hp.in'
  have MP : Hid (∀ w : World, Calls Tryz.prog 67 #[PV M F n] w fun e w' => e = .returned (.int .i64 (mapsN n : Int)) ∧ w' = w.alloc (PO M F n)) := fun w => maps_yes M F n w hp.one hp.top
  have hm4 := mapsN_le hp.top
  obtain ⟨Y, hY⟩ : ∃ Y, addX X w.heap.size (w.alloc (PO M F n)).heap.size = Y := ⟨_, rfl⟩
  rw [hY] at h1 hy H1
  have HY : Hid (Y w.heap.size ∧ ∀ b, X b → Y b) := ⟨hy, fun b hb => hY ▸ .inl hb⟩
  have hF := hp.f
  have hn := hp.top
  obtain ⟨w1, hw1⟩ : ∃ w1, w.alloc (PO M F n) = w1 := ⟨_, rfl⟩
  have HC1 : Hid (Chg (fun _ => False) w w1) := hw1 ▸ Chg.alloc (fun _ => False) w (PO M F n)
  rw [hw1] at H1 hbx ST
  have HW : Hid (w.alloc (PO M F n) = w1) := hw1
  obtain ⟨m, hm⟩ : ∃ m, mapsN n = m := ⟨_, rfl⟩
  have HM : Hid (mapsN n = m) := hm
  rw [hm] at MP hm4
  obtain ⟨fk, hfk⟩ : ∃ fk, F + k = fk := ⟨_, rfl⟩
  rw [hfk]
  have HF : Hid (F + k = fk) := hfk
  clear h hp hb hT hall h1 hy hw1 hY hm hfk
  unfold PV PO at *
  go_enter Tryz.func76, Tryz.ntmps76
  go_wp2_with fail
  rw [HW.out]
  refine ST.out.mono ?_
  rintro e w2 ⟨rfl, hc2⟩
  have HC2 : Hid (Chg (fun _ => False) w1 w2) := hc2
  have hb2 := hbx.kept hc2 (fun h => h)
  have p0 := hb2.c0
  have p1 := hb2.c1
  have p2 := hb2.c2
  clear ST hc2 hb2
  go_wp2_with fail
  refine (MP.out _).mono ?_
  rintro e w3 ⟨rfl, hw3⟩
  have HC3 : Hid (Chg (fun _ => False) w1 w3) := HC2.out.trans (hw3 ▸ Chg.alloc (fun _ => False) w2 _) (fun _ _ h => h)
  clear HC2 p0 p1 p2 hw3 MP
  go_wp2
  go_loopw [21] (fun x wr => ∃ i, i ≤ m ∧ i * 4096 ≤ k ∧ x = .int .i64 ((i : Nat) : Int) ∧ Hid (Chg (fun _ => False) w1 wr)) (fun x _ => m - (intOf x).toNat)
  case atStart => exact ⟨0, by omega, by omega, rfl, HC3⟩
  case round =>
    obtain ⟨i, hi, hik, rfl, HR⟩ := hrel
    clear HC3
    have him : i < m := by have := maps_lt hk; rw [HM.out] at this; omega
    have kim : (i : Int) < (m : Int) := by omega
    have H2 : Hid (Tv L Y w0 wr pd pl q K f com pend N V) := H1.out.more HR.out
    have hbr := hbx.kept HR.out (fun h => h)
    have p0 := hbr.c0
    have p1 := hbr.c1
    have p2 := hbr.c2
    by_cases hblk : k < (i + 1) * 4096
    · have FD : runI (V (M + i)) 0 (sizeN n i : Int) 1 = some (k - i * 4096) := by
        rcases HB.out.first (HM.out ▸ him) HP.out.one with ⟨_, h⟩ | ⟨s, hr, h1, h2, h3, h4⟩
        · have := h k hik (by omega)
          rw [HT.out] at this; cases this
        · have e : s = k - i * 4096 := by
            rcases Nat.lt_trichotomy (i * 4096 + s) k with e | e | e
            · have := HA.out _ e; rw [h3] at this; cases this
            · omega
            · have := h4 k hik e; rw [HT.out] at this; cases this
          rw [hr, e]
      have LKH : Hid _ := take_look M F n i _ ((k - i * 4096 : Nat) : Int) true wr H2.out HB.out (HM.out ▸ him) HP.out FD rfl rfl
      have hs : k - i * 4096 < 4096 := by omega
      have e1 : (F : Int) + (i : Int) * 4096 + ((k - i * 4096 : Nat) : Int) = (fk : Int) := by have := HF.out; omega
      have HL := fun u g w2 hu => take_last M F n i (k - i * 4096) u g wr w2 H2.out hu HB.out (HM.out ▸ him) HP.out.in' (HP.out.all _ (HM.out ▸ him)) hs (by rw [show i * 4096 + (k - i * 4096) = k by omega]; exact HT.out) (by omega)
      rw [show i * 4096 + (k - i * 4096) = k by omega] at HL
      have HLH : Hid _ := HL
      clear FD HL
      generalize k - i * 4096 = sk at *
      unfold PV at LKH HLH
      have hlt : w.heap.size < wr.heap.size := H2.out.xlt _ HY.out.1
      have HE : Hid _ := e1
      clear e1
      go_wp2_with fail
      refine (show Calls _ _ _ _ _ from LKH.out).mono ?_
      clear LKH
      rintro e w4 ⟨u, g, rfl, c4, SZ⟩
      have q0 := c4.cell p0 (fun h => h)
      have q1 := c4.cell p1 (fun h => h)
      have q2 := c4.cell p2 (fun h => h)
      clear c4
      go_wp2_with fail
      refine SZ.out.mono ?_
      clear SZ
      rintro e w5 ⟨z, rfl, c5, FS⟩
      clear c5
      go_wp2_with fail
      refine FS.out.mono ?_
      clear FS
      rintro e w6 ⟨rfl, HU⟩
      go_wp2_with fail
      refine (show Calls _ _ _ _ _ from HLH.out u g w6 HU.out).mono ?_
      clear HLH
      rintro e w7 ⟨rfl, c7, SR⟩
      have hne : ¬ w.heap.size = g := by have := HU.out.new; omega
      have cb := HU.out.chg
      have r0 := c7.cell (cb.cell p0 (fun h => h)) hne
      have r1 := c7.cell (cb.cell p1 (fun h => h)) hne
      have r2 := c7.cell (cb.cell p2 (fun h => h)) hne
      clear c7 hne cb
      go_wp2_with fail
      refine SR.out.mono ?_
      clear SR
      rintro e w8 ⟨rfl, s8, HO⟩
      have t1 := s8.cell r1 HY.out.1
      clear s8
      have HZ : Hid (PTo L X w0 w pd pl q K f com pend N V M n (upd T k true) w8) := HO.out.less HY.out.2 (HC1.out.trans HR.out (fun _ _ h => h)) HX.out
      clear HO
      go_wp2
      go_ret2
      rw [HE.out]
      exact ⟨rfl, HZ.out⟩
    · have FD : runI (V (M + i)) 0 (sizeN n i : Int) 1 = none := by
        rcases HB.out.first (HM.out ▸ him) HP.out.one with ⟨h, _⟩ | ⟨s, hr, h1, h2, h3, h4⟩
        · exact h
        · have := HA.out (i * 4096 + s) (by omega); rw [h3] at this; cases this
      have LKH : Hid _ := take_look M F n i _ 0 false wr H2.out HB.out (HM.out ▸ him) HP.out FD rfl rfl
      clear FD
      unfold PV at LKH
      go_wp2_with fail
      refine (show Calls _ _ _ _ _ from LKH.out).mono ?_
      clear LKH
      rintro e w4 ⟨u, g, rfl, c4, SZ⟩
      have q0 := c4.cell p0 (fun h => h)
      have q1 := c4.cell p1 (fun h => h)
      have q2 := c4.cell p2 (fun h => h)
      clear c4
      go_wp2_with fail
      refine SZ.out.mono ?_
      clear SZ
      rintro e w5 ⟨z, rfl, c5, FS⟩
      clear c5
      go_wp2_with fail
      refine FS.out.mono ?_
      clear FS
      rintro e w6 ⟨rfl, HU⟩
      have HR6 : Hid (Chg (fun _ => False) w1 w6) := HR.out.trans HU.out.chg (fun _ _ h => h)
      clear HU
      go_wp2
      go_roundw
      case rel => exact ⟨i + 1, by omega, by omega, by go_num, HR6⟩
      case measure => simp [intOf]; omega
set_option maxHeartbeats 3200000 in
set_option maxRecDepth 100000 in
theorem take_full (M F n : Nat) (h : Tv L X w0 w pd pl q K f com pend N V) (hp : Pr L M F n K) (hb : Bt V M n T) (hall : ∀ j, j < n → T j = true) :
    Calls Tryz.prog 76 #[PV M F n, .pointer (some ⟨q, 0, none⟩)] w fun e w' => e = .returned (.tuple #[.int .i64 0, .int .i64 7]) ∧ Chg (fun _ => False) w w' := by
  have HP : Hid (Pr L M F n K) := hp
  have HB : Hid (Bt V M n T) := hb
  have HA : Hid (∀ j, j < n → T j = true) := hall
  have hbx := PAt.box w M F n
  have h1 := h.add (Chg.alloc (fun _ => False) w (PO M F n))
  have hy := box_in X w (PO M F n)
  have H1 : Hid (Tv L (addX X w.heap.size (w.alloc (PO M F n)).heap.size) w0 (w.alloc (PO M F n)) pd pl q K f com pend N V) := h1
  have HX : Hid (∀ b, X b → b < w.heap.size) := h.xlt
  have ST : Hid (Calls Tryz.prog 30 #[PV M F n, .pointer (some ⟨q, 0, none⟩)] (w.alloc (PO M F n)) fun e w' => e = .returned (.int .i64 0) ∧ Chg (fun _ => False) (w.alloc (PO M F n)) w') := stands_ok M F n h1 hp.f hp.one hp.top hp.in'
  have MP : Hid (∀ w : World, Calls Tryz.prog 67 #[PV M F n] w fun e w' => e = .returned (.int .i64 (mapsN n : Int)) ∧ w' = w.alloc (PO M F n)) := fun w => maps_yes M F n w hp.one hp.top
  have hm4 := mapsN_le hp.top
  obtain ⟨Y, hY⟩ : ∃ Y, addX X w.heap.size (w.alloc (PO M F n)).heap.size = Y := ⟨_, rfl⟩
  rw [hY] at h1 hy H1
  have HY : Hid (Y w.heap.size ∧ ∀ b, X b → Y b) := ⟨hy, fun b hb => hY ▸ .inl hb⟩
  have hF := hp.f
  have hn := hp.top
  obtain ⟨w1, hw1⟩ : ∃ w1, w.alloc (PO M F n) = w1 := ⟨_, rfl⟩
  have HC1 : Hid (Chg (fun _ => False) w w1) := hw1 ▸ Chg.alloc (fun _ => False) w (PO M F n)
  rw [hw1] at H1 hbx ST
  have HW : Hid (w.alloc (PO M F n) = w1) := hw1
  obtain ⟨m, hm⟩ : ∃ m, mapsN n = m := ⟨_, rfl⟩
  have HM : Hid (mapsN n = m) := hm
  rw [hm] at MP hm4
  clear h hp hb hall h1 hy hw1 hY hm
  unfold PV PO at *
  go_enter Tryz.func76, Tryz.ntmps76
  go_wp2_with fail
  rw [HW.out]
  refine ST.out.mono ?_
  rintro e w2 ⟨rfl, hc2⟩
  have HC2 : Hid (Chg (fun _ => False) w1 w2) := hc2
  have hb2 := hbx.kept hc2 (fun h => h)
  have p0 := hb2.c0
  have p1 := hb2.c1
  have p2 := hb2.c2
  clear ST hc2 hb2
  go_wp2_with fail
  refine (MP.out _).mono ?_
  rintro e w3 ⟨rfl, hw3⟩
  have HC3 : Hid (Chg (fun _ => False) w1 w3) := HC2.out.trans (hw3 ▸ Chg.alloc (fun _ => False) w2 _) (fun _ _ h => h)
  clear HC2 p0 p1 p2 hw3 MP
  go_wp2
  go_loopw [21] (fun x wr => ∃ i, i ≤ m ∧ x = .int .i64 ((i : Nat) : Int) ∧ Hid (Chg (fun _ => False) w1 wr)) (fun x _ => m - (intOf x).toNat)
  case atStart => exact ⟨0, by omega, rfl, HC3⟩
  case round =>
    obtain ⟨i, hi, rfl, HR⟩ := hrel
    clear HC3
    have H2 : Hid (Tv L Y w0 wr pd pl q K f com pend N V) := H1.out.more HR.out
    have hbr := hbx.kept HR.out (fun h => h)
    have p0 := hbr.c0
    have p1 := hbr.c1
    have p2 := hbr.c2
    by_cases him : i < m
    · have kim : (i : Int) < (m : Int) := by omega
      have FD : runI (V (M + i)) 0 (sizeN n i : Int) 1 = none := by
        rcases HB.out.first (HM.out ▸ him) HP.out.one with ⟨h, _⟩ | ⟨s, hr, h1, h2, h3, h4⟩
        · exact h
        · have := HA.out (i * 4096 + s) h2; rw [h3] at this; cases this
      have LKH : Hid _ := take_look M F n i _ 0 false wr H2.out HB.out (HM.out ▸ him) HP.out FD rfl rfl
      clear FD
      unfold PV at LKH
      go_wp2_with fail
      refine (show Calls _ _ _ _ _ from LKH.out).mono ?_
      clear LKH
      rintro e w4 ⟨u, g, rfl, c4, SZ⟩
      have q0 := c4.cell p0 (fun h => h)
      have q1 := c4.cell p1 (fun h => h)
      have q2 := c4.cell p2 (fun h => h)
      clear c4
      go_wp2_with fail
      refine SZ.out.mono ?_
      clear SZ
      rintro e w5 ⟨z, rfl, c5, FS⟩
      clear c5
      go_wp2_with fail
      refine FS.out.mono ?_
      clear FS
      rintro e w6 ⟨rfl, HU⟩
      have HR6 : Hid (Chg (fun _ => False) w1 w6) := HR.out.trans HU.out.chg (fun _ _ h => h)
      clear HU
      go_wp2
      go_roundw
      case rel => exact ⟨i + 1, by omega, by go_num, HR6⟩
      case measure => simp [intOf]; omega
    · have kim : ¬ ((i : Int) < (m : Int)) := by omega
      have HZ : Hid (Chg (fun _ => False) w wr) := HC1.out.trans HR.out (fun _ _ h => h)
      go_wp2
      go_ret2
      exact ⟨rfl, HZ.out⟩
end
end Go.Proofs.YtnnaemlipahamaaGreat

namespace Go.Proofs.YtnnaemlipahamaaGreat
open Go.RowKit Go.Maps

section
variable {L : List Nat} {X : Nat → Prop} {w0 w w1 : World} {pd pl q K : Nat} {f : Nat → List Int} {com : Nat → Option (List Int)} {pend N : Nat} {V : Nat → List Int} {T : Nat → Bool}
theorem partOf_out (M F n : Int) (v : Value) (x : Int) (w : World) (hx : x < F ∨ (F ≤ x ∧ n ≤ x - F)) (hw : x - F ≤ 9223372036854775807) :
    Calls Tryz.prog 111 #[PV M F n, v, .int .i64 x] w fun e w' => e = .returned (.tuple #[.slice none 0 0, .int .i64 1]) ∧ Chg (fun _ => False) w w' := by
  unfold PV
  rcases hx with hx | ⟨h1, h2⟩
  · have k1 : decide (x < F) = true := by simpa using hx
    go_enter Tryz.func111, Tryz.ntmps111
    go_wp2
    go_ret2
    exact ⟨rfl, Chg.alloc (fun _ => False) w _⟩
  · have k1 : decide (x < F) = false := by simpa using h1
    have k2 : decide (n ≤ x - F) = true := by simpa using h2
    go_enter Tryz.func111, Tryz.ntmps111
    go_wp2
    go_ret2
    exact ⟨rfl, Chg.alloc (fun _ => False) w _⟩
theorem partOf_no (M F n : Int) (w : World) (h : Tv L X w0 w pd pl q K f com pend N V) (hw : M ≤ 9223372036854775807) (hn : 0 < n) (hr : ¬ (0 ≤ M ∧ 0 ≤ F ∧ F ≤ 1073741824 ∧ 1 ≤ n ∧ n ≤ 16384 ∧ M + (mapsN n.toNat : Int) ≤ (K : Int))) :
    Calls Tryz.prog 111 #[PV M F n, .pointer (some ⟨q, 0, none⟩), .int .i64 F] w fun e w' => e = .returned (.tuple #[.slice none 0 0, .int .i64 1]) ∧ Chg (fun _ => False) w w' := by
  have ST : Hid (Calls Tryz.prog 30 #[PV M F n, .pointer (some ⟨q, 0, none⟩)] (w.alloc (PO M F n)) fun e w' => e = .returned (.int .i64 1) ∧ Chg (fun _ => False) (w.alloc (PO M F n)) w') := stands_no M F n (h.more (Chg.alloc (fun _ => False) w _)) hw hr
  have k2 : decide (n ≤ 0) = false := by simpa using hn
  have e1 : F - F = 0 := by omega
  clear h hr hw
  unfold PV PO at *
  go_enter Tryz.func111, Tryz.ntmps111
  go_wp2_with fail
  refine ST.out.mono ?_
  rintro e w2 ⟨rfl, hc⟩
  have HC : Hid (Chg (fun _ => False) w w2) := (Chg.alloc (fun _ => False) w _).trans hc (fun _ _ h => h)
  clear hc ST
  go_wp2
  go_ret2
  exact ⟨rfl, HC.out⟩
theorem partOf_ok (M F n k : Nat) (h : Tv L X w0 w pd pl q K f com pend N V) (hp : Pr L M F n K) (hk : k < n) :
    Calls Tryz.prog 111 #[PV M F n, .pointer (some ⟨q, 0, none⟩), .int .i64 ((F + k : Nat) : Int)] w fun e w' => ∃ u g, e = .returned (.tuple #[u, .int .i64 0]) ∧ NewM w w' u g (V (M + k / 4096)) := by
  have h1 := h.more (Chg.alloc (fun _ => False) w (PO M F n))
  have hbx := PAt.box w M F n
  have ST : Hid (Calls Tryz.prog 30 #[PV M F n, .pointer (some ⟨q, 0, none⟩)] (w.alloc (PO M F n)) fun e w' => e = .returned (.int .i64 0) ∧ Chg (fun _ => False) (w.alloc (PO M F n)) w') := stands_ok M F n h1 hp.f hp.one hp.top hp.in'
  have hn := hp.top
  have hF := hp.f
  have PL : Hid (∀ w : World, Calls Tryz.prog 112 #[PV M F n, .int .i64 ((F + k : Nat) : Int)] w fun e w' => e = .returned (.tuple #[.int .i64 ((k / 4096 : Nat) : Int), .int .i64 ((k % 4096 : Nat) : Int)]) ∧ w' = w.alloc (PO M F n)) := fun w => place_any M F n k w (by omega) hF
  have PT : Hid (∀ w' : World, Chg (fun _ => False) w w' → Calls Tryz.prog 33 #[PV M F n, .pointer (some ⟨q, 0, none⟩), .int .i64 ((k / 4096 : Nat) : Int)] w' fun e w'' => ∃ u g, e = .returned (.tuple #[u, .int .i64 0]) ∧ NewM w w'' u g (V (M + k / 4096))) := fun w' hc => by
    refine (part_any M (k / 4096) F n (h.more hc) (by have := maps_lt hk; have := hp.in'; omega)).mono ?_
    rintro e w'' ⟨u, g, rfl, hu⟩
    exact ⟨u, g, rfl, hu.mp, hc.trans hu.chg (fun _ _ h => h), by have := hu.new; have := hc.size; omega, hu.len, hu.form⟩
  have k1 : decide (((F + k : Nat) : Int) < (F : Int)) = false := by simp; omega
  have e1 : ((F + k : Nat) : Int) - (F : Int) = (k : Int) := by omega
  have k2 : decide ((n : Int) ≤ (k : Int)) = false := by simp; omega
  have k3 : decide (n ≤ k) = false := by simp; omega
  have k4 : ¬ (F + k < F) := by omega
  have hfk : F + k ≤ 1073758208 := by omega
  generalize F + k = fk at *
  generalize k % 4096 = r at *
  generalize k / 4096 = i at *
  clear h h1 hp
  unfold PV PO at *
  go_enter Tryz.func111, Tryz.ntmps111
  go_wp2_with fail
  refine ST.out.mono ?_
  rintro e w2 ⟨rfl, hc⟩
  have HC : Hid (Chg (fun _ => False) w w2) := (Chg.alloc (fun _ => False) w _).trans hc (fun _ _ h => h)
  have hb2 := hbx.kept hc (fun h => h)
  have p0 := hb2.c0
  have p1 := hb2.c1
  have p2 := hb2.c2
  clear hc ST
  go_wp2_with fail
  refine (PL.out _).mono ?_
  rintro e w3 ⟨rfl, hw3⟩
  have hc3 : Chg (fun _ => False) w2 w3 := hw3 ▸ Chg.alloc (fun _ => False) w2 _
  have hb3 := hb2.kept hc3 (fun h => h)
  have q0 := hb3.c0
  have q1 := hb3.c1
  have q2 := hb3.c2
  have HC3 : Hid (Chg (fun _ => False) w w3) := HC.out.trans hc3 (fun _ _ h => h)
  clear hb3 hb2 hbx p0 p1 p2 hw3 hc3 HC PL
  go_wp2_with fail
  refine (PT.out _ HC3.out).mono ?_
  rintro e w4 ⟨u, g, rfl, hu⟩
  have HU : Hid (NewM w w4 u g (V (M + i))) := hu
  clear hu PT
  go_wp2
  go_ret2
  exact ⟨_, _, rfl, HU.out⟩

/-- partOf refused: Give and Has say so. -/
theorem give_err (M F n : Int) (v : Value) (x : Int) (w : World) (h : Calls Tryz.prog 111 #[PV M F n, v, .int .i64 x] (w.alloc (PO M F n)) fun e w' => e = .returned (.tuple #[.slice none 0 0, .int .i64 1]) ∧ Chg (fun _ => False) (w.alloc (PO M F n)) w') :
    Calls Tryz.prog 81 #[PV M F n, v, .int .i64 x] w fun e w' => e = .returned (.int .i64 1) ∧ Chg (fun _ => False) w w' := by
  have HP : Hid _ := h
  clear h
  unfold PV PO at *
  go_enter Tryz.func81, Tryz.ntmps81
  go_wp2_with fail
  refine (show Calls _ _ _ _ _ from HP.out).mono ?_
  rintro e w2 ⟨rfl, hc⟩
  have HC : Hid (Chg (fun _ => False) w w2) := (Chg.alloc (fun _ => False) w _).trans hc (fun _ _ h => h)
  clear hc HP
  go_wp2
  go_ret
  exact ⟨rfl, HC.out⟩
theorem give_out (M F n : Int) (v : Value) (x : Int) (w : World) (hx : x < F ∨ (F ≤ x ∧ n ≤ x - F)) (hw : x - F ≤ 9223372036854775807) :
    Calls Tryz.prog 81 #[PV M F n, v, .int .i64 x] w fun e w' => e = .returned (.int .i64 1) ∧ Chg (fun _ => False) w w' := give_err M F n v x w (partOf_out M F n v x _ hx hw)
/-- Place, Clear, store: what Give meets behind partOf. -/
theorem give_last {Y : Nat → Prop} (M F n k : Nat) (u : Value) (g : Nat) (w w2 : World) (h : Tv L Y w0 w pd pl q K f com pend N V) (hu : NewM w w2 u g (V (M + k / 4096))) (hb : Bt V M n T) (hp : Pr L M F n K) (hk : k < n) (hT : T k = true) :
    Calls Tryz.prog 113 #[u, .int .i64 ((k % 4096 : Nat) : Int)] w2 fun e w3 => e = .returned (.bool true) ∧ Chg (fun b => b = g) w2 w3 ∧
      Hid (Calls Tryz.prog 61 #[PV M F n, .pointer (some ⟨q, 0, none⟩), .int .i64 ((k / 4096 : Nat) : Int), u] w3 fun e w4 => e = .returned (.int .i64 0) ∧ Hid (PTo L Y w0 w pd pl q K f com pend N V M n (upd T k false) w4)) := by
  have hi := maps_lt hk
  have hin := hp.in'
  have hx := hb.by' (k / 4096) hi
  have hbit : bitN (V (M + k / 4096)) (k % 4096) = true := by rw [← hT, ← hb.bit _ hk]
  refine (clear_old g u (V (M + k / 4096)) (k % 4096) w2 hu.mp hx.1 (by rw [hx.2]; omega) (by rw [hx.2]; omega) hbit).mono ?_
  rintro e w3 ⟨rfl, hm, hc⟩
  have hu3 := hu.step hm (by rw [flipN_len]; exact hx.2) hc (fun _ h => h)
  refine ⟨rfl, hc, (store_any M (k / 4096) F n u g _ h hu3 (by omega) (hp.all _ hi)).mono ?_⟩
  rintro e w4 ⟨rfl, ht, hsm⟩
  refine ⟨rfl, _, ht, ?_, fun m hm => upd_other _ _ (by omega), (Sm.ofChg hu3.chg h.xlt).trans hsm⟩
  have e := hb.flip hk
  rw [hT] at e
  exact e
set_option maxHeartbeats 1600000 in
theorem give_ok (M F n k : Nat) (h : Tv L X w0 w pd pl q K f com pend N V) (hp : Pr L M F n K) (hb : Bt V M n T) (hk : k < n) (hT : T k = true) :
    Calls Tryz.prog 81 #[PV M F n, .pointer (some ⟨q, 0, none⟩), .int .i64 ((F + k : Nat) : Int)] w fun e w' => e = .returned (.int .i64 0) ∧ PTo L X w0 w pd pl q K f com pend N V M n (upd T k false) w' := by
  have hbx := PAt.box w M F n
  have hc1 := Chg.alloc (fun _ => False) w (PO M F n)
  have h1 := h.add hc1
  have hlt := h1.xlt _ (box_in X w (PO M F n))
  have PO' : Hid _ := partOf_ok M F n k h1 hp hk
  have hF := hp.f
  have hn := hp.top
  have PL : Hid (∀ w : World, Calls Tryz.prog 112 #[PV M F n, .int .i64 ((F + k : Nat) : Int)] w fun e w' => e = .returned (.tuple #[.int .i64 ((k / 4096 : Nat) : Int), .int .i64 ((k % 4096 : Nat) : Int)]) ∧ w' = w.alloc (PO M F n)) := fun w => place_any M F n k w (by omega) hF
  have GL : Hid (∀ u g w2, NewM (w.alloc (PO M F n)) w2 u g (V (M + k / 4096)) → Calls Tryz.prog 113 #[u, .int .i64 ((k % 4096 : Nat) : Int)] w2 fun e w3 => e = .returned (.bool true) ∧ Chg (fun b => b = g) w2 w3 ∧
      Hid (Calls Tryz.prog 61 #[PV M F n, .pointer (some ⟨q, 0, none⟩), .int .i64 ((k / 4096 : Nat) : Int), u] w3 fun e w4 => e = .returned (.int .i64 0) ∧ Hid (PTo L X w0 w pd pl q K f com pend N V M n (upd T k false) w4))) := fun u g w2 hu => (give_last M F n k u g _ w2 h1 hu hb hp hk hT).mono (by
    rintro e w3 ⟨rfl, c3, SR⟩
    refine ⟨rfl, c3, SR.out.mono ?_⟩
    rintro e w4 ⟨rfl, HO⟩
    exact ⟨rfl, HO.out.less (fun b hb => .inl hb) hc1 h.xlt⟩)
  clear h h1 hp hb hT hc1 hn hF hk
  generalize F + k = fk at *
  generalize k % 4096 = r at *
  generalize k / 4096 = i at *
  unfold PV PO at *
  go_enter Tryz.func81, Tryz.ntmps81
  go_wp2_with fail
  refine (show Calls _ _ _ _ _ from PO'.out).mono ?_
  clear PO'
  rintro e w2 ⟨u, g, rfl, hu⟩
  have hb2 := hbx.kept hu.chg (fun h => h)
  have p0 := hb2.c0
  have p1 := hb2.c1
  have p2 := hb2.c2
  have hne : ¬ w.heap.size = g := by have := hu.new; simp at this; omega
  have HU : Hid _ := hu
  clear hu hbx
  go_wp2_with fail
  refine (PL.out _).mono ?_
  clear PL
  rintro e w3 ⟨rfl, hw3⟩
  have hc3 : Chg (fun _ => False) w2 w3 := hw3 ▸ Chg.alloc (fun _ => False) w2 _
  have hb3 := hb2.kept hc3 (fun h => h)
  have CL : Hid _ := GL.out u g w3 (HU.out.more hc3)
  clear hb2 p0 p1 p2 hw3 hc3 GL HU
  go_wp2_with fail
  refine (show Calls _ _ _ _ _ from CL.out).mono ?_
  clear CL
  rintro e w4 ⟨rfl, c4, SR⟩
  have hb4 := hb3.kept c4 hne
  have q0 := hb4.c0
  have q1 := hb4.c1
  have q2 := hb4.c2
  clear c4 hb3 hb4 hne
  go_wp2_with fail
  refine SR.out.mono ?_
  clear SR
  rintro e w5 ⟨rfl, HO⟩
  go_wp2
  go_ret
  exact ⟨rfl, HO.out⟩
set_option maxHeartbeats 1600000 in
theorem give_free (M F n k : Nat) (h : Tv L X w0 w pd pl q K f com pend N V) (hp : Pr L M F n K) (hb : Bt V M n T) (hk : k < n) (hT : T k = false) :
    Calls Tryz.prog 81 #[PV M F n, .pointer (some ⟨q, 0, none⟩), .int .i64 ((F + k : Nat) : Int)] w fun e w' => e = .returned (.int .i64 1) ∧ Chg (fun _ => False) w w' := by
  have hbx := PAt.box w M F n
  have hc1 := Chg.alloc (fun _ => False) w (PO M F n)
  have h1 := h.more hc1
  have PO' : Hid _ := partOf_ok M F n k h1 hp hk
  have hF := hp.f
  have hn := hp.top
  have PL : Hid (∀ w : World, Calls Tryz.prog 112 #[PV M F n, .int .i64 ((F + k : Nat) : Int)] w fun e w' => e = .returned (.tuple #[.int .i64 ((k / 4096 : Nat) : Int), .int .i64 ((k % 4096 : Nat) : Int)]) ∧ w' = w.alloc (PO M F n)) := fun w => place_any M F n k w (by omega) hF
  have GL : Hid (∀ u g w2, NewM (w.alloc (PO M F n)) w2 u g (V (M + k / 4096)) → Calls Tryz.prog 113 #[u, .int .i64 ((k % 4096 : Nat) : Int)] w2 fun e w3 => e = .returned (.bool false) ∧ Hid (Chg (fun _ => False) w w3)) := fun u g w2 hu => by
    have hx := hb.by' (k / 4096) (maps_lt hk)
    refine (clear_not u _ ((k % 4096 : Nat) : Int) w2 hu.mp.bs hx.1 (by rw [hx.2]; omega) (by rw [bitI_nat, hb.bit _ hk, hT])).mono ?_
    rintro e w3 ⟨rfl, j, rfl⟩
    exact ⟨rfl, (hc1.trans hu.chg (fun _ _ h => h)).trans (Chg.drewN _ _ j) (fun _ _ h => h)⟩
  clear h h1 hp hb hT hc1 hn hF hk
  generalize F + k = fk at *
  generalize k % 4096 = r at *
  generalize k / 4096 = i at *
  unfold PV PO at *
  go_enter Tryz.func81, Tryz.ntmps81
  go_wp2_with fail
  refine (show Calls _ _ _ _ _ from PO'.out).mono ?_
  clear PO'
  rintro e w2 ⟨u, g, rfl, hu⟩
  have hb2 := hbx.kept hu.chg (fun h => h)
  have p0 := hb2.c0
  have p1 := hb2.c1
  have p2 := hb2.c2
  have HU : Hid _ := hu
  clear hu hbx
  go_wp2_with fail
  refine (PL.out _).mono ?_
  clear PL
  rintro e w3 ⟨rfl, hw3⟩
  have hc3 : Chg (fun _ => False) w2 w3 := hw3 ▸ Chg.alloc (fun _ => False) w2 _
  have CL : Hid _ := GL.out u g w3 (HU.out.more hc3)
  clear hb2 p0 p1 p2 hw3 hc3 GL HU
  go_wp2_with fail
  refine (show Calls _ _ _ _ _ from CL.out).mono ?_
  clear CL
  rintro e w4 ⟨rfl, HO⟩
  go_wp2
  go_ret
  exact ⟨rfl, HO.out⟩
end
end Go.Proofs.YtnnaemlipahamaaGreat
