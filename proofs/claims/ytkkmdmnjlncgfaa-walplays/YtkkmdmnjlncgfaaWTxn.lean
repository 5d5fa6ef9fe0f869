/-
  Contracts of Begin and Read of the log, and of isOpen, Writes, Read and Write of a transaction of package wal.
-/
import Derived.Test.YtkkmdmnjlncgfaaWSync
import Derived.Deep.RegionHeldLaw
namespace Go.Proofs.Ytkkmdmnjlncgfaa
open Go.RowKit Go.Maps

def ovOf (live : Bool) (q : Nat) : Value := if live then .pointer (some ⟨q, 0, none⟩) else .pointer none

theorem infoTx : ∃ j, Try.prog.info? 78 = some j ∧ j.size ≠ 0 := by
  have h : (Try.prog.info? 78).map (fun i => i.size) = some 3 := by kernel_rfl
  obtain ⟨i, hi, e⟩ := Option.map_eq_some_iff.1 h
  exact ⟨i, hi, by rw [e]; decide⟩
theorem eqT_same (a : Nat) (w : World) : (binOp .eql 35 (.pointer (some ⟨a, 0, none⟩)) (.pointer (some ⟨a, 0, none⟩))).run Try.prog w = .ok (.bool true) w := by
  obtain ⟨j, hj, hs⟩ := infoTx
  have h : ∀ d : Nat, (Op.equalIn (d + 1) 35 (.pointer (some ⟨a, 0, none⟩)) (.pointer (some ⟨a, 0, none⟩))).run Try.prog w = .ok true w := fun d => by
    simp [Op.equalIn, run_underlying Try.underlying35, sizeOf, typeInfo, hj, run_sameAddr_same]
  simp only [binOp]
  simp [Op.equal, Op.maxDepth, h 9999]
theorem eqT_nil (a : Addr) (w : World) : (binOp .eql 35 (.pointer none) (.pointer (some a))).run Try.prog w = .ok (.bool false) w := by kernel_rfl
theorem neT_nil (a : Addr) (w : World) : (binOp .neq 35 (.pointer (some a)) (.pointer none)).run Try.prog w = .ok (.bool true) w := by kernel_rfl
theorem neT_none (w : World) : (binOp .neq 35 (.pointer none) (.pointer none)).run Try.prog w = .ok (.bool false) w := by kernel_rfl

/-- A log and its transaction at q, open while it is live. -/
structure Tk (w : World) (F G : Nat → Prop) (pd pl q K : Nat) (S : St) (com : Nat → Option (List Int)) (pend : Nat) (live : Bool) (own : Nat → Option (List Int)) (wrote m : Nat) (V : Nat → Value) (mt : Nat) (Vt : Nat → Value) : Prop where
  lk : Lk w F G pd pl K S com pend (ovOf live q) m V
  tx : TxAt w G pl q K own wrote mt Vt
  ne : mt ≠ m

section
variable {F G : Nat → Prop} {pd pl q K : Nat} {S : St} {com own : Nat → Option (List Int)} {pend wrote : Nat} {ov : Value} {live : Bool} {m mt : Nat} {V Vt : Nat → Value}
theorem Tk.kept {w w' : World} (h : Tk w F G pd pl q K S com pend live own wrote m V mt Vt) (hc : Chg (fun _ => False) w w') : Tk w' F G pd pl q K S com pend live own wrote m V mt Vt := ⟨h.lk.kept hc, h.tx.kept hc (fun _ _ h => h), h.ne⟩
theorem Lk.mono {w : World} (h : Lk w F G pd pl K S com pend ov m V) {G' : Nat → Prop} (hG : ∀ b, G b → G' b) (hl : ∀ b, G' b → b < w.heap.size) (hno : ∀ b, F b → ¬ G' b) : Lk w F G' pd pl K S com pend ov m V := ⟨h.dk, h.lg.mono hG hl, hno, h.nb⟩

/-- What Begin leaves. -/
def BgTo (F G : Nat → Prop) (pd pl K : Nat) (S : St) (com : Nat → Option (List Int)) (pend m : Nat) (V : Nat → Value) (w : World) (e : Ending) (w' : World) : Prop :=
  ∃ q G' mt Vt, e = .returned (.tuple #[.pointer (some ⟨q, 0, none⟩), .int .i64 0]) ∧ Tk w' F G' pd pl q K S com pend true (fun _ => none) 0 m V mt Vt ∧ Chg (fun b => b = pl) w w' ∧ ∀ b, G' b → G b ∨ w.heap.size ≤ b

theorem begun_tk {w : World} (h : Lk w F G pd pl K S com pend (.pointer none) m V) :
    BgTo F G pd pl K S com pend m V w (.returned (.tuple #[.pointer (some ⟨w.heap.size + 1, 0, none⟩), .int .i64 0])) (((w.setCell ⟨pl, 3, none⟩ (.pointer (some ⟨w.heap.size + 1, 0, none⟩))).alloc (.map #[] 0)).alloc (.cells #[.pointer (some ⟨pl, 0, none⟩), .map (some w.heap.size), .int .i64 0] 78)) := by
  have hcs : Chg (fun b => b = pl) w (w.setCell ⟨pl, 3, none⟩ (.pointer (some ⟨w.heap.size + 1, 0, none⟩))) := Chg.setCell _ _ _ rfl
  have hbl : (w.setCell ⟨pl, 3, none⟩ (.pointer (some ⟨w.heap.size + 1, 0, none⟩))).heap[pl]? = some (.cells #[.pointer (some ⟨pd, 0, none⟩), .map (some m), .int .i64 (pend : Int), .pointer (some ⟨w.heap.size + 1, 0, none⟩)] 76 (0, 0)) := by
    have := heap_setCell_same w pl 3 _ 76 (.pointer (some ⟨w.heap.size + 1, 0, none⟩)) h.lg.blk
    simpa using this
  have h0 := h.restruct hcs hbl
  have hs0 : (w.setCell ⟨pl, 3, none⟩ (.pointer (some ⟨w.heap.size + 1, 0, none⟩))).heap.size = w.heap.size := by simp
  obtain ⟨w0, hw0⟩ : ∃ w0, w.setCell ⟨pl, 3, none⟩ (.pointer (some ⟨w.heap.size + 1, 0, none⟩)) = w0 := ⟨_, rfl⟩
  rw [hw0] at h0 hcs hs0 ⊢
  clear hbl hw0
  obtain ⟨w1, hw1⟩ : ∃ w1, w0.alloc (.map #[] 0) = w1 := ⟨_, rfl⟩
  obtain ⟨w2, hw2⟩ : ∃ w2, w1.alloc (.cells #[.pointer (some ⟨pl, 0, none⟩), .map (some w.heap.size), .int .i64 0] 78) = w2 := ⟨_, rfl⟩
  rw [hw1, hw2]
  have hs1 : w1.heap.size = w.heap.size + 1 := by rw [← hw1, World.size_alloc, hs0]
  have hs2 : w2.heap.size = w.heap.size + 2 := by rw [← hw2, World.size_alloc, hs1]
  have hc2 : Chg (fun _ => False) w0 w2 := by rw [← hw2, ← hw1]; exact (Chg.alloc _ _ _).trans (Chg.alloc (fun _ => False) _ _) (fun _ _ h => h)
  have h2 := h0.kept hc2
  have hm2 : MapIs w2 w.heap.size K (fun _ => none) := by
    rw [← hw2, ← hw1, ← hs0]
    exact (MapIs.new w0 K).kept (Below.heap_alloc _ _ _ (by simp))
  have hb2 : w2.heap[w.heap.size + 1]? = some (.cells #[.pointer (some ⟨pl, 0, none⟩), .map (some w.heap.size), .int .i64 0] 78 (0, 0)) := by
    rw [← hw2, ← hs1]; exact heap_alloc_new w1 _
  have hgl : ∀ b, (G b ∨ b = w.heap.size ∨ b = w.heap.size + 1) → b < w2.heap.size := fun b hb => by
    rcases hb with e | e | e
    · have := h.lg.lt b e; omega
    · omega
    · omega
  refine ⟨w.heap.size + 1, fun b => G b ∨ b = w.heap.size ∨ b = w.heap.size + 1, w.heap.size, fun _ => .slice none 0 0, rfl, ⟨?_, ⟨hb2, ⟨?_, fun n b hb => (by cases hb), .inr (.inl rfl)⟩, .inr (.inr rfl), hgl⟩, ?_⟩, hcs.trans hc2 (fun _ _ h => h.elim), fun b hb => ?_⟩
  · refine h2.mono (fun b hb => .inl hb) hgl (fun b hf hg => ?_)
    rcases hg with e | e | e
    · exact h.no b hf e
    · have := h.dk.lt b hf; omega
    · have := h.dk.lt b hf; omega
  · have e : vf (fun _ => none) (fun _ => .slice none 0 0) = fun _ => none := by funext n; exact vf_none rfl
    rw [e]
    exact hm2
  · have := h.lg.lt m h.lg.mb.fm
    omega
  · rcases hb with e | e | e
    · exact .inl e
    · exact .inr (by omega)
    · exact .inr (by omega)

set_option maxHeartbeats 1600000 in
theorem begin_any (w : World) (h : Lk w F G pd pl K S com pend (.pointer none) m V) (hoff : S.off = false) :
    Calls Try.prog 20 #[.pointer (some ⟨pl, 0, none⟩)] w fun e w' => BgTo F G pd pl K S com pend m V w e w' := by
  have hmm := @run_makeMap Try.prog
  have c0 := h.lg.c0
  have c3 := h.lg.c3
  have f3 := h.lg.fr 3
  have hne := neT_none
  have hpl := h.lg.pl_lt
  have HQ : Hid (BgTo F G pd pl K S com pend m V w (.returned (.tuple #[.pointer (some ⟨w.heap.size + 1, 0, none⟩), .int .i64 0])) (((w.setCell ⟨pl, 3, none⟩ (.pointer (some ⟨w.heap.size + 1, 0, none⟩))).alloc (.map #[] 0)).alloc (.cells #[.pointer (some ⟨pl, 0, none⟩), .map (some w.heap.size), .int .i64 0] 78))) := begun_tk h
  have HD : Hid (Dk w F pd S) := h.dk
  clear h
  go_enter Try.func20, Try.ntmps20
  go_wp2_with fail
  refine (off_any F pd S w HD.out).mono ?_
  rintro e w1 ⟨rfl, rfl⟩
  rw [hoff]
  clear HD
  go_wp2
  go_ret2
  exact HQ.out
set_option maxHeartbeats 1600000 in
theorem begin_busy (a : Addr) (w : World) (h : Lk w F G pd pl K S com pend (.pointer (some a)) m V) (hoff : S.off = false) :
    Calls Try.prog 20 #[.pointer (some ⟨pl, 0, none⟩)] w fun e w' => e = .returned (.tuple #[.pointer none, .int .i64 15]) ∧ w' = w := by
  have c0 := h.lg.c0
  have c3 := h.lg.c3
  have hne := neT_nil a
  have HD : Hid (Dk w F pd S) := h.dk
  clear h
  go_enter Try.func20, Try.ntmps20
  go_wp2_with fail
  refine (off_any F pd S w HD.out).mono ?_
  rintro e w1 ⟨rfl, rfl⟩
  rw [hoff]
  clear HD
  go_wp2
  go_ret2
  exact ⟨rfl, rfl⟩

set_option maxHeartbeats 1600000 in
theorem lread_any (f : Nat → List Int) (n : Nat) (w : World) (h : Lk w F G pd pl K S com pend ov m V) (hf : S.last (65 + n) = f n) (hn : n < K) (hoff : S.off = false) (hx : S.writes < 1099511627776) :
    Calls Try.prog 28 #[.pointer (some ⟨pl, 0, none⟩), .int .i64 (n : Int)] w fun e w' => ∃ u, e = .returned (.tuple #[u, .int .i64 0]) ∧ Fresh w w' u (ovr f com n) := by
  have HK : Hid (Lk w F G pd pl K S com pend ov m V) := h
  have c0 := h.lg.c0
  have c1 := h.lg.c1
  have hK := h.top
  have hnb := h.nb
  have kd : decide (0 ≤ (n : Int) ∧ (n : Int) < K) = true := by simp; omega
  have lk := h.lg.mb.map.lookB2 hK hn
  cases hc : com n with
  | some b =>
    obtain ⟨g, c, e, _, _, hb⟩ := h.lg.lookB hK hc
    rw [vf_some hc, Option.getD_some, e] at lk
    have HB : Hid (Bs w (.slice (some ⟨g, 0, none⟩) 512 c) b ∧ b.length = 512) := ⟨hb, (h.lg.mb.row n b hc).2.1⟩
    have HE : Hid (ovr f com n = b) := ovr_some hc
    clear h hb e hc hf
    go_enter Try.func28, Try.ntmps28
    go_wp2_with fail
    refine (lhas_any (n : Int) w HK.out).mono ?_
    rintro e w1 ⟨rfl, rfl⟩
    rw [kd]
    go_wp2_with fail
    refine (off_any F pd S w1 HK.out.dk).mono ?_
    rintro e w2 ⟨rfl, rfl⟩
    rw [hoff]
    go_wp2_with fail
    refine (cloneB_any _ b w2 HB.out.1 (by have := HB.out.2; omega)).mono ?_
    rintro e w3 ⟨u, rfl, ho, hch⟩
    have HQ : Hid (Fresh w2 w3 u (ovr f com n)) := by rw [HE.out]; exact ⟨ho, hch⟩
    clear lk c0 c1 ho hch
    go_wp2
    go_ret2
    exact ⟨u, rfl, HQ.out⟩
  | none =>
    rw [vf_none hc] at lk
    have HE : Hid (ovr f com n = f n) := ovr_none hc
    have hr := readOn (S := S) (n := 65 + n) hoff (by omega)
    rw [hf] at hr
    have RD : Hid (Calls Try.prog 63 #[.pointer (some ⟨pd, 0, none⟩), .int .i64 (65 + (n : Int))] w fun e w' => ∃ u, e = .returned (.tuple #[u, .int .i64 0]) ∧ Fresh w w' u (f n)) := by
      have h1 := read_any F pd S ((65 + n : Nat) : Int) w h.dk hx
      rw [hr.1, hr.2] at h1
      have e1 : (65 : Int) + (n : Int) = ((65 + n : Nat) : Int) := by omega
      rw [e1]; exact h1
    clear h hc hf hr
    go_enter Try.func28, Try.ntmps28
    go_wp2_with fail
    refine (lhas_any (n : Int) w HK.out).mono ?_
    rintro e w1 ⟨rfl, rfl⟩
    rw [kd]
    go_wp2_with fail
    refine (off_any F pd S w1 HK.out.dk).mono ?_
    rintro e w2 ⟨rfl, rfl⟩
    rw [hoff]
    go_wp2_with fail
    refine RD.out.mono ?_
    rintro e w3 ⟨u, rfl, hfr⟩
    have HQ : Hid (Fresh w2 w3 u (ovr f com n)) := by rw [HE.out]; exact hfr
    clear lk c0 c1 hfr RD
    go_wp2
    go_ret2
    exact ⟨u, rfl, HQ.out⟩
set_option maxHeartbeats 1600000 in
theorem lread_out (n : Int) (w : World) (h : Lk w F G pd pl K S com pend ov m V) (hn : ¬ (0 ≤ n ∧ n < K)) :
    Calls Try.prog 28 #[.pointer (some ⟨pl, 0, none⟩), .int .i64 n] w fun e w' => e = .returned (.tuple #[.slice none 0 0, .int .i64 1]) ∧ w' = w := by
  have kd : decide (0 ≤ n ∧ n < K) = false := by simpa using hn
  go_enter Try.func28, Try.ntmps28
  go_wp2_with fail
  refine (lhas_any n w h).mono ?_
  rintro e w1 ⟨rfl, rfl⟩
  rw [kd]
  clear h hn
  go_wp2
  go_ret2
  exact ⟨rfl, rfl⟩

set_option maxHeartbeats 800000 in
theorem isOpen_any (w : World) (h : Tk w F G pd pl q K S com pend live own wrote m V mt Vt) : Calls Try.prog 48 #[.pointer (some ⟨q, 0, none⟩)] w fun e w' => e = .returned (.bool live) ∧ w' = w := by
  have t0 := h.tx.c0
  have c3 := h.lk.lg.c3
  clear h
  cases live with
  | true =>
    simp only [ovOf, if_true] at c3
    have he := eqT_same q w
    go_enter Try.func48, Try.ntmps48
    go_wp2
    go_ret
    exact ⟨rfl, rfl⟩
  | false =>
    simp only [ovOf] at c3
    have he := eqT_nil ⟨q, 0, none⟩ w
    go_enter Try.func48, Try.ntmps48
    go_wp2
    go_ret
    exact ⟨rfl, rfl⟩
set_option maxHeartbeats 400000 in
theorem twrites_any (w : World) (h : TxAt w G pl q K own wrote mt Vt) : Calls Try.prog 31 #[.pointer (some ⟨q, 0, none⟩)] w fun e w' => e = .returned (.int .i64 (wrote : Int)) ∧ w' = w := by
  have c2 := h.c2
  clear h
  go_enter Try.func31, Try.ntmps31
  go_wp2
  go_ret
  exact ⟨rfl, rfl⟩
set_option maxHeartbeats 1600000 in
theorem tread_any (f : Nat → List Int) (n : Nat) (w : World) (h : Tk w F G pd pl q K S com pend live own wrote m V mt Vt) (hf : S.last (65 + n) = f n) (hn : n < K) (hoff : S.off = false) (hx : S.writes < 1099511627776) :
    Calls Try.prog 30 #[.pointer (some ⟨q, 0, none⟩), .int .i64 (n : Int)] w fun e w' => ∃ u, e = .returned (.tuple #[u, .int .i64 0]) ∧ Fresh w w' u (ovr (ovr f com) own n) := by
  have HK : Hid (Tk w F G pd pl q K S com pend live own wrote m V mt Vt) := h
  have t0 := h.tx.c0
  have t1 := h.tx.c1
  have c0 := h.lk.lg.c0
  have hK := h.lk.top
  have lk := h.tx.mb.map.lookB2 hK hn
  cases hc : own n with
  | some b =>
    obtain ⟨h1, h2, g, c, e, ho, hg⟩ := h.tx.mb.row n b hc
    have hb := h.tx.mb.bs hc
    rw [e] at hb
    rw [vf_some hc, Option.getD_some, e] at lk
    have HB : Hid (Bs w (.slice (some ⟨g, 0, none⟩) 512 c) b ∧ b.length = 512) := ⟨hb, h2⟩
    have HE : Hid (ovr (ovr f com) own n = b) := ovr_some hc
    clear h hb e hc hf h1 h2 ho hg
    go_enter Try.func30, Try.ntmps30
    go_wp2_with fail
    refine (off_any F pd S w HK.out.lk.dk).mono ?_
    rintro e w2 ⟨rfl, rfl⟩
    rw [hoff]
    go_wp2_with fail
    refine (cloneB_any _ b w2 HB.out.1 (by have := HB.out.2; omega)).mono ?_
    rintro e w3 ⟨u, rfl, ho, hch⟩
    have HQ : Hid (Fresh w2 w3 u (ovr (ovr f com) own n)) := by rw [HE.out]; exact ⟨ho, hch⟩
    clear lk c0 t0 t1 ho hch
    go_wp2
    go_ret2
    exact ⟨u, rfl, HQ.out⟩
  | none =>
    rw [vf_none hc] at lk
    have HE : Hid (ovr (ovr f com) own n = ovr f com n ∧ S.last (65 + n) = f n) := ⟨ovr_none hc, hf⟩
    clear h hc hf
    go_enter Try.func30, Try.ntmps30
    go_wp2_with fail
    refine (off_any F pd S w HK.out.lk.dk).mono ?_
    rintro e w2 ⟨rfl, rfl⟩
    rw [hoff]
    go_wp2_with fail
    refine (lread_any f n w2 HK.out.lk HE.out.2 hn hoff hx).mono ?_
    rintro e w3 ⟨u, rfl, hfr⟩
    have HQ : Hid (Fresh w2 w3 u (ovr (ovr f com) own n)) := by rw [HE.out.1]; exact hfr
    clear lk c0 t0 t1 hfr
    go_wp2
    go_ret2
    exact ⟨u, rfl, HQ.out⟩
end
end Go.Proofs.Ytkkmdmnjlncgfaa
