/-
  The document's log tells what the log is: the tie of both, and what each act makes of it.
-/
import Derived.Test.YtmlhjcjonfalhaaGreatRef5
namespace Go.Proofs.YtmlhjcjonfalhaaGreat
open Go.RowKit Go.Maps

theorem eqT_nn (w : World) : (binOp .eql 39 (.pointer none) (.pointer none)).run Tryz.prog w = .ok (.bool true) w := by kernel_rfl
theorem neqT_nn (w : World) : (binOp .neq 39 (.pointer none) (.pointer none)).run Tryz.prog w = .ok (.bool false) w := by kernel_rfl
theorem neqT_some (a : Addr) (w : World) : (binOp .neq 39 (.pointer (some a)) (.pointer none)).run Tryz.prog w = .ok (.bool true) w := by kernel_rfl

/-- The document's log tells what the log is. -/
structure Cor (R : Rf) (f : Nat → List Int) (com : Nat → Option (List Int)) (pend : Nat) (live : Bool) (own : Nat → Option (List Int)) (wrote : Nat) : Prop where
  l : ∀ n, n < 70 → R.L n = strOf (ovr f com n)
  d : ∀ n, n < 70 → R.D n = (com n).isSome
  p : R.pend = pend
  o : R.op = live
  w : live = true → (∀ n, n < 70 → R.W n = wstr (own n)) ∧ R.wrote = wrote
section
variable {R : Rf} {f f' : Nat → List Int} {com own com' : Nat → Option (List Int)} {pend wrote : Nat} {live : Bool}

theorem Cor.begun (h : Cor R f com pend false own wrote) : Cor { R with op := true, W := fun _ => ByteArray.empty, wrote := 0 } f com pend true (fun _ => none) 0 :=
  ⟨h.l, h.d, h.p, rfl, fun _ => ⟨fun _ _ => rfl, rfl⟩⟩
theorem Cor.aborted (h : Cor R f com pend live own wrote) (own' : Nat → Option (List Int)) (wrote' : Nat) : Cor { R with op := false } f com pend false own' wrote' := ⟨h.l, h.d, h.p, rfl, (fun e => by cases e)⟩
theorem Cor.synced (h : Cor R f com pend live own wrote) : Cor (rsyn R) (ovr f com) (fun _ => none) 0 live own wrote := ⟨h.l, fun _ _ => rfl, rfl, h.o, h.w⟩


theorem wstr_empty (o : Option (List Int)) (h : ∀ b, o = some b → b.length = 512) : (wstr o).toList.isEmpty = !o.isSome := by
  cases o with
  | none => show ByteArray.empty.toList.isEmpty = true; rw [ByteArray.toList_eq]; rfl
  | some b =>
    have hb := h b rfl
    show (strOf b).toList.isEmpty = false
    rw [ByteArray.toList_eq, strOf_list]
    cases b with
    | nil => simp at hb
    | cons x r => simp
theorem Cor.tgs (h : Cor R f com pend true own wrote) (ho : ∀ n b, own n = some b → n < 70 ∧ b.length = 512) {n : Nat} (hn : n < 70) : rtg R n = (mrg com own n).isSome := by
  rw [mrg_some]
  show (R.D n || !(R.W n).toList.isEmpty) = _
  rw [h.d n hn, (h.w rfl).1 n hn, wstr_empty _ (fun b e => (ho n b e).2), Bool.not_not]
theorem Cor.cnt (h : Cor R f com pend true own wrote) (ho : ∀ n b, own n = some b → n < 70 ∧ b.length = 512) : cntF 70 (rtg R) = (ks 70 (mrg com own)).length := by
  rw [ks_cnt]
  exact cntF_congr (fun n hn => h.tgs ho hn)
theorem Cor.comL (h : Cor R f com pend true own wrote) (ho : ∀ n b, own n = some b → n < 70 ∧ b.length = 512) (he : ∀ n, ovr f' com' n = ovr (ovr f com) own n) {n : Nat} (hn : n < 70) : (if (R.W n).toList.isEmpty = false then R.W n else R.L n) = strOf (ovr f' com' n) := by
  rw [(h.w rfl).1 n hn, wstr_empty _ (fun b e => (ho n b e).2), he n, h.l n hn]
  cases hc : own n with
  | none => rw [ovr_none hc]; rfl
  | some b => rw [ovr_some hc]; rfl
theorem Cor.few (h : Cor R f com pend true own wrote) (ho : ∀ n b, own n = some b → n < 70 ∧ b.length = 512) (he : ∀ n, ovr f' com' n = ovr (ovr f com) own n) (hc : com' = mrg com own) (own' : Nat → Option (List Int)) (wrote' : Nat) : Cor (rcom1 R) f' com' (pend + 1) false own' wrote' :=
  ⟨fun n hn => h.comL ho he hn, fun n hn => by rw [hc]; exact h.tgs ho hn, by show R.pend + 1 = _; rw [h.p], rfl, (fun e => by cases e)⟩
theorem Cor.many (h : Cor R f com pend true own wrote) (ho : ∀ n b, own n = some b → n < 70 ∧ b.length = 512) (he : ∀ n, ovr f' com' n = ovr (ovr f com) own n) (hc : com' = own) (own' : Nat → Option (List Int)) (wrote' : Nat) : Cor (rcom1 (rsyn R)) f' com' 1 false own' wrote' :=
  ⟨fun n hn => h.comL ho he hn, fun n hn => by
    rw [hc]
    show (false || !(R.W n).toList.isEmpty) = _
    rw [(h.w rfl).1 n hn, wstr_empty _ (fun b e => (ho n b e).2), Bool.not_not, Bool.false_or], rfl, rfl, (fun e => by cases e)⟩


theorem Cor.readT (h : Cor R f com pend true own wrote) (ho : ∀ n b, own n = some b → n < 70 ∧ b.length = 512) {n : Nat} (hn : n < 70) : (if (R.W n).toList.isEmpty = true then R.L n else R.W n) = strOf (ovr (ovr f com) own n) := by
  rw [(h.w rfl).1 n hn, wstr_empty _ (fun b e => (ho n b e).2), h.l n hn]
  cases hc : own n with
  | none => rw [ovr_none hc]; rfl
  | some b => rw [ovr_some hc]; rfl
theorem Cor.wrote1 (h : Cor R f com pend true own wrote) (hw : wrote = (ks 70 own).length) {m : Nat} (hm : m < 70) (hn : own m = none) (b : List Int) : Cor { R with W := upd R.W m (strOf b), wrote := R.wrote + 1 } f com pend true (upd own m (some b)) (ks 70 (upd own m (some b))).length :=
  ⟨h.l, h.d, h.p, h.o, fun _ => ⟨fun n hn' => by
    show upd R.W m (strOf b) n = _
    by_cases e : n = m
    · subst e; rw [upd_same, upd_same]; rfl
    · rw [upd_other _ _ e, upd_other _ _ e]; exact (h.w rfl).1 n hn', by
    show R.wrote + 1 = _
    rw [(h.w rfl).2, hw, ks_upd_first hm hn]⟩⟩
theorem Cor.wrote2 (h : Cor R f com pend true own wrote) (hw : wrote = (ks 70 own).length) {m : Nat} {b0 : List Int} (hn : own m = some b0) (b : List Int) : Cor { R with W := upd R.W m (strOf b) } f com pend true (upd own m (some b)) (ks 70 (upd own m (some b))).length :=
  ⟨h.l, h.d, h.p, h.o, fun _ => ⟨fun n hn' => by
    show upd R.W m (strOf b) n = _
    by_cases e : n = m
    · subst e; rw [upd_same, upd_same]; rfl
    · rw [upd_other _ _ e, upd_other _ _ e]; exact (h.w rfl).1 n hn', by
    show R.wrote = _
    rw [(h.w rfl).2, hw, ks_upd_again hn]⟩⟩
end
end Go.Proofs.YtmlhjcjonfalhaaGreat
