/-
  Bytes as strings: unlike bytes are unlike strings; bytes.Equal.
-/
import Derived.Test.YtdcmcgdalanjjaaWMem
import Derived.Deep.RegionHeld
namespace Go.Proofs.Ytdcmcgdalanjjaa
open Go.RowKit Go.Maps

theorem strOf_list (xs : List Int) : (strOf xs).data.toList = xs.map (fun n => UInt8.ofNat n.toNat) := by
  have h : ∀ (l : List Int) (s : ByteArray), (l.foldl (fun r n => r.push (UInt8.ofNat n.toNat)) s).data.toList = s.data.toList ++ l.map (fun n => UInt8.ofNat n.toNat) := by
    intro l
    induction l with
    | nil => intro s; simp
    | cons x r ih => intro s; rw [List.foldl_cons, ih]; simp [ByteArray.push]
  have := h xs ByteArray.empty
  simpa [strOf] using this
theorem map_inj (xs ys : List Int) (hx : IsB xs) (hy : IsB ys) (h : xs.map (fun n => UInt8.ofNat n.toNat) = ys.map (fun n => UInt8.ofNat n.toNat)) : xs = ys := by
  induction xs generalizing ys with
  | nil => cases ys with
    | nil => rfl
    | cons y s => simp at h
  | cons x r ih =>
    cases ys with
    | nil => simp at h
    | cons y s =>
      simp only [List.map_cons, List.cons.injEq] at h
      have a := hx x (List.mem_cons_self ..)
      have b := hy y (List.mem_cons_self ..)
      have e : x = y := by
        have h1 := congrArg UInt8.toNat h.1
        rw [UInt8.toNat_ofNat', UInt8.toNat_ofNat'] at h1
        omega
      rw [e, ih s (fun z hz => hx z (List.mem_cons_of_mem _ hz)) (fun z hz => hy z (List.mem_cons_of_mem _ hz)) h.2]
theorem strOf_inj (xs ys : List Int) (hx : IsB xs) (hy : IsB ys) (h : strOf xs = strOf ys) : xs = ys := by
  refine map_inj xs ys hx hy ?_
  rw [← strOf_list, ← strOf_list, h]

theorem str_ne (xs ys : List Int) (hx : IsB xs) (hy : IsB ys) (h : xs ≠ ys) : ((strOf xs).toList == (strOf ys).toList) = false := by
  rw [ByteArray.toList_eq, ByteArray.toList_eq, strOf_list, strOf_list]
  simp only [beq_eq_false_iff_ne, ne_eq]
  exact fun e => h (map_inj xs ys hx hy e)
theorem str_same (t : ByteArray) : (t.toList == t.toList) = true := by simp

end Go.Proofs.Ytdcmcgdalanjjaa

namespace Go.Proofs.Ytdcmcgdalanjjaa
open Go.RowKit Go.Maps

/-- The numbers that are read out of x are hs. -/
structure Heads (K : Nat) (x : List Int) (hs : List Nat) : Prop where
  len : x.length = 512
  isB : IsB x
  cnt : valB ((x.drop 13).take 2) = (hs.length : Int)
  num : ∀ (i n : Nat), hs[i]? = some n → valB ((x.drop (15 + 2 * i)).take 2) = (n : Int)
  small : hs.length ≤ 63
  lt : ∀ n ∈ hs, n < K

theorem take2 (n : Int) (r : List Int) : (leTo n 2 ++ r).take 2 = leTo n 2 := by
  have h := leTo_len n 2
  rw [List.take_append_of_le_length (by omega), List.take_of_length_le (by omega)]
theorem valB_le (n : Nat) (h : n < 65536) : valB (leTo (n : Int) 2) = (n : Int) := by
  have : leTo (n : Int) 2 = [(n : Int) % 256, (n : Int) / 256 % 256] := by simp [leTo, List.range_succ]
  rw [this]
  simp [valB]
  omega
theorem leTo_isB (n : Int) (k : Nat) : IsB (leTo n k) := by
  intro x hx
  obtain ⟨i, _, rfl⟩ := List.mem_map.1 hx
  exact ⟨Int.emod_nonneg _ (by decide), Int.emod_lt_of_pos _ (by decide)⟩
theorem IsB.app {xs ys : List Int} (hx : IsB xs) (hy : IsB ys) : IsB (xs ++ ys) := fun x h => by
  rcases List.mem_append.1 h with h | h
  · exact hx x h
  · exact hy x h
theorem zeros_isB (n : Nat) : IsB (zeros n) := fun x h => by
  have := List.eq_of_mem_replicate h
  subst this; exact ⟨by decide, by decide⟩
theorem numsB_isB (hs : List Nat) : IsB (numsB hs) := fun x h => by
  obtain ⟨n, _, h⟩ := List.mem_flatMap.1 h
  exact leTo_isB _ _ x h
theorem markB_isB : IsB markB := by
  intro x hx
  have h : ∀ x ∈ markB, 0 ≤ x ∧ x < 256 := by decide
  exact h x hx
theorem headB_eq {hs : List Nat} (h : hs.length ≤ 63) : headB hs = markB ++ (leTo (hs.length : Int) 2 ++ (numsB hs ++ zeros (497 - 2 * hs.length))) := by
  have hl : (markB ++ leTo (hs.length : Int) 2 ++ numsB hs).length = 15 + 2 * hs.length := by
    rw [List.length_append, List.length_append, leTo_len, numsB_len]; rfl
  unfold headB fixB
  have e : (min (512 : Int) 65536).toNat = 512 := rfl
  rw [e, List.take_of_length_le (by omega), hl]
  have e2 : 512 - (15 + 2 * hs.length) = 497 - 2 * hs.length := by omega
  rw [e2]
  simp [zeros, List.append_assoc]
theorem headB_isB {hs : List Nat} (h : hs.length ≤ 63) : IsB (headB hs) := by
  rw [headB_eq h]
  exact markB_isB.app ((leTo_isB _ _).app ((numsB_isB hs).app (zeros_isB _)))
theorem numsB_split (hs : List Nat) : ∀ {i n : Nat}, hs[i]? = some n → ∃ r, numsB hs = numsB (hs.take i) ++ (leTo (n : Int) 2 ++ r) := by
  intro i n h
  have e : hs = hs.take i ++ n :: hs.drop (i + 1) := by
    obtain ⟨h1, h2⟩ := List.getElem?_eq_some_iff.1 h
    have h3 : hs.drop i = n :: hs.drop (i + 1) := by rw [List.drop_eq_getElem_cons h1, h2]
    rw [← h3, List.take_append_drop]
  refine ⟨numsB (hs.drop (i + 1)), ?_⟩
  conv => lhs; rw [e]
  simp [numsB]
/-- A head that was laid tells what it names. -/
theorem headB_heads {K : Nat} {hs : List Nat} (h : Valid K hs) (hK : K ≤ 16384) : Heads K (headB hs) hs := by
  have hm : markB.length = 13 := rfl
  refine ⟨headB_len hs, headB_isB h.len, ?_, fun i n hn => ?_, h.len, h.lt⟩
  · rw [headB_eq h.len, ← hm, List.drop_left, take2]
    exact valB_le _ (by have := h.len; omega)
  · have hil := (List.getElem?_eq_some_iff.1 hn).1
    obtain ⟨r, hr⟩ := numsB_split hs hn
    rw [headB_eq h.len, hr]
    have e : markB ++ (leTo (hs.length : Int) 2 ++ (numsB (hs.take i) ++ (leTo (n : Int) 2 ++ r) ++ zeros (497 - 2 * hs.length))) = (markB ++ leTo (hs.length : Int) 2 ++ numsB (hs.take i)) ++ (leTo (n : Int) 2 ++ (r ++ zeros (497 - 2 * hs.length))) := by simp [List.append_assoc]
    have hl : 15 + 2 * i = (markB ++ leTo (hs.length : Int) 2 ++ numsB (hs.take i)).length := by
      rw [List.length_append, List.length_append, leTo_len, numsB_len, List.length_take, hm]; omega
    rw [e, hl, List.drop_left, take2]
    exact valB_le _ (by have := h.lt n (List.mem_of_getElem? hn); omega)
theorem zeros_heads (K : Nat) : Heads K (zeros 512) [] := by
  refine ⟨zeros_len 512, zeros_isB 512, ?_, fun i n h => (by simp at h), by simp, by simp⟩
  have : ((zeros 512).drop 13).take 2 = [0, 0] := by unfold zeros; rw [List.drop_replicate, List.take_replicate]; rfl
  rw [this]; rfl
theorem zeros_ne : zeros 512 ≠ headB [] := fun e => by
  rw [headB_eq (by simp)] at e
  have h1 : (zeros 512).head? = some 0 := rfl
  rw [e] at h1
  have h2 : (markB ++ (leTo (([] : List Nat).length : Int) 2 ++ (numsB [] ++ zeros (497 - 2 * ([] : List Nat).length)))).head? = some 109 := rfl
  rw [h2] at h1
  simp at h1

/-- The first i numbers, the others 0. -/
def hTo (hs : List Nat) (i : Nat) : List Nat := hs.take i ++ List.replicate (hs.length - i) 0
theorem hTo_zero (hs : List Nat) : hTo hs 0 = List.replicate hs.length 0 := by simp [hTo]
theorem hTo_end (hs : List Nat) : hTo hs hs.length = hs := by simp [hTo]
theorem hTo_len {hs : List Nat} {i : Nat} (h : i ≤ hs.length) : (hTo hs i).length = hs.length := by simp [hTo]; omega
theorem hTo_succ {hs : List Nat} {i n : Nat} (h : hs[i]? = some n) : (hTo hs i).set i n = hTo hs (i + 1) := by
  have hil := (List.getElem?_eq_some_iff.1 h).1
  apply List.ext_getElem?
  intro j
  rw [List.getElem?_set, hTo_len (by omega)]
  by_cases e : i = j
  · subst e
    rw [if_pos rfl, if_pos hil]
    have h2 : (hTo hs (i + 1))[i]? = hs[i]? := by
      unfold hTo
      rw [List.getElem?_append_left (by rw [List.length_take]; omega), List.getElem?_take_of_lt (by omega)]
    rw [h2, h]
  · rw [if_neg e]
    by_cases hj : j < i
    · simp [hTo, List.getElem?_append, List.length_take, show j < min (i + 1) hs.length by omega, show j < min i hs.length by omega]
    · simp [hTo, List.getElem?_append, List.length_take, show ¬ j < min (i + 1) hs.length by omega, show ¬ j < min i hs.length by omega, List.getElem?_replicate]
      by_cases hjl : j < hs.length
      · rw [if_pos (by omega), if_pos (by omega)]
      · rw [if_neg (by omega), if_neg (by omega)]
def icells (hs : List Nat) : List Value := hs.map fun n : Nat => Value.int .i64 (n : Int)
theorem made_ints (n : Nat) : (madeCells (Value.int .i64 0).cells (n * 1)).toList = icells (List.replicate n 0) := by
  rw [Nat.mul_one]
  apply List.ext_getElem
  · simp [size_madeCells, icells]
  · intro i h1 h2
    simp [madeCells, Value.cells, icells, Nat.mod_one]
theorem Is.ofI {w : World} {N : Nat} {v : Value} {hs : List Nat} {n : Nat} (h : w.ownsRow N 3 1 v n (icells hs)) : Is w v (hs.map fun n : Nat => (n : Int)) := by
  refine Is.ofOwns (N := N) (n := n) ?_
  rw [List.map_map]
  exact h

section
variable {F G : Nat → Prop} {pd pl K : Nat} {S : St} {com : Nat → Option (List Int)} {pend : Nat} {ov : Value} {m : Nat} {V : Nat → Value}
/-- What readHead tells. -/
def RhTo (x : List Int) (hs : List Nat) (w : World) (e : Ending) (w' : World) : Prop :=
  Chg (fun _ => False) w w' ∧ ((x = headB hs ∧ ∃ u, e = .returned (.tuple #[u, .int .i64 0]) ∧ w'.ownsRow w.heap.size 3 1 u hs.length (icells hs)) ∨ (x ≠ headB hs ∧ e = .returned (.tuple #[.slice none 0 0, .int .i64 3])))

end
end Go.Proofs.Ytdcmcgdalanjjaa

namespace Go.Proofs.Ytdcmcgdalanjjaa
open Go.RowKit Go.Maps

/-- f, but what com has. -/
def ovr (f : Nat → List Int) (com : Nat → Option (List Int)) (n : Nat) : List Int := (com n).getD (f n)
theorem ovr_none {f : Nat → List Int} {com : Nat → Option (List Int)} {n : Nat} (h : com n = none) : ovr f com n = f n := by simp [ovr, h]
theorem ovr_some {f : Nat → List Int} {com : Nat → Option (List Int)} {n : Nat} {b : List Int} (h : com n = some b) : ovr f com n = b := by simp [ovr, h]

/-- Done (what holds then), or the power has gone (what lasts then). -/
def Ran (F : Nat → Prop) (pd : Nat) (S : St) (k : Nat) (done cut : St → Prop) (w : World) (e : Ending) (w' : World) : Prop :=
  ∃ E S', e = .returned (.int .i64 E) ∧ To F pd w w' S' ∧ ((E = 0 ∧ Onw S S' k ∧ done S') ∨ (E = 6 ∧ Gone S S' k ∧ cut S'))

section
variable {F G : Nat → Prop} {pd pl K : Nat} {S : St} {com : Nat → Option (List Int)} {pend : Nat} {ov : Value} {m : Nat} {V : Nat → Value}
theorem LgAt.lookB {w : World} (h : LgAt w G pd pl K com pend ov m V) (hK : K ≤ 16384) {n : Nat} {b : List Int} (hn : com n = some b) : ∃ g c, V n = .slice (some ⟨g, 0, none⟩) 512 c ∧ G g ∧ (Instr.lookup 70 (.map (some m)) (.int .i64 (n : Int)) false).run Try.prog w = .ok (.slice (some ⟨g, 0, none⟩) 512 c) w ∧ Bs w (.slice (some ⟨g, 0, none⟩) 512 c) b := by
  obtain ⟨h1, h2, g, c, e, ho, hg⟩ := h.mb.row n b hn
  have hl := h.mb.map.lookB hK h1
  rw [vf_some hn] at hl
  have hb := h.mb.bs hn
  rw [e] at hb
  exact ⟨g, c, e, hg, by rw [hl, Option.getD_some, e], hb⟩
theorem Lk.lgTo {w w' : World} (h : Lk w F G pd pl K S com pend ov m V) {S' : St} (t : To F pd w w' S') : LgAt w' G pd pl K com pend ov m V := by
  obtain ⟨F', d, c, f⟩ := t
  exact h.lg.kept c (fun b hg hf => h.no b hf hg)
theorem Lk.to {w w' : World} (h : Lk w F G pd pl K S com pend ov m V) {S' : St} (t : To F pd w w' S') (hn : S'.nb = S.nb) : ∃ F', Lk w' F' G pd pl K S' com pend ov m V ∧ Chg F w w' ∧ ∀ b, F' b → F b ∨ w.heap.size ≤ b := by
  have hl := h.lgTo t
  obtain ⟨F', d, c, f⟩ := t
  refine ⟨F', ⟨d, hl, fun b hf hg => ?_, hn.trans h.nb⟩, c, f⟩
  rcases f b hf with e | e
  · exact h.no b e hg
  · have := h.lg.lt b hg; omega

end
end Go.Proofs.Ytdcmcgdalanjjaa

namespace Go.Proofs.Ytdcmcgdalanjjaa
open Go.RowKit Go.Maps

section
variable {F G : Nat → Prop} {pd pl K : Nat} {S : St} {com : Nat → Option (List Int)} {pend : Nat} {ov : Value} {m : Nat} {V : Nat → Value}

theorem readOn {S : St} {n : Nat} (h0 : S.off = false) (hn : n < S.nb) : S.readE (n : Int) = 0 ∧ S.readV (n : Int) = S.last n := by
  have e : S.readE (n : Int) = 0 := by unfold St.readE; rw [if_neg (by simp [h0]), if_pos (by omega)]
  exact ⟨e, by unfold St.readV; rw [if_pos e, Int.toNat_natCast]⟩

end
end Go.Proofs.Ytdcmcgdalanjjaa
