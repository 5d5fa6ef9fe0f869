/-
  Bytes as strings: unlike bytes are unlike strings; bytes.Equal.
-/
import Derived.Test.YthohgljlcfbpjaaGreatWSmall
import Derived.Deep.RegionHeld
namespace Go.Proofs.YthohgljlcfbpjaaGreat
open Go.RowKit Go.Maps

theorem strOf_list (xs : List Int) : (strOf xs).data.toList = xs.map (fun n => UInt8.ofNat n.toNat) := by
  have h : ∀ (l : List Int) (s : ByteArray), (l.foldl (fun r n => r.push (UInt8.ofNat n.toNat)) s).data.toList = s.data.toList ++ l.map (fun n => UInt8.ofNat n.toNat) := by
    intro l
    induction l with
    | nil => intro s; simp
    | cons x r ih => intro s; rw [List.foldl_cons, ih]; simp [ByteArray.push]
  have := h xs ByteArray.empty
  simpa [strOf] using this
theorem map_inj (xs ys : List Int) (hx : IsB xs) (hy : IsB ys) (h : xs.map (fun n => UInt8.ofNat n.toNat) = ys.map (fun n => UInt8.ofNat n.toNat)) : xs = ys := by
  induction xs generalizing ys with
  | nil => cases ys with
    | nil => rfl
    | cons y s => simp at h
  | cons x r ih =>
    cases ys with
    | nil => simp at h
    | cons y s =>
      simp only [List.map_cons, List.cons.injEq] at h
      have a := hx x (List.mem_cons_self ..)
      have b := hy y (List.mem_cons_self ..)
      have e : x = y := by
        have h1 := congrArg UInt8.toNat h.1
        rw [UInt8.toNat_ofNat', UInt8.toNat_ofNat'] at h1
        omega
      rw [e, ih s (fun z hz => hx z (List.mem_cons_of_mem _ hz)) (fun z hz => hy z (List.mem_cons_of_mem _ hz)) h.2]
theorem strOf_inj (xs ys : List Int) (hx : IsB xs) (hy : IsB ys) (h : strOf xs = strOf ys) : xs = ys := by
  refine map_inj xs ys hx hy ?_
  rw [← strOf_list, ← strOf_list, h]

theorem str_ne (xs ys : List Int) (hx : IsB xs) (hy : IsB ys) (h : xs ≠ ys) : ((strOf xs).toList == (strOf ys).toList) = false := by
  rw [ByteArray.toList_eq, ByteArray.toList_eq, strOf_list, strOf_list]
  simp only [beq_eq_false_iff_ne, ne_eq]
  exact fun e => h (map_inj xs ys hx hy e)
theorem str_same (t : ByteArray) : (t.toList == t.toList) = true := by simp

end Go.Proofs.YthohgljlcfbpjaaGreat

namespace Go.Proofs.YthohgljlcfbpjaaGreat
open Go.RowKit Go.Maps

/-- The numbers that are read out of x are hs. -/
structure Heads (K : Nat) (x : List Int) (hs : List Nat) : Prop where
  len : x.length = 512
  isB : IsB x
  cnt : valB ((x.drop 13).take 2) = (hs.length : Int)
  num : ∀ (i n : Nat), hs[i]? = some n → valB ((x.drop (15 + 2 * i)).take 2) = (n : Int)
  small : hs.length ≤ 63
  lt : ∀ n ∈ hs, n < K

theorem take2 (n : Int) (r : List Int) : (leTo n 2 ++ r).take 2 = leTo n 2 := by
  have h := leTo_len n 2
  rw [List.take_append_of_le_length (by omega), List.take_of_length_le (by omega)]
theorem valB_le (n : Nat) (h : n < 65536) : valB (leTo (n : Int) 2) = (n : Int) := by
  have : leTo (n : Int) 2 = [(n : Int) % 256, (n : Int) / 256 % 256] := by simp [leTo, List.range_succ]
  rw [this]
  simp [valB]
  omega
theorem leTo_isB (n : Int) (k : Nat) : IsB (leTo n k) := by
  intro x hx
  obtain ⟨i, _, rfl⟩ := List.mem_map.1 hx
  exact ⟨Int.emod_nonneg _ (by decide), Int.emod_lt_of_pos _ (by decide)⟩
theorem IsB.app {xs ys : List Int} (hx : IsB xs) (hy : IsB ys) : IsB (xs ++ ys) := fun x h => by
  rcases List.mem_append.1 h with h | h
  · exact hx x h
  · exact hy x h
theorem zeros_isB (n : Nat) : IsB (zeros n) := fun x h => by
  have := List.eq_of_mem_replicate h
  subst this; exact ⟨by decide, by decide⟩
theorem numsB_isB (hs : List Nat) : IsB (numsB hs) := fun x h => by
  obtain ⟨n, _, h⟩ := List.mem_flatMap.1 h
  exact leTo_isB _ _ x h
theorem markB_isB : IsB markB := by
  intro x hx
  have h : ∀ x ∈ markB, 0 ≤ x ∧ x < 256 := by decide
  exact h x hx
theorem headB_eq {hs : List Nat} (h : hs.length ≤ 63) : headB hs = markB ++ (leTo (hs.length : Int) 2 ++ (numsB hs ++ zeros (497 - 2 * hs.length))) := by
  have hl : (markB ++ leTo (hs.length : Int) 2 ++ numsB hs).length = 15 + 2 * hs.length := by
    rw [List.length_append, List.length_append, leTo_len, numsB_len]; rfl
  unfold headB fixB
  have e : (min (512 : Int) 65536).toNat = 512 := rfl
  rw [e, List.take_of_length_le (by omega), hl]
  have e2 : 512 - (15 + 2 * hs.length) = 497 - 2 * hs.length := by omega
  rw [e2]
  simp [zeros, List.append_assoc]
theorem headB_isB {hs : List Nat} (h : hs.length ≤ 63) : IsB (headB hs) := by
  rw [headB_eq h]
  exact markB_isB.app ((leTo_isB _ _).app ((numsB_isB hs).app (zeros_isB _)))
theorem numsB_split (hs : List Nat) : ∀ {i n : Nat}, hs[i]? = some n → ∃ r, numsB hs = numsB (hs.take i) ++ (leTo (n : Int) 2 ++ r) := by
  intro i n h
  have e : hs = hs.take i ++ n :: hs.drop (i + 1) := by
    obtain ⟨h1, h2⟩ := List.getElem?_eq_some_iff.1 h
    have h3 : hs.drop i = n :: hs.drop (i + 1) := by rw [List.drop_eq_getElem_cons h1, h2]
    rw [← h3, List.take_append_drop]
  refine ⟨numsB (hs.drop (i + 1)), ?_⟩
  conv => lhs; rw [e]
  simp [numsB]
/-- A head that was laid tells what it names. -/
theorem headB_heads {K : Nat} {hs : List Nat} (h : Valid K hs) (hK : K ≤ 16384) : Heads K (headB hs) hs := by
  have hm : markB.length = 13 := rfl
  refine ⟨headB_len hs, headB_isB h.len, ?_, fun i n hn => ?_, h.len, h.lt⟩
  · rw [headB_eq h.len, ← hm, List.drop_left, take2]
    exact valB_le _ (by have := h.len; omega)
  · have hil := (List.getElem?_eq_some_iff.1 hn).1
    obtain ⟨r, hr⟩ := numsB_split hs hn
    rw [headB_eq h.len, hr]
    have e : markB ++ (leTo (hs.length : Int) 2 ++ (numsB (hs.take i) ++ (leTo (n : Int) 2 ++ r) ++ zeros (497 - 2 * hs.length))) = (markB ++ leTo (hs.length : Int) 2 ++ numsB (hs.take i)) ++ (leTo (n : Int) 2 ++ (r ++ zeros (497 - 2 * hs.length))) := by simp [List.append_assoc]
    have hl : 15 + 2 * i = (markB ++ leTo (hs.length : Int) 2 ++ numsB (hs.take i)).length := by
      rw [List.length_append, List.length_append, leTo_len, numsB_len, List.length_take, hm]; omega
    rw [e, hl, List.drop_left, take2]
    exact valB_le _ (by have := h.lt n (List.mem_of_getElem? hn); omega)
theorem zeros_heads (K : Nat) : Heads K (zeros 512) [] := by
  refine ⟨zeros_len 512, zeros_isB 512, ?_, fun i n h => (by simp at h), by simp, by simp⟩
  have : ((zeros 512).drop 13).take 2 = [0, 0] := by unfold zeros; rw [List.drop_replicate, List.take_replicate]; rfl
  rw [this]; rfl
theorem zeros_ne : zeros 512 ≠ headB [] := fun e => by
  rw [headB_eq (by simp)] at e
  have h1 : (zeros 512).head? = some 0 := rfl
  rw [e] at h1
  have h2 : (markB ++ (leTo (([] : List Nat).length : Int) 2 ++ (numsB [] ++ zeros (497 - 2 * ([] : List Nat).length)))).head? = some 109 := rfl
  rw [h2] at h1
  simp at h1

/-- The first i numbers, the others 0. -/
def hTo (hs : List Nat) (i : Nat) : List Nat := hs.take i ++ List.replicate (hs.length - i) 0
theorem hTo_zero (hs : List Nat) : hTo hs 0 = List.replicate hs.length 0 := by simp [hTo]
theorem hTo_end (hs : List Nat) : hTo hs hs.length = hs := by simp [hTo]
theorem hTo_len {hs : List Nat} {i : Nat} (h : i ≤ hs.length) : (hTo hs i).length = hs.length := by simp [hTo]; omega
theorem hTo_succ {hs : List Nat} {i n : Nat} (h : hs[i]? = some n) : (hTo hs i).set i n = hTo hs (i + 1) := by
  have hil := (List.getElem?_eq_some_iff.1 h).1
  apply List.ext_getElem?
  intro j
  rw [List.getElem?_set, hTo_len (by omega)]
  by_cases e : i = j
  · subst e
    rw [if_pos rfl, if_pos hil]
    have h2 : (hTo hs (i + 1))[i]? = hs[i]? := by
      unfold hTo
      rw [List.getElem?_append_left (by rw [List.length_take]; omega), List.getElem?_take_of_lt (by omega)]
    rw [h2, h]
  · rw [if_neg e]
    by_cases hj : j < i
    · simp [hTo, List.getElem?_append, List.length_take, show j < min (i + 1) hs.length by omega, show j < min i hs.length by omega]
    · simp [hTo, List.getElem?_append, List.length_take, show ¬ j < min (i + 1) hs.length by omega, show ¬ j < min i hs.length by omega, List.getElem?_replicate]
      by_cases hjl : j < hs.length
      · rw [if_pos (by omega), if_pos (by omega)]
      · rw [if_neg (by omega), if_neg (by omega)]
def icells (hs : List Nat) : List Value := hs.map fun n : Nat => Value.int .i64 (n : Int)
theorem made_ints (n : Nat) : (madeCells (Value.int .i64 0).cells (n * 1)).toList = icells (List.replicate n 0) := by
  rw [Nat.mul_one]
  apply List.ext_getElem
  · simp [size_madeCells, icells]
  · intro i h1 h2
    simp [madeCells, Value.cells, icells, Nat.mod_one]
theorem Is.ofI {w : World} {N : Nat} {v : Value} {hs : List Nat} {n : Nat} (h : w.ownsRow N 3 1 v n (icells hs)) : Is w v (hs.map fun n : Nat => (n : Int)) := by
  refine Is.ofOwns (N := N) (n := n) ?_
  rw [List.map_map]
  exact h

section
variable {F G : Nat → Prop} {pd pl K : Nat} {S : St} {com : Nat → Option (List Int)} {pend : Nat} {ov : Value} {m : Nat} {V : Nat → Value}
/-- What readHead tells. -/
def RhTo (x : List Int) (hs : List Nat) (w : World) (e : Ending) (w' : World) : Prop :=
  Chg (fun _ => False) w w' ∧ ((x = headB hs ∧ ∃ u, e = .returned (.tuple #[u, .int .i64 0]) ∧ w'.ownsRow w.heap.size 3 1 u hs.length (icells hs)) ∨ (x ≠ headB hs ∧ e = .returned (.tuple #[.slice none 0 0, .int .i64 3])))

end
end Go.Proofs.YthohgljlcfbpjaaGreat

namespace Go.Proofs.YthohgljlcfbpjaaGreat
open Go.RowKit Go.Maps

/-- f, but what com has. -/
def ovr (f : Nat → List Int) (com : Nat → Option (List Int)) (n : Nat) : List Int := (com n).getD (f n)
theorem ovr_none {f : Nat → List Int} {com : Nat → Option (List Int)} {n : Nat} (h : com n = none) : ovr f com n = f n := by simp [ovr, h]
theorem ovr_some {f : Nat → List Int} {com : Nat → Option (List Int)} {n : Nat} {b : List Int} (h : com n = some b) : ovr f com n = b := by simp [ovr, h]

/-- Done (what holds then), or the power has gone (what lasts then). -/
def Ran (F : Nat → Prop) (pd : Nat) (S : St) (k : Nat) (done cut : St → Prop) (w : World) (e : Ending) (w' : World) : Prop :=
  ∃ E S', e = .returned (.int .i64 E) ∧ To F pd w w' S' ∧ ((E = 0 ∧ Onw S S' k ∧ done S') ∨ (E = 6 ∧ Gone S S' k ∧ cut S'))

section
variable {F G : Nat → Prop} {pd pl K : Nat} {S : St} {com : Nat → Option (List Int)} {pend : Nat} {ov : Value} {m : Nat} {V : Nat → Value}
theorem LgAt.lookB {w : World} (h : LgAt w G pd pl K com pend ov m V) (hK : K ≤ 16384) {n : Nat} {b : List Int} (hn : com n = some b) : ∃ g c, V n = .slice (some ⟨g, 0, none⟩) 512 c ∧ G g ∧ (Instr.lookup 83 (.map (some m)) (.int .i64 (n : Int)) false).run Tryz.prog w = .ok (.slice (some ⟨g, 0, none⟩) 512 c) w ∧ Bs w (.slice (some ⟨g, 0, none⟩) 512 c) b := by
  obtain ⟨h1, h2, g, c, e, ho, hg⟩ := h.mb.row n b hn
  have hl := h.mb.map.lookB hK h1
  rw [vf_some hn] at hl
  have hb := h.mb.bs hn
  rw [e] at hb
  exact ⟨g, c, e, hg, by rw [hl, Option.getD_some, e], hb⟩
theorem Lk.lgTo {w w' : World} (h : Lk w F G pd pl K S com pend ov m V) {S' : St} (t : To F pd w w' S') : LgAt w' G pd pl K com pend ov m V := by
  obtain ⟨F', d, c, f⟩ := t
  exact h.lg.kept c (fun b hg hf => h.no b hf hg)
theorem Lk.to {w w' : World} (h : Lk w F G pd pl K S com pend ov m V) {S' : St} (t : To F pd w w' S') (hn : S'.nb = S.nb) : ∃ F', Lk w' F' G pd pl K S' com pend ov m V ∧ Chg F w w' ∧ ∀ b, F' b → F b ∨ w.heap.size ≤ b := by
  have hl := h.lgTo t
  obtain ⟨F', d, c, f⟩ := t
  refine ⟨F', ⟨d, hl, fun b hf hg => ?_, hn.trans h.nb⟩, c, f⟩
  rcases f b hf with e | e
  · exact h.no b e hg
  · have := h.lg.lt b hg; omega

set_option maxHeartbeats 3200000 in
set_option maxRecDepth 100000 in
theorem record_any (f : Nat → List Int) (hs : List Nat) (va : Option Addr) (vc : Nat) (w : World) (h : Lk w F G pd pl K S com pend ov m V) (hv : Is w (.slice va hs.length vc) (hs.map fun n : Nat => (n : Int))) (hvF : ∀ a, va = some a → ¬ F a.block) (hcl : Clean S K f) (hoff : S.off = false)
    (hval : Valid K hs) (hm1 : ∀ n ∈ hs, (com n).isSome) (hm2 : ∀ n, n < K → n ∉ hs → com n = none) (hx : S.writes + 1000 < 1099511627776) :
    Calls Tryz.prog 76 #[.pointer (some ⟨pl, 0, none⟩), .slice va hs.length vc] w fun e w' => Ran F pd S 64 (fun S' => Holds S' K (ovr f com) hs) (fun S' => Lasts S' K f) w e w' := by
  have hl := hval.len
  have HV : Hid (Valid K hs ∧ (∀ n ∈ hs, (com n).isSome) ∧ (∀ n, n < K → n ∉ hs → com n = none)) := ⟨hval, hm1, hm2⟩
  have HC : Hid (Clean S K f ∧ S.off = false) := ⟨hcl, hoff⟩
  have HK : Hid (Lk w F G pd pl K S com pend ov m V) := h
  have HI : Hid (Is w (.slice va hs.length vc) (hs.map fun n : Nat => (n : Int))) := hv
  have HF : Hid (∀ a, va = some a → ¬ F a.block) := hvF
  have hwf := h.dk.wf
  have hnb := h.nb
  have hK := h.top
  clear h hv hvF hcl hval hm1 hm2
  by_cases h0 : hs.length = 0
  · have hs0 : hs = [] := List.eq_nil_of_length_eq_zero h0
    have HQ : Hid (Ran F pd S 64 (fun S' => Holds S' K (ovr f com) hs) (fun S' => Lasts S' K f) w (.returned (.int .i64 0)) w) := by
      refine ⟨0, S, rfl, To.refl HK.out.dk, .inl ⟨rfl, (Onw.refl hwf hoff).mono (by omega), ?_⟩⟩
      subst hs0
      refine Holds.ext HC.out.1 (fun n hn => ?_)
      exact (ovr_none (HV.out.2.2 n hn (by simp))).symm
    have k0 : ((hs.length : Nat) : Int) = 0 := by omega
    clear hwf hnb
    go_enter Tryz.func76, Tryz.ntmps76
    go_wp2
    go_ret
    exact HQ.out
  · obtain ⟨xs, hxs⟩ : ∃ xs, (hs.map fun n => (com n).getD []) = xs := ⟨_, rfl⟩
    have HX : Hid (∀ j n, hs[j]? = some n → ∃ b, com n = some b ∧ xs.getD j [] = b ∧ b.length = 512) := by
      intro j n hj
      obtain ⟨b, hb⟩ := Option.isSome_iff_exists.1 (HV.out.2.1 n (List.mem_of_getElem? hj))
      refine ⟨b, hb, ?_, (HK.out.lg.mb.row n b hb).2.1⟩
      rw [← hxs]
      simp [List.getD, hj, hb]
    have k0 : (((hs.length : Nat) : Int) == 0) = false := by rw [beq_eq_false_iff_ne]; omega
    have HT0 : Hid (To F pd w w S ∧ Cop S S xs 0) := ⟨To.refl HK.out.dk, Cop.start hwf hoff HC.out.1.calm xs⟩
    clear hxs hwf hoff
    go_enter Tryz.func76, Tryz.ntmps76
    go_wp2
    go_loopw [5, 6, 7, 14] (fun _ _ _ x wr => ∃ i Si, i ≤ hs.length ∧ x = .int .i64 (i : Int) ∧ Hid (To F pd w wr Si ∧ Cop S Si xs i)) (fun _ _ _ x _ => hs.length - (intOf x).toNat)
    case atStart => exact ⟨0, S, Nat.zero_le _, rfl, HT0⟩
    case round =>
      obtain ⟨i, Si, hile, rfl, HR⟩ := hrel
      clear HT0
      have hlg := HK.out.lgTo HR.out.1
      have c0 := hlg.c0
      have c1 := hlg.c1
      obtain ⟨Fi, di, ci, fi⟩ := HR.out.1
      have hon := HR.out.2.on
      have hoffi := hon.off
      have hwri := hon.wr
      have hnbi : Si.nb = K + 65 := hon.nb.trans hnb
      have HD : Hid (Dk wr Fi pd Si ∧ Chg F w wr ∧ ∀ b, Fi b → F b ∨ w.heap.size ≤ b) := ⟨di, ci, fi⟩
      have his : Is wr (.slice va hs.length vc) (hs.map fun n : Nat => (n : Int)) := HI.out.kept ci (fun g hg => by
        cases va with
        | none => cases hg
        | some a =>
          have e : g = a.block := by cases hg; rfl
          rw [e]; exact HF.out a rfl)
      by_cases hlt : i < hs.length
      · obtain ⟨n, hn⟩ : ∃ n, hs[i]? = some n := ⟨hs[i], List.getElem?_eq_getElem hlt⟩
        obtain ⟨bb, off, hva, hcs⟩ := his.nth (j := i) (by simpa using hlt)
        have hc := hcs i (by simpa using hlt)
        have hg : (hs.map fun n : Nat => (n : Int)).getD i 0 = (n : Int) := by simp [List.getD, hn]
        rw [hg] at hc
        obtain ⟨b, hb, hxb, hbl⟩ := HX.out i n hn
        obtain ⟨g, c, _, hgG, lk, hbs⟩ := hlg.lookB hK hb
        have lkd : (Instr.lookup 83 (.map (some m)) (.int .i64 (n : Int)) false).run Tryz.prog wr.drew = .ok (.slice (some ⟨g, 0, none⟩) 512 c) wr.drew := by
          obtain ⟨g', c', _, _, lk', _⟩ := (hlg.kept (Chg.drew (fun _ => False) wr) (fun _ _ h => h)).lookB hK hb
          have := (hlg.mb.row n b hb)
          simp_all
        have hki : (i : Int) < (hs.length : Int) := by omega
        have wr1 : IntKind.i64.wrap (1 + (i : Int)) = 1 + (i : Int) := by rw [IntKind.wrap_i64]; omega
        have WR0 := write_any Fi pd Si ((1 + i : Nat) : Int) (.slice (some ⟨g, 0, none⟩) 512 c) b wr.drew (di.kept (Chg.drew (fun _ => False) wr) (fun _ _ h => h)) (hbs.kept (Chg.drew (fun _ => False) wr) (fun _ _ _ _ _ h => h)) (fun g' hg' hf => by
          have e := own_at hg'
          subst e
          rcases fi _ hf with h | h
          · exact HK.out.no _ h hgG
          · have := HK.out.lg.lt _ hgG; omega) (by omega)
        have WC := St.write_cases (S := Si) (n := 1 + i) (b := b) hoffi (by omega) hbl
        obtain ⟨E, hE⟩ : ∃ E, Si.writeE ((1 + i : Nat) : Int) b = E := ⟨_, rfl⟩
        obtain ⟨S2, hS2⟩ : ∃ S2, Si.write ((1 + i : Nat) : Int) b = S2 := ⟨_, rfl⟩
        rw [hE, hS2] at WR0 WC
        have WR : Hid (Calls Tryz.prog 58 #[.pointer (some ⟨pd, 0, none⟩), .int .i64 (1 + (i : Int)), .slice (some ⟨g, 0, none⟩) 512 c] wr.drew fun e w' => e = .returned (.int .i64 E) ∧ w'.cell? ⟨pl, 0, none⟩ = some (.pointer (some ⟨pd, 0, none⟩)) ∧ w'.cell? ⟨pl, 1, none⟩ = some (.map (some m)) ∧ (Instr.lookup 83 (.map (some m)) (.int .i64 (n : Int)) false).run Tryz.prog w' = .ok (.slice (some ⟨g, 0, none⟩) 512 c) w' ∧ Hid (To F pd w w' S2)) := by
          have e1 : (1 : Int) + (i : Int) = ((1 + i : Nat) : Int) := by omega
          rw [e1]
          refine WR0.mono ?_
          rintro e w' ⟨rfl, t⟩
          have t2 : To F pd w w' S2 := To.trans (ci.trans (Chg.drew F wr) (fun _ _ h => h)) fi t
          have hl2 := HK.out.lgTo t2
          obtain ⟨g', c', e', _, lk', _⟩ := hl2.lookB hK hb
          refine ⟨rfl, hl2.c0, hl2.c1, ?_, t2⟩
          have e'' := (hlg.lookB hK hb)
          obtain ⟨g2, c2, e2, _, lk2, _⟩ := e''
          have : Value.slice (some ⟨g', 0, none⟩) 512 c' = Value.slice (some ⟨g, 0, none⟩) 512 c := by
            rw [lk2] at lk
            injection lk with h1 h2
            rw [← h1, ← e', ← e2]
          rw [← this]; exact lk'
        have HN : Hid (hs[i]? = some n ∧ xs.getD i [] = b ∧ b.length = 512 ∧ Si.nb = K + 65) := ⟨hn, hxb, hbl, hnbi⟩
        have HWC : Hid ((E = 0 ∧ S2 = Si.pushed (1 + i) b ∧ Si.arm ≠ 1) ∨ (E = 6 ∧ S2 = Si.cut Si.picks ∧ Si.arm = 1)) := WC
        subst hva
        clear his hcs hg hn hxb hbl hb hgG hbs WR0 WC hE hS2 hlg di ci fi hon hoffi hnbi hwri HD
        go_wp2_with fail
        go_region_held (fun w' => w'.cell? ⟨pl, 0, none⟩ = some (.pointer (some ⟨pd, 0, none⟩)) ∧ w'.cell? ⟨pl, 1, none⟩ = some (.map (some m)) ∧ (Instr.lookup 83 (.map (some m)) (.int .i64 (n : Int)) false).run Tryz.prog w' = .ok (.slice (some ⟨g, 0, none⟩) 512 c) w')
          (first | assumption | exact ⟨c0, c1, lk⟩ | exact ⟨c0, c1, lkd⟩ | exact ⟨q0, q1, q2⟩)
          (first | (go_at_call 58; refine WR.out.mono ?_; clear WR; rintro e w2 ⟨rfl, q0, q1, q2, HT⟩))
        all_goals
          clear lk lkd c0 c1 hc wr1
          rcases HWC.out with ⟨hE, hS2, hA⟩ | ⟨hE, hS2, hA⟩
          · subst hE
            have HC2 : Hid (To F pd w w2 S2 ∧ Cop S S2 xs (i + 1)) := by
              refine ⟨HT.out, ?_⟩
              obtain ⟨n1, n2, n3, n4⟩ := HN.out
              rw [hS2, ← n2]
              exact HR.out.2.push (by omega) (by omega) (by rw [n2]; exact n3)
            clear hS2 hA HWC HR HT q0 q1 q2
            go_wp2
            go_roundw
            case rel => exact ⟨i + 1, S2, by omega, by go_num, HC2⟩
            case measure => simp [intOf]; omega
          · subst hE
            have HQ : Hid (Ran F pd S 64 (fun S' => Holds S' K (ovr f com) hs) (fun S' => Lasts S' K f) w (.returned (.int .i64 6)) w2) := by
              have hh := HR.out.2.cut HC.out.1 hA Si.picks
              refine ⟨6, S2, rfl, HT.out, .inr ⟨rfl, ?_, ?_⟩⟩
              · rw [hS2]; exact hh.1.mono (by omega)
              · rw [hS2]; exact hh.2
            clear hS2 hA HWC HR HT q0 q1 q2
            go_wp2
            go_ret
            exact HQ.out
      · have hie : i = hs.length := by omega
        subst hie
        have hki : ¬ ((hs.length : Int) < (hs.length : Int)) := by omega
        have SY : Hid (Calls Tryz.prog 59 #[.pointer (some ⟨pd, 0, none⟩)] wr fun e w' => e = .returned (.int .i64 0) ∧ To Fi pd wr w' Si.synced) := by
          have h1 := sync_any Fi pd Si wr di (by omega)
          rw [show Si.sync = Si.synced by unfold St.sync; rw [if_neg (by simp [hoffi])], show Si.syncE = 0 by unfold St.syncE; rw [if_neg (by simp [hoffi])]] at h1
          exact h1
        have HN : Hid (Si.nb = K + 65 ∧ Si.writes ≤ S.writes + hs.length ∧ Si.off = false) := ⟨hnbi, hwri, hoffi⟩
        clear his hlg di ci fi hon hoffi hnbi hwri c1
        go_wp2_with fail
        refine SY.out.mono ?_
        rintro e w4 ⟨rfl, t4⟩
        have t4' := To.trans HD.out.2.1 HD.out.2.2 t4
        have hl4 := HK.out.lgTo t4'
        have c4 := hl4.c0
        have LH : Hid (Calls Tryz.prog 60 #[.slice va hs.length vc] w4.drew fun e w5 => ∃ ua uc, e = .returned (.slice ua 512 uc) ∧ w5.cell? ⟨pl, 0, none⟩ = some (.pointer (some ⟨pd, 0, none⟩)) ∧
            Hid (Calls Tryz.prog 56 #[.pointer (some ⟨pd, 0, none⟩), .int .i64 ((0 : Nat) : Int), .slice ua 512 uc] w5 fun e w6 => ∃ E, e = .returned (.int .i64 E) ∧ w6.cell? ⟨pl, 0, none⟩ = some (.pointer (some ⟨pd, 0, none⟩)) ∧ Hid (∃ S6, FixTo Si.synced 0 (headB hs) E S6 ∧ To F pd w w6 S6))) := by
          obtain ⟨F4, d4, c4', f4⟩ := t4'
          have his4 : Is w4.drew (.slice va hs.length vc) (hs.map fun n : Nat => (n : Int)) := HI.out.kept (c4'.trans (Chg.drew F w4) (fun _ _ h => h)) (fun g hg => by
            cases va with
            | none => cases hg
            | some a =>
              have e : g = a.block := by cases hg; rfl
              rw [e]; exact HF.out a rfl)
          refine (layHead_any (.slice va hs.length vc) hs w4.drew his4 hl).mono ?_
          rintro e w5 ⟨u, rfl, ho5, hc5⟩
          obtain ⟨ua, uc, rfl⟩ := cown_slice ho5
          have hcc : Chg (fun _ => False) w4 w5 := (Chg.drew (fun _ => False) w4).trans hc5 (fun _ _ h => h)
          have hl5 := hl4.kept hcc (fun _ _ h => h)
          refine ⟨ua, uc, rfl, hl5.c0, ?_⟩
          have hb5 : Bs w5 (.slice ua 512 uc) (headB hs) := Bs.ofOwns ho5
          refine (fix_any F4 pd Si.synced 0 _ (headB hs) w5 (d4.kept hcc (fun _ _ h => h)) hb5 (fun g hg hf => by
              have h1 := (ho5.lt g hg).1
              have h2 := d4.lt g hf
              have h3 : w4.drew.heap.size = w4.heap.size := rfl
              omega) (by show Si.writes + 1 < _; have := HN.out.2.1; omega) HN.out.2.2 (by show 0 < Si.nb; rw [HN.out.1]; omega) (headB_len hs)).mono ?_
          rintro e w6 ⟨E, S6, rfl, hfx, t6⟩
          have t6' : To F pd w w6 S6 := To.trans (c4'.trans hcc (fun _ _ h => h.elim)) f4 (by
            obtain ⟨F6, d6, c6, f6⟩ := t6
            exact ⟨F6, d6, c6, f6⟩)
          exact ⟨E, rfl, (HK.out.lgTo t6').c0, S6, hfx, t6'⟩
        clear SY t4 t4' hl4 HD c0
        go_wp2_with fail
        go_region_held (fun w' => w'.cell? ⟨pl, 0, none⟩ = some (.pointer (some ⟨pd, 0, none⟩)))
          (first | assumption | exact c4 | exact q5 | exact q6)
          (first | (go_at_call 60; refine LH.out.mono ?_; clear LH; rintro e w5 ⟨ua, uc, rfl, q5, FX⟩) | (go_at_call 56; refine FX.out.mono ?_; clear FX; rintro e w6 ⟨E, rfl, q6, HS⟩))
        all_goals
          have HQ : Hid (Ran F pd S 64 (fun S' => Holds S' K (ovr f com) hs) (fun S' => Lasts S' K f) w (.returned (.int .i64 E)) w6) := by
            obtain ⟨S6, hfx, t6⟩ := HS.out
            refine ⟨E, S6, rfl, t6, ?_⟩
            rcases hfx with ⟨hE, hS6, hA⟩ | ⟨hE, hS6, hA⟩
            · have hh := HR.out.2.head (g := ovr f com) HC.out.1 HV.out.1 (fun j n hj => by
                obtain ⟨b, hb, hxb, _⟩ := HX.out j n hj
                rw [hxb, ovr_some hb]) (fun n hn hm => ovr_none (HV.out.2.2 n hn hm))
              rw [← hS6] at hh
              exact .inl ⟨hE, hh.1.mono (by omega), hh.2⟩
            · have hh := HR.out.2.headCut HC.out.1 hA Si.synced.picks
              rw [← hS6] at hh
              exact .inr ⟨hE, hh.1.mono (by omega), hh.2⟩
          clear HS HR c4 q5 q6
          go_wp2
          go_ret
          exact HQ.out
end
end Go.Proofs.YthohgljlcfbpjaaGreat

namespace Go.Proofs.YthohgljlcfbpjaaGreat
open Go.RowKit Go.Maps

section
variable {F G : Nat → Prop} {pd pl K : Nat} {S : St} {com : Nat → Option (List Int)} {pend : Nat} {ov : Value} {m : Nat} {V : Nat → Value}

theorem readOn {S : St} {n : Nat} (h0 : S.off = false) (hn : n < S.nb) : S.readE (n : Int) = 0 ∧ S.readV (n : Int) = S.last n := by
  have e : S.readE (n : Int) = 0 := by unfold St.readE; rw [if_neg (by simp [h0]), if_pos (by omega)]
  exact ⟨e, by unfold St.readV; rw [if_pos e, Int.toNat_natCast]⟩

set_option maxHeartbeats 3200000 in
set_option maxRecDepth 100000 in
theorem home_any (f : Nat → List Int) (hs : List Nat) (va : Option Addr) (vc : Nat) (w : World) (h : Lk w F G pd pl K S com pend ov m V) (hv : Is w (.slice va hs.length vc) (hs.map fun n : Nat => (n : Int))) (hvF : ∀ a, va = some a → ¬ F a.block) (hcl : Holds S K f hs) (hoff : S.off = false)
    (hx : S.writes + 1000 < 1099511627776) :
    Calls Tryz.prog 77 #[.pointer (some ⟨pl, 0, none⟩), .slice va hs.length vc] w fun e w' => Ran F pd S 64 (fun S' => Clean S' K f) (fun S' => Lasts S' K f) w e w' := by
  have hl := hcl.val.len
  have HC : Hid (Holds S K f hs ∧ S.off = false) := ⟨hcl, hoff⟩
  have HK : Hid (Lk w F G pd pl K S com pend ov m V) := h
  have HI : Hid (Is w (.slice va hs.length vc) (hs.map fun n : Nat => (n : Int))) := hv
  have HF : Hid (∀ a, va = some a → ¬ F a.block) := hvF
  have hwf := h.dk.wf
  have hnb := h.nb
  have hK := h.top
  clear h hv hvF hcl
  by_cases h0 : hs.length = 0
  · have hs0 : hs = [] := List.eq_nil_of_length_eq_zero h0
    have HQ : Hid (Ran F pd S 64 (fun S' => Clean S' K f) (fun S' => Lasts S' K f) w (.returned (.int .i64 0)) w) := by
      refine ⟨0, S, rfl, To.refl HK.out.dk, .inl ⟨rfl, (Onw.refl hwf hoff).mono (by omega), ?_⟩⟩
      subst hs0
      exact HC.out.1
    have k0 : ((hs.length : Nat) : Int) = 0 := by omega
    clear hwf hnb
    go_enter Tryz.func77, Tryz.ntmps77
    go_wp2
    go_ret
    exact HQ.out
  · have k0 : (((hs.length : Nat) : Int) == 0) = false := by rw [beq_eq_false_iff_ne]; omega
    have HT0 : Hid (To F pd w w S ∧ Hom S S K hs 0) := ⟨To.refl HK.out.dk, Hom.start hwf hoff HC.out.1.calm⟩
    clear hwf hoff
    go_enter Tryz.func77, Tryz.ntmps77
    go_wp2
    go_loopw [5, 6, 7, 8, 9, 16] (fun _ _ _ _ _ x wr => ∃ i Si, i ≤ hs.length ∧ x = .int .i64 (i : Int) ∧ Hid (To F pd w wr Si ∧ Hom S Si K hs i)) (fun _ _ _ _ _ x _ => hs.length - (intOf x).toNat)
    case atStart => exact ⟨0, S, Nat.zero_le _, rfl, HT0⟩
    case round =>
      obtain ⟨i, Si, hile, rfl, HR⟩ := hrel
      clear HT0
      have hlg := HK.out.lgTo HR.out.1
      have c0 := hlg.c0
      obtain ⟨Fi, di, ci, fi⟩ := HR.out.1
      have hon := HR.out.2.on
      have hoffi := hon.off
      have hwri := hon.wr
      have hnbi : Si.nb = K + 65 := hon.nb.trans hnb
      have HD : Hid (Dk wr Fi pd Si ∧ Chg F w wr ∧ ∀ b, Fi b → F b ∨ w.heap.size ≤ b) := ⟨di, ci, fi⟩
      have his : Is wr (.slice va hs.length vc) (hs.map fun n : Nat => (n : Int)) := HI.out.kept ci (fun g hg => by
        cases va with
        | none => cases hg
        | some a =>
          have e : g = a.block := by cases hg; rfl
          rw [e]; exact HF.out a rfl)
      by_cases hlt : i < hs.length
      · obtain ⟨n, hn⟩ : ∃ n, hs[i]? = some n := ⟨hs[i], List.getElem?_eq_getElem hlt⟩
        obtain ⟨bb, off, hva, hcs⟩ := his.nth (j := i) (by simpa using hlt)
        have hc := hcs i (by simpa using hlt)
        have hg : (hs.map fun n : Nat => (n : Int)).getD i 0 = (n : Int) := by simp [List.getD, hn]
        rw [hg] at hc
        have hnK : n < K := HC.out.1.val.lt n (List.mem_of_getElem? hn)
        have hki : (i : Int) < (hs.length : Int) := by omega
        obtain ⟨b, hb⟩ : ∃ b, S.syn (1 + i) = b := ⟨_, rfl⟩
        have hbl : b.length = 512 := by rw [← hb]; exact HC.out.1.wf.syn _ (by omega)
        have hrd := readOn (S := Si) (n := 1 + i) hoffi (by omega)
        rw [HR.out.2.read (by omega), hb] at hrd
        have RD : Hid (Calls Tryz.prog 108 #[.pointer (some ⟨pd, 0, none⟩), .int .i64 (1 + (i : Int))] wr fun e w' => ∃ u, e = .returned (.tuple #[u, .int .i64 0]) ∧ Fresh wr w' u b) := by
          have h1 := read_any Fi pd Si ((1 + i : Nat) : Int) wr di (by omega)
          rw [hrd.1, hrd.2] at h1
          have e1 : (1 : Int) + (i : Int) = ((1 + i : Nat) : Int) := by omega
          rw [e1]; exact h1
        have WC := St.write_cases (S := Si) (n := 65 + n) (b := b) hoffi (by omega) hbl
        have HN : Hid (hs[i]? = some n ∧ S.syn (1 + i) = b ∧ Si.nb = K + 65) := ⟨hn, hb, hnbi⟩
        subst hva
        clear his hcs hg hn hb hlg di ci fi hon hoffi hnbi hrd
        go_wp2_with fail
        refine RD.out.mono ?_
        rintro e w1 ⟨u, rfl, f1⟩
        obtain ⟨ua, uc, hu⟩ := cown_slice f1.own
        rw [hbl] at hu
        subst hu
        have cl1 : w1.cell? ⟨pl, 0, none⟩ = some (.pointer (some ⟨pd, 0, none⟩)) := f1.chg.cell c0 (fun h => h)
        have WR0 := write_any Fi pd Si ((65 + n : Nat) : Int) (.slice ua 512 uc) b w1 (HD.out.1.kept f1.chg (fun _ _ h => h)) f1.bs (fun g' hg' hf => by
          have h1 := f1.new _ hg'
          have h2 := HD.out.1.lt _ hf
          omega) (by omega)
        obtain ⟨E, hE⟩ : ∃ E, Si.writeE ((65 + n : Nat) : Int) b = E := ⟨_, rfl⟩
        obtain ⟨S2, hS2⟩ : ∃ S2, Si.write ((65 + n : Nat) : Int) b = S2 := ⟨_, rfl⟩
        rw [hE, hS2] at WR0 WC
        have WR : Hid (Calls Tryz.prog 58 #[.pointer (some ⟨pd, 0, none⟩), .int .i64 (65 + (n : Int)), .slice ua 512 uc] w1 fun e w' => e = .returned (.int .i64 E) ∧ Hid (To F pd w w' S2)) := by
          have e1 : (65 : Int) + (n : Int) = ((65 + n : Nat) : Int) := by omega
          rw [e1]
          refine WR0.mono ?_
          rintro e w' ⟨rfl, t⟩
          exact ⟨rfl, To.trans (HD.out.2.1.trans f1.chg (fun _ _ h => h.elim)) HD.out.2.2 t⟩
        clear RD WR0 hE hS2 f1 HD
        rcases WC with ⟨hE, hS2, hA⟩ | ⟨hE, hS2, hA⟩
        · have HC2 : Hid (Hom S S2 K hs (i + 1)) := by
            obtain ⟨n1, n2, n3⟩ := HN.out
            have := HR.out.2.push HC.out.1 n1
            rw [n2, ← hS2] at this
            exact this
          subst hE
          clear hS2 hA HR
          go_wp2_with fail
          refine WR.out.mono ?_
          rintro e w2 ⟨rfl, HT⟩
          clear WR cl1 c0 hc
          go_wp2
          go_roundw
          case rel => exact ⟨i + 1, S2, by omega, by go_num, HT.out, HC2.out⟩
          case measure => simp [intOf]; omega
        · have HC2 : Hid (Gone S S2 64 ∧ Lasts S2 K f) := by
            have hh := HR.out.2.cut HC.out.1 hA Si.picks
            rw [← hS2] at hh
            exact ⟨hh.1.mono (by omega), hh.2⟩
          subst hE
          clear hS2 hA HR
          go_wp2_with fail
          refine WR.out.mono ?_
          rintro e w2 ⟨rfl, HT⟩
          have HQ : Hid (Ran F pd S 64 (fun S' => Clean S' K f) (fun S' => Lasts S' K f) w (.returned (.int .i64 6)) w2) := ⟨6, S2, rfl, HT.out, .inr ⟨rfl, HC2.out.1, HC2.out.2⟩⟩
          clear WR cl1 c0 hc HT HC2
          go_wp2
          go_ret
          exact HQ.out
      · have hie : i = hs.length := by omega
        subst hie
        have hki : ¬ ((hs.length : Int) < (hs.length : Int)) := by omega
        have SY : Hid (Calls Tryz.prog 59 #[.pointer (some ⟨pd, 0, none⟩)] wr fun e w' => e = .returned (.int .i64 0) ∧ To Fi pd wr w' Si.synced) := by
          have h1 := sync_any Fi pd Si wr di (by omega)
          rw [show Si.sync = Si.synced by unfold St.sync; rw [if_neg (by simp [hoffi])], show Si.syncE = 0 by unfold St.syncE; rw [if_neg (by simp [hoffi])]] at h1
          exact h1
        have HN : Hid (Si.nb = K + 65 ∧ Si.writes ≤ S.writes + hs.length ∧ Si.off = false) := ⟨hnbi, hwri, hoffi⟩
        clear his hlg di ci fi hon hoffi hnbi hwri
        go_wp2_with fail
        refine SY.out.mono ?_
        rintro e w4 ⟨rfl, t4⟩
        have t4' := To.trans HD.out.2.1 HD.out.2.2 t4
        have hl4 := HK.out.lgTo t4'
        have c4 := hl4.c0
        have LH : Hid (Calls Tryz.prog 60 #[.slice none 0 0] w4.drew fun e w5 => ∃ ua uc, e = .returned (.slice ua 512 uc) ∧ w5.cell? ⟨pl, 0, none⟩ = some (.pointer (some ⟨pd, 0, none⟩)) ∧
            Hid (Calls Tryz.prog 56 #[.pointer (some ⟨pd, 0, none⟩), .int .i64 ((0 : Nat) : Int), .slice ua 512 uc] w5 fun e w6 => ∃ E, e = .returned (.int .i64 E) ∧ w6.cell? ⟨pl, 0, none⟩ = some (.pointer (some ⟨pd, 0, none⟩)) ∧ Hid (∃ S6, FixTo Si.synced 0 (headB []) E S6 ∧ To F pd w w6 S6))) := by
          obtain ⟨F4, d4, c4', f4⟩ := t4'
          refine (layHead_any (.slice none 0 0) [] w4.drew (.inl ⟨rfl, rfl⟩) (by simp)).mono ?_
          rintro e w5 ⟨u, rfl, ho5, hc5⟩
          obtain ⟨ua, uc, rfl⟩ := cown_slice ho5
          have hcc : Chg (fun _ => False) w4 w5 := (Chg.drew (fun _ => False) w4).trans hc5 (fun _ _ h => h)
          have hl5 := hl4.kept hcc (fun _ _ h => h)
          refine ⟨ua, uc, rfl, hl5.c0, ?_⟩
          have hb5 : Bs w5 (.slice ua 512 uc) (headB []) := Bs.ofOwns ho5
          refine (fix_any F4 pd Si.synced 0 _ (headB []) w5 (d4.kept hcc (fun _ _ h => h)) hb5 (fun g hg hf => by
              have h1 := (ho5.lt g hg).1
              have h2 := d4.lt g hf
              have h3 : w4.drew.heap.size = w4.heap.size := rfl
              omega) (by show Si.writes + 1 < _; have := HN.out.2.1; omega) HN.out.2.2 (by show 0 < Si.nb; rw [HN.out.1]; omega) (headB_len [])).mono ?_
          rintro e w6 ⟨E, S6, rfl, hfx, t6⟩
          have t6' : To F pd w w6 S6 := To.trans (c4'.trans hcc (fun _ _ h => h.elim)) f4 (by
            obtain ⟨F6, d6, c6, f6⟩ := t6
            exact ⟨F6, d6, c6, f6⟩)
          exact ⟨E, rfl, (HK.out.lgTo t6').c0, S6, hfx, t6'⟩
        clear SY t4 t4' hl4 HD c0
        go_wp2_with fail
        go_region_held (fun w' => w'.cell? ⟨pl, 0, none⟩ = some (.pointer (some ⟨pd, 0, none⟩)))
          (first | assumption | exact c4 | exact q5 | exact q6)
          (first | (go_at_call 60; refine LH.out.mono ?_; clear LH; rintro e w5 ⟨ua, uc, rfl, q5, FX⟩) | (go_at_call 56; refine FX.out.mono ?_; clear FX; rintro e w6 ⟨E, rfl, q6, HS⟩))
        all_goals
          have HQ : Hid (Ran F pd S 64 (fun S' => Clean S' K f) (fun S' => Lasts S' K f) w (.returned (.int .i64 E)) w6) := by
            obtain ⟨S6, hfx, t6⟩ := HS.out
            refine ⟨E, S6, rfl, t6, ?_⟩
            rcases hfx with ⟨hE, hS6, hA⟩ | ⟨hE, hS6, hA⟩
            · have hh := HR.out.2.head HC.out.1
              rw [← hS6] at hh
              exact .inl ⟨hE, hh.1.mono (by omega), hh.2⟩
            · have hh := HR.out.2.headCut HC.out.1 hA Si.synced.picks
              rw [← hS6] at hh
              exact .inr ⟨hE, hh.1.mono (by omega), hh.2⟩
          clear HS HR c4 q5 q6
          go_wp2
          go_ret
          exact HQ.out
end
end Go.Proofs.YthohgljlcfbpjaaGreat
