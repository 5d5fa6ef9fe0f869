/-
  Read of package dir.
-/
import Derived.Test.YtbhfmceapffhnaaDoorDDec2
import Derived.Deep.Cut
namespace Go.Proofs.YtbhfmceapffhnaaDoor
open Go.RowKit

/-- The bytes of slot i. -/
def chunk (bs : List Int) (i : Nat) : List Int := (bs.drop (64 * i)).take 64
theorem chunk_len (bs : List Int) (i : Nat) (h : 64 * (i + 1) ≤ bs.length) : (chunk bs i).length = 64 := by
  unfold chunk; rw [List.length_take, List.length_drop]; omega
theorem chunk_isB {bs : List Int} (h : IsB bs) (i : Nat) : IsB (chunk bs i) := (h.drop _).take _
/-- The first of them that is no OK. -/
def firstE (l : List Int) : Int := (l.find? fun x => decide (x ≠ 0)).getD 0
/-- What Read answers: an error's number .. -/
def readE (bs : List Int) : Int := if bs.length % 512 ≠ 0 then 3 else firstE ((List.range (bs.length / 64)).map fun i => decE (chunk bs i))
/-- The first k slots. -/
def rowsK (bs : List Int) (k : Nat) : List En := (List.range k).map fun i => decV (chunk bs i)
/-- .. and the slots. -/
def readV (bs : List Int) : List En := if readE bs = 0 then rowsK bs (bs.length / 64) else []
theorem firstE_no {l : List Int} (h : ∀ x ∈ l, x = 0) : firstE l = 0 := by
  unfold firstE
  rw [List.find?_eq_none.2 (fun x hx => by simp [h x hx])]
  rfl
theorem firstE_at {f : Nat → Int} {n k : Nat} (hk : k < n) (h : ∀ j, j < k → f j = 0) (hf : f k ≠ 0) : firstE ((List.range n).map f) = f k := by
  unfold firstE
  have : ((List.range n).map f).find? (fun x => decide (x ≠ 0)) = some (f k) := by
    rw [List.find?_eq_some_iff_append]
    refine ⟨by simp [hf], (List.range k).map f, ((List.range n).map f).drop (k + 1), ?_, ?_⟩
    · have e1 : (List.range n).map f = ((List.range n).map f).take k ++ ((List.range n).map f).drop k := (List.take_append_drop _ _).symm
      have hl : k < ((List.range n).map f).length := by simpa using hk
      have t1 : ((List.range n).map f).take k = (List.range k).map f := by rw [← List.map_take, List.take_range, Nat.min_eq_left (by omega)]
      have t2 : ((List.range n).map f)[k] = f k := by simp
      rw [List.drop_eq_getElem_cons hl, t1, t2] at e1
      exact e1
    · intro a ha
      obtain ⟨j, hj, rfl⟩ := List.mem_map.1 ha
      simp [h j (List.mem_range.1 hj)]
  rw [this]
  rfl
theorem rowsK_succ (bs : List Int) (k : Nat) : rowsK bs (k + 1) = rowsK bs k ++ [decV (chunk bs k)] := by simp [rowsK, List.range_succ]
theorem rowsK_len (bs : List Int) (k : Nat) : (rowsK bs k).length = k := by simp [rowsK]
/-- The first k of n, the others free. -/
def fillK (bs : List Int) (n k : Nat) : List En := rowsK bs k ++ List.replicate (n - k) En.fr
theorem fillK_len (bs : List Int) (n k : Nat) (h : k ≤ n) : (fillK bs n k).length = n := by unfold fillK; rw [List.length_append, rowsK_len, List.length_replicate]; omega
theorem fillK_set (bs : List Int) (n k : Nat) (h : k < n) : (fillK bs n k).set k (decV (chunk bs k)) = fillK bs n (k + 1) := by
  unfold fillK
  rw [List.set_append_right _ _ (by rw [rowsK_len]; exact Nat.le_refl _), rowsK_len, Nat.sub_self, rowsK_succ]
  have : n - k = (n - (k + 1)) + 1 := by omega
  rw [this, List.replicate_succ, List.set_cons_zero]
  simp
theorem madeE (n : Nat) : (madeCells (Value.agg #[.string ⟨#[]⟩, .int .i64 0]).cells (n * 2)).toList = ecells (List.replicate n En.fr) := by
  apply List.ext_getElem?
  intro j
  have hl : (ecells (List.replicate n En.fr)).length = n * 2 := by rw [ecells_len, List.length_replicate]
  by_cases hj : j < n * 2
  · have h2 : j / 2 < (List.replicate n En.fr).length := by rw [List.length_replicate]; omega
    have hg := ecells_get (List.replicate n En.fr) (j / 2) h2
    have e : (List.replicate n En.fr).getD (j / 2) En.fr = En.fr := by
      rw [List.length_replicate] at h2
      simp [List.getD, h2]
    rw [e] at hg
    have hm : (madeCells (Value.agg #[.string ⟨#[]⟩, .int .i64 0]).cells (n * 2)).toList[j]? = some ((Value.agg #[.string ⟨#[]⟩, .int .i64 0]).cells[j % 2]!) := by
      simp [madeCells, hj, Value.cells]
    rw [hm]
    rcases (by omega : j = j / 2 * 2 ∨ j = j / 2 * 2 + 1) with h | h
    · have h3 : j % 2 = 0 := by omega
      rw [h3]
      rw [← h] at hg
      rw [hg.1]; rfl
    · have h3 : j % 2 = 1 := by omega
      rw [h3]
      rw [← h] at hg
      rw [hg.2]; rfl
  · rw [List.getElem?_eq_none (by rw [Array.length_toList, size_madeCells]; omega), List.getElem?_eq_none (by rw [hl]; omega)]
theorem makeE (n : Nat) (hn : n ≤ 16777216) : ∃ o : Obj, (∀ w : World, (Instr.makeSlice 26 (.int .i64 (n : Int)) (.int .i64 (n : Int))).run Tryd.prog w = .ok (.slice (some ⟨w.heap.size, 0, none⟩) n n) (w.alloc o)) ∧ ∀ w : World, (w.alloc o).ownsRow w.heap.size 57 2 (.slice (some ⟨w.heap.size, 0, none⟩) n n) n (ecells (List.replicate n En.fr)) := by
  obtain ⟨i0, hi, hz0, hz1, hz2⟩ := info_parts infoE
  refine ⟨.cells (madeCells (Value.agg #[.string ⟨#[]⟩, .int .i64 0]).cells (n * 2)) 57, fun w => ?_, fun w => ?_⟩
  · have := run_make (P := Tryd.prog) w 26 57 i0 _ Tryd.underlying26 hi hz0 .i64 .i64 (n : Int) (n : Int) (by omega) (by omega) (by rw [hz2]; omega) (by omega)
    rw [hz1] at this
    exact this
  · refine ⟨by rw [ecells_len, List.length_replicate], .inr ⟨w.heap.size, n, _, rfl, Nat.le_refl _, heap_alloc_new w _, Nat.le_refl _, by unfold maxLen; omega, by simp [size_madeCells], ?_⟩⟩
    rw [madeE, List.take_of_length_le (by rw [ecells_len, List.length_replicate]; exact Nat.le_refl _)]
/-- The slot's bytes in memory. -/
theorem chunk_bs {w : World} {b off vc : Nat} {bs : List Int} (h : Bs w (.slice (some ⟨b, off, none⟩) bs.length vc) bs) (hv : bs.length ≤ vc) (hm : vc ≤ maxLen) (k : Nat) (hk : 64 * (k + 1) ≤ bs.length) : Bs w (.slice (some ⟨b, off + k * 64, none⟩) 64 (vc - k * 64)) (chunk bs k) := by
  have hl := chunk_len bs k hk
  obtain ⟨b', off', e, hc⟩ := h.atC (k := 0) (by omega)
  injection e with e
  injection e with e1 e2
  subst e1; subst e2
  refine .inr ⟨⟨b, off + k * 64, none⟩, vc - k * 64, by rw [hl], by rw [hl]; omega, by omega, fun j hj => ?_⟩
  rw [hl] at hj
  have ad : (⟨b, off + k * 64, none⟩ : Addr).add j = ⟨b, off + (k * 64 + j), none⟩ := by simp [Addr.add_lit, Nat.add_assoc]
  rw [ad, hc (k * 64 + j) (by omega)]
  unfold chunk
  have e : 64 * k + j = k * 64 + j := by omega
  simp [List.getD, hj, e]

set_option maxHeartbeats 3200000 in
set_option maxRecDepth 100000 in
theorem read_any (v : Value) (bs : List Int) (w : World) (hT : Tab w) (hb : Bs w v bs) (hB : IsB bs) (hl : bs.length ≤ 1000000) :
    Calls Tryd.prog 25 #[v] w fun e w' => ∃ u, e = .returned (.tuple #[u, .int .i64 (readE bs)]) ∧ Es w' u (readV bs) ∧ Below w.heap.size w w' := by
  obtain ⟨va, vc, rfl, hvc⟩ := hb.formC
  have hvm : vc ≤ maxLen := by
    rcases hb with ⟨e, _⟩ | ⟨a, c, e, _, h, _⟩
    · injection e with _ _ e; rw [e]; exact Nat.zero_le _
    · injection e with _ _ e; rw [e]; exact h
  go_enter Tryd.func25, Tryd.ntmps25
  by_cases h1 : bs.length % 512 = 0
  · obtain ⟨n, hn⟩ : ∃ n, bs.length = 64 * n := ⟨bs.length / 64, by omega⟩
    have hn64 : bs.length / 64 = n := by omega
    have g1 : (bs.length : Int).tmod 512 = 0 := by rw [Int.tmod_eq_emod_of_nonneg (by omega)]; omega
    have g2 : (bs.length : Int).tdiv 64 = (n : Int) := by rw [Int.tdiv_eq_ediv_of_nonneg (by omega)]; omega
    have g1' : (bs.length : Int) % 512 = 0 := by omega
    have g2' : (bs.length : Int) / 64 = (n : Int) := by omega
    have HE : Hid (readE bs = firstE ((List.range n).map fun i => decE (chunk bs i)) ∧ (readE bs = 0 → readV bs = rowsK bs n) ∧ (readE bs ≠ 0 → readV bs = [])) := by
      refine ⟨by unfold readE; rw [if_neg (by omega), hn64], fun h => by unfold readV; rw [if_pos h, hn64], fun h => by unfold readV; rw [if_neg h]⟩
    obtain ⟨o, hmk, hM⟩ := makeE n (by omega)
    have HN : Hid (bs.length = 64 * n) := hn
    clear hn hn64 g1 g2 h1
    have M1 := hM w
    have B1 : Below w.heap.size w (w.alloc o) := (Below.refl _ _).alloc (Nat.le_refl _) _
    have e0 : fillK bs n 0 = List.replicate n En.fr := by simp [fillK, rowsK]
    rw [← e0] at M1
    go_wp2_with fail
    generalize w.alloc o = w1 at *
    clear hmk hM e0
    go_loopw [18] (fun i wr => ∃ k : Nat, k ≤ n ∧ i = .int .i64 k ∧ Below w.heap.size w wr ∧ wr.ownsRow w.heap.size 57 2 (.slice (some ⟨w.heap.size, 0, none⟩) n n) n (ecells (fillK bs n k)) ∧ Hid (∀ j, j < k → decE (chunk bs j) = 0)) (fun i _ => n - (intOf i).toNat)
    case atStart => exact ⟨0, Nat.zero_le _, rfl, B1, M1, fun j h => by omega⟩
    case round =>
      clear B1 M1 g1' g2'
      obtain ⟨k, hk, rfl, B, M, HA⟩ := hrel
      by_cases hlt : k < n
      · have q1 : (k : Int) < n := by omega
        have hbw := hb.under B
        have hkl : 64 * (k + 1) ≤ bs.length := by have := HN.out; omega
        obtain ⟨b, off, rfl, _⟩ := hbw.atC (k := 0) (by omega)
        have hck := chunk_bs hbw hvc hvm k hkl
        have hTw : Tab wr := fun j hj => (Chg.ofBelowC B).cell (hT j hj) (fun h => h)
        have DC := decode_any _ (chunk bs k) wr hTw hck (chunk_isB hB k) (by rw [chunk_len bs k hkl]; omega)
        have q2 : (k : Int) * 64 ≤ bs.length := by omega
        have q3 : ((k : Int) + 1) * 64 ≤ bs.length := by omega
        have q4 : ¬ ((k : Int) * 64 < 0) := by omega
        have q5 : ((k : Int) * 64).toNat = k * 64 := by omega
        have q6 : (((k : Int) + 1) * 64).toNat = (k + 1) * 64 := by omega
        have q7 : ¬ vc = k * 64 := by omega
        have q8 : (k + 1) * 64 - k * 64 = 64 := by omega
        have q9 : (k : Int) * 64 ≤ ((k : Int) + 1) * 64 := by omega
        have q10 : ((k : Int) + 1) * 64 ≤ vc := by omega
        have q11 : k * 64 ≤ (k + 1) * 64 := by omega
        have hk6 : k ≤ 16000 := by omega
        have HE2 : Hid (decE (chunk bs k) ≠ 0 → readE bs = decE (chunk bs k)) := fun h => by
          rw [HE.out.1]
          exact firstE_at (f := fun i => decE (chunk bs i)) hlt HA.out h
        have HA2 : Hid (decE (chunk bs k) = 0 → ∀ j, j < k + 1 → decE (chunk bs j) = 0) := fun h j hj => by
          rcases (by omega : j < k ∨ j = k) with h1 | rfl
          · exact HA.out j h1
          · exact h
        have HS := fillK_set bs n k hlt
        have hfl := fillK_len bs n k hk
        generalize decV (chunk bs k) = x at *
        generalize decE (chunk bs k) = de at *
        clear hck hTw hbw
        go_wp2_with fail
        refine DC.mono ?_
        rintro e w3 ⟨rfl, B3⟩
        have Bn3 := B.trans (B3.mono B.size)
        have M3 := own_kept M B3 (Nat.le_refl _)
        have Bn4 := Bn3.alloc Bn3.size (.cells #[.string x.nm, .int .i64 x.ino] 57)
        have M4 := own_kept M3 ((Below.refl _ _).alloc (Nat.le_refl _) (.cells #[.string x.nm, .int .i64 x.ino] 57)) (Nat.le_refl _)
        have S4 : EnB (w3.alloc (.cells #[.string x.nm, .int .i64 x.ino] 57)) w3.heap.size x := heap_alloc_new w3 _
        clear DC M M3 B3 B q2 q3 q4 q5 q6 q7 q8 q9 q10 q11
        by_cases hde : de = 0
        · subst hde
          have HA3 : Hid (∀ j, j < k + 1 → decE (chunk bs j) = 0) := HA2.out rfl
          obtain ⟨g, cap, eg, hg, hg2, c1, c2, f1, f2⟩ := own_place (f := k) M4 (by omega)
          have hs := (own_set2 M4 (k := k) (by omega) x).1
          rw [HS] at hs
          rw [hfl] at eg
          injection eg with eg1 eg2 eg3
          injection eg1 with eg1
          injection eg1 with eg1
          subst eg1
          obtain ⟨y, hy⟩ : ∃ y, Hid ((fillK bs n k).getD k En.fr = y) := ⟨_, rfl⟩
          rw [hy.out] at c1 c2
          have s0 := S4.c0
          have s1 := S4.c1
          have Bn5 := below_two (i := k * 2) (j := k * 2 + 1) (a := .string x.nm) (b := .int .i64 x.ino) Bn4 Bn4.size hg
          clear HE2 HA2 HA M4 S4 HS hfl hy Bn3 eg2 eg3 hg hg2 Bn4
          have G5 : Hid _ := hs
          have G6 : Hid _ := Bn5
          clear hs Bn5
          go_upto_region 8 with fail
          generalize w3.alloc (.cells #[.string x.nm, .int .i64 x.ino] 57) = w4 at *
          go_wp2_with fail
          go_roundw
          case rel => exact ⟨k + 1, by omega, by go_num, G6.out, G5.out, HA3⟩
          case measure => simp [intOf]; omega
        · have HR : Hid (readE bs = de ∧ readV bs = []) := by
            have h1 := HE2.out hde
            exact ⟨h1, HE.out.2.2 (by rw [h1]; exact hde)⟩
          clear HE2 HA2 HA M4 S4 HS hfl Bn3
          go_wp2_with fail
          go_ret2
          refine ⟨.slice none 0 0, ?_, ?_, Bn4⟩
          · rw [HR.out.1]; rfl
          · rw [HR.out.2]; exact Es.nil _
      · have q1 : ¬ (k : Int) < n := by omega
        obtain rfl : k = n := by omega
        have HR : Hid (readE bs = 0 ∧ readV bs = rowsK bs k) := by
          have h1 : readE bs = 0 := by
            rw [HE.out.1]
            refine firstE_no fun x hx => ?_
            obtain ⟨j, hj, rfl⟩ := List.mem_map.1 hx
            exact HA.out j (List.mem_range.1 hj)
          exact ⟨h1, HE.out.2.1 h1⟩
        have e1 : fillK bs k k = rowsK bs k := by simp [fillK]
        rw [e1] at M
        have E := Es.ofOwns M
        clear M e1 HA HE
        go_wp2_with fail
        go_ret2
        refine ⟨.slice (some ⟨w.heap.size, 0, none⟩) k k, ?_, ?_, B⟩
        · rw [HR.out.1]; rfl
        · rw [HR.out.2]; exact E
  · have HR : Hid (readE bs = 3 ∧ readV bs = []) := by
      have h2 : readE bs = 3 := by unfold readE; rw [if_pos h1]
      exact ⟨h2, by unfold readV; rw [if_neg (by rw [h2]; omega)]⟩
    have g1 : ((bs.length : Int) % 512 != 0) = true := by
      rw [bne_iff_ne]; omega
    clear h1
    go_wp2_with fail
    go_ret2
    refine ⟨.slice none 0 0, ?_, ?_, Below.refl _ _⟩
    · rw [HR.out.1]; rfl
    · rw [HR.out.2]; exact Es.nil _
end Go.Proofs.YtbhfmceapffhnaaDoor
