/-
  Read of the document's slots.
-/
import Derived.Test.YtbhfmceapffhnaaDoorDRefDec
import Derived.Test.YtbhfmceapffhnaaDoorDRead
namespace Go.Proofs.YtbhfmceapffhnaaDoor
open Go.RowKit

theorem infoR : (Tryd.prog.info? 47).map (fun i => (i.zero, i.size, i.bytes)) = some (some (.agg #[.string ⟨#[]⟩, .int .i64 0]), 2, 24) := by kernel_rfl

set_option maxHeartbeats 3200000 in
set_option maxRecDepth 100000 in
theorem rread_any (v : Value) (bs : List Int) (w : World) (hb : Bs w v bs) (hB : IsB bs) (hl : bs.length ≤ 1000000) :
    Calls Tryd.prog 26 #[v] w fun e w' => ∃ u, e = .returned (.tuple #[u, .int .i64 (readE bs)]) ∧ Es w' u (readV bs) ∧ Below w.heap.size w w' := by
  obtain ⟨va, vc, rfl, hvc⟩ := hb.formC
  obtain ⟨i0, hi0, hz0, hz1, hz2⟩ := info_parts infoR
  have hvm : vc ≤ maxLen := by
    rcases hb with ⟨e, _⟩ | ⟨a, c, e, _, h, _⟩
    · injection e with _ _ e; rw [e]; exact Nat.zero_le _
    · injection e with _ _ e; rw [e]; exact h
  go_enter Tryd.func26, Tryd.ntmps26
  by_cases h1 : bs.length % 512 = 0
  · obtain ⟨n, hn⟩ : ∃ n, bs.length = 64 * n := ⟨bs.length / 64, by omega⟩
    have hn64 : bs.length / 64 = n := by omega
    have g1' : (bs.length : Int) % 512 = 0 := by omega
    have HE : Hid (readE bs = firstE ((List.range n).map fun i => decE (chunk bs i)) ∧ (readE bs = 0 → readV bs = rowsK bs n) ∧ (readE bs ≠ 0 → readV bs = [])) := by
      refine ⟨by unfold readE; rw [if_neg (by omega), hn64], fun h => by unfold readV; rw [if_pos h, hn64], fun h => by unfold readV; rw [if_neg h]⟩
    have HN : Hid (bs.length = 64 * n) := hn
    clear hn hn64 h1
    go_wp2_with fail
    go_loopw [4, 5] (fun u i wr => ∃ k : Nat, k ≤ n ∧ i = .int .i64 ((64 * k : Nat) : Int) ∧ Below w.heap.size w wr ∧ wr.ownsRow w.heap.size 47 2 u k (ecells (rowsK bs k)) ∧ Hid (∀ j, j < k → decE (chunk bs j) = 0)) (fun _ i _ => 64 * n - (intOf i).toNat)
    case atStart => exact ⟨0, Nat.zero_le _, rfl, Below.refl _ _, World.ownsRow_nil _ _ _ _, fun j h => by omega⟩
    case round =>
      clear g1'
      obtain ⟨k, hk, rfl, B, M, HA⟩ := hrel
      by_cases hlt : k < n
      · have hkl : 64 * (k + 1) ≤ bs.length := by have := HN.out; omega
        have q1 : ((64 * k : Nat) : Int) < bs.length := by omega
        have hbw := hb.under B
        obtain ⟨b, off, rfl, _⟩ := hbw.atC (k := 0) (by omega)
        have hck := chunk_bs hbw hvc hvm k hkl
        have DC := rdecode_any _ (chunk bs k) wr hck (chunk_isB hB k) (by rw [chunk_len bs k hkl]; omega)
        have HE2 : Hid (decE (chunk bs k) ≠ 0 → readE bs = decE (chunk bs k)) := fun h => by
          rw [HE.out.1]
          exact firstE_at (f := fun i => decE (chunk bs i)) hlt HA.out h
        have HA2 : Hid (decE (chunk bs k) = 0 → ∀ j, j < k + 1 → decE (chunk bs j) = 0) := fun h j hj => by
          rcases (by omega : j < k ∨ j = k) with h1 | rfl
          · exact HA.out j h1
          · exact h
        have HS : Hid (rowsK bs (k + 1) = rowsK bs k ++ [decV (chunk bs k)]) := rowsK_succ bs k
        have hrl := rowsK_len bs k
        generalize decV (chunk bs k) = x at *
        generalize decE (chunk bs k) = de at *
        obtain ⟨m, hm⟩ : ∃ m, 64 * k = m := ⟨_, rfl⟩
        have hm2 : k * 64 = m := by omega
        have HM : Hid (64 * k = m) := hm
        rw [hm] at q1 ⊢
        rw [hm2] at DC
        have hml : m + 64 ≤ bs.length := by omega
        have hmb : m ≤ 1000000 := by omega
        clear hck hbw hm hm2 hkl
        have q2 : (m : Int) + 64 ≤ bs.length := by omega
        have q3 : (m : Int) ≤ (m : Int) + 64 := by omega
        have q4 : ((m : Int) + 64).toNat = m + 64 := by omega
        have q5 : m + 64 - m = 64 := by omega
        have q7 : ¬ vc = m := by omega
        have q10 : (m : Int) + 64 ≤ vc := by omega
        go_wp2_with fail
        refine DC.mono ?_
        rintro e w3 ⟨rfl, B3⟩
        have Bn3 := B.trans (B3.mono B.size)
        have M3 := own_kept M B3 (Nat.le_refl _)
        have Bn4 := Bn3.alloc Bn3.size (.cells #[.string x.nm, .int .i64 x.ino] 47)
        have M4 := own_kept M3 ((Below.refl _ _).alloc (Nat.le_refl _) (.cells #[.string x.nm, .int .i64 x.ino] 47)) (Nat.le_refl _)
        have S4 : EnR (w3.alloc (.cells #[.string x.nm, .int .i64 x.ino] 47)) w3.heap.size x := heap_alloc_new w3 _
        clear DC M M3 B3 B q2 q3 q4 q5 q7 q10
        by_cases hde : de = 0
        · subst hde
          have HA3 : Hid (∀ j, j < k + 1 → decE (chunk bs j) = 0) := HA2.out rfl
          have s0 := S4.c0
          have s1 := S4.c1
          clear HE2 HA2 HA S4 Bn3
          go_upto_region 8 with fail
          generalize w3.alloc (.cells #[.string x.nm, .int .i64 x.ino] 47) = w4 at *
          have Bn5 := Bn4.alloc Bn4.size (.cells #[.string x.nm, .int .i64 x.ino] 47)
          have M5 := own_kept M4 ((Below.refl _ _).alloc (Nat.le_refl _) (.cells #[.string x.nm, .int .i64 x.ino] 47)) (Nat.le_refl _)
          have x5 := Es.one w4 x 47 (0, 0)
          have hN5 := Bn5.size
          go_wp2_with (at_builtin; go_must (refine wpList_app2 rfl _ (.tmp 32) 27 rfl w.heap.size 47 i0 Tryd.underlying27 hi0 hz0 hz1 hz2 _ _ k (rowsK bs k) [x] rfl M5 rfl x5 ?c1 ?c2 ?next))
          case c1 => rw [hrl]; have := HN.out; simp; omega
          case c2 => exact hN5
          case next =>
            intro u w6 ho6 hB6
            have Bn6 := Bn5.trans hB6
            rw [← HS.out] at ho6
            clear M5 M4 x5 Bn5 Bn4 hN5 hB6 s0 s1
            go_wp2_with fail
            go_roundw
            case rel =>
              refine ⟨k + 1, by omega, ?_, Bn6, by simpa using ho6, HA3⟩
              have := HM.out
              go_num
            case measure => have := HM.out; simp [intOf]; omega
        · have HR : Hid (readE bs = de ∧ readV bs = []) := by
            have h1 := HE2.out hde
            exact ⟨h1, HE.out.2.2 (by rw [h1]; exact hde)⟩
          clear HE2 HA2 HA M4 S4 HS Bn3
          go_wp2_with fail
          go_ret2
          refine ⟨.slice none 0 0, ?_, ?_, Bn4⟩
          · rw [HR.out.1]; rfl
          · rw [HR.out.2]; exact Es.nil _
      · have q1 : ¬ ((64 * k : Nat) : Int) < bs.length := by have := HN.out; omega
        obtain rfl : k = n := by omega
        have HR : Hid (readE bs = 0 ∧ readV bs = rowsK bs k) := by
          have h1 : readE bs = 0 := by
            rw [HE.out.1]
            refine firstE_no fun x hx => ?_
            obtain ⟨j, hj, rfl⟩ := List.mem_map.1 hx
            exact HA.out j (List.mem_range.1 hj)
          exact ⟨h1, HE.out.2.1 h1⟩
        have E := Es.ofOwns M
        clear M HA HE
        go_wp2_with fail
        go_ret2
        refine ⟨u4, ?_, ?_, B⟩
        · rw [HR.out.1]; rfl
        · rw [HR.out.2]; exact E
  · have HR : Hid (readE bs = 3 ∧ readV bs = []) := by
      have h2 : readE bs = 3 := by unfold readE; rw [if_pos h1]
      exact ⟨h2, by unfold readV; rw [if_neg (by rw [h2]; omega)]⟩
    have g1 : ((bs.length : Int) % 512 != 0) = true := by
      rw [bne_iff_ne]; omega
    clear h1
    go_wp2_with fail
    go_ret2
    refine ⟨.slice none 0 0, ?_, ?_, Below.refl _ _⟩
    · rw [HR.out.1]; rfl
    · rw [HR.out.2]; exact Es.nil _
end Go.Proofs.YtbhfmceapffhnaaDoor
