/-
  CodecFaults answers true for every argument, in every world that holds codec's table; nothing that was there has changed.
-/
import Derived.Test.YtdninfmmikaimaaDoorKnown
import Derived.BigQuiet
import Derived.Deep.QuietTactic
namespace Go.Proofs.YtdninfmmikaimaaDoor
open Go.RowKit

/-- v is a slice of structs of two numbers that reads l. -/
def Asks (w : World) (v : Value) (l : List (Int × Int)) : Prop :=
  ((∃ a c, v = .slice a 0 c) ∧ l = []) ∨
  ∃ b off c, v = .slice (some ⟨b, off, none⟩) l.length c ∧ ∀ j, j < l.length → w.cell? ⟨b, off + j * 2, none⟩ = some (.int .i64 (l.getD j (0, 0)).1) ∧ w.cell? ⟨b, off + j * 2 + 1, none⟩ = some (.int .i64 (l.getD j (0, 0)).2)

theorem Asks.form {w : World} {v : Value} {l : List (Int × Int)} (h : Asks w v l) : ∃ a c, v = .slice a l.length c := by
  rcases h with ⟨⟨a, c, rfl⟩, rfl⟩ | ⟨b, off, c, rfl, _⟩
  · exact ⟨a, c, rfl⟩
  · exact ⟨_, _, rfl⟩
theorem Asks.at {w : World} {a : Option Addr} {n c k : Nat} {l : List (Int × Int)} (h : Asks w (.slice a n c) l) (hk : k < l.length) : ∃ b off, a = some ⟨b, off, none⟩ ∧ b < w.heap.size ∧ w.cell? ⟨b, off + k * 2, none⟩ = some (.int .i64 (l.getD k (0, 0)).1) ∧ w.cell? ⟨b, off + k * 2 + 1, none⟩ = some (.int .i64 (l.getD k (0, 0)).2) := by
  rcases h with ⟨e, rfl⟩ | ⟨b, off, c', e, h⟩
  · simp at hk
  · cases e
    exact ⟨b, off, rfl, World.block_lt_of_cell? w _ (h k hk).1, h k hk⟩

set_option maxHeartbeats 800000 in
set_option maxRecDepth 100000 in
theorem law_faults_out (b v : Value) (bs : List Int) (n : Int) (l : List (Int × Int)) (w : World) (hT : Tab w) (hb : Bs w b bs) (hl : Asks w v l) (h : 4096 < bs.length ∨ 300 < l.length ∨ n < 0 ∨ 8192 < n) :
    Calls Tryd.prog 7 #[b, .int .i64 n, v] w fun e w' => e = .returned (.bool true) ∧ Below w.heap.size w w' := by
  obtain ⟨ab, cb, rfl, hcb⟩ : ∃ a c, b = .slice a bs.length c ∧ bs.length ≤ c := by
    rcases hb with ⟨rfl, rfl⟩ | ⟨a, c, rfl, h, _⟩
    · exact ⟨none, 0, rfl, Nat.le_refl _⟩
    · exact ⟨_, _, rfl, h⟩
  obtain ⟨al, cl, rfl⟩ := hl.form
  by_cases h1 : 4096 < bs.length
  · have k1 : decide ((4096 : Int) < (bs.length : Int)) = true := by simp; omega
    go_enter Tryd.func7, Tryd.ntmps7
    go_wp2_with fail
    refine (known_any w hT).mono ?_
    rintro e w1 ⟨rfl, B1⟩
    go_wp2
    go_ret
    exact ⟨rfl, B1⟩
  have k1 : decide ((4096 : Int) < (bs.length : Int)) = false := by simp; omega
  by_cases h2 : 300 < l.length
  · have k2 : decide ((300 : Int) < (l.length : Int)) = true := by simp; omega
    go_enter Tryd.func7, Tryd.ntmps7
    go_wp2_with fail
    refine (known_any w hT).mono ?_
    rintro e w1 ⟨rfl, B1⟩
    go_wp2
    go_ret
    exact ⟨rfl, B1⟩
  have k2 : decide ((300 : Int) < (l.length : Int)) = false := by simp; omega
  by_cases h3 : n < 0
  · have k3 : decide (n < 0) = true := by simp; omega
    go_enter Tryd.func7, Tryd.ntmps7
    go_wp2_with fail
    refine (known_any w hT).mono ?_
    rintro e w1 ⟨rfl, B1⟩
    go_wp2
    go_ret
    exact ⟨rfl, B1⟩
  have k3 : decide (n < 0) = false := by simp; omega
  have k4 : decide ((8192 : Int) < n) = true := by simp; omega
  go_enter Tryd.func7, Tryd.ntmps7
  go_wp2_with fail
  refine (known_any w hT).mono ?_
  rintro e w1 ⟨rfl, B1⟩
  go_wp2
  go_ret
  exact ⟨rfl, B1⟩

theorem Rd.drewN {N p : Nat} {w : World} {v : Value} {xs : List Int} {f : Int} (h : Rd N w p v xs f) (n : Nat) : Rd N (w.drewN n) p v xs f := ⟨h.le, h.blk, h.bs, h.ne, h.nil⟩
theorem below_drews {B : Nat} {a w : World} (h : Below B a w) (n : Nat) : Below B a (w.drewN n) := ⟨h.os, h.tape, h.output, h.size, h.block⟩
theorem fx_in (bs : List Int) (n : Nat) (h : n ≤ bs.length) : tkS (fxI ⟨bs, 0⟩ n) n = ⟨bs.drop n, 0⟩ ∧ tkV (fxI ⟨bs, 0⟩ n) n = bs.take n := by
  have h1 : ¬ ((n : Int) < 0) := by omega
  have h2 : ¬ ((bs.length : Int) < (n : Int)) := by omega
  simp [tkS, tkV, fxI, h1, h2]
theorem fx_out (bs : List Int) (n : Nat) (h : bs.length < n) : tkS (fxI ⟨bs, 0⟩ n) n = ⟨[], 2⟩ ∧ tkV (fxI ⟨bs, 0⟩ n) n = [] := by
  have h1 : ¬ ((n : Int) < 0) := by omega
  have h2 : (bs.length : Int) < (n : Int) := by omega
  simp [tkS, tkV, fxI, h1, h2]

set_option maxHeartbeats 2000000 in
set_option maxRecDepth 100000 in
theorem law_faults_in (b v : Value) (bs : List Int) (n : Nat) (l : List (Int × Int)) (w : World) (hT : Tab w) (hb : Bs w b bs) (hl : Asks w v l) (h1 : bs.length ≤ 4096) (h2 : l.length ≤ 300) (h3 : n ≤ 8192) (h4 : n ≤ bs.length) :
    Calls Tryd.prog 7 #[b, .int .i64 n, v] w fun e w' => e = .returned (.bool true) ∧ Below w.heap.size w w' := by
  obtain ⟨ab, cb, rfl, hcb⟩ : ∃ a c, b = .slice a bs.length c ∧ bs.length ≤ c := by
    rcases hb with ⟨rfl, rfl⟩ | ⟨a, c, rfl, h, _⟩
    · exact ⟨none, 0, rfl, Nat.le_refl _⟩
    · exact ⟨_, _, rfl, h⟩
  obtain ⟨al, cl, rfl⟩ := hl.form
  have k1 : decide ((4096 : Int) < (bs.length : Int)) = false := by simp; omega
  have k2 : decide ((300 : Int) < (l.length : Int)) = false := by simp; omega
  have k3 : decide ((n : Int) < 0) = false := by simp
  have k4 : decide ((8192 : Int) < (n : Int)) = false := by simp; omega
  have k5 : decide ((n : Int) ≤ (bs.length : Int)) = true := by simp; omega
  have k6 : (n : Int) ≤ (cb : Int) := by omega
  go_enter Tryd.func7, Tryd.ntmps7
  go_wp2_with fail
  refine (known_any w hT).mono ?_
  rintro e w1 ⟨rfl, B1⟩
  go_wp2_with fail
  refine (newReader_any w.heap.size _ bs _ (hb.under B1) (by omega) B1.size).mono ?_
  rintro e w2 ⟨p, v2, rfl, a2, c2, hp⟩
  have B2 := B1.trans (c2.below B1.size (fun _ h => h.elim))
  clear c2
  go_wp2_with fail
  refine (rfixed_any w.heap.size p v2 ⟨bs, 0⟩ n _ a2 (by simp; omega)).mono ?_
  rintro e w3 ⟨u3, rfl, ⟨v3, h3⟩, o3, _⟩
  have B3 := B2.trans (h3.belowR a2)
  obtain ⟨eS, eV⟩ := fx_in bs n h4
  rw [eV] at o3
  have a3 : RdS w.heap.size w3 p v3 ⟨bs.drop n, 0⟩ := by have := h3.rd; rw [eS] at this; exact this
  have s1 : ∀ nq, (convert 28 9 u3).run Tryd.prog (w3.drewN nq) = .ok (.string (strOf (bs.take n))) (w3.drewN nq) := fun nq => run_str (Bs.drewN (Bs.ofOwns o3) nq)
  have s2 : ∀ nq, (convert 28 9 (.slice ab n cb)).run Tryd.prog (w3.drewN nq) = .ok (.string (strOf (bs.take n))) (w3.drewN nq) := fun nq => run_str (Bs.drewN (Bs.low (hb.under B3) h4) nq)
  clear eS eV o3 h3 a2 B2 hl hb
  generalize strOf (bs.take n) = S at *
  by_cases hn : n = bs.length
  · have k7 : ((n : Int) == (bs.length : Int)) = true := by simp [hn]
    have eE : endV ⟨bs.drop n, 0⟩ = 0 := by simp [endV, hn]
    have hE : Hid (∀ nq, Calls Tryd.prog 30 #[.pointer (some ⟨p, 0, none⟩)] (w3.drewN nq) fun r w' => r = .returned (.int .i64 0) ∧ w' = w3.drewN nq) := fun nq => by
      have E := end_any w.heap.size p v3 ⟨bs.drop n, 0⟩ (w3.drewN nq) (Rd.drewN a3 nq)
      rw [eE] at E
      exact E
    clear hn eE
    go_wp2_with fail
    go_quiet ((go_at_call 30; go_must (exact Calls.quiet_of_same (hE.out _))))
    go_wp2
    go_ret
    exact ⟨rfl, below_drews B3 _⟩
  · have k7 : ((n : Int) == (bs.length : Int)) = false := by simp; omega
    have eE : endV ⟨bs.drop n, 0⟩ = 3 := by simp [endV]; omega
    have hE : Hid (∀ nq, Calls Tryd.prog 30 #[.pointer (some ⟨p, 0, none⟩)] (w3.drewN nq) fun r w' => r = .returned (.int .i64 3) ∧ w' = w3.drewN nq) := fun nq => by
      have E := end_any w.heap.size p v3 ⟨bs.drop n, 0⟩ (w3.drewN nq) (Rd.drewN a3 nq)
      rw [eE] at E
      exact E
    clear hn eE
    go_wp2_with fail
    go_quiet ((go_at_call 30; go_must (exact Calls.quiet_of_same (hE.out _))))
    go_wp2
    go_ret
    exact ⟨rfl, below_drews B3 _⟩

theorem st_fault : ∀ n : Int, tkS ⟨[], 2⟩ n = ⟨[], 2⟩ ∧ tkV ⟨[], 2⟩ n = [] ∧ fxI ⟨[], 2⟩ n = ⟨[], 2⟩ ∧ bsI ⟨[], 2⟩ n = ⟨[], 2⟩ := by
  intro n
  refine ⟨by simp [tkS], by simp [tkV], ?_, ?_⟩
  · unfold fxI; split <;> simp [failS]
  · unfold bsI; split <;> simp [failS, tkS]

/-- Behind the fault: each answer is zero, and the reader stays as it is. -/
theorem behind {N p : Nat} {w : World} {v : Value} (h : RdS N w p v ⟨[], 2⟩) :
    (Calls Tryd.prog 22 #[.pointer (some ⟨p, 0, none⟩)] w fun r w' => r = .returned (.int .i64 0) ∧ ∃ v', RdS N w' p v' ⟨[], 2⟩ ∧ Below N w w') ∧
    (Calls Tryd.prog 24 #[.pointer (some ⟨p, 0, none⟩)] w fun r w' => r = .returned (.int .i64 0) ∧ ∃ v', RdS N w' p v' ⟨[], 2⟩ ∧ Below N w w') ∧
    (Calls Tryd.prog 25 #[.pointer (some ⟨p, 0, none⟩)] w fun r w' => r = .returned (.int .i64 0) ∧ ∃ v', RdS N w' p v' ⟨[], 2⟩ ∧ Below N w w') ∧
    (∀ n : Int, Calls Tryd.prog 26 #[.pointer (some ⟨p, 0, none⟩), .int .i64 n] w fun r w' => ∃ a c, r = .returned (.slice a 0 c) ∧ ∃ v', RdS N w' p v' ⟨[], 2⟩ ∧ Below N w w') ∧
    (∀ n : Int, Calls Tryd.prog 28 #[.pointer (some ⟨p, 0, none⟩), .int .i64 n] w fun r w' => ∃ a c, r = .returned (.slice a 0 c) ∧ ∃ v', RdS N w' p v' ⟨[], 2⟩ ∧ Below N w w') := by
  have hB : IsB (⟨[], 2⟩ : RS).xs := fun x hx => by cases hx
  refine ⟨?_, ?_, ?_, fun n => ?_, fun n => ?_⟩
  · refine (ru8_any N p v ⟨[], 2⟩ w h hB).mono ?_
    rintro r w' ⟨rfl, v', h'⟩
    rw [(st_fault 1).1] at h'
    exact ⟨by rw [(st_fault 1).2.1]; rfl, v', h'.rd, h'.belowR h⟩
  · refine (ru16_any N p v ⟨[], 2⟩ w h hB).mono ?_
    rintro r w' ⟨rfl, v', h'⟩
    rw [(st_fault 2).1] at h'
    exact ⟨by rw [(st_fault 2).2.1]; rfl, v', h'.rd, h'.belowR h⟩
  · refine (ru32_any N p v ⟨[], 2⟩ w h hB).mono ?_
    rintro r w' ⟨rfl, v', h'⟩
    rw [(st_fault 4).1] at h'
    exact ⟨by rw [(st_fault 4).2.1]; rfl, v', h'.rd, h'.belowR h⟩
  · refine (rfixed_any N p v ⟨[], 2⟩ n w h (by simp)).mono ?_
    rintro r w' ⟨u, rfl, ⟨v', h'⟩, ho, _⟩
    rw [(st_fault n).2.2.1, (st_fault n).1] at h'
    rw [(st_fault n).2.2.1, (st_fault n).2.1] at ho
    obtain ⟨a, c, rfl⟩ := own_slice ho
    exact ⟨a, c, rfl, v', h'.rd, h'.belowR h⟩
  · refine (rbytes_any N p v ⟨[], 2⟩ n w h hB (by simp)).mono ?_
    rintro r w' ⟨u, rfl, ⟨v', h'⟩, ho, _⟩
    rw [(st_fault n).2.2.2, (st_fault _).1] at h'
    rw [(st_fault n).2.2.2, (st_fault _).2.1] at ho
    obtain ⟨a, c, rfl⟩ := own_slice ho
    exact ⟨a, c, rfl, v', h'.rd, h'.belowR h⟩

set_option maxHeartbeats 2000000 in
set_option maxRecDepth 100000 in
theorem law_faults_behind (b v : Value) (bs : List Int) (n : Nat) (l : List (Int × Int)) (w : World) (hT : Tab w) (hb : Bs w b bs) (hl : Asks w v l) (h1 : bs.length ≤ 4096) (h2 : l.length ≤ 300) (h3 : n ≤ 8192) (h4 : bs.length < n) :
    Calls Tryd.prog 7 #[b, .int .i64 n, v] w fun e w' => e = .returned (.bool true) ∧ Below w.heap.size w w' := by
  obtain ⟨ab, cb, rfl, hcb⟩ : ∃ a c, b = .slice a bs.length c ∧ bs.length ≤ c := by
    rcases hb with ⟨rfl, rfl⟩ | ⟨a, c, rfl, h, _⟩
    · exact ⟨none, 0, rfl, Nat.le_refl _⟩
    · exact ⟨_, _, rfl, h⟩
  obtain ⟨al, cl, rfl⟩ := hl.form
  have k1 : decide ((4096 : Int) < (bs.length : Int)) = false := by simp; omega
  have k2 : decide ((300 : Int) < (l.length : Int)) = false := by simp; omega
  have k3 : decide ((n : Int) < 0) = false := by simp
  have k4 : decide ((8192 : Int) < (n : Int)) = false := by simp; omega
  have k5 : decide ((n : Int) ≤ (bs.length : Int)) = false := by simp; omega
  have k5' : decide (n ≤ bs.length) = false := by simp; omega
  go_enter Tryd.func7, Tryd.ntmps7
  go_wp2_with fail
  refine (known_any w hT).mono ?_
  rintro e w1 ⟨rfl, B1⟩
  go_wp2_with fail
  refine (newReader_any w.heap.size _ bs _ (hb.under B1) (by omega) B1.size).mono ?_
  rintro e w2 ⟨p, v2, rfl, a2, c2, hp⟩
  have B2 := B1.trans (c2.below B1.size (fun _ h => h.elim))
  clear c2
  go_wp2_with fail
  refine (rfixed_any w.heap.size p v2 ⟨bs, 0⟩ n _ a2 (by simp; omega)).mono ?_
  rintro e w3 ⟨u3, rfl, ⟨v3, h3⟩, o3, _⟩
  have B3 := B2.trans (h3.belowR a2)
  obtain ⟨eS, eV⟩ := fx_out bs n h4
  rw [eV] at o3
  obtain ⟨a3', c3', rfl⟩ := own_slice o3
  have a3 : RdS w.heap.size w3 p v3 ⟨[], 2⟩ := by have := h3.rd; rw [eS] at this; exact this
  clear eS eV o3 h3 a2 B2 hb
  go_wp2_with fail
  go_loopw [9] (fun i wr => ∃ (k : Nat) (vr : Value), k ≤ l.length ∧ i = .int .i64 k ∧ RdS w.heap.size wr p vr ⟨[], 2⟩ ∧ Below w.heap.size w wr) (fun i _ => l.length - (intOf i).toNat)
  case atStart => exact ⟨0, v3, Nat.zero_le _, rfl, a3, B3⟩
  case round =>
    obtain ⟨k, vr, hk, rfl, ar, Br⟩ := hrel
    by_cases hlt : k < l.length
    · obtain ⟨bb, off, rfl, hbb, _, hc⟩ := hl.at hlt
      generalize (l.getD k (0, 0)).2 = z at *
      have g1 : (k : Int) < (l.length : Int) := by omega
      clear hl
      go_wp2_with fail
      refine (behind ar).1.mono ?_
      rintro e w4 ⟨rfl, v4, a4, B4'⟩
      have B4 := Br.trans B4'
      clear ar Br B4'
      go_wp2_with fail
      refine (behind a4).2.1.mono ?_
      rintro e w5 ⟨rfl, v5, a5, B5'⟩
      have B5 := B4.trans B5'
      clear a4 B4 B5'
      go_wp2_with fail
      refine (behind a5).2.2.1.mono ?_
      rintro e w6 ⟨rfl, v6, a6, B6'⟩
      have B6 := B5.trans B6'
      have c6 := (B6.cell (p := ⟨bb, off + k * 2 + 1, none⟩) hbb).trans hc
      clear a5 B5 B6'
      go_wp2_with fail
      refine ((behind a6).2.2.2.1 z).mono ?_
      rintro e w7 ⟨x7, y7, rfl, v7, a7, B7'⟩
      have B7 := B6.trans B7'
      have c7 := (B7.cell (p := ⟨bb, off + k * 2 + 1, none⟩) hbb).trans hc
      clear a6 B6 B7' c6
      go_wp2_with fail
      refine ((behind a7).2.2.2.2 z).mono ?_
      rintro e w8 ⟨x8, y8, rfl, v8, a8, B8'⟩
      have B8 := B7.trans B8'
      clear a7 B7 B8' c7
      go_wp2
      go_roundw
      case rel => exact ⟨k + 1, v8, by omega, by go_num, a8, B8⟩
      case measure => simp [intOf]; omega
    · have g1 : ¬ ((k : Int) < (l.length : Int)) := by omega
      clear hl
      go_wp2_with fail
      have E := end_any w.heap.size p vr ⟨[], 2⟩ wr ar
      refine E.mono ?_
      rintro e w4 ⟨he, rfl⟩
      obtain rfl : e = .returned (.int .i64 2) := he
      go_wp2
      go_ret
      exact ⟨rfl, Br⟩

theorem law_faults (b v : Value) (bs : List Int) (n : Int) (l : List (Int × Int)) (w : World) (hT : Tab w) (hb : Bs w b bs) (hl : Asks w v l) :
    Calls Tryd.prog 7 #[b, .int .i64 n, v] w fun e w' => e = .returned (.bool true) ∧ Below w.heap.size w w' := by
  by_cases h : 4096 < bs.length ∨ 300 < l.length ∨ n < 0 ∨ 8192 < n
  · exact law_faults_out b v bs n l w hT hb hl h
  · obtain ⟨m, rfl⟩ := Int.eq_ofNat_of_zero_le (show 0 ≤ n by omega)
    by_cases h4 : m ≤ bs.length
    · exact law_faults_in b v bs m l w hT hb hl (by omega) (by omega) (by omega) h4
    · exact law_faults_behind b v bs m l w hT hb hl (by omega) (by omega) (by omega) (by omega)
end Go.Proofs.YtdninfmmikaimaaDoor
