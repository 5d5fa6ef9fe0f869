/-
  Lines compared; known and same of the laws on line.
-/
import Derived.Test.YtfbildadidfolaaLRFeed
import Derived.Laws.StructEq
import Derived.Lib.SlBytesConst
namespace Go.Proofs.Ytfbildadidfolaa
open Go.RowKit

theorem stoodL : Try.prog.stoodInHeld 47 = false := by kernel_rfl
theorem fieldsL : Try.prog.underlying 47 = some (.struct (Try.prog.fieldsOf 47)) := by kernel_rfl
theorem stoodM : Try.prog.stoodInHeld 56 = false := by kernel_rfl
theorem fieldsM : Try.prog.underlying 56 = some (.struct (Try.prog.fieldsOf 56)) := by kernel_rfl
theorem partL0 (x : Ln) (w : World) : (part 9 #[.string x.t, .bool x.long] 0).run Try.prog w = .ok (.string x.t) w := by kernel_rfl
theorem partL1 (x : Ln) (w : World) : (part 4 #[.string x.t, .bool x.long] 1).run Try.prog w = .ok (.bool x.long) w := by kernel_rfl
theorem eqInB (n : Nat) (a : Bool) (w : World) : (Op.equalIn (n + 1) 4 (.bool a) (.bool a)).run Try.prog w = .ok true w := by
  simp [Op.equalIn, run_underlying Try.underlying4]
theorem eqInL (x : Ln) (w : World) : (Op.equalIn 10000 47 x.v x.v).run Try.prog w = .ok true w := by
  rw [run_equalIn_struct w 9999 47 _ _ fieldsL stoodL]
  have e : ∀ (a : Bool) (w : World), (Op.equalIn 9999 4 (.bool a) (.bool a)).run Try.prog w = .ok true w := fun a w => eqInB 9998 a w
  have e2 : ∀ (a : ByteArray) (w : World), (Op.equalIn 9999 9 (.string a) (.string a)).run Try.prog w = .ok true w := fun a w => by rw [run_equalIn_string w 9998 9 a a Try.underlying9]; simp
  simp [Program.fieldsOf, Try.underlying47, Op.eqFields, partL0, partL1, e, e2]
theorem eqInM (x : Ln) (w : World) : (Op.equalIn 10000 56 x.v x.v).run Try.prog w = .ok true w := by
  rw [run_equalIn_struct w 9999 56 _ _ fieldsM stoodM]
  have e : ∀ (a : Bool) (w : World), (Op.equalIn 9999 4 (.bool a) (.bool a)).run Try.prog w = .ok true w := fun a w => eqInB 9998 a w
  have e2 : ∀ (a : ByteArray) (w : World), (Op.equalIn 9999 9 (.string a) (.string a)).run Try.prog w = .ok true w := fun a w => by rw [run_equalIn_string w 9998 9 a a Try.underlying9]; simp
  simp [Program.fieldsOf, Try.underlying56, Op.eqFields, partL0, partL1, e, e2]
theorem eqlL (x : Ln) (w : World) : (binOp .eql 47 x.v x.v).run Try.prog w = .ok (.bool true) w := by
  rw [run_eql_struct, eqInL]; rfl
theorem neqL (x : Ln) (w : World) : (binOp .neq 47 x.v x.v).run Try.prog w = .ok (.bool false) w := by
  rw [run_neq_struct, eqInL]; rfl
theorem neqM (x : Ln) (w : World) : (binOp .neq 56 x.v x.v).run Try.prog w = .ok (.bool false) w := by
  rw [run_neq_struct, eqInM]; rfl

set_option maxHeartbeats 1600000 in
set_option maxRecDepth 100000 in
theorem same_yes (s r : Value) (es : List Ln) (w : World) (hs : Lns w s es) (hr : Lns w r es) (hl : es.length ≤ 1000000) :
    Calls Try.prog 12 #[s, r] w fun e w' => e = .returned (.bool true) ∧ Below w.heap.size w w' := by
  obtain ⟨sa, sc, rfl⟩ := hs.form
  obtain ⟨ra, rc, rfl⟩ := hr.form
  go_enter Try.func12, Try.ntmps12
  go_wp2_with fail
  go_loopw [5] (fun i wr => ∃ k : Nat, k ≤ es.length ∧ i = .int .i64 k ∧ Below w.heap.size w wr) (fun i _ => es.length - (intOf i).toNat)
  case atStart => exact ⟨0, Nat.zero_le _, rfl, Below.refl _ _⟩
  case round =>
    obtain ⟨k, hk, rfl, B⟩ := hrel
    by_cases hlt : k < es.length
    · have q1 : (k : Int) < es.length := by omega
      have hs' := hs.below B
      have hr' := hr.below B
      obtain ⟨b, off, rfl, hc⟩ := hs'.nth hlt
      obtain ⟨b2, off2, rfl, hc2⟩ := hr'.nth hlt
      obtain ⟨c1, c2⟩ := hc k hlt
      obtain ⟨d1, d2⟩ := hc2 k hlt
      obtain ⟨x, hx⟩ : ∃ x, Hid (es.getD k Ln.zero = x) := ⟨_, rfl⟩
      rw [hx.out] at c1 c2 d1 d2
      clear hc hc2 hs' hr'
      have hne := fun w => neqM x w
      go_wp2_with fail
      go_quiet (fail)
      have B2 : Below w.heap.size w (wr.drewN nq) := below_drN B nq
      go_wp2_with fail
      go_roundw
      case rel => exact ⟨k + 1, by omega, by go_num, B2⟩
      case measure => simp [intOf]; omega
    · have q1 : ¬ (k : Int) < es.length := by omega
      go_wp2_with fail
      go_ret
      exact ⟨rfl, B⟩

/-- What known feeds, what it is told. -/
def kB : List Int := [97, 98, 13, 10, 97, 98, 99, 100, 101, 102, 103, 13, 10, 120]
theorem kF : ((Sp.new 6).feed kB).2 = [⟨⟨#[97, 98]⟩, false⟩, ⟨⟨#[97, 98, 99, 100]⟩, true⟩] := by kernel_rfl
theorem kS : ((Sp.new 6).feed kB).1 = ⟨6, [120], 1, false⟩ := by kernel_rfl
theorem W6 : (Sp.new 6).Wf := ⟨by decide, by decide, by decide⟩

set_option maxHeartbeats 1600000 in
set_option maxRecDepth 100000 in
theorem known_any (w : World) : Calls Try.prog 7 #[] w fun e w' => e = .returned (.bool true) ∧ Below w.heap.size w w' := by
  have HF : Hid (∀ w1 : World, Chg (fun _ => False) w w1 → LsS w.heap.size w.heap.size w1 (.slice none 0 0) (Sp.new 6) →
      Calls Try.prog 18 #[.pointer (some ⟨w.heap.size, 0, none⟩), .slice (some ⟨w1.heap.size, 0, none⟩) 14 14] (w1.alloc (.cells (bcells kB).toArray 5 (14, 15))) fun e w9 => ∃ b off c, e = .returned (.slice (some ⟨b, off, none⟩) 2 c) ∧
        w9.cell? ⟨b, off, none⟩ = some (.string ⟨#[97, 98]⟩) ∧ w9.cell? ⟨b, off + 1, none⟩ = some (.bool false) ∧ w9.cell? ⟨b, off + 2, none⟩ = some (.string ⟨#[97, 98, 99, 100]⟩) ∧ w9.cell? ⟨b, off + 3, none⟩ = some (.bool true) ∧
        Hid (Below w.heap.size w w9 ∧ ∃ v9, LsS w.heap.size w.heap.size w9 v9 ⟨6, [120], 1, false⟩)) := by
    intro w1 hc hL
    have C1 : Chg (fun _ => False) w1 (w1.alloc (.cells (bcells kB).toArray 5 (14, 15))) := Chg.alloc _ _ _
    have hsz : w.heap.size < w1.heap.size := hL.lt
    refine (feed_any w.heap.size w.heap.size _ (.slice none 0 0) _ (Sp.new 6) kB (fun k => k = w1.heap.size) W6 (hL.more C1) (Bs.lit w1 kB (14, 15) (by decide)) (fun a n c e h0 => by injection e with e1 e2 e3; injection e1 with e1; subst e1; rfl)
      (fun k hk => by subst hk; exact ⟨by simp, by omega, by simp [Value.ownBlock]⟩) (by decide)).mono fun e w9 h9 => ?_
    obtain ⟨v9, o, he, h1, h2, h3, h4⟩ := h9
    rw [kF] at h3
    rw [kS] at h1
    have hx := Lns.ofOwns h3
    obtain ⟨a, c, rfl⟩ := hx.form
    obtain ⟨b, off, rfl, hc2⟩ := hx.nth (k := 0) (by decide)
    have x0 := hc2 0 (by decide)
    have x1 := hc2 1 (by decide)
    refine ⟨b, off, c, he, by simpa using x0.1, by simpa using x0.2, by simpa using x1.1, by simpa using x1.2, ((hc.trans C1 (fun _ _ h => h)).toBelow).trans ((hL.more C1).belowN h2), v9, h1⟩
  have HN : Hid (Calls Try.prog 9 #[.int .i64 6] w fun e w' => e = .returned (.tuple #[.pointer (some ⟨w.heap.size, 0, none⟩), .int .i64 0]) ∧ LsS w.heap.size w.heap.size w' (.slice none 0 0) (Sp.new 6) ∧ Chg (fun _ => False) w w') :=
    new_yes 6 (by decide) w w.heap.size (Nat.le_refl _)
  have HH : Hid (∀ w9 : World, (Below w.heap.size w w9 ∧ ∃ v9, LsS w.heap.size w.heap.size w9 v9 ⟨6, [120], 1, false⟩) → Calls Try.prog 19 #[.pointer (some ⟨w.heap.size, 0, none⟩)] w9 fun e w' => e = .returned (.int .i64 1) ∧ w' = w9) := by
    intro w9 h9
    obtain ⟨_, v9, h⟩ := h9
    exact held_any _ _ _ _ _ _ _ _ h (by decide)
  have ea : (bcells kB).toArray = #[.int .u8 97, .int .u8 98, .int .u8 13, .int .u8 10, .int .u8 97, .int .u8 98, .int .u8 99, .int .u8 100, .int .u8 101, .int .u8 102, .int .u8 103, .int .u8 13, .int .u8 10, .int .u8 120] := rfl
  rw [ea] at HF
  clear ea
  have kc := fun (w : World) (C : Array Value) (n c : Nat) => Lib.run_convert_bytes_const (P := Try.prog) w 31 5 C n c Try.underlying31 Try.underlying5
  have x1 := fun w => eqlL ⟨⟨#[97, 98]⟩, false⟩ w
  have x2 := fun w => eqlL ⟨⟨#[97, 98, 99, 100]⟩, true⟩ w
  go_enter Try.func7, Try.ntmps7
  go_wp2_with (first
    | (go_at_call 9; refine HN.out.mono ?_; clear HN; rintro e w1 ⟨rfl, L1, C1⟩)
    | (go_at_call 18; refine (HF.out w1 C1 L1).mono ?_; clear HF; rintro e w2 ⟨b, off, c, rfl, c0, c1, c2, c3, H2⟩)
    | (go_at_call 19; refine (HH.out w2 H2.out).mono ?_; clear HH; rintro e w3 ⟨rfl, rfl⟩))
  go_ret
  exact ⟨rfl, H2.out.1⟩
end Go.Proofs.Ytfbildadidfolaa
