/-
  What both trees tell of a path, over what stands there; rows of texts compared.
-/
import Derived.Test.YtlnjnimenihhnaaGreatDoorVRows
import Derived.Test.YtlnjnimenihhnaaGreatDoorVTwin
import Derived.Test.YtlnjnimenihhnaaGreatDoorTLs
import Derived.Test.YtlnjnimenihhnaaGreatDoorDStr
import Derived.BigQuiet
namespace Go.Proofs.YtlnjnimenihhnaaGreatDoor
open Go.RowKit Go.Maps Go.Sort

/-- What stands at a path, if all is well. -/
def atN (F : Pth → Option Nd) (s : ByteArray) : Option Nd := if thE F s = 0 then F (spN s) else none
def rdC (F : Pth → Option Nd) (s : ByteArray) : Int := match atN F s with
  | some (.dir _ _) => 10
  | _ => thE F s
def rdB (F : Pth → Option Nd) (s : ByteArray) : List Int := match atN F s with
  | some (.file bs) => bs
  | _ => []
def lsC (F : Pth → Option Nd) (s : ByteArray) : Int := match atN F s with
  | some (.file _) => 11
  | _ => thE F s
def lsN (F : Pth → Option Nd) (s : ByteArray) : List (List UInt8) := match atN F s with
  | some (.dir _ kn) => nmL kn
  | _ => []
def stV (F : Pth → Option Nd) (s : ByteArray) : Value := inV (infD (atN F s)).1 (infD (atN F s)).2.1 (infD (atN F s)).2.2
theorem atN_no {F : Pth → Option Nd} {s : ByteArray} (h : ¬ thE F s = 0) : atN F s = none := if_neg h
theorem atN_ok {F : Pth → Option Nd} {s : ByteArray} (h : thE F s = 0) : atN F s = F (spN s) := if_pos h
theorem th_some {F : Pth → Option Nd} {s : ByteArray} (h : thE F s = 0) : ∃ nd, F (spN s) = some nd := by
  unfold thE at h
  by_cases h0 : fiE F s = 0
  · rw [if_pos h0] at h
    by_cases h1 : (F (spN s)).isSome = true
    · exact Option.isSome_iff_exists.1 h1
    · rw [if_neg h1] at h; exact absurd h (by decide)
  · rw [if_neg h0] at h; exact absurd h h0
section
variable {t r q : Nat} {T : Ts} {A : Pth → Nat} {O : Nat → Option (Pth × Nat)} {K : Nat} {w : World} {R : Rs} {num : Pth → Nat} {G : Nat → Prop} {s : ByteArray}
theorem l_read (h : Tr w t T.F A O T.bl T.ino K) (hs : s.size ≤ 3000) :
    Calls Tryz.prog 18 #[ptr t, .string s] w fun e w' => ∃ a c, e = .returned (.tuple #[.slice a (rdB T.F s).length c, .int .i64 (rdC T.F s)]) ∧ Hid (Bs w' (.slice a (rdB T.F s).length c) (rdB T.F s) ∧ Below w.heap.size w w') := by
  have nilB : ∀ w' : World, Bs w' (.slice none 0 0) [] := fun w' => .inl ⟨rfl, rfl⟩
  by_cases hE : thE T.F s = 0
  · obtain ⟨nd, hn⟩ := th_some hE
    unfold rdB rdC
    rw [atN_ok hE, hn, hE]
    cases nd with
    | file bs =>
      refine (read_ok h hs hE hn).mono ?_
      rintro e w' ⟨v, rfl, ho, hb⟩
      obtain ⟨a, c, rfl⟩ := own_form' ho
      exact ⟨a, c, rfl, Bs.ofOwns ho, hb⟩
    | dir n kn =>
      refine (read_dir h hs hE hn).mono ?_
      rintro e w' ⟨rfl, hb⟩
      exact ⟨none, 0, rfl, nilB _, hb⟩
  · unfold rdB rdC
    rw [atN_no hE]
    refine (read_no h hs rfl hE).mono ?_
    rintro e w' ⟨rfl, hb⟩
    exact ⟨none, 0, rfl, nilB _, hb⟩
end
end Go.Proofs.YtlnjnimenihhnaaGreatDoor

namespace Go.Proofs.YtlnjnimenihhnaaGreatDoor
open Go.RowKit Go.Maps Go.Sort

section
variable {t r q : Nat} {T : Ts} {A : Pth → Nat} {O : Nat → Option (Pth × Nat)} {K : Nat} {w : World} {R : Rs} {num : Pth → Nat} {G : Nat → Prop} {s : ByteArray}
end
end Go.Proofs.YtlnjnimenihhnaaGreatDoor
