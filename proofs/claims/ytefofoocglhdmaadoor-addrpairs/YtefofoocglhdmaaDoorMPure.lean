/-
  Mailboxes: what a path, a domain, a local part is, over rows of bytes.
-/
import Derived.Test.YtefofoocglhdmaaDoorMem
namespace Go.Proofs.YtefofoocglhdmaaDoor
open Go.RowKit

/-- A text of these bytes. -/
abbrev bl (l : List UInt8) : ByteArray := ⟨l.toArray⟩
def inDig (c : UInt8) : Bool := decide (48 ≤ c.toNat) && decide (c.toNat ≤ 57)
def inLow (c : UInt8) : Bool := decide (97 ≤ c.toNat) && decide (c.toNat ≤ 122)
def inCap (c : UInt8) : Bool := decide (65 ≤ c.toNat) && decide (c.toNat ≤ 90)
def inLab (c : UInt8) : Bool := inDig c || inLow c || inCap c || c == 45
def inDom (c : UInt8) : Bool := c == 46 || c == 91 || c == 93 || inLab c
def marks : List UInt8 := [33, 35, 36, 37, 38, 39, 42, 43, 47, 61, 63, 94, 95, 96, 123, 124, 125, 126]
def inWrd (c : UInt8) : Bool := marks.contains c || inLab c
def prt (c : UInt8) : Bool := decide (32 ≤ c.toNat) && decide (c.toNat ≤ 126)
/-- One of these, or a dot. -/
def orD (p : UInt8 → Bool) (c : UInt8) : Bool := p c || c == 46

/-- What stands between dots. -/
def cutD : List UInt8 → List (List UInt8)
  | [] => [[]]
  | x :: xs => if x = 46 then [] :: cutD xs else (x :: (cutD xs).headD []) :: (cutD xs).tail
theorem cutD_ne (l : List UInt8) : cutD l ≠ [] := by
  cases l with
  | nil => simp [cutD]
  | cons x xs => rw [cutD]; split <;> simp
theorem cutD_none (a : List UInt8) (h : ∀ x ∈ a, x ≠ 46) : cutD a = [a] := by
  induction a with
  | nil => rfl
  | cons x xs ih =>
    have e := ih (fun y hy => h y (by simp [hy]))
    rw [cutD, if_neg (h x (by simp)), e]; rfl
theorem cutD_at (a b : List UInt8) (h : ∀ x ∈ a, x ≠ 46) : cutD (a ++ 46 :: b) = a :: cutD b := by
  induction a with
  | nil => rfl
  | cons x xs ih =>
    have e := ih (fun y hy => h y (by simp [hy]))
    rw [List.cons_append, cutD, if_neg (h x (by simp)), e]; rfl
theorem cutD_len (l : List UInt8) : (cutD l).length ≤ l.length + 1 := by
  induction l with
  | nil => simp [cutD]
  | cons x xs ih =>
    rw [cutD]
    split
    · simp; exact ih
    · simp; omega
theorem cutD_pos (l : List UInt8) : 0 < (cutD l).length := by have := cutD_ne l; cases h : cutD l with | nil => exact absurd h this | cons a b => simp

/-- No dot is one of these. -/
def NoDot (p : UInt8 → Bool) : Prop := p 46 = false
theorem take_orD {p : UInt8 → Bool} (hp : NoDot p) (l : List UInt8) :
    (∃ r, l.dropWhile p = 46 :: r ∧ cutD (l.takeWhile (orD p)) = l.takeWhile p :: cutD (r.takeWhile (orD p)) ∧ l.dropWhile (orD p) = r.dropWhile (orD p)) ∨
      ((∀ r, l.dropWhile p ≠ 46 :: r) ∧ cutD (l.takeWhile (orD p)) = [l.takeWhile p] ∧ l.dropWhile (orD p) = l.dropWhile p) := by
  have hn : ∀ x, p x = true → x ≠ 46 := fun x hx e => by rw [e, hp] at hx; cases hx
  induction l with
  | nil => exact .inr ⟨by simp, rfl, rfl⟩
  | cons x xs ih =>
    by_cases hx : p x = true
    · have hx2 : orD p x = true := by simp [orD, hx]
      rw [List.dropWhile_cons_of_pos hx, List.takeWhile_cons_of_pos hx, List.takeWhile_cons_of_pos hx2, List.dropWhile_cons_of_pos hx2, cutD, if_neg (hn x hx)]
      rcases ih with ⟨r, h1, h2, h3⟩ | ⟨h1, h2, h3⟩
      · exact .inl ⟨r, h1, by rw [h2]; rfl, h3⟩
      · exact .inr ⟨h1, by rw [h2]; rfl, h3⟩
    · have hx' : p x = false := by simpa using hx
      rw [List.dropWhile_cons_of_neg hx, List.takeWhile_cons_of_neg hx]
      by_cases h46 : x = 46
      · subst h46
        have hx2 : orD p 46 = true := by simp [orD]
        rw [List.takeWhile_cons_of_pos hx2, List.dropWhile_cons_of_pos hx2, cutD, if_pos rfl]
        exact .inl ⟨xs, rfl, rfl, rfl⟩
      · have hx2 : ¬ orD p x = true := by simp [orD, hx', h46]
        rw [List.takeWhile_cons_of_neg hx2, List.dropWhile_cons_of_neg hx2]
        exact .inr ⟨fun r e => h46 (by injection e), rfl, rfl⟩

/-- A label but for its length; a number; a word. -/
def okLab (x : List UInt8) : Bool := !(x == []) && !(x.headD 0 == 45) && !(x.getLastD 0 == 45)
def valD (x : List UInt8) : Nat := x.foldl (fun n c => 10 * n + (c.toNat - 48)) 0
def okNum (x : List UInt8) : Bool := !(x == []) && decide (x.length ≤ 3) && !(x.headD 0 == 48 && decide (1 < x.length)) && decide (valD x ≤ 255)
def okWrd (x : List UInt8) : Bool := !(x == [])
/-- Parts with dots between: how many (0: one is none), what stands behind. -/
def dotN (p : UInt8 → Bool) (ok : List UInt8 → Bool) (l : List UInt8) : Nat := if (cutD (l.takeWhile (orD p))).all ok = true then (cutD (l.takeWhile (orD p))).length else 0
/-- A domain but for its length. -/
def domS (l : List UInt8) : Bool :=
  if l.headD 0 = 91 then decide (dotN inDig okNum l.tail = 4) && ((l.tail.dropWhile (orD inDig)) == [93])
  else decide (0 < dotN inLab okLab l) && ((l.dropWhile (orD inLab)) == [])
def isW (l : List UInt8) : Bool := decide (0 < dotN inWrd okWrd l) && ((l.dropWhile (orD inWrd)) == [])
/-- Behind a route. -/
def rteF : Nat → List UInt8 → Option (List UInt8)
  | 0, _ => none
  | n + 1, l => if l.headD 0 = 64 then (if domS (l.tail.takeWhile inDom) = true then
      (if (l.tail.dropWhile inDom).headD 0 = 44 then rteF n (l.tail.dropWhile inDom).tail else if (l.tail.dropWhile inDom).headD 0 = 58 then some (l.tail.dropWhile inDom).tail else none) else none) else none
def rte (l : List UInt8) : Option (List UInt8) := rteF (l.length + 1) l
/-- What quotes say, and what stands behind them. -/
def quo : List UInt8 → Option (List UInt8 × List UInt8)
  | [] => none
  | c :: r => if c = 34 then some ([], r) else if c = 92 then (match r with
      | [] => none
      | d :: r' => if prt d = true then (quo r').map fun x => (d :: x.1, x.2) else none)
    else if prt c = true then (quo r).map fun x => (c :: x.1, x.2) else none
def loc (l : List UInt8) : Option (List UInt8 × List UInt8) :=
  if l.headD 0 = 34 then (match quo l.tail with | some (a, r) => if a = [] then none else some (a, r) | none => none)
  else if 0 < dotN inWrd okWrd l then some (l.takeWhile (orD inWrd), l.dropWhile (orD inWrd)) else none
def mbx (l : List UInt8) : Option (List UInt8 × List UInt8 × List UInt8) :=
  match loc l with
  | none => none
  | some (a, r) => if r.headD 0 = 64 then (if domS (r.tail.takeWhile inDom) = true then some (a, r.tail.takeWhile inDom, r.tail.dropWhile inDom) else none) else none
def clo (o : Option (List UInt8 × List UInt8 × List UInt8)) : Option (List UInt8 × List UInt8 × List UInt8) :=
  match o with
  | some (a, d, r) => if r.headD 0 = 62 then some (a, d, r.tail) else none
  | none => none
def pth (l : List UInt8) : Option (List UInt8 × List UInt8 × List UInt8) :=
  if l.headD 0 = 60 then
    (if l.tail.headD 0 = 62 then some ([], [], l.tail.tail)
      else if l.tail.headD 0 = 64 then (match rte l.tail with | some r => clo (mbx r) | none => none)
      else clo (mbx l.tail))
  else none
/-- Domain, Local, Print, Right. -/
def fits (l : List UInt8) : Bool := (cutD l).all fun x => decide (x.length ≤ 63)
def domB (l : List UInt8) : Bool := decide (l.length ≤ 255) && fits l && domS l
def locB (l : List UInt8) : Bool := decide (1 ≤ l.length) && decide (l.length ≤ 64) && l.all prt
def quoL : List UInt8 → List UInt8
  | [] => []
  | c :: r => if c = 34 ∨ c = 92 then 92 :: c :: quoL r else c :: quoL r
def lcl (a : List UInt8) : List UInt8 := if isW a = true then a else 34 :: (quoL a ++ [34])
def wrt (a d : List UInt8) : List UInt8 := 60 :: (lcl a ++ 64 :: (d ++ [62]))
def nul (a d : List UInt8) : Bool := (a == []) && (d == [])
def rgt (a d : List UInt8) : Bool := nul a d || (locB a && domB d && decide ((wrt a d).length ≤ 256))
def prn (a d : List UInt8) : List UInt8 := if rgt a d = true then (if nul a d = true then [60, 62] else wrt a d) else []
/-- Path: the address, what stands behind, the error. -/
def pathR (l : List UInt8) : List UInt8 × List UInt8 × List UInt8 × Int :=
  match pth l with
  | none => ([], [], [], 3)
  | some (a, d, r) => if rgt a d = true then (a, d, r, 0) else ([], [], [], 5)
def parseR (l : List UInt8) : List UInt8 × List UInt8 × Int :=
  if (pathR l).2.2.2 = 0 then (if (pathR l).2.2.1 = [] then ((pathR l).1, (pathR l).2.1, 0) else ([], [], 3)) else ([], [], (pathR l).2.2.2)
def lowB (c : UInt8) : UInt8 := if inCap c = true then c + 32 else c
def low (l : List UInt8) : List UInt8 := l.map lowB
def samB (a d b e : List UInt8) : Bool := (a == b) && (low d == low e)
end Go.Proofs.YtefofoocglhdmaaDoor
