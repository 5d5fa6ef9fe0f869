/-
  Lines of a stream, pure.
-/
import Derived.Test.YtfbildadidfolaaMem
namespace Go.Proofs.Ytfbildadidfolaa

/-- A text of these bytes. -/
def strC (xs : List Int) : ByteArray := xs.foldl (fun r n => r.push (UInt8.ofNat n.toNat)) ByteArray.empty
/-- A line. -/
structure Ln where
  t : ByteArray
  long : Bool
deriving DecidableEq
abbrev Ln.zero : Ln := ⟨⟨#[]⟩, false⟩
/-- A splitter: its bound, what it holds of a text, how long that is in all, whether a CR waits. -/
structure Sp where
  most : Nat
  held : List Int
  n : Nat
  cr : Bool
def Sp.room (S : Sp) : Nat := S.most - 2 - S.held.length
def Sp.add (S : Sp) (bs : List Int) : Sp := ⟨S.most, S.held ++ bs.take S.room, S.n + bs.length, S.cr⟩
def Sp.long (S : Sp) : Bool := decide (S.most - 2 < S.n)
def Sp.st (S : Sp) : Int := if S.cr = true then 2 else if S.n = 0 then 0 else 1
def Sp.reset (S : Sp) : Sp := ⟨S.most, [], 0, false⟩
def Sp.line (S : Sp) : Ln := ⟨strC S.held, S.long⟩
def Sp.wait (S : Sp) (b : Bool) : Sp := ⟨S.most, S.held, S.n, b⟩
/-- A CR that waited was one of the text. -/
def Sp.was (S : Sp) : Sp := if S.cr = true then (S.add [13]).wait false else S
def Sp.put (S : Sp) (c : Int) : Sp × Option Ln :=
  if S.cr = true ∧ c = 10 then (S.reset, some S.line) else if c = 13 then (S.was.wait true, none) else (S.was.add [c], none)
def Sp.next (S : Sp) : List Int → Sp × Option (Ln × List Int)
  | [] => (S, none)
  | c :: r => match S.put c with
    | (T, some l) => (T, some (l, r))
    | (T, none) => T.next r
def Sp.feed (S : Sp) : List Int → Sp × List Ln
  | [] => (S, [])
  | c :: r => match S.put c with
    | (T, some l) => ((T.feed r).1, l :: (T.feed r).2)
    | (T, none) => T.feed r
def Sp.hold (S : Sp) : Nat := S.held.length + if S.cr = true then 1 else 0
structure Sp.Wf (S : Sp) : Prop where
  lo : 2 ≤ S.most
  hi : S.most ≤ 65536
  len : S.held.length = min S.n (S.most - 2)

theorem Sp.add_nil (S : Sp) : S.add [] = S := by unfold Sp.add; simp
theorem Sp.add_add (S : Sp) (a b : List Int) : (S.add a).add b = S.add (a ++ b) := by
  unfold Sp.add Sp.room
  simp only [List.length_append, List.append_assoc, List.length_take]
  congr 1
  · rw [List.take_append]
    congr 2
    congr 1
    omega
  · omega
theorem Sp.wait_add (S : Sp) (b : Bool) (x : List Int) : (S.wait b).add x = (S.add x).wait b := rfl
theorem Sp.wait_wait (S : Sp) (b c : Bool) : (S.wait b).wait c = S.wait c := rfl
theorem Sp.wait_same (S : Sp) (b : Bool) (h : S.cr = b) : S.wait b = S := by subst h; rfl
theorem Sp.was_cr (S : Sp) : S.was.cr = false := by
  unfold Sp.was
  split
  · rfl
  · next h => simpa using h
theorem Sp.was_no (S : Sp) (h : S.cr = false) : S.was = S := by unfold Sp.was; rw [if_neg (by simp [h])]
theorem Sp.was_yes (S : Sp) (h : S.cr = true) : S.was = (S.add [13]).wait false := by unfold Sp.was; rw [if_pos h]
theorem Sp.Wf.add {S : Sp} (h : S.Wf) (bs : List Int) : (S.add bs).Wf := by
  refine ⟨h.lo, h.hi, ?_⟩
  have := h.len
  have := h.lo
  show (S.held ++ bs.take S.room).length = min (S.n + bs.length) (S.most - 2)
  simp only [List.length_append, List.length_take, Sp.room]
  omega
theorem Sp.Wf.wait {S : Sp} (h : S.Wf) (b : Bool) : (S.wait b).Wf := ⟨h.lo, h.hi, h.len⟩
theorem Sp.Wf.reset {S : Sp} (h : S.Wf) : S.reset.Wf := ⟨h.lo, h.hi, by show 0 = min 0 (S.most - 2); omega⟩
theorem Sp.Wf.was {S : Sp} (h : S.Wf) : S.was.Wf := by
  unfold Sp.was
  split
  · exact (h.add _).wait _
  · exact h
theorem Sp.Wf.put {S : Sp} (h : S.Wf) (c : Int) : (S.put c).1.Wf := by
  unfold Sp.put
  split
  · exact h.reset
  · split
    · exact h.was.wait _
    · exact h.was.add _
theorem Sp.put_most (S : Sp) (c : Int) : (S.put c).1.most = S.most := by
  have : S.was.most = S.most := by unfold Sp.was; split <;> rfl
  unfold Sp.put
  split
  · rfl
  · split
    · exact this
    · exact this
theorem Sp.Wf.next {S : Sp} (h : S.Wf) (b : List Int) : (S.next b).1.Wf := by
  induction b generalizing S with
  | nil => exact h
  | cons c r ih =>
    have := h.put c
    rw [Sp.next]
    split
    · next T l e => rw [e] at this; exact this
    · next T e => rw [e] at this; exact ih this
theorem Sp.Wf.feed {S : Sp} (h : S.Wf) (b : List Int) : (S.feed b).1.Wf := by
  induction b generalizing S with
  | nil => exact h
  | cons c r ih =>
    have := h.put c
    rw [Sp.feed]
    split
    · next T l e => rw [e] at this; exact ih this
    · next T e => rw [e] at this; exact ih this
theorem Sp.feed_most (S : Sp) (b : List Int) : (S.feed b).1.most = S.most := by
  induction b generalizing S with
  | nil => rfl
  | cons c r ih =>
    have := S.put_most c
    rw [Sp.feed]
    split
    · next T l e => rw [e] at this; exact (ih T).trans this
    · next T e => rw [e] at this; exact (ih T).trans this
theorem Sp.Wf.long {S : Sp} (h : S.Wf) (bs : List Int) : (S.add bs).long = (S.long || decide (S.room < bs.length)) := by
  have := h.len
  have := h.lo
  unfold Sp.long Sp.room
  show decide (S.most - 2 < S.n + bs.length) = _
  by_cases h1 : S.most - 2 < S.n
  · have h2 : S.most - 2 < S.n + bs.length := by omega
    simp [h1, h2]
  · have e : S.held.length = S.n := by omega
    by_cases h2 : S.most - 2 < S.n + bs.length
    · have h3 : S.most - 2 - S.held.length < bs.length := by omega
      simp [h1, h2, h3]
    · have h3 : ¬ S.most - 2 - S.held.length < bs.length := by omega
      simp [h1, h2, h3]
theorem Sp.put_end (S : Sp) (h : S.cr = true) : S.put 10 = (S.reset, some S.line) := by unfold Sp.put; rw [if_pos ⟨h, rfl⟩]
theorem Sp.put_was (S : Sp) (c : Int) (h : S.cr = true → c ≠ 10) : S.put c = S.was.put c := by
  have h1 : ¬ (S.cr = true ∧ c = 10) := fun x => h x.1 x.2
  have h2 : ¬ (S.was.cr = true ∧ c = 10) := by rw [S.was_cr]; simp
  unfold Sp.put
  rw [if_neg h1, if_neg h2, Sp.was_no S.was S.was_cr]
theorem Sp.next_was (S : Sp) (c : Int) (r : List Int) (h : S.cr = true → c ≠ 10) : S.next (c :: r) = S.was.next (c :: r) := by
  rw [Sp.next, Sp.next, S.put_was c h]
theorem Sp.put_plain (S : Sp) (c : Int) (h : S.cr = false) (hc : c ≠ 13) : S.put c = (S.add [c], none) := by
  unfold Sp.put
  rw [if_neg (by rw [h]; simp), if_neg hc, S.was_no h]
theorem Sp.next_to (S : Sp) (a r : List Int) (h : S.cr = false) (ha : ∀ x ∈ a, x ≠ 13) : S.next (a ++ 13 :: r) = ((S.add a).wait true).next r := by
  induction a generalizing S with
  | nil =>
    rw [List.nil_append, Sp.next]
    have e : S.put 13 = (S.wait true, none) := by
      unfold Sp.put
      rw [if_neg (by rw [h]; simp), if_pos rfl, S.was_no h]
    rw [e, S.add_nil]
  | cons x a ih =>
    rw [List.cons_append, Sp.next, S.put_plain x h (ha x (by simp))]
    show (S.add [x]).next (a ++ 13 :: r) = _
    rw [ih (S.add [x]) h (fun y hy => ha y (by simp [hy])), S.add_add]
    rfl
theorem Sp.next_all (S : Sp) (a : List Int) (h : S.cr = false) (ha : ∀ x ∈ a, x ≠ 13) : S.next a = (S.add a, none) := by
  induction a generalizing S with
  | nil => rw [S.add_nil]; rfl
  | cons x a ih =>
    rw [Sp.next, S.put_plain x h (ha x (by simp))]
    show (S.add [x]).next a = _
    rw [ih (S.add [x]) h (fun y hy => ha y (by simp [hy])), S.add_add]
    rfl
theorem Sp.feed_next (S : Sp) (b : List Int) : S.feed b = match S.next b with
    | (T, none) => (T, [])
    | (T, some (l, r)) => ((T.feed r).1, l :: (T.feed r).2) := by
  induction b generalizing S with
  | nil => rfl
  | cons c r ih =>
    rw [Sp.feed, Sp.next]
    split
    · next T l e => rfl
    · next T e => exact ih T
theorem Sp.next_less (S : Sp) (b : List Int) : ∀ l r, (S.next b).2 = some (l, r) → r.length < b.length ∧ ∃ k, k ≤ b.length ∧ r = b.drop k := by
  induction b generalizing S with
  | nil => intro l r h; cases h
  | cons c t ih =>
    intro l r h
    rw [Sp.next] at h
    revert h
    split
    · next T l' e =>
      intro h
      injection h with h
      injection h with h1 h2
      subst h2
      exact ⟨by simp, 1, by simp, rfl⟩
    · next T e =>
      intro h
      obtain ⟨h1, k, h2, h3⟩ := ih T l r h
      exact ⟨by simp; omega, k + 1, by simp; omega, by simpa using h3⟩
theorem Sp.next_none (S : Sp) (b : List Int) (h : (S.next b).2 = none) : S.feed b = ((S.next b).1, []) := by
  rw [S.feed_next b]
  rcases e : S.next b with ⟨T, _ | ⟨l, r⟩⟩
  · rfl
  · rw [e] at h; cases h
theorem Sp.next_some (S : Sp) (b : List Int) {l : Ln} {r : List Int} (h : (S.next b).2 = some (l, r)) : S.feed b = (((S.next b).1.feed r).1, l :: ((S.next b).1.feed r).2) := by
  rw [S.feed_next b]
  rcases e : S.next b with ⟨T, _ | ⟨l', r'⟩⟩
  · rw [e] at h; cases h
  · rw [e] at h; cases h; rfl
theorem Sp.feed_app (S : Sp) (a b : List Int) : S.feed (a ++ b) = (((S.feed a).1.feed b).1, (S.feed a).2 ++ ((S.feed a).1.feed b).2) := by
  induction a generalizing S with
  | nil => rfl
  | cons c r ih =>
    rw [List.cons_append, Sp.feed, Sp.feed]
    rcases e : S.put c with ⟨T, _ | l⟩
    · exact ih T
    · show ((T.feed (r ++ b)).1, l :: (T.feed (r ++ b)).2) = _
      rw [ih T]
      rfl
theorem Sp.feed_len (S : Sp) (b : List Int) : (S.feed b).2.length ≤ b.length := by
  induction b generalizing S with
  | nil => simp [Sp.feed]
  | cons c r ih =>
    rw [Sp.feed]
    rcases e : S.put c with ⟨T, _ | l⟩
    · have := ih T; simp; omega
    · have := ih T; simp; omega
theorem Sp.put_n (S : Sp) (c : Int) : (S.put c).1.n ≤ S.n + 2 := by
  have : S.was.n ≤ S.n + 1 := by unfold Sp.was; split <;> simp [Sp.add, Sp.wait]
  unfold Sp.put
  split
  · simp [Sp.reset]
  · split
    · simp [Sp.wait]; omega
    · simp [Sp.add]; omega
theorem Sp.feed_n (S : Sp) (b : List Int) : (S.feed b).1.n ≤ S.n + 2 * b.length := by
  induction b generalizing S with
  | nil => simp [Sp.feed]
  | cons c r ih =>
    have h1 := S.put_n c
    rw [Sp.feed]
    rcases e : S.put c with ⟨T, _ | l⟩ <;> rw [e] at h1 <;> have := ih T <;> simp at h1 ⊢ <;> omega
theorem Sp.Wf.hold {S : Sp} (h : S.Wf) : S.hold < S.most := by
  have := h.len
  have := h.lo
  unfold Sp.hold
  split <;> omega
end Go.Proofs.Ytfbildadidfolaa
