/-
  A file's blocks: keys, which of them are live, where a key's number stands; numbers in a block; the shape of a file, and what adding and taking away a key does to it; nothing of the program is in it.
-/
import Derived.Test.YthohgljlcfbpjaaGreatFEach
import Derived.Test.YthohgljlcfbpjaaGreatWUp
import Derived.Test.YthohgljlcfbpjaaGreatReader
namespace Go.Proofs.YthohgljlcfbpjaaGreat
open Go.RowKit

/-- Number j of a block of numbers. -/
def num (xs : List Int) (j : Nat) : Int := xs.getD (4 * j) 0 + 256 * xs.getD (4 * j + 1) 0 + 65536 * xs.getD (4 * j + 2) 0 + 16777216 * xs.getD (4 * j + 3) 0
/-- .. set. -/
def setNum (xs : List Int) (j : Nat) (x : Int) : List Int := (((xs.set (4 * j) (x % 256)).set (4 * j + 1) (x / 256 % 256)).set (4 * j + 2) (x / 65536 % 256)).set (4 * j + 3) (x / 16777216 % 256)
theorem setNum_len (xs : List Int) (j : Nat) (x : Int) : (setNum xs j x).length = xs.length := by simp [setNum]
theorem getD_set_same {xs : List Int} {i : Nat} {x : Int} (h : i < xs.length) : (xs.set i x).getD i 0 = x := by simp [List.getD, h]
theorem getD_set_other {xs : List Int} {i k : Nat} {x : Int} (h : i ≠ k) : (xs.set i x).getD k 0 = xs.getD k 0 := by simp [List.getD, List.getElem?_set_ne h]
theorem num_setNum_same {xs : List Int} {j : Nat} {x : Int} (h : 4 * j + 3 < xs.length) (h0 : 0 ≤ x) (h1 : x < 4294967296) : num (setNum xs j x) j = x := by
  unfold num setNum
  rw [getD_set_other (by omega), getD_set_other (by omega), getD_set_other (by omega), getD_set_same (by omega), getD_set_other (by omega), getD_set_other (by omega), getD_set_same (by simp; omega),
    getD_set_other (by omega), getD_set_same (by simp; omega), getD_set_same (by simp; omega)]
  omega
theorem num_setNum_other {xs : List Int} {i j : Nat} {x : Int} (h : i ≠ j) : num (setNum xs i x) j = num xs j := by
  unfold num setNum
  rw [getD_set_other (by omega), getD_set_other (by omega), getD_set_other (by omega), getD_set_other (by omega), getD_set_other (by omega), getD_set_other (by omega), getD_set_other (by omega), getD_set_other (by omega),
    getD_set_other (by omega), getD_set_other (by omega), getD_set_other (by omega), getD_set_other (by omega), getD_set_other (by omega), getD_set_other (by omega), getD_set_other (by omega), getD_set_other (by omega)]
theorem isBy_set {xs : List Int} {i : Nat} {x : Int} (h : IsBy xs) (h0 : 0 ≤ x) (h1 : x < 256) : IsBy (xs.set i x) := by
  intro y hy
  rcases List.mem_or_eq_of_mem_set hy with hy | rfl
  · exact h y hy
  · exact ⟨h0, h1⟩
theorem isBy_setNum {xs : List Int} {j : Nat} {x : Int} (h : IsBy xs) : IsBy (setNum xs j x) :=
  isBy_set (isBy_set (isBy_set (isBy_set h (by omega) (by omega)) (by omega) (by omega)) (by omega) (by omega)) (by omega) (by omega)
theorem isBy_getD {xs : List Int} (h : IsBy xs) (i : Nat) : 0 ≤ xs.getD i 0 ∧ xs.getD i 0 < 256 := by
  by_cases hi : i < xs.length
  · have : xs.getD i 0 = xs[i] := by simp [List.getD, hi]
    rw [this]; exact h _ (List.getElem_mem hi)
  · have : xs.getD i 0 = 0 := by simp [List.getD, show xs.length ≤ i by omega]
    rw [this]; omega
theorem isBy_zeros (n : Nat) : IsBy (zeros n) := by
  intro x hx
  unfold zeros at hx
  rw [List.mem_replicate] at hx
  omega

/-- Keys: 2 i is block i of bytes, 1 is One, 3 is Two, 5 and 2 a is number a of those in Two. Which are live where there are m blocks of bytes. -/
def live (m k : Nat) : Prop := (k % 2 = 0 ∧ k / 2 < m) ∨ (k = 1 ∧ 8 < m) ∨ (k = 3 ∧ 136 < m) ∨ (k % 2 = 1 ∧ 5 ≤ k ∧ 136 + 64 * (k - 5) < m)
/-- A number that stands in the node. -/
def fld (k : Nat) : Prop := k = 1 ∨ k = 3 ∨ (k % 2 = 0 ∧ k < 16)
instance (k : Nat) : Decidable (fld k) := by unfold fld; infer_instance
/-- The block that another number stands in, and where. -/
def par (k : Nat) : Nat := if k % 2 = 1 then 3 else if k < 272 then 1 else 5 + 2 * ((k / 2 - 136) / 128)
def idx (k : Nat) : Nat := if k % 2 = 1 then (k - 5) / 2 else if k < 272 then k / 2 - 8 else (k / 2 - 136) % 128
theorem par_idx {k l : Nat} (hk : ¬ fld k) (hl : ¬ fld l) (hp : par k = par l) (hi : idx k = idx l) : k = l := by
  unfold fld at hk hl
  unfold par at hp
  unfold idx at hi
  repeat' (first | split at hp | split at hi)
  all_goals omega
theorem idx_lt {m k : Nat} (h : live m k) (hm : m ≤ 16520) : idx k < 128 := by
  unfold live at h
  unfold idx
  split
  · omega
  · split <;> omega
theorem live_par {m k : Nat} (hk : ¬ fld k) (h : live m k) : live m (par k) := by
  unfold fld at hk
  unfold live at *
  unfold par
  split
  · omega
  · split <;> omega
/-- The keys that begin with block i, in the order in which they are taken. -/
def begunK (i : Nat) : List Nat := if i = 8 then [1, 2 * i] else if i = 136 then [3, 5, 2 * i] else if 136 ≤ i ∧ (i - 136) % 128 = 0 then [5 + 2 * ((i - 136) / 128), 2 * i] else [2 * i]
theorem live_succ (i k : Nat) : live (i + 1) k ↔ live i k ∨ k ∈ begunK i := by
  unfold live begunK
  split
  · simp only [List.mem_cons, List.not_mem_nil, or_false]; omega
  · split
    · simp only [List.mem_cons, List.not_mem_nil, or_false]; omega
    · split
      · simp only [List.mem_cons, List.not_mem_nil, or_false]; omega
      · simp only [List.mem_cons, List.not_mem_nil, or_false]; omega
theorem begunK_new {i k : Nat} (h : k ∈ begunK i) : ¬ live i k := by
  unfold begunK at h
  unfold live
  split at h
  · simp only [List.mem_cons, List.not_mem_nil, or_false] at h; omega
  · split at h
    · simp only [List.mem_cons, List.not_mem_nil, or_false] at h; omega
    · split at h
      · simp only [List.mem_cons, List.not_mem_nil, or_false] at h; omega
      · simp only [List.mem_cons, List.not_mem_nil, or_false] at h; omega

/-- A number in the node, by its key; where it stands there. -/
def Nd.fd (n : Nd) (k : Nat) : Int := if k = 1 then n.on else if k = 3 then n.tw else n.ds.getD (k / 2) 0
def fo (k : Nat) : Nat := if k = 1 then 11 else if k = 3 then 12 else 3 + k / 2
theorem fo_lt {k : Nat} (h : fld k) : fo k < 13 := by
  unfold fld at h; unfold fo
  split
  · omega
  · split <;> omega
theorem fld_cases {k : Nat} (h : fld k) : k = 1 ∨ k = 3 ∨ k = 0 ∨ k = 2 ∨ k = 4 ∨ k = 6 ∨ k = 8 ∨ k = 10 ∨ k = 12 ∨ k = 14 := by unfold fld at h; omega
theorem Nd.fd_set (n : Nd) {k l : Nat} (hk : fld k) (hl : fld l) (x : Int) : (n.set (fo k) x).fd l = if l = k then x else n.fd l := by
  rcases fld_cases hk with rfl | rfl | rfl | rfl | rfl | rfl | rfl | rfl | rfl | rfl <;>
    rcases fld_cases hl with rfl | rfl | rfl | rfl | rfl | rfl | rfl | rfl | rfl | rfl <;> rfl
theorem Nd.fd_sz (n : Nd) (l : Nat) (x : Int) : (n.set 2 x).fd l = n.fd l := rfl
theorem NdAt.fdc {w : World} {b : Nat} {n : Nd} (h : NdAt w b n) {k : Nat} (hk : fld k) : w.cell? ⟨b, fo k, none⟩ = some (.int .i64 (n.fd k)) := by
  rcases fld_cases hk with rfl | rfl | rfl | rfl | rfl | rfl | rfl | rfl | rfl | rfl
  · exact h.c11
  · exact h.c12
  · exact h.c3
  · exact h.c4
  · exact h.c5
  · exact h.c6
  · exact h.c7
  · exact h.c8
  · exact h.c9
  · exact h.c10

/-- What stands at a key's place. -/
def slotV (V : Nat → List Int) (nd : Nd) (B : Nat → Nat) (k : Nat) : Int := if fld k then nd.fd k else num (V (B (par k))) (idx k)
theorem slotV_fld {V : Nat → List Int} {nd : Nd} {B : Nat → Nat} {k : Nat} (h : fld k) : slotV V nd B k = nd.fd k := if_pos h
theorem slotV_num {V : Nat → List Int} {nd : Nd} {B : Nat → Nat} {k : Nat} (h : ¬ fld k) : slotV V nd B k = num (V (B (par k))) (idx k) := if_neg h

/-- The shape of a file: the live keys' numbers stand at their places; a number of the node that is not live is 0; no two keys have one block. -/
structure Sh (Lv : Nat → Prop) (V : Nat → List Int) (nd : Nd) (B : Nat → Nat) : Prop where
  slot : ∀ k, Lv k → slotV V nd B k = (B k : Int)
  none : ∀ k, fld k → ¬ Lv k → nd.fd k = 0
  par : ∀ k, Lv k → ¬ fld k → Lv (par k)
  inj : ∀ k l, Lv k → Lv l → B k = B l → k = l
section
variable {Lv Lv' : Nat → Prop} {V V' : Nat → List Int} {nd : Nd} {B B' : Nat → Nat}
theorem Sh.iff (h : Sh Lv V nd B) (e : ∀ k, Lv k ↔ Lv' k) : Sh Lv' V nd B := by
  have : Lv = Lv' := funext fun k => propext (e k)
  rw [← this]; exact h
theorem Sh.congrV (h : Sh Lv V nd B) (e : ∀ k, Lv k → V' (B k) = V (B k)) : Sh Lv V' nd B := by
  refine ⟨fun k hk => ?_, h.none, h.par, h.inj⟩
  rw [← h.slot k hk]
  by_cases hf : fld k
  · rw [slotV_fld hf, slotV_fld hf]
  · rw [slotV_num hf, slotV_num hf, e _ (h.par k hk hf)]
theorem Sh.congrB (h : Sh Lv V nd B) (e : ∀ k, Lv k → B' k = B k) : Sh Lv V nd B' := by
  refine ⟨fun k hk => ?_, h.none, h.par, fun k l hk hl hb => h.inj k l hk hl (by rw [← e k hk, ← e l hl]; exact hb)⟩
  rw [e k hk, ← h.slot k hk]
  by_cases hf : fld k
  · rw [slotV_fld hf, slotV_fld hf]
  · rw [slotV_num hf, slotV_num hf, e _ (h.par k hk hf)]
theorem Sh.sz (h : Sh Lv V nd B) (x : Int) : Sh Lv V (nd.set 2 x) B :=
  ⟨fun k hk => by rw [← h.slot k hk]; rfl, fun k hf hn => h.none k hf hn, h.par, h.inj⟩
/-- A number of the node is added. -/
theorem Sh.addF (h : Sh Lv V nd B) {k x : Nat} (hf : fld k) (hk : ¬ Lv k) (hx : ∀ l, Lv l → B l ≠ x) : Sh (fun l => Lv l ∨ l = k) V (nd.set (fo k) x) (upd B k x) := by
  have hb : ∀ l, Lv l → upd B k x l = B l := fun l hl => upd_other _ _ (fun e => hk (e ▸ hl))
  refine ⟨fun l hl => ?_, fun l hl hn => ?_, fun l hl hn => ?_, fun l m hl hm e => ?_⟩
  · rcases hl with hl | rfl
    · rw [hb l hl, ← h.slot l hl]
      by_cases g : fld l
      · rw [slotV_fld g, slotV_fld g, Nd.fd_set nd hf g, if_neg (fun e : l = k => hk (e ▸ hl))]
      · rw [slotV_num g, slotV_num g, hb _ (h.par l hl g)]
    · rw [slotV_fld hf, upd_same, Nd.fd_set nd hf hf, if_pos rfl]
  · rw [Nd.fd_set nd hf hl, if_neg (fun e => hn (.inr e))]
    exact h.none l hl (fun g => hn (.inl g))
  · rcases hl with hl | rfl
    · exact .inl (h.par l hl hn)
    · exact absurd hf hn
  · rcases hl with hl | rfl <;> rcases hm with hm | rfl
    · rw [hb l hl, hb m hm] at e; exact h.inj l m hl hm e
    · rw [hb l hl, upd_same] at e; exact absurd e (hx l hl)
    · rw [hb m hm, upd_same] at e; exact absurd e.symm (hx m hm)
    · rfl
/-- A number in a block is added. -/
theorem Sh.addE (h : Sh Lv V nd B) {k x : Nat} (hf : ¬ fld k) (hk : ¬ Lv k) (hp : Lv (Go.Proofs.YthohgljlcfbpjaaGreat.par k)) (hx : ∀ l, Lv l → B l ≠ x)
    (hlen : (V (B (Go.Proofs.YthohgljlcfbpjaaGreat.par k))).length = 512) (hi : idx k < 128) (hs : x < 4294967296)
    (h1 : V' (B (Go.Proofs.YthohgljlcfbpjaaGreat.par k)) = setNum (V (B (Go.Proofs.YthohgljlcfbpjaaGreat.par k))) (idx k) x) (h2 : ∀ l, Lv l → l ≠ Go.Proofs.YthohgljlcfbpjaaGreat.par k → V' (B l) = V (B l)) :
    Sh (fun l => Lv l ∨ l = k) V' nd (upd B k x) := by
  have hb : ∀ l, Lv l → upd B k x l = B l := fun l hl => upd_other _ _ (fun e => hk (e ▸ hl))
  refine ⟨fun l hl' => ?_, fun l hl hn => h.none l hl (fun g => hn (.inl g)), fun l hl hn => ?_, fun l m hl hm e => ?_⟩
  · rcases hl' with hl' | rfl
    · rw [hb l hl', ← h.slot l hl']
      by_cases g : fld l
      · rw [slotV_fld g, slotV_fld g]
      · have hpl := h.par l hl' g
        rw [slotV_num g, slotV_num g, hb _ hpl]
        by_cases e : Go.Proofs.YthohgljlcfbpjaaGreat.par l = Go.Proofs.YthohgljlcfbpjaaGreat.par k
        · have hne : idx k ≠ idx l := fun e2 => hk ((par_idx g hf e e2.symm) ▸ hl')
          rw [e, h1, num_setNum_other hne]
        · rw [h2 _ hpl e]
    · rw [slotV_num hf, upd_same, hb _ hp, h1, num_setNum_same (by omega) (by omega) (by omega)]
  · rcases hl with hl | rfl
    · exact .inl (h.par l hl hn)
    · exact .inl hp
  · rcases hl with hl | rfl <;> rcases hm with hm | rfl
    · rw [hb l hl, hb m hm] at e; exact h.inj l m hl hm e
    · rw [hb l hl, upd_same] at e; exact absurd e (hx l hl)
    · rw [hb m hm, upd_same] at e; exact absurd e.symm (hx m hm)
    · rfl
/-- A number of the node is taken away. -/
theorem Sh.delF (h : Sh Lv V nd B) {k : Nat} (hf : fld k) (hc : ∀ l, Lv l → ¬ fld l → Go.Proofs.YthohgljlcfbpjaaGreat.par l ≠ k) : Sh (fun l => Lv l ∧ l ≠ k) V (nd.set (fo k) 0) B := by
  refine ⟨fun l hl => ?_, fun l hl hn => ?_, fun l hl hn => ⟨h.par l hl.1 hn, hc l hl.1 hn⟩, fun l m hl hm e => h.inj l m hl.1 hm.1 e⟩
  · rw [← h.slot l hl.1]
    by_cases g : fld l
    · rw [slotV_fld g, slotV_fld g, Nd.fd_set nd hf g, if_neg hl.2]
    · rw [slotV_num g, slotV_num g]
  · rw [Nd.fd_set nd hf hl]
    split
    · rfl
    · rename_i e
      exact h.none l hl (fun g => hn ⟨g, e⟩)
/-- A number in a block is taken away: it may be set or stay. -/
theorem Sh.delE (h : Sh Lv V nd B) {k : Nat} (hf : ¬ fld k) (hc : ∀ l, Lv l → ¬ fld l → Go.Proofs.YthohgljlcfbpjaaGreat.par l ≠ k)
    (h1 : (∃ y, V' (B (Go.Proofs.YthohgljlcfbpjaaGreat.par k)) = setNum (V (B (Go.Proofs.YthohgljlcfbpjaaGreat.par k))) (idx k) y) ∨ V' (B (Go.Proofs.YthohgljlcfbpjaaGreat.par k)) = V (B (Go.Proofs.YthohgljlcfbpjaaGreat.par k))) (h2 : ∀ l, Lv l → l ≠ k → l ≠ Go.Proofs.YthohgljlcfbpjaaGreat.par k → V' (B l) = V (B l)) :
    Sh (fun l => Lv l ∧ l ≠ k) V' nd B := by
  refine ⟨fun l hl => ?_, fun l hl hn => h.none l hl (fun g => hn ⟨g, fun e => hf (e ▸ hl)⟩), fun l hl hn => ⟨h.par l hl.1 hn, hc l hl.1 hn⟩, fun l m hl hm e => h.inj l m hl.1 hm.1 e⟩
  rw [← h.slot l hl.1]
  by_cases g : fld l
  · rw [slotV_fld g, slotV_fld g]
  · have hpl := h.par l hl.1 g
    rw [slotV_num g, slotV_num g]
    by_cases e : Go.Proofs.YthohgljlcfbpjaaGreat.par l = Go.Proofs.YthohgljlcfbpjaaGreat.par k
    · have hne : idx k ≠ idx l := fun e2 => hl.2 (par_idx g hf e e2.symm)
      rw [e]
      rcases h1 with ⟨y, h1⟩ | h1
      · rw [h1, num_setNum_other hne]
      · rw [h1]
    · rw [h2 _ hpl (hc l hl.1 g) e]
end

/-- The i-th block of so many bytes. -/
def blkOf (cs : List Int) (i : Nat) : List Int := (cs.drop (512 * i)).take 512
theorem blkOf_len {cs : List Int} {m i : Nat} (h : cs.length = 512 * m) (hi : i < m) : (blkOf cs i).length = 512 := by
  unfold blkOf
  rw [List.length_take, List.length_drop]; omega
/-- Bytes b in the place of as many from off on. -/
def splice (cs : List Int) (off : Nat) (b : List Int) : List Int := cs.take off ++ b ++ cs.drop (off + b.length)
theorem splice_len {cs : List Int} {off : Nat} {b : List Int} (h : off + b.length ≤ cs.length) : (splice cs off b).length = cs.length := by
  unfold splice
  simp only [List.length_append, List.length_take, List.length_drop]; omega
theorem splice_nil (cs : List Int) (off : Nat) : splice cs off [] = cs := by simp [splice]
theorem splice_get {cs : List Int} {off : Nat} {b : List Int} (h : off + b.length ≤ cs.length) (p : Nat) : (splice cs off b)[p]? = if off ≤ p ∧ p < off + b.length then b[p - off]? else cs[p]? := by
  unfold splice
  by_cases h1 : p < off
  · rw [if_neg (by omega), List.append_assoc, List.getElem?_append_left (by rw [List.length_take]; omega), List.getElem?_take_of_lt h1]
  · by_cases h2 : p < off + b.length
    · rw [if_pos ⟨by omega, h2⟩, List.getElem?_append_left (by rw [List.length_append, List.length_take]; omega), List.getElem?_append_right (by rw [List.length_take]; omega), List.length_take, Nat.min_eq_left (by omega)]
    · rw [if_neg (by omega), List.getElem?_append_right (by rw [List.length_append, List.length_take]; omega), List.length_append, List.length_take, Nat.min_eq_left (by omega), List.getElem?_drop, show off + b.length + (p - (off + b.length)) = p by omega]
theorem splice_splice {cs : List Int} {off : Nat} {b c : List Int} (h : off + b.length + c.length ≤ cs.length) : splice (splice cs off b) (off + b.length) c = splice cs off (b ++ c) := by
  apply List.ext_getElem?
  intro p
  rw [splice_get (by rw [splice_len (by omega)]; exact h), splice_get (by omega), splice_get (by rw [List.length_append]; omega), List.length_append]
  by_cases h1 : off + b.length ≤ p ∧ p < off + b.length + c.length
  · rw [if_pos h1, if_pos (by omega), List.getElem?_append_right (by omega), show p - (off + b.length) = p - off - b.length by omega]
  · rw [if_neg h1]
    by_cases h2 : off ≤ p ∧ p < off + b.length
    · rw [if_pos h2, if_pos (by omega), List.getElem?_append_left (by omega)]
    · rw [if_neg h2, if_neg (by omega)]
/-- A part of one block changed: what it does to all of them. -/
theorem blkOf_splice {cs : List Int} {m off : Nat} {b : List Int} (hl : cs.length = 512 * m) (hin : off % 512 + b.length ≤ 512) (ho : off / 512 < m) (i : Nat) (hi : i < m) :
    blkOf (splice cs off b) i = if i = off / 512 then splice (blkOf cs i) (off % 512) b else blkOf cs i := by
  have hle : off + b.length ≤ cs.length := by omega
  have hb := blkOf_len hl hi
  apply List.ext_getElem?
  intro p
  by_cases hp : p < 512
  · have e1 : ∀ ds : List Int, (blkOf ds i)[p]? = ds[512 * i + p]? := fun ds => by
      unfold blkOf
      rw [List.getElem?_take_of_lt hp, List.getElem?_drop]
    rw [e1, splice_get hle]
    split
    · rename_i h
      have : i = off / 512 := by omega
      rw [if_pos this, splice_get (by rw [hb]; omega), if_pos (by omega), show 512 * i + p - off = p - off % 512 by omega]
    · rename_i h
      split
      · rename_i e
        rw [splice_get (by rw [hb]; omega), if_neg (by omega), e1]
      · rw [e1]
  · rw [List.getElem?_eq_none (by rw [blkOf_len (m := m) (by rw [splice_len hle]; exact hl) hi]; omega)]
    split
    · rw [List.getElem?_eq_none (by rw [splice_len (by rw [hb]; omega), hb]; omega)]
    · rw [List.getElem?_eq_none (by rw [hb]; omega)]
theorem blkOf_part {cs : List Int} {off n : Nat} (hin : off % 512 + n ≤ 512) : ((blkOf cs (off / 512)).drop (off % 512)).take n = (cs.drop off).take n := by
  apply List.ext_getElem?
  intro p
  by_cases hp : p < n
  · unfold blkOf
    rw [List.getElem?_take_of_lt hp, List.getElem?_take_of_lt hp, List.getElem?_drop, List.getElem?_drop, List.getElem?_take_of_lt (by omega), List.getElem?_drop]
    congr 1; omega
  · rw [List.getElem?_eq_none (by rw [List.length_take]; omega), List.getElem?_eq_none (by rw [List.length_take]; omega)]
theorem blkOf_app {cs : List Int} {m i : Nat} (hl : cs.length = 512 * m) (hi : i ≤ m) : blkOf (cs ++ zeros 512) i = if i = m then zeros 512 else blkOf cs i := by
  unfold blkOf
  split
  · rename_i e
    subst e
    rw [List.drop_append_of_le_length (by omega), List.drop_eq_nil_of_le (by omega), List.nil_append, List.take_of_length_le (by rw [zeros_len]; omega)]
  · rw [List.drop_append_of_le_length (by omega), List.take_append_of_le_length (by rw [List.length_drop]; omega)]
theorem blkOf_take {cs : List Int} {m i : Nat} (hi : i < m) : blkOf (cs.take (512 * m)) i = blkOf cs i := by
  unfold blkOf
  rw [List.drop_take, List.take_take]
  congr 1; omega
end Go.Proofs.YthohgljlcfbpjaaGreat

namespace Go.Proofs.YthohgljlcfbpjaaGreat
open Go.RowKit Go.Maps

theorem num_val (xs : List Int) (j : Nat) : num xs j = valB [xs.getD (4 * j) 0, xs.getD (4 * j + 1) 0, xs.getD (4 * j + 2) 0, xs.getD (4 * j + 3) 0] := by
  unfold num
  simp only [valB]
  omega
theorem fourth {a b c d : Int} {k : Nat} (hk : k < 4) {xs : List Int} {j : Nat} (ha : a = xs.getD (4 * j) 0) (hb : b = xs.getD (4 * j + 1) 0) (hc : c = xs.getD (4 * j + 2) 0) (hd : d = xs.getD (4 * j + 3) 0) : [a, b, c, d].getD k 0 = xs.getD (4 * j + k) 0 := by
  have h : k = 0 ∨ k = 1 ∨ k = 2 ∨ k = 3 := by omega
  rcases h with rfl | rfl | rfl | rfl
  · exact ha
  · exact hb
  · exact hc
  · exact hd
set_option maxHeartbeats 1600000 in
set_option maxRecDepth 100000 in
theorem fnum_any (v : Value) (xs : List Int) (j : Nat) (w : World) (h : Bs w v xs) (hb : IsBy xs) (hl : xs.length = 512) (hj : j < 128) :
    Calls Tryz.prog 134 #[v, .int .i64 (j : Int)] w fun e w' => e = .returned (.int .i64 (num xs j)) ∧ w' = w := by
  obtain ⟨a, c, rfl, hlc⟩ := h.formB
  obtain ⟨b, off, rfl, hcs⟩ := h.atC (k := 0) (by omega)
  have hc4 : ∀ k, k < 4 → w.cell? ⟨b, off + 4 * j + k, none⟩ = some (.int .u8 (xs.getD (4 * j + k) 0)) := fun k hk => by
    have := hcs (4 * j + k) (by omega)
    rw [← Nat.add_assoc] at this
    exact this
  rw [num_val]
  obtain ⟨ds, hds⟩ : ∃ ds, [xs.getD (4 * j) 0, xs.getD (4 * j + 1) 0, xs.getD (4 * j + 2) 0, xs.getD (4 * j + 3) 0] = ds := ⟨_, rfl⟩
  rw [hds]
  have hdl : ds.length = 4 := by rw [← hds]; rfl
  have hB : IsB ds := by
    rw [← hds]
    intro x hx
    simp only [List.mem_cons, List.not_mem_nil, or_false] at hx
    rcases hx with rfl | rfl | rfl | rfl <;> exact isBy_getD hb _
  have hd4 : ∀ k, k < 4 → w.cell? ⟨b, off + 4 * j + k, none⟩ = some (.int .u8 (ds.getD k 0)) := fun k hk => by
    rw [hc4 k hk, ← hds, fourth hk rfl rfl rfl rfl]
  have hdl' : Hid (ds.length = 4) := hdl
  have HD : Hid (∀ k, k < 4 → w.cell? ⟨b, off + 4 * j + k, none⟩ = some (.int .u8 (ds.getD k 0))) := hd4
  have hlc' : 512 ≤ c := by omega
  rw [hl]
  clear hcs hc4 hds hdl hd4 h hlc hl
  have k1 : ((j : Int) + 1) * 4 - (j : Int) * 4 = 4 := by omega
  go_enter Tryz.func134, Tryz.ntmps134
  go_wp2
  go_loop [5, 16] (fun n i => ∃ (k : Nat), k ≤ 4 ∧ i = .int .i64 k ∧ n = .int .i64 (valB (ds.take k))) (fun _ i => 4 - (intOf i).toNat)
  case atStart => exact ⟨0, Nat.zero_le _, rfl, rfl⟩
  case round =>
    obtain ⟨k, hk, rfl, rfl⟩ := hrel
    by_cases hlt : k < 4
    · have hc : w.cell? ⟨b, off + j * 4 + k, none⟩ = some (.int .u8 (ds.getD k 0)) := by rw [Nat.mul_comm j 4]; exact HD.out k hlt
      have hx := hB.at (k := k) (by have := hdl'.out; omega)
      have hv := valB_bd (ds.take k) (hB.take k)
      have hkl : (ds.take k).length = k := by have := hdl'.out; simp; omega
      rw [hkl] at hv
      have HS : Hid (bits .or .i64 (valB (ds.take k)) (wrap64 (ds.getD k 0 * 2 ^ (8 * k))) = valB (ds.take (k + 1))) := by
        rw [valB_take ds k (by have := hdl'.out; omega)]
        exact or_step k _ _ (by omega) hv.1 hv.2 hx.1 hx.2
      clear hv hkl hB
      generalize valB (ds.take k) = m at *
      generalize ds.getD k 0 = x at *
      obtain ⟨hx0, hx1⟩ := hx
      have hki : (k : Int) < (((j + 1) * 4 - j * 4 : Nat) : Int) := by omega
      have hki2 : k < (j + 1) * 4 - j * 4 := by omega
      go_wp2
      go_roundw
      case rel => exact ⟨k + 1, by omega, by go_num, by rw [HS.out]⟩
      case measure => simp [intOf]; omega
    · have hki : ¬ ((k : Int) < (((j + 1) * 4 - j * 4 : Nat) : Int)) := by omega
      go_wp2
      go_ret
      refine ⟨?_, rfl⟩
      have e : ds.take k = ds := List.take_of_length_le (by have := hdl'.out; omega)
      rw [← e]; simp [e]
theorem Mp.cellAt {w : World} {g : Nat} {v : Value} {xs : List Int} (h : Mp w g v xs) {j : Nat} (hj : j < xs.length) : w.cell? ⟨g, j, none⟩ = some (.int .u8 (xs.getD j 0)) := by
  rcases h with ⟨rfl, rfl⟩ | ⟨c, cur, ty, rfl, hb, hl, hm, hc⟩
  · simp at hj
  · rw [cell_of_row _ _ _ _ _ _ hb]
    exact hc j hj
theorem Mp.freeAt {w : World} {g : Nat} {v : Value} {xs : List Int} (h : Mp w g v xs) (j : Nat) (hx : xs ≠ []) : w.frozen? ⟨g, j, none⟩ = false := by
  rcases h with ⟨rfl, e⟩ | ⟨c, cur, ty, rfl, hb, hl, hm, hc⟩
  · exact absurd e hx
  · simp [World.frozen?, hb]
/-- The first k of four bytes set. -/
def setUp (xs : List Int) (j : Nat) (x : Int) : Nat → List Int
  | 0 => xs
  | k + 1 => (setUp xs j x k).set (4 * j + k) (x / 256 ^ k % 256)
theorem setUp_len (xs : List Int) (j : Nat) (x : Int) : ∀ k, (setUp xs j x k).length = xs.length
  | 0 => rfl
  | k + 1 => by simp [setUp, setUp_len xs j x k]
theorem setUp_four (xs : List Int) (j : Nat) (x : Int) : setUp xs j x 4 = setNum xs j x := by
  simp [setUp, setNum]
set_option maxHeartbeats 1600000 in
set_option maxRecDepth 100000 in
theorem fset_any (g : Nat) (v : Value) (xs : List Int) (j : Nat) (x : Int) (w : World) (h : Mp w g v xs) (hl : xs.length = 512) (hj : j < 128) (_hx0 : 0 ≤ x) (_hx1 : x < 4294967296) :
    Calls Tryz.prog 136 #[v, .int .i64 (j : Int), .int .i64 x] w fun e w' => e = .returned (.tuple #[]) ∧ Mp w' g v (setNum xs j x) ∧ Chg (fun b => b = g) w w' := by
  obtain ⟨c, hv⟩ : ∃ c, v = .slice (some ⟨g, 0, none⟩) 512 c ∧ 512 ≤ c := by
    rcases h with ⟨_, rfl⟩ | ⟨c, cur, ty, rfl, _, h2, _⟩
    · cases hl
    · exact ⟨c, by rw [hl], by omega⟩
  obtain ⟨rfl, hc⟩ := hv
  rw [← setUp_four]
  go_enter Tryz.func136, Tryz.ntmps136
  go_wp2
  go_loopw [7] (fun i wr => ∃ k : Nat, k ≤ 4 ∧ i = .int .i64 k ∧ Mp wr g (.slice (some ⟨g, 0, none⟩) 512 c) (setUp xs j x k) ∧ Chg (fun b => b = g) w wr) (fun i _ => 4 - (intOf i).toNat)
  case atStart => exact ⟨0, by omega, rfl, h, Chg.refl _ _⟩
  case round =>
    obtain ⟨k, hk, rfl, hm, hch⟩ := hrel
    by_cases hlt : k < 4
    · have hsl := setUp_len xs j x k
      have hin : 4 * j + k < (setUp xs j x k).length := by omega
      have hc1 : wr.cell? ⟨g, j * 4 + k, none⟩ = some (.int .u8 ((setUp xs j x k).getD (j * 4 + k) 0)) := hm.cellAt (by omega)
      have hf1 := hm.freeAt (j * 4 + k) (by intro e; rw [e] at hin; simp at hin)
      have hm2 := hm.set hin (x / 256 ^ k % 256)
      have e : (2 : Int) ^ (8 * k) = 256 ^ k := by rw [Int.pow_mul]; rfl
      have HZ : Hid (Mp (wr.setCell ⟨g, j * 4 + k, none⟩ (.int .u8 (x / 2 ^ (8 * k) % 256))) g (.slice (some ⟨g, 0, none⟩) 512 c) (setUp xs j x (k + 1))) := by
        rw [e, Nat.mul_comm j 4]; exact hm2
      have HC : Hid (Chg (fun b => b = g) w wr) := hch
      clear hm hm2 e hch hsl hin
      go_wp2
      go_roundw
      case rel => exact ⟨k + 1, by omega, by go_num, HZ.out, HC.out.trans (Chg.setCell (S := fun b => b = g) _ _ _ rfl) (fun _ _ h => h)⟩
      case measure => simp [intOf]; omega
    · go_wp2
      go_end0
      obtain rfl : k = 4 := by omega
      exact ⟨rfl, hm, hch⟩
end Go.Proofs.YthohgljlcfbpjaaGreat
