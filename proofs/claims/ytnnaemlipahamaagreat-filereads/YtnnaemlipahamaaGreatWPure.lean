/-
  A log on a disk as a value: what the head names, what lasts wherever the power goes, and what each row of writes of package wal leaves; plain lists and numbers, nothing of the program is in it.
-/
import Derived.Test.YtnnaemlipahamaaGreatFixed
import Derived.Test.YtnnaemlipahamaaGreatState
namespace Go.Proofs.YtnnaemlipahamaaGreat

/-- "mailbag log 1" -/
def markB : List Int := [109, 97, 105, 108, 98, 97, 103, 32, 108, 111, 103, 32, 49]
def numsB (hs : List Nat) : List Int := hs.flatMap fun n : Nat => leTo (n : Int) 2
/-- The head that names hs. -/
def headB (hs : List Nat) : List Int := fixB (markB ++ leTo (hs.length : Int) 2 ++ numsB hs) 512
theorem headB_len (hs : List Nat) : (headB hs).length = 512 := by unfold headB; rw [fixB_len]; rfl

namespace St
theorem last_calm {S : St} {n : Nat} (h : S.wait n = []) : S.last n = S.syn n := by simp [last, ver, h]
theorem cutTo_syn : ∀ (ks : List Nat) (S : St) (ps : List Int) (n : Nat), n ∉ ks → (S.cutTo ps ks).syn n = S.syn n
  | [], _, _, _, _ => rfl
  | k :: ks, S, ps, n, h => by
    rw [cutTo, cutTo_syn ks _ _ n (fun e => h (by simp [e]))]
    exact upd_other _ _ (fun e => h (by simp [e]))
theorem cut_syn {S : St} (ps : List Int) {n : Nat} (h : S.wait n = []) : (S.cut ps).syn n = S.syn n := by
  unfold cut
  split
  · rfl
  · exact cutTo_syn _ _ _ _ (fun e => (keys_lt e).2 h)
theorem write_cases {S : St} {n : Nat} {b : List Int} (h0 : S.off = false) (hn : n < S.nb) (hb : b.length = 512) :
    (S.writeE (n : Int) b = 0 ∧ S.write (n : Int) b = S.pushed n b ∧ S.arm ≠ 1) ∨ (S.writeE (n : Int) b = 6 ∧ S.write (n : Int) b = S.cut S.picks ∧ S.arm = 1) := by
  have ok : S.okW (n : Int) b := ⟨by omega, by omega, hb⟩
  by_cases ha : S.arm = 1
  · right; simp [writeE, write, h0, ok, ha]
  · left; simp [writeE, write, h0, ok, ha]
theorem pushed_last_same (S : St) (n : Nat) (b : List Int) : (S.pushed n b).last n = b := by
  have : (S.pushed n b).wait n = S.wait n ++ [b] := upd_same _ _ _
  simp [last, ver, this, List.getD]
theorem pushed_wait_other (S : St) {n k : Nat} (b : List Int) (h : k ≠ n) : (S.pushed n b).wait k = S.wait k := upd_other _ _ h
theorem pushed_last_other (S : St) {n k : Nat} (b : List Int) (h : k ≠ n) : (S.pushed n b).last k = S.last k := by
  have := pushed_wait_other S b h
  have e : (S.pushed n b).syn = S.syn := rfl
  simp [last, ver, this, e]
end St

/-- From S0 to S with the power on, by at most k writes. -/
structure Onw (S0 S : St) (k : Nat) : Prop where
  wf : S.Wf
  nb : S.nb = S0.nb
  off : S.off = false
  wr : S.writes ≤ S0.writes + k
  arm : S0.arm < 1 → S.arm < 1
/-- The power went on the way from S0. -/
structure Gone (S0 S : St) (k : Nat) : Prop where
  wf : S.Wf
  nb : S.nb = S0.nb
  off : S.off = true
  wr : S.writes ≤ S0.writes + k
  arm : 1 ≤ S0.arm
  calm : ∀ n, S.wait n = []
theorem Onw.refl {S : St} (h : S.Wf) (h0 : S.off = false) : Onw S S 0 := ⟨h, rfl, h0, Nat.le_refl _, id⟩
theorem Onw.mono {S0 S : St} {k k' : Nat} (h : Onw S0 S k) (hk : k ≤ k') : Onw S0 S k' := ⟨h.wf, h.nb, h.off, by have := h.wr; omega, h.arm⟩
theorem Gone.mono {S0 S : St} {k k' : Nat} (h : Gone S0 S k) (hk : k ≤ k') : Gone S0 S k' := ⟨h.wf, h.nb, h.off, by have := h.wr; omega, h.arm, h.calm⟩
theorem Onw.trans {S0 S1 S2 : St} {k k' : Nat} (a : Onw S0 S1 k) (b : Onw S1 S2 k') : Onw S0 S2 (k + k') :=
  ⟨b.wf, b.nb.trans a.nb, b.off, by have := a.wr; have := b.wr; omega, fun h => b.arm (a.arm h)⟩
theorem Onw.gone {S0 S1 S2 : St} {k k' : Nat} (a : Onw S0 S1 k) (b : Gone S1 S2 k') : Gone S0 S2 (k + k') :=
  ⟨b.wf, b.nb.trans a.nb, b.off, by have := a.wr; have := b.wr; omega, by
    have h1 := b.arm
    rcases Int.lt_or_le S0.arm 1 with h | h
    · have := a.arm h; omega
    · exact h, b.calm⟩
theorem Onw.push {S0 S : St} {k n : Nat} {b : List Int} (h : Onw S0 S k) (hn : n < S.nb) (hb : b.length = 512) : Onw S0 (S.pushed n b) (k + 1) :=
  ⟨St.pushed_wf h.wf hn hb, h.nb, h.off, (by have := h.wr; show S.writes + 1 ≤ _; omega), fun h0 => by
    have := h.arm h0
    show (if S.arm < 1 then S.arm else S.arm - 1) < 1
    rw [if_pos this]; exact this⟩
theorem Onw.synced {S0 S : St} {k : Nat} (h : Onw S0 S k) : Onw S0 S.synced k := ⟨St.synced_wf h.wf, h.nb, h.off, h.wr, h.arm⟩
theorem Onw.cut {S0 S : St} {k : Nat} (h : Onw S0 S k) (ha : S.arm = 1) (ps : List Int) : Gone S0 (S.cut ps) k :=
  ⟨St.cut_wf h.wf ps, (St.cut_nb S ps).trans h.nb, St.cut_off S ps, by rw [St.cut_writes]; exact h.wr, by
    rcases Int.lt_or_le S0.arm 1 with h1 | h1
    · have := h.arm h1; omega
    · exact h1, St.cut_wait h.wf ps h.off⟩

/-- What the head may name. -/
structure Valid (K : Nat) (hs : List Nat) : Prop where
  len : hs.length ≤ 63
  lt : ∀ n ∈ hs, n < K
  nd : hs.Nodup
theorem Valid.nil (K : Nat) : Valid K [] := ⟨by simp, by simp, by simp⟩

/-- Nothing waits, and what lasts is f: of the blocks that the head names the copies tell it, of the others they themselves. -/
structure Holds (S : St) (K : Nat) (f : Nat → List Int) (hs : List Nat) : Prop where
  wf : S.Wf
  nb : S.nb = K + 65
  calm : ∀ n, S.wait n = []
  hd : S.syn 0 = headB hs
  val : Valid K hs
  cp : ∀ i n, hs[i]? = some n → S.syn (1 + i) = f n
  st : ∀ n, n < K → n ∉ hs → S.syn (65 + n) = f n
def Lasts (S : St) (K : Nat) (f : Nat → List Int) : Prop := ∃ hs, Holds S K f hs
/-- The same, the head naming none. -/
def Clean (S : St) (K : Nat) (f : Nat → List Int) : Prop := Holds S K f []
theorem Clean.lasts {S : St} {K : Nat} {f : Nat → List Int} (h : Clean S K f) : Lasts S K f := ⟨[], h⟩
theorem Clean.last {S : St} {K n : Nat} {f : Nat → List Int} (h : Clean S K f) (hn : n < K) : S.last (65 + n) = f n := by
  rw [St.last_calm (h.calm _)]; exact h.st n hn (by simp)
theorem Holds.ext {S : St} {K : Nat} {f g : Nat → List Int} {hs : List Nat} (h : Holds S K f hs) (e : ∀ n, n < K → f n = g n) : Holds S K g hs :=
  ⟨h.wf, h.nb, h.calm, h.hd, h.val, fun i n hn => (h.cp i n hn).trans (e n (h.val.lt n (List.mem_of_getElem? hn))), fun n hn hm => (h.st n hn hm).trans (e n hn)⟩
theorem Holds.same {S S' : St} {K : Nat} {f : Nat → List Int} {hs : List Nat} (h : Holds S K f hs) (hw : S'.Wf) (hn : S'.nb = S.nb) (hs' : S'.syn = S.syn) (hc : ∀ n, S'.wait n = []) : Holds S' K f hs :=
  ⟨hw, hn.trans h.nb, hc, by rw [hs']; exact h.hd, h.val, by rw [hs']; exact h.cp, by rw [hs']; exact h.st⟩
theorem Holds.cut {S : St} {K : Nat} {f : Nat → List Int} {hs : List Nat} (h : Holds S K f hs) (ps : List Int) : Holds (S.cut ps) K f hs := by
  refine h.same (St.cut_wf h.wf ps) (St.cut_nb S ps) (funext fun n => St.cut_syn ps (h.calm n)) (fun n => ?_)
  by_cases ho : S.off = true
  · have : S.cut ps = S := by unfold St.cut; rw [if_pos ho]
    rw [this]; exact h.calm n
  · exact St.cut_wait h.wf ps (by simpa using ho) n
theorem Holds.on {S : St} {K : Nat} {f : Nat → List Int} {hs : List Nat} (h : Holds S K f hs) : Holds S.on K f hs := h.same (St.on_wf h.wf) rfl rfl h.calm
theorem Holds.armed {S : St} {K : Nat} {f : Nat → List Int} {hs : List Nat} (h : Holds S K f hs) {n : Int} (ps : List Int) (h0 : -9223372036854775808 ≤ n) (h1 : n < 9223372036854775808) : Holds (S.armed n ps) K f hs :=
  h.same (St.armed_wf h.wf ps h0 h1) rfl rfl h.calm
theorem Lasts.cut {S : St} {K : Nat} {f : Nat → List Int} (h : Lasts S K f) (ps : List Int) : Lasts (S.cut ps) K f := by obtain ⟨hs, h⟩ := h; exact ⟨hs, h.cut ps⟩
theorem Lasts.on {S : St} {K : Nat} {f : Nat → List Int} (h : Lasts S K f) : Lasts S.on K f := by obtain ⟨hs, h⟩ := h; exact ⟨hs, h.on⟩
theorem Lasts.ext {S : St} {K : Nat} {f g : Nat → List Int} (h : Lasts S K f) (e : ∀ n, n < K → f n = g n) : Lasts S K g := by obtain ⟨hs, h⟩ := h; exact ⟨hs, h.ext e⟩

/-! ### the copies -/
structure Cop (S0 S : St) (xs : List (List Int)) (i : Nat) : Prop where
  on : Onw S0 S i
  syn : S.syn = S0.syn
  rest : ∀ n, n = 0 ∨ 64 < n → S.wait n = []
  done : ∀ j, j < i → S.last (1 + j) = xs.getD j []
theorem Cop.start {S : St} (hw : S.Wf) (h0 : S.off = false) (hc : ∀ n, S.wait n = []) (xs : List (List Int)) : Cop S S xs 0 := ⟨Onw.refl hw h0, rfl, fun n _ => hc n, fun j hj => by omega⟩
theorem Cop.push {S0 S : St} {xs : List (List Int)} {i : Nat} (h : Cop S0 S xs i) (hi : i < 63) (hn : 65 ≤ S.nb) (hb : (xs.getD i []).length = 512) : Cop S0 (S.pushed (1 + i) (xs.getD i [])) xs (i + 1) := by
  refine ⟨h.on.push (by omega) hb, h.syn, fun n hn' => ?_, fun j hj => ?_⟩
  · rw [St.pushed_wait_other _ _ (by omega)]; exact h.rest n hn'
  · by_cases e : j = i
    · subst e; exact St.pushed_last_same _ _ _
    · rw [St.pushed_last_other _ _ (by omega)]; exact h.done j (by omega)
theorem Cop.cut {S0 S : St} {K : Nat} {f : Nat → List Int} {xs : List (List Int)} {i : Nat} (h : Cop S0 S xs i) (h0 : Clean S0 K f) (ha : S.arm = 1) (ps : List Int) : Gone S0 (S.cut ps) i ∧ Lasts (S.cut ps) K f := by
  have g := h.on.cut ha ps
  refine ⟨g, [], g.wf, g.nb.trans h0.nb, g.calm, ?_, Valid.nil K, fun i n e => (by simp at e), fun n hn _ => ?_⟩
  · rw [St.cut_syn ps (h.rest 0 (.inl rfl)), h.syn]; exact h0.hd
  · rw [St.cut_syn ps (h.rest _ (.inr (by omega))), h.syn]; exact h0.st n hn (by simp)
/-- The head is written behind a Sync. -/
theorem Cop.head {S0 S : St} {K : Nat} {f g : Nat → List Int} {xs : List (List Int)} {hs : List Nat} (h : Cop S0 S xs hs.length) (h0 : Clean S0 K f) (hv : Valid K hs)
    (hx : ∀ j n, hs[j]? = some n → xs.getD j [] = g n) (hg : ∀ n, n < K → n ∉ hs → g n = f n) :
    Onw S0 ((S.synced.pushed 0 (headB hs)).synced) (hs.length + 1) ∧ Holds ((S.synced.pushed 0 (headB hs)).synced) K g hs := by
  have hnb : S.nb = K + 65 := h.on.nb.trans h0.nb
  have o := (h.on.synced.push (n := 0) (b := headB hs) (by show 0 < S.nb; omega) (headB_len hs)).synced
  have sy : ∀ n, n ≠ 0 → (S.synced.pushed 0 (headB hs)).synced.syn n = S.last n := fun n hn => by
    show (S.synced.pushed 0 (headB hs)).last n = S.last n
    rw [St.pushed_last_other _ _ hn]
    exact St.last_calm rfl
  refine ⟨o, o.wf, o.nb.trans h0.nb, fun _ => rfl, ?_, hv, fun i n e => ?_, fun n hn hm => ?_⟩
  · exact St.pushed_last_same S.synced 0 (headB hs)
  · rw [sy _ (by omega), h.done i (List.getElem?_eq_some_iff.1 e).1, hx i n e]
  · rw [sy _ (by omega), St.last_calm (h.rest _ (.inr (by omega))), h.syn, h0.st n hn (by simp), hg n hn hm]
theorem Cop.headCut {S0 S : St} {K : Nat} {f : Nat → List Int} {xs : List (List Int)} {i : Nat} (h : Cop S0 S xs i) (h0 : Clean S0 K f) (ha : S.synced.arm = 1) (ps : List Int) : Gone S0 (S.synced.cut ps) i ∧ Lasts (S.synced.cut ps) K f := by
  have g := h.on.synced.cut ha ps
  refine ⟨g, [], g.wf, g.nb.trans h0.nb, g.calm, ?_, Valid.nil K, fun i n e => (by simp at e), fun n hn _ => ?_⟩
  · rw [St.cut_syn ps rfl]
    show S.last 0 = _
    rw [St.last_calm (h.rest 0 (.inl rfl)), h.syn]; exact h0.hd
  · rw [St.cut_syn ps rfl]
    show S.last (65 + n) = _
    rw [St.last_calm (h.rest _ (.inr (by omega))), h.syn]; exact h0.st n hn (by simp)

/-! ### the way home -/
structure Hom (S0 S : St) (K : Nat) (hs : List Nat) (i : Nat) : Prop where
  on : Onw S0 S i
  syn : S.syn = S0.syn
  low : ∀ n, n < 65 → S.wait n = []
  out : ∀ n, n < K → n ∉ hs → S.wait (65 + n) = []
  done : ∀ j n, j < i → hs[j]? = some n → S.last (65 + n) = S0.syn (1 + j)
theorem Hom.start {S : St} {K : Nat} {hs : List Nat} (hw : S.Wf) (h0 : S.off = false) (hc : ∀ n, S.wait n = []) : Hom S S K hs 0 := ⟨Onw.refl hw h0, rfl, fun n _ => hc n, fun n _ _ => hc _, fun j n hj => by omega⟩
theorem Hom.read {S0 S : St} {K : Nat} {hs : List Nat} {i : Nat} (h : Hom S0 S K hs i) (hi : i < 63) : S.last (1 + i) = S0.syn (1 + i) := by
  rw [St.last_calm (h.low _ (by omega)), h.syn]
theorem Hom.push {S0 S : St} {K : Nat} {f : Nat → List Int} {hs : List Nat} {i n : Nat} (h : Hom S0 S K hs i) (h0 : Holds S0 K f hs) (hi : hs[i]? = some n) : Hom S0 (S.pushed (65 + n) (S0.syn (1 + i))) K hs (i + 1) := by
  have hnK := h0.val.lt n (List.mem_of_getElem? hi)
  have hil := (List.getElem?_eq_some_iff.1 hi).1
  have hl := h0.val.len
  have hnb : S.nb = K + 65 := h.on.nb.trans h0.nb
  refine ⟨h.on.push (by omega) (h0.wf.syn _ (by have := h0.nb; omega)), h.syn, fun k hk => ?_, fun k hk hm => ?_, fun j k hj hk => ?_⟩
  · rw [St.pushed_wait_other _ _ (by omega)]; exact h.low k hk
  · rw [St.pushed_wait_other _ _ (by rintro e; have : k = n := by omega
                                     subst this; exact hm (List.mem_of_getElem? hi))]; exact h.out k hk hm
  · by_cases e : j = i
    · subst e
      obtain rfl : n = k := by rw [hi] at hk; injection hk
      exact St.pushed_last_same _ _ _
    · have hne : k ≠ n := fun e2 => by
        subst e2
        have hjl := (List.getElem?_eq_some_iff.1 hk).1
        exact e ((List.getElem?_inj hjl h0.val.nd).1 (hk.trans hi.symm))
      rw [St.pushed_last_other _ _ (by omega)]; exact h.done j k (by omega) hk
theorem Hom.cut {S0 S : St} {K : Nat} {f : Nat → List Int} {hs : List Nat} {i : Nat} (h : Hom S0 S K hs i) (h0 : Holds S0 K f hs) (ha : S.arm = 1) (ps : List Int) : Gone S0 (S.cut ps) i ∧ Lasts (S.cut ps) K f := by
  have g := h.on.cut ha ps
  refine ⟨g, hs, g.wf, g.nb.trans h0.nb, g.calm, ?_, h0.val, fun i n e => ?_, fun n hn hm => ?_⟩
  · rw [St.cut_syn ps (h.low 0 (by omega)), h.syn]; exact h0.hd
  · have := (List.getElem?_eq_some_iff.1 e).1
    have := h0.val.len
    rw [St.cut_syn ps (h.low _ (by omega)), h.syn]; exact h0.cp i n e
  · rw [St.cut_syn ps (h.out n hn hm), h.syn]; exact h0.st n hn hm
/-- All are home. -/
theorem Hom.all {S0 S : St} {K : Nat} {f : Nat → List Int} {hs : List Nat} (h : Hom S0 S K hs hs.length) (h0 : Holds S0 K f hs) : (∀ n, n < K → S.last (65 + n) = f n) ∧ (∀ n, n < 65 → S.last n = S0.syn n) := by
  refine ⟨fun n hn => ?_, fun n hn => by rw [St.last_calm (h.low n hn), h.syn]⟩
  by_cases hm : n ∈ hs
  · obtain ⟨j, hj⟩ := List.getElem?_of_mem hm
    rw [h.done j n (List.getElem?_eq_some_iff.1 hj).1 hj]
    exact h0.cp j n hj
  · rw [St.last_calm (h.out n hn hm), h.syn]; exact h0.st n hn hm
theorem Hom.head {S0 S : St} {K : Nat} {f : Nat → List Int} {hs : List Nat} (h : Hom S0 S K hs hs.length) (h0 : Holds S0 K f hs) :
    Onw S0 ((S.synced.pushed 0 (headB [])).synced) (hs.length + 1) ∧ Clean ((S.synced.pushed 0 (headB [])).synced) K f := by
  have hnb : S.nb = K + 65 := h.on.nb.trans h0.nb
  have o := (h.on.synced.push (n := 0) (b := headB []) (by show 0 < S.nb; omega) (headB_len [])).synced
  refine ⟨o, o.wf, o.nb.trans h0.nb, fun _ => rfl, St.pushed_last_same S.synced 0 (headB []), Valid.nil K, fun i n e => (by simp at e), fun n hn _ => ?_⟩
  show (S.synced.pushed 0 (headB [])).last (65 + n) = f n
  rw [St.pushed_last_other _ _ (by omega), St.last_calm rfl]
  exact (h.all h0).1 n hn
theorem Hom.headCut {S0 S : St} {K : Nat} {f : Nat → List Int} {hs : List Nat} (h : Hom S0 S K hs hs.length) (h0 : Holds S0 K f hs) (ha : S.synced.arm = 1) (ps : List Int) : Gone S0 (S.synced.cut ps) hs.length ∧ Lasts (S.synced.cut ps) K f := by
  have g := h.on.synced.cut ha ps
  have hl := h0.val.len
  refine ⟨g, hs, g.wf, g.nb.trans h0.nb, g.calm, ?_, h0.val, fun i n e => ?_, fun n hn hm => ?_⟩
  · rw [St.cut_syn ps rfl]
    exact ((h.all h0).2 0 (by omega)).trans h0.hd
  · have := (List.getElem?_eq_some_iff.1 e).1
    rw [St.cut_syn ps rfl]
    exact ((h.all h0).2 _ (by omega)).trans (h0.cp i n e)
  · rw [St.cut_syn ps rfl]
    exact (h.all h0).1 n hn

/-! ### Format -/
/-- Nothing waits; as it was, or no head. -/
structure Zer (S0 S : St) (i : Nat) : Prop where
  on : Onw S0 S i
  syn : S.syn = S0.syn
  rest : ∀ n, n < 65 ∨ 65 + i ≤ n → S.wait n = []
  done : ∀ j, j < i → S.last (65 + j) = zeros 512
theorem Zer.start {S : St} (hw : S.Wf) (h0 : S.off = false) (hc : ∀ n, S.wait n = []) : Zer S S 0 := ⟨Onw.refl hw h0, rfl, fun n _ => hc n, fun j hj => by omega⟩
theorem Zer.push {S0 S : St} {i : Nat} (h : Zer S0 S i) (hn : 65 + i < S.nb) : Zer S0 (S.pushed (65 + i) (zeros 512)) (i + 1) := by
  refine ⟨h.on.push hn (zeros_len 512), h.syn, fun n hn' => ?_, fun j hj => ?_⟩
  · rw [St.pushed_wait_other _ _ (by omega)]; exact h.rest n (by omega)
  · by_cases e : j = i
    · subst e; exact St.pushed_last_same _ _ _
    · rw [St.pushed_last_other _ _ (by omega)]; exact h.done j (by omega)
theorem Zer.cut {S0 S : St} {i : Nat} (h : Zer S0 S i) (ha : S.arm = 1) (ps : List Int) : Gone S0 (S.cut ps) i ∧ (S.cut ps).syn 0 = S0.syn 0 :=
  ⟨h.on.cut ha ps, by rw [St.cut_syn ps (h.rest 0 (.inl (by omega))), h.syn]⟩
theorem Zer.headCut {S0 S : St} {i : Nat} (h : Zer S0 S i) (ha : S.synced.arm = 1) (ps : List Int) : Gone S0 (S.synced.cut ps) i ∧ (S.synced.cut ps).syn 0 = S0.syn 0 := by
  refine ⟨h.on.synced.cut ha ps, ?_⟩
  rw [St.cut_syn ps rfl]
  show S.last 0 = _
  rw [St.last_calm (h.rest 0 (.inl (by omega))), h.syn]
theorem Zer.head {S0 S : St} {K : Nat} (h : Zer S0 S K) (hnb : S0.nb = K + 65) :
    Onw S0 ((S.synced.pushed 0 (headB [])).synced) (K + 1) ∧ Clean ((S.synced.pushed 0 (headB [])).synced) K (fun _ => zeros 512) := by
  have hnb' : S.nb = K + 65 := h.on.nb.trans hnb
  have o := (h.on.synced.push (n := 0) (b := headB []) (by show 0 < S.nb; omega) (headB_len [])).synced
  refine ⟨o, o.wf, o.nb.trans hnb, fun _ => rfl, St.pushed_last_same S.synced 0 (headB []), Valid.nil K, fun i n e => (by simp at e), fun n hn _ => ?_⟩
  show (S.synced.pushed 0 (headB [])).last (65 + n) = zeros 512
  rw [St.pushed_last_other _ _ (by omega), St.last_calm rfl]
  exact h.done n hn
end Go.Proofs.YtnnaemlipahamaaGreat
