/-
  The document's disk as a value: its blocks, versions, power and Arm, and what each call makes of it; plain lists and numbers, nothing of the program or of the model is in it.
-/
namespace Go.Proofs.Ytioloobeakjbeaa

/-- f, but v at n. -/
def upd {α : Type} (f : Nat → α) (n : Nat) (v : α) : Nat → α := fun k => if k = n then v else f k
theorem upd_same {α : Type} (f : Nat → α) (n : Nat) (v : α) : upd f n v n = v := by simp [upd]
theorem upd_other {α : Type} (f : Nat → α) {n k : Nat} (v : α) (h : k ≠ n) : upd f n v k = f k := by simp [upd, h]

/-- n bytes 0. -/
def zeros (n : Nat) : List Int := List.replicate n 0
theorem zeros_len (n : Nat) : (zeros n).length = n := List.length_replicate

/-- A disk. -/
structure St where
  nb : Nat
  syn : Nat → List Int
  wait : Nat → List (List Int)
  writes : Nat
  off : Bool
  arm : Int
  picks : List Int

namespace St
/-- Block n's j-th version; 0: as it was synced. -/
def ver (S : St) (n j : Nat) : List Int := if j = 0 then S.syn n else (S.wait n).getD (j - 1) []
def last (S : St) (n : Nat) : List Int := S.ver n (S.wait n).length
def settle (S : St) (n j : Nat) : St := { S with syn := upd S.syn n (S.ver n j), wait := upd S.wait n [] }
def keys (S : St) : List Nat := (List.range S.nb).filter fun n => !(S.wait n).isEmpty
def pickN (p : Int) (k : Nat) : Nat := (p % ((k : Int) + 1)).toNat
def cutTo (S : St) (ps : List Int) : List Nat → St
  | [] => S
  | n :: ns => cutTo (S.settle n (pickN (ps.headD 0) (S.wait n).length)) ps.tail ns
def cut (S : St) (ps : List Int) : St := if S.off then S else { S.cutTo ps S.keys with off := true, arm := 0, picks := [] }
def okW (S : St) (n : Int) (b : List Int) : Prop := 0 ≤ n ∧ n < S.nb ∧ b.length = 512
instance (S : St) (n : Int) (b : List Int) : Decidable (S.okW n b) := by unfold okW; infer_instance
/-- A Write that would be OK is counted. -/
def struck (S : St) : St := { S with arm := if S.arm < 1 then S.arm else S.arm - 1 }
/-- One version more of block n; W: how many Writes. -/
def added (S : St) (n : Nat) (b : List Int) (W : Nat) : St := { S with wait := upd S.wait n (S.wait n ++ [b]), writes := W }
def wrote (S : St) (n : Nat) (b : List Int) : St := { S with wait := upd S.wait n (S.wait n ++ [b]), writes := S.writes + 1 }
def pushed (S : St) (n : Nat) (b : List Int) : St := { S with wait := upd S.wait n (S.wait n ++ [b]), writes := S.writes + 1, arm := if S.arm < 1 then S.arm else S.arm - 1 }
def write (S : St) (n : Int) (b : List Int) : St := if S.off then S else if ¬ S.okW n b then S else if S.arm = 1 then S.cut S.picks else S.pushed n.toNat b
def writeE (S : St) (n : Int) (b : List Int) : Int := if S.off then 6 else if ¬ S.okW n b then 1 else if S.arm = 1 then 6 else 0
def synced (S : St) : St := { S with syn := S.last, wait := fun _ => [] }
def sync (S : St) : St := if S.off then S else S.synced
def syncE (S : St) : Int := if S.off then 6 else 0
def armed (S : St) (n : Int) (ps : List Int) : St := { S with arm := n, picks := ps }
def on (S : St) : St := { S with off := false, arm := 0, picks := [] }
def readE (S : St) (n : Int) : Int := if S.off then 6 else if 0 ≤ n ∧ n < S.nb then 0 else 1
def readV (S : St) (n : Int) : List Int := if S.readE n = 0 then S.last n.toNat else []
def waiting (S : St) : Nat := ((List.range S.nb).map fun n => (S.wait n).length).sum
def flat (nb : Nat) (f : Nat → List Int) : List Int := (List.range nb).flatMap f
def image (S : St) : List Int := flat S.nb S.last
def new (nb : Nat) : St := { nb := nb, syn := fun _ => zeros 512, wait := fun _ => [], writes := 0, off := false, arm := 0, picks := [] }

/-- What a disk keeps to. -/
structure Wf (S : St) : Prop where
  pos : 0 < S.nb
  top : S.nb ≤ 16384
  syn : ∀ n, n < S.nb → (S.syn n).length = 512
  ver : ∀ n, ∀ b ∈ S.wait n, b.length = 512
  out : ∀ n, S.nb ≤ n → S.wait n = []
  few : ∀ n, (S.wait n).length ≤ S.writes
  arm0 : -9223372036854775808 ≤ S.arm
  arm1 : S.arm < 9223372036854775808

/-! ### blocks one behind the other -/
theorem flat_succ (nb : Nat) (f : Nat → List Int) : flat (nb + 1) f = flat nb f ++ f nb := by simp [flat, List.range_succ]
theorem flat_length {nb : Nat} {f : Nat → List Int} (h : ∀ n, n < nb → (f n).length = 512) : (flat nb f).length = 512 * nb := by
  induction nb with
  | zero => rfl
  | succ k ih => rw [flat_succ, List.length_append, ih (fun n hn => h n (by omega)), h k (by omega)]; omega
theorem flat_congr {nb : Nat} {f g : Nat → List Int} (h : ∀ n, n < nb → f n = g n) : flat nb f = flat nb g := by
  induction nb with
  | zero => rfl
  | succ k ih => rw [flat_succ, flat_succ, ih (fun n hn => h n (by omega)), h k (by omega)]
theorem flat_split {nb n : Nat} {f : Nat → List Int} (hn : n < nb) (h : ∀ n, n < nb → (f n).length = 512) : ∃ r, flat nb f = flat n f ++ f n ++ r ∧ ∀ v, flat nb (upd f n v) = flat n f ++ v ++ r := by
  induction nb with
  | zero => omega
  | succ k ih =>
    by_cases hk : n = k
    · subst hk
      refine ⟨[], by rw [flat_succ]; simp, fun v => ?_⟩
      rw [flat_succ, upd_same, flat_congr (g := f) (fun j hj => upd_other f v (by omega))]; simp
    · obtain ⟨r, h1, h2⟩ := ih (by omega) (fun j hj => h j (by omega))
      refine ⟨r ++ f k, by rw [flat_succ, h1]; simp, fun v => ?_⟩
      rw [flat_succ, h2, upd_other f v (by omega)]; simp
theorem flat_get {nb n : Nat} {f : Nat → List Int} (hn : n < nb) (h : ∀ n, n < nb → (f n).length = 512) : ((flat nb f).drop (512 * n)).take 512 = f n := by
  obtain ⟨r, h1, _⟩ := flat_split hn h
  have hl : (flat n f).length = 512 * n := flat_length (fun j hj => h j (by omega))
  rw [h1, List.append_assoc, ← hl, List.drop_left, ← h n hn, List.take_left]
theorem flat_set {nb n : Nat} {f : Nat → List Int} (hn : n < nb) (h : ∀ n, n < nb → (f n).length = 512) (v : List Int) : flat nb (upd f n v) = (flat nb f).take (512 * n) ++ v ++ (flat nb f).drop (512 * n + 512) := by
  obtain ⟨r, h1, h2⟩ := flat_split hn h
  have hl : (flat n f).length = 512 * n := flat_length (fun j hj => h j (by omega))
  rw [h2, h1]
  have e1 : (flat n f ++ f n ++ r).take (512 * n) = flat n f := by rw [List.append_assoc, ← hl, List.take_left]
  have e2 : (flat n f ++ f n ++ r).drop (512 * n + 512) = r := by
    have : 512 * n + 512 = (flat n f ++ f n).length := by rw [List.length_append, hl, h n hn]
    rw [this, List.drop_left]
  rw [e1, e2]

/-! ### what each call keeps -/
theorem ver_len {S : St} (h : S.Wf) {n j : Nat} (hn : n < S.nb) (hj : j ≤ (S.wait n).length) : (S.ver n j).length = 512 := by
  unfold ver
  split
  · exact h.syn n hn
  · have hj' : j - 1 < (S.wait n).length := by omega
    have : (S.wait n).getD (j - 1) [] = (S.wait n)[j - 1] := by simp [List.getD, hj']
    rw [this]
    exact h.ver n _ (List.getElem_mem hj')
theorem last_len {S : St} (h : S.Wf) {n : Nat} (hn : n < S.nb) : (S.last n).length = 512 := ver_len h hn (Nat.le_refl _)
theorem settle_wf {S : St} (h : S.Wf) {n j : Nat} (hn : n < S.nb) (hj : j ≤ (S.wait n).length) : (S.settle n j).Wf := by
  refine ⟨h.pos, h.top, fun k hk => ?_, fun k b hb => ?_, fun k hk => ?_, fun k => ?_, h.arm0, h.arm1⟩
  · show (upd S.syn n (S.ver n j) k).length = 512
    unfold upd; split
    · exact ver_len h hn hj
    · exact h.syn k hk
  · have hb' : b ∈ upd S.wait n [] k := hb
    unfold upd at hb'
    split at hb'
    · cases hb'
    · exact h.ver k b hb'
  · show upd S.wait n [] k = []
    unfold upd; split
    · rfl
    · exact h.out k hk
  · show (upd S.wait n [] k).length ≤ S.writes
    unfold upd; split
    · simp
    · exact h.few k
theorem pickN_le (p : Int) (k : Nat) : pickN p k ≤ k := by
  unfold pickN
  have := Int.emod_nonneg p (b := (k : Int) + 1) (by omega)
  have := Int.emod_lt_of_pos p (b := (k : Int) + 1) (by omega)
  omega
theorem cutTo_wf : ∀ (ks : List Nat) {S : St} (_ : S.Wf) (ps : List Int), (∀ n ∈ ks, n < S.nb) → (S.cutTo ps ks).Wf
  | [], _, h, _, _ => h
  | n :: ks, _, h, ps, hk => cutTo_wf ks (settle_wf h (hk n (by simp)) (pickN_le _ _)) ps.tail (fun k hk' => hk k (by simp [hk']))
theorem keys_lt {S : St} {n : Nat} (h : n ∈ S.keys) : n < S.nb ∧ S.wait n ≠ [] := by
  simp [keys, List.mem_filter] at h
  exact h
theorem mem_keys {S : St} {n : Nat} (h : n < S.nb) (hw : S.wait n ≠ []) : n ∈ S.keys := by simp [keys, List.mem_filter]; exact ⟨h, hw⟩
theorem cut_wf {S : St} (h : S.Wf) (ps : List Int) : (S.cut ps).Wf := by
  unfold cut
  split
  · exact h
  · have := cutTo_wf S.keys h ps (fun n hn => (keys_lt hn).1)
    exact ⟨this.pos, this.top, this.syn, this.ver, this.out, this.few, by simp, by simp⟩
theorem cutTo_same : ∀ (ks : List Nat) (S : St) (ps : List Int), (S.cutTo ps ks).nb = S.nb ∧ (S.cutTo ps ks).writes = S.writes ∧ (S.cutTo ps ks).off = S.off ∧ (S.cutTo ps ks).arm = S.arm ∧ (S.cutTo ps ks).picks = S.picks
  | [], _, _ => ⟨rfl, rfl, rfl, rfl, rfl⟩
  | n :: ks, S, ps => cutTo_same ks (S.settle n (pickN (ps.headD 0) (S.wait n).length)) ps.tail
theorem cutTo_wait : ∀ (ks : List Nat) (S : St) (ps : List Int) (n : Nat), (S.cutTo ps ks).wait n = if n ∈ ks then [] else S.wait n
  | [], _, _, n => by simp [cutTo]
  | k :: ks, S, ps, n => by
    rw [cutTo, cutTo_wait ks]
    by_cases h : n ∈ ks
    · simp [h]
    · by_cases e : n = k
      · subst e; simp [settle, upd_same, h]
      · simp [settle, upd_other _ _ e, h, e]
theorem cut_wait {S : St} (h : S.Wf) (ps : List Int) (ho : S.off = false) (n : Nat) : (S.cut ps).wait n = [] := by
  have e : (S.cut ps).wait n = (S.cutTo ps S.keys).wait n := by simp [cut, ho]
  rw [e, cutTo_wait]
  split
  · rfl
  · rename_i hk
    by_cases hn : n < S.nb
    · by_cases hw : S.wait n = []
      · exact hw
      · exact absurd (mem_keys hn hw) hk
    · exact h.out n (by omega)
theorem cut_nb (S : St) (ps : List Int) : (S.cut ps).nb = S.nb := by unfold cut; split; rfl; exact (cutTo_same _ _ _).1
theorem cut_writes (S : St) (ps : List Int) : (S.cut ps).writes = S.writes := by unfold cut; split; rfl; exact (cutTo_same _ _ _).2.1
theorem cut_off (S : St) (ps : List Int) : (S.cut ps).off = true := by
  unfold cut; split
  · rename_i h; exact h
  · rfl
theorem synced_wf {S : St} (h : S.Wf) : S.synced.Wf := by
  refine ⟨h.pos, h.top, fun n hn => last_len h hn, fun n b hb => ?_, fun n _ => rfl, fun n => Nat.zero_le _, h.arm0, h.arm1⟩
  exact absurd hb (by simp [synced])
theorem sync_wf {S : St} (h : S.Wf) : S.sync.Wf := by unfold sync; split; exact h; exact synced_wf h
theorem pushed_wf {S : St} (h : S.Wf) {n : Nat} {b : List Int} (hn : n < S.nb) (hb : b.length = 512) : (S.pushed n b).Wf := by
  refine ⟨h.pos, h.top, h.syn, fun k c hc => ?_, fun k hk => ?_, fun k => ?_, ?_, ?_⟩
  · have hc' : c ∈ upd S.wait n (S.wait n ++ [b]) k := hc
    unfold upd at hc'
    split at hc'
    · rcases List.mem_append.1 hc' with h1 | h1
      · exact h.ver n c h1
      · simp at h1; rw [h1]; exact hb
    · exact h.ver k c hc'
  · show upd S.wait n _ k = []
    have hk' : S.nb ≤ k := hk
    rw [upd_other _ _ (by omega)]; exact h.out k hk
  · show (upd S.wait n _ k).length ≤ S.writes + 1
    unfold upd; split
    · have := h.few n; simp; exact this
    · have := h.few k; omega
  · show _ ≤ (if S.arm < 1 then S.arm else S.arm - 1)
    have := h.arm0; split <;> omega
  · show (if S.arm < 1 then S.arm else S.arm - 1) < _
    have := h.arm1; split <;> omega
theorem pushed_eq (S : St) (n : Nat) (b : List Int) : S.pushed n b = S.struck.wrote n b := rfl
theorem wrote_wf {S : St} (h : S.Wf) {n : Nat} {b : List Int} (hn : n < S.nb) (hb : b.length = 512) : (S.wrote n b).Wf := by
  have := pushed_wf h hn hb
  exact ⟨this.pos, this.top, this.syn, this.ver, this.out, this.few, h.arm0, h.arm1⟩
theorem write_wf {S : St} (h : S.Wf) (n : Int) (b : List Int) : (S.write n b).Wf := by
  unfold write
  split
  · exact h
  · split
    · exact h
    · split
      · exact cut_wf h _
      · rename_i h2 _
        have h3 := Decidable.not_not.1 h2
        exact pushed_wf h (by have := h3.1; have := h3.2.1; omega) h3.2.2
theorem on_wf {S : St} (h : S.Wf) : S.on.Wf := ⟨h.pos, h.top, h.syn, h.ver, h.out, h.few, by simp [on], by simp [on]⟩
theorem armed_wf {S : St} (h : S.Wf) {n : Int} (ps : List Int) (h0 : -9223372036854775808 ≤ n) (h1 : n < 9223372036854775808) : (S.armed n ps).Wf := ⟨h.pos, h.top, h.syn, h.ver, h.out, h.few, h0, h1⟩
theorem new_wf {nb : Nat} (h0 : 0 < nb) (h1 : nb ≤ 16384) : (new nb).Wf := by
  exact ⟨h0, h1, fun n _ => zeros_len 512, fun n b hb => (List.not_mem_nil hb).elim, fun n _ => rfl, fun n => Nat.zero_le _, (by decide : (-9223372036854775808 : Int) ≤ 0), (by decide : (0 : Int) < 9223372036854775808)⟩
theorem write_nb (S : St) (n : Int) (b : List Int) : (S.write n b).nb = S.nb := by
  unfold write; split; rfl; split; rfl; split; exact cut_nb _ _; rfl
theorem write_writes (S : St) (n : Int) (b : List Int) : (S.write n b).writes = S.writes + (if S.writeE n b = 0 then 1 else 0) := by
  unfold write writeE
  split
  · simp
  · split
    · simp
    · split
      · rw [cut_writes]; simp
      · rfl
theorem write_writes_le (S : St) (n : Int) (b : List Int) : (S.write n b).writes ≤ S.writes + 1 := by rw [write_writes]; split <;> omega
theorem sync_nb (S : St) : S.sync.nb = S.nb := by unfold sync; split <;> rfl
theorem sync_writes (S : St) : S.sync.writes = S.writes := by unfold sync; split <;> rfl
end St
end Go.Proofs.Ytioloobeakjbeaa

namespace Go.Proofs.Ytioloobeakjbeaa

/-- A block that is held. -/
structure It where
  n : Nat
  b : List Int
  dirty : Bool
  pins : Nat

/-- A cache. -/
structure Ca where
  size : Nat
  L : List It
  hits : Nat
  misses : Nat
  evicted : Nat

/-- A list whose last one is changed. -/
def modLast (f : It → It) (L : List It) : List It := L.dropLast ++ (L.getLast?.map f).toList
theorem modLast_snoc (f : It → It) (L : List It) (i : It) : modLast f (L ++ [i]) = L ++ [f i] := by simp [modLast]

namespace Ca
def has (C : Ca) (n : Nat) : Bool := C.L.any fun i => i.n == n
def isDirty (C : Ca) (n : Nat) : Bool := C.L.any fun i => i.n == n && i.dirty
def goes (C : Ca) : Option It := C.L.find? fun i => i.pins == 0
/-- Block n was held: it is the one that was used last. -/
def hit (C : Ca) (n : Nat) : Ca := { C with hits := C.hits + 1, L := (C.L.filter fun i => i.n != n) ++ (C.L.filter fun i => i.n == n) }
/-- Block n has to go. -/
def out (C : Ca) (n : Nat) : Ca := { C with L := C.L.filter fun i => i.n != n, evicted := C.evicted + 1 }
/-- Block n is held from now on. -/
def add (C : Ca) (n : Nat) (b : List Int) : Ca := { C with L := C.L ++ [⟨n, b, false, 0⟩], misses := C.misses + 1 }
def last (C : Ca) (f : It → It) : Ca := { C with L := modLast f C.L }
/-- Block n is changed. -/
def mod (C : Ca) (n : Nat) (f : It → It) : Ca := { C with L := C.L.map fun i => if i.n = n then f i else i }
def drop (C : Ca) : Ca := { C with L := [] }
def new (size : Nat) : Ca := ⟨size, [], 0, 0, 0⟩
def held (C : Ca) (nb : Nat) : List Nat := (List.range nb).filter fun n => C.has n
def dirties (C : Ca) (nb : Nat) : List Nat := (List.range nb).filter fun n => C.isDirty n
def item (C : Ca) (n : Nat) : It := (C.L.find? fun i => i.n == n).getD ⟨0, [], false, 0⟩
def lastB (C : Ca) : List Int := (C.L.getLast?.map It.b).getD []

/-- What a cache keeps to, over a disk of nb blocks. -/
structure Wf (C : Ca) (nb : Nat) : Prop where
  pos : 0 < C.size
  top : C.size ≤ 1024
  few : C.L.length ≤ C.size
  uniq : (C.L.map It.n).Nodup
  lt : ∀ i ∈ C.L, i.n < nb
  len : ∀ i ∈ C.L, i.b.length = 512
  pins : ∀ i ∈ C.L, i.pins ≤ C.hits + C.misses
end Ca

/-- An error, the disk and the cache behind a call. -/
structure Res where
  e : Int
  S : St
  C : Ca

/-- A block is written to the disk, if it is dirty. -/
def cleanE (S : St) (i : It) : Int := if i.dirty then S.writeE i.n i.b else 0
def cleanS (S : St) (i : It) : St := if i.dirty then S.write i.n i.b else S
theorem cleanS_nb (S : St) (i : It) : (cleanS S i).nb = S.nb := by unfold cleanS; split; exact St.write_nb _ _ _; rfl
theorem cleanS_writes (S : St) (i : It) : (cleanS S i).writes ≤ S.writes + 1 := by unfold cleanS; split; exact St.write_writes_le _ _ _; omega

/-- A block is used: it was held, or it is held from now on, with bytes fb, if fe is 0. -/
def miss (S : St) (C : Ca) (n : Nat) (fe : Int) (fb : List Int) : Res :=
  if C.L.length = C.size then
    match C.goes with
    | none => ⟨13, S, C⟩
    | some g => if fe ≠ 0 then ⟨fe, S, C⟩ else if cleanE S g ≠ 0 then ⟨cleanE S g, cleanS S g, C⟩ else ⟨0, cleanS S g, (C.out g.n).add n fb⟩
  else if fe ≠ 0 then ⟨fe, S, C⟩ else ⟨0, S, C.add n fb⟩
def use (S : St) (C : Ca) (n fe : Int) (fb : List Int) : Res :=
  if ¬ (0 ≤ n ∧ n < S.nb) then ⟨1, S, C⟩
  else if C.has n.toNat then ⟨0, S, C.hit n.toNat⟩
  else miss S C n.toNat fe fb
def get (S : St) (C : Ca) (n : Int) : Res := use S C n (S.readE n) (S.readV n)
def getB (S : St) (C : Ca) (n : Int) : List Int := if (get S C n).e = 0 then (get S C n).C.lastB else []
def put (S : St) (C : Ca) (n : Int) (b : List Int) : Res :=
  if b.length ≠ 512 then ⟨1, S, C⟩
  else if (use S C n 0 (zeros 512)).e ≠ 0 then use S C n 0 (zeros 512)
  else ⟨0, (use S C n 0 (zeros 512)).S, (use S C n 0 (zeros 512)).C.last fun i => { i with b := b, dirty := true }⟩
def pin (S : St) (C : Ca) (n : Int) : Res :=
  if (get S C n).e ≠ 0 then get S C n else ⟨0, (get S C n).S, (get S C n).C.last fun i => { i with pins := i.pins + 1 }⟩
def unpins (C : Ca) (n : Int) : Bool := decide (0 ≤ n) && (C.L.any fun i => i.n == n.toNat && i.pins != 0)
def unpin (C : Ca) (n : Int) : Ca := if unpins C n then C.mod n.toNat fun i => { i with pins := i.pins - 1 } else C
def flushTo (S : St) (C : Ca) : List Nat → Res
  | [] => ⟨0, S, C⟩
  | n :: ns => if cleanE S (C.item n) ≠ 0 then ⟨cleanE S (C.item n), cleanS S (C.item n), C⟩ else flushTo (cleanS S (C.item n)) (C.mod n fun i => { i with dirty := false }) ns
def flush (S : St) (C : Ca) : Res :=
  if (flushTo S C (C.dirties S.nb)).e ≠ 0 then flushTo S C (C.dirties S.nb)
  else ⟨(flushTo S C (C.dirties S.nb)).S.syncE, (flushTo S C (C.dirties S.nb)).S.sync, (flushTo S C (C.dirties S.nb)).C⟩

/-! ### what each keeps -/
namespace Ca
theorem has_iff {C : Ca} {n : Nat} : C.has n = true ↔ ∃ i ∈ C.L, i.n = n := by simp [has]
theorem filter_eq {L : List It} (h : (L.map It.n).Nodup) {xs ys : List It} {i : It} (e : L = xs ++ i :: ys) : (L.filter fun j => j.n != i.n) = xs ++ ys ∧ (L.filter fun j => j.n == i.n) = [i] := by
  subst e
  simp only [List.map_append, List.map_cons, List.nodup_append, List.nodup_cons] at h
  obtain ⟨_, ⟨h2, _⟩, h3⟩ := h
  have hx : ∀ j ∈ xs, j.n ≠ i.n := fun j hj e => h3 _ (List.mem_map_of_mem hj) _ (by simp) e
  have hy : ∀ j ∈ ys, j.n ≠ i.n := fun j hj e => h2 (e ▸ List.mem_map_of_mem hj)
  constructor
  · rw [List.filter_append, List.filter_cons_of_neg (by simp), List.filter_eq_self.2 (fun j hj => by simpa using hx j hj), List.filter_eq_self.2 (fun j hj => by simpa using hy j hj)]
  · rw [List.filter_append, List.filter_cons_of_pos (by simp), List.filter_eq_nil_iff.2 (fun j hj => by simpa using hx j hj), List.filter_eq_nil_iff.2 (fun j hj => by simpa using hy j hj)]
    rfl
theorem Wf.perm {C : Ca} {nb : Nat} (h : C.Wf nb) {L' : List It} (hp : L'.Perm C.L) {h' : Nat} (hh : C.hits ≤ h') : Wf { C with L := L', hits := h' } nb :=
  ⟨h.pos, h.top, by rw [show L'.length = C.L.length from hp.length_eq]; exact h.few, (hp.map It.n).nodup_iff.2 h.uniq, fun i hi => h.lt i (hp.mem_iff.1 hi), fun i hi => h.len i (hp.mem_iff.1 hi), fun i hi => Nat.le_trans (h.pins i (hp.mem_iff.1 hi)) (by simp; omega)⟩
theorem hit_wf {C : Ca} {nb : Nat} (h : C.Wf nb) (n : Nat) : (C.hit n).Wf nb := by
  refine h.perm ?_ (Nat.le_succ _)
  have := List.filter_append_perm (fun i : It => i.n == n) C.L
  refine (List.perm_append_comm.trans ?_)
  refine List.Perm.trans ?_ this
  refine List.Perm.append_left _ ?_
  exact List.Perm.of_eq (List.filter_congr fun i _ => by simp [bne])
theorem out_wf {C : Ca} {nb : Nat} (h : C.Wf nb) (n : Nat) : (C.out n).Wf nb :=
  ⟨h.pos, h.top, Nat.le_trans (List.length_filter_le _ _) h.few, h.uniq.sublist (List.filter_sublist.map _), fun i hi => h.lt i (List.mem_filter.1 hi).1, fun i hi => h.len i (List.mem_filter.1 hi).1, fun i hi => h.pins i (List.mem_filter.1 hi).1⟩
theorem add_wf {C : Ca} {nb : Nat} {n : Nat} {b : List Int} (h0 : 0 < C.size) (h1 : C.size ≤ 1024) (hf : C.L.length < C.size) (hu : (C.L.map It.n).Nodup) (hl : ∀ i ∈ C.L, i.n < nb) (hb : ∀ i ∈ C.L, i.b.length = 512) (hp : ∀ i ∈ C.L, i.pins ≤ C.hits + C.misses)
    (hn : n < nb) (hh : C.has n = false) (hbl : b.length = 512) : (C.add n b).Wf nb := by
  refine ⟨h0, h1, by simp [add]; omega, ?_, fun i hi => ?_, fun i hi => ?_, fun i hi => ?_⟩
  · simp only [add, List.map_append, List.map_cons, List.map_nil]
    refine List.nodup_append.2 ⟨hu, by simp, fun a ha b hb e => ?_⟩
    simp at hb
    obtain ⟨i, hi, rfl⟩ := List.mem_map.1 ha
    have := has_iff.2 ⟨i, hi, e.trans hb⟩
    rw [hh] at this; cases this
  · rcases List.mem_append.1 hi with h | h
    · exact hl i h
    · simp at h; subst h; exact hn
  · rcases List.mem_append.1 hi with h | h
    · exact hb i h
    · simp at h; subst h; exact hbl
  · rcases List.mem_append.1 hi with h | h
    · exact Nat.le_trans (hp i h) (by simp [add])
    · simp at h; subst h; exact Nat.zero_le _
theorem filter_lt {L : List It} {g : It} (hg : g ∈ L) : (L.filter fun i => i.n != g.n).length < L.length := by
  induction L with
  | nil => cases hg
  | cons a L ih =>
    by_cases e : a.n = g.n
    · rw [List.filter_cons_of_neg (by simp [e])]
      exact Nat.lt_succ_of_le (List.length_filter_le _ _)
    · rw [List.filter_cons_of_pos (by simpa using e)]
      rcases List.mem_cons.1 hg with h | h
      · subst h; exact absurd rfl e
      · exact Nat.succ_lt_succ (ih h)
theorem goes_mem {C : Ca} {g : It} (h : C.goes = some g) : g ∈ C.L ∧ g.pins = 0 := by
  refine ⟨List.mem_of_find?_eq_some h, ?_⟩
  have := List.find?_some h
  simpa using this
theorem out_add_wf {C : Ca} {nb : Nat} (h : C.Wf nb) {g : It} (hg : C.goes = some g) {n : Nat} {b : List Int} (hn : n < nb) (hh : C.has n = false) (hb : b.length = 512) : ((C.out g.n).add n b).Wf nb := by
  refine add_wf (C := C.out g.n) h.pos h.top ?_ (h.uniq.sublist (List.filter_sublist.map _)) (fun i hi => h.lt i (List.mem_filter.1 hi).1) (fun i hi => h.len i (List.mem_filter.1 hi).1) (fun i hi => h.pins i (List.mem_filter.1 hi).1) hn ?_ hb
  · exact Nat.lt_of_lt_of_le (filter_lt (goes_mem hg).1) h.few
  · cases e : (C.out g.n).has n with
    | false => rfl
    | true =>
      obtain ⟨i, hi, e2⟩ := has_iff.1 e
      have := has_iff.2 ⟨i, (List.mem_filter.1 hi).1, e2⟩
      rw [hh] at this; cases this
theorem last_wf {C : Ca} {nb : Nat} (h : C.Wf nb) (f : It → It) (hn : ∀ i, (f i).n = i.n) (hb : ∀ i ∈ C.L, (f i).b.length = 512) (hp : ∀ i ∈ C.L, (f i).pins ≤ C.hits + C.misses) : (C.last f).Wf nb := by
  rcases List.eq_nil_or_concat C.L with e | ⟨ys, i, e⟩
  · have : C.last f = C := by unfold last modLast; rw [e]; cases C; simp at e; subst e; rfl
    rw [this]; exact h
  · rw [List.concat_eq_append] at e
    have e2 : (C.last f).L = ys ++ [f i] := by show modLast f C.L = _; rw [e, modLast_snoc]
    have hmem : ∀ j ∈ (C.last f).L, j ∈ C.L ∨ ∃ k ∈ C.L, j = f k := fun j hj => by
      rw [e2] at hj
      rcases List.mem_append.1 hj with h | h
      · exact .inl (by rw [e]; exact List.mem_append_left _ h)
      · simp at h; exact .inr ⟨i, by rw [e]; simp, h⟩
    refine ⟨h.pos, h.top, ?_, ?_, fun j hj => ?_, fun j hj => ?_, fun j hj => ?_⟩
    · have h5 : C.L.length ≤ C.size := h.few
      rw [e] at h5; show _ ≤ C.size; rw [e2]; simpa using h5
    · have := h.uniq; rw [e] at this; rw [e2]; simpa [hn] using this
    · rcases hmem j hj with h1 | ⟨k, h1, rfl⟩
      · exact h.lt j h1
      · rw [hn]; exact h.lt k h1
    · rcases hmem j hj with h1 | ⟨k, h1, rfl⟩
      · exact h.len j h1
      · exact hb k h1
    · rcases hmem j hj with h1 | ⟨k, h1, rfl⟩
      · exact h.pins j h1
      · exact hp k h1
theorem mod_wf {C : Ca} {nb : Nat} (h : C.Wf nb) (n : Nat) (f : It → It) (hn : ∀ i, (f i).n = i.n) (hb : ∀ i, (f i).b = i.b) (hp : ∀ i, (f i).pins ≤ i.pins) : (C.mod n f).Wf nb := by
  have hm : ∀ j ∈ (C.mod n f).L, ∃ i ∈ C.L, j.n = i.n ∧ j.b = i.b ∧ j.pins ≤ i.pins := fun j hj => by
    obtain ⟨i, hi, e⟩ := List.mem_map.1 hj
    refine ⟨i, hi, ?_⟩
    rw [← e]
    split
    · exact ⟨hn i, hb i, hp i⟩
    · exact ⟨rfl, rfl, Nat.le_refl _⟩
  refine ⟨h.pos, h.top, by simpa [mod] using h.few, ?_, fun j hj => ?_, fun j hj => ?_, fun j hj => ?_⟩
  · have : (C.mod n f).L.map It.n = C.L.map It.n := by
      simp only [mod, List.map_map]
      refine List.map_congr_left (fun i _ => ?_)
      simp only [Function.comp]
      split
      · exact hn i
      · rfl
    rw [this]; exact h.uniq
  · obtain ⟨i, hi, e, _⟩ := hm j hj; rw [e]; exact h.lt i hi
  · obtain ⟨i, hi, _, e, _⟩ := hm j hj; rw [e]; exact h.len i hi
  · obtain ⟨i, hi, _, _, e⟩ := hm j hj; exact Nat.le_trans e (h.pins i hi)
theorem drop_wf {C : Ca} {nb : Nat} (h : C.Wf nb) : C.drop.Wf nb := ⟨h.pos, h.top, Nat.zero_le _, List.nodup_nil, fun _i hi => (List.not_mem_nil hi).elim, fun _i hi => (List.not_mem_nil hi).elim, fun _i hi => (List.not_mem_nil hi).elim⟩
theorem new_wf {size nb : Nat} (h0 : 0 < size) (h1 : size ≤ 1024) : (new size).Wf nb := ⟨h0, h1, Nat.zero_le _, List.nodup_nil, fun _i hi => (List.not_mem_nil hi).elim, fun _i hi => (List.not_mem_nil hi).elim, fun _i hi => (List.not_mem_nil hi).elim⟩
/-- An item is found by its number. -/
theorem item_of {C : Ca} {nb : Nat} (h : C.Wf nb) {i : It} (hi : i ∈ C.L) : C.item i.n = i := by
  obtain ⟨xs, ys, e⟩ := List.append_of_mem hi
  have h2 := (filter_eq h.uniq e).2
  unfold item
  rw [← List.head?_filter, h2]; rfl
end Ca

theorem cleanS_wf {S : St} (h : S.Wf) (i : It) : (cleanS S i).Wf := by unfold cleanS; split; exact St.write_wf h _ _; exact h

/-- What a use leaves. -/
theorem miss_good {S : St} {C : Ca} {n : Nat} {fe : Int} {fb : List Int} (hS : S.Wf) (h : C.Wf S.nb) (hn : n < S.nb) (hh : C.has n = false) (hb : fe = 0 → fb.length = 512) :
    (miss S C n fe fb).S.Wf ∧ (miss S C n fe fb).S.nb = S.nb ∧ (miss S C n fe fb).C.Wf S.nb ∧ (miss S C n fe fb).S.writes ≤ S.writes + 1 := by
  unfold miss
  split
  · split
    · exact ⟨hS, rfl, h, Nat.le_succ _⟩
    · rename_i g hg
      split
      · exact ⟨hS, rfl, h, Nat.le_succ _⟩
      · rename_i he
        have hbl := hb (Decidable.not_not.1 he)
        split
        · exact ⟨cleanS_wf hS g, cleanS_nb S g, h, cleanS_writes S g⟩
        · exact ⟨cleanS_wf hS g, cleanS_nb S g, Ca.out_add_wf h hg hn hh hbl, cleanS_writes S g⟩
  · rename_i hf
    split
    · exact ⟨hS, rfl, h, Nat.le_succ _⟩
    · rename_i he
      exact ⟨hS, rfl, Ca.add_wf h.pos h.top (by have := h.few; omega) h.uniq h.lt h.len h.pins hn hh (hb (Decidable.not_not.1 he)), Nat.le_succ _⟩
theorem use_good {S : St} {C : Ca} {n fe : Int} {fb : List Int} (hS : S.Wf) (h : C.Wf S.nb) (hb : fe = 0 → 0 ≤ n → n < S.nb → fb.length = 512) :
    (use S C n fe fb).S.Wf ∧ (use S C n fe fb).S.nb = S.nb ∧ (use S C n fe fb).C.Wf S.nb ∧ (use S C n fe fb).S.writes ≤ S.writes + 1 := by
  unfold use
  split
  · exact ⟨hS, rfl, h, Nat.le_succ _⟩
  · rename_i hn
    have hn := Decidable.not_not.1 hn
    split
    · exact ⟨hS, rfl, Ca.hit_wf h _, Nat.le_succ _⟩
    · rename_i hh
      exact miss_good hS h (by omega) (by simpa using hh) (fun e => hb e hn.1 hn.2)
theorem miss_err {S : St} {C : Ca} {n : Nat} {fe : Int} {fb : List Int} (h : (miss S C n fe fb).e ≠ 0) : (miss S C n fe fb).C = C := by
  revert h
  unfold miss
  split
  · split
    · exact fun _ => rfl
    · split
      · exact fun _ => rfl
      · split
        · exact fun _ => rfl
        · exact fun h => absurd rfl h
  · split
    · exact fun _ => rfl
    · exact fun h => absurd rfl h
theorem use_err {S : St} {C : Ca} {n fe : Int} {fb : List Int} (h : (use S C n fe fb).e ≠ 0) : (use S C n fe fb).C = C := by
  revert h
  unfold use
  split
  · exact fun _ => rfl
  · split
    · exact fun h => absurd rfl h
    · exact fun h => miss_err h
theorem miss_ok {S : St} {C : Ca} {n : Nat} {fe : Int} {fb : List Int} (h : (miss S C n fe fb).e = 0) : (miss S C n fe fb).C.hits = C.hits ∧ (miss S C n fe fb).C.misses = C.misses + 1 ∧ ∃ ys, (miss S C n fe fb).C.L = ys ++ [⟨n, fb, false, 0⟩] := by
  revert h
  unfold miss
  split
  · split
    · intro h; exact absurd h (by simp)
    · split
      · rename_i h1; exact fun h => absurd h h1
      · split
        · rename_i h1; exact fun h => absurd h h1
        · exact fun _ => ⟨rfl, rfl, _, rfl⟩
  · split
    · rename_i h1; exact fun h => absurd h h1
    · exact fun _ => ⟨rfl, rfl, _, rfl⟩
theorem use_ok {S : St} {C : Ca} {n fe : Int} {fb : List Int} (hC : (C.L.map It.n).Nodup) (h : (use S C n fe fb).e = 0) : (use S C n fe fb).C.hits + (use S C n fe fb).C.misses = C.hits + C.misses + 1 ∧ ∃ ys i, (use S C n fe fb).C.L = ys ++ [i] ∧ i.n = n.toNat ∧ 0 ≤ n ∧ n < S.nb := by
  revert h
  unfold use
  split
  · intro h; exact absurd h (by simp)
  · rename_i hn
    have hn := Decidable.not_not.1 hn
    split
    · rename_i hh
      intro _
      obtain ⟨i, hi, e⟩ := Ca.has_iff.1 hh
      obtain ⟨xs, ys, e2⟩ := List.append_of_mem hi
      have h2 := (Ca.filter_eq hC e2).2
      rw [e] at h2
      refine ⟨by simp [Ca.hit]; omega, (C.L.filter fun i => i.n != n.toNat), i, ?_, e, hn⟩
      show _ ++ (C.L.filter fun i => i.n == n.toNat) = _
      rw [h2]
    · intro h
      obtain ⟨h1, h2, ys, h3⟩ := miss_ok h
      exact ⟨by rw [h1, h2]; omega, ys, _, h3, rfl, hn⟩
theorem readV_len {S : St} (hS : S.Wf) {n : Int} (h : S.readE n = 0) (h0 : 0 ≤ n) (h1 : n < S.nb) : (S.readV n).length = 512 := by
  unfold St.readV; rw [if_pos h]; exact St.last_len hS (by omega)

/-- What a call keeps of the disk and the cache: at most k Writes more, at most one use more. -/
structure Good (S : St) (C : Ca) (k : Nat) (r : Res) : Prop where
  wf : r.S.Wf
  nb : r.S.nb = S.nb
  cwf : r.C.Wf S.nb
  writes : r.S.writes ≤ S.writes + k
  uses : r.C.hits + r.C.misses ≤ C.hits + C.misses + 1
  ev : r.C.evicted ≤ C.evicted + 1
  size : r.C.size = C.size
theorem miss_size (S : St) (C : Ca) (n : Nat) (fe : Int) (fb : List Int) : (miss S C n fe fb).C.size = C.size := by
  unfold miss
  repeat' split
  all_goals rfl
theorem use_size (S : St) (C : Ca) (n fe : Int) (fb : List Int) : (use S C n fe fb).C.size = C.size := by
  unfold use
  split
  · rfl
  · split
    · rfl
    · exact miss_size _ _ _ _ _
theorem miss_ev (S : St) (C : Ca) (n : Nat) (fe : Int) (fb : List Int) : (miss S C n fe fb).C.evicted ≤ C.evicted + 1 := by
  unfold miss
  repeat' split
  all_goals first | exact Nat.le_succ _ | exact Nat.le_refl _
theorem use_ev (S : St) (C : Ca) (n fe : Int) (fb : List Int) : (use S C n fe fb).C.evicted ≤ C.evicted + 1 := by
  unfold use
  split
  · exact Nat.le_succ _
  · split
    · exact Nat.le_succ _
    · exact miss_ev _ _ _ _ _
theorem use_full {S : St} {C : Ca} {n fe : Int} {fb : List Int} (hS : S.Wf) (h : C.Wf S.nb) (hb : fe = 0 → 0 ≤ n → n < S.nb → fb.length = 512) : Good S C 1 (use S C n fe fb) := by
  obtain ⟨h1, h2, h3, h4⟩ := use_good hS h hb
  refine ⟨h1, h2, h3, h4, ?_, use_ev _ _ _ _ _, use_size _ _ _ _ _⟩
  by_cases he : (use S C n fe fb).e = 0
  · exact Nat.le_of_eq (use_ok h.uniq he).1
  · rw [use_err he]; omega
theorem get_full {S : St} {C : Ca} (n : Int) (hS : S.Wf) (h : C.Wf S.nb) : Good S C 1 (get S C n) := use_full hS h (fun e h0 h1 => readV_len hS e h0 h1)
theorem put_full {S : St} {C : Ca} (n : Int) (b : List Int) (hS : S.Wf) (h : C.Wf S.nb) : Good S C 1 (put S C n b) := by
  have hu : Good S C 1 (use S C n 0 (zeros 512)) := use_full hS h (fun _ _ _ => zeros_len 512)
  unfold put
  split
  · exact ⟨hS, rfl, h, Nat.le_succ _, Nat.le_succ _, Nat.le_succ _, rfl⟩
  · rename_i hb
    split
    · exact hu
    · exact ⟨hu.wf, hu.nb, Ca.last_wf hu.cwf _ (fun _ => rfl) (fun _ _ => Decidable.not_not.1 hb) hu.cwf.pins, hu.writes, hu.uses, hu.ev, hu.size⟩
theorem hit_pins {S : St} {C : Ca} {n fe : Int} {fb : List Int} (h : C.Wf S.nb) (he : (use S C n fe fb).e = 0) : ∀ i ∈ (use S C n fe fb).C.L, i.pins ≤ C.hits + C.misses := by
  revert he
  unfold use
  split
  · exact fun h => absurd h (by simp)
  · split
    · intro _ i hi
      have hi : i ∈ (C.L.filter fun i => i.n != n.toNat) ++ (C.L.filter fun i => i.n == n.toNat) := hi
      rcases List.mem_append.1 hi with h1 | h1
      · exact h.pins i (List.mem_filter.1 h1).1
      · exact h.pins i (List.mem_filter.1 h1).1
    · unfold miss
      split
      · split
        · exact fun h => absurd h (by simp)
        · split
          · rename_i h1; exact fun h => absurd h h1
          · split
            · rename_i h1; exact fun h => absurd h h1
            · intro _ i hi
              have hi : i ∈ (C.L.filter _) ++ _ := hi
              rcases List.mem_append.1 hi with h1 | h1
              · exact h.pins i (List.mem_filter.1 h1).1
              · simp at h1; subst h1; exact Nat.zero_le _
      · split
        · rename_i h1; exact fun h => absurd h h1
        · intro _ i hi
          have hi : i ∈ C.L ++ _ := hi
          rcases List.mem_append.1 hi with h1 | h1
          · exact h.pins i h1
          · simp at h1; subst h1; exact Nat.zero_le _
theorem pin_full {S : St} {C : Ca} (n : Int) (hS : S.Wf) (h : C.Wf S.nb) : Good S C 1 (pin S C n) := by
  have hu := get_full n hS h
  unfold pin
  split
  · exact hu
  · rename_i he
    have he := Decidable.not_not.1 he
    have hp := hit_pins h he
    have hc := (use_ok h.uniq he).1
    refine ⟨hu.wf, hu.nb, Ca.last_wf hu.cwf _ (fun _ => rfl) (fun i hi => hu.cwf.len i hi) (fun i hi => ?_), hu.writes, hu.uses, hu.ev, hu.size⟩
    have := hp i hi
    show i.pins + 1 ≤ (use S C n (S.readE n) (S.readV n)).C.hits + (use S C n (S.readE n) (S.readV n)).C.misses
    omega
theorem unpin_wf {C : Ca} {nb : Nat} (h : C.Wf nb) (n : Int) : (unpin C n).Wf nb := by
  unfold unpin; split
  · exact Ca.mod_wf h _ _ (fun _ => rfl) (fun _ => rfl) (fun _ => Nat.sub_le _ _)
  · exact h
theorem flushTo_full : ∀ (l : List Nat) {S : St} {C : Ca} (_ : S.Wf) (_ : C.Wf S.nb), Good S C l.length (flushTo S C l)
  | [], _, _, hS, h => ⟨hS, rfl, h, Nat.le_refl _, Nat.le_succ _, Nat.le_succ _, rfl⟩
  | n :: ns, S, C, hS, h => by
    unfold flushTo
    split
    · exact ⟨cleanS_wf hS _, cleanS_nb _ _, h, Nat.le_trans (cleanS_writes _ _) (by simp), Nat.le_succ _, Nat.le_succ _, rfl⟩
    · have h2 := Ca.mod_wf h n (fun i => { i with dirty := false }) (fun _ => rfl) (fun _ => rfl) (fun _ => Nat.le_refl _)
      have e := cleanS_nb S (C.item n)
      have ih := flushTo_full ns (cleanS_wf hS (C.item n)) (C := C.mod n fun i => { i with dirty := false }) (by rw [e]; exact h2)
      have := cleanS_writes S (C.item n)
      exact ⟨ih.wf, ih.nb.trans e, by have := ih.cwf; rwa [e] at this, Nat.le_trans ih.writes (by simp; omega), ih.uses, ih.ev, ih.size⟩
theorem flush_full {S : St} {C : Ca} (hS : S.Wf) (h : C.Wf S.nb) : Good S C (C.dirties S.nb).length (flush S C) := by
  have hu := flushTo_full (C.dirties S.nb) hS h
  unfold flush
  split
  · exact hu
  · exact ⟨St.sync_wf hu.wf, (St.sync_nb _).trans hu.nb, hu.cwf, by rw [St.sync_writes]; exact hu.writes, hu.uses, hu.ev, hu.size⟩
end Go.Proofs.Ytioloobeakjbeaa
