/-
  The document's disk as a value: its blocks, versions, power and Arm, and what each call makes of it; plain lists and numbers, nothing of the program or of the model is in it.
-/
namespace Go.Proofs.YtnnaemlipahamaaGreat

/-- f, but v at n. -/
def upd {α : Type} (f : Nat → α) (n : Nat) (v : α) : Nat → α := fun k => if k = n then v else f k
theorem upd_same {α : Type} (f : Nat → α) (n : Nat) (v : α) : upd f n v n = v := by simp [upd]
theorem upd_other {α : Type} (f : Nat → α) {n k : Nat} (v : α) (h : k ≠ n) : upd f n v k = f k := by simp [upd, h]

/-- n bytes 0. -/
def zeros (n : Nat) : List Int := List.replicate n 0
theorem zeros_len (n : Nat) : (zeros n).length = n := List.length_replicate

/-- A disk. -/
structure St where
  nb : Nat
  syn : Nat → List Int
  wait : Nat → List (List Int)
  writes : Nat
  off : Bool
  arm : Int
  picks : List Int

namespace St
/-- Block n's j-th version; 0: as it was synced. -/
def ver (S : St) (n j : Nat) : List Int := if j = 0 then S.syn n else (S.wait n).getD (j - 1) []
def last (S : St) (n : Nat) : List Int := S.ver n (S.wait n).length
def settle (S : St) (n j : Nat) : St := { S with syn := upd S.syn n (S.ver n j), wait := upd S.wait n [] }
def keys (S : St) : List Nat := (List.range S.nb).filter fun n => !(S.wait n).isEmpty
def pickN (p : Int) (k : Nat) : Nat := (p % ((k : Int) + 1)).toNat
def cutTo (S : St) (ps : List Int) : List Nat → St
  | [] => S
  | n :: ns => cutTo (S.settle n (pickN (ps.headD 0) (S.wait n).length)) ps.tail ns
def cut (S : St) (ps : List Int) : St := if S.off then S else { S.cutTo ps S.keys with off := true, arm := 0, picks := [] }
def okW (S : St) (n : Int) (b : List Int) : Prop := 0 ≤ n ∧ n < S.nb ∧ b.length = 512
instance (S : St) (n : Int) (b : List Int) : Decidable (S.okW n b) := by unfold okW; infer_instance
/-- A Write that would be OK is counted. -/
def struck (S : St) : St := { S with arm := if S.arm < 1 then S.arm else S.arm - 1 }
/-- One version more of block n; W: how many Writes. -/
def added (S : St) (n : Nat) (b : List Int) (W : Nat) : St := { S with wait := upd S.wait n (S.wait n ++ [b]), writes := W }
def wrote (S : St) (n : Nat) (b : List Int) : St := { S with wait := upd S.wait n (S.wait n ++ [b]), writes := S.writes + 1 }
def pushed (S : St) (n : Nat) (b : List Int) : St := { S with wait := upd S.wait n (S.wait n ++ [b]), writes := S.writes + 1, arm := if S.arm < 1 then S.arm else S.arm - 1 }
def write (S : St) (n : Int) (b : List Int) : St := if S.off then S else if ¬ S.okW n b then S else if S.arm = 1 then S.cut S.picks else S.pushed n.toNat b
def writeE (S : St) (n : Int) (b : List Int) : Int := if S.off then 6 else if ¬ S.okW n b then 1 else if S.arm = 1 then 6 else 0
def synced (S : St) : St := { S with syn := S.last, wait := fun _ => [] }
def sync (S : St) : St := if S.off then S else S.synced
def syncE (S : St) : Int := if S.off then 6 else 0
def armed (S : St) (n : Int) (ps : List Int) : St := { S with arm := n, picks := ps }
def on (S : St) : St := { S with off := false, arm := 0, picks := [] }
def readE (S : St) (n : Int) : Int := if S.off then 6 else if 0 ≤ n ∧ n < S.nb then 0 else 1
def readV (S : St) (n : Int) : List Int := if S.readE n = 0 then S.last n.toNat else []
def waiting (S : St) : Nat := ((List.range S.nb).map fun n => (S.wait n).length).sum
def flat (nb : Nat) (f : Nat → List Int) : List Int := (List.range nb).flatMap f
def image (S : St) : List Int := flat S.nb S.last
def new (nb : Nat) : St := { nb := nb, syn := fun _ => zeros 512, wait := fun _ => [], writes := 0, off := false, arm := 0, picks := [] }

/-- What a disk keeps to. -/
structure Wf (S : St) : Prop where
  pos : 0 < S.nb
  top : S.nb ≤ 16384
  syn : ∀ n, n < S.nb → (S.syn n).length = 512
  ver : ∀ n, ∀ b ∈ S.wait n, b.length = 512
  out : ∀ n, S.nb ≤ n → S.wait n = []
  few : ∀ n, (S.wait n).length ≤ S.writes
  arm0 : -9223372036854775808 ≤ S.arm
  arm1 : S.arm < 9223372036854775808

/-! ### blocks one behind the other -/
theorem flat_succ (nb : Nat) (f : Nat → List Int) : flat (nb + 1) f = flat nb f ++ f nb := by simp [flat, List.range_succ]
theorem flat_length {nb : Nat} {f : Nat → List Int} (h : ∀ n, n < nb → (f n).length = 512) : (flat nb f).length = 512 * nb := by
  induction nb with
  | zero => rfl
  | succ k ih => rw [flat_succ, List.length_append, ih (fun n hn => h n (by omega)), h k (by omega)]; omega
theorem flat_congr {nb : Nat} {f g : Nat → List Int} (h : ∀ n, n < nb → f n = g n) : flat nb f = flat nb g := by
  induction nb with
  | zero => rfl
  | succ k ih => rw [flat_succ, flat_succ, ih (fun n hn => h n (by omega)), h k (by omega)]
theorem flat_split {nb n : Nat} {f : Nat → List Int} (hn : n < nb) (h : ∀ n, n < nb → (f n).length = 512) : ∃ r, flat nb f = flat n f ++ f n ++ r ∧ ∀ v, flat nb (upd f n v) = flat n f ++ v ++ r := by
  induction nb with
  | zero => omega
  | succ k ih =>
    by_cases hk : n = k
    · subst hk
      refine ⟨[], by rw [flat_succ]; simp, fun v => ?_⟩
      rw [flat_succ, upd_same, flat_congr (g := f) (fun j hj => upd_other f v (by omega))]; simp
    · obtain ⟨r, h1, h2⟩ := ih (by omega) (fun j hj => h j (by omega))
      refine ⟨r ++ f k, by rw [flat_succ, h1]; simp, fun v => ?_⟩
      rw [flat_succ, h2, upd_other f v (by omega)]; simp
theorem flat_get {nb n : Nat} {f : Nat → List Int} (hn : n < nb) (h : ∀ n, n < nb → (f n).length = 512) : ((flat nb f).drop (512 * n)).take 512 = f n := by
  obtain ⟨r, h1, _⟩ := flat_split hn h
  have hl : (flat n f).length = 512 * n := flat_length (fun j hj => h j (by omega))
  rw [h1, List.append_assoc, ← hl, List.drop_left, ← h n hn, List.take_left]
theorem flat_set {nb n : Nat} {f : Nat → List Int} (hn : n < nb) (h : ∀ n, n < nb → (f n).length = 512) (v : List Int) : flat nb (upd f n v) = (flat nb f).take (512 * n) ++ v ++ (flat nb f).drop (512 * n + 512) := by
  obtain ⟨r, h1, h2⟩ := flat_split hn h
  have hl : (flat n f).length = 512 * n := flat_length (fun j hj => h j (by omega))
  rw [h2, h1]
  have e1 : (flat n f ++ f n ++ r).take (512 * n) = flat n f := by rw [List.append_assoc, ← hl, List.take_left]
  have e2 : (flat n f ++ f n ++ r).drop (512 * n + 512) = r := by
    have : 512 * n + 512 = (flat n f ++ f n).length := by rw [List.length_append, hl, h n hn]
    rw [this, List.drop_left]
  rw [e1, e2]

/-! ### what each call keeps -/
theorem ver_len {S : St} (h : S.Wf) {n j : Nat} (hn : n < S.nb) (hj : j ≤ (S.wait n).length) : (S.ver n j).length = 512 := by
  unfold ver
  split
  · exact h.syn n hn
  · have hj' : j - 1 < (S.wait n).length := by omega
    have : (S.wait n).getD (j - 1) [] = (S.wait n)[j - 1] := by simp [List.getD, hj']
    rw [this]
    exact h.ver n _ (List.getElem_mem hj')
theorem last_len {S : St} (h : S.Wf) {n : Nat} (hn : n < S.nb) : (S.last n).length = 512 := ver_len h hn (Nat.le_refl _)
theorem settle_wf {S : St} (h : S.Wf) {n j : Nat} (hn : n < S.nb) (hj : j ≤ (S.wait n).length) : (S.settle n j).Wf := by
  refine ⟨h.pos, h.top, fun k hk => ?_, fun k b hb => ?_, fun k hk => ?_, fun k => ?_, h.arm0, h.arm1⟩
  · show (upd S.syn n (S.ver n j) k).length = 512
    unfold upd; split
    · exact ver_len h hn hj
    · exact h.syn k hk
  · have hb' : b ∈ upd S.wait n [] k := hb
    unfold upd at hb'
    split at hb'
    · cases hb'
    · exact h.ver k b hb'
  · show upd S.wait n [] k = []
    unfold upd; split
    · rfl
    · exact h.out k hk
  · show (upd S.wait n [] k).length ≤ S.writes
    unfold upd; split
    · simp
    · exact h.few k
theorem pickN_le (p : Int) (k : Nat) : pickN p k ≤ k := by
  unfold pickN
  have := Int.emod_nonneg p (b := (k : Int) + 1) (by omega)
  have := Int.emod_lt_of_pos p (b := (k : Int) + 1) (by omega)
  omega
theorem cutTo_wf : ∀ (ks : List Nat) {S : St} (_ : S.Wf) (ps : List Int), (∀ n ∈ ks, n < S.nb) → (S.cutTo ps ks).Wf
  | [], _, h, _, _ => h
  | n :: ks, _, h, ps, hk => cutTo_wf ks (settle_wf h (hk n (by simp)) (pickN_le _ _)) ps.tail (fun k hk' => hk k (by simp [hk']))
theorem keys_lt {S : St} {n : Nat} (h : n ∈ S.keys) : n < S.nb ∧ S.wait n ≠ [] := by
  simp [keys, List.mem_filter] at h
  exact h
theorem mem_keys {S : St} {n : Nat} (h : n < S.nb) (hw : S.wait n ≠ []) : n ∈ S.keys := by simp [keys, List.mem_filter]; exact ⟨h, hw⟩
theorem cut_wf {S : St} (h : S.Wf) (ps : List Int) : (S.cut ps).Wf := by
  unfold cut
  split
  · exact h
  · have := cutTo_wf S.keys h ps (fun n hn => (keys_lt hn).1)
    exact ⟨this.pos, this.top, this.syn, this.ver, this.out, this.few, by simp, by simp⟩
theorem cutTo_same : ∀ (ks : List Nat) (S : St) (ps : List Int), (S.cutTo ps ks).nb = S.nb ∧ (S.cutTo ps ks).writes = S.writes ∧ (S.cutTo ps ks).off = S.off ∧ (S.cutTo ps ks).arm = S.arm ∧ (S.cutTo ps ks).picks = S.picks
  | [], _, _ => ⟨rfl, rfl, rfl, rfl, rfl⟩
  | n :: ks, S, ps => cutTo_same ks (S.settle n (pickN (ps.headD 0) (S.wait n).length)) ps.tail
theorem cutTo_wait : ∀ (ks : List Nat) (S : St) (ps : List Int) (n : Nat), (S.cutTo ps ks).wait n = if n ∈ ks then [] else S.wait n
  | [], _, _, n => by simp [cutTo]
  | k :: ks, S, ps, n => by
    rw [cutTo, cutTo_wait ks]
    by_cases h : n ∈ ks
    · simp [h]
    · by_cases e : n = k
      · subst e; simp [settle, upd_same, h]
      · simp [settle, upd_other _ _ e, h, e]
theorem cut_wait {S : St} (h : S.Wf) (ps : List Int) (ho : S.off = false) (n : Nat) : (S.cut ps).wait n = [] := by
  have e : (S.cut ps).wait n = (S.cutTo ps S.keys).wait n := by simp [cut, ho]
  rw [e, cutTo_wait]
  split
  · rfl
  · rename_i hk
    by_cases hn : n < S.nb
    · by_cases hw : S.wait n = []
      · exact hw
      · exact absurd (mem_keys hn hw) hk
    · exact h.out n (by omega)
theorem cut_nb (S : St) (ps : List Int) : (S.cut ps).nb = S.nb := by unfold cut; split; rfl; exact (cutTo_same _ _ _).1
theorem cut_writes (S : St) (ps : List Int) : (S.cut ps).writes = S.writes := by unfold cut; split; rfl; exact (cutTo_same _ _ _).2.1
theorem cut_off (S : St) (ps : List Int) : (S.cut ps).off = true := by
  unfold cut; split
  · rename_i h; exact h
  · rfl
theorem synced_wf {S : St} (h : S.Wf) : S.synced.Wf := by
  refine ⟨h.pos, h.top, fun n hn => last_len h hn, fun n b hb => ?_, fun n _ => rfl, fun n => Nat.zero_le _, h.arm0, h.arm1⟩
  exact absurd hb (by simp [synced])
theorem sync_wf {S : St} (h : S.Wf) : S.sync.Wf := by unfold sync; split; exact h; exact synced_wf h
theorem pushed_wf {S : St} (h : S.Wf) {n : Nat} {b : List Int} (hn : n < S.nb) (hb : b.length = 512) : (S.pushed n b).Wf := by
  refine ⟨h.pos, h.top, h.syn, fun k c hc => ?_, fun k hk => ?_, fun k => ?_, ?_, ?_⟩
  · have hc' : c ∈ upd S.wait n (S.wait n ++ [b]) k := hc
    unfold upd at hc'
    split at hc'
    · rcases List.mem_append.1 hc' with h1 | h1
      · exact h.ver n c h1
      · simp at h1; rw [h1]; exact hb
    · exact h.ver k c hc'
  · show upd S.wait n _ k = []
    have hk' : S.nb ≤ k := hk
    rw [upd_other _ _ (by omega)]; exact h.out k hk
  · show (upd S.wait n _ k).length ≤ S.writes + 1
    unfold upd; split
    · have := h.few n; simp; exact this
    · have := h.few k; omega
  · show _ ≤ (if S.arm < 1 then S.arm else S.arm - 1)
    have := h.arm0; split <;> omega
  · show (if S.arm < 1 then S.arm else S.arm - 1) < _
    have := h.arm1; split <;> omega
theorem pushed_eq (S : St) (n : Nat) (b : List Int) : S.pushed n b = S.struck.wrote n b := rfl
theorem wrote_wf {S : St} (h : S.Wf) {n : Nat} {b : List Int} (hn : n < S.nb) (hb : b.length = 512) : (S.wrote n b).Wf := by
  have := pushed_wf h hn hb
  exact ⟨this.pos, this.top, this.syn, this.ver, this.out, this.few, h.arm0, h.arm1⟩
theorem write_wf {S : St} (h : S.Wf) (n : Int) (b : List Int) : (S.write n b).Wf := by
  unfold write
  split
  · exact h
  · split
    · exact h
    · split
      · exact cut_wf h _
      · rename_i h2 _
        have h3 := Decidable.not_not.1 h2
        exact pushed_wf h (by have := h3.1; have := h3.2.1; omega) h3.2.2
theorem on_wf {S : St} (h : S.Wf) : S.on.Wf := ⟨h.pos, h.top, h.syn, h.ver, h.out, h.few, by simp [on], by simp [on]⟩
theorem armed_wf {S : St} (h : S.Wf) {n : Int} (ps : List Int) (h0 : -9223372036854775808 ≤ n) (h1 : n < 9223372036854775808) : (S.armed n ps).Wf := ⟨h.pos, h.top, h.syn, h.ver, h.out, h.few, h0, h1⟩
theorem new_wf {nb : Nat} (h0 : 0 < nb) (h1 : nb ≤ 16384) : (new nb).Wf := by
  exact ⟨h0, h1, fun n _ => zeros_len 512, fun n b hb => (List.not_mem_nil hb).elim, fun n _ => rfl, fun n => Nat.zero_le _, (by decide : (-9223372036854775808 : Int) ≤ 0), (by decide : (0 : Int) < 9223372036854775808)⟩
theorem write_nb (S : St) (n : Int) (b : List Int) : (S.write n b).nb = S.nb := by
  unfold write; split; rfl; split; rfl; split; exact cut_nb _ _; rfl
theorem write_writes (S : St) (n : Int) (b : List Int) : (S.write n b).writes = S.writes + (if S.writeE n b = 0 then 1 else 0) := by
  unfold write writeE
  split
  · simp
  · split
    · simp
    · split
      · rw [cut_writes]; simp
      · rfl
theorem write_writes_le (S : St) (n : Int) (b : List Int) : (S.write n b).writes ≤ S.writes + 1 := by rw [write_writes]; split <;> omega
theorem sync_nb (S : St) : S.sync.nb = S.nb := by unfold sync; split <;> rfl
theorem sync_writes (S : St) : S.sync.writes = S.writes := by unfold sync; split <;> rfl
end St
end Go.Proofs.YtnnaemlipahamaaGreat
