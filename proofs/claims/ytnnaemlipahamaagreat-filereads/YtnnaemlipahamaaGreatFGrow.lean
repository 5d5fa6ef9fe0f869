/-
  grow of package file: the blocks that begin with block i are taken, one by one.
-/
import Derived.Test.YtnnaemlipahamaaGreatFDelete
import Derived.Test.YtnnaemlipahamaaGreatFFree
namespace Go.Proofs.YtnnaemlipahamaaGreat
open Go.RowKit Go.Maps

section
variable {c : Cx} {X Y : Nat → Prop} {w w' : World} {V : Nat → List Int} {T : Nat → Bool} {Lv : Nat → Prop} {nd : Nd} {B : Nat → Nat} {nb k i : Nat} {Ty : TypeId} {x : Sp}
theorem fs_take (hs : Fs c X w V T) (ho : c.Ok) (hc : cntT T c.n < c.n) :
    Calls Tryz.prog 76 #[PV c.M c.F c.n, .pointer (some ⟨c.q, 0, none⟩)] w fun e w' => e = .returned (.tuple #[.int .i64 ((c.F + frN c.n T : Nat) : Int), .int .i64 0]) ∧ ∃ V1, Fs c X w' V1 (upd T (frN c.n T) true) ∧ (∀ m, (m < c.M ∨ c.M + mapsN c.n ≤ m) → V1 m = V m) ∧ Sm X w w' := by
  obtain ⟨h1, h2, h3⟩ := frN_spec hc
  refine (take_ok c.M c.F c.n _ hs.tv ho.pr hs.bt h1 h2 h3).mono ?_
  rintro e w' ⟨rfl, V1, t1, t2, t3, t4⟩
  refine ⟨rfl, V1, ⟨t1, t2, fun n hn => ?_⟩, t3, t4⟩
  by_cases hm : n < c.M ∨ c.M + mapsN c.n ≤ n
  · rw [t3 n hm]; exact hs.by' n hn
  · have := t2.by' (n - c.M) (by omega)
    rw [show c.M + (n - c.M) = n by omega] at this
    exact this.1
/-- A block of the pool is written. -/
theorem fs_write {w1 : World} (n : Nat) (bs : List Int) (u : Value) (g : Nat) (hs : Fs c X w1 V T) (ho : c.Ok) (hb : NewM w1 w u g bs) (hi : IsBy bs) (h1 : c.F ≤ n) (h2 : n < c.F + c.n) (hL : n ∈ c.L) :
    Calls Tryz.prog 77 #[.pointer (some ⟨c.q, 0, none⟩), .int .i64 (n : Int), u] w fun e w' => e = .returned (.int .i64 0) ∧ Fs c X w' (upd V n bs) T ∧ Sm X w1 w' := by
  have htop := ho.top
  have hoff := ho.off
  obtain ⟨cp, rfl⟩ := hb.form
  refine (tv_write n bs _ cp hs.tv hb.newB hb.len (by omega) hL).mono ?_
  rintro e w' ⟨rfl, t1, t2⟩
  refine ⟨rfl, ⟨t1, hs.bt.same (fun i hi => upd_other _ _ (by omega)), fun m hm => ?_⟩, (Sm.ofChg hb.chg hs.tv.xlt).trans t2⟩
  by_cases e : m = n
  · subst e; rw [upd_same]; exact hi
  · rw [upd_other _ _ e]; exact hs.by' m hm
/-- The blocks that a row of keys writes to may be written. -/
def Lg (c : Cx) (s : (Nat → Bool) × (Nat → Nat)) (ks : List Nat) : Prop := ∀ j, j < ks.length → c.F + frN c.n (grw c.F c.n s (ks.take j)).1 ∈ c.L ∧ (¬ fld (ks.getD j 0) → (grw c.F c.n s (ks.take j)).2 (par (ks.getD j 0)) ∈ c.L)
/-- A file on its way: j keys of ks were added. -/
structure Gr (c : Cx) (Lv : Nat → Prop) (ks : List Nat) (V : Nat → List Int) (nd : Nd) (B : Nat → Nat) (T : Nat → Bool) (j : Nat) (V' : Nat → List Int) (nd' : Nd) : Prop where
  fl : Fl c (fun k => Lv k ∨ k ∈ ks.take j) V' nd' (grw c.F c.n (T, B) (ks.take j)).2 (grw c.F c.n (T, B) (ks.take j)).1
  same : nd'.kd = nd.kd ∧ nd'.lk = nd.lk ∧ nd'.sz = nd.sz
  fr : ∀ m, c.F ≤ m → m < c.F + c.n → T (m - c.F) = true → (∀ l, l % 2 = 1 → Lv l → B l ≠ m) → V' m = V m
  zr : ∀ k, k ∈ ks.take j → k % 2 = 0 → V' ((grw c.F c.n (T, B) (ks.take j)).2 k) = zeros 512
  nw : ∀ k, k ∈ ks.take j → T ((grw c.F c.n (T, B) (ks.take j)).2 k - c.F) = false
theorem Gr.start {ks : List Nat} (h : Fl c Lv V nd B T) : Gr c Lv ks V nd B T 0 V nd := by
  refine ⟨⟨h.sh.iff (fun k => by simp), fun k hk => h.own k (by simpa using hk), fun k hk => h.idx k (by simpa using hk)⟩, ⟨rfl, rfl, rfl⟩, fun _ _ _ _ _ => rfl, fun k hk => by simp at hk, fun k hk => by simp at hk⟩
theorem Nd.set_same (n : Nd) {k : Nat} (hk : fld k) (x : Int) : (n.set (fo k) x).kd = n.kd ∧ (n.set (fo k) x).lk = n.lk ∧ (n.set (fo k) x).sz = n.sz := by
  rcases fld_cases hk with rfl | rfl | rfl | rfl | rfl | rfl | rfl | rfl | rfl | rfl <;> exact ⟨rfl, rfl, rfl⟩
theorem setN_same (n : Nd) (k : Nat) (x : Int) : (setN n k x).kd = n.kd ∧ (setN n k x).lk = n.lk ∧ (setN n k x).sz = n.sz := by
  unfold setN
  split
  · rename_i h; exact n.set_same h x
  · exact ⟨rfl, rfl, rfl⟩
theorem Gr.step {ks : List Nat} {V' V1 : Nat → List Int} {nd' : Nd} {j t : Nat} {s : (Nat → Bool) × (Nat → Nat)} (h : Gr c Lv ks V nd B T j V' nd') (ho : c.Ok) (hk : KsOk Lv ks) (hj : j < ks.length) (hlen : ∀ n, n < c.K → (V' n).length = 512)
    (hs : grw c.F c.n (T, B) (ks.take j) = s) (ht : frN c.n s.1 = t) (h1 : t < c.n) (h2 : s.1 t = false) (hv : ∀ m, (m < c.M ∨ c.M + mapsN c.n ≤ m) → V1 m = V' m) :
    Gr c Lv ks V nd B T (j + 1) (setV (upd V1 (c.F + t) (zeros 512)) s.2 (ks.getD j 0) ((c.F + t : Nat) : Int)) (setN nd' (ks.getD j 0) ((c.F + t : Nat) : Int)) := by
  have hgs : grw c.F c.n (T, B) (ks.take (j + 1)) = (upd s.1 t true, upd s.2 (ks.getD j 0) (c.F + t)) := by
    rw [grw_step hj, hs]; unfold stp; rw [ht]
  have hfl := h.fl
  rw [hs] at hfl
  have hm := mem_getD hj
  have hnl : ¬ (Lv (ks.getD j 0) ∨ ks.getD j 0 ∈ ks.take j) := fun e => e.elim (hk.new _ hm) (getD_not_take hk.nodup hj)
  have hpar : ¬ fld (ks.getD j 0) → (Lv (par (ks.getD j 0)) ∨ par (ks.getD j 0) ∈ ks.take j) := hk.par j hj
  have hst := hfl.step (V1 := V1) ho hlen h1 h2 hnl (fun hf => ⟨hpar hf, hk.idx _ hm hf⟩) hv
  have hfr := step_frame (V1 := V1) hfl ho h2 hpar hv ((c.F + t : Nat) : Int)
  have hsn := setN_same nd' (ks.getD j 0) ((c.F + t : Nat) : Int)
  have hmono : ∀ m, T m = true → s.1 m = true := fun m hm' => by rw [← hs]; exact grw_mono _ _ _ _ _ hm'
  have hold : ∀ l, Lv l → s.2 l = B l := fun l hl => by
    rw [← hs]
    exact grw_other _ _ _ _ _ (fun e => hk.new l (List.mem_of_mem_take e) hl)
  refine ⟨?_, ⟨hsn.1.trans h.same.1, hsn.2.1.trans h.same.2.1, hsn.2.2.trans h.same.2.2⟩, fun m m1 m2 m3 m4 => ?_, fun k hk' he => ?_, fun k hk' => ?_⟩
  · rw [hgs]
    have e : ∀ k, ((Lv k ∨ k ∈ ks.take j) ∨ k = ks.getD j 0) ↔ (Lv k ∨ k ∈ ks.take (j + 1)) := fun k => by
      rw [take_step hj, List.mem_append, List.mem_singleton, or_assoc]
    exact ⟨hst.sh.iff e, fun k hk' => hst.own k ((e k).2 hk'), fun k hk' => hst.idx k ((e k).2 hk')⟩
  · rw [hfr.1 m m1 m2 (hmono _ m3) ?_]
    · exact h.fr m m1 m2 m3 m4
    · intro l hl1 hl2 e
      rcases hl2 with hl2 | hl2
      · rw [hold l hl2] at e; exact m4 l hl1 hl2 e
      · have := h.nw l hl2
        rw [hs, e, m3] at this
        cases this
  · rw [hgs]
    show setV _ _ _ _ (upd s.2 (ks.getD j 0) (c.F + t) k) = _
    by_cases e : k = ks.getD j 0
    · rw [e, upd_same]; exact hfr.2
    · rw [upd_other _ _ e]
      have hkt : k ∈ ks.take j := by
        rw [take_step hj, List.mem_append, List.mem_singleton] at hk'
        exact hk'.resolve_right e
      have ho' := hfl.own k (.inr hkt)
      rw [hfr.1 _ ho'.1 ho'.2.1 ho'.2.2 ?_]
      · have := h.zr k hkt he
        rw [hs] at this
        exact this
      · intro l hl1 hl2 e2
        have := hfl.sh.inj l k hl2 (.inr hkt) e2
        omega
  · rw [hgs]
    show T (upd s.2 (ks.getD j 0) (c.F + t) k - c.F) = false
    by_cases e : k = ks.getD j 0
    · rw [e, upd_same, Nat.add_sub_cancel_left]
      cases hTt : T t with
      | false => rfl
      | true => rw [hmono t hTt] at h2; cases h2
    · rw [upd_other _ _ e]
      have hkt : k ∈ ks.take j := by
        rw [take_step hj, List.mem_append, List.mem_singleton] at hk'
        exact hk'.resolve_right e
      have := h.nw k hkt
      rw [hs] at this
      exact this
/-- What grow finds between two keys. -/
structure GrW (c : Cx) (X : Nat → Prop) (ks : List Nat) (V : Nat → List Int) (nd : Nd) (B : Nat → Nat) (T : Nat → Bool) (Lv : Nat → Prop) (nb pb b lo : Nat) (l : Nat → Sp) (cur : Array Value) (w wr : World) (j : Nat) : Prop where
  st : ∃ V' nd', Fs c X wr V' (grw c.F c.n (T, B) (ks.take j)).1 ∧ Gr c Lv ks V nd B T j V' nd' ∧ NdB 29 wr nb nd'
  row : SpR wr b cur
  sp : ∀ m, m < ks.length → SpEl cur m (l m) ∧ SpFor wr (Bet lo b) nb c.q (ks.getD m 0) (l m)
  pool : PAt wr pb c.M c.F c.n
  sm : ∀ k, X k → k ≠ nb → wr.heap[k]? = w.heap[k]?
end
section
variable {c : Cx} {X : Nat → Prop} {w wr : World} {V : Nat → List Int} {T : Nat → Bool} {nd : Nd} {B : Nat → Nat} {nb pb b lo i j : Nat} {l : Nat → Sp} {cur : Array Value}
/-- One key: Take, Write, set. -/
theorem grow_key {s : (Nat → Bool) × (Nat → Nat)} {t k : Nat} (h : GrW c X (begunK i) V nd B T (live i) nb pb b lo l cur w wr j) (ho : c.Ok) (hj : j < (begunK i).length) (hk : (begunK i).getD j 0 = k) (hs : grw c.F c.n (T, B) ((begunK i).take j) = s) (ht : frN c.n s.1 = t) (hc : cntT s.1 c.n < c.n)
    (hi : i < 16520) (hX : ∀ m, lo ≤ m → m ≤ b → X m) (hn : X nb) (hr : c.w0.heap.size ≤ nb) (hpb : X pb) (hne : nb ≠ b ∧ nb ≠ pb ∧ nb < lo ∧ lo ≤ b) (hL : Lg c (T, B) (begunK i)) :
    ∀ o, Calls Tryz.prog 76 #[PV c.M c.F c.n, .pointer (some ⟨c.q, 0, none⟩)] (wr.alloc o) fun e w1 => e = .returned (.tuple #[.int .i64 ((c.F + t : Nat) : Int), .int .i64 0]) ∧ w1.heap[wr.heap.size]? = some o ∧
      Hid (∀ u g w2, NewM w1 w2 u g (zeros 512) → Calls Tryz.prog 77 #[.pointer (some ⟨c.q, 0, none⟩), .int .i64 ((c.F + t : Nat) : Int), u] w2 fun e w3 => e = .returned (.int .i64 0) ∧ w3.heap[wr.heap.size]? = some o ∧
        ((fld k ∧ ∃ sb, (l j).st = sF sb ∧ Hid (Calls Tryz.prog 129 #[.int .i64 ((c.F + t : Nat) : Int), .pointer (some ⟨sb, 0, none⟩)] w3 fun e w4 => e = .returned (.int .i64 0) ∧ Hid (GrW c X (begunK i) V nd B T (live i) nb pb b lo l cur w w4 (j + 1)))) ∨
         (¬ fld k ∧ ∃ sb, (l j).st = sE (sb + 4) (sb + 2) sb ∧ Hid (Calls Tryz.prog 133 #[.int .i64 ((c.F + t : Nat) : Int), .pointer (some ⟨sb + 4, 0, none⟩), .pointer (some ⟨sb + 2, 0, none⟩), .pointer (some ⟨sb, 0, none⟩)] w3 fun e w4 => e = .returned (.int .i64 0) ∧ Hid (GrW c X (begunK i) V nd B T (live i) nb pb b lo l cur w w4 (j + 1)))))) := by
  intro o
  obtain ⟨⟨V', nd', hfs, hgr, hnd⟩, hrow, hsp, hpool, hsm⟩ := h
  rw [hs] at hfs
  obtain ⟨t1, t2, t3⟩ := frN_spec hc
  rw [ht] at t1 t2 t3
  have hF := ho.pr.f
  have hnt := ho.pr.top
  have hc0 := Chg.alloc (fun _ => False) wr o
  have hfs0 := hfs.add hc0
  obtain ⟨Z, hZ⟩ : ∃ Z, addX X wr.heap.size (wr.alloc o).heap.size = Z := ⟨_, rfl⟩
  rw [hZ] at hfs0
  have hzX : ∀ m, X m → Z m := fun m hm => hZ ▸ .inl hm
  have hz : Z wr.heap.size := hZ ▸ .inr ⟨Nat.le_refl _, by simp⟩
  have hlen : ∀ n, n < c.K → (V' n).length = 512 := fun n hn => hfs.tv.len hn
  have hLj := hL j hj
  rw [hs, ht, hk] at hLj
  refine (fs_take hfs0 ho hc).mono ?_
  rintro e w1 ⟨rfl, V1, hf1, hv1, sm1⟩
  rw [ht] at hf1 ⊢
  refine ⟨rfl, (sm1 _ hz).trans (heap_alloc_new wr o), ?_⟩
  intro u g w2 hu
  refine (fs_write (c.F + t) (zeros 512) u g hf1 ho hu (isBy_zeros _) (by omega) (by omega) hLj.1).mono ?_
  rintro e w3 ⟨rfl, hf3, sm3⟩
  have sm13 : Sm Z (wr.alloc o) w3 := sm1.trans sm3
  refine ⟨rfl, (sm13 _ hz).trans (heap_alloc_new wr o), ?_⟩
  have hnd3 : NdB 29 w3 nb nd' := (sm13 nb (hzX _ hn)).trans (hnd.kept hc0 (fun h => h))
  have hsp3 : SpFor w3 (Bet lo b) nb c.q k (l j) := by
    have := (hsp j hj).2
    rw [hk] at this
    exact (this.kept hc0 (fun _ _ h => h)).sm sm13 (fun m hm => hzX m (hX m hm.1 (by have := hm.2; omega)))
  have hst := hgr.step (V1 := V1) ho (begunK_ok hi) hj hlen hs ht t1 t2 hv1
  rw [hk] at hst
  have fin : ∀ w4, Fs c Z w4 (setV (upd V1 (c.F + t) (zeros 512)) s.2 k ((c.F + t : Nat) : Int)) (upd s.1 t true) → NdB 29 w4 nb (setN nd' k ((c.F + t : Nat) : Int)) → (∀ m, Z m → m ≠ nb → w4.heap[m]? = w3.heap[m]?) → GrW c X (begunK i) V nd B T (live i) nb pb b lo l cur w w4 (j + 1) := by
    intro w4 f4 n4 s4
    have hgs : (grw c.F c.n (T, B) ((begunK i).take (j + 1))).1 = upd s.1 t true := by rw [grw_step hj, hs]; unfold stp; rw [ht]
    have hall : ∀ m, X m → m ≠ nb → w4.heap[m]? = wr.heap[m]? := fun m hm hne => (s4 m (hzX _ hm) hne).trans ((sm13 m (hzX _ hm)).trans (hc0.block m (hfs.tv.xlt m hm) (fun h => h)))
    have hS : Sm (fun m => X m ∧ m ≠ nb) wr w4 := fun m hm => hall m hm.1 hm.2
    refine ⟨⟨_, _, by rw [hgs]; exact f4.less hzX, hst, n4⟩, (hall b (hX b hne.2.2.2 (Nat.le_refl _)) (Ne.symm hne.1)).trans hrow, fun m hm => ⟨(hsp m hm).1, (hsp m hm).2.sm hS (fun m hm => ⟨hX m hm.1 (by have := hm.2; omega), by have := hm.1; omega⟩)⟩, hpool.sm hS ⟨hpb, Ne.symm hne.2.1⟩, fun m hm hne => (hall m hm hne).trans (hsm m hm hne)⟩
  by_cases hf : fld k
  · obtain ⟨sb, e1, hcall⟩ := sp_setF (B := s.2) hsp3 hf hnd3 hf3 (hzX _ hn) hr ((c.F + t : Nat) : Int)
    refine .inl ⟨hf, sb, e1, hcall.mono ?_⟩
    rintro e w4 ⟨rfl, f4, n4, c4⟩
    exact ⟨rfl, fin w4 f4 n4 (fun m hm hne => c4.block m (hf3.tv.xlt m hm) hne)⟩
  · have hfl := hgr.fl
    rw [hs] at hfl
    have hoff := ho.off
    have hfl2 : Fl c (fun m => live i m ∨ m ∈ (begunK i).take j) (upd V1 (c.F + t) (zeros 512)) nd' s.2 (upd s.1 t true) := by
      refine ⟨hfl.sh.congrV (fun m hm => ?_), fun m hm => ?_, hfl.idx⟩
      · have := hfl.own m hm
        rw [upd_other _ _ (hfl.fresh t2 m hm), hv1 _ (by omega)]
      · have := hfl.own m hm
        refine ⟨this.1, this.2.1, ?_⟩
        by_cases e : s.2 m - c.F = t
        · rw [e, upd_same]
        · rw [upd_other _ _ e]; exact this.2.2
    have hkj := (begunK_ok hi).par j hj
    have hki := (begunK_ok hi).idx _ (mem_getD hj)
    rw [hk] at hkj hki
    obtain ⟨sb, e1, hcall⟩ := sp_setE hsp3 hf hnd3 hf3 hfl2 ho (hkj hf) (hki hf) (hLj.2 hf) (hzX _ hn) (fun m hm => hzX _ (hX m hm.1 (by have := hm.2; omega))) ((c.F + t : Nat) : Int) (by omega) (by omega)
    refine .inr ⟨hf, sb, e1, hcall.mono ?_⟩
    rintro e w4 ⟨rfl, f4, n4, c4⟩
    exact ⟨rfl, fin w4 f4 n4 (fun m hm _ => c4 m hm)⟩
end
end Go.Proofs.YtnnaemlipahamaaGreat

namespace Go.Proofs.YtnnaemlipahamaaGreat
open Go.RowKit Go.Maps

section
variable {c : Cx} {X : Nat → Prop} {w : World} {V : Nat → List Int} {T : Nat → Bool} {nd : Nd} {B : Nat → Nat} {nb i : Nat}
set_option maxHeartbeats 3200000 in
set_option maxRecDepth 100000 in
theorem grow_any (hs : Fs c X w V T) (hf : Fl c (live i) V nd B T) (ho : c.Ok) (hn : NdB 29 w nb nd) (hX : X nb) (hr : c.w0.heap.size ≤ nb) (hi : i < 16520) (hcnt : cntT T c.n + (begunK i).length ≤ c.n) (hL : Lg c (T, B) (begunK i)) :
    Calls Tryz.prog 44 #[.pointer (some ⟨c.q, 0, none⟩), PV c.M c.F c.n, .pointer (some ⟨nb, 0, none⟩), .int .i64 (i : Int)] w fun e w' => e = .returned (.int .i64 0) ∧
      ∃ V' nd', Fs c X w' V' (grw c.F c.n (T, B) (begunK i)).1 ∧ Gr c (live i) (begunK i) V nd B T (begunK i).length V' nd' ∧ NdB 29 w' nb nd' ∧ ∀ k, X k → k ≠ nb → w'.heap[k]? = w.heap[k]? := by
  obtain ⟨o5, hmk, hnew⟩ := make512b
  have hbx := PAt.box w c.M c.F c.n
  have hlt := hs.tv.xlt nb hX
  have BG : Hid (Calls Tryz.prog 51 #[tI c.q, .pointer (some ⟨nb, 0, none⟩), .int .i64 (i : Int)] (w.alloc (PO c.M c.F c.n)) fun e w2 => ∃ (b m cp : Nat), e = .returned (.slice (some ⟨b, 0, none⟩) m cp) ∧ m ≤ cp ∧ m ≤ 3 ∧
      Hid (∃ l cur, (begunK i).length = m ∧ w.heap.size + 1 ≤ b ∧ b < w2.heap.size ∧ GrW c (addX X w.heap.size w2.heap.size) (begunK i) V nd B T (live i) nb w.heap.size b (w.heap.size + 1) l cur w2 w2 0 ∧ Chg (fun _ => False) w w2)) := by
    refine (begun_any c.q nb i _ hi).mono ?_
    rintro e w2 ⟨b, cp, l, cur, rfl, h1, h2, h3, h4, h5⟩
    have hc2 := (Chg.alloc (fun _ => False) w (PO c.M c.F c.n)).trans h4 (fun _ _ h => h)
    have hsz : (w.alloc (PO c.M c.F c.n)).heap.size = w.heap.size + 1 := by simp
    rw [hsz] at h2 h5
    have hb3 : (begunK i).length ≤ 3 := by
      have := begunK_way i
      have := wayK_len i
      omega
    refine ⟨b, _, cp, rfl, h1, hb3, l, cur, rfl, h2, lt_of_block h3, ⟨⟨V, nd, ?_, Gr.start hf, hn.kept hc2 (fun h => h)⟩, h3, h5, hbx.kept h4 (fun h => h), fun _ _ _ => rfl⟩, hc2⟩
    rw [List.take_zero, grw_nil]
    exact hs.add hc2
  have HCN : Hid (cntT T c.n + (begunK i).length ≤ c.n) := hcnt
  have HLL : Hid (Lg c (T, B) (begunK i)) := hL
  have HX : Hid (X nb ∧ nb < w.heap.size ∧ ∀ k, X k → k < w.heap.size) := ⟨hX, hlt, hs.tv.xlt⟩
  clear hs hf hn hX hcnt hL hlt
  unfold PO at BG
  unfold PV
  go_enter Tryz.func44, Tryz.ntmps44
  go_wp2_with fail
  refine BG.out.mono ?_
  clear BG
  rintro e w2 ⟨b, m, cp, rfl, hmc, hm3, HB⟩
  obtain ⟨l, cur, hbl, hlb, hbw, hg0, hch⟩ := HB.out
  have HBL : Hid ((begunK i).length = m) := hbl
  have HG0 : Hid (GrW c (addX X w.heap.size w2.heap.size) (begunK i) V nd B T (live i) nb w.heap.size b (w.heap.size + 1) l cur w2 w2 0) := hg0
  have HCH : Hid (Chg (fun _ => False) w w2) := hch
  have HBW : Hid (w.heap.size + 1 ≤ b ∧ b < w2.heap.size) := ⟨hlb, hbw⟩
  clear HB hbl hg0 hch hlb hbw hbx
  go_wp2_with fail
  go_loopw [21] (fun s21 wr => ∃ j : Nat, j ≤ m ∧ s21 = .int .i64 (j : Int) ∧ Hid (GrW c (addX X w.heap.size w2.heap.size) (begunK i) V nd B T (live i) nb w.heap.size b (w.heap.size + 1) l cur w2 wr j)) (fun s21 _ => m - (intOf s21).toNat)
  case atStart => exact ⟨0, by omega, rfl, HG0⟩
  case round =>
    clear HG0
    obtain ⟨j, hj, rfl, HG⟩ := hrel
    by_cases hlt : j < m
    · have k1 : (j : Int) < (m : Int) := by omega
      have hjl : j < (begunK i).length := by have := HBL.out; omega
      obtain ⟨c0, c1, c2, c3⟩ := HG.out.row.cell (HG.out.sp j hjl).1
      obtain ⟨s, hs⟩ : ∃ s, grw c.F c.n (T, B) ((begunK i).take j) = s := ⟨_, rfl⟩
      obtain ⟨k, hk⟩ : ∃ k, (begunK i).getD j 0 = k := ⟨_, rfl⟩
      have hcs : cntT s.1 c.n < c.n := by
        have hl : ((begunK i).take j).length = j := by rw [List.length_take]; omega
        have := grw_cnt c.F c.n ((begunK i).take j) (T, B) (by have := HCN.out; simp only; omega)
        rw [hs, hl] at this
        have := HCN.out
        simp only at *
        omega
      obtain ⟨t, ht⟩ : ∃ t, frN c.n s.1 = t := ⟨_, rfl⟩
      have GK : Hid _ := grow_key HG.out ho hjl hk hs ht hcs hi (fun q h1 h2 => .inr ⟨by omega, by have := HBW.out; omega⟩) (.inl HX.out.1) hr (.inr ⟨Nat.le_refl _, by have := HBW.out; omega⟩) ⟨by have := HX.out; have := HBW.out; omega, by have := HX.out; omega, by have := HX.out; omega, HBW.out.1⟩ HLL.out
      have hst := (HG.out.sp j hjl).2.cl.one.2
      have hgo := (HG.out.sp j hjl).2.cl.one.1
      have hg1 : ∀ (a : Addr) (m : Mode) (w : World), (store a (l j).g m).run Tryz.prog w = stored Tryz.prog w a (l j).g m := fun a m w => run_store Tryz.prog w a _ m hgo
      have hg2 : ∀ (a : Addr) (m : Mode) (w : World), (store a (l j).st m).run Tryz.prog w = stored Tryz.prog w a (l j).st m := fun a m w => run_store Tryz.prog w a _ m hst
      have hp := HG.out.pool
      have p0 := fun o => (hp.kept (Chg.alloc (fun _ => False) wr o) (fun h => h)).c0
      have p1 := fun o => (hp.kept (Chg.alloc (fun _ => False) wr o) (fun h => h)).c1
      have p2 := fun o => (hp.kept (Chg.alloc (fun _ => False) wr o) (fun h => h)).c2
      obtain ⟨xn, hxn⟩ : ∃ xn, c.F + t = xn := ⟨_, rfl⟩
      rw [hxn] at GK
      unfold PV at GK
      generalize hfi : (l j).fi = fi at *
      generalize hwi : (l j).wi = wi at *
      generalize hgg : (l j).g = g at *
      generalize hss : (l j).st = st at *
      clear hs hk hcs ht hst hgo hp hxn hfi hwi hgg HG hjl
      go_wp2_with fail
      refine (show Calls _ _ _ _ _ from GK.out (spO fi wi g st)).mono ?_
      clear GK
      rintro e w4 ⟨rfl, hb4, WR⟩
      have q3 : w4.cell? ⟨wr.heap.size, 3, none⟩ = some st := by rw [cell_of_row _ _ _ _ _ _ hb4]; rfl
      have hnw := hnew w4
      have WR2 : Hid _ := WR.out _ _ _ hnw
      clear WR hnw hb4
      go_wp2_with fail
      refine (show Calls _ _ _ _ _ from WR2.out).mono ?_
      clear WR2
      rintro e w5 ⟨rfl, hb5, hcase⟩
      have q5 : w5.cell? ⟨wr.heap.size, 3, none⟩ = some st := by rw [cell_of_row _ _ _ _ _ _ hb5]; rfl
      clear hb5 q3
      rcases hcase with ⟨_, sb, rfl, SC⟩ | ⟨_, sb, rfl, SC⟩
      · go_wp2_with fail
        refine SC.out.mono ?_
        clear SC
        rintro e w6 ⟨rfl, HN⟩
        go_wp2
        go_roundw
        case rel => exact ⟨j + 1, by omega, by go_num, HN⟩
        case measure => simp [intOf]; omega
      · go_wp2_with fail
        refine SC.out.mono ?_
        clear SC
        rintro e w6 ⟨rfl, HN⟩
        go_wp2
        go_roundw
        case rel => exact ⟨j + 1, by omega, by go_num, HN⟩
        case measure => simp [intOf]; omega
    · have k1 : ¬ ((j : Int) < (m : Int)) := by omega
      have e : j = m := by omega
      go_wp2
      go_ret
      subst e
      obtain ⟨⟨V', nd', h1, h2, h3⟩, _, _, _, h7⟩ := HG.out
      have hbl := HBL.out
      rw [← hbl] at h1 h2
      rw [List.take_length] at h1
      refine ⟨rfl, V', h1.less (fun k hk => .inl hk), nd', h2, h3, fun k hk hne => ?_⟩
      exact (h7 k (.inl hk) hne).trans (HCH.out.block k (HX.out.2.2 k hk) (fun h => h))
end
end Go.Proofs.YtnnaemlipahamaaGreat

namespace Go.Proofs.YtnnaemlipahamaaGreat
open Go.RowKit Go.Maps

section
variable {c : Cx} {w : World} {T : Nat → Bool} {Lv : Nat → Prop} {nd : Nd} {B : Nat → Nat}
set_option maxHeartbeats 1600000 in
set_option maxRecDepth 100000 in
theorem pieces_any (g off count : Nat) (p1 p2 : Value) (I : Nat → World → Prop) (ho : c.Ok) (hoff : off + count ≤ 8458240)
    (hcf : ∀ (x y z : Int) (w : World), (callFunc g #[.int .i64 x, .int .i64 y, .int .i64 z, p1, p2]).run Tryz.prog w = .ok (.enter g #[.int .i64 x, .int .i64 y, .int .i64 z, p1, p2]) w)
    (hLv : ∀ i, i * 512 < off + count → Lv (2 * i)) (hbB : ∀ k, Lv k → B k < 4294967296)
    (h0 : I 0 (w.alloc (nd.o 29)))
    (hI : ∀ d wa, I d wa → NdAt wa w.heap.size nd ∧ ∃ X V', Fs c X wa V' T ∧ Fl c Lv V' nd B T)
    (hm : ∀ d wa wb, I d wa → Chg (fun _ => False) wa wb → I d wb)
    (hstep : ∀ d wa x fr tq, d < count → x = B (2 * ((off + d) / 512)) → fr = (off + d) % 512 → tq = min (fr + (count - d)) 512 → I d wa →
      Calls Tryz.prog g #[.int .i64 (x : Int), .int .i64 (fr : Int), .int .i64 (tq : Int), p1, p2] wa fun e w' => e = .returned (.int .i64 0) ∧ I (d + (tq - fr)) w') :
    Calls Tryz.prog 47 #[tI c.q, nd.v, .int .i64 (off : Int), .int .i64 (count : Int), .func (.func g) #[] #[p1, p2]] w fun e w' => e = .returned (.int .i64 0) ∧ I count w' := by
  have HI : Hid (∀ d wa, I d wa → NdAt wa w.heap.size nd ∧ ∃ X V', Fs c X wa V' T ∧ Fl c Lv V' nd B T) := hI
  have HM : Hid (∀ d wa wb, I d wa → Chg (fun _ => False) wa wb → I d wb) := hm
  have HS : Hid _ := hstep
  have HL : Hid (∀ i, i * 512 < off + count → Lv (2 * i)) := hLv
  have HB : Hid (∀ k, Lv k → B k < 4294967296) := hbB
  have H0 : Hid (I 0 (w.alloc (nd.o 29))) := h0
  clear hI hm hstep hLv h0 hbB
  go_enter Tryz.func47, Tryz.ntmps47
  go_wp2_with fail
  go_loopw [2, 3] (fun s2 s3 wr => ∃ d : Nat, d ≤ count ∧ s2 = .int .i64 ((off + d : Nat) : Int) ∧ s3 = .int .i64 ((count - d : Nat) : Int) ∧ Hid (I d wr)) (fun _ s3 _ => (intOf s3).toNat)
  case atStart => exact ⟨0, by omega, rfl, rfl, H0⟩
  case round =>
    clear H0
    obtain ⟨d, hd, rfl, rfl, HW⟩ := hrel
    by_cases hlt : d < count
    · obtain ⟨hn, X, V', hfs, hfl⟩ := HI.out d wr HW.out
      obtain ⟨n0, n1, n2, n3, n4, n5, n6, n7, n8, n9, n10, n11, n12⟩ := hn
      obtain ⟨P, hP⟩ : ∃ P, off + d = P := ⟨_, rfl⟩
      obtain ⟨R, hR⟩ : ∃ R, count - d = R := ⟨_, rfl⟩
      have hR0 : 0 < R := by omega
      have hPb : P < 8458240 := by omega
      have hRb : R ≤ 8458240 := by omega
      have hlv := HL.out (P / 512) (by omega)
      have FD : Hid (Calls Tryz.prog 79 #[tI c.q, nd.v, .int .i64 ((P / 512 : Nat) : Int)] wr fun e w' => e = .returned (.tuple #[.int .i64 (B (2 * (P / 512)) : Int), .int .i64 0]) ∧ Chg (fun _ => False) wr w') := find_any (P / 512) hfs hfl ho hlv (by omega)
      have hBb := HB.out _ hlv
      obtain ⟨Q, hQ⟩ : ∃ Q, P / 512 = Q := ⟨_, rfl⟩
      rw [hQ] at FD hBb
      obtain ⟨fr, hfr⟩ : ∃ fr, P % 512 = fr := ⟨_, rfl⟩
      obtain ⟨tq, hto⟩ : ∃ tq, min (fr + R) 512 = tq := ⟨_, rfl⟩
      have ST : Hid (∀ wa, I d wa → Calls Tryz.prog g #[.int .i64 (B (2 * Q) : Int), .int .i64 (fr : Int), .int .i64 (tq : Int), p1, p2] wa fun e w' => e = .returned (.int .i64 0) ∧ I (d + (tq - fr)) w') := fun wa ha => (show ∀ d wa x fr tq, _ from HS.out) d wa _ fr tq hlt (by rw [hP, hQ]) (by rw [hP, hfr]) (by rw [hR, hto]) ha
      have hfrb : fr < 512 := by omega
      have htob : tq ≤ 512 ∧ fr < tq ∧ tq ≤ fr + R := by omega
      generalize B (2 * Q) = x at *
      have e1 : (P : Int) / 512 = (Q : Int) := by omega
      have e2 : (P : Int) % 512 = (fr : Int) := by omega
      rw [hP, hR]
      have k1 : (0 : Int) < (R : Int) := by omega
      have k2 : min ((fr : Int) + (R : Int)) 512 = (tq : Int) := by omega
      have HE : Hid (off + d = P ∧ count - d = R ∧ (fr < 512 ∧ tq ≤ 512 ∧ fr < tq ∧ tq ≤ fr + R) ∧ min (fr + R) 512 = tq) := ⟨hP, hR, ⟨hfrb, htob⟩, hto⟩
      clear hfs hfl hlv hQ hfr hto hP hR
      unfold Nd.v at FD
      go_wp2_with fail
      refine FD.out.mono ?_
      clear FD
      rintro e w1 ⟨rfl, hc1⟩
      have ST1 : Hid _ := ST.out w1 (HM.out d wr w1 HW.out hc1)
      clear ST hc1 n0 n1 n2 n3 n4 n5 n6 n7 n8 n9 n10 n11 n12
      obtain ⟨t1, t2, t3⟩ := htob
      by_cases hmin : fr + R ≤ 512
      · have htq : tq = fr + R := by omega
        have m1 : (fr : Int) + (R : Int) = (tq : Int) := by omega
        have m2 : ¬ ((512 : Int) < (tq : Int)) := by omega
        have m3 : (tq : Int) ≤ 512 := by omega
        have m4 : (tq : Int) - (fr : Int) = (R : Int) := by omega
        clear k2 htq
        go_wp2_with fail
        rw [e2, Int.min_eq_left m3]
        refine (show Calls _ _ _ _ _ from ST1.out).mono ?_
        clear ST1
        rintro e w2 ⟨rfl, hI2⟩
        have HW2 : Hid (I (d + (tq - fr)) w2) := hI2
        obtain ⟨P2, hP2⟩ : ∃ P2, P + R = P2 := ⟨_, rfl⟩
        have m5 : (P : Int) + (R : Int) = (P2 : Int) := by omega
        have m6 : (R : Int) - (R : Int) = 0 := by omega
        have HP2 : Hid (P + R = P2) := hP2
        clear hI2 hP2
        go_wp2
        go_roundw
        case rel =>
          obtain ⟨a1, a2, a3, a4⟩ := HE.out
          have := HP2.out
          refine ⟨d + (tq - fr), by omega, ?_, ?_, HW2⟩
          · exact congrArg (Value.int .i64) (by omega)
          · exact congrArg (Value.int .i64) (by omega)
        case measure => simp [intOf]; omega
      · have htq : tq = 512 := by omega
        subst htq
        obtain ⟨S, hS⟩ : ∃ S, fr + R = S := ⟨_, rfl⟩
        have m1 : (fr : Int) + (R : Int) = (S : Int) := by omega
        have m2 : (512 : Int) < (S : Int) := by omega
        have m3 : ¬ ((S : Int) ≤ 512) := by omega
        obtain ⟨D, hD⟩ : ∃ D, 512 - fr = D := ⟨_, rfl⟩
        have m4 : (512 : Int) - (fr : Int) = (D : Int) := by omega
        have HD : Hid (512 - fr = D) := hD
        have m7 : min (S : Int) 512 = 512 := by omega
        rw [show ((512 : Nat) : Int) = 512 from rfl] at ST1
        clear k2 hS hD
        go_wp2_with fail
        rw [e2]
        refine (show Calls _ _ _ _ _ from ST1.out).mono ?_
        clear ST1
        rintro e w2 ⟨rfl, hI2⟩
        have HW2 : Hid (I (d + (512 - fr)) w2) := hI2
        obtain ⟨P2, hP2⟩ : ∃ P2, P + D = P2 := ⟨_, rfl⟩
        obtain ⟨R2, hR2⟩ : ∃ R2, R - D = R2 := ⟨_, rfl⟩
        have hDR : D ≤ R := by have := HD.out; omega
        have m5 : (P : Int) + (D : Int) = (P2 : Int) := by omega
        have m6 : (R : Int) - (D : Int) = (R2 : Int) := by omega
        have HP2 : Hid (P + D = P2 ∧ R - D = R2) := ⟨hP2, hR2⟩
        clear hI2 hP2 hR2 hDR
        go_wp2
        go_roundw
        case rel =>
          obtain ⟨a1, a2, a3, a4⟩ := HE.out
          have := HP2.out
          have := HD.out
          refine ⟨d + (512 - fr), by omega, ?_, ?_, HW2⟩
          · exact congrArg (Value.int .i64) (by omega)
          · exact congrArg (Value.int .i64) (by omega)
        case measure =>
          obtain ⟨a1, a2, a3, a4⟩ := HE.out
          have := HP2.out
          have := HD.out
          simp [intOf]; omega
    · have e : count - d = 0 := by omega
      rw [e]
      go_wp2
      go_ret
      obtain rfl : d = count := by omega
      exact ⟨rfl, HW.out⟩
end
end Go.Proofs.YtnnaemlipahamaaGreat
