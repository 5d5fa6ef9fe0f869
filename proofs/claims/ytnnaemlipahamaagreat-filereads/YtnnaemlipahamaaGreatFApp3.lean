/-
  Append of package file where the pool has too few.
-/
import Derived.Test.YtnnaemlipahamaaGreatFApp1
import Derived.Test.YtnnaemlipahamaaGreatFRef2
import Derived.Test.YtnnaemlipahamaaGreatFRead1
namespace Go.Proofs.YtnnaemlipahamaaGreat
open Go.RowKit Go.Maps

section
variable {c : Cx} {X : Nat → Prop} {w : World} {V : Nat → List Int} {T : Nat → Bool} {nd : Nd} {B : Nat → Nat} {bs b : List Int}
set_option maxHeartbeats 1600000 in
set_option maxRecDepth 100000 in
theorem append_full (u : Value) (hs : Fs c X w V T) (hF : File c V nd B T bs) (ho : c.Ok) (hl : bs.length + b.length ≤ 8458240) (hb : Bs w u b)
    (hcnt : c.n + allM (blkC bs.length) < cntT T c.n + allM (blkC (bs.length + b.length))) :
    Calls Tryz.prog 15 #[.pointer (some ⟨c.q, 0, none⟩), PV c.M c.F c.n, nd.v, u] w fun e w' => e = .returned (.tuple #[Nd.no.v, .int .i64 7]) ∧ Chg (fun _ => False) w w' := by
  have hsz := hF.sz
  obtain ⟨S0, hS0⟩ : ∃ S0, bs.length = S0 := ⟨_, rfl⟩
  obtain ⟨S1, hS1⟩ : ∃ S1, bs.length + b.length = S1 := ⟨_, rfl⟩
  obtain ⟨Lb, hLb⟩ : ∃ Lb, b.length = Lb := ⟨_, rfl⟩
  obtain ⟨m, hm⟩ : ∃ m, blkC bs.length = m := ⟨_, rfl⟩
  obtain ⟨m1, hm1⟩ : ∃ m1, blkC (bs.length + b.length) = m1 := ⟨_, rfl⟩
  have hmm : m ≤ m1 := by rw [← hm, ← hm1]; unfold blkC; omega
  have hM : m1 ≤ 16520 := by rw [← hm1]; unfold blkC; omega
  obtain ⟨W0, hW0⟩ : ∃ W0, ((w.alloc (PO c.M c.F c.n)).alloc (nd.o 29)).alloc (Nd.no.o 29) = W0 := ⟨_, rfl⟩
  have hc0 : Chg (fun _ => False) w W0 := hW0 ▸ ((Chg.alloc (fun _ => False) w _).al _).al _
  have hz0 : W0.heap.size = w.heap.size + 3 := by rw [← hW0]; simp
  have hp0 : PAt W0 w.heap.size c.M c.F c.n := hW0 ▸ (PAt.box w c.M c.F c.n).kept ((Chg.alloc (fun _ => False) _ _).al _) (fun h => h)
  have hn0 : NdB 29 W0 (w.heap.size + 1) nd := by
    have h1 : NdB 29 ((w.alloc (PO c.M c.F c.n)).alloc (nd.o 29)) (w.heap.size + 1) nd := heap_new' (by simp)
    exact hW0 ▸ h1.kept (Chg.alloc (fun _ => False) _ _) (fun h => h)
  have hr0 : NdB 29 W0 (w.heap.size + 2) Nd.no := hW0 ▸ heap_new' (by simp)
  have FR : Hid (∀ wr, Chg (fun _ => False) W0 wr → Calls Tryz.prog 11 #[PV c.M c.F c.n, .pointer (some ⟨c.q, 0, none⟩)] wr fun e w' => e = .returned (.tuple #[.int .i64 ((c.n - cntT T c.n : Nat) : Int), .int .i64 0]) ∧ Chg (fun _ => False) W0 w') := fun wr hc => by
    refine (fs_free (hs.more (hc0.trans hc (fun _ _ h => h))) ho).mono ?_
    rintro e w' ⟨rfl, h'⟩
    exact ⟨rfl, hc.trans h' (fun _ _ h => h)⟩
  have eA := allN_blk (s := S1) (by omega)
  have eB := allN_blk (s := S0) (by omega)
  rw [← hS1, hm1] at eA
  rw [← hS0, hm] at eB
  rw [hS1] at eA
  rw [hS0] at eB
  have AL1 : Hid (∀ wr, Chg (fun _ => False) W0 wr → Calls Tryz.prog 42 #[.int .i64 (S1 : Int)] wr fun e w' => e = .returned (.int .i64 (allM m1 : Int)) ∧ Chg (fun _ => False) W0 w') := fun wr hc => by
    have := all_any (S1 : Int) wr
    rw [eA.1] at this
    exact this.mono (by rintro e w' ⟨rfl, h'⟩; exact ⟨rfl, hc.trans h' (fun _ _ h => h)⟩)
  have AL0 : Hid (∀ wr, Chg (fun _ => False) W0 wr → Calls Tryz.prog 42 #[.int .i64 (S0 : Int)] wr fun e w' => e = .returned (.int .i64 (allM m : Int)) ∧ Chg (fun _ => False) W0 w') := fun wr hc => by
    have := all_any (S0 : Int) wr
    rw [eB.1] at this
    exact this.mono (by rintro e w' ⟨rfl, h'⟩; exact ⟨rfl, hc.trans h' (fun _ _ h => h)⟩)
  have BL1 : Hid (∀ wr, Calls Tryz.prog 43 #[.int .i64 (S1 : Int)] wr fun e w' => e = .returned (.int .i64 (m1 : Int)) ∧ w' = wr) := fun wr => by
    have := iblocks_any (S1 : Int) wr
    rw [eA.2] at this
    exact this
  have BL0 : Hid (∀ wr, Calls Tryz.prog 43 #[.int .i64 (S0 : Int)] wr fun e w' => e = .returned (.int .i64 (m : Int)) ∧ w' = wr) := fun wr => by
    have := iblocks_any (S0 : Int) wr
    rw [eB.2] at this
    exact this
  have MS : Hid (∀ w : World, Calls Tryz.prog 41 #[] w fun e w' => e = .returned (.int .i64 8458240) ∧ w' = w) := fun w => most_any w
  have hfree : ((c.n - cntT T c.n : Nat) : Int) < (allM m1 : Int) - (allM m : Int) := by
    rw [hm, hm1] at hcnt
    have := cntT_le T c.n
    omega
  have hab : allM m1 ≤ 40000 ∧ allM m ≤ 40000 := by
    unfold allM innM
    constructor
    · split
      · omega
      · split <;> omega
    · split
      · omega
      · split <;> omega
  have hfb : c.n - cntT T c.n ≤ 16384 := by have := ho.pr.top; omega
  obtain ⟨ua, uc, rfl, huc⟩ := hb.formB
  rw [hLb]
  have hbnd : S0 + Lb ≤ 8458240 := by omega
  have hS01 : S0 + Lb = S1 := by omega
  rw [hS0] at hsz
  obtain ⟨kd, lk, zz, e0, e1, e2, e3, e4, e5, e6, e7, on, tw⟩ := nd
  obtain rfl : zz = (S0 : Int) := hsz
  have HA : Hid (∀ wr, Chg (fun _ => False) W0 wr → PAt wr w.heap.size c.M c.F c.n ∧ NdB 29 wr (w.heap.size + 1) ⟨kd, lk, (S0 : Int), e0, e1, e2, e3, e4, e5, e6, e7, on, tw⟩ ∧ NdB 29 wr (w.heap.size + 2) Nd.no ∧ Chg (fun _ => False) w wr) := fun wr hc => ⟨hp0.kept hc (fun h => h), hn0.kept hc (fun h => h), hr0.kept hc (fun h => h), hc0.trans hc (fun _ _ h => h)⟩
  have HHW : Hid (((w.alloc (PO c.M c.F c.n)).alloc (Nd.o ⟨kd, lk, (S0 : Int), e0, e1, e2, e3, e4, e5, e6, e7, on, tw⟩ 29)).alloc (Nd.no.o 29) = W0) := hW0
  generalize allM m1 = A1 at *
  generalize allM m = A0 at *
  generalize c.n - cntT T c.n = fr at *
  clear hs hF hb hcnt hn0 hr0 hp0 hc0 eA eB hmm hW0 hz0 hm hm1 hLb hS1 hS0 hl
  unfold PV PO at *
  have k1 : decide ((S0 : Int) < 0) = false := by simp
  have wr1 : IntKind.i64.wrap (8458240 - (S0 : Int)) = 8458240 - (S0 : Int) := by rw [IntKind.wrap_i64]; omega
  have k2 : decide (8458240 - (S0 : Int) < (Lb : Int)) = false := by simp; omega
  have k2' : ¬ (8458240 - (S0 : Int) < (Lb : Int)) := by omega
  go_enter Tryz.func15, Tryz.ntmps15
  go_wp2_with fail
  go_cut [27] (fun x wc => x = .bool false ∧ Hid (Chg (fun _ => False) W0 wc))
  case first =>
    go_region_with (first | (go_at_call 41; refine (MS.out _).mono ?_; rintro e w3 ⟨rfl, rfl⟩))
    all_goals (go_wp2_with fail; go_meet; exact ⟨rfl, HHW.out ▸ Chg.drew (fun _ => False) _⟩)
  case rest =>
    obtain ⟨rfl, HC⟩ := hcut
    obtain ⟨hpa, hna, hra, hca⟩ := HA.out wc HC.out
    have n2 := hna.at.c2
    simp only at n2
    have p0 := hpa.c0
    have p1 := hpa.c1
    have p2 := hpa.c2
    have q0 := (hpa.kept (Chg.drew (fun _ => False) wc) (fun h => h)).c0
    have q1 := (hpa.kept (Chg.drew (fun _ => False) wc) (fun h => h)).c1
    have q2 := (hpa.kept (Chg.drew (fun _ => False) wc) (fun h => h)).c2
    have e01 : (S0 : Int) + (Lb : Int) = (S1 : Int) := by omega
    have wr2 : IntKind.i64.wrap ((S0 : Int) + (Lb : Int)) = (S1 : Int) := by rw [IntKind.wrap_i64]; omega
    have hS1b : S1 ≤ 8458240 := by omega
    clear hpa hna hra hca hS01 k1 k2 k2' wr1
    go_wp2_with fail
    go_region
    go_wp2_with fail
    refine (FR.out wc.drew HC.out.dr).mono ?_
    clear FR
    rintro e w1 ⟨rfl, hc1⟩
    have HC1 : Hid (Chg (fun _ => False) W0 w1) := hc1
    clear hc1 n2 p0 p1 p2 q0 q1 q2 HC e01 wr2
    go_wp2_with fail
    refine (AL1.out w1 HC1.out).mono ?_
    clear AL1
    rintro e w2 ⟨rfl, hc2⟩
    have HC2 : Hid (Chg (fun _ => False) W0 w2) := hc2
    clear hc2 HC1
    go_wp2_with fail
    refine (AL0.out w2 HC2.out).mono ?_
    clear AL0
    rintro e w3 ⟨rfl, hc3⟩
    have HC3 : Hid (Chg (fun _ => False) W0 w3) := hc3
    have kf : decide ((fr : Int) < (A1 : Int) - (A0 : Int)) = true := by simpa using hfree
    obtain ⟨hab1, hab2⟩ := hab
    obtain ⟨hpa, hna, hra, hca⟩ := HA.out w3 hc3
    obtain ⟨r0, r1, r2, r3, r4, r5, r6, r7, r8, r9, r10, r11, r12⟩ := hra.at
    have fr6 := hra.fr
    have HR6 : Hid (NdB 29 w3 (w.heap.size + 2) Nd.no ∧ Chg (fun _ => False) w w3) := ⟨hra, hca⟩
    clear hc3 HC2 hpa hna hra hca HA BL0 BL1 HC3 HHW
    go_wp2_with fail
    obtain ⟨P1, P2⟩ := HR6.out.1.put Nd.no
    have C9 := HR6.out.2.trans P2 (fun i hi e => by omega)
    clear r0 r1 r2 r3 r4 r5 r6 r7 r8 r9 r10 r11 r12 P2 HR6 fr6
    unfold putNd at P1 C9
    simp only [Nd.no] at P1 C9
    rw [show w.heap.size + 1 + 1 = w.heap.size + 2 from rfl]
    generalize World.setCell _ ⟨w.heap.size + 2, 12, none⟩ _ = w12 at *
    obtain ⟨c0, c1, c2, c3, c4, c5, c6, c7, c8, c9, c10, c11, c12⟩ := P1.at
    refine bodyPost_ret (v := .tuple #[Nd.no.v, .int .i64 7]) (by simp [results, Tryz.results15, go_sem, Nd.no, c0, c1, c2, c3, c4, c5, c6, c7, c8, c9, c10, c11, c12]) rfl ⟨rfl, C9⟩
end
end Go.Proofs.YtnnaemlipahamaaGreat

namespace Go.Proofs.YtnnaemlipahamaaGreat
open Go.RowKit Go.Maps

/-- The laws' context: map at 0, numbers from 1 on. -/
abbrev cx8 (L : List Nat) (w0 : World) (pd pl q n : Nat) (f : Nat → List Int) (com : Nat → Option (List Int)) (pend N : Nat) : Cx := ⟨L, w0, pd, pl, q, n + 1, f, com, pend, N, 0, 1, n⟩
theorem cx8_ok {L : List Nat} {w0 : World} {pd pl q n : Nat} {f : Nat → List Int} {com : Nat → Option (List Int)} {pend N : Nat} (h1 : 1 ≤ n) (h2 : n ≤ 4096) (hL : 0 ∈ L) : (cx8 L w0 pd pl q n f com pend N).Ok := by
  have hm : mapsN n = 1 := by unfold mapsN; omega
  refine ⟨⟨by show 1 ≤ 1073741824; omega, h1, by show n ≤ 16384; omega, by show 0 + mapsN n ≤ n + 1; omega, fun i hi => ?_⟩, by show 1 + n ≤ n + 1; omega, .inl (by show 0 + mapsN n ≤ 1; omega)⟩
  have hi' : i < mapsN n := hi
  have : 0 + i = 0 := by omega
  show 0 + i ∈ L
  rw [this]; exact hL
/-- What stands beside a transaction: the base, the document's pool. -/
structure Bz (X : Nat → Prop) (w0 : World) (bb pl pr g n : Nat) (U : Nat → Bool) (w : World) : Prop where
  bx : w.heap[bb]? = some (.cells #[.pointer (some ⟨pl, 0, none⟩), .int .i64 0, .int .i64 1, .int .i64 (n : Int), .pointer (some ⟨pr, 0, none⟩)] 45 (0, 0))
  rp : Rp w pr 0 1 n g n U
  x : X bb ∧ X pr ∧ X g ∧ bb ≠ pr ∧ bb ≠ g
  lo : w0.heap.size ≤ bb ∧ w0.heap.size ≤ pr ∧ w0.heap.size ≤ g
  old : ∀ b, b < w0.heap.size → X b
section
variable {X Y : Nat → Prop} {w0 w w' : World} {bb pd pl pr g n c q : Nat} {V : Nat → List Int} {T U : Nat → Bool}
theorem Bz.sm (h : Bz X w0 bb pl pr g n U w) (hs : Sm X w w') : Bz X w0 bb pl pr g n U w' := ⟨(hs _ h.x.1).trans h.bx, h.rp.sm hs h.x.2.1 h.x.2.2.1, h.x, h.lo, h.old⟩
theorem Bz.kept {S : Nat → Prop} (h : Bz X w0 bb pl pr g n U w) (hc : Chg S w w') (h1 : ¬ S bb) (h2 : ¬ S pr) (h3 : ¬ S g) : Bz X w0 bb pl pr g n U w' := ⟨(hc.block bb (lt_of_block h.bx) h1).trans h.bx, h.rp.kept hc h2 h3, h.x, h.lo, h.old⟩
theorem Bz.of (h : Bz X w0 bb pl pr g n U w) (hy : ∀ b, X b → Y b) : Bz Y w0 bb pl pr g n U w := ⟨h.bx, h.rp, ⟨hy _ h.x.1, hy _ h.x.2.1, hy _ h.x.2.2.1, h.x.2.2.2⟩, h.lo, fun b hb => hy b (h.old b hb)⟩
theorem Md.bz (h : Md X w0 bb pd pl pr g n V T U c w) : Bz X w0 bb pl pr g n U w := ⟨h.bx, h.rp, h.x, h.lo, h.old⟩
theorem Md.mk' (h : Lz X w0 pd pl (n + 1) V c w) (hb : Bz X w0 bb pl pr g n U w) (ht : Bt V 0 n T) (hy : ∀ m, m < n + 1 → IsBy (V m)) : Md X w0 bb pd pl pr g n V T U c w := ⟨h, ht, hy, hb.bx, hb.rp, hb.x, hb.lo, hb.old⟩
theorem Md.more (h : Md X w0 bb pd pl pr g n V T U c w) (hc : Chg (fun _ => False) w w') : Md X w0 bb pd pl pr g n V T U c w' := Md.mk' (h.lz.more hc) (h.bz.kept hc (fun h => h) (fun h => h) (fun h => h)) h.bt h.by'
theorem Md.add (h : Md X w0 bb pd pl pr g n V T U c w) (hc : Chg (fun _ => False) w w') : Md (addX X w.heap.size w'.heap.size) w0 bb pd pl pr g n V T U c w' := Md.mk' (h.lz.add hc) ((h.bz.kept hc (fun h => h) (fun h => h) (fun h => h)).of (fun _ h => .inl h)) h.bt h.by'
theorem md_begin (h : Md X w0 bb pd pl pr g n V T U c w) (h1 : n ≤ 4096) (hc : c ≤ 1000) :
    Calls Tryz.prog 9 #[.pointer (some ⟨pl, 0, none⟩)] w fun e w' => ∃ q, e = .returned (.tuple #[.pointer (some ⟨q, 0, none⟩), .int .i64 0]) ∧ (∃ f com pend N, pend ≤ c ∧ N ≤ 20000 + 128 * c ∧ ∀ L : List Nat, L.length ≤ 63 → Fs (cx8 L w0 pd pl q n f com pend N) X w' V T) ∧ Bz X w0 bb pl pr g n U w' ∧ Sm X w w' := by
  refine (lz_begin h.lz hc (by omega)).mono ?_
  rintro e w' ⟨q, rfl, ⟨f, com, pend, N, hp, hN, ht⟩, hs⟩
  exact ⟨q, rfl, ⟨f, com, pend, N, hp, hN, fun L hL => ⟨ht L hL, h.bt, h.by'⟩⟩, h.bz.sm hs, hs⟩
theorem md_commit {L : List Nat} {f : Nat → List Int} {com : Nat → Option (List Int)} {pend N : Nat} (h : Fs (cx8 L w0 pd pl q n f com pend N) X w V T) (hb : Bz X w0 bb pl pr g n U w) (hp : pend ≤ c) (hN : N ≤ 20000 + 128 * c) (hc : c ≤ 1000) :
    Calls Tryz.prog 14 #[.pointer (some ⟨q, 0, none⟩)] w fun e w' => e = .returned (.int .i64 0) ∧ Md X w0 bb pd pl pr g n V T U (c + 1) w' ∧ Sm X w w' := by
  refine (tv_commit h.tv hp hN hc).mono ?_
  rintro e w' ⟨rfl, hl, hs⟩
  exact ⟨rfl, Md.mk' hl (hb.sm hs) h.bt h.by', hs⟩
end
/-- No bytes, no blocks. -/
def Nd.free (nd : Nd) : Prop := nd.sz = 0 ∧ ∀ k, fld k → nd.fd k = 0
theorem live0 {k : Nat} : ¬ live 0 k := by rw [live_fst]; omega
theorem File.empty {c : Cx} {V : Nat → List Int} {nd : Nd} {B : Nat → Nat} {T : Nat → Bool} (h : nd.free) : File c V nd B T [] :=
  ⟨⟨⟨fun k hk => absurd hk live0, fun k hf _ => h.2 k hf, fun k hk => absurd hk live0, fun k l hk => absurd hk live0⟩, fun k hk => absurd hk live0, fun k hk => absurd hk live0⟩,
   ⟨rfl, fun i hi => absurd hi (by show ¬ i < 0; omega)⟩, h.1, by simp, fun y hy => by cases hy⟩
theorem Nd.free_kind (x : Int) : Nd.free ⟨x, 0, 0, 0, 0, 0, 0, 0, 0, 0, 0, 0, 0⟩ := ⟨rfl, fun k hk => by
  rcases fld_cases hk with rfl | rfl | rfl | rfl | rfl | rfl | rfl | rfl | rfl | rfl <;> rfl⟩
end Go.Proofs.YtnnaemlipahamaaGreat
