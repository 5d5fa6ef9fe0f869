/-
  Where all blocks of the pool may be written.
-/
import Derived.Test.YtnnaemlipahamaaGreatFApp3
import Derived.Test.YtnnaemlipahamaaGreatFCut
import Derived.Test.YtnnaemlipahamaaGreatFApp2
import Derived.Lib.SlBytesConst
namespace Go.Proofs.YtnnaemlipahamaaGreat
open Go.RowKit Go.Maps

theorem keysTo_live (m : Nat) : ∀ (j k : Nat), live (m + j) k ↔ live m k ∨ k ∈ keysTo m j
  | 0, k => by simp [keysTo]
  | j + 1, k => by
    rw [keysTo, List.mem_append, ← or_assoc, ← keysTo_live m j k, ← Nat.add_assoc]
    exact live_succ (m + j) k
theorem grw_lt (F n : Nat) : ∀ (ks : List Nat) (s : (Nat → Bool) × (Nat → Nat)) (k : Nat), cntT s.1 n + ks.length ≤ n → k ∈ ks → F ≤ (grw F n s ks).2 k ∧ (grw F n s ks).2 k < F + n
  | [], _, _, _, h => by cases h
  | a :: r, s, k, hc, h => by
    rw [List.length_cons] at hc
    have hs := frN_spec (n := n) (T := s.1) (by omega)
    have e : cntT (stp F n s a).1 n = cntT s.1 n + 1 := cntT_set hs.2.1 hs.1
    rw [show a :: r = [a] ++ r from rfl, grw_app, grw_one]
    by_cases hr : k ∈ r
    · exact grw_lt F n r _ k (by omega) hr
    · have hka : k = a := (List.mem_cons.1 h).resolve_right hr
      rw [grw_other F n r _ k hr, hka]
      have e2 : (stp F n s a).2 a = F + frN n s.1 := upd_same _ _ _
      rw [e2]; omega
section
variable {c : Cx} {V : Nat → List Int} {nd : Nd} {B : Nat → Nat} {T : Nat → Bool} {bs : List Int} {m J size : Nat}
theorem wrt_all (hf : Fl c (live m) V nd B T) (hc : cntT T c.n + (keysTo m J).length ≤ c.n) (hL : ∀ x, c.F ≤ x → x < c.F + c.n → x ∈ c.L) : Wrt c (grw c.F c.n (T, B) (keysTo m J)).2 m (m + J) := by
  intro k hk _
  by_cases hm : k ∈ keysTo m J
  · have := grw_lt c.F c.n (keysTo m J) (T, B) k hc hm
    exact hL _ this.1 this.2
  · have hl : live m k := ((keysTo_live m J k).1 hk).resolve_right hm
    rw [grw_other _ _ _ _ _ hm]
    have := hf.own k hl
    exact hL _ this.1 this.2.1
theorem wrtC_all (hF : File c V nd B T bs) (hs : size ≤ bs.length) (hL : ∀ x, c.F ≤ x → x < c.F + c.n → x ∈ c.L) : WrtC c B (blkC size) size := by
  have hb : blkC size ≤ blkC bs.length := by unfold blkC; omega
  refine ⟨fun k hk _ => ?_, fun h => ?_⟩
  · have := hF.fl.own k (live_mono hk hb)
    exact hL _ this.1 this.2.1
  · have hl : live (blkC bs.length) (2 * (blkC size - 1)) := by unfold live; omega
    have := hF.fl.own _ hl
    exact hL _ this.1 this.2.1
end
/-- All blocks of a small log. -/
theorem range_all {w0 : World} {pd pl q n : Nat} {f : Nat → List Int} {com : Nat → Option (List Int)} {pend N : Nat} : ∀ x, (cx8 (List.range (n + 1)) w0 pd pl q n f com pend N).F ≤ x → x < (cx8 (List.range (n + 1)) w0 pd pl q n f com pend N).F + (cx8 (List.range (n + 1)) w0 pd pl q n f com pend N).n → x ∈ (cx8 (List.range (n + 1)) w0 pd pl q n f com pend N).L := fun x _ h2 => by
  show x ∈ List.range (n + 1)
  have : x < 1 + n := h2
  rw [List.mem_range]; omega
section
variable {X : Nat → Prop} {w0 w : World} {pd pl q n : Nat} {f : Nat → List Int} {com : Nat → Option (List Int)} {pend N : Nat} {V : Nat → List Int} {T : Nat → Bool} {nd : Nd} {B : Nat → Nat} {bs b : List Int}
/-- Append, where it fits, in a small log. -/
theorem app_all (u : Value) (h1 : 1 ≤ n) (h2 : n ≤ 4096) (hs : Fs (cx8 (List.range (n + 1)) w0 pd pl q n f com pend N) X w V T) (hF : File (cx8 (List.range (n + 1)) w0 pd pl q n f com pend N) V nd B T bs) (hl : bs.length + b.length ≤ 8458240) (hb : Bs w u b) (hub : ∀ g, u.ownBlock = some g → 0 < b.length → X g) (hby : IsBy b)
    (hcnt : cntT T n + allM (blkC (bs.length + b.length)) ≤ n + allM (blkC bs.length)) :
    Calls Tryz.prog 15 #[.pointer (some ⟨q, 0, none⟩), PV 0 1 n, nd.v, u] w fun e w' => ∃ nd', e = .returned (.tuple #[nd'.v, .int .i64 0]) ∧ AppTo (cx8 (List.range (n + 1)) w0 pd pl q n f com pend N) X V nd B T bs b w nd' w' := by
  have hle : blkC bs.length ≤ blkC (bs.length + b.length) := by unfold blkC; omega
  refine append_ok u hs hF (cx8_ok h1 h2 (by rw [List.mem_range]; omega)) hl hb hub hby hcnt ?_
  have hk := keysTo_len (blkC bs.length) (blkC (bs.length + b.length) - blkC bs.length)
  rw [show blkC bs.length + (blkC (bs.length + b.length) - blkC bs.length) = blkC (bs.length + b.length) by omega] at hk
  have := wrt_all (J := blkC (bs.length + b.length) - blkC bs.length) hF.fl (by show cntT T n + _ ≤ n; omega) range_all
  rw [show blkC bs.length + (blkC (bs.length + b.length) - blkC bs.length) = blkC (bs.length + b.length) by omega] at this
  exact this
theorem cut_all (size : Nat) (h1 : 1 ≤ n) (h2 : n ≤ 4096) (hs : Fs (cx8 (List.range (n + 1)) w0 pd pl q n f com pend N) X w V T) (hF : File (cx8 (List.range (n + 1)) w0 pd pl q n f com pend N) V nd B T bs) (hz : size ≤ bs.length) :
    Calls Tryz.prog 18 #[.pointer (some ⟨q, 0, none⟩), PV 0 1 n, nd.v, .int .i64 (size : Int)] w fun e w' => ∃ nd', e = .returned (.tuple #[nd'.v, .int .i64 0]) ∧ CutTo (cx8 (List.range (n + 1)) w0 pd pl q n f com pend N) X V nd B T bs size w nd' w' :=
  cut_ok size hs hF (cx8_ok h1 h2 (by rw [List.mem_range]; omega)) hz (wrtC_all hF hz range_all)
end
section
variable {c : Cx} {X : Nat → Prop} {w : World} {V : Nat → List Int} {T : Nat → Bool} {nd : Nd} {B : Nat → Nat} {bs : List Int}
/-- Read of a file. -/
theorem read_file (off cnt : Nat) (hs : Fs c X w V T) (hF : File c V nd B T bs) (ho : c.Ok) (h1 : off < 9223372036854775808) (h2 : cnt < 9223372036854775808) :
    Calls Tryz.prog 16 #[tI c.q, nd.v, .int .i64 (off : Int), .int .i64 (cnt : Int)] w fun e w' => ∃ u, e = .returned (.tuple #[u, .int .i64 0]) ∧ Own w w' u ((bs.drop off).take cnt) := by
  have hlim := hF.lim
  have hb : bs.length ≤ 512 * blkC bs.length := by unfold blkC; omega
  refine (fread_any off cnt _ hs hF.fl ho hF.ct hF.sz hb (by unfold blkC; omega) hlim h2 h1 rfl).mono ?_
  rintro e w' ⟨u, rfl, hw⟩
  refine ⟨u, rfl, ?_⟩
  have e : ((pad bs).drop off).take (min cnt (bs.length - off)) = (bs.drop off).take cnt := by
    unfold pad
    by_cases ho : off ≤ bs.length
    · rw [List.drop_append_of_le_length ho, List.take_append_of_le_length (by rw [List.length_drop]; omega)]
      by_cases hc : cnt ≤ bs.length - off
      · rw [Nat.min_eq_left hc]
      · rw [Nat.min_eq_right (by omega), List.take_of_length_le (by rw [List.length_drop]; omega), List.take_of_length_le (by rw [List.length_drop]; omega)]
    · rw [show bs.length - off = 0 by omega, Nat.min_zero, List.take_zero, List.drop_eq_nil_of_le (by omega), List.take_nil]
  rw [e] at hw
  exact hw
end
end Go.Proofs.YtnnaemlipahamaaGreat

namespace Go.Proofs.YtnnaemlipahamaaGreat
open Go.RowKit Go.Maps

def hello : List Int := [104, 101, 108, 108, 111]
theorem hello_by : IsBy hello := by intro y hy; simp [hello] at hy; omega
theorem hello_bs (w : World) : Bs (w.alloc (.cells #[.int .u8 104, .int .u8 101, .int .u8 108, .int .u8 108, .int .u8 111] 5 (5, 6))) (.slice (some ⟨w.heap.size, 0, none⟩) 5 5) hello := by
  have hb := heap_alloc_new w (.cells #[.int .u8 104, .int .u8 101, .int .u8 108, .int .u8 108, .int .u8 111] 5 (5, 6))
  generalize w.alloc (.cells #[.int .u8 104, .int .u8 101, .int .u8 108, .int .u8 108, .int .u8 111] 5 (5, 6)) = W at *
  refine .inr ⟨_, 5, rfl, by decide, by decide, fun j hj => ?_⟩
  have hj' : j < 5 := hj
  rw [show (⟨w.heap.size, 0, none⟩ : Addr).add j = ⟨w.heap.size, j, none⟩ by simp [Addr.add_lit]]
  have hc : W.cell? ⟨w.heap.size, j, none⟩ = (#[.int .u8 104, .int .u8 101, .int .u8 108, .int .u8 108, .int .u8 111] : Array Value)[j]? := by
    simp only [World.cell?, hb]
    rfl
  rw [hc]
  match j, hj' with
  | 0, _ => rfl
  | 1, _ => rfl
  | 2, _ => rfl
  | 3, _ => rfl
  | 4, _ => rfl
theorem Bs.of {w w' : World} {u : Value} {xs : List Int} (h : Bs w u xs) (hs : ∀ g, u.ownBlock = some g → w'.heap[g]? = w.heap[g]?) : Bs w' u xs := by
  rcases h with e | ⟨a, cu, rfl, k1, k2, k3⟩
  · exact .inl e
  · refine .inr ⟨a, cu, rfl, k1, k2, fun j hj => ?_⟩
    rw [← k3 j hj]
    refine World.cell?_of_block ?_
    have e : (a.add j).block = a.block := by unfold Addr.add; split <;> rfl
    rw [e]
    exact hs a.block rfl
theorem Own.blk {w w' : World} {u : Value} {xs : List Int} (h : Own w w' u xs) {g : Nat} (e : u.ownBlock = some g) : w.heap.size ≤ g ∧ g < w'.heap.size := by
  rcases h.own.2 with ⟨e2, _⟩ | ⟨g', cap, cur, e2, hN, hg, _⟩
  · rw [e2] at e; cases e
  · rw [e2] at e
    simp [Value.ownBlock] at e
    subst e
    exact ⟨hN, lt_of_block hg⟩
theorem Own.bs {w w' : World} {u : Value} {xs : List Int} (h : Own w w' u xs) : Bs w' u xs := Bs.ofOwns h.own
/-- The node as known lays it. -/
abbrev ndK : Nd := ⟨1, 0, 0, 0, 0, 0, 0, 0, 0, 0, 0, 0, 0⟩
/-- Behind all calls. -/
structure KnZ (w0 : World) (nx : Nat) (nd : Nd) (u y v : Value) (w : World) : Prop where
  x : Bs w u [101, 108, 108]
  y : Bs w y [104, 101]
  v : ∃ N, OwI w N v [1]
  bx : NdB 29 w nx nd
  sz : nd.sz = 2
  chg : Chg (fun _ => False) w0 w
theorem known_chain {X : Nat → Prop} {w0 w1 : World} {bb pd pl pr g : Nat} {V : Nat → List Int} {U : Nat → Bool} (h : Md X w0 bb pd pl pr g 40 V (fun _ => false) U 1 w1) :
    Calls Tryz.prog 9 #[.pointer (some ⟨pl, 0, none⟩)] w1 fun e w2 => ∃ q, e = .returned (.tuple #[.pointer (some ⟨q, 0, none⟩), .int .i64 0]) ∧ w2.heap[bb]? = w1.heap[bb]? ∧
      Hid (Calls Tryz.prog 15 #[.pointer (some ⟨q, 0, none⟩), PV 0 1 (40 : Nat), ndK.v, .slice (some ⟨w2.heap.size, 0, none⟩) 5 5] (w2.alloc (.cells #[.int .u8 104, .int .u8 101, .int .u8 108, .int .u8 108, .int .u8 111] 5 (5, 6))) fun e w3 => ∃ nd1, e = .returned (.tuple #[nd1.v, .int .i64 0]) ∧ 
        Hid (Calls Tryz.prog 16 #[tI q, nd1.v, .int .i64 1, .int .i64 3] (w3.alloc (nd1.o 29)) fun e w4 => ∃ u, e = .returned (.tuple #[u, .int .i64 0]) ∧ w4.heap[bb]? = w1.heap[bb]? ∧ NdB 29 w4 w3.heap.size nd1 ∧
          Hid (∀ w4', Chg (fun _ => False) w4 w4' → Calls Tryz.prog 18 #[.pointer (some ⟨q, 0, none⟩), PV 0 1 (40 : Nat), nd1.v, .int .i64 2] w4' fun e w5 => ∃ nd2, e = .returned (.tuple #[nd2.v, .int .i64 0]) ∧ NdB 29 w5 w3.heap.size nd1 ∧
            Hid (∀ w6, Chg (fun k => k = w3.heap.size) w5 w6 → NdB 29 w6 w3.heap.size nd2 → Calls Tryz.prog 16 #[tI q, nd2.v, .int .i64 0, .int .i64 9] w6 fun e w7 => ∃ y, e = .returned (.tuple #[y, .int .i64 0]) ∧ NdB 29 w7 w3.heap.size nd2 ∧
              Hid (Calls Tryz.prog 20 #[tI q, nd2.v] w7 fun e w8 => ∃ v, e = .returned (.tuple #[v, .int .i64 0]) ∧ Hid (KnZ w0 w3.heap.size nd2 u y v w8)))))) := by
  refine (md_begin h (by decide) (by decide)).mono ?_
  rintro e w2 ⟨q, rfl, ⟨f, com, pend, N, hp, hN, hfs⟩, hbz, hs2⟩
  have hF2 := hfs (List.range 41) (by simp)
  refine ⟨q, rfl, hs2 _ h.x.1, ?_⟩
  have hco := Chg.alloc (fun _ => False) w2 (.cells #[.int .u8 104, .int .u8 101, .int .u8 108, .int .u8 108, .int .u8 111] 5 (5, 6))
  have hF3 := hF2.add hco
  obtain ⟨W3, hW3⟩ : ∃ W3, w2.alloc (.cells #[.int .u8 104, .int .u8 101, .int .u8 108, .int .u8 108, .int .u8 111] 5 (5, 6)) = W3 := ⟨_, rfl⟩
  have hbs := hello_bs w2
  rw [hW3] at hF3 hco hbs
  obtain ⟨X1, hX1⟩ : ∃ X1, addX X w2.heap.size W3.heap.size = X1 := ⟨_, rfl⟩
  rw [hX1] at hF3
  have hsz3 : W3.heap.size = w2.heap.size + 1 := by rw [← hW3]; simp
  have hx1 : X1 w2.heap.size := hX1 ▸ .inr ⟨Nat.le_refl _, by omega⟩
  have hxX : ∀ b, X b → X1 b := fun b hb => hX1 ▸ .inl hb
  have hE0 : File (cx8 (List.range 41) w0 pd pl q 40 f com pend N) V ndK (fun _ => 0) (fun _ => false) [] := File.empty (Nd.free_kind 1)
  have hok : (cx8 (List.range 41) w0 pd pl q 40 f com pend N).Ok := cx8_ok (by decide) (by decide) (by decide)
  rw [hW3]
  refine (app_all (n := 40) (b := hello) (bs := []) _ (by decide) (by decide) hF3 hE0 (by decide) hbs (fun g hg _ => by
    simp [Value.ownBlock] at hg
    subst hg; exact hx1) hello_by (by decide)).mono ?_
  rintro e w3 ⟨nd1, rfl, V3, s3, hs3, f3, F3, k3, fr3, sm3⟩
  refine ⟨nd1, rfl, ?_⟩
  have eT : s3 = (upd (fun _ => false) 0 true, upd (fun _ => 0) 0 1) := by rw [hs3]; rfl
  subst eT
  have F3' : File (cx8 (List.range 41) w0 pd pl q 40 f com pend N) V3 nd1 (upd (fun _ => 0) 0 1) (upd (fun _ => false) 0 true) hello := F3
  have hcn := Chg.alloc (fun _ => False) w3 (nd1.o 29)
  have f4 := f3.add hcn
  obtain ⟨W4, hW4⟩ : ∃ W4, w3.alloc (nd1.o 29) = W4 := ⟨_, rfl⟩
  have hnd4 : NdB 29 W4 w3.heap.size nd1 := hW4 ▸ heap_alloc_new _ _
  rw [hW4] at f4 hcn
  obtain ⟨X2, hX2⟩ : ∃ X2, addX X1 w3.heap.size W4.heap.size = X2 := ⟨_, rfl⟩
  rw [hX2] at f4
  have hsz4 : W4.heap.size = w3.heap.size + 1 := by rw [← hW4]; simp
  have hx2 : X2 w3.heap.size := hX2 ▸ .inr ⟨Nat.le_refl _, by omega⟩
  have hxX2 : ∀ b, X1 b → X2 b := fun b hb => hX2 ▸ .inl hb
  rw [hW4]
  refine (read_file 1 3 f4 F3' hok (by decide) (by decide)).mono ?_
  rintro e w4 ⟨u, rfl, hu⟩
  have hbb : w4.heap[bb]? = w1.heap[bb]? := by
    have e1 := hu.chg.block bb (f4.tv.xlt _ (hxX2 _ (hxX _ h.x.1))) (fun h => h)
    have e2 := hcn.block bb (f3.tv.xlt _ (hxX _ h.x.1)) (fun h => h)
    have e3 := sm3 bb (hxX _ h.x.1)
    have e4 := hco.block bb (hF2.tv.xlt _ h.x.1) (fun h => h)
    rw [e1, e2, e3, e4, hs2 _ h.x.1]
  have hnd5 : NdB 29 w4 w3.heap.size nd1 := hnd4.kept hu.chg (fun h => h)
  have f5 := f4.add hu.chg
  obtain ⟨X3, hX3⟩ : ∃ X3, addX X2 W4.heap.size w4.heap.size = X3 := ⟨_, rfl⟩
  rw [hX3] at f5
  have hxX3 : ∀ b, X2 b → X3 b := fun b hb => hX3 ▸ .inl hb
  have hu3 : ∀ g, u.ownBlock = some g → X3 g ∧ g ≠ w3.heap.size := fun g hg => by
    have := hu.blk hg
    exact ⟨hX3 ▸ .inr this, by omega⟩
  have hlo : w0.heap.size ≤ w3.heap.size := f3.tv.chg.size
  refine ⟨u, rfl, hbb, hnd5, fun w4' hc4 => ?_⟩
  have f5' := f5.more hc4
  refine (cut_all (n := 40) 2 (by decide) (by decide) f5' F3' (by decide)).mono ?_
  rintro e w5 ⟨nd2, rfl, V5, T5, hT5, f6, F6, k6, fr6, sm6⟩
  have hs45 : ∀ k, X3 k → w5.heap[k]? = w4.heap[k]? := fun k hk => (sm6 k hk).trans (hc4.block k (f5.tv.xlt k hk) (fun h => h))
  refine ⟨nd2, rfl, (hs45 _ (hxX3 _ hx2)).trans hnd5, fun w6 hc6 hnd6 => ?_⟩
  have f7 := f6.put (hxX3 _ hx2) hlo hc6
  refine (read_file 0 9 f7 F6 hok (by decide) (by decide)).mono ?_
  rintro e w7 ⟨y, rfl, hy⟩
  refine ⟨y, rfl, hnd6.kept hy.chg (fun h => h), ?_⟩
  have e2 : (hello.take 2).length = 2 := rfl
  have F6l := F6.fl
  rw [e2] at F6l
  refine (used_any (m := 1) (sz := 2) (f7.more hy.chg) F6l hok F6.sz rfl (by decide)).mono ?_
  rintro e w8 ⟨v, rfl, hv, hc8⟩
  have hc68 : Chg (fun _ => False) w6 w8 := hy.chg.trans hc8 (fun _ _ h => h)
  refine ⟨v, rfl, ⟨?_, ?_, ⟨_, hv⟩, hnd6.kept hc68 (fun h => h), F6.sz, f7.tv.chg.trans hc68 (fun _ _ h => h)⟩⟩
  · have hb : Bs w4 u [101, 108, 108] := hu.bs
    refine hb.of (fun g hg => ?_)
    obtain ⟨g1, g2⟩ := hu3 g hg
    exact (hc68.block g (f7.tv.xlt g g1) (fun h => h)).trans ((hc6.block g (f6.tv.xlt g g1) g2).trans (hs45 g g1))
  · have hb : Bs w7 y [104, 101] := hy.bs
    exact hb.kept hc8 (fun _ _ _ _ _ h => h)
end Go.Proofs.YtnnaemlipahamaaGreat

namespace Go.Proofs.YtnnaemlipahamaaGreat
open Go.RowKit Go.Maps

theorem OwI.one {w : World} {N x : Nat} {v : Value} (h : OwI w N v [x]) : ∃ g c, v = .slice (some ⟨g, 0, none⟩) 1 c ∧ w.cell? ⟨g, 0, none⟩ = some (.int .i64 (x : Int)) := by
  rcases h.2 with ⟨_, h0⟩ | ⟨g, cap, cur, rfl, hb, hg, hnc, hcm, hcs, htake⟩
  · simp at h0
  · refine ⟨g, cap, rfl, ?_⟩
    have := h.cells (g := g) rfl 0 (.int .i64 (x : Int)) (by simp [icells])
    simpa [Addr.add_lit] using this
set_option maxRecDepth 100000 in
set_option maxHeartbeats 6400000 in
theorem known_any (w : World) : Calls Tryz.prog 6 #[] w fun e w' => e = .returned (.bool true) ∧ Chg (fun _ => False) w w' := by
  have kc := fun (w : World) (C : Array Value) (n c : Nat) => Lib.run_convert_bytes_const (P := Tryz.prog) w 33 5 C n c Tryz.underlying33 Tryz.underlying5
  have MD : Hid (Calls Tryz.prog 8 #[.int .i64 40] w fun e w' => ∃ X bb pd pl pr g V, e = .returned (.pointer (some ⟨bb, 0, none⟩)) ∧ Md X w bb pd pl pr g 40 V (fun _ => false) (fun _ => false) 1 w' ∧ Chg (fun _ => False) w w') := made_any 40 w (by decide) (by decide)
  go_enter Tryz.func6, Tryz.ntmps6
  go_wp2_with fail
  refine (show Calls _ _ _ _ _ from MD.out).mono ?_
  clear MD
  rintro e w1 ⟨X, bb, pd, pl, pr, g, V, rfl, hmd, _⟩
  have hbx := hmd.bx
  have c0 : w1.cell? ⟨bb, 0, none⟩ = some (.pointer (some ⟨pl, 0, none⟩)) := by rw [cell_of_row _ _ _ _ _ _ hbx]; rfl
  have BG : Hid _ := known_chain hmd
  have HBX : Hid _ := hbx
  have hq1 := eqB_some ⟨bb, 0, none⟩
  clear hmd hbx
  go_wp2_with fail
  refine (show Calls _ _ _ _ _ from BG.out).mono ?_
  clear BG
  rintro e w2 ⟨q, rfl, hb2, AP⟩
  have hb2' := hb2.trans HBX.out
  have d0 : w2.cell? ⟨bb, 1, none⟩ = some (.int .i64 0) := by rw [cell_of_row _ _ _ _ _ _ hb2']; rfl
  have d1 : w2.cell? ⟨bb, 2, none⟩ = some (.int .i64 1) := by rw [cell_of_row _ _ _ _ _ _ hb2']; rfl
  have d2 : w2.cell? ⟨bb, 3, none⟩ = some (.int .i64 40) := by rw [cell_of_row _ _ _ _ _ _ hb2']; rfl
  have hq2 := eqT_some ⟨q, 0, none⟩
  clear hb2 hb2' c0
  go_wp2_with fail
  refine (show Calls _ _ _ _ _ from AP.out).mono ?_
  clear AP
  rintro e w3 ⟨⟨kd, lk, zz, e0, e1, e2, e3, e4, e5, e6, e7, on, tw⟩, rfl, RD⟩
  clear d0 d1 d2 hq1 hq2 kc
  go_wp2_with fail
  refine (show Calls _ _ _ _ _ from RD.out).mono ?_
  clear RD
  rintro e w4 ⟨u, rfl, hb4, hn4, CU⟩
  have hb4' := hb4.trans HBX.out
  have d0 : w4.cell? ⟨bb, 1, none⟩ = some (.int .i64 0) := by rw [cell_of_row _ _ _ _ _ _ hb4']; rfl
  have d1 : w4.cell? ⟨bb, 2, none⟩ = some (.int .i64 1) := by rw [cell_of_row _ _ _ _ _ _ hb4']; rfl
  have d2 : w4.cell? ⟨bb, 3, none⟩ = some (.int .i64 40) := by rw [cell_of_row _ _ _ _ _ _ hb4']; rfl
  obtain ⟨f0, f1, f2, f3, f4, f5, f6, f7, f8, f9, f10, f11, f12⟩ := hn4.at
  simp only at f0 f1 f2 f3 f4 f5 f6 f7 f8 f9 f10 f11 f12
  have CU2 : Hid _ := CU.out w4.drew (Chg.drew _ _)
  clear CU hb4 hb4' hn4 HBX
  go_wp2_with fail
  go_cut [8] (fun x wc => x = .int .i64 0 ∧ Hid (∃ nd2, NdB 29 wc w3.heap.size nd2 ∧ Calls Tryz.prog 16 #[tI q, nd2.v, .int .i64 0, .int .i64 9] wc fun e w7 => ∃ y, e = .returned (.tuple #[y, .int .i64 0]) ∧ NdB 29 w7 w3.heap.size nd2 ∧
              Hid (Calls Tryz.prog 20 #[tI q, nd2.v] w7 fun e w8 => ∃ v, e = .returned (.tuple #[v, .int .i64 0]) ∧ Hid (KnZ w w3.heap.size nd2 u y v w8))))
  case first =>
    go_region_with (first | (go_at_call 18; refine (show Calls _ _ _ _ _ from CU2.out).mono ?_; clear CU2 d0 d1 d2 f0 f1 f2 f3 f4 f5 f6 f7 f8 f9 f10 f11 f12; rintro e w5 ⟨⟨kd', lk', zz', e0', e1', e2', e3', e4', e5', e6', e7', on', tw'⟩, rfl, hn5, HC⟩; obtain ⟨r0, r1, r2, r3, r4, r5, r6, r7, r8, r9, r10, r11, r12⟩ := hn5.at; have fr5 := hn5.fr; have HN5 : Hid (NdB 29 w5 w3.heap.size ⟨kd, lk, zz, e0, e1, e2, e3, e4, e5, e6, e7, on, tw⟩) := hn5; clear hn5))
    all_goals
      go_wp2_with fail
      obtain ⟨P1, P2⟩ := HN5.out.put ⟨kd', lk', zz', e0', e1', e2', e3', e4', e5', e6', e7', on', tw'⟩
      have C9 := HC.out _ P2 P1
      clear r0 r1 r2 r3 r4 r5 r6 r7 r8 r9 r10 r11 r12 fr5 HN5 HC P2
      unfold putNd at P1 C9
      simp only at P1 C9
      go_meet
      exact ⟨rfl, _, P1, C9⟩
  case rest =>
    obtain ⟨rfl, HQ⟩ := hcut
    obtain ⟨⟨kd', lk', zz', e0', e1', e2', e3', e4', e5', e6', e7', on', tw'⟩, hn6, rd6⟩ := HQ.out
    have RD : Hid _ := rd6
    clear CU2 d0 d1 d2 f0 f1 f2 f3 f4 f5 f6 f7 f8 f9 f10 f11 f12 HQ rd6
    obtain ⟨f0, f1, f2, f3, f4, f5, f6, f7, f8, f9, f10, f11, f12⟩ := hn6.at
    simp only at f0 f1 f2 f3 f4 f5 f6 f7 f8 f9 f10 f11 f12
    clear hn6
    go_wp2_with fail
    refine (show Calls _ _ _ _ _ from RD.out).mono ?_
    clear RD f0 f1 f2 f3 f4 f5 f6 f7 f8 f9 f10 f11 f12
    rintro e w7 ⟨y, rfl, hn7, US⟩
    obtain ⟨f0, f1, f2, f3, f4, f5, f6, f7, f8, f9, f10, f11, f12⟩ := hn7.at
    simp only at f0 f1 f2 f3 f4 f5 f6 f7 f8 f9 f10 f11 f12
    clear hn7
    go_wp2_with fail
    refine (show Calls _ _ _ _ _ from US.out).mono ?_
    clear US f0 f1 f2 f3 f4 f5 f6 f7 f8 f9 f10 f11 f12
    rintro e w8 ⟨v, rfl, HZ⟩
    have s1 := run_str HZ.out.x
    have s2 := run_str HZ.out.y
    rw [show strOf [101, 108, 108] = ⟨#[101, 108, 108]⟩ from rfl] at s1
    rw [show strOf [104, 101] = ⟨#[104, 101]⟩ from rfl] at s2
    have hz := HZ.out.sz
    simp only at hz
    subst hz
    have g2 := HZ.out.bx.at.c2
    simp only at g2
    obtain ⟨N, hv⟩ := HZ.out.v
    obtain ⟨gv, cv, rfl, cell⟩ := hv.one
    have HC : Hid (Chg (fun _ => False) w w8) := HZ.out.chg
    clear HZ hv
    go_wp2
    go_ret
    exact ⟨rfl, HC.out⟩
end Go.Proofs.YtnnaemlipahamaaGreat
