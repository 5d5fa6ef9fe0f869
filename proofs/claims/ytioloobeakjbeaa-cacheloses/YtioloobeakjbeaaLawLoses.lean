/-
  CacheLoses answers true.
-/
import Derived.Test.YtioloobeakjbeaaKnown
import Derived.Test.YtioloobeakjbeaaCPure
namespace Go.Proofs.Ytioloobeakjbeaa
open Go.RowKit Go.Maps

theorem Bs.two (w : World) (x y : Int) : Bs (w.alloc (.cells #[.int .u8 x, .int .u8 y] 5)) (.slice (some ⟨w.heap.size, 0, none⟩) 2 2) [x, y] := by
  refine .inr ⟨⟨w.heap.size, 0, none⟩, 2, rfl, Nat.le_refl _, by simp [maxLen], fun j hj => ?_⟩
  have hb := heap_alloc_new w (.cells #[.int .u8 x, .int .u8 y] 5)
  rw [add_zero_off, cell_of_row _ _ _ _ _ _ hb]
  have hj2 : j < 2 := hj
  match j, hj2 with
  | 0, _ => rfl
  | 1, _ => rfl

namespace Loses
/-- What is put to block n. -/
def V (l : List Int) (n : Nat) : List Int := full [l.getD n 0, 1]
theorem V_len (l : List Int) (n : Nat) : (V l n).length = 512 := full_len _
/-- Was block n flushed, with j done? -/
def flm (fl : Int) (j n : Nat) : Bool := decide (0 ≤ fl ∧ fl < j ∧ (n : Int) ≤ fl)
structure Inv (fl : Int) (l : List Int) (j : Nat) (S : St) (C : Ca) : Prop where
  pw : Pw S
  nb : S.nb = 20
  size : C.size = 30
  ns : C.L.map It.n = List.range j
  bytes : ∀ i ∈ C.L, i.b = V l i.n
  dirty : ∀ i ∈ C.L, i.dirty = !flm fl j i.n
  disk : ∀ n, n < 20 → S.last n = if flm fl j n then V l n else zeros 512
  cnt : C.hits + C.misses ≤ j ∧ C.evicted = 0
  wr : S.writes ≤ 20 * j
theorem Inv.new (fl : Int) (l : List Int) : Inv fl l 0 (St.new 20) (Ca.new 30) := by
  refine ⟨Pw.new 20, rfl, rfl, rfl, fun i hi => (List.not_mem_nil hi).elim, fun i hi => (List.not_mem_nil hi).elim, fun n hn => ?_, ⟨Nat.le_refl _, rfl⟩, Nat.le_refl _⟩
  have : flm fl 0 n = false := by unfold flm; simp; omega
  rw [this]; rfl
theorem ns_lt {C : Ca} {j : Nat} (h : C.L.map It.n = List.range j) : ∀ i ∈ C.L, i.n < j := fun i hi => by
  have := List.mem_map_of_mem (f := It.n) hi
  rw [h] at this
  exact List.mem_range.1 this
theorem ns_len {C : Ca} {j : Nat} (h : C.L.map It.n = List.range j) : C.L.length = j := by
  have := congrArg List.length h
  simpa using this
def put1 (l : List Int) (j : Nat) (C : Ca) : Ca := { C with L := C.L ++ [⟨j, V l j, true, 0⟩], misses := C.misses + 1 }
theorem Inv.put {fl : Int} {l : List Int} {j : Nat} {S : St} {C : Ca} (h : Inv fl l j S C) (hj : j < 20) : _root_.Go.Proofs.Ytioloobeakjbeaa.put S C j (V l j) = ⟨0, S, put1 l j C⟩ := by
  have h1 : j < S.nb := by rw [h.nb]; exact hj
  have h2 : C.has j = false := Ca.not_has (fun i hi e => by have := ns_lt h.ns i hi; omega)
  have h3 : C.L.length ≠ C.size := by rw [ns_len h.ns, h.size]; omega
  unfold put1
  exact put_room h1 (V_len l j) h2 h3
set_option maxRecDepth 100000 in
theorem Inv.mem1 {fl : Int} {l : List Int} {j : Nat} {S : St} {C : Ca} (h : Inv fl l j S C) : ∀ i ∈ (put1 l j C).L, i.b = V l i.n ∧ i.n ≤ j ∧ (i ∈ C.L ∨ i = ⟨j, V l j, true, 0⟩) := fun i hi => by
  have hi : i ∈ C.L ++ [⟨j, V l j, true, 0⟩] := hi
  rcases List.mem_append.1 hi with e | e
  · exact ⟨h.bytes i e, Nat.le_of_lt (ns_lt h.ns i e), .inl e⟩
  · simp at e
    subst e
    refine ⟨?_, Nat.le_refl _, .inr rfl⟩
    show V l j = V l j
    rfl
theorem Inv.ns1 {fl : Int} {l : List Int} {j : Nat} {S : St} {C : Ca} (h : Inv fl l j S C) : (put1 l j C).L.map It.n = List.range (j + 1) := by
  unfold put1
  simp only [List.map_append, h.ns, List.map_cons, List.map_nil, List.range_succ]
theorem Inv.next {fl : Int} {l : List Int} {j : Nat} {S : St} {C : Ca} (h : Inv fl l j S C) (hf : (j : Int) ≠ fl) : Inv fl l (j + 1) S (put1 l j C) := by
  have hfl : ∀ n, flm fl (j + 1) n = flm fl j n := fun n => by
    unfold flm
    congr 1
    apply propext
    constructor <;> rintro ⟨a, b, c⟩ <;> exact ⟨a, by omega, c⟩
  refine ⟨h.pw, h.nb, h.size, h.ns1, fun i hi => (h.mem1 i hi).1, fun i hi => ?_, fun n hn => by rw [hfl]; exact h.disk n hn, ⟨by have := h.cnt.1; show C.hits + (C.misses + 1) ≤ j + 1; omega, h.cnt.2⟩, by have := h.wr; omega⟩
  rcases (h.mem1 i hi).2.2 with e | e
  · rw [hfl]; exact h.dirty i e
  · subst e
    have : flm fl (j + 1) j = false := by unfold flm; simp; omega
    simp [this]
theorem Inv.flush {fl : Int} {l : List Int} {j : Nat} {S : St} {C : Ca} (h : Inv fl l j S C) (hf : (j : Int) = fl) (hj : j < 20) (hS : S.Wf) (hC : (put1 l j C).Wf S.nb) : ∃ S', _root_.Go.Proofs.Ytioloobeakjbeaa.flush S (put1 l j C) = ⟨0, S', (put1 l j C).clean⟩ ∧ Inv fl l (j + 1) S' (put1 l j C).clean := by
  obtain ⟨S', h1, h2, h3, h4, h5, _, h6⟩ := flush_ok h.pw hS hC
  have hfl0 : ∀ n, flm fl j n = false := fun n => by unfold flm; simp; omega
  have hfl1 : ∀ n, flm fl (j + 1) n = decide (n ≤ j) := fun n => by
    unfold flm
    congr 1
    apply propext
    constructor
    · rintro ⟨a, b, c⟩; omega
    · intro a; exact ⟨by omega, by omega, by omega⟩
  have hmem : ∀ i ∈ (put1 l j C).clean.L, ∃ k ∈ (put1 l j C).L, i = { k with dirty := false } := fun i hi => by
    obtain ⟨k, hk, e⟩ := List.mem_map.1 hi
    exact ⟨k, hk, e.symm⟩
  refine ⟨S', h1, h2, h4.trans h.nb, h.size, ?_, fun i hi => ?_, fun i hi => ?_, fun n hn => ?_, ⟨by have := h.cnt.1; show C.hits + (C.misses + 1) ≤ j + 1; omega, h.cnt.2⟩, ?_⟩
  · rw [← h.ns1]
    unfold Ca.clean
    simp only [List.map_map]
    rfl
  · obtain ⟨k, hk, rfl⟩ := hmem i hi
    exact (h.mem1 k hk).1
  · obtain ⟨k, hk, rfl⟩ := hmem i hi
    have := (h.mem1 k hk).2.1
    rw [hfl1]
    simp [this]
  · rw [h6 n (by rw [h.nb]; exact hn), hfl1]
    by_cases e : n ≤ j
    · have hin : n ∈ (put1 l j C).L.map It.n := by rw [h.ns1]; exact List.mem_range.2 (by omega)
      obtain ⟨k, hk, hkn⟩ := List.mem_map.1 hin
      have hkd : k.dirty = true := by
        rcases (h.mem1 k hk).2.2 with e2 | e2
        · rw [h.dirty k e2, hfl0]; rfl
        · subst e2; rfl
      have hd : (put1 l j C).isDirty n = true := by unfold Ca.isDirty; exact List.any_eq_true.2 ⟨k, hk, by simp [hkn, hkd]⟩
      rw [if_pos hd]
      have := Ca.item_of hC hk
      rw [hkn] at this
      rw [this, (h.mem1 k hk).1, hkn]
      simp [e]
    · have hd : ¬ (put1 l j C).isDirty n = true := fun hd => by
        unfold Ca.isDirty at hd
        obtain ⟨k, hk, hc⟩ := List.any_eq_true.1 hd
        simp only [Bool.and_eq_true, beq_iff_eq] at hc
        have := (h.mem1 k hk).2.1
        omega
      rw [if_neg hd, h.disk n hn, hfl0]
      simp [e]
  · rw [h5]
    have := h.wr
    have hl : ((put1 l j C).dirties S.nb).length ≤ S.nb := by
      have := List.length_filter_le (fun n => (put1 l j C).isDirty n) (List.range S.nb)
      rwa [List.length_range] at this
    rw [h.nb] at hl
    rw [h.nb]
    omega

/-- The second loop: what is held anew. -/
structure Get2 (i k : Nat) (C : Ca) : Prop where
  size : C.size = 30
  ns : C.L.map It.n = List.range i
  cnt : C.hits + C.misses ≤ k + i ∧ C.evicted = 0
theorem Get2.get {i k : Nat} {S : St} {C : Ca} (hp : Pw S) (hnb : S.nb = 20) (h : Get2 i k C) (hi : i < 20) : _root_.Go.Proofs.Ytioloobeakjbeaa.get S C i = ⟨0, S, C.add i (S.last i)⟩ ∧ getB S C i = S.last i ∧ Get2 (i + 1) k (C.add i (S.last i)) := by
  have hg := get_room hp (C := C) (n := i) (by rw [hnb]; exact hi) (Ca.not_has (fun j hj e => by have := ns_lt h.ns j hj; omega)) (by rw [ns_len h.ns, h.size]; omega)
  refine ⟨hg.1, hg.2, h.size, ?_, ?_⟩
  · unfold Ca.add
    simp only [List.map_append, h.ns, List.map_cons, List.map_nil, List.range_succ]
  · have := h.cnt
    exact ⟨by show C.hits + (C.misses + 1) ≤ _; omega, this.2⟩
end Loses
open Loses

theorem full_nil : full [] = zeros 512 := by
  unfold full zeros
  rw [List.eq_replicate_iff]
  refine ⟨by simp, fun b hb => ?_⟩
  obtain ⟨j, _, rfl⟩ := List.mem_map.1 hb
  simp

/-- A byte of the argument. -/
theorem Bs.byte {w : World} {va : Option Addr} {n vc j : Nat} {l : List Int} (h : Bs w (.slice va n vc) l) (hj : j < l.length) : ∃ b off, va = some ⟨b, off, none⟩ ∧ w.cell? ⟨b, off + j, none⟩ = some (.int .u8 (l.getD j 0)) := by
  obtain ⟨b, off, e, hc⟩ := h.at hj
  exact ⟨b, off, e, hc j hj⟩

set_option maxHeartbeats 6400000 in
set_option maxRecDepth 100000 in
theorem law_loses (v : Value) (l : List Int) (fl : Int) (w : World) (hv : Bs w v l) : Calls Try.prog 7 #[v, .int .i64 fl] w fun e w' => e = .returned (.bool true) ∧ Chg (fun _ => False) w w' := by
  obtain ⟨va, vc, hvf, hvc⟩ := hv.form
  subst hvf
  have HV : Hid (Bs w (.slice va l.length vc) l) := hv
  clear hv
  go_enter Try.func7, Try.ntmps7
  go_wp2_with fail
  refine (known_any w).mono ?_
  rintro e w0 ⟨rfl, hc0⟩
  have HC0 : Hid (Chg (fun _ => False) w w0) := hc0
  clear hc0
  by_cases hlen : 20 < l.length
  · have k1 : decide ((20 : Int) < (l.length : Int)) = true := by simp; omega
    go_wp2
    go_ret
    exact ⟨rfl, HC0.out⟩
  have k1 : decide ((20 : Int) < (l.length : Int)) = false := by simp; omega
  have hle : l.length ≤ 20 := by omega
  go_wp2_with fail
  refine (new_ok 20 w0 (by decide) (by decide)).mono ?_
  rintro e w1 ⟨F, p, rfl, h1, hc1, hF⟩
  have H1 : Hid (Dk w1 F p (St.new 20) ∧ Chg (fun _ => False) w0 w1 ∧ ∀ b, F b → w0.heap.size ≤ b) := ⟨h1, hc1, hF⟩
  clear h1 hc1 hF
  go_wp2_with fail
  refine (cnew_ok p 30 20 w1 (by decide) (by decide) (by decide)).mono ?_
  rintro e w2 ⟨c, G, m, r, nd, rfl, h2, hc2, hG⟩
  have h20 := Cc.start H1.out.1 H1.out.2.1 H1.out.2.2 h2 hc2 hG
  have hs0 := HC0.out.size
  have H2 : Hid (Cc w2 F G c p (St.new 20) (Ca.new 30) ∧ Nw F G w w2) := ⟨h20.1, HC0.out.trans h20.2.chg (fun _ _ h => h), fun b hb => by have := h20.2.f b hb; omega⟩
  have hq := eq32_some' ⟨c, 0, none⟩
  clear h2 hc2 hG H1 h20 hs0 k1 hlen
  go_wp2_with fail
  go_loopg [9] (l.length) (fun gg x wr => ∃ (j : Nat) (F G : Nat → Prop) (S : St) (C : Ca), j ≤ l.length ∧ x = .int .i64 (j : Int) ∧ l.length - j ≤ gg ∧ Hid (Cc wr F G c p S C ∧ Nw F G w wr ∧ Inv fl l j S C))
  case atStart => exact ⟨0, F, G, _, _, Nat.zero_le _, rfl, by omega, H2.out.1, H2.out.2, Inv.new fl l⟩
  case round =>
    clear H2
    obtain ⟨j, F, G, S, C, hj, rfl, hgg, HX⟩ := hrel
    by_cases hlt : j < l.length
    · have k1 : decide ((j : Int) < (l.length : Int)) = true := by simp; omega
      have k1' : (j : Int) < (l.length : Int) := by omega
      obtain ⟨vb, vo, hva, hcell⟩ := (HV.out.kept HX.out.2.1.chg (fun _ _ _ _ _ h => h)).byte hlt
      subst hva
      have hput := HX.out.2.2.put (by omega)
      have HP : Hid (_root_.Go.Proofs.Ytioloobeakjbeaa.put S C j (V l j) = ⟨0, S, put1 l j C⟩ ∧ V l j = full [l.getD j 0, 1]) := ⟨hput, rfl⟩
      have hcnt := HX.out.2.2.cnt
      have hwr := HX.out.2.2.wr
      generalize l.getD j 0 = x at *
      clear hput
      go_wp2_with fail
      refine (full_any _ [x, 1] _ (Bs.two wr x 1) (by show 2 ≤ _; decide)).mono ?_
      rintro e w3 ⟨u, rfl, fr⟩
      obtain ⟨ua, uc, rfl, hu⟩ := fr.form
      rw [← HP.out.2] at fr
      have N3 := HX.out.1.full (Chg.alloc (fun _ => False) wr _) fr
      have H3 : Hid (Cc w3 F G c p S C ∧ Bs w3 (.slice ua 512 uc) (V l j) ∧ (∀ g, (Value.slice ua 512 uc).ownBlock = some g → ¬ F g ∧ ¬ G g) ∧ Nw F G w w3) := ⟨N3.1, N3.2.1, N3.2.2.1, HX.out.2.1.more N3.2.2.2⟩
      clear fr N3 hcell
      go_wp2_with fail
      refine (put_any F G c p S C j _ (V l j) w3 H3.out.1 H3.out.2.1 H3.out.2.2.1 (by omega) (by omega) (by omega)).mono ?_
      rintro e w4 ⟨rfl, F4, G4, h4, g4⟩
      rw [HP.out.1] at h4 ⊢
      have H4 : Hid (Cc w4 F4 G4 c p S (put1 l j C) ∧ Nw F4 G4 w w4) := ⟨h4, H3.out.2.2.2.to g4⟩
      clear H3 h4 g4 hu
      by_cases hfl : (j : Int) = fl
      · have k2 : ((j : Int) == fl) = true := by simpa using hfl
        obtain ⟨S', hfe, hinv⟩ := HX.out.2.2.flush hfl (by omega) H4.out.1.wf.1 H4.out.1.wf.2
        have HF : Hid (_root_.Go.Proofs.Ytioloobeakjbeaa.flush S (put1 l j C) = ⟨0, S', (put1 l j C).clean⟩ ∧ Inv fl l (j + 1) S' (put1 l j C).clean) := ⟨hfe, hinv⟩
        subst hfl
        clear hfe hinv
        go_wp2_with fail
        refine (flush_any F4 G4 c p S (put1 l j C) w4 H4.out.1 (by omega)).mono ?_
        rintro e w5 ⟨rfl, F5, G5, h5, g5⟩
        rw [HF.out.1] at h5 ⊢
        have H5 : Hid (Cc w5 F5 G5 c p S' (put1 l j C).clean ∧ Nw F5 G5 w w5) := ⟨h5, H4.out.2.to g5⟩
        clear h5 g5
        go_wp2
        go_roundg (l.length - (j + 1))
        case measure => omega
        case rel => exact ⟨j + 1, F5, G5, S', _, by omega, by go_num, Nat.le_refl _, H5.out.1, H5.out.2, HF.out.2⟩
      · have k2 : ((j : Int) == fl) = false := by simpa using hfl
        have HN : Hid (Inv fl l (j + 1) S (put1 l j C)) := HX.out.2.2.next hfl
        clear hfl
        go_wp2
        go_roundg (l.length - (j + 1))
        case measure => omega
        case rel => exact ⟨j + 1, F4, G4, S, _, by omega, by go_num, Nat.le_refl _, H4.out.1, H4.out.2, HN.out⟩
    · have hje : j = l.length := by omega
      subst hje
      have k1 : decide ((l.length : Int) < (l.length : Int)) = false := by simp
      obtain ⟨m, r, ls, nd, hck⟩ := HX.out.1
      have HD : Hid (Ck wr F G c p S C m r ls nd) := hck
      clear hck
      go_wp2_with fail
      refine (drop_any G c p S.nb C m r ls nd wr HD.out.ca).mono ?_
      rintro e w3 ⟨rfl, G3, m3, r3, nd3, ca3, cg3, gg3⟩
      have hdk3 := HD.out.dk.kept cg3 (fun b hf hg => HD.out.no b hf hg)
      have hno3 : ∀ b, F b → ¬ G3 b := fun b hf hg => by
        rcases gg3 b hg with e | e
        · exact HD.out.no b hf e
        · have := HD.out.dk.lt b hf; omega
      have hnw3 : Nw F G3 w w3 := HX.out.2.1.to ⟨cg3.mono (fun b _ h => .inr h), fun b h => .inl h, gg3⟩
      have H3 : Hid (CaAt w3 G3 c p S.nb C.drop m3 r3 [] nd3 ∧ Dk w3 F p S ∧ (∀ b, F b → ¬ G3 b) ∧ Nw F G3 w w3) := ⟨ca3, hdk3, hno3, hnw3⟩
      clear ca3 cg3 gg3 hdk3 hno3 hnw3
      go_wp2_with fail
      have hh0 : C.drop.held S.nb = [] := by unfold Ca.held; rw [List.filter_eq_nil_iff]; intro n _ h; simp [Ca.has, Ca.drop] at h
      have hd0 : C.drop.dirties S.nb = [] := by unfold Ca.dirties; rw [List.filter_eq_nil_iff]; intro n _ h; simp [Ca.isDirty, Ca.drop] at h
      refine (held_any G3 c p S.nb C.drop m3 r3 [] nd3 w3 H3.out.1).mono ?_
      rintro e w4 ⟨v4, rfl, ho4, hc4⟩
      rw [hh0] at ho4
      obtain ⟨a4, cp4, hv4⟩ : ∃ a cp, v4 = .slice a 0 cp := by
        rcases ho4.2 with ⟨hv, _⟩ | ⟨g, cap, cur, hv, _⟩
        · exact ⟨_, _, hv⟩
        · exact ⟨_, _, hv⟩
      subst hv4
      have H4 : Hid (CaAt w4 G3 c p S.nb C.drop m3 r3 [] nd3 ∧ Dk w4 F p S ∧ Nw F G3 w w4) := ⟨H3.out.1.kept hc4 (fun _ _ h => h), H3.out.2.1.kept hc4 (fun _ _ h => h), H3.out.2.2.2.more hc4⟩
      clear ho4 hc4
      go_wp2_with fail
      refine (dirty_any G3 c p S.nb C.drop m3 r3 [] nd3 w4 H4.out.1).mono ?_
      rintro e w5 ⟨v5, rfl, ho5, hc5⟩
      rw [hd0] at ho5
      obtain ⟨a5, cp5, hv5⟩ : ∃ a cp, v5 = .slice a 0 cp := by
        rcases ho5.2 with ⟨hv, _⟩ | ⟨g, cap, cur, hv, _⟩
        · exact ⟨_, _, hv⟩
        · exact ⟨_, _, hv⟩
      subst hv5
      have H5 : Hid (Cc w5 F G3 c p S C.drop ∧ Nw F G3 w w5 ∧ Inv fl l l.length S C) := ⟨⟨_, _, _, _, H4.out.2.1.kept hc5 (fun _ _ h => h), H4.out.1.kept hc5 (fun _ _ h => h), H3.out.2.2.1⟩, H4.out.2.2.more hc5, HX.out.2.2⟩
      clear ho5 hc5 H4 H3 HD HX hh0 hd0
      go_wp2_with fail
      go_loopg [10, 11, 12, 13] (l.length) (fun gg x _ _ _ wr => ∃ (i : Nat) (F G : Nat → Prop) (D : Ca), i ≤ l.length ∧ x = .int .i64 (i : Int) ∧ l.length - i ≤ gg ∧ Hid (Cc wr F G c p S D ∧ Nw F G w wr ∧ Get2 i 20 D))
      case atStart =>
        refine ⟨0, F, G3, C.drop, Nat.zero_le _, rfl, by omega, H5.out.1, H5.out.2.1, H5.out.2.2.size, rfl, ?_, H5.out.2.2.cnt.2⟩
        have := H5.out.2.2.cnt.1
        show C.hits + C.misses ≤ 20 + 0
        omega
      case round =>
        have HI : Hid (Inv fl l l.length S C) := H5.out.2.2
        clear H5
        obtain ⟨i, F, G, D, hi, rfl, hgg, HX⟩ := hrel
        by_cases hlt : i < l.length
        · have k1 : decide ((i : Int) < (l.length : Int)) = true := by simp; omega
          have k1' : (i : Int) < (l.length : Int) := by omega
          obtain ⟨hget, hgb, h2⟩ := HX.out.2.2.get HI.out.pw HI.out.nb (by omega)
          have HG : Hid (_root_.Go.Proofs.Ytioloobeakjbeaa.get S D i = ⟨0, S, D.add i (S.last i)⟩ ∧ getB S D i = S.last i ∧ Get2 (i + 1) 20 (D.add i (S.last i)) ∧ S.last i = if flm fl l.length i then V l i else zeros 512) := ⟨hget, hgb, h2, HI.out.disk i (by omega)⟩
          have hcnt := HX.out.2.2.cnt
          have hwr := HI.out.wr
          clear hget hgb h2
          go_wp2_with fail
          refine (get_any F G c p S D i wr HX.out.1 (by omega) (by omega) (by omega)).mono ?_
          rintro e w3 ⟨ux, F3, G3, rfl, h3, g3, b3, _⟩
          rw [HG.out.1] at h3 ⊢
          rw [HG.out.2.1] at b3
          have H3 : Hid (Cc w3 F3 G3 c p S (D.add i (S.last i)) ∧ Nw F3 G3 w w3 ∧ Bs w3 ux (S.last i)) := ⟨h3, HX.out.2.1.to g3, b3⟩
          clear h3 g3 b3 HX
          go_wp2_with fail
          refine (full_any (.slice none 0 0) [] w3 (.inl ⟨rfl, rfl⟩) (by show 0 ≤ _; decide)).mono ?_
          rintro e w4 ⟨u4, rfl, fr4⟩
          have H4 : Hid (Cc w4 F3 G3 c p S (D.add i (S.last i)) ∧ Nw F3 G3 w w4 ∧ Bs w4 ux (S.last i) ∧ Bs w4 u4 (zeros 512)) := ⟨H3.out.1.kept fr4.chg (fun _ _ h => h), H3.out.2.1.more fr4.chg, H3.out.2.2.kept fr4.chg (fun _ _ _ _ _ h => h), by rw [← full_nil]; exact fr4.bs⟩
          clear fr4 H3
          obtain ⟨T, hT⟩ : ∃ T, strOf (S.last i) = T := ⟨_, rfl⟩
          have s1 : (convert 39 9 ux).run Try.prog w4 = .ok (.string T) w4 := by rw [← hT]; exact run_str H4.out.2.2.1
          have HT : Hid (strOf (S.last i) = T) := hT
          clear hT
          have fin : ∀ (u : Value) (W : World), Hid (Cc W F3 G3 c p S (D.add i (S.last i)) ∧ Nw F3 G3 w W) → True := fun _ _ _ => trivial
          clear fin
          by_cases hf : 0 ≤ fl ∧ fl < l.length ∧ (i : Int) ≤ fl
          · have hfm : flm fl l.length i = true := by unfold flm; simpa using hf
            have q1 : decide (0 ≤ fl) = true := by simpa using hf.1
            have q2 : decide (fl < (l.length : Int)) = true := by simpa using hf.2.1
            have q3 : decide ((i : Int) ≤ fl) = true := by simpa using hf.2.2
            have hSV : S.last i = V l i := by have := HG.out.2.2.2; rw [hfm] at this; exact this
            have HSV : Hid (S.last i = V l i ∧ V l i = full [l.getD i 0, 1]) := ⟨hSV, rfl⟩
            obtain ⟨vb, vo, hva, hcell⟩ := (HV.out.kept H4.out.2.1.chg (fun _ _ _ _ _ h => h)).byte hlt
            subst hva
            generalize l.getD i 0 = x at *
            clear hf hfm hSV s1
            go_wp2_with fail
            refine (full_any _ [x, 1] _ (Bs.two w4 x 1) (by show 2 ≤ _; decide)).mono ?_
            rintro e w5 ⟨u5, rfl, fr5⟩
            have c5 : Chg (fun _ => False) w4 w5 := (Chg.alloc (fun _ => False) w4 _).trans fr5.chg (fun _ _ h => h)
            have s1 : (convert 39 9 ux).run Try.prog w5 = .ok (.string T) w5 := by rw [← HT.out]; exact run_str (H4.out.2.2.1.kept c5 (fun _ _ _ _ _ h => h))
            have s2 : (convert 39 9 u5).run Try.prog w5 = .ok (.string T) w5 := by rw [← HT.out, HSV.out.1, HSV.out.2]; exact run_str fr5.bs
            have H5 : Hid (Cc w5 F3 G3 c p S (D.add i (S.last i)) ∧ Nw F3 G3 w w5) := ⟨H4.out.1.kept c5 (fun _ _ h => h), H4.out.2.1.more c5⟩
            clear c5 fr5 hcell
            go_wp2
            go_roundg (l.length - (i + 1))
            case measure => omega
            case rel => exact ⟨i + 1, F3, G3, _, by omega, by go_num, Nat.le_refl _, H5.out.1, H5.out.2, HG.out.2.2.1⟩
          · have hfm : flm fl l.length i = false := by unfold flm; simpa using hf
            have hSV : S.last i = zeros 512 := by have := HG.out.2.2.2; rw [hfm] at this; exact this
            have s2 : (convert 39 9 u4).run Try.prog w4 = .ok (.string T) w4 := by rw [← HT.out, hSV]; exact run_str H4.out.2.2.2
            clear hSV hfm
            by_cases q1 : 0 ≤ fl
            · have q1' : decide (0 ≤ fl) = true := by simpa using q1
              by_cases q2 : fl < (l.length : Int)
              · have q2' : decide (fl < (l.length : Int)) = true := by simpa using q2
                have q3' : decide ((i : Int) ≤ fl) = false := by simp; omega
                clear hf q1 q2
                go_wp2
                go_roundg (l.length - (i + 1))
                case measure => omega
                case rel => exact ⟨i + 1, F3, G3, _, by omega, by go_num, Nat.le_refl _, H4.out.1, H4.out.2.1, HG.out.2.2.1⟩
              · have q2' : decide (fl < (l.length : Int)) = false := by simpa using q2
                clear hf q1 q2
                go_wp2
                go_roundg (l.length - (i + 1))
                case measure => omega
                case rel => exact ⟨i + 1, F3, G3, _, by omega, by go_num, Nat.le_refl _, H4.out.1, H4.out.2.1, HG.out.2.2.1⟩
            · have q1' : decide (0 ≤ fl) = false := by simpa using q1
              clear hf q1
              go_wp2
              go_roundg (l.length - (i + 1))
              case measure => omega
              case rel => exact ⟨i + 1, F3, G3, _, by omega, by go_num, Nat.le_refl _, H4.out.1, H4.out.2.1, HG.out.2.2.1⟩
        · have hie : i = l.length := by omega
          subst hie
          have k1 : decide ((l.length : Int) < (l.length : Int)) = false := by simp
          have HE : Hid (Chg (fun _ => False) w wr) := HX.out.2.1.chg
          clear HX HI
          go_wp2
          go_ret
          exact ⟨rfl, HE.out⟩
end Go.Proofs.Ytioloobeakjbeaa
