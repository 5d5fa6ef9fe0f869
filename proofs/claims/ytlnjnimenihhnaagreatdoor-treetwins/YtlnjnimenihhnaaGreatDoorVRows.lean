/-
  The document's tree: the rows that its Walk tells, as they lie.
-/
import Derived.Test.YtlnjnimenihhnaaGreatDoorVTwin
import Derived.Test.YtlnjnimenihhnaaGreatDoorTLs
namespace Go.Proofs.YtlnjnimenihhnaaGreatDoor
open Go.RowKit Go.Maps

theorem infoRow : (Tryz.prog.info? 96).map (fun i => (i.size, i.bytes)) = some (5, 56) := by kernel_rfl
theorem infoRowZ : ((Tryz.prog.info? 96).bind fun i => i.zero) = some (.agg #[.string ⟨#[]⟩, .bool false, .int .i64 0, .int .i64 0, .string ⟨#[]⟩]) := by kernel_rfl
/-- A file's bytes as a text. -/
def bytB : Option Nd → ByteArray
  | some (.file bs) => strC bs
  | _ => ⟨#[]⟩
/-- A row's cells. -/
def rwC (F : Pth → Option Nd) (x : ByteArray × Pth) : List Value := [.string x.1, .bool (infD (F x.2)).1, .int .i64 (infD (F x.2)).2.1, .int .i64 (infD (F x.2)).2.2, .string (bytB (F x.2))]
theorem rwC_len (F : Pth → Option Nd) (l : List (ByteArray × Pth)) : (l.flatMap (rwC F)).length = l.length * 5 := by
  induction l with
  | nil => rfl
  | cons x r ih => rw [List.flatMap_cons, List.length_append, ih]; simp [rwC]; omega
theorem sortL_perm {a b : List (List UInt8)} (h : a.Perm b) : sortL a = sortL b := by
  have tr : ∀ a b c : List UInt8, decide (a ≤ b) = true → decide (b ≤ c) = true → decide (a ≤ c) = true := by
    intro a b c h1 h2
    simp only [decide_eq_true_eq] at *
    exact List.le_trans h1 h2
  have tot : ∀ a b : List UInt8, (decide (a ≤ b) || decide (b ≤ a)) = true := by
    intro a b
    simp only [Bool.or_eq_true, decide_eq_true_eq]
    exact List.le_total a b
  refine List.Perm.eq_of_pairwise (le := fun a b => decide (a ≤ b) = true) (fun a b _ _ h1 h2 => ?_) (List.pairwise_mergeSort tr tot a) (List.pairwise_mergeSort tr tot b) (((List.mergeSort_perm a _).trans h).trans (List.mergeSort_perm b _).symm)
  simp only [decide_eq_true_eq] at h1 h2
  exact List.le_antisymm h1 h2
/-- A directory's names, sorted. -/
theorem Sl.sorted {es : List En} {s : Nat} {kn : List ByteArray} {f : ByteArray → Nat} (h : Sl es s kn f) : sortL (namesL es) = nmL kn := sortL_perm h.perm
theorem rowsP_file {F : Pth → Option Nd} {p : Pth} (h : ∀ s kn, ¬ F p = some (.dir s kn)) (d : Nat) (at' : ByteArray) : rowsP F d p at' = [] := by
  cases d with
  | zero => rfl
  | succ d =>
    rw [rowsP_succ]
    have : nmOf F p = [] := by
      unfold nmOf
      split
      · rename_i s kn e
        exact absurd e (h _ _)
      · rfl
    rw [this]
    rfl
/-- A row is appended. -/
theorem run_appRow {w : World} {N n g : Nat} {v : Value} {xs cs : List Value} (hown : w.ownsRow N 96 5 v n xs) (hg : w.heap[g]? = some (.cells cs.toArray 96 (0, 0))) (hcs : cs.length = 5) (h1 : ∀ u ∈ cs, u.oneCell' = true) (hn : n ≤ 1000000) (hN : N ≤ w.heap.size) :
    ∃ a c w', (appV #[82, 82] 82 #[v, .slice (some ⟨g, 0, none⟩) 1 1]).run Tryz.prog w = .ok (.slice a (n + 1) c) w' ∧ w'.ownsRow N 96 5 (.slice a (n + 1) c) (n + 1) (xs ++ cs) ∧ Below N w w' ∧ Chg (fun k => v.ownBlock = some k) w w' ∧ (∀ b, (Value.slice a (n + 1) c).ownBlock = some b → v.ownBlock = some b ∨ w.heap.size ≤ b) := by
  obtain ⟨i0, hi, hs, hb, hz⟩ : ∃ i, Tryz.prog.info? 96 = some i ∧ i.size = 5 ∧ i.bytes = 56 ∧ i.zero = some (.agg #[.string ⟨#[]⟩, .bool false, .int .i64 0, .int .i64 0, .string ⟨#[]⟩]) := by
    have h := infoRow
    have hz := infoRowZ
    cases hi : Tryz.prog.info? 96 with
    | none => rw [hi] at h; cases h
    | some i =>
      rw [hi] at h hz
      simp only [Option.map_some, Option.some.injEq, Prod.mk.injEq] at h
      exact ⟨i, rfl, h.1, h.2, hz⟩
  have ad : ∀ k, (⟨g, 0, none⟩ : Addr).add k = ⟨g, 0 + k, none⟩ := by intro k; unfold Addr.add; split <;> simp_all
  obtain ⟨v', w', r1, r2, r3, r4, r5⟩ := run_append_own_at (P := Tryz.prog) w N 82 82 96 i0 _ 5 56 Tryz.underlying82 hi hz hs hb rfl (by decide) v n xs hown ⟨g, 0, none⟩ 1 1 cs (by rw [hcs])
    (fun j u hu => by
      rw [ad, cell_of_row _ _ _ _ _ _ hg]
      simpa using hu) h1 (by unfold maxLen; omega) (by omega) hN
  have hB : Below N w w' := (Chg.ofGrown r3).below hN fun k hk => by
    rcases hown.2 with ⟨rfl, _⟩ | ⟨g, cap, cur, rfl, hb, _⟩
    · cases hk
    · have : g = k := by simpa [Value.ownBlock] using hk
      omega
  rcases r2.2 with ⟨_, h⟩ | ⟨g', c', cur, rfl, _⟩
  · omega
  · exact ⟨_, _, w', r1, r2, hB, Chg.ofGrown r3, fun b hb => r5.elim (fun e => .inl (by rw [← e]; exact hb)) (fun e => .inr (by rw [e] at hb; cases hb; exact Nat.le_refl _))⟩
end Go.Proofs.YtlnjnimenihhnaaGreatDoor

namespace Go.Proofs.YtlnjnimenihhnaaGreatDoor
open Go.RowKit Go.Maps
attribute [local go_sem ↓] appV_eq

def subR (F : Pth → Option Nd) (d : Nat) (p : Pth) (at' : ByteArray) (x : List UInt8) : List (ByteArray × Pth) := (joinT at' x, p ++ [nmX x]) :: rowsP F d (p ++ [nmX x]) (joinT at' x)
/-- What rows leaves. -/
def RowP (F : Pth → Option Nd) (N : Nat) (w : World) (v : Value) (n : Nat) (xs : List Value) (l : List (ByteArray × Pth)) (e : Ending) (w' : World) : Prop :=
  ∃ a c, e = .returned (.slice a (n + l.length : Nat) c) ∧ Hid (w'.ownsRow N 96 5 (.slice a (n + l.length) c) (n + l.length) (xs ++ l.flatMap (rwC F)) ∧ Below N w w' ∧ Chg (fun k => v.ownBlock = some k) w w' ∧ ∀ b, (Value.slice a (n + l.length) c).ownBlock = some b → v.ownBlock = some b ∨ w.heap.size ≤ b)
theorem own_farS {S : Nat → Prop} {w w' : World} {N T s n : Nat} {u : Value} {xs : List Value} (h : w.ownsRow N T s u n xs) (hc : Chg S w w') (hS : ∀ b, u.ownBlock = some b → ¬ S b) : w'.ownsRow N T s u n xs := by
  obtain ⟨h1, ⟨rfl, e⟩ | ⟨g, cap, cur, rfl, hb, hg, r⟩⟩ := h
  · exact ⟨h1, .inl ⟨rfl, e⟩⟩
  · exact ⟨h1, .inr ⟨g, cap, cur, rfl, hb, (hc.block g (Array.getElem?_eq_some_iff.1 hg).1 (hS g rfl)).trans hg, r⟩⟩
section
variable {T : Ts} {R : Rs} {num : Pth → Nat} {K r q : Nat} {G : Nat → Prop}
/-- What a row tells of a thing. -/
theorem row_thing (w0 : World) (h : Rt w0 r q G R) (hD : Dt T R num K) (hK : K ≤ 60000) {p' : Pth} {nd : Nd} (hnd : T.F p' = some nd) :
    ∃ (D : Bool) (SZ KD : Int) (B : ByteArray) (cL : Nat) (a3 : Option Addr) (n3 d3 : Nat), infD (T.F p') = (D, SZ, KD) ∧ bytB (T.F p') = B ∧ num p' < R.L.length ∧ (D = true → ∃ s kn, T.F p' = some (.dir s kn)) ∧ (D = false → ∀ s kn, ¬ T.F p' = some (.dir s kn)) ∧
      ∀ w', Below w0.heap.size w0 w' → w'.cell? ⟨r, 0, none⟩ = some (.slice (some ⟨q, 0, none⟩) R.L.length cL) ∧ w'.cell? ⟨q, num p' * 4 + 1, none⟩ = some (.bool D) ∧ w'.cell? ⟨q, num p' * 4 + 2, none⟩ = some (.slice a3 n3 d3) ∧ (convert 33 9 (.slice a3 n3 d3)).run Tryz.prog w' = .ok (.string B) w' ∧
        Calls Tryz.prog 75 #[ptr r, .int .i64 (num p' : Nat)] w' fun e w9 => e = .returned (inV D SZ KD) ∧ Below w'.heap.size w' w9 := by
  cases nd with
  | dir s kn =>
    obtain ⟨es, h1, hS, hle⟩ := hD.dir hnd
    obtain ⟨hml, c, a, d, cL, c0, c1, c2, c3, hE, _⟩ := h.dirAt h1
    have e1 : (namesL es).length = kn.length := by have := hS.perm.length_eq; rwa [List.length_map] at this
    refine ⟨true, 0, kn.length, ⟨#[]⟩, c, none, 0, 0, by rw [hnd]; rfl, by rw [hnd]; rfl, hml, fun _ => ⟨s, kn, hnd⟩, (fun e => by cases e), fun w' hb => ?_⟩
    refine ⟨(hb.cell (World.block_lt_of_cell? w0 _ cL)).trans cL, (hb.cell (World.block_lt_of_cell? w0 _ c1)).trans c1, (hb.cell (World.block_lt_of_cell? w0 _ c2)).trans c2, run_strC (.inl ⟨rfl, rfl⟩), ?_⟩
    have := rinfo_dir h1 (by omega) (h.below hb)
    rw [e1] at this
    exact this
  | file bs =>
    have h1 := hD.tie.fil p' bs hnd
    obtain ⟨hml, c, a, d, cL, c0, c1, c2, c3, hE, _⟩ := h.fileAt h1
    refine ⟨false, bs.length, 0, strC bs, c, a, bs.length, d, by rw [hnd]; rfl, by rw [hnd]; rfl, hml, (fun e => by cases e), (fun _ s kn e => by rw [hnd] at e; cases e), fun w' hb => ?_⟩
    exact ⟨(hb.cell (World.block_lt_of_cell? w0 _ cL)).trans cL, (hb.cell (World.block_lt_of_cell? w0 _ c1)).trans c1, (hb.cell (World.block_lt_of_cell? w0 _ c2)).trans c2, run_strC (hE.under hb), rinfo_file h1 (h.below hb)⟩
set_option maxHeartbeats 3200000 in
set_option maxRecDepth 100000 in
theorem rrows_step (w0 : World) (h : Rt w0 r q G R) (hD : Dt T R num K) (hK : K ≤ 60000) (d : Nat) (p : Pth) (s : Nat) (kn : List ByteArray) (hp : T.F p = some (.dir s kn)) (at' : ByteArray) (hat : at'.size + 300 * d ≤ 1000000000)
    (IH : ∀ x ∈ nmL kn, ∀ s' kn', T.F (p ++ [nmX x]) = some (.dir s' kn') → ∀ w v n xs, Below w0.heap.size w0 w → w.ownsRow w0.heap.size 96 5 v n xs → n + (rowsP T.F d (p ++ [nmX x]) (joinT at' x)).length ≤ 1000000 →
      Calls Tryz.prog 72 #[ptr r, .int .i64 (num (p ++ [nmX x]) : Nat), .string (joinT at' x), v] w (RowP T.F w0.heap.size w v n xs (rowsP T.F d (p ++ [nmX x]) (joinT at' x))))
    (w : World) (v : Value) (n : Nat) (xs : List Value) (HB : Below w0.heap.size w0 w) (hv : w.ownsRow w0.heap.size 96 5 v n xs) (hn : n + ((nmL kn).flatMap (subR T.F d p at')).length ≤ 1000000) :
    Calls Tryz.prog 72 #[ptr r, .int .i64 (num p : Nat), .string at', v] w (RowP T.F w0.heap.size w v n xs ((nmL kn).flatMap (subR T.F d p at'))) := by
  obtain ⟨es, h1, hS, hle⟩ := hD.dir hp
  obtain ⟨m, Hm⟩ : ∃ m, Hid (num p = m) := ⟨_, rfl⟩
  rw [Hm.out] at h1 ⊢
  obtain ⟨hml, cc, a1, d1, cL, c0, c1, c2, c3, hE, _, hf⟩ := (h.below HB).dirAt h1
  have q2 : (m : Int) < R.L.length := by omega
  have HR : Hid (Rt w0 r q G R ∧ Dt T R num K ∧ Below w0.heap.size w0 w ∧ w.ownsRow w0.heap.size 96 5 v n xs) := ⟨h, hD, HB, hv⟩
  obtain ⟨av, cv, rfl⟩ : ∃ av cv, v = .slice av n cv := by
    rcases hv.2 with ⟨rfl, rfl⟩ | ⟨g, cap, cur, rfl, _⟩
    · exact ⟨_, _, rfl⟩
    · exact ⟨_, _, rfl⟩
  have HN : Hid (Calls Tryz.prog 66 #[.slice a1 es.length d1] w fun e w' => ∃ a c, e = .returned (.slice a (nmL kn).length c) ∧ Hid (w'.ownsRow w.heap.size 9 1 (.slice a (nmL kn).length c) (nmL kn).length ((nmL kn).map encStr) ∧ Below w.heap.size w w')) := (rnames_any _ es w hE (by omega)).mono (by
    rintro e w' ⟨u, rfl, ho, hb⟩
    have e1 : (namesL es).length = (nmL kn).length := by rw [← hS.sorted, sortL_len]
    rw [e1, hS.sorted] at ho
    obtain ⟨a, c, rfl⟩ := own_sl1 ho
    exact ⟨a, c, rfl, ho, hb⟩)
  have HI : Hid (∀ x ∈ nmL kn, ∀ s' kn', T.F (p ++ [nmX x]) = some (.dir s' kn') → ∀ w v n xs, Below w0.heap.size w0 w → w.ownsRow w0.heap.size 96 5 v n xs → n + (rowsP T.F d (p ++ [nmX x]) (joinT at' x)).length ≤ 1000000 →
      Calls Tryz.prog 72 #[ptr r, .int .i64 (num (p ++ [nmX x]) : Nat), .string (joinT at' x), v] w (RowP T.F w0.heap.size w v n xs (rowsP T.F d (p ++ [nmX x]) (joinT at' x)))) := IH
  have HL : Hid (n + ((nmL kn).flatMap (subR T.F d p at')).length ≤ 1000000) := hn
  have HS : Hid (Sl es s kn fun x => num (p ++ [x])) := hS
  have hkl : (nmL kn).length ≤ 1000000 := by
    have : ∀ l : List (List UInt8), l.length ≤ (l.flatMap (subR T.F d p at')).length := by
      intro l
      induction l with
      | nil => exact Nat.zero_le _
      | cons x l ih => rw [List.flatMap_cons, List.length_append, List.length_cons]; simp only [subR, List.length_cons] at *; omega
    have := this (nmL kn)
    omega
  clear IH h hD HB hv hn hE hS hf c0 c1 c2
  go_enter Tryz.func72, Tryz.ntmps72
  go_wp2_with fail
  refine HN.out.mono ?_
  clear HN
  rintro e w1 ⟨an, cn, rfl, HN⟩
  clear c3 cL
  go_wp2_with fail
  go_loopw [3, 10] (fun u i wr => ∃ k : Nat, k ≤ (nmL kn).length ∧ i = .int .i64 k ∧ ∃ a c, u = .slice a (n + (((nmL kn).take k).flatMap (subR T.F d p at')).length : Nat) c ∧ Hid (wr.ownsRow w0.heap.size 96 5 (.slice a (n + (((nmL kn).take k).flatMap (subR T.F d p at')).length) c) (n + (((nmL kn).take k).flatMap (subR T.F d p at')).length) (xs ++ (((nmL kn).take k).flatMap (subR T.F d p at')).flatMap (rwC T.F)) ∧ Chg (fun k => (Value.slice av n cv).ownBlock = some k) w1 wr ∧ (∀ b, (Value.slice a (n + (((nmL kn).take k).flatMap (subR T.F d p at')).length) c).ownBlock = some b → (Value.slice av n cv).ownBlock = some b ∨ w1.heap.size ≤ b))) (fun _ i _ => (nmL kn).length - (intOf i).toNat)
  case atStart =>
    refine ⟨0, Nat.zero_le _, rfl, av, cv, rfl, ?_, Chg.refl _ _, fun b hb => .inl hb⟩
    have h0 := own_farS HR.out.2.2.2 (Chg.ofBelowC HN.out.2) (fun _ _ h => h)
    simpa [rwC] using h0
  case round =>
    obtain ⟨k, hk, rfl, au, cu, rfl, hH⟩ := hrel
    by_cases hlt : k < (nmL kn).length
    · have q1 : (k : Int) < (nmL kn).length := by omega
      obtain ⟨o1, o2, o3⟩ := hH.out
      obtain ⟨h0, hD, HB, hv⟩ := HR.out
      have bw1 : Below w0.heap.size w0 w1 := HB.trans (HN.out.2.mono HB.size)
      have bwr : Below w0.heap.size w0 wr := bw1.trans (o2.below bw1.size (fun k hk => (hv.lt k hk).1))
      have hR' := h0.below bwr
      obtain ⟨x, hx⟩ : ∃ x, (nmL kn)[k]? = some x := ⟨_, List.getElem?_eq_getElem hlt⟩
      have hxm : x ∈ nmL kn := List.mem_of_getElem? hx
      have hy : nmX x ∈ kn := nmL_mem hxm
      have hnm := (hD.gd.nms p s kn hp).2.1 _ hy
      have hsm := hD.gd.dn p s kn _ hp hy
      have hm2 : num (p ++ [nmX x]) ≤ K := hD.lt hsm
      have hon := own_farS HN.out.1 o2 (fun b hb e => by
        have := (HN.out.1.lt b hb).1
        have := (hv.lt b e).2
        omega)
      have hcn : ∃ b, an = some ⟨b, 0, none⟩ ∧ wr.cell? ⟨b, k, none⟩ = some (.string (nmX x)) := by
        rcases hon.2 with ⟨e, e2⟩ | ⟨g, cap, cur, e, _, _⟩
        · omega
        · cases e
          refine ⟨g, rfl, ?_⟩
          rw [hon.cellAt k (by omega), List.getElem?_map, hx]
          rfl
      obtain ⟨bn, rfl, ccn⟩ := hcn
      obtain ⟨i, hi, hi2, hi3, hi4⟩ := HS.out.idx (nameB_parts hnm).1 hy
      obtain ⟨hml, cc', a1', d1', cL, c0, c1, c2, c3, hE, _, hf⟩ := hR'.dirAt h1
      have HA : Hid (∀ n, Calls Tryz.prog 60 #[.slice a1' es.length d1', .string (nmX x)] (wr.drewN n) fun e w' => e = .returned (.int .i64 (i : Int)) ∧ w' = wr.drewN n) := fun n =>
        (rat_any (.slice a1' es.length d1') es (nmX x) (wr.drewN n) (hE.more (Chg.drewN _ _ _)) (by omega)).mono (by
          rintro e w' ⟨r', rfl, hr', rfl⟩
          exact ⟨by rw [hr'.out.unique hi], rfl⟩)
      obtain ⟨b1, o1', rfl, hcell⟩ := hE.nth hi2
      have cn := (hcell i hi2).2
      obtain ⟨m2, Hm2⟩ : ∃ m2, Hid (num (p ++ [nmX x]) = m2) := ⟨_, rfl⟩
      have hy2 : (es.getD i En.fr).ino = (m2 : Int) + 1 := by rw [← Hm2.out]; exact hi4
      rw [hy2] at cn
      rw [Hm2.out] at hm2
      have q3 : (i : Int) < es.length := by omega
      have q4 : ¬ (i : Int) < 0 := by omega
      have HO : Hid (k < (nmL kn).length ∧ (nmL kn)[k]? = some x ∧ x ∈ nmL kn ∧ nameB (nmX x) = true ∧ (T.F (p ++ [nmX x])).isSome = true ∧ Below w0.heap.size w0 wr) := ⟨hlt, hx, hxm, hnm, hsm, bwr⟩
      clear hcell hE h0 hD HB hv bw1 bwr hR' hxm hy hnm hsm hon hi hi3 hi4 hy2 c0 c1 c2 hx o1 o2 o3
      obtain ⟨L, HLe⟩ : ∃ L, Hid (((nmL kn).take k).flatMap (subR T.F d p at') = L) := ⟨_, rfl⟩
      rw [HLe.out] at hH ⊢
      have sb1 : at'.size ≤ 1000000000 := by omega
      have sb2 : (nmX x).size ≤ 300 := by have := (nameB_parts HO.out.2.2.2.1); omega
      obtain ⟨y, HY⟩ : ∃ y, Hid (nmX x = y) := ⟨_, rfl⟩
      rw [HY.out] at sb2
      rw [HY.out] at HA ccn
      go_wp2_with fail
      go_quiet ((go_at_call 60; exact Calls.quiet_of_same (HA.out _)))
      go_wp2_with fail
      have bX : Below w0.heap.size w0 (wr.drewN nq) := HO.out.2.2.2.2.2.trans ((Chg.drewN (fun _ => False) wr nq).below HO.out.2.2.2.2.2.size (fun _ h => h.elim))
      have HH := hH.out
      obtain ⟨X, hX⟩ : ∃ X, Hid (wr.drewN nq = X) := ⟨_, rfl⟩
      have oX : X.ownsRow w0.heap.size 96 5 (.slice au (n + L.length) cu) (n + L.length) (xs ++ L.flatMap (rwC T.F)) := by
        rw [← hX.out]
        exact own_farS HH.1 (Chg.drewN (fun _ => False) wr nq) (fun _ _ h => h)
      have cX : Chg (fun k => (Value.slice av n cv).ownBlock = some k) w1 X := by
        rw [← hX.out]
        exact HH.2.1.trans ((Chg.drewN (fun _ => False) wr nq).mono (fun _ _ h => h.elim)) (fun _ _ h => h)
      have fX := HH.2.2
      rw [hX.out] at bX ⊢
      have HXX : Hid (Below w0.heap.size w0 X ∧ X.ownsRow w0.heap.size 96 5 (.slice au (n + L.length) cu) (n + L.length) (xs ++ L.flatMap (rwC T.F)) ∧ Chg (fun k => (Value.slice av n cv).ownBlock = some k) w1 X ∧ (∀ b, (Value.slice au (n + L.length) cu).ownBlock = some b → (Value.slice av n cv).ownBlock = some b ∨ w1.heap.size ≤ b)) := ⟨bX, oX, cX, fX⟩
      clear bX HH oX cX fX hX hH HA ccn c3 cn cL
      obtain ⟨nd, hnd⟩ : ∃ nd, T.F (p ++ [nmX x]) = some nd := Option.isSome_iff_exists.1 HO.out.2.2.2.2.1
      obtain ⟨Q, HQ⟩ : ∃ Q : ByteArray, Hid (joinT at' x = Q) := ⟨_, rfl⟩
      have HQ2 : Hid (at' ++ ⟨#[47]⟩ ++ y = Q) := by rw [← HQ.out, ← HY.out]; rfl
      rw [HQ2.out]
      obtain ⟨D, SZ, KD, B, cL, a3, n3, d3, e1, e2, hml2, e3, e4, HW⟩ := row_thing w0 HR.out.1 HR.out.2.1 hK hnd
      rw [Hm2.out] at hml2 HW
      have HIN : Hid (infD (T.F (p ++ [nmX x])) = (D, SZ, KD) ∧ bytB (T.F (p ++ [nmX x])) = B ∧ (D = true → ∃ s kn, T.F (p ++ [nmX x]) = some (.dir s kn)) ∧ (D = false → ∀ s kn, ¬ T.F (p ++ [nmX x]) = some (.dir s kn))) := ⟨e1, e2, e3, e4⟩
      have hXd : Below w0.heap.size w0 X.drew := HXX.out.1.trans ⟨rfl, rfl, rfl, Nat.le_refl _, fun _ _ => rfl⟩
      obtain ⟨x0, x1, x2, x3, HC⟩ := HW X.drew hXd
      have q5 : (m2 : Int) < R.L.length := by omega
      have hlen : n + L.length ≤ 1000000 := by
        have h1 := HL.out
        have h2 := HLe.out
        have h3 : L.length ≤ ((nmL kn).flatMap (subR T.F d p at')).length := by
          rw [← h2]
          conv => rhs; rw [← List.take_append_drop k (nmL kn)]
          rw [List.flatMap_append, List.length_append]
          omega
        omega
      have HINF : Hid (Calls Tryz.prog 75 #[ptr r, .int .i64 (m2 : Nat)] X.drew fun e w9 => e = .returned (inV D SZ KD) ∧ w9.cell? ⟨r, 0, none⟩ = some (.slice (some ⟨q, 0, none⟩) R.L.length cL) ∧ w9.cell? ⟨q, m2 * 4 + 2, none⟩ = some (.slice a3 n3 d3) ∧ (convert 33 9 (.slice a3 n3 d3)).run Tryz.prog w9 = .ok (.string B) w9 ∧
          ∃ a' c' w', (appV #[82, 82] 82 #[.slice au (n + L.length) cu, .slice (some ⟨w9.heap.size, 0, none⟩) 1 1]).run Tryz.prog (w9.alloc (.cells #[.string Q, .bool D, .int .i64 SZ, .int .i64 KD, .string B] 96)) = .ok (.slice a' (n + L.length + 1) c') w' ∧
            w'.cell? ⟨r, 0, none⟩ = some (.slice (some ⟨q, 0, none⟩) R.L.length cL) ∧ w'.cell? ⟨q, m2 * 4 + 1, none⟩ = some (.bool D) ∧
            Hid (Below w0.heap.size w0 w' ∧ w'.ownsRow w0.heap.size 96 5 (.slice a' (n + L.length + 1) c') (n + L.length + 1) (xs ++ (L ++ [(Q, p ++ [nmX x])]).flatMap (rwC T.F)) ∧ Chg (fun k => (Value.slice av n cv).ownBlock = some k) w1 w' ∧ (∀ b, (Value.slice a' (n + L.length + 1) c').ownBlock = some b → (Value.slice av n cv).ownBlock = some b ∨ w1.heap.size ≤ b))) := by
        refine HC.mono fun e w9 h9 => ?_
        have hb9 : Below w0.heap.size w0 w9 := hXd.trans (h9.2.mono hXd.size)
        obtain ⟨y0, _, y2, y3, _⟩ := HW w9 hb9
        have oX := HXX.out.2.1
        have c9 : Chg (fun _ => False) X (w9.alloc (.cells #[.string Q, .bool D, .int .i64 SZ, .int .i64 KD, .string B] 96)) :=
          ((Chg.drew (fun _ => False) X).trans (Chg.ofBelowC h9.2) (fun _ _ h => h)).trans (Chg.alloc (fun _ => False) w9 _) (fun _ _ h => h)
        have o9 := own_farS oX c9 (fun _ _ h => h)
        have hb10 : Below w0.heap.size w0 (w9.alloc (.cells #[.string Q, .bool D, .int .i64 SZ, .int .i64 KD, .string B] 96)) := hb9.alloc hb9.size _
        obtain ⟨a', c', w', hr, ho, hB, hCg, hnw⟩ := run_appRow (g := w9.heap.size) (cs := [.string Q, .bool D, .int .i64 SZ, .int .i64 KD, .string B]) o9 (heap_alloc_new w9 _) rfl (by intro u hu; simp at hu; rcases hu with rfl | rfl | rfl | rfl | rfl <;> rfl) hlen hb10.size
        have hb11 : Below w0.heap.size w0 w' := hb10.trans hB
        obtain ⟨z0, z1, _, _, _⟩ := HW w' hb11
        refine ⟨h9.1, y0, y2, y3, a', c', w', hr, z0, z1, hb11, ?_, ?_, fun b hb => ?_⟩
        · rw [List.flatMap_append, ← List.append_assoc]
          have e5 : [(Q, p ++ [nmX x])].flatMap (rwC T.F) = [.string Q, .bool D, .int .i64 SZ, .int .i64 KD, .string B] := by
            simp [rwC, e1, e2]
          rw [e5]
          exact ho
        · refine HXX.out.2.2.1.trans ((c9.mono (fun _ _ h => h.elim)).trans hCg (fun _ _ h => h)) fun i hi h => ?_
          exact (HXX.out.2.2.2 i h).resolve_right (by omega)
        · rcases hnw b hb with h | h
          · exact HXX.out.2.2.2 b h
          · refine .inr (Nat.le_trans ?_ h)
            exact Nat.le_trans HXX.out.2.2.1.size c9.size
      clear HC HW e1 e2 e3 e4 hXd hnd
      go_region_with (go_at_call 75; refine HINF.out.mono ?_; clear HINF; rintro e w9 ⟨rfl, y0, y2, y3, a', c', w', hr, z0, z1, HY2⟩)
      all_goals
        cases D with
        | false =>
          have HT : Hid (((nmL kn).take (k + 1)).flatMap (subR T.F d p at') = L ++ [(Q, p ++ [nmX x])]) := by
            show _ = _
            rw [List.take_add_one, HO.out.2.1, List.flatMap_append, HLe.out]
            simp [subR, HQ.out, rowsP_file (HIN.out.2.2.2 rfl) d Q]
          have HEL : Hid (n + (L ++ [(Q, p ++ [nmX x])]).length = n + L.length + 1) := by show _ = _; simp; omega
          go_wp2_with fail
          go_roundw
          case rel =>
            refine ⟨k + 1, HO.out.1, by go_num, ?_⟩
            rw [HT.out, HEL.out]
            exact ⟨a', c', rfl, HY2.out.2⟩
          case measure => have := HO.out.1; simp [intOf]; omega
        | true =>
          obtain ⟨s2, kn2, h2⟩ := HIN.out.2.2.1 rfl
          have HT : Hid (((nmL kn).take (k + 1)).flatMap (subR T.F d p at') = L ++ [(Q, p ++ [nmX x])] ++ rowsP T.F d (p ++ [nmX x]) Q) := by
            show _ = _
            rw [List.take_add_one, HO.out.2.1, List.flatMap_append, HLe.out]
            simp [subR, HQ.out]
          have hb : n + L.length + 1 + (rowsP T.F d (p ++ [nmX x]) Q).length ≤ 1000000 := by
            have h1 := HL.out
            have h3 : (((nmL kn).take (k + 1)).flatMap (subR T.F d p at')).length ≤ ((nmL kn).flatMap (subR T.F d p at')).length := by
              conv => rhs; rw [← List.take_append_drop (k + 1) (nmL kn)]
              rw [List.flatMap_append, List.length_append]
              omega
            rw [HT.out] at h3
            simp only [List.length_append, List.length_cons, List.length_nil] at h3
            omega
          have HR2 := HI.out x HO.out.2.2.1 s2 kn2 h2 w' (.slice a' (n + L.length + 1) c') (n + L.length + 1) (xs ++ (L ++ [(Q, p ++ [nmX x])]).flatMap (rwC T.F)) HY2.out.1 HY2.out.2.1 (by rw [HQ.out]; exact hb)
          rw [HQ.out, Hm2.out] at HR2
          have HR3 : Hid (Calls Tryz.prog 72 #[ptr r, .int .i64 (m2 : Nat), .string Q, .slice a' (n + L.length + 1) c'] w' fun e wz => ∃ a2 c2, e = .returned (.slice a2 (n + L.length + 1 + (rowsP T.F d (p ++ [nmX x]) Q).length : Nat) c2) ∧
              Hid (wz.ownsRow w0.heap.size 96 5 (.slice a2 (n + L.length + 1 + (rowsP T.F d (p ++ [nmX x]) Q).length) c2) (n + L.length + 1 + (rowsP T.F d (p ++ [nmX x]) Q).length) (xs ++ (L ++ [(Q, p ++ [nmX x])] ++ rowsP T.F d (p ++ [nmX x]) Q).flatMap (rwC T.F)) ∧ Chg (fun k => (Value.slice av n cv).ownBlock = some k) w1 wz ∧
                (∀ b, (Value.slice a2 (n + L.length + 1 + (rowsP T.F d (p ++ [nmX x]) Q).length) c2).ownBlock = some b → (Value.slice av n cv).ownBlock = some b ∨ w1.heap.size ≤ b))) := by
            refine HR2.mono fun e wz h9 => ?_
            obtain ⟨a2, c2, rfl, hz⟩ := h9
            obtain ⟨o5, _, g5, n5⟩ := hz.out
            refine ⟨a2, c2, rfl, ?_, ?_, fun b hb => ?_⟩
            · rw [List.flatMap_append, ← List.append_assoc]
              exact o5
            · exact HY2.out.2.2.1.trans g5 fun i hi h => (HY2.out.2.2.2 i h).resolve_right (by omega)
            · rcases n5 b hb with h | h
              · exact HY2.out.2.2.2 b h
              · exact .inr (Nat.le_trans HY2.out.2.2.1.size h)
          have HEL : Hid (n + (L ++ [(Q, p ++ [nmX x])] ++ rowsP T.F d (p ++ [nmX x]) Q).length = n + L.length + 1 + (rowsP T.F d (p ++ [nmX x]) Q).length) := by show _ = _; simp; omega
          clear HR2 h2 hb
          go_wp2_with (go_at_call 72; refine HR3.out.mono ?_; clear HR3; rintro e wz ⟨a2, c2, rfl, HZ⟩)
          go_roundw
          case rel =>
            refine ⟨k + 1, HO.out.1, by go_num, ?_⟩
            rw [HT.out, HEL.out]
            exact ⟨a2, c2, rfl, HZ.out⟩
          case measure => have := HO.out.1; simp [intOf]; omega
    · have e : k = (nmL kn).length := by omega
      subst e
      have hE2 : Hid (RowP T.F w0.heap.size w (.slice av n cv) n xs ((nmL kn).flatMap (subR T.F d p at')) (.returned (.slice au (n + (((nmL kn).take (nmL kn).length).flatMap (subR T.F d p at')).length : Nat) cu)) wr) := by
        obtain ⟨o1, o2, o3⟩ := hH.out
        rw [List.take_length] at o1 o3 ⊢
        have f1 := ((Chg.ofBelowC HN.out.2).mono (S' := fun k => (Value.slice av n cv).ownBlock = some k) (fun _ _ h => h.elim)).trans o2 (fun _ _ h => h)
        exact ⟨au, cu, rfl, o1, f1.below HR.out.2.2.1.size (fun k hk => (HR.out.2.2.2.lt k hk).1), f1, fun b hb => (o3 b hb).imp id (fun h => Nat.le_trans HN.out.2.size h)⟩
      clear hH
      go_wp2_with fail
      go_ret
      exact hE2.out
end
end Go.Proofs.YtlnjnimenihhnaaGreatDoor

namespace Go.Proofs.YtlnjnimenihhnaaGreatDoor
open Go.RowKit Go.Maps
section
variable {T : Ts} {R : Rs} {num : Pth → Nat} {K r q : Nat} {G : Nat → Prop}
theorem nmOf_dir {F : Pth → Option Nd} {p : Pth} {s : Nat} {kn : List ByteArray} (h : F p = some (.dir s kn)) : nmOf F p = nmL kn := by
  unfold nmOf
  rw [h]
set_option maxRecDepth 100000 in
theorem rrows_any (w0 : World) (h : Rt w0 r q G R) (hD : Dt T R num K) (hK : K ≤ 60000) (dd : Nat) (hd : ∀ z : Pth, dd < z.length → T.F z = none) : ∀ (e : Nat) (p : Pth) (s : Nat) (kn : List ByteArray) (at' : ByteArray), p.length + e = dd → T.F p = some (.dir s kn) → at'.size + 300 * (e + 1) ≤ 1000000000 →
    ∀ w v n xs, Below w0.heap.size w0 w → w.ownsRow w0.heap.size 96 5 v n xs → n + (rowsP T.F (e + 1) p at').length ≤ 1000000 →
      Calls Tryz.prog 72 #[ptr r, .int .i64 (num p : Nat), .string at', v] w (RowP T.F w0.heap.size w v n xs (rowsP T.F (e + 1) p at')) := by
  intro e
  induction e with
  | zero =>
    intro p s kn at' hpe hp hat w v n xs hB hv hn
    have er : rowsP T.F (0 + 1) p at' = (nmL kn).flatMap (subR T.F 0 p at') := by rw [rowsP_succ, nmOf_dir hp]; rfl
    rw [er] at hn ⊢
    refine rrows_step w0 h hD hK 0 p s kn hp at' (by omega) (fun x hx s' kn' hc => ?_) w v n xs hB hv hn
    have := hd (p ++ [nmX x]) (by simp; omega)
    rw [this] at hc
    cases hc
  | succ e ih =>
    intro p s kn at' hpe hp hat w v n xs hB hv hn
    have er : rowsP T.F (e + 1 + 1) p at' = (nmL kn).flatMap (subR T.F (e + 1) p at') := by rw [rowsP_succ, nmOf_dir hp]; rfl
    rw [er] at hn ⊢
    refine rrows_step w0 h hD hK (e + 1) p s kn hp at' (by omega) (fun x hx s' kn' hc => ?_) w v n xs hB hv hn
    have hnm : nameB (nmX x) = true := (hD.gd.nms p s kn hp).2.1 _ (nmL_mem hx)
    have hsz := nameB_parts hnm
    have hj : (joinT at' x).size = at'.size + 1 + (nmX x).size := by
      unfold joinT
      rw [ByteArray.size_append, ByteArray.size_append]
      rfl
    have hl : (p ++ [nmX x]).length + e = dd := by rw [List.length_append]; show p.length + 1 + e = dd; omega
    have hs2 : (joinT at' x).size + 300 * (e + 1) ≤ 1000000000 := by
      have h1 := hsz
      omega
    exact ih (p ++ [nmX x]) s' kn' (joinT at' x) hl hc hs2
set_option maxHeartbeats 1600000 in
set_option maxRecDepth 100000 in
/-- Walk of the document's. -/
theorem rWalk_any (w : World) (h : Rt w r q G R) (hD : Dt T R num K) (hK : K ≤ 60000) (dd : Nat) (hd : ∀ z : Pth, dd < z.length → T.F z = none) (hdd : dd ≤ 100000) (hn : (rowsP T.F (dd + 1) [] ⟨#[]⟩).length ≤ 1000000) :
    Calls Tryz.prog 36 #[ptr r] w fun e w' => ∃ a c, e = .returned (.slice a (rowsP T.F (dd + 1) [] ⟨#[]⟩).length c) ∧ Hid (w'.ownsRow w.heap.size 96 5 (.slice a (rowsP T.F (dd + 1) [] ⟨#[]⟩).length c) (rowsP T.F (dd + 1) [] ⟨#[]⟩).length ((rowsP T.F (dd + 1) [] ⟨#[]⟩).flatMap (rwC T.F)) ∧ Below w.heap.size w w') := by
  obtain ⟨s, kn, hr⟩ := hD.gd.rdir
  have HC := rrows_any w h hD hK dd hd dd [] s kn ⟨#[]⟩ (by simp) hr (by show 0 + _ ≤ _; omega) w (.slice none 0 0) 0 [] (Below.refl _ _) (World.ownsRow_nil _ _ _ _) (by omega)
  rw [hD.tie.root] at HC
  have HC2 : Hid (Calls Tryz.prog 72 #[ptr r, .int .i64 0, .string ⟨#[]⟩, .slice none 0 0] w fun e w' => ∃ a c, e = .returned (.slice a (rowsP T.F (dd + 1) [] ⟨#[]⟩).length c) ∧ Hid (w'.ownsRow w.heap.size 96 5 (.slice a (rowsP T.F (dd + 1) [] ⟨#[]⟩).length c) (rowsP T.F (dd + 1) [] ⟨#[]⟩).length ((rowsP T.F (dd + 1) [] ⟨#[]⟩).flatMap (rwC T.F)) ∧ Below w.heap.size w w')) := by
    refine HC.mono fun e w' h9 => ?_
    obtain ⟨a, c, rfl, hz⟩ := h9
    simp only [Nat.zero_add, List.nil_append] at hz
    rw [Nat.zero_add]
    exact ⟨a, c, rfl, hz.out.1, hz.out.2.1⟩
  clear HC hr h hD hd hn
  generalize (rowsP T.F (dd + 1) [] ⟨#[]⟩) = RL at *
  go_enter Tryz.func36, Tryz.ntmps36
  go_wp2_with (go_at_call 72; refine HC2.out.mono ?_; clear HC2; rintro e w1 ⟨a, c, rfl, HZ⟩)
  go_ret
  exact ⟨a, c, rfl, HZ⟩
end
end Go.Proofs.YtlnjnimenihhnaaGreatDoor
