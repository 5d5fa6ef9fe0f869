/-
  walk of the document's tree.
-/
import Derived.Test.YtlnjnimenihhnaaGreatDoorVTie
import Derived.Test.YtlnjnimenihhnaaGreatDoorTGood
import Derived.Test.YtlnjnimenihhnaaGreatDoorVPut
import Derived.Test.YtlnjnimenihhnaaGreatDoorPMem
import Derived.Test.YtlnjnimenihhnaaGreatDoorTInode
import Derived.Test.YtlnjnimenihhnaaGreatDoorTFind
import Derived.BigRegion
namespace Go.Proofs.YtlnjnimenihhnaaGreatDoor
open Go.RowKit Go.Maps

theorem wlkE_eq {T : Ts} (h : Gd T) (ns : Pth) : wlkE T.F ns = if folE T.F ns = 0 then (if (T.F ns).isSome = true then 0 else 8) else folE T.F ns := by
  obtain ⟨s, k, e⟩ := h.rdir
  have := wlk_fol T.F ns [] (by rw [e]; rfl)
  rw [List.nil_append] at this
  exact this
/-- The document's tree R is the tree T, of which all is known. -/
structure Dt (T : Ts) (R : Rs) (num : Pth → Nat) (K : Nat) : Prop where
  tie : Tie T.F R num
  gd : Gd T
  sl : ∀ p s kn, T.F p = some (.dir s kn) → s ≤ K
  fl : ∀ p bs, T.F p = some (.file bs) → bs.length ≤ 8458240
  n : R.L.length ≤ K + 1
  bl : R.bl = T.bl
  ino : R.ino = T.ino
  bb : 0 ≤ T.bl ∧ T.bl ≤ 20000 * K + 20000
  ib : 0 ≤ T.ino ∧ T.ino ≤ K + 256
theorem Tr.dt {w : World} {t : Nat} {T : Ts} {A : Pth → Nat} {O : Nat → Option (Pth × Nat)} {K : Nat} (h : Tr w t T.F A O T.bl T.ino K) {R : Rs} {num : Pth → Nat} (ht : Tie T.F R num) (hn : R.L.length ≤ K + 1) (hb : R.bl = T.bl) (hi : R.ino = T.ino) : Dt T R num K :=
  ⟨ht, h.good, fun p s kn hp => (h.nms p s kn hp).2.2.2, fun p bs hp => (h.fil p bs hp).1, hn, hb, hi, h.bb, h.ib⟩
theorem Dt.root {T : Ts} {R : Rs} {num : Pth → Nat} {K : Nat} (h : Dt T R num K) : num [] = 0 ∧ (T.F []).isSome = true := by
  obtain ⟨s, k, e⟩ := h.gd.rdir
  exact ⟨h.tie.root, by rw [e]; rfl⟩
theorem Dt.lt {T : Ts} {R : Rs} {num : Pth → Nat} {K : Nat} (h : Dt T R num K) {p : Pth} (hp : (T.F p).isSome = true) : num p ≤ K := by
  have := h.tie.lt hp
  have := h.n
  omega
/-- A directory's slots. -/
theorem Dt.dir {T : Ts} {R : Rs} {num : Pth → Nat} {K : Nat} (h : Dt T R num K) {p : Pth} {s : Nat} {kn : List ByteArray} (hp : T.F p = some (.dir s kn)) : ∃ es, R.at (num p) = .dir es ∧ Sl es s kn (fun x => num (p ++ [x])) ∧ es.length ≤ K := by
  obtain ⟨es, h1, h2⟩ := h.tie.dir p s kn hp
  exact ⟨es, h1, h2, by rw [h2.len]; exact h.sl p s kn hp⟩
theorem Dt.mem {T : Ts} {R : Rs} {num : Pth → Nat} {K : Nat} (h : Dt T R num K) {p : Pth} {s : Nat} {kn : List ByteArray} (hp : T.F p = some (.dir s kn)) (x : ByteArray) : x ∈ kn ↔ (T.F (p ++ [x])).isSome = true := by
  refine ⟨h.gd.dn p s kn x hp, fun hs => ?_⟩
  obtain ⟨s', ns', h1, h2⟩ := h.gd.up p x hs
  rw [hp] at h1; cases h1; exact h2
theorem wlk_end {F : Pth → Option Nd} {ns : Pth} {k : Nat} {c : Int} (hk : wlkE F ns = wlkA F (ns.take k) (ns.drop k)) (hc : wlkA F (ns.take k) (ns.drop k) = c) : wlkE F ns = c := hk.trans hc
theorem drop_at {ns : Pth} {k : Nat} (h : k < ns.length) : ns.drop k = ns.getD k ByteArray.empty :: ns.drop (k + 1) := by
  rw [List.drop_eq_getElem_cons h]; simp [List.getD, h]
/-- The number that walk tells. -/
def wlkN (F : Pth → Option Nd) (num : Pth → Nat) (ns : Pth) : Nat := if wlkE F ns = 0 then num ns else 0
theorem wlkN_ok {F : Pth → Option Nd} {num : Pth → Nat} {ns : Pth} (h : wlkE F ns = 0) : wlkN F num ns = num ns := if_pos h
theorem wlkN_no {F : Pth → Option Nd} {num : Pth → Nat} {ns : Pth} (h : ¬ wlkE F ns = 0) : wlkN F num ns = 0 := if_neg h
set_option maxHeartbeats 3200000 in
set_option maxRecDepth 100000 in
theorem rwalk_any {T : Ts} {R : Rs} {num : Pth → Nat} {K : Nat} {r q : Nat} {G : Nat → Prop} (v : Value) (ns : Pth) (w : World) (h : Rt w r q G R) (hD : Dt T R num K) (hK : K ≤ 100000) (hv : Tx w v ns) (hl : ns.length ≤ 1000) (hsz : ∀ x ∈ ns, 1 ≤ x.size) :
    Calls Tryz.prog 59 #[ptr r, v] w fun e w' => e = .returned (.tuple #[.int .i64 (wlkN T.F num ns : Nat), .int .i64 (wlkE T.F ns)]) ∧ Below w.heap.size w w' := by
  obtain ⟨a, c, rfl⟩ := hv.form
  have H0 : Hid (Rt w r q G R ∧ Dt T R num K ∧ (∀ x ∈ ns, 1 ≤ x.size) ∧ Tx w (.slice a ns.length c) ns) := ⟨h, hD, hsz, hv⟩
  have HS : Hid (num [] = 0 ∧ (T.F []).isSome = true) := hD.root
  clear h hD hsz hv
  go_enter Tryz.func59, Tryz.ntmps59
  go_wp2_with fail
  go_loopw [6, 7] (fun u i wr => ∃ k : Nat, k ≤ ns.length ∧ u = .int .i64 (num (ns.take k) : Nat) ∧ i = .int .i64 k ∧ Hid ((T.F (ns.take k)).isSome = true ∧ wlkE T.F ns = wlkA T.F (ns.take k) (ns.drop k) ∧ Below w.heap.size w wr)) (fun _ i _ => ns.length - (intOf i).toNat)
  case atStart => exact ⟨0, Nat.zero_le _, by rw [List.take_zero, HS.out.1]; rfl, rfl, by rw [List.take_zero, List.drop_zero]; exact ⟨HS.out.2, rfl, Below.refl _ _⟩⟩
  case round =>
    obtain ⟨k, hk, rfl, rfl, hH⟩ := hrel
    obtain ⟨hR, hDt, hsz, hv⟩ := H0.out
    have hB := hH.out.2.2
    have hR' := hR.below hB
    have hv' := hv.below hB
    by_cases hlt : k < ns.length
    · have q1 : (k : Int) < ns.length := by omega
      obtain ⟨nd, hnd⟩ := Option.isSome_iff_exists.1 hH.out.1
      have hdr := drop_at hlt
      obtain ⟨b0, off, rfl, hx⟩ := hv'.nth hlt
      have cx := hx k hlt
      clear hx hv hv'
      obtain ⟨x, HX⟩ : ∃ x, Hid (ns.getD k ByteArray.empty = x) := ⟨_, rfl⟩
      rw [HX.out] at cx hdr
      have hx1 : Hid (1 ≤ x.size) := hsz x (by rw [← HX.out]; simp [List.getD, hlt])
      have htk : Hid (ns.take (k + 1) = ns.take k ++ [x]) := by rw [← HX.out]; exact tk_next hlt
      have hnum : Hid (num (ns.take k) ≤ K) := hDt.lt hH.out.1
      obtain ⟨m, Hm⟩ : ∃ m, Hid (num (ns.take k) = m) := ⟨_, rfl⟩
      cases nd with
      | file bs =>
        have h1 := hDt.tie.fil _ _ hnd
        rw [Hm.out] at h1 hnum ⊢
        obtain ⟨hm, cc, a1, d1, cL, c0, c1, c2, c3, _⟩ := hR'.fileAt h1
        have hc : Hid (wlkE T.F ns = 11) := wlk_end hH.out.2.1 (by rw [hdr]; simp [wlkA, hnd])
        have q2 : (m : Int) < R.L.length := by omega
        have HE : Hid (Below w.heap.size w wr) := hB
        clear hR hDt hsz hR' h1 hnd hdr hB hH H0 HS c0 c2 c3
        go_wp2_with fail
        go_ret2
        exact ⟨by rw [wlkN_no (by rw [hc.out]; decide), hc.out]; rfl, HE.out⟩
      | dir s kn =>
        obtain ⟨es, h1, hS, hle⟩ := hDt.dir hnd
        rw [Hm.out] at h1 hnum ⊢
        obtain ⟨hm, cc, a1, d1, cL, c0, c1, c2, c3, hE, _⟩ := hR'.dirAt h1
        have q2 : (m : Int) < R.L.length := by omega
        have AT : ∀ (i : Int) (n : Nat), IdxN es x i → Calls Tryz.prog 60 #[.slice a1 es.length d1, .string x] (wr.drewN n) fun e w' => e = .returned (.int .i64 i) ∧ w' = wr.drewN n := fun i n hi =>
          (rat_any (.slice a1 es.length d1) es x (wr.drewN n) (hE.more (Chg.drewN _ _ _)) (by omega)).mono (by
            rintro e w' ⟨r', rfl, hr', rfl⟩
            exact ⟨by rw [hr'.out.unique hi], rfl⟩)
        have HN : ∀ n, Below w.heap.size w (wr.drewN n) := fun n => hB.trans ((Chg.drewN (fun _ => False) wr n).below hB.size (fun _ h => h.elim))
        by_cases hin : x ∈ kn
        · obtain ⟨i, hi, hi2, hi3, hi4⟩ := hS.idx hx1.out hin
          have HA : Hid (∀ n, Calls Tryz.prog 60 #[.slice a1 es.length d1, .string x] (wr.drewN n) fun e w' => e = .returned (.int .i64 (i : Int)) ∧ w' = wr.drewN n) := fun n => AT _ n hi
          obtain ⟨b1, o1, rfl, hcell⟩ := hE.nth hi2
          have cn := (hcell i hi2).2
          obtain ⟨y, HY⟩ : ∃ y, Hid ((es.getD i En.fr).ino = y) := ⟨_, rfl⟩
          rw [HY.out] at cn
          obtain ⟨m2, Hm2⟩ : ∃ m2, Hid (num (ns.take (k + 1)) = m2) := ⟨_, rfl⟩
          have hy : Hid (y = (m2 : Int) + 1) := by
            show y = _
            rw [← HY.out, ← Hm2.out, htk.out]; exact hi4
          have hx2 := hDt.gd.dn _ s kn x hnd hin
          have hm2 : Hid (m2 ≤ K) := by
            show m2 ≤ K
            rw [← Hm2.out]
            exact hDt.lt (by rw [htk.out]; exact hx2)
          have hm2' := hm2.out
          have HE : Hid ((T.F (ns.take (k + 1))).isSome = true ∧ wlkE T.F ns = wlkA T.F (ns.take (k + 1)) (ns.drop (k + 1))) := by
            refine ⟨by rw [htk.out]; exact hx2, hH.out.2.1.trans ?_⟩
            rw [hdr, htk.out]
            simp only [wlkA, hnd]
            rw [if_pos hx2]
          have hN : Hid (∀ n, Below w.heap.size w (wr.drewN n)) := HN
          have q3 : (i : Int) < es.length := by omega
          have q4 : ¬ (i : Int) < 0 := by omega
          obtain rfl : y = (m2 : Int) + 1 := hy.out
          clear hR hDt hsz hR' h1 hnd hdr hB hH H0 HS c0 c2 hE hcell HN AT hS hi hi3 hi4 hx1 htk hx2 HX hm2 hy
          go_wp2_with fail
          go_quiet ((go_at_call 60; exact Calls.quiet_of_same (HA.out _)))
          go_wp2_with fail
          go_roundw
          case rel => exact ⟨k + 1, by omega, by rw [Hm2.out], by go_num, HE.out.1, HE.out.2, hN.out _⟩
          case measure => simp [intOf]; omega
        · have HA : Hid (∀ n, Calls Tryz.prog 60 #[.slice a1 es.length d1, .string x] (wr.drewN n) fun e w' => e = .returned (.int .i64 (-1)) ∧ w' = wr.drewN n) := fun n => AT _ n (hS.idxNo hx1.out hin)
          have hx2 : ¬ (T.F (ns.take k ++ [x])).isSome = true := fun e => hin ((hDt.mem hnd x).2 e)
          have hc : Hid (wlkE T.F ns = 8) := wlk_end hH.out.2.1 (by
            rw [hdr]
            simp only [wlkA, hnd]
            rw [if_neg hx2])
          have hN : Hid (∀ n, Below w.heap.size w (wr.drewN n)) := HN
          clear hR hDt hsz hR' h1 hnd hdr hB hH H0 HS c0 c2 hE HN AT hS hx1 htk hx2 HX hin
          go_wp2_with fail
          go_quiet ((go_at_call 60; exact Calls.quiet_of_same (HA.out _)))
          go_wp2_with fail
          go_ret2
          exact ⟨by rw [wlkN_no (by rw [hc.out]; decide), hc.out]; rfl, hN.out _⟩
    · have q1 : ¬ (k : Int) < ns.length := by omega
      have hk2 : k = ns.length := by omega
      subst hk2
      have hc : Hid (wlkE T.F ns = 0) := by
        show _ = _
        rw [hH.out.2.1, List.drop_length]; rfl
      obtain ⟨m, Hm⟩ : ∃ m, Hid (num (ns.take ns.length) = m) := ⟨_, rfl⟩
      rw [Hm.out]
      have HM : Hid (num ns = m) := by
        show _ = _
        rw [← Hm.out, List.take_length]
      have HE : Hid (Below w.heap.size w wr) := hB
      clear hR hDt hsz hR' hB hH H0 HS hv hv'
      go_wp2_with fail
      go_ret2
      exact ⟨by rw [wlkN_ok hc.out, hc.out, HM.out]; rfl, HE.out⟩
end Go.Proofs.YtlnjnimenihhnaaGreatDoor

namespace Go.Proofs.YtlnjnimenihhnaaGreatDoor
open Go.RowKit Go.Maps

set_option maxHeartbeats 800000 in
theorem rneed_any (v : Value) (es : List En) (w : World) (hv : Es w v es) (hl : es.length ≤ 1000000) :
    Calls Tryz.prog 62 #[v] w fun e w' => e = .returned (.int .i64 (slB es.length)) ∧ w' = w := by
  obtain ⟨a, c, rfl⟩ := hv.form
  have HS : Hid (Calls Tryz.prog 88 #[.slice a es.length c] w fun e w' => e = .returned (.int .i64 (sizeS es.length : Nat)) ∧ w' = w) := rsize_any _ es w hv (by omega)
  have HA : Hid (Calls Tryz.prog 64 #[.int .i64 (sizeS es.length : Nat)] w fun e w' => e = .returned (.int .i64 (allN (sizeS es.length : Nat))) ∧ w' = w) := refAll_any _ w
  clear hv hl
  go_enter Tryz.func62, Tryz.ntmps62
  go_wp2_with fail
  refine HS.out.mono ?_
  clear HS
  rintro e w1 ⟨rfl, rfl⟩
  go_wp2_with fail
  refine HA.out.mono ?_
  rintro e w1 ⟨rfl, rfl⟩
  go_wp2_with fail
  go_ret
  exact ⟨rfl, rfl⟩

def appV := @Builtin.append_
theorem appV_eq : @Builtin.append_ = appV := rfl
theorem infoTh : (Tryz.prog.info? 63).map (fun i => (i.zero, i.size, i.bytes)) = some (some (.agg #[.bool false, .bool false, .slice none 0 0, .slice none 0 0]), 4, 56) := by kernel_rfl
/-- Things are appended. -/
theorem run_appTh (w : World) (N : Nat) (v : Value) (xs news : List Rw) (hown : w.ownsRow N 63 4 v xs.length (rcells xs)) (g c : Nat) (hx : ∀ j u, (rcells news)[j]? = some u → w.cell? ⟨g, j, none⟩ = some u) (h0 : 0 < news.length) (hlen : xs.length + news.length ≤ 1048576) (hN : N ≤ w.heap.size) :
    ∃ g' c' w', (appV #[64, 64] 64 #[v, .slice (some ⟨g, 0, none⟩) news.length c]).run Tryz.prog w = .ok (.slice (some ⟨g', 0, none⟩) (xs.length + news.length) c') w' ∧ w'.ownsRow N 63 4 (.slice (some ⟨g', 0, none⟩) (xs.length + news.length) c') (xs.length + news.length) (rcells (xs ++ news)) ∧ N ≤ g' ∧ Below N w w' ∧ Chg (fun k => v.ownBlock = some k) w w' := by
  obtain ⟨i, hi, hz, hs, hb⟩ := info_parts infoTh
  have ad : ∀ k, (⟨g, 0, none⟩ : Addr).add k = ⟨g, k, none⟩ := by intro k; unfold Addr.add; split <;> simp_all
  obtain ⟨v', w', h1, h2, h3, _, h5⟩ := run_append_own_at (P := Tryz.prog) w N 64 64 63 i _ 4 56 Tryz.underlying64 hi hz hs hb rfl (by decide) v xs.length (rcells xs) hown ⟨g, 0, none⟩ news.length c (rcells news) (rcells_len news)
    (fun j u hu => by rw [ad]; exact hx j u hu) (rcells_one news) (by unfold maxLen; omega) (by omega) hN
  rw [← rcells_app] at h2
  rcases h2.2 with ⟨rfl, h⟩ | ⟨g', c', cur, rfl, hb', _⟩
  · omega
  · refine ⟨g', c', w', h1, h2, hb', (Chg.ofGrown h3).below hN fun k hk => ?_, Chg.ofGrown h3⟩
    rcases hown.2 with ⟨rfl, _⟩ | ⟨g, cap, cur, rfl, hb, _⟩
    · cases hk
    · have : g = k := by simpa [Value.ownBlock] using hk
      omega
theorem lit_own4 (w : World) (N : Nat) (hN : N ≤ w.heap.size) : (w.alloc (.cells #[] 63)).ownsRow N 63 4 (.slice (some ⟨w.heap.size, 0, none⟩) 0 0) ([] : List Rw).length (rcells []) :=
  ⟨rfl, .inr ⟨w.heap.size, 0, #[], rfl, hN, heap_alloc_new w _, Nat.le_refl _, Nat.zero_le _, rfl, rfl⟩⟩
/-- The number that a new thing gets. -/
def frN : List Th → Nat
  | [] => 0
  | .gone :: _ => 0
  | _ :: r => frN r + 1
theorem frN_le : ∀ l : List Th, frN l ≤ l.length
  | [] => Nat.le_refl _
  | .gone :: _ => Nat.zero_le _
  | .file _ :: r => by have := frN_le r; simp only [frN, List.length_cons]; omega
  | .dir _ :: r => by have := frN_le r; simp only [frN, List.length_cons]; omega
theorem frN_at : ∀ (l : List Th) (k : Nat), (∀ j, j < k → ¬ l.getD j .gone = .gone) → l.getD k .gone = .gone → k ≤ l.length → frN l = k
  | [], k, _, _, h => by simp at h; simp [frN, h]
  | .gone :: r, k, h1, _, _ => by
    cases k with
    | zero => rfl
    | succ k => exact absurd rfl (h1 0 (by omega))
  | .file b :: r, k, h1, h2, h3 => by
    cases k with
    | zero => cases h2
    | succ k =>
      simp only [frN]
      rw [frN_at r k (fun j hj => h1 (j + 1) (by omega)) h2 (by simpa using h3)]
  | .dir b :: r, k, h1, h2, h3 => by
    cases k with
    | zero => cases h2
    | succ k =>
      simp only [frN]
      rw [frN_at r k (fun j hj => h1 (j + 1) (by omega)) h2 (by simpa using h3)]
theorem frN_gone (l : List Th) : l.getD (frN l) .gone = .gone := by
  induction l with
  | nil => rfl
  | cons x r ih => cases x <;> first | rfl | exact ih
/-- The things with a new one. -/
def frL (l : List Th) (t : Th) : List Th := if frN l < l.length then l.set (frN l) t else l ++ [t]
theorem frL_len (l : List Th) (t : Th) : (frL l t).length ≤ l.length + 1 ∧ l.length ≤ (frL l t).length := by
  unfold frL
  split <;> simp
theorem frL_at (l : List Th) (t : Th) : (frL l t).getD (frN l) .gone = t := by
  unfold frL
  have := frN_le l
  split
  · rename_i h; simp [List.getD, h]
  · have e : frN l = l.length := by omega
    rw [e]; simp [List.getD]
theorem frL_other (l : List Th) (t : Th) {k : Nat} (h : ¬ k = frN l) : (frL l t).getD k .gone = l.getD k .gone := by
  unfold frL
  have := frN_le l
  split
  · simp [List.getD, Ne.symm h]
  · have e : frN l = l.length := by omega
    rw [e] at h
    by_cases hk : k < l.length
    · simp [List.getD, List.getElem?_append_left hk]
    · have : l.length < k := by omega
      simp [List.getD, List.getElem?_eq_none (show l.length ≤ k by omega), List.getElem?_eq_none (show (l ++ [t]).length ≤ k by simp; omega)]
/-- A new thing: a file, or a directory, with nothing in it. -/
def newTh (d : Bool) : Th := if d = true then .dir [] else .file []
def Rw.new (d : Bool) : Rw := ⟨true, d, none, 0, 0, none, 0, 0⟩
theorem newM (w : World) (G : Nat → Prop) (d : Bool) : ThM w G (Rw.new d) (newTh d) := by
  cases d
  · exact ⟨rfl, rfl, .inl ⟨rfl, rfl⟩, fun x hx => by simp at hx, rfl, fun a h => by cases h⟩
  · exact ⟨rfl, rfl, rfl, Es.nil w, fun a h => by cases h⟩
theorem thm_is {w : World} {G : Nat → Prop} {x : Rw} {t : Th} (h : ThM w G x t) : x.is = false ↔ t = .gone := by
  cases t with
  | gone => rw [show x = Rw.z from h]; simp [Rw.z]
  | file b => rw [h.1]; simp
  | dir b => rw [h.1]; simp
/-- A thing more. -/
theorem Rt.more {w w' : World} {r q q' c' : Nat} {G : Nat → Prop} {R : Rs} (h : Rt w r q G R) {xs : List Rw} {x : Rw} {t : Th} (hx : xs.length = R.L.length) (hth : ∀ k, k < R.L.length → ThM w G (xs.getD k Rw.z) (R.at k)) (hM : ∀ w, ThM w G x t) (B : Below w.heap.size w w') (hq' : w.heap.size ≤ q') (ho : w'.ownsRow w.heap.size 63 4 (.slice (some ⟨q', 0, none⟩) (R.L.length + 1) c') (R.L.length + 1) (rcells (xs ++ [x]))) :
    Rt (w'.setCell ⟨r, 0, none⟩ (.slice (some ⟨q', 0, none⟩) (R.L.length + 1) c')) r q' G { R with L := R.L ++ [t] } := by
  have hlt := h.lt
  have hb := Chg.ofBelowC B
  have hc : Chg (fun b => b = r) w' (w'.setCell ⟨r, 0, none⟩ (.slice (some ⟨q', 0, none⟩) (R.L.length + 1) c')) := Chg.setCell _ _ _ rfl
  have e : (R.L ++ [t]).length = R.L.length + 1 := by simp
  have g0 : ∃ u, w'.cell? ⟨r, 0, none⟩ = some u := by
    obtain ⟨_, cap, h1, _⟩ := h.row
    exact ⟨_, hb.cell h1 (fun h => h)⟩
  obtain ⟨u, g0⟩ := g0
  have hqr : ¬ q' = r := by have := hlt.1; omega
  have ho' : w'.ownsRow 0 63 4 (.slice (some ⟨q', 0, none⟩) (R.L.length + 1) c') (R.L.length + 1) (rcells (xs ++ [x])) := by
    refine ⟨ho.1, ?_⟩
    rcases ho.2 with h | ⟨g, cap, cur, h1, h2, h3⟩
    · exact .inl h
    · exact .inr ⟨g, cap, cur, h1, Nat.zero_le _, h3⟩
  refine ⟨fun e => hqr e.symm, h.gr, fun hg => by have := h.gl _ hg; omega, fun b hb' => by rw [World.size_setCell]; exact Nat.lt_of_lt_of_le (h.gl b hb') B.size, ⟨xs ++ [x], c', ?_, ?_, ?_, ?_⟩, ?_, ?_, fun i => ?_⟩
  · show _ = some (Value.slice _ (R.L ++ [t]).length c'); rw [e]; exact World.cell?_setCell_same _ _ _ g0
  · show World.ownsRow _ _ _ _ (Value.slice _ (R.L ++ [t]).length c') (R.L ++ [t]).length _; rw [e]; exact own_farC ho' hc hqr
  · show _ = (R.L ++ [t]).length; rw [e]; simp [hx]
  · intro k hk
    have hk : k < R.L.length + 1 := by rw [← e]; exact hk
    show ThM _ _ _ ((R.L ++ [t]).getD k .gone)
    by_cases e2 : k = R.L.length
    · subst e2
      have h1 : (xs ++ [x]).getD R.L.length Rw.z = x := by rw [← hx]; simp [List.getD]
      have h2 : (R.L ++ [t]).getD R.L.length .gone = t := by simp [List.getD]
      rw [h1, h2]; exact hM _
    · have hk2 : k < R.L.length := by omega
      have h1 : (xs ++ [x]).getD k Rw.z = xs.getD k Rw.z := by simp [List.getD, List.getElem?_append_left (show k < xs.length by omega)]
      have h2 : (R.L ++ [t]).getD k .gone = R.L.getD k .gone := by simp [List.getD, List.getElem?_append_left hk2]
      rw [h1, h2]
      exact (((hth k hk2).kept hb (fun _ _ h => h) (fun _ h => h)).kept hc (fun b hb e => h.gr (e ▸ hb)) (fun _ h => h))
  · rw [World.cell?_setCell_other _ _ _ _ (by simp)]; exact hb.cell h.cB (fun h => h)
  · rw [World.cell?_setCell_other _ _ _ _ (by simp)]; exact hb.cell h.cI (fun h => h)
  · rw [World.frozen?_setCell]; exact (World.frozen?_of_block (hb.block _ hlt.1 (fun h => h))).trans (h.fr i)
end Go.Proofs.YtlnjnimenihhnaaGreatDoor

namespace Go.Proofs.YtlnjnimenihhnaaGreatDoor
open Go.RowKit Go.Maps
attribute [local go_sem ↓] appV_eq

/-- The box of a new thing. -/
abbrev thO (d : Bool) : Obj := .cells #[.bool true, .bool d, .slice none 0 0, .slice none 0 0] 63
theorem tho_cells (w : World) (d : Bool) : (w.alloc (thO d)).cell? ⟨w.heap.size, 0, none⟩ = some (.bool true) ∧ (w.alloc (thO d)).cell? ⟨w.heap.size, 1, none⟩ = some (.bool d) ∧ (w.alloc (thO d)).cell? ⟨w.heap.size, 2, none⟩ = some (.slice none 0 0) ∧ (w.alloc (thO d)).cell? ⟨w.heap.size, 3, none⟩ = some (.slice none 0 0) := by
  refine ⟨?_, ?_, ?_, ?_⟩ <;> rw [cell_of_row _ w.heap.size _ _ _ _ (heap_alloc_new w _)] <;> rfl
abbrev thE0 : Obj := .cells #[] 63
theorem lit_get (w : World) (d : Bool) : ∀ j u, (rcells [Rw.new d])[j]? = some u → (w.alloc (thO d)).cell? ⟨w.heap.size, j, none⟩ = some u := by
  intro j u hu
  obtain ⟨t0, t1, t2, t3⟩ := tho_cells w d
  have hj : j < 4 := by have := (List.getElem?_eq_some_iff.1 hu).1; simpa [rcells_len] using this
  rcases (by omega : j = 0 ∨ j = 1 ∨ j = 2 ∨ j = 3) with rfl | rfl | rfl | rfl
  · cases hu; exact t0
  · cases hu; exact t1
  · cases hu; exact t2
  · cases hu; exact t3
/-- What is there behind a second append. -/
def Ap2 (W : World) (n : Nat) (cs : List Value) (w2 : World) (g2 c2 : Nat) : Prop := w2.ownsRow W.heap.size 63 4 (.slice (some ⟨g2, 0, none⟩) n c2) n cs ∧ W.heap.size ≤ g2 ∧ Below W.heap.size W w2
/-- append(append([]Thing{}, l...), x), in each order. -/
theorem apps2 (W : World) (q cap n : Nat) (xs : List Rw) (d : Bool) (hn : xs.length = n) (ho : W.ownsRow 0 63 4 (.slice (some ⟨q, 0, none⟩) n cap) n (rcells xs)) (h0 : 0 < n) (hl : n ≤ 1000000) (C : World → Prop) (hC : ∀ w', Below W.heap.size W w' → C w') :
    (∃ g1 c1 w1 g2 c2 w2, (appV #[64, 64] 64 #[.slice (some ⟨W.heap.size, 0, none⟩) 0 0, .slice (some ⟨q, 0, none⟩) n cap]).run Tryz.prog (W.alloc thE0).drew = .ok (.slice (some ⟨g1, 0, none⟩) n c1) w1 ∧ C w1 ∧
      (appV #[64, 64] 64 #[.slice (some ⟨g1, 0, none⟩) n c1, .slice (some ⟨w1.heap.size, 0, none⟩) 1 1]).run Tryz.prog (w1.alloc (thO d)) = .ok (.slice (some ⟨g2, 0, none⟩) (n + 1) c2) w2 ∧ C w2 ∧ Hid (Ap2 W (n + 1) (rcells (xs ++ [Rw.new d])) w2 g2 c2)) ∧
    (∃ g1 c1 w1 g2 c2 w2, (appV #[64, 64] 64 #[.slice (some ⟨W.heap.size, 0, none⟩) 0 0, .slice (some ⟨q, 0, none⟩) n cap]).run Tryz.prog ((W.alloc thE0).alloc (thO d)).drew = .ok (.slice (some ⟨g1, 0, none⟩) n c1) w1 ∧ C w1 ∧
      (appV #[64, 64] 64 #[.slice (some ⟨g1, 0, none⟩) n c1, .slice (some ⟨W.heap.size + 1, 0, none⟩) 1 1]).run Tryz.prog w1 = .ok (.slice (some ⟨g2, 0, none⟩) (n + 1) c2) w2 ∧ C w2 ∧ Hid (Ap2 W (n + 1) (rcells (xs ++ [Rw.new d])) w2 g2 c2)) ∧
    (∃ g1 c1 w1 g2 c2 w2, (appV #[64, 64] 64 #[.slice (some ⟨W.heap.size + 1, 0, none⟩) 0 0, .slice (some ⟨q, 0, none⟩) n cap]).run Tryz.prog ((W.alloc (thO d)).alloc thE0).drew = .ok (.slice (some ⟨g1, 0, none⟩) n c1) w1 ∧ C w1 ∧
      (appV #[64, 64] 64 #[.slice (some ⟨g1, 0, none⟩) n c1, .slice (some ⟨W.heap.size, 0, none⟩) 1 1]).run Tryz.prog w1 = .ok (.slice (some ⟨g2, 0, none⟩) (n + 1) c2) w2 ∧ C w2 ∧ Hid (Ap2 W (n + 1) (rcells (xs ++ [Rw.new d])) w2 g2 c2)) := by
  subst hn
  have hqb : ∀ w', Below W.heap.size W w' → ∀ j u, (rcells xs)[j]? = some u → w'.cell? ⟨q, j, none⟩ = some u := fun w' hb j u hu => by
    have := ho.cells (g := q) rfl j u hu
    have ad : (⟨q, 0, none⟩ : Addr).add j = ⟨q, j, none⟩ := by unfold Addr.add; split <;> simp_all
    rw [ad] at this
    exact (Chg.ofBelowC hb).cell this (fun h => h)
  have frame : ∀ (w0 : World) (u c : Nat), Below W.heap.size W w0 → w0.ownsRow W.heap.size 63 4 (.slice (some ⟨u, 0, none⟩) 0 0) ([] : List Rw).length (rcells []) → ∃ g1 c1 w1, (appV #[64, 64] 64 #[.slice (some ⟨u, 0, none⟩) 0 0, .slice (some ⟨q, 0, none⟩) xs.length c]).run Tryz.prog w0 = .ok (.slice (some ⟨g1, 0, none⟩) xs.length c1) w1 ∧ w1.ownsRow W.heap.size 63 4 (.slice (some ⟨g1, 0, none⟩) xs.length c1) xs.length (rcells xs) ∧ Below W.heap.size W w1 ∧ Chg (fun k => u = k) w0 w1 := by
    intro w0 u c hb hw
    obtain ⟨g1, c1, w1, r1, o1, _, b1, h1⟩ := run_appTh w0 W.heap.size _ [] xs hw q c (hqb _ hb) h0 (by simp; omega) hb.size
    simp only [List.length_nil, Nat.zero_add, List.nil_append] at r1 o1
    exact ⟨g1, c1, w1, r1, o1, hb.trans b1, h1.mono (fun k _ hk => by simpa [Value.ownBlock] using hk)⟩
  have last : ∀ (w1 : World) (g1 c1 x : Nat), Below W.heap.size W w1 → w1.ownsRow W.heap.size 63 4 (.slice (some ⟨g1, 0, none⟩) xs.length c1) xs.length (rcells xs) → (∀ j u, (rcells [Rw.new d])[j]? = some u → w1.cell? ⟨x, j, none⟩ = some u) → ∃ g2 c2 w2, (appV #[64, 64] 64 #[.slice (some ⟨g1, 0, none⟩) xs.length c1, .slice (some ⟨x, 0, none⟩) 1 1]).run Tryz.prog w1 = .ok (.slice (some ⟨g2, 0, none⟩) (xs.length + 1) c2) w2 ∧ Below W.heap.size W w2 ∧ Hid (Ap2 W (xs.length + 1) (rcells (xs ++ [Rw.new d])) w2 g2 c2) := by
    intro w1 g1 c1 x hb ho1 hx
    obtain ⟨g2, c2, w2, r2, o2, hg2, b2, _⟩ := run_appTh w1 W.heap.size _ xs [Rw.new d] ho1 x 1 hx (by simp) (by simp; omega) hb.size
    exact ⟨g2, c2, w2, r2, hb.trans b2, o2, hg2, hb.trans b2⟩
  have bd : ∀ w', Below W.heap.size W w' → Below W.heap.size W w'.drew := fun w' h => ⟨h.os, h.tape, h.output, h.size, h.block⟩
  have bE : Below W.heap.size W (W.alloc thE0) := below_alloc W _
  have bX : Below W.heap.size W (W.alloc (thO d)) := below_alloc W _
  refine ⟨?_, ?_, ?_⟩
  · obtain ⟨g1, c1, w1, r1, o1, b1, _⟩ := frame (W.alloc thE0).drew W.heap.size cap (bd _ bE) (lit_own4 W _ (Nat.le_refl _))
    have b1' := b1.alloc b1.size (thO d)
    have o1' := own_farC o1 (Chg.alloc (fun _ => False) w1 (thO d)) (fun h => h)
    obtain ⟨g2, c2, w2, r2, b2, h2⟩ := last _ _ _ _ b1' o1' (lit_get w1 d)
    exact ⟨g1, c1, w1, g2, c2, w2, r1, hC _ b1, r2, hC _ b2, h2⟩
  · have bEX : Below W.heap.size W ((W.alloc thE0).alloc (thO d)) := bE.alloc bE.size _
    have oE := own_farC (lit_own4 W W.heap.size (Nat.le_refl _)) (Chg.alloc (fun _ => False) (W.alloc thE0) (thO d)) (fun h => h)
    obtain ⟨g1, c1, w1, r1, o1, b1, k1⟩ := frame ((W.alloc thE0).alloc (thO d)).drew W.heap.size cap (bd _ bEX) oE
    have hx : ∀ j u, (rcells [Rw.new d])[j]? = some u → w1.cell? ⟨W.heap.size + 1, j, none⟩ = some u := fun j u hu => by
      have e : (W.alloc thE0).heap.size = W.heap.size + 1 := by simp
      have := lit_get (W.alloc thE0) d j u hu
      rw [e] at this
      exact k1.cell this (by show ¬ W.heap.size = W.heap.size + 1; omega)
    obtain ⟨g2, c2, w2, r2, b2, h2⟩ := last _ _ _ _ b1 o1 hx
    exact ⟨g1, c1, w1, g2, c2, w2, r1, hC _ b1, r2, hC _ b2, h2⟩
  · have bXE : Below W.heap.size W ((W.alloc (thO d)).alloc thE0) := bX.alloc bX.size _
    have e : (W.alloc (thO d)).heap.size = W.heap.size + 1 := by simp
    have oE := lit_own4 (W.alloc (thO d)) W.heap.size (by rw [e]; omega)
    rw [e] at oE
    obtain ⟨g1, c1, w1, r1, o1, b1, k1⟩ := frame ((W.alloc (thO d)).alloc thE0).drew (W.heap.size + 1) cap (bd _ bXE) oE
    have hx : ∀ j u, (rcells [Rw.new d])[j]? = some u → w1.cell? ⟨W.heap.size, j, none⟩ = some u := fun j u hu => by
      have := (Chg.alloc (fun _ => False) (W.alloc (thO d)) thE0).cell (lit_get W d j u hu) (fun h => h)
      exact k1.cell this (by show ¬ W.heap.size + 1 = W.heap.size; omega)
    obtain ⟨g2, c2, w2, r2, b2, h2⟩ := last _ _ _ _ b1 o1 hx
    exact ⟨g1, c1, w1, g2, c2, w2, r1, hC _ b1, r2, hC _ b2, h2⟩
set_option maxHeartbeats 3200000 in
set_option maxRecDepth 100000 in
theorem rfresh_any {r q : Nat} {G : Nat → Prop} {R : Rs} (w : World) (h : Rt w r q G R) (d : Bool) (hl : R.L.length ≤ 100001) (h0 : 0 < R.L.length) :
    Calls Tryz.prog 63 #[ptr r, .agg #[.bool true, .bool d, .slice none 0 0, .slice none 0 0]] w fun e w' => e = .returned (.int .i64 (frN R.L : Nat)) ∧ ∃ q', (q' = q ∨ w.heap.size ≤ q') ∧ Rt w' r q' G { R with L := frL R.L (newTh d) } ∧ Chg (fun b => b = r ∨ b = q) w w' := by
  have hlt := h.lt
  have BA := below_alloc w (thO d)
  have h' := h.below BA
  obtain ⟨t0, t1, t2, t3⟩ := tho_cells w d
  have hsz : (w.alloc (thO d)).heap.size = w.heap.size + 1 := by simp
  obtain ⟨wa, HWA⟩ : ∃ wa, Hid (w.alloc (thO d) = wa) := ⟨_, rfl⟩
  rw [HWA.out] at BA h' t0 t1 t2 t3 hsz
  obtain ⟨xs, cap, c0, ho, hxl, hth⟩ := h'.row
  have H0 : Hid (Rt wa r q G R ∧ Below w.heap.size w wa ∧ wa.heap.size = w.heap.size + 1 ∧ xs.length = R.L.length ∧ ∀ k, k < R.L.length → ThM wa G (xs.getD k Rw.z) (R.at k)) := ⟨h', BA, hsz, hxl, hth⟩
  have HO : Hid (wa.ownsRow 0 63 4 (.slice (some ⟨q, 0, none⟩) R.L.length cap) R.L.length (rcells xs)) := ho
  have HQ : Hid (r < w.heap.size ∧ q < w.heap.size) := hlt
  have HN : Hid (0 < R.L.length) := h0
  clear h h' BA ho hxl hth hlt hsz h0
  go_enter Tryz.func63, Tryz.ntmps63
  go_wp2_with fail
  rw [HWA.out]
  go_loopw [5] (fun i wr => ∃ k : Nat, k ≤ R.L.length ∧ i = .int .i64 k ∧ wr = wa ∧ Hid (∀ j, j < k → ¬ R.at j = .gone)) (fun i _ => R.L.length - (intOf i).toNat)
  case atStart => exact ⟨0, Nat.zero_le _, rfl, rfl, fun j hj => by omega⟩
  case round =>
    obtain ⟨k, hk, rfl, rfl, hH⟩ := hrel
    by_cases hlt : k < R.L.length
    · have q1 : (k : Int) < R.L.length := by omega
      obtain ⟨hR, hB, hsz, hxl, hth⟩ := H0.out
      obtain ⟨cc, x, _, e0, e1, e2, e3, hM, hf⟩ := hR.nth hlt
      cases hx : x.is with
      | true =>
        have hng : ¬ R.at k = .gone := fun e => by
          have := (thm_is hM).2 e
          rw [hx] at this; cases this
        have hH' : Hid (∀ j, j < k + 1 → ¬ R.at j = .gone) := fun j hj => by
          rcases (by omega : j < k ∨ j = k) with h | rfl
          · exact hH.out j h
          · exact hng
        rw [hx] at e0
        clear hR hB hsz hxl hth e1 e2 e3 hM hf hng hx hH
        go_wp2_with fail
        go_roundw
        case rel => exact ⟨k + 1, by omega, by go_num, trivial, hH'⟩
        case measure => simp [intOf]; omega
      | false =>
        have hg := (thm_is hM).1 hx
        have hfr := frN_at R.L k hH.out hg (by omega)
        have hE : Hid (frN R.L = k ∧ Rt (setTh wr q k (Rw.new d)).drew r q G { R with L := frL R.L (newTh d) } ∧ Chg (fun b => b = r ∨ b = q) w (setTh wr q k (Rw.new d)).drew) := by
          have h1 := (hR.setT hlt (newM wr G d)).below (below_drew _ _)
          refine ⟨hfr, ?_, ((Chg.ofBelowC hB).mono (fun _ _ h => h.elim)).trans ((chg_setTh _ _ _ _).trans (Chg.drew _ _) (fun _ _ h => h)) (fun _ _ h => .inr h)⟩
          unfold frL
          rw [hfr, if_pos hlt]
          exact h1
        rw [hx] at e0
        have f0 := hf (k * 4)
        have f1 := hf (k * 4 + 1)
        have f2 := hf (k * 4 + 2)
        have f3 := hf (k * 4 + 3)
        clear hR hB hsz hxl hth hM hf hg hx hH hfr
        go_wp2_with fail
        go_region
        go_wp2_with fail
        go_ret
        exact ⟨by rw [hE.out.1]; rfl, q, .inl rfl, hE.out.2.1, hE.out.2.2⟩
    · have q1 : ¬ (k : Int) < R.L.length := by omega
      obtain ⟨hR, hB, hsz, hxl, hth⟩ := H0.out
      have hfr : Hid (frN R.L = R.L.length) := frN_at R.L R.L.length (fun j hj => hH.out j (by omega)) (by simp [List.getD]) (Nat.le_refl _)
      have hC : ∀ w', Below wr.heap.size wr w' → w'.cell? ⟨r, 0, none⟩ = some (.slice (some ⟨q, 0, none⟩) R.L.length cap) ∧ w'.cell? ⟨w.heap.size, 0, none⟩ = some (.bool true) ∧ w'.cell? ⟨w.heap.size, 1, none⟩ = some (.bool d) ∧ w'.cell? ⟨w.heap.size, 2, none⟩ = some (.slice none 0 0) ∧ w'.cell? ⟨w.heap.size, 3, none⟩ = some (.slice none 0 0) ∧ w'.frozen? ⟨r, 0, none⟩ = false := fun w' hb =>
        ⟨(Chg.ofBelowC hb).cell c0 (fun h => h), (Chg.ofBelowC hb).cell t0 (fun h => h), (Chg.ofBelowC hb).cell t1 (fun h => h), (Chg.ofBelowC hb).cell t2 (fun h => h), (Chg.ofBelowC hb).cell t3 (fun h => h), (World.frozen?_of_block ((Chg.ofBelowC hb).block _ hR.lt.1 (fun h => h))).trans (hR.fr 0)⟩
      have HF : ∀ w2 g2 c2, Hid (Ap2 wr (R.L.length + 1) (rcells (xs ++ [Rw.new d])) w2 g2 c2) → Hid (∀ w5, w2.setCell ⟨r, 0, none⟩ (.slice (some ⟨g2, 0, none⟩) (R.L.length + 1) c2) = w5 → ∃ q', (q' = q ∨ w.heap.size ≤ q') ∧ Rt w5 r q' G { R with L := frL R.L (newTh d) } ∧ Chg (fun b => b = r ∨ b = q) w w5 ∧ w5.cell? ⟨r, 0, none⟩ = some (.slice (some ⟨g2, 0, none⟩) (R.L.length + 1) c2)) := by
        rintro w2 g2 c2 h2 w5 rfl
        obtain ⟨o2, hg2, b2⟩ := h2.out
        have h5 := hR.more hxl hth (fun w => newM w G d) b2 hg2 o2
        have e : frL R.L (newTh d) = R.L ++ [newTh d] := by
          unfold frL
          rw [hfr.out, if_neg (by omega)]
        refine ⟨g2, .inr (by omega), by rw [e]; exact h5, ((Chg.ofBelowC (hB.trans (b2.mono hB.size))).mono (fun _ _ h => h.elim)).trans (Chg.setCell (S := fun b => b = r) _ _ _ rfl) (fun _ _ h => .inl h), ?_⟩
        obtain ⟨_, _, h6, _⟩ := h5.row
        exact World.cell?_setCell_same _ _ _ ((Chg.ofBelowC b2).cell c0 (fun h => h))
      obtain ⟨⟨ga1, ca1, wa1, ga2, ca2, wa2, ra1, ⟨a10, a11, a12, a13, a14, a15⟩, ra2, ⟨a20, a21, a22, a23, a24, a25⟩, ha⟩, ⟨gb1, cb1, wb1, gb2, cb2, wb2, rb1, ⟨b10, b11, b12, b13, b14, b15⟩, rb2, ⟨b20, b21, b22, b23, b24, b25⟩, hb⟩, ⟨gc1, cc1, wc1, gc2, cc2, wc2, rc1, ⟨c10, c11, c12, c13, c14, c15⟩, rc2, ⟨c20, c21, c22, c23, c24, c25⟩, hc⟩⟩ := apps2 wr q cap R.L.length xs d hxl HO.out HN.out (by omega) _ hC
      have FA := HF _ _ _ ha
      have FB := HF _ _ _ hb
      have FC := HF _ _ _ hc
      have bE : Below wr.heap.size wr (wr.alloc thE0) := below_alloc wr _
      have bX : Below wr.heap.size wr (wr.alloc (thO d)) := below_alloc wr _
      obtain ⟨z10, z11, z12, z13, z14, z15⟩ := hC _ bE
      obtain ⟨z20, z21, z22, z23, z24, z25⟩ := hC _ bX
      obtain ⟨z30, z31, z32, z33, z34, z35⟩ := hC _ (bE.alloc bE.size (thO d))
      obtain ⟨z40, z41, z42, z43, z44, z45⟩ := hC _ (bX.alloc bX.size thE0)
      have fr := hR.fr 0
      have HE : Hid (frN R.L = R.L.length) := hfr
      clear hR hB hsz hxl hth hfr hC HF ha hb hc bE bX HO H0 HN hH
      go_wp2_with fail
      go_region
      all_goals
        first
        | (obtain ⟨w5, hw5⟩ : ∃ w5, wa2.setCell ⟨r, 0, none⟩ (.slice (some ⟨ga2, 0, none⟩) (R.L.length + 1) ca2) = w5 := ⟨_, rfl⟩; rw [hw5]; obtain ⟨q', h1, h2, h3, h4⟩ := FA.out w5 hw5; have HH : Hid (∃ q', (q' = q ∨ w.heap.size ≤ q') ∧ Rt w5 r q' G { R with L := frL R.L (newTh d) } ∧ Chg (fun b => b = r ∨ b = q) w w5) := ⟨q', h1, h2, h3⟩; clear hw5 FA FB FC h1 h2 h3; go_wp2_with fail; go_ret; exact ⟨by rw [HE.out]; rfl, HH.out⟩)
        | (obtain ⟨w5, hw5⟩ : ∃ w5, wb2.setCell ⟨r, 0, none⟩ (.slice (some ⟨gb2, 0, none⟩) (R.L.length + 1) cb2) = w5 := ⟨_, rfl⟩; rw [hw5]; obtain ⟨q', h1, h2, h3, h4⟩ := FB.out w5 hw5; have HH : Hid (∃ q', (q' = q ∨ w.heap.size ≤ q') ∧ Rt w5 r q' G { R with L := frL R.L (newTh d) } ∧ Chg (fun b => b = r ∨ b = q) w w5) := ⟨q', h1, h2, h3⟩; clear hw5 FA FB FC h1 h2 h3; go_wp2_with fail; go_ret; exact ⟨by rw [HE.out]; rfl, HH.out⟩)
        | (obtain ⟨w5, hw5⟩ : ∃ w5, wc2.setCell ⟨r, 0, none⟩ (.slice (some ⟨gc2, 0, none⟩) (R.L.length + 1) cc2) = w5 := ⟨_, rfl⟩; rw [hw5]; obtain ⟨q', h1, h2, h3, h4⟩ := FC.out w5 hw5; have HH : Hid (∃ q', (q' = q ∨ w.heap.size ≤ q') ∧ Rt w5 r q' G { R with L := frL R.L (newTh d) } ∧ Chg (fun b => b = r ∨ b = q) w w5) := ⟨q', h1, h2, h3⟩; clear hw5 FA FB FC h1 h2 h3; go_wp2_with fail; go_ret; exact ⟨by rw [HE.out]; rfl, HH.out⟩)
end Go.Proofs.YtlnjnimenihhnaaGreatDoor
