/-
  The document's tree: Create, Mkdir by what stands where.
-/
import Derived.Test.YtlnjnimenihhnaaGreatDoorVMake2
namespace Go.Proofs.YtlnjnimenihhnaaGreatDoor
open Go.RowKit Go.Maps

/-- What an act leaves: the document's tree is T'. -/
def Vto (w w' : World) (r q : Nat) (G : Nat → Prop) (T' : Ts) (K : Nat) : Prop :=
  ∃ R' num', Rto w w' r q G R' ∧ Tie T'.F R' num' ∧ R'.L.length ≤ K + 2 ∧ R'.bl = T'.bl ∧ R'.ino = T'.ino
theorem Vto.same {w w' : World} {r q : Nat} {G : Nat → Prop} {R : Rs} {T : Ts} {num : Pth → Nat} {K : Nat} (h : Rt w r q G R) (hD : Dt T R num K) (hb : Below w.heap.size w w') : Vto w w' r q G T K :=
  ⟨R, num, Rto.same h hb, hD.tie, by have := hD.n; omega, hD.bl, hD.ino⟩
/-- The names' row lies elsewhere. -/
def Far (v : Value) (r q : Nat) : Prop := ∀ a n c, v = .slice (some a) n c → ¬ a.block = r ∧ ¬ a.block = q
/-- Create, Mkdir, by the names. -/
def mkR (T : Ts) (ns : Pth) (d : Bool) : Int × Ts := if ¬ folE T.F ns = 0 then (folE T.F ns, T) else addR T ns (newNd d)
theorem tx_snoc {w : World} {v : Value} {init : Pth} {x : ByteArray} (h : Tx w v (init ++ [x])) : ∃ b off c, v = .slice (some ⟨b, off, none⟩) (init.length + 1) c := by
  obtain ⟨a, c, rfl, h1, h2, h3, hx⟩ := h
  obtain ⟨b, off, rfl, _⟩ := hx (by simp)
  exact ⟨b, off, c, by simp⟩
set_option maxHeartbeats 1600000 in
theorem vmake_any {T : Ts} {R : Rs} {num : Pth → Nat} {K r q : Nat} {G : Nat → Prop} (w : World) (h : Rt w r q G R) (hD : Dt T R num K) (hK : K ≤ 60000) (v : Value) (ns : Pth) (hv : Tx w v ns) (hf : Far v r q) (hl : ns.length ≤ 1000) (hn : ns.all nameB = true) (d : Bool) {c : Int} {T' : Ts} (hr : mkR T ns d = (c, T')) :
    Calls Tryz.prog 31 #[ptr r, v, .bool d] w fun e w' => e = .returned (.int .i64 c) ∧ Vto w w' r q G T' K := by
  have hnl := hD.n
  rcases List.eq_nil_or_concat ns with rfl | ⟨init, x, rfl⟩
  · obtain ⟨a, c0, rfl⟩ := hv.form
    obtain ⟨s, kn, hF⟩ := hD.gd.rdir
    have e : mkR T [] d = (9, T) := by
      unfold mkR
      rw [if_neg (by simp [folE, folA])]
      unfold addR
      rw [hF]
    rw [e] at hr
    cases hr
    refine (rmake_nil a c0 d w).mono ?_
    rintro e w' ⟨rfl, rfl⟩
    exact ⟨rfl, Vto.same h hD (Below.refl _ _)⟩
  · rw [List.concat_eq_append] at hv hl hn hr
    have hall : ∀ y ∈ init ++ [x], nameB y = true := fun y hy => List.all_eq_true.1 hn y hy
    have hx : nameB x = true := hall x (by simp)
    have hx1 : 1 ≤ x.size := (nameB_parts hx).1
    obtain ⟨b0, off, cc, rfl⟩ := tx_snoc hv
    obtain ⟨hv1, _, cx, hlt⟩ := hv.frontV
    obtain ⟨hbr, hbq⟩ := hf _ _ _ rfl
    have hl2 : init.length ≤ 1000 := by simp at hl; omega
    have HW := rwalk_any (.slice (some ⟨b0, off, none⟩) init.length cc) init w h hD (by omega) hv1 hl2 (fun y hy => (nameB_parts (hall y (by simp [hy]))).1)
    rcases fol_up hD.gd init x with ⟨h1, h2⟩ | ⟨h1, ⟨b, h2, h3⟩ | ⟨s, kn, h2, h3⟩⟩
    · have e : mkR T (init ++ [x]) d = (wlkE T.F init, T) := by
        unfold mkR
        rw [h2, if_pos h1]
      rw [e] at hr
      cases hr
      refine (rmake_err init.length _ cc b0 off rfl d w hlt hl2 _ _ h1 HW).mono ?_
      rintro e w' ⟨rfl, B⟩
      exact ⟨rfl, Vto.same h hD B⟩
    · rw [h1, wlkN_ok h1] at HW
      have e : mkR T (init ++ [x]) d = (11, T) := by
        unfold mkR
        rw [h3, if_pos (by decide)]
      rw [e] at hr
      cases hr
      refine (rmake_file init.length _ cc b0 off rfl d w h (hD.tie.fil _ _ h2) (by omega) hlt hl2 HW).mono ?_
      rintro e w' ⟨rfl, B⟩
      exact ⟨rfl, Vto.same h hD B⟩
    · rw [h1, wlkN_ok h1] at HW
      obtain ⟨es, he, hS, hel⟩ := hD.dir h2
      have hs := hD.sl _ _ _ h2
      have hkn := (hD.gd.nms _ _ _ h2).2.2
      have hmem := hD.mem h2 x
      have e0 : mkR T (init ++ [x]) d = addR T (init ++ [x]) (newNd d) := by
        unfold mkR
        rw [h3, if_neg (by simp)]
      rw [e0] at hr
      by_cases hin : x ∈ kn
      · obtain ⟨k, hk, _⟩ := hS.idx hx1 hin
        obtain ⟨nd, hnd⟩ := Option.isSome_iff_exists.1 (hmem.1 hin)
        have e : addR T (init ++ [x]) (newNd d) = (9, T) := by
          unfold addR
          rw [hnd]
        rw [e] at hr
        cases hr
        refine (rmake_is init.length _ cc b0 off k rfl d w h cx he hk (by omega) (by omega) hlt hl2 HW).mono ?_
        rintro e w' ⟨rfl, B⟩
        exact ⟨rfl, Vto.same h hD B⟩
      · have hno : T.F (init ++ [x]) = none := by
          have : ¬ (T.F (init ++ [x])).isSome = true := fun e => hin (hmem.2 e)
          simpa using this
        obtain ⟨k, hP⟩ := hS.spot hx hin hkn
        have hdl : (init ++ [x]).dropLast = init := by simp
        have hla : lastN (init ++ [x]) = x := lastN_next
        have e : addR T (init ++ [x]) (newNd d) = if T.ino = 0 ∨ T.bl < furB s kn.length then (7, T) else (0, ⟨setN (setN T.F init (some (.dir (max s (kn.length + 1)) (x :: kn)))) (init ++ [x]) (some (newNd d)), T.bl - furB s kn.length, T.ino - 1⟩) := by
          unfold addR
          rw [hno, hdl, h2, hla]
        rw [e] at hr
        have hbb := hD.bb
        have hib := hD.ib
        have hbl := hD.bl
        have hio := hD.ino
        by_cases hfull : T.ino = 0 ∨ T.bl < furB s kn.length
        · rw [if_pos hfull] at hr
          cases hr
          by_cases hi0 : T.ino = 0
          · refine (rmake_full0 (_K := K) init.length _ cc b0 off rfl d w hbr hbq h cx hl2 hlt he hS hx hin hP (by omega) (by omega) (by omega) (by omega) HW).mono ?_
            rintro e w' ⟨rfl, B⟩
            exact ⟨rfl, Vto.same h hD B⟩
          · have hfu : T.bl < furB s kn.length := by rcases hfull with h | h; exact absurd h hi0; exact h
            refine (rmake_full1 (_K := K) init.length _ cc b0 off rfl d w hbr hbq h cx hl2 hlt he hS hx hin hP (by omega) (by omega) (by omega) (by omega) (by omega) HW).mono ?_
            rintro e w' ⟨rfl, B⟩
            exact ⟨rfl, Vto.same h hD B⟩
        · rw [if_neg hfull] at hr
          cases hr
          refine (rmake_ok (_K := K) init.length _ cc b0 off rfl d w hbr hbq h cx hl2 hlt he hS hx hin hP (by omega) (by omega) (by omega) (by omega) (by omega) HW).mono ?_
          rintro e w' ⟨rfl, H⟩
          refine ⟨rfl, _, _, H.out, tie_add hD.tie h2 hno hin hP he d _ _, ?_, by show _ - _ = _ - _; rw [hbl], by show _ - _ = _ - _; rw [hio]⟩
          show (List.set _ _ _).length ≤ _
          rw [List.length_set]
          have := (frL_len R.L (newTh d)).1
          omega
end Go.Proofs.YtlnjnimenihhnaaGreatDoor

namespace Go.Proofs.YtlnjnimenihhnaaGreatDoor
open Go.RowKit Go.Maps
attribute [local go_sem ↓] appV_eq

/-- Bytes are appended. -/
theorem run_appB (w : World) (N : Nat) (v x : Value) (n : Nat) (xs news : List Int) (hown : w.ownsRow N 5 1 v n (bcells xs)) (hx : Bs w x news) (hlen : xs.length + news.length ≤ 1099511627776) (hN : N ≤ w.heap.size) :
    ∃ a n' c' w', (appV #[33, 33] 33 #[v, x]).run Tryz.prog w = .ok (.slice a n' c') w' ∧ Hid (w'.ownsRow N 5 1 (.slice a n' c') n' (bcells (xs ++ news)) ∧ Below N w w' ∧ n' = n + news.length) := by
  obtain ⟨i, hi, hz, hs, hb⟩ := info_parts cinfo5
  obtain ⟨v', w', h1, h2, h3, _⟩ := run_app (P := Tryz.prog) w N 33 33 i Tryz.underlying33 hi hz hs hb v x n xs news hown hx hlen hN
  have hB : Below N w w' := (Chg.ofGrown h3).below hN fun k hk => by
    rcases hown.2 with ⟨rfl, _⟩ | ⟨g, cap, cur, rfl, hb, _⟩
    · cases hk
    · have : g = k := by simpa [Value.ownBlock] using hk
      omega
  rcases h2.2 with ⟨rfl, h0⟩ | ⟨g, cap, cur, rfl, _⟩
  · rw [h0] at h2
    exact ⟨none, 0, 0, w', h1, h2, hB, h0.symm⟩
  · exact ⟨_, _, _, w', h1, h2, hB, rfl⟩
theorem lit_own5V (w : World) (N : Nat) (hN : N ≤ w.heap.size) : (w.alloc (.cells #[] 5)).ownsRow N 5 1 (.slice (some ⟨w.heap.size, 0, none⟩) 0 0) 0 (bcells []) :=
  ⟨rfl, .inr ⟨w.heap.size, 0, #[], rfl, hN, heap_alloc_new w _, Nat.le_refl _, Nat.zero_le _, rfl, rfl⟩⟩
/-- A front of bytes. -/
theorem Bs.frontV {w : World} {a : Option Addr} {n c k : Nat} {xs : List Int} (h : Bs w (.slice a n c) xs) (hk : k ≤ xs.length) : Bs w (.slice a k c) (xs.take k) := by
  rcases h with ⟨h, rfl⟩ | ⟨a', c', e, h1, h2, h3⟩
  · injection h with e1 e2 e3
    subst e1; subst e3
    have : k = 0 := by simpa using hk
    subst this
    exact .inl ⟨rfl, rfl⟩
  · injection e with e1 e2 e3
    subst e1; subst e3
    have hl : (xs.take k).length = k := by simp; omega
    refine .inr ⟨a', c, by rw [hl], by omega, h2, fun j hj => ?_⟩
    rw [hl] at hj
    rw [h3 j (by omega)]
    simp [List.getD, hj]
abbrev thB (a : Option Addr) (n d : Nat) : Obj := .cells #[.bool true, .bool false, .slice a n d, .slice none 0 0] 63
set_option maxHeartbeats 6400000 in
set_option maxRecDepth 100000 in
theorem rmore_long {r q m : Nat} {G : Nat → Prop} {R : Rs} {bs : List Int} (a : Option Addr) (n c : Nat) (w : World) (h : Rt w r q G R) (hm : R.at m = .file bs) (_hl : R.L.length ≤ 60001) (hb : bs.length ≤ 8458240) (hn : 8458240 < bs.length + n) (_hn2 : n ≤ 10000000) :
    Calls Tryz.prog 65 #[ptr r, .int .i64 (m : Nat), .slice a n c] w fun e w' => e = .returned (.int .i64 5) ∧ Below w.heap.size w w' := by
  obtain ⟨hml, cc, a1, d1, cL, c0, c1, c2, c3, hE, _⟩ := h.fileAt hm
  have q2 : (m : Int) < R.L.length := by omega
  have HB : Hid (Below w.heap.size w (w.alloc (thB a1 bs.length d1))) := below_alloc w _
  have g1 : (8458240 : Int) - bs.length < n := by omega
  clear h hE
  go_enter Tryz.func65, Tryz.ntmps65
  go_wp2_with fail
  go_ret
  exact ⟨rfl, HB.out⟩
set_option maxHeartbeats 6400000 in
set_option maxRecDepth 100000 in
theorem rmore_full {r q m : Nat} {G : Nat → Prop} {R : Rs} {bs : List Int} (a : Option Addr) (n c : Nat) (w : World) (h : Rt w r q G R) (hm : R.at m = .file bs) (_hl : R.L.length ≤ 60001) (hb : bs.length ≤ 8458240) (hn : bs.length + n ≤ 8458240) (hbl : 0 ≤ R.bl ∧ R.bl ≤ 10000000000) (hf : R.bl < allN ((bs.length : Int) + n) - allN bs.length) :
    Calls Tryz.prog 65 #[ptr r, .int .i64 (m : Nat), .slice a n c] w fun e w' => e = .returned (.int .i64 7) ∧ Below w.heap.size w w' := by
  obtain ⟨hml, cc, a1, d1, cL, c0, c1, c2, c3, hE, hI, hga, hff⟩ := h.fileAt hm
  have q2 : (m : Int) < R.L.length := by omega
  have HB0 : Below w.heap.size w (w.alloc (thB a1 bs.length d1)) := below_alloc w _
  have g1 : ¬ (8458240 : Int) - bs.length < n := by omega
  have x2 : (w.alloc (thB a1 bs.length d1)).cell? ⟨w.heap.size, 2, none⟩ = some (.slice a1 bs.length d1) := by
    rw [cell_of_row _ w.heap.size _ _ _ _ (heap_alloc_new w _)]; rfl
  obtain ⟨wa, HWA⟩ : ∃ wa, Hid (w.alloc (thB a1 bs.length d1) = wa) := ⟨_, rfl⟩
  rw [HWA.out] at HB0 x2
  have hRa := h.below HB0
  have cB := hRa.cB
  have HR : Hid (Rt wa r q G R ∧ Below w.heap.size w wa ∧ Bs wa (.slice a1 bs.length d1) bs) := ⟨hRa, HB0, hE.kept (Chg.ofBelowC HB0) (fun _ _ _ _ _ h => h)⟩
  have HK1 : Hid (∀ j, Calls Tryz.prog 64 #[.int .i64 ((bs.length : Int) + n)] (wa.drewN j) fun e w' => e = .returned (.int .i64 (allN ((bs.length : Int) + n))) ∧ w' = wa.drewN j) := fun j => refAll_any _ _
  have HK2 : Hid (∀ j, Calls Tryz.prog 64 #[.int .i64 (bs.length : Int)] (wa.drewN j) fun e w' => e = .returned (.int .i64 (allN (bs.length : Int))) ∧ w' = wa.drewN j) := fun j => refAll_any _ _
  obtain ⟨A1, hA1⟩ : ∃ A, Hid (allN ((bs.length : Int) + n) = A) := ⟨_, rfl⟩
  obtain ⟨A2, hA2⟩ : ∃ A, Hid (allN (bs.length : Int) = A) := ⟨_, rfl⟩
  have b1 := allN_bd ((bs.length : Int) + n)
  have b2 := allN_bd (bs.length : Int)
  rw [hA1.out] at HK1 b1 hf
  rw [hA2.out] at HK2 b2 hf
  obtain ⟨b11, b12⟩ := b1
  obtain ⟨b21, b22⟩ := b2
  obtain ⟨u1, u2⟩ := hbl
  clear h hE hRa HB0 hga hff hm hI
  go_enter Tryz.func65, Tryz.ntmps65
  go_wp2_with fail
  rw [HWA.out]
  go_quiet (first | (go_at_call 64; exact Calls.quiet_of_same (HK1.out _)) | (go_at_call 64; exact Calls.quiet_of_same (HK2.out _)))
  have HB2 : Hid (Below w.heap.size w (wa.drewN nq)) := bN HR.out.2.1 nq
  go_wp2_with fail
  go_ret
  exact ⟨rfl, HB2.out⟩
set_option maxHeartbeats 6400000 in
set_option maxRecDepth 100000 in
theorem rmore_ok {r q m : Nat} {G : Nat → Prop} {R : Rs} {bs : List Int} (a : Option Addr) (n c : Nat) (w : World) (h : Rt w r q G R) (hm : R.at m = .file bs) (_hl : R.L.length ≤ 60001) (hb : bs.length ≤ 8458240) (hn : bs.length + n ≤ 8458240) (hbl : 0 ≤ R.bl ∧ R.bl ≤ 10000000000) (dd : List Int) (hd : Bs w (.slice a n c) dd) (hdI : IsB dd) (hdl : n = dd.length) (har : ∀ p, a = some p → 0 < n → ¬ p.block = r) (hf : ¬ R.bl < allN ((bs.length : Int) + n) - allN bs.length) :
    Calls Tryz.prog 65 #[ptr r, .int .i64 (m : Nat), .slice a n c] w fun e w' => e = .returned (.int .i64 0) ∧ Hid (Rto w w' r q G ⟨R.L.set m (.file (bs ++ dd)), R.bl - (allN ((bs.length : Int) + n) - allN bs.length), R.ino⟩) := by
  obtain ⟨hml, cc, a1, d1, cL, c0, c1, c2, c3, hE, hI, hga, hff⟩ := h.fileAt hm
  have q2 : (m : Int) < R.L.length := by omega
  have HB0 : Below w.heap.size w (w.alloc (thB a1 bs.length d1)) := below_alloc w _
  have g1 : ¬ (8458240 : Int) - bs.length < n := by omega
  have x2 : (w.alloc (thB a1 bs.length d1)).cell? ⟨w.heap.size, 2, none⟩ = some (.slice a1 bs.length d1) := by
    rw [cell_of_row _ w.heap.size _ _ _ _ (heap_alloc_new w _)]; rfl
  obtain ⟨wa, HWA⟩ : ∃ wa, Hid (w.alloc (thB a1 bs.length d1) = wa) := ⟨_, rfl⟩
  rw [HWA.out] at HB0 x2
  have hRa := h.below HB0
  have cB := hRa.cB
  have HR : Hid (Rt wa r q G R ∧ Below w.heap.size w wa ∧ Bs wa (.slice a1 bs.length d1) bs) := ⟨hRa, HB0, hE.kept (Chg.ofBelowC HB0) (fun _ _ _ _ _ h => h)⟩
  have HK1 : Hid (∀ j, Calls Tryz.prog 64 #[.int .i64 ((bs.length : Int) + n)] (wa.drewN j) fun e w' => e = .returned (.int .i64 (allN ((bs.length : Int) + n))) ∧ w' = wa.drewN j) := fun j => refAll_any _ _
  have HK2 : Hid (∀ j, Calls Tryz.prog 64 #[.int .i64 (bs.length : Int)] (wa.drewN j) fun e w' => e = .returned (.int .i64 (allN (bs.length : Int))) ∧ w' = wa.drewN j) := fun j => refAll_any _ _
  obtain ⟨A1, hA1⟩ : ∃ A, Hid (allN ((bs.length : Int) + n) = A) := ⟨_, rfl⟩
  obtain ⟨A2, hA2⟩ : ∃ A, Hid (allN (bs.length : Int) = A) := ⟨_, rfl⟩
  have b1 := allN_bd ((bs.length : Int) + n)
  have b2 := allN_bd (bs.length : Int)
  rw [hA1.out] at HK1 b1 hf
  rw [hA2.out] at HK2 b2 hf
  obtain ⟨b11, b12⟩ := b1
  obtain ⟨b21, b22⟩ := b2
  obtain ⟨u1, u2⟩ := hbl
  have frB := hRa.fr 1
  have HL : Hid (r < w.heap.size ∧ q < w.heap.size) := h.lt
  have hsz : Hid (wa.heap.size = w.heap.size + 1) := by
    show _ = _
    rw [← HWA.out]; simp
  have HD : Hid (Bs wa (.slice a n c) dd ∧ IsB dd ∧ (∀ p, a = some p → 0 < n → ¬ p.block = r) ∧ n = dd.length ∧ IsB bs ∧ ∀ p, a1 = some p → G p.block) := ⟨hd.kept (Chg.ofBelowC HB0) (fun _ _ _ _ _ h => h), hdI, har, hdl, hI, hga⟩
  clear h hE hRa HB0 hga hff hI hd hdI har hdl
  go_enter Tryz.func65, Tryz.ntmps65
  go_wp2_with fail
  rw [HWA.out]
  go_quiet (first | (go_at_call 64; exact Calls.quiet_of_same (HK1.out _)) | (go_at_call 64; exact Calls.quiet_of_same (HK2.out _)))
  have HB2 : Hid (Below wa.heap.size wa (wa.drewN nq)) := (Chg.drewN (fun _ => False) wa nq).below (Nat.le_refl _) (fun _ h => h.elim)
  have cB2 := (Chg.ofBelowC HB2.out).cell cB (fun h => h)
  have x22 := (Chg.ofBelowC HB2.out).cell x2 (fun h => h)
  have cL2 := (Chg.ofBelowC HB2.out).cell ((Chg.ofBelowC HR.out.2.1).cell cL (fun h => h)) (fun h => h)
  have frB2 : (wa.drewN nq).frozen? ⟨r, 1, none⟩ = false := frB
  generalize wa.drewN nq = wb at *
  clear cB x2 frB c0 c1 c2 c3 cL
  go_upto_region 8 with fail
  obtain ⟨w5, hw5⟩ : ∃ w5, wb.setCell ⟨r, 1, none⟩ (.int .i64 (R.bl - (A1 - A2))) = w5 := ⟨_, rfl⟩
  rw [hw5]
  obtain ⟨_, _, HR5, HC5⟩ := fin_B (HR.out.1.below HB2.out) (R.bl - (A1 - A2)) w5 hw5
  have hlt := HL.out
  -- what is read
  have hc5 : Chg (fun b => b = r) wa w5 := ((Chg.ofBelowC HB2.out).mono (fun _ _ h => h.elim)).trans HC5.out (fun _ _ h => h)
  have hC : ∀ w', Below w5.heap.size w5 w' → (∃ cz, w'.cell? ⟨r, 0, none⟩ = some (.slice (some ⟨q, 0, none⟩) R.L.length cz) ∧ cz = cz) ∧ w'.cell? ⟨w.heap.size, 2, none⟩ = some (.slice a1 bs.length d1) ∧ (∃ u, w'.cell? ⟨q, m * 4 + 2, none⟩ = some u) ∧ w'.frozen? ⟨q, m * 4 + 2, none⟩ = false := fun w' hb => by
    obtain ⟨_, cz, _, _, k0, _, _, k2, _, _, _, _, kf⟩ := (HR5.out.below hb).fileAt (k := m) hm
    refine ⟨⟨cz, k0, rfl⟩, ?_, ⟨_, k2⟩, kf _⟩
    have := HC5.out.cell x22 (by show ¬ w.heap.size = r; omega)
    exact (Chg.ofBelowC hb).cell this (fun h => h)
  have hBs : ∀ w', Below w5.heap.size w5 w' → Bs w' (.slice a1 bs.length d1) bs ∧ Bs w' (.slice a n c) dd := fun w' hb => by
    have h1 := HR.out.2.2.kept hc5 (fun p n c e _ e2 => HR.out.1.gr (by
      injection e with e1
      exact e2 ▸ HD.out.2.2.2.2.2 _ e1))
    have h2 := HD.out.1.kept hc5 (fun p n c e h0 e2 => by
      injection e with e1 e3
      subst e3
      exact HD.out.2.2.1 _ e1 h0 e2)
    exact ⟨h1.kept (Chg.ofBelowC hb) (fun _ _ _ _ _ h => h), h2.kept (Chg.ofBelowC hb) (fun _ _ _ _ _ h => h)⟩
  have bE : Below w5.heap.size w5 (w5.alloc (.cells #[] 5)) := below_alloc w5 _
  have bE' : Below w5.heap.size w5 (w5.alloc (.cells #[] 5)).drew := ⟨bE.os, bE.tape, bE.output, bE.size, bE.block⟩
  obtain ⟨v1, n1, k1, w6, r1, H1⟩ := run_appB (w5.alloc (.cells #[] 5)).drew w5.heap.size (.slice (some ⟨w5.heap.size, 0, none⟩) 0 0) (.slice a1 bs.length d1) 0 [] bs (lit_own5V w5 _ (Nat.le_refl _)) (hBs _ bE').1 (by simp; omega) bE'.size
  obtain ⟨ho1, hb1, en1⟩ := H1.out
  have b6 := bE'.trans hb1
  obtain rfl : n1 = bs.length := by omega
  clear en1
  obtain ⟨v2, n2, k2, w7, r2, H2⟩ := run_appB w6 w5.heap.size (.slice v1 bs.length k1) (.slice a n c) bs.length ([] ++ bs) dd ho1 (hBs _ b6).2 (by have := HD.out.2.2.2.1; simp; omega) b6.size
  obtain ⟨ho2, hb2, en2⟩ := H2.out
  clear en2
  have b7 := b6.trans hb2
  obtain ⟨⟨cz, y0, _⟩, y1, ⟨_, y2⟩, yf⟩ := hC _ (Below.refl _ _)
  obtain ⟨⟨cz2, z0, _⟩, z1, ⟨_, z2⟩, zf⟩ := hC _ bE
  have e2 : cz2 = cz := by
    have := (Chg.ofBelowC bE).cell y0 (fun h => h)
    rw [this] at z0
    injection z0 with z0
    injection z0 with _ _ z0
    exact z0.symm
  subst e2
  have s0 := (Chg.ofBelowC b6).cell y0 (fun h => h)
  have s1 := (Chg.ofBelowC b6).cell y1 (fun h => h)
  have t0 := (Chg.ofBelowC b7).cell y0 (fun h => h)
  have t1 := (Chg.ofBelowC b7).cell y1 (fun h => h)
  obtain ⟨_, _, ⟨_, t2⟩, tf⟩ := hC _ b7
  -- the end
  have hE : Bs w7 (.slice v2 n2 k2) (bs ++ dd) := by have := Bs.ofOwns ho2; simpa using this
  have hblk : ∀ p, v2 = some p → w5.heap.size ≤ p.block ∧ p.block < w7.heap.size := by
    intro p hp
    rcases ho2.2 with ⟨h, _⟩ | ⟨g, cap, cur, e, hb, hg, _⟩
    · injection h with h; rw [hp] at h; cases h
    · injection e with e
      rw [hp] at e; cases e
      exact ⟨hb, lt_of_block hg⟩
  have hl5 := HR5.out.lt
  have h7 := (HR5.out.below b7).setB (k := m) (bs' := bs ++ dd) hm hE (fun y hy => by
    rcases List.mem_append.1 hy with h | h
    · exact HD.out.2.2.2.2.1 y h
    · exact HD.out.2.1 y h) (a := v2) (n := n2) (d := k2) (fun p hp => by have := hblk p hp; omega)
  have HZ : Hid (Rto w (w7.setCell ⟨q, m * 4 + 2, none⟩ (.slice v2 n2 k2)) r q G ⟨R.L.set m (.file (bs ++ dd)), R.bl - (allN ((bs.length : Int) + n) - allN bs.length), R.ino⟩) := by
    rw [hA1.out, hA2.out]
    have hs5 : wa.heap.size ≤ w5.heap.size := hc5.size
    refine ⟨⟨q, _, h7, .inl rfl, ?_⟩, ?_⟩
    · rintro b (h | ⟨p, hp, rfl⟩)
      · exact .inl h
      · have := hblk p hp
        have := hsz.out
        exact .inr (by omega)
    · have f0 := ((Chg.ofBelowC HR.out.2.1).mono (S' := fun b => b = r ∨ b = q) (fun _ _ h => h.elim)).trans hc5 (fun _ _ h => .inl h)
      have f1 := f0.trans ((Chg.ofBelowC b7).mono (fun _ _ h => h.elim)) (S' := fun _ => False) (fun _ _ h => h.elim)
      exact f1.trans (Chg.setCell (S := fun b => b = q) _ _ _ rfl) (fun _ _ h => .inr h)
  clear H1 H2 ho1 ho2 hb1 hb2 hE hblk hl5 h7 b6 b7 bE bE' hC hBs hc5 hlt HR HD hsz HL HB2 HC5 HR5 hw5
  go_wp2_with fail
  go_region
  go_wp2_with fail
  go_ret
  exact ⟨rfl, HZ⟩
end Go.Proofs.YtlnjnimenihhnaaGreatDoor

namespace Go.Proofs.YtlnjnimenihhnaaGreatDoor
open Go.RowKit Go.Maps
attribute [local go_sem ↓] appV_eq

abbrev opV (k : Int) (p q : ByteArray) (dv : Value) (n : Int) : Obj := .cells #[.int .i64 k, .string p, .string q, dv, .int .i64 n] 37
theorem opv_cells (w : World) (k : Int) (p q : ByteArray) (dv : Value) (n : Int) : (w.alloc (opV k p q dv n)).cell? ⟨w.heap.size, 0, none⟩ = some (.int .i64 k) ∧ (w.alloc (opV k p q dv n)).cell? ⟨w.heap.size, 1, none⟩ = some (.string p) ∧ (w.alloc (opV k p q dv n)).cell? ⟨w.heap.size, 2, none⟩ = some (.string q) ∧ (w.alloc (opV k p q dv n)).cell? ⟨w.heap.size, 3, none⟩ = some dv ∧ (w.alloc (opV k p q dv n)).cell? ⟨w.heap.size, 4, none⟩ = some (.int .i64 n) := by
  refine ⟨?_, ?_, ?_, ?_, ?_⟩ <;> rw [cell_of_row _ w.heap.size _ _ _ _ (heap_alloc_new w _)] <;> rfl
section
variable {r : Nat} {va : Option Addr} {vn vc : Nat} {k : Int} {p q0 : ByteArray} {da : Option Addr} {dn dc : Nat} {n : Int} {w : World}
set_option maxHeartbeats 6400000 in
set_option maxRecDepth 100000 in
theorem rdata_err {m ec : Int} (he : ¬ ec = 0)
    (HW : ∀ w', Below w.heap.size w w' → Calls Tryz.prog 59 #[ptr r, .slice va vn vc] w' fun e w'' => e = .returned (.tuple #[.int .i64 m, .int .i64 ec]) ∧ Below w'.heap.size w' w'') :
    Calls Tryz.prog 32 #[ptr r, .agg #[.int .i64 k, .string p, .string q0, .slice da dn dc, .int .i64 n], .slice va vn vc] w fun e w' => e = .returned (.int .i64 ec) ∧ Below w.heap.size w w' := by
  have B0 : Below w.heap.size w (w.alloc (opV k p q0 (.slice da dn dc) n)) := below_alloc w _
  have HWH : Hid (Calls Tryz.prog 59 #[ptr r, .slice va vn vc] (w.alloc (opV k p q0 (.slice da dn dc) n)) fun e w'' => e = .returned (.tuple #[.int .i64 m, .int .i64 ec]) ∧ Below (w.alloc (opV k p q0 (.slice da dn dc) n)).heap.size (w.alloc (opV k p q0 (.slice da dn dc) n)) w'') := HW _ B0
  have HB : Hid (Below w.heap.size w (w.alloc (opV k p q0 (.slice da dn dc) n))) := B0
  have e1 : (ec == 0) = false := by simpa using he
  have e2 : decide (ec = 0) = false := by simpa using he
  clear HW B0
  go_enter Tryz.func32, Tryz.ntmps32
  go_wp2_with fail
  refine HWH.out.mono ?_
  clear HWH
  rintro e w1 ⟨rfl, B1⟩
  have HB1 : Hid (Below w.heap.size w w1) := HB.out.trans (B1.mono HB.out.size)
  clear B1 HB
  go_wp2_with fail
  go_ret
  exact ⟨rfl, HB1.out⟩
set_option maxHeartbeats 6400000 in
set_option maxRecDepth 100000 in
theorem rdata_dir {q m : Nat} {G : Nat → Prop} {R : Rs} {es : List En} (h : Rt w r q G R) (hm : R.at m = .dir es)
    (HW : ∀ w', Below w.heap.size w w' → Calls Tryz.prog 59 #[ptr r, .slice va vn vc] w' fun e w'' => e = .returned (.tuple #[.int .i64 (m : Nat), .int .i64 0]) ∧ Below w'.heap.size w' w'') :
    Calls Tryz.prog 32 #[ptr r, .agg #[.int .i64 k, .string p, .string q0, .slice da dn dc, .int .i64 n], .slice va vn vc] w fun e w' => e = .returned (.int .i64 10) ∧ Below w.heap.size w w' := by
  have B0 : Below w.heap.size w (w.alloc (opV k p q0 (.slice da dn dc) n)) := below_alloc w _
  have HWH : Hid (Calls Tryz.prog 59 #[ptr r, .slice va vn vc] (w.alloc (opV k p q0 (.slice da dn dc) n)) fun e w'' => e = .returned (.tuple #[.int .i64 (m : Nat), .int .i64 0]) ∧ Below (w.alloc (opV k p q0 (.slice da dn dc) n)).heap.size (w.alloc (opV k p q0 (.slice da dn dc) n)) w'') := HW _ B0
  have HB : Hid (Below w.heap.size w (w.alloc (opV k p q0 (.slice da dn dc) n)) ∧ Rt w r q G R) := ⟨B0, h⟩
  clear HW B0 h
  go_enter Tryz.func32, Tryz.ntmps32
  go_wp2_with fail
  refine HWH.out.mono ?_
  clear HWH
  rintro e w1 ⟨rfl, B1⟩
  have B2 := HB.out.1.trans (B1.mono HB.out.1.size)
  obtain ⟨hml, cc, a1, d1, cL, c0, c1, c2, c3, _, _, _⟩ := (HB.out.2.below B2).dirAt hm
  have q2 : (m : Int) < R.L.length := by omega
  have HB1 : Hid (Below w.heap.size w w1) := B2
  clear B1 B2 HB
  go_wp2_with fail
  go_ret
  exact ⟨rfl, by have h := HB1.out; exact h.alloc h.size _⟩
set_option maxHeartbeats 6400000 in
set_option maxRecDepth 100000 in
theorem rdata_app {q m : Nat} {G : Nat → Prop} {R : Rs} {bs : List Int} (h : Rt w r q G R) (hm : R.at m = .file bs) (hk : ¬ k = 4) {c : Int} (X : World → World → Prop)
    (HW : ∀ w', Below w.heap.size w w' → Calls Tryz.prog 59 #[ptr r, .slice va vn vc] w' fun e w'' => e = .returned (.tuple #[.int .i64 (m : Nat), .int .i64 0]) ∧ Below w'.heap.size w' w'')
    (HM : ∀ w', Below w.heap.size w w' → Calls Tryz.prog 65 #[ptr r, .int .i64 (m : Nat), .slice da dn dc] w' fun e w'' => e = .returned (.int .i64 c) ∧ X w' w'') :
    Calls Tryz.prog 32 #[ptr r, .agg #[.int .i64 k, .string p, .string q0, .slice da dn dc, .int .i64 n], .slice va vn vc] w fun e w' => e = .returned (.int .i64 c) ∧ ∃ w1, Below w.heap.size w w1 ∧ X w1 w' := by
  have B0 : Below w.heap.size w (w.alloc (opV k p q0 (.slice da dn dc) n)) := below_alloc w _
  have HWH : Hid (Calls Tryz.prog 59 #[ptr r, .slice va vn vc] (w.alloc (opV k p q0 (.slice da dn dc) n)) fun e w'' => e = .returned (.tuple #[.int .i64 (m : Nat), .int .i64 0]) ∧ Below (w.alloc (opV k p q0 (.slice da dn dc) n)).heap.size (w.alloc (opV k p q0 (.slice da dn dc) n)) w'') := HW _ B0
  have HB : Hid (Below w.heap.size w (w.alloc (opV k p q0 (.slice da dn dc) n)) ∧ Rt w r q G R) := ⟨B0, h⟩
  have HMH : Hid (∀ w', Below w.heap.size w w' → Calls Tryz.prog 65 #[ptr r, .int .i64 (m : Nat), .slice da dn dc] w' fun e w'' => e = .returned (.int .i64 c) ∧ Hid (X w' w'')) := HM
  have HO : Hid _ := opv_cells w k p q0 (.slice da dn dc) n
  have e1 : (k == 4) = false := by simpa using hk
  have e2 : decide (k = 4) = false := by simpa using hk
  clear HW B0 h HM
  go_enter Tryz.func32, Tryz.ntmps32
  go_wp2_with fail
  refine HWH.out.mono ?_
  clear HWH
  rintro e w1 ⟨rfl, B1⟩
  have B2 := HB.out.1.trans (B1.mono HB.out.1.size)
  obtain ⟨hml, cc, a1, d1, cL, c0, c1, c2, c3, _, _, _, _⟩ := (HB.out.2.below B2).fileAt hm
  have q2 : (m : Int) < R.L.length := by omega
  obtain ⟨o0, o1, o2, o3, o4⟩ := HO.out
  have hc1 := Chg.ofBelowC B1
  have p0 := hc1.cell o0 (fun h => h)
  have p3 := hc1.cell o3 (fun h => h)
  have bA : Below w1.heap.size w1 (w1.alloc (thB a1 bs.length d1)) := below_alloc w1 _
  have r0 := (Chg.ofBelowC bA).cell p0 (fun h => h)
  have r3 := (Chg.ofBelowC bA).cell p3 (fun h => h)
  have HB1 : Hid (Below w.heap.size w (w1.alloc (thB a1 bs.length d1))) := B2.trans (bA.mono B2.size)
  have HM1 : Hid (Calls Tryz.prog 65 #[ptr r, .int .i64 (m : Nat), .slice da dn dc] (w1.alloc (thB a1 bs.length d1)) fun e w'' => e = .returned (.int .i64 c) ∧ Hid (X (w1.alloc (thB a1 bs.length d1)) w'')) := HMH.out _ HB1.out
  clear B1 B2 HB HO o0 o1 o2 o3 o4 hc1 HMH bA p0 p3
  go_wp2_with fail
  refine HM1.out.mono ?_
  clear HM1
  rintro e w2 ⟨rfl, HX⟩
  go_wp2_with fail
  go_ret
  exact ⟨rfl, _, HB1.out, HX.out⟩
set_option maxHeartbeats 6400000 in
set_option maxRecDepth 100000 in
theorem rcut_arg {q m : Nat} {G : Nat → Prop} {R : Rs} {bs : List Int} (h : Rt w r q G R) (hm : R.at m = .file bs) (hn : ¬ (0 ≤ n ∧ n ≤ bs.length))
    (HW : ∀ w', Below w.heap.size w w' → Calls Tryz.prog 59 #[ptr r, .slice va vn vc] w' fun e w'' => e = .returned (.tuple #[.int .i64 (m : Nat), .int .i64 0]) ∧ Below w'.heap.size w' w'') :
    Calls Tryz.prog 32 #[ptr r, .agg #[.int .i64 4, .string p, .string q0, .slice da dn dc, .int .i64 n], .slice va vn vc] w fun e w' => e = .returned (.int .i64 1) ∧ Below w.heap.size w w' := by
  have B0 : Below w.heap.size w (w.alloc (opV 4 p q0 (.slice da dn dc) n)) := below_alloc w _
  have HWH : Hid (Calls Tryz.prog 59 #[ptr r, .slice va vn vc] (w.alloc (opV 4 p q0 (.slice da dn dc) n)) fun e w'' => e = .returned (.tuple #[.int .i64 (m : Nat), .int .i64 0]) ∧ Below (w.alloc (opV 4 p q0 (.slice da dn dc) n)).heap.size (w.alloc (opV 4 p q0 (.slice da dn dc) n)) w'') := HW _ B0
  have HB : Hid (Below w.heap.size w (w.alloc (opV 4 p q0 (.slice da dn dc) n)) ∧ Rt w r q G R) := ⟨B0, h⟩
  have HO : Hid _ := opv_cells w 4 p q0 (.slice da dn dc) n
  clear HW B0 h
  go_enter Tryz.func32, Tryz.ntmps32
  go_wp2_with fail
  refine HWH.out.mono ?_
  clear HWH
  rintro e w1 ⟨rfl, B1⟩
  have B2 := HB.out.1.trans (B1.mono HB.out.1.size)
  obtain ⟨hml, cc, a1, d1, cL, c0, c1, c2, c3, _, _, _, _⟩ := (HB.out.2.below B2).fileAt hm
  have q2 : (m : Int) < R.L.length := by omega
  obtain ⟨o0, o1, o2, o3, o4⟩ := HO.out
  have hc1 := Chg.ofBelowC B1
  have p0 := hc1.cell o0 (fun h => h)
  have p4 := hc1.cell o4 (fun h => h)
  have bA : Below w1.heap.size w1 (w1.alloc (thB a1 bs.length d1)) := below_alloc w1 _
  have r0 := (Chg.ofBelowC bA).cell p0 (fun h => h)
  have r4 := (Chg.ofBelowC bA).cell p4 (fun h => h)
  have HB1 : Hid (Below w.heap.size w (w1.alloc (thB a1 bs.length d1))) := B2.trans (bA.mono B2.size)
  clear B1 B2 HB HO o0 o1 o2 o3 o4 hc1 bA p0 p4
  by_cases h1 : n < 0
  · have d1' : decide (n < 0) = true := by simpa using h1
    go_wp2_with fail
    go_ret
    exact ⟨rfl, HB1.out⟩
  · have d1' : decide (n < 0) = false := by simpa using h1
    have h2 : (bs.length : Int) < n := by omega
    have d2' : decide ((bs.length : Int) < n) = true := by simpa using h2
    go_wp2_with fail
    go_ret
    exact ⟨rfl, HB1.out⟩
end
end Go.Proofs.YtlnjnimenihhnaaGreatDoor

namespace Go.Proofs.YtlnjnimenihhnaaGreatDoor
open Go.RowKit Go.Maps

abbrev thX (x : Rw) : Obj := .cells #[.bool x.is, .bool x.dir, x.bv, x.sv] 63
set_option maxHeartbeats 6400000 in
set_option maxRecDepth 100000 in
theorem rfree_dir {r q m : Nat} {G : Nat → Prop} {R : Rs} {es : List En} (w : World) (h : Rt w r q G R) (hm : R.at m = .dir es) (hel : es.length ≤ 100000) (hb : 0 ≤ R.bl ∧ R.bl ≤ 10000000000) (hi : 0 ≤ R.ino ∧ R.ino ≤ 10000000) :
    Calls Tryz.prog 67 #[ptr r, .int .i64 (m : Nat)] w fun e w' => e = .returned (.tuple #[]) ∧ Hid (Rt w' r q G ⟨R.L.set m .gone, R.bl + slB es.length, R.ino + 1⟩ ∧ Chg (fun b => b = r ∨ b = q) w w') := by
  obtain ⟨hml, cc, a1, d1, cL, c0, c1, c2, c3, hE, _, hf⟩ := h.dirAt hm
  have q2 : (m : Int) < R.L.length := by omega
  have B0 : Below w.heap.size w (w.alloc (.cells #[.bool true, .bool true, .slice none 0 0, .slice a1 es.length d1] 63)) := below_alloc w _
  have x1 : (w.alloc (.cells #[.bool true, .bool true, .slice none 0 0, .slice a1 es.length d1] 63)).cell? ⟨w.heap.size, 1, none⟩ = some (.bool true) := by
    rw [cell_of_row _ w.heap.size _ _ _ _ (heap_alloc_new w _)]; rfl
  have x3 : (w.alloc (.cells #[.bool true, .bool true, .slice none 0 0, .slice a1 es.length d1] 63)).cell? ⟨w.heap.size, 3, none⟩ = some (.slice a1 es.length d1) := by
    rw [cell_of_row _ w.heap.size _ _ _ _ (heap_alloc_new w _)]; rfl
  have HH : Hid (∀ wa, w.alloc (.cells #[.bool true, .bool true, .slice none 0 0, .slice a1 es.length d1] 63) = wa → Below w.heap.size w wa ∧ wa.cell? ⟨w.heap.size, 1, none⟩ = some (.bool true) ∧ wa.cell? ⟨w.heap.size, 3, none⟩ = some (.slice a1 es.length d1)) := by
    rintro wa rfl
    exact ⟨B0, x1, x3⟩
  have HR : Hid (Rt w r q G R ∧ Es w (.slice a1 es.length d1) es ∧ m < R.L.length) := ⟨h, hE, hml⟩
  clear h hE hf B0 x1 x3
  go_enter Tryz.func67, Tryz.ntmps67
  go_upto_region 1 with fail
  obtain ⟨wa, hwa⟩ : ∃ wa, w.alloc (.cells #[.bool true, .bool true, .slice none 0 0, .slice a1 es.length d1] 63) = wa := ⟨_, rfl⟩
  rw [hwa]
  obtain ⟨hB, x1, x3⟩ := HH.out wa hwa
  have cLa := (Chg.ofBelowC hB).cell cL (fun h => h)
  clear HH hwa cL c0 c1 c2 c3
  have hRa := HR.out.1.below hB
  have cB := hRa.cB
  have fB := hRa.fr 1
  have HA : Hid (Rt wa r q G R ∧ Below w.heap.size w wa) := ⟨hRa, hB⟩
  have HN : Hid (∀ w', Below wa.heap.size wa w' → Calls Tryz.prog 62 #[.slice a1 es.length d1] w' fun e w'' => e = .returned (.int .i64 (slB es.length)) ∧ w'' = w') := fun w' hb => rneed_any _ es w' ((HR.out.2.1.below hB).below hb) (by omega)
  obtain ⟨X, hX⟩ : ∃ X, Hid (slB es.length = X) := ⟨_, rfl⟩
  have b1 := slB_bd es.length
  rw [hX.out] at HN b1
  obtain ⟨b11, b12⟩ := b1
  obtain ⟨u1, u2⟩ := hb
  obtain ⟨v1, v2⟩ := hi
  have HE : Hid (∀ wb, (wa.setCell ⟨r, 1, none⟩ (.int .i64 (IntKind.i64.wrap (R.bl + X)))).drew = wb → wb.cell? ⟨r, 2, none⟩ = some (.int .i64 R.ino) ∧ wb.frozen? ⟨r, 2, none⟩ = false ∧ Hid (∀ wc, wb.setCell ⟨r, 2, none⟩ (.int .i64 (R.ino + 1)) = wc →
      wc.cell? ⟨r, 0, none⟩ = some (.slice (some ⟨q, 0, none⟩) R.L.length cc) ∧ wc.frozen? ⟨q, m * 4, none⟩ = false ∧ wc.frozen? ⟨q, m * 4 + 1, none⟩ = false ∧ wc.frozen? ⟨q, m * 4 + 2, none⟩ = false ∧ wc.frozen? ⟨q, m * 4 + 3, none⟩ = false ∧ (∃ u, wc.cell? ⟨q, m * 4, none⟩ = some u) ∧ (∃ u, wc.cell? ⟨q, m * 4 + 1, none⟩ = some u) ∧ (∃ u, wc.cell? ⟨q, m * 4 + 2, none⟩ = some u) ∧ (∃ u, wc.cell? ⟨q, m * 4 + 3, none⟩ = some u) ∧
      Hid (Hid (Rt (setTh wc q m Rw.z) r q G ⟨R.L.set m .gone, R.bl + slB es.length, R.ino + 1⟩ ∧ Chg (fun b => b = r ∨ b = q) w (setTh wc q m Rw.z))))) := by
    rintro wb rfl
    have ev : IntKind.i64.wrap (R.bl + X) = R.bl + X := by rw [IntKind.wrap_i64]; omega
    rw [ev]
    have h1 := (hRa.setBl (R.bl + X)).below (below_drew _ _)
    refine ⟨h1.cI, h1.fr 2, ?_⟩
    rintro wc rfl
    have h2 := h1.setIno (R.ino + 1)
    obtain ⟨k0, kx, k1, k2, k3, k4, k5, _, kf⟩ := h2.nth (k := m) HR.out.2.2
    have ecc : kx = kx := rfl
    obtain ⟨xs, cap, j1, j2, j3, j4⟩ := h2.row
    have hcc : ((((wa.setCell ⟨r, 1, none⟩ (.int .i64 (R.bl + X)))).drew.setCell ⟨r, 2, none⟩ (.int .i64 (R.ino + 1)))).cell? ⟨r, 0, none⟩ = some (.slice (some ⟨q, 0, none⟩) R.L.length cc) := by
      rw [World.cell?_setCell_other _ _ _ _ (by simp)]
      show (wa.setCell ⟨r, 1, none⟩ (.int .i64 (R.bl + X))).cell? _ = _
      rw [World.cell?_setCell_other _ _ _ _ (by simp)]
      exact cLa
    refine ⟨hcc, kf _, kf _, kf _, kf _, ⟨_, k2⟩, ⟨_, k3⟩, ⟨_, k4⟩, ⟨_, k5⟩, ?_⟩
    rw [hX.out]
    refine ⟨h2.setT HR.out.2.2 (x := Rw.z) (t := .gone) rfl, ?_⟩
    have f0 := (Chg.ofBelowC hB).mono (S' := fun b => b = r ∨ b = q) (fun _ _ h => h.elim)
    have f1 := f0.trans (Chg.setCell (S := fun b => b = r) wa ⟨r, 1, none⟩ (.int .i64 (R.bl + X)) rfl) (fun _ _ h => .inl h)
    have f2 := f1.trans (Chg.drew (fun _ => False) _) (fun _ _ h => h.elim)
    have f3 := f2.trans (Chg.setCell (S := fun b => b = r) _ ⟨r, 2, none⟩ (.int .i64 (R.ino + 1)) rfl) (fun _ _ h => .inl h)
    exact f3.trans (chg_setTh _ _ _ _) (fun _ _ h => .inr h)
  have D9 : ∀ k, Below wa.heap.size wa (wa.drewN k) := fun k => ⟨rfl, rfl, rfl, Nat.le_refl _, fun _ _ => rfl⟩
  have D0 : ∀ k, Below wa.heap.size wa (wa.drewN k).drew := fun k => ⟨rfl, rfl, rfl, Nat.le_refl _, fun _ _ => rfl⟩
  have D1 : Below wa.heap.size wa wa.drew := ⟨rfl, rfl, rfl, Nat.le_refl _, fun _ _ => rfl⟩
  clear hRa hB cLa
  go_wp2_with fail
  go_region_with (first | (go_at_call 62; refine (HN.out _ (by first | exact D1 | exact D0 _ | exact D9 _)).mono ?_; rintro e w5 ⟨rfl, rfl⟩))
  all_goals
    obtain ⟨wb, hwb⟩ : ∃ wb, (wa.setCell ⟨r, 1, none⟩ (.int .i64 (IntKind.i64.wrap (R.bl + X)))).drew = wb := ⟨_, rfl⟩
    rw [hwb]
    obtain ⟨y2, yf, Hb⟩ := HE.out wb hwb
    clear hwb
    go_upto_region 5 with fail
    obtain ⟨wc, hwc⟩ : ∃ wc, wb.setCell ⟨r, 2, none⟩ (.int .i64 (R.ino + 1)) = wc := ⟨_, rfl⟩
    rw [hwc]
    obtain ⟨z0, zf0, zf1, zf2, zf3, ⟨_, z1⟩, ⟨_, z2⟩, ⟨_, z3⟩, ⟨_, z4⟩, Hc⟩ := Hb.out wc hwc
    clear hwc y2 yf Hb
    go_wp2_with fail
    go_end0
    exact ⟨rfl, Hc⟩
set_option maxHeartbeats 6400000 in
set_option maxRecDepth 100000 in
theorem rfree_file {r q m : Nat} {G : Nat → Prop} {R : Rs} {bs : List Int} (w : World) (h : Rt w r q G R) (hm : R.at m = .file bs) (hb : 0 ≤ R.bl ∧ R.bl ≤ 10000000000) (hi : 0 ≤ R.ino ∧ R.ino ≤ 10000000) :
    Calls Tryz.prog 67 #[ptr r, .int .i64 (m : Nat)] w fun e w' => e = .returned (.tuple #[]) ∧ Hid (Rt w' r q G ⟨R.L.set m .gone, R.bl + allN bs.length, R.ino + 1⟩ ∧ Chg (fun b => b = r ∨ b = q) w w') := by
  obtain ⟨hml, cc, a1, d1, cL, c0, c1, c2, c3, hE, _, _, hf⟩ := h.fileAt hm
  have q2 : (m : Int) < R.L.length := by omega
  have B0 : Below w.heap.size w (w.alloc (.cells #[.bool true, .bool false, .slice a1 bs.length d1, .slice none 0 0] 63)) := below_alloc w _
  have x1 : (w.alloc (.cells #[.bool true, .bool false, .slice a1 bs.length d1, .slice none 0 0] 63)).cell? ⟨w.heap.size, 1, none⟩ = some (.bool false) := by
    rw [cell_of_row _ w.heap.size _ _ _ _ (heap_alloc_new w _)]; rfl
  have x3 : (w.alloc (.cells #[.bool true, .bool false, .slice a1 bs.length d1, .slice none 0 0] 63)).cell? ⟨w.heap.size, 2, none⟩ = some (.slice a1 bs.length d1) := by
    rw [cell_of_row _ w.heap.size _ _ _ _ (heap_alloc_new w _)]; rfl
  have HH : Hid (∀ wa, w.alloc (.cells #[.bool true, .bool false, .slice a1 bs.length d1, .slice none 0 0] 63) = wa → Below w.heap.size w wa ∧ wa.cell? ⟨w.heap.size, 1, none⟩ = some (.bool false) ∧ wa.cell? ⟨w.heap.size, 2, none⟩ = some (.slice a1 bs.length d1)) := by
    rintro wa rfl
    exact ⟨B0, x1, x3⟩
  have HR : Hid (Rt w r q G R ∧ True ∧ m < R.L.length) := ⟨h, trivial, hml⟩
  clear h hE hf B0 x1 x3
  go_enter Tryz.func67, Tryz.ntmps67
  go_upto_region 1 with fail
  obtain ⟨wa, hwa⟩ : ∃ wa, w.alloc (.cells #[.bool true, .bool false, .slice a1 bs.length d1, .slice none 0 0] 63) = wa := ⟨_, rfl⟩
  rw [hwa]
  obtain ⟨hB, x1, x3⟩ := HH.out wa hwa
  have cLa := (Chg.ofBelowC hB).cell cL (fun h => h)
  clear HH hwa cL c0 c1 c2 c3
  have hRa := HR.out.1.below hB
  have cB := hRa.cB
  have fB := hRa.fr 1
  have HA : Hid (Rt wa r q G R ∧ Below w.heap.size w wa) := ⟨hRa, hB⟩
  have HN : Hid (∀ w', Calls Tryz.prog 64 #[.int .i64 (bs.length : Int)] w' fun e w'' => e = .returned (.int .i64 (allN (bs.length : Int))) ∧ w'' = w') := fun w' => refAll_any _ w'
  obtain ⟨X, hX⟩ : ∃ X, Hid (allN (bs.length : Int) = X) := ⟨_, rfl⟩
  have b1 := allN_bd (bs.length : Int)
  rw [hX.out] at HN b1
  obtain ⟨b11, b12⟩ := b1
  obtain ⟨u1, u2⟩ := hb
  obtain ⟨v1, v2⟩ := hi
  have HE : Hid (∀ wb, (wa.setCell ⟨r, 1, none⟩ (.int .i64 (IntKind.i64.wrap (R.bl + X)))).drew = wb → wb.cell? ⟨r, 2, none⟩ = some (.int .i64 R.ino) ∧ wb.frozen? ⟨r, 2, none⟩ = false ∧ Hid (∀ wc, wb.setCell ⟨r, 2, none⟩ (.int .i64 (R.ino + 1)) = wc →
      wc.cell? ⟨r, 0, none⟩ = some (.slice (some ⟨q, 0, none⟩) R.L.length cc) ∧ wc.frozen? ⟨q, m * 4, none⟩ = false ∧ wc.frozen? ⟨q, m * 4 + 1, none⟩ = false ∧ wc.frozen? ⟨q, m * 4 + 2, none⟩ = false ∧ wc.frozen? ⟨q, m * 4 + 3, none⟩ = false ∧ (∃ u, wc.cell? ⟨q, m * 4, none⟩ = some u) ∧ (∃ u, wc.cell? ⟨q, m * 4 + 1, none⟩ = some u) ∧ (∃ u, wc.cell? ⟨q, m * 4 + 2, none⟩ = some u) ∧ (∃ u, wc.cell? ⟨q, m * 4 + 3, none⟩ = some u) ∧
      Hid (Hid (Rt (setTh wc q m Rw.z) r q G ⟨R.L.set m .gone, R.bl + allN bs.length, R.ino + 1⟩ ∧ Chg (fun b => b = r ∨ b = q) w (setTh wc q m Rw.z))))) := by
    rintro wb rfl
    have ev : IntKind.i64.wrap (R.bl + X) = R.bl + X := by rw [IntKind.wrap_i64]; omega
    rw [ev]
    have h1 := (hRa.setBl (R.bl + X)).below (below_drew _ _)
    refine ⟨h1.cI, h1.fr 2, ?_⟩
    rintro wc rfl
    have h2 := h1.setIno (R.ino + 1)
    obtain ⟨k0, kx, k1, k2, k3, k4, k5, _, kf⟩ := h2.nth (k := m) HR.out.2.2
    have ecc : kx = kx := rfl
    obtain ⟨xs, cap, j1, j2, j3, j4⟩ := h2.row
    have hcc : ((((wa.setCell ⟨r, 1, none⟩ (.int .i64 (R.bl + X)))).drew.setCell ⟨r, 2, none⟩ (.int .i64 (R.ino + 1)))).cell? ⟨r, 0, none⟩ = some (.slice (some ⟨q, 0, none⟩) R.L.length cc) := by
      rw [World.cell?_setCell_other _ _ _ _ (by simp)]
      show (wa.setCell ⟨r, 1, none⟩ (.int .i64 (R.bl + X))).cell? _ = _
      rw [World.cell?_setCell_other _ _ _ _ (by simp)]
      exact cLa
    refine ⟨hcc, kf _, kf _, kf _, kf _, ⟨_, k2⟩, ⟨_, k3⟩, ⟨_, k4⟩, ⟨_, k5⟩, ?_⟩
    rw [hX.out]
    refine ⟨h2.setT HR.out.2.2 (x := Rw.z) (t := .gone) rfl, ?_⟩
    have f0 := (Chg.ofBelowC hB).mono (S' := fun b => b = r ∨ b = q) (fun _ _ h => h.elim)
    have f1 := f0.trans (Chg.setCell (S := fun b => b = r) wa ⟨r, 1, none⟩ (.int .i64 (R.bl + X)) rfl) (fun _ _ h => .inl h)
    have f2 := f1.trans (Chg.drew (fun _ => False) _) (fun _ _ h => h.elim)
    have f3 := f2.trans (Chg.setCell (S := fun b => b = r) _ ⟨r, 2, none⟩ (.int .i64 (R.ino + 1)) rfl) (fun _ _ h => .inl h)
    exact f3.trans (chg_setTh _ _ _ _) (fun _ _ h => .inr h)
  clear hRa hB cLa
  go_wp2_with fail
  go_region_with (first | (go_at_call 64; refine (HN.out _).mono ?_; rintro e w5 ⟨rfl, rfl⟩))
  all_goals
    obtain ⟨wb, hwb⟩ : ∃ wb, (wa.setCell ⟨r, 1, none⟩ (.int .i64 (IntKind.i64.wrap (R.bl + X)))).drew = wb := ⟨_, rfl⟩
    rw [hwb]
    obtain ⟨y2, yf, Hb⟩ := HE.out wb hwb
    clear hwb
    go_upto_region 5 with fail
    obtain ⟨wc, hwc⟩ : ∃ wc, wb.setCell ⟨r, 2, none⟩ (.int .i64 (R.ino + 1)) = wc := ⟨_, rfl⟩
    rw [hwc]
    obtain ⟨z0, zf0, zf1, zf2, zf3, ⟨_, z1⟩, ⟨_, z2⟩, ⟨_, z3⟩, ⟨_, z4⟩, Hc⟩ := Hb.out wc hwc
    clear hwc y2 yf Hb
    go_wp2_with fail
    go_end0
    exact ⟨rfl, Hc⟩
end Go.Proofs.YtlnjnimenihhnaaGreatDoor
