/-
  Contracts of the reference's Image, Sync and New.
-/
import Derived.Test.YtioloobeakjbeaaRef
namespace Go.Proofs.Ytioloobeakjbeaa
open Go.RowKit Go.Maps
attribute [local go_sem ↓] Go.wp_at_zero Go.wp_at_succ

/-! ### Image -/
def norm (n : Int) : Int := ((UInt8.ofNat n.toNat).toNat : Int)
theorem norm_byte (n : Int) : UInt8.ofNat (norm n).toNat = UInt8.ofNat n.toNat := by
  unfold norm
  rw [Int.toNat_natCast, UInt8.ofNat_toNat]
theorem strOf_norm (xs : List Int) : strOf (xs.map norm) = strOf xs := by
  apply str_ext
  rw [strOf_list, strOf_list, List.map_map]
  exact List.map_congr_left (fun n _ => norm_byte n)
theorem strCells_of (xs : List Int) : Lib.strCells (strOf xs) = bcells (xs.map norm) := by
  unfold Lib.strCells bcells
  rw [strOf_list, List.map_map, List.map_map]
  rfl

set_option maxHeartbeats 1600000 in
set_option maxRecDepth 100000 in
theorem rimage_at (G : Nat → Prop) (q : Nat) (R : RSt) (w : World) {lb lc : Nat} {wv pv : Value} (h : RkAt w G q R lb lc wv pv) (hb : R.nb ≤ 16384) (hw : R.W.length < 1099511627776) (hl : ∀ n, n < R.nb → (lastR R n).length = 512) :
    Calls Try.prog 22 #[.pointer (some ⟨q, 0, none⟩)] w fun e w' => e = .returned (.string (strOf (St.flat R.nb (lastR R)))) ∧ Chg (fun _ => False) w w' := by
  obtain ⟨i0, hi, hz0, hz1, hz2⟩ := info_parts info5
  have HH : Hid (RkAt w G q R lb lc wv pv) := h
  have HL : Hid (∀ n, n < R.nb → (lastR R n).length = 512) := hl
  obtain ⟨t, ht⟩ : ∃ t, strOf (St.flat R.nb (lastR R)) = t := ⟨_, rfl⟩
  have HT : Hid (strOf (St.flat R.nb (lastR R)) = t) := ht
  rw [ht]
  clear h hl ht
  go_enter Try.func22, Try.ntmps22
  go_wp2_with fail
  go_loopw [3, 4] (fun v x wr => ∃ (i : Nat) (u : Value), i ≤ R.nb ∧ u = v ∧ x = .int .i64 (i : Int) ∧ wr.ownsRow w.heap.size 5 1 u (512 * i) (bcells ((St.flat i (lastR R)).map norm)) ∧ Chg (fun _ => False) w wr) (fun _ x _ => R.nb - (intOf x).toNat)
  case atStart => exact ⟨0, _, Nat.zero_le _, rfl, rfl, World.ownsRow_nil _ _ _ _, Chg.refl _ _⟩
  case round =>
    obtain ⟨i, u, hiL, rfl, rfl, hown, hch⟩ := hrel
    have a1 := HH.out.kept hch (fun _ _ h => h)
    have c0 := a1.c0
    by_cases hlt : i < R.nb
    · have hli : (i : Int) < (R.nb : Int) := by omega
      have hsz : (strOf (lastR R i)).size = 512 := by rw [strOf_size]; exact HL.out i hlt
      obtain ⟨v', w2, hr, ho, hg, _⟩ := Lib.run_append_own_string (P := Try.prog) wr w.heap.size 39 9 39 5 i0 Try.underlying39 Try.underlying9 hi hz0 hz1 hz2 u _ _ hown (strOf (lastR R i)) (by rw [hsz]; unfold maxLen; omega) (by rw [hsz]; omega) hch.size
      have ho' : w2.ownsRow w.heap.size 5 1 v' (512 * (i + 1)) (bcells ((St.flat (i + 1) (lastR R)).map norm)) := by
        rw [hsz, strCells_of] at ho
        have e : bcells ((St.flat i (lastR R)).map norm) ++ bcells ((lastR R i).map norm) = bcells ((St.flat (i + 1) (lastR R)).map norm) := by
          rw [St.flat_succ]; simp [bcells]
        rw [e] at ho
        have e2 : 512 * (i + 1) = 512 * i + 512 := by omega
        rw [e2]; exact ho
      have hc2 : Chg (fun _ => False) w w2 := hch.trans (Chg.ofGrown hg) (fun k hk e => by have := (hown.lt k e).1; omega)
      have HR : Hid (w2.ownsRow w.heap.size 5 1 v' (512 * (i + 1)) (bcells ((St.flat (i + 1) (lastR R)).map norm)) ∧ Chg (fun _ => False) w w2) := ⟨ho', hc2⟩
      have HA : Hid (RkAt wr G q R lb lc wv pv) := a1
      clear a1 hown hch ho ho' hc2 hg hsz
      go_wp2_with fail
      refine (rlast_any G q R i wr HA.out hlt hb hw).mono ?_
      rintro e w1 ⟨rfl, rfl⟩
      clear HA
      go_wp2_with (at_builtin; go_must (refine Lib.wpList_append_run _ rfl (.tmp 14) (.tmp 17) 39 9 rfl _ _ rfl rfl v' w2 hr ?_))
      go_roundw
      case rel => exact ⟨i + 1, _, by omega, rfl, by go_num, HR.out⟩
      case measure => simp [intOf]; omega
    · have hie : i = R.nb := by omega
      subst hie
      have s1 := run_str (Bs.ofOwns hown)
      rw [strOf_norm, HT.out] at s1
      have HR : Hid (Chg (fun _ => False) w wr) := hch
      have g3 : ¬ (R.nb : Int) < (R.nb : Int) := by omega
      clear a1 hown hch
      go_wp2
      go_ret
      exact ⟨rfl, HR.out⟩
theorem rimage_any (G : Nat → Prop) (q : Nat) (S : St) (w : World) (h : Rk w G q S) (hx : S.writes < 1099511627776) :
    Calls Try.prog 22 #[.pointer (some ⟨q, 0, none⟩)] w fun e w' => e = .returned (.string (strOf S.image)) ∧ Chg (fun _ => False) w w' := by
  obtain ⟨R, lb, lc, wv, pv, s, h⟩ := h
  have e : St.flat R.nb (lastR R) = S.image := by
    rw [s.nb]
    exact St.flat_congr (fun n hn => s.last hn)
  have := rimage_at G q R w h (by rw [s.nb]; exact s.wf.top) (by have := s.few; omega) (fun n hn => by rw [s.last (by rw [← s.nb]; exact hn)]; exact St.last_len s.wf (by rw [← s.nb]; exact hn))
  rwa [e] at this

/-! ### Sync -/
/-- The blocks behind the first i versions. -/
def synTo (R : RSt) (i n : Nat) : List Int := (versOf (R.W.take i) n).getLast?.getD (R.f n)
theorem synTo_zero (R : RSt) : synTo R 0 = R.f := by funext n; rfl
theorem synTo_succ {R : RSt} {i : Nat} (hi : i < R.W.length) : synTo R (i + 1) = upd (synTo R i) R.W[i].1 R.W[i].2 := by
  have e : R.W.take (i + 1) = R.W.take i ++ [(R.W[i].1, R.W[i].2)] := by rw [List.take_add_one, List.getElem?_eq_getElem hi]; rfl
  funext n
  unfold synTo
  rw [e, versOf_append, versOf_one]
  by_cases h : R.W[i].1 = n
  · subst h; rw [if_pos rfl, upd_same]; simp
  · rw [if_neg h, List.append_nil, upd_other _ _ (fun x => h x.symm)]
theorem Sim.sync {S : St} {R : RSt} (h : Sim S R) (ho : S.off = false) : Sim S.sync { R with f := synTo R R.W.length, W := [] } := by
  have e : S.sync = S.synced := by unfold St.sync; rw [if_neg (by simp [ho])]
  rw [e]
  refine ⟨St.synced_wf h.wf, h.nb, fun n hn => ?_, fun n => rfl, fun x hx => by simp at hx, Nat.zero_le _, h.off, h.arm, h.pks, h.done⟩
  show synTo R R.W.length n = S.last n
  unfold synTo
  rw [List.take_length, last_eq, h.vers n, h.f n hn]

set_option maxHeartbeats 1600000 in
set_option maxRecDepth 100000 in
theorem rsync_any (G : Nat → Prop) (q : Nat) (S : St) (w : World) (h : Rk w G q S) (hx : S.writes < 1099511627776) :
    Calls Try.prog 64 #[.pointer (some ⟨q, 0, none⟩)] w fun e w' => e = .returned (.int .i64 S.syncE) ∧ RTo G q w w' S.sync := by
  have hR := h
  obtain ⟨R, lb, lc, wv, pv, s, h⟩ := h
  have c2 := h.c2
  rw [s.off] at c2
  by_cases ho : S.off = true
  · have e1 : S.syncE = 6 := by simp [St.syncE, ho]
    have e2 : S.sync = S := by simp [St.sync, ho]
    rw [ho] at c2
    rw [e1, e2]
    have HE : Hid (RTo G q w w S) := RTo.refl hR
    clear h s hR
    go_enter Try.func64, Try.ntmps64
    go_wp2
    go_ret
    exact ⟨rfl, HE.out⟩
  have ho' : S.off = false := by simpa using ho
  have e1 : S.syncE = 0 := by simp [St.syncE, ho']
  rw [ho'] at c2
  rw [e1]
  obtain ⟨wa, wc, rfl⟩ := h.wlen
  have hwl : R.W.length < 1099511627776 := by have := s.few; omega
  have HS : Hid (Sim S R) := s
  have HQ : Hid (G q ∧ G lb) := ⟨h.fq, h.fl⟩
  have hnb : R.nb ≤ 16384 := by rw [s.nb]; exact s.wf.top
  have HN : Hid (∀ x ∈ R.W, x.1 < R.nb) := fun x hx => by rw [s.nb]; exact s.num x hx
  have REL : RkAt w G q { R with f := synTo R 0 } lb lc (.slice wa R.W.length wc) pv := h
  clear h s hR e1 ho
  go_enter Try.func64, Try.ntmps64
  go_wp2_with fail
  go_loopw [3] (fun x wr => ∃ i : Nat, i ≤ R.W.length ∧ x = .int .i64 (i : Int) ∧ RkAt wr G q { R with f := synTo R i } lb lc (.slice wa R.W.length wc) pv ∧ Chg (fun k => k = lb) w wr) (fun x _ => R.W.length - (intOf x).toNat)
  case atStart => exact ⟨0, Nat.zero_le _, rfl, REL, Chg.refl _ _⟩
  case round =>
    clear REL
    obtain ⟨i, hiL, rfl, a1, hch⟩ := hrel
    have c0 := a1.c0
    have c1 := a1.c1
    by_cases hlt : i < R.W.length
    · have hg : ∃ g, wa = some ⟨g, 0, none⟩ := by
        rcases a1.wform with ⟨_, e2⟩ | ⟨g, c, e⟩
        · have e3 : R.W = [] := e2
          rw [e3] at hlt; simp at hlt
        · cases e; exact ⟨g, rfl⟩
      obtain ⟨g, rfl⟩ := hg
      obtain ⟨d0, d1⟩ := a1.wcell (i := i) hlt
      have hn := HN.out R.W[i] (List.getElem_mem hlt)
      have lcl := a1.lcell (n := R.W[i].1) hn
      have lfr := a1.frl R.W[i].1
      obtain ⟨a2, k2⟩ := a1.setL R.W[i].1 R.W[i].2
      have a3 : RkAt (wr.setCell ⟨lb, R.W[i].1, none⟩ (.string (strOf R.W[i].2))).drew G q { R with f := synTo R (i + 1) } lb lc (.slice (some ⟨g, 0, none⟩) R.W.length wc) pv := by
        rw [synTo_succ hlt]
        exact a2.kept (Chg.drew (fun _ => False) _) (fun _ _ h => h)
      have HR : Hid (RkAt (wr.setCell ⟨lb, R.W[i].1, none⟩ (.string (strOf R.W[i].2))).drew G q { R with f := synTo R (i + 1) } lb lc (.slice (some ⟨g, 0, none⟩) R.W.length wc) pv ∧ Chg (fun k => k = lb) w (wr.setCell ⟨lb, R.W[i].1, none⟩ (.string (strOf R.W[i].2))).drew) := ⟨a3, (hch.trans k2 (fun _ _ h => h)).trans (Chg.drew _ _) (fun _ _ h => h)⟩
      have hli : (i : Int) < (R.W.length : Int) := by omega
      have e0 := a2.c0
      have e1 := a2.c1
      obtain ⟨f0, f1⟩ := a2.wcell (i := i) hlt
      simp only at c0 c1 d0 d1 lcl e0 e1 f0 f1
      generalize strOf (synTo R i R.W[i].1) = told at *
      generalize strOf R.W[i].2 = t at *
      generalize R.W[i].1 = x at *
      have hxI : (x : Int) < (R.nb : Int) := by omega
      have lcl' : wr.drew.cell? ⟨lb, x, none⟩ = some (.string told) := lcl
      have lfr' : wr.drew.frozen? ⟨lb, x, none⟩ = false := lfr
      clear a1 a2 a3 k2 hch
      go_wp2_with fail
      go_region_held (fun w' => w'.cell? ⟨q, 0, none⟩ = some (.slice (some ⟨lb, 0, none⟩) R.nb lc) ∧ w'.cell? ⟨q, 1, none⟩ = some (.slice (some ⟨g, 0, none⟩) R.W.length wc) ∧ w'.cell? ⟨g, i * 2, none⟩ = some (.int .i64 (x : Int)) ∧ w'.cell? ⟨g, i * 2 + 1, none⟩ = some (.string t))
        (first | exact ⟨c0, c1, d0, d1⟩ | exact ⟨e0, e1, f0, f1⟩) (fail)
      all_goals
        go_wp2
        go_roundw
        case rel => exact ⟨i + 1, by omega, by go_num, HR.out⟩
        case measure => simp [intOf]; omega
    · have hie : i = R.W.length := by omega
      subst hie
      have f1 := a1.fr 1
      obtain ⟨a2, k2⟩ := a1.setW0
      have HE : Hid (RTo G q w (wr.setCell ⟨q, 1, none⟩ (.slice none 0 0)) S.sync) :=
        ⟨G, ⟨_, lb, lc, _, pv, HS.out.sync ho', a2⟩, (hch.mono (fun k _ e => by rw [e]; exact HQ.out.2)).trans k2 (fun k _ e => by rw [e]; exact HQ.out.1), fun b hb => .inl hb⟩
      have g3 : ¬ (R.W.length : Int) < (R.W.length : Int) := by omega
      clear a1 a2 k2 hch c0
      go_wp2
      go_ret
      exact ⟨rfl, HE.out⟩

/-! ### New -/
theorem eq29_nil (w : World) : (binOp .eql 29 (.pointer none) (.pointer none)).run Try.prog w = .ok (.bool true) w := by kernel_rfl
theorem eq29_some (a : Addr) (w : World) : (binOp .eql 29 (.pointer (some a)) (.pointer none)).run Try.prog w = .ok (.bool false) w := by kernel_rfl
theorem Sim.new {nb : Nat} (h0 : 0 < nb) (h1 : nb ≤ 16384) : Sim (St.new nb) { nb := nb, f := fun _ => zeros 512, W := [], off := false, arm := 0, pk := [], done := 0 } :=
  ⟨St.new_wf h0 h1, rfl, fun _ _ => rfl, fun _ => rfl, fun x hx => by simp at hx, Nat.le_refl _, rfl, rfl, fun h => absurd h (by show ¬ (1 : Int) ≤ 0; decide), rfl⟩
theorem scells_succ (f : Nat → List Int) (n : Nat) : scells f (n + 1) = scells f n ++ [.string (strOf (f n))] := by simp [scells, List.range_succ]

set_option maxHeartbeats 1600000 in
set_option maxRecDepth 100000 in
theorem rnew_ok (nb : Nat) (w : World) (h0 : 0 < nb) (h1 : nb ≤ 16384) :
    Calls Try.prog 12 #[.int .i64 (nb : Int)] w fun e w' => ∃ G q, e = .returned (.tuple #[.pointer (some ⟨q, 0, none⟩), .int .i64 0]) ∧ Rk w' G q (St.new nb) ∧ Chg (fun _ => False) w w' ∧ ∀ b, G b → w.heap.size ≤ b := by
  obtain ⟨i5, hi5, hy0, hy1, hy2⟩ := info_parts info5
  obtain ⟨i0, hi9, hz0, hz1, hz2⟩ := info_parts info9
  have k1 : ¬ ((nb : Int) < 1) := by omega
  have k2 : ¬ ((16384 : Int) < (nb : Int)) := by omega
  obtain ⟨tz, htz⟩ : ∃ t, strOf (zeros 512) = t := ⟨_, rfl⟩
  have HZ : Hid (strOf (zeros 512) = tz) := htz
  obtain ⟨o, hdo⟩ : ∃ o, Obj.cells #[.slice none 0 0, .slice none 0 0, .bool false, .int .i64 0, .slice none 0 0, .int .i64 0] 57 = o := ⟨_, rfl⟩
  have hq : (w.alloc o).heap[w.heap.size]? = some (.cells #[.slice none 0 0, .slice none 0 0, .bool false, .int .i64 0, .slice none 0 0, .int .i64 0] 57 (0, 0)) := by rw [← hdo]; exact heap_alloc_new w _
  have ca := Chg.alloc (fun _ => False) w o
  have hsz : (w.alloc o).heap.size = w.heap.size + 1 := by simp
  go_enter Try.func12, Try.ntmps12
  go_wp2_with (refine wpList_make_full _ rfl _ _ 39 rfl (w.heap.size + 1) 5 i5 (.int .u8 0) 1 Try.underlying39 hi5 hy0 hy1 .i64 .i64 _ _ 512 rfl rfl rfl rfl (by rw [hy2]; omega) (by unfold maxLen; omega) (by simp) ?_; intro w1 own1 grow1; rw [made_bytes] at own1; have s1 := run_str (Bs.ofOwns own1); rw [htz, World.size_alloc] at s1)
  have REL0 : ∃ lv, w1.heap[w.heap.size]? = some (.cells #[lv, .slice none 0 0, .bool false, .int .i64 0, .slice none 0 0, .int .i64 0] 57 (0, 0)) ∧ w1.ownsRow (w.heap.size + 1) 9 1 lv 0 (scells (fun _ => zeros 512) 0) ∧ Chg (fun _ => False) w w1 := by
    have cg := Chg.of_none grow1
    exact ⟨_, (cg.block w.heap.size (by simp) (fun h => h)).trans hq, World.ownsRow_nil _ _ _ _, ca.trans cg (fun _ _ h => h)⟩
  clear own1 grow1 hq ca hdo hsz s1
  go_loopw [6] (fun x wr => ∃ i : Nat, i ≤ nb ∧ x = .int .i64 (i : Int) ∧ ∃ lv, wr.heap[w.heap.size]? = some (.cells #[lv, .slice none 0 0, .bool false, .int .i64 0, .slice none 0 0, .int .i64 0] 57 (0, 0)) ∧ wr.ownsRow (w.heap.size + 1) 9 1 lv i (scells (fun _ => zeros 512) i) ∧ Chg (fun _ => False) w wr) (fun x _ => nb - (intOf x).toNat)
  case atStart => exact ⟨0, Nat.zero_le _, rfl, REL0⟩
  case round =>
    clear REL0
    obtain ⟨i, hiL, rfl, lv, hb, hown, hch⟩ := hrel
    by_cases hlt : i < nb
    · have hli : (i : Int) < (nb : Int) := by omega
      have hqs : w.heap.size < wr.heap.size := (Array.getElem?_eq_some_iff.1 hb).1
      obtain ⟨v', w2, hr, ho, hc2, _⟩ := run_appS (P := Try.prog) wr (w.heap.size + 1) 54 54 i0 Try.underlying54 hi9 hz0 hz1 hz2 lv _ _ tz hown (by omega) (by omega)
      obtain ⟨la', lc', rfl⟩ := own_form ho
      obtain ⟨la, lc, rfl⟩ := own_form hown
      have hne : ¬ (Value.slice la i lc).ownBlock = some w.heap.size := fun e => by have := (hown.lt _ e).1; omega
      have hb2 := (hc2.block w.heap.size hqs hne).trans hb
      have c0 : wr.cell? ⟨w.heap.size, 0, none⟩ = some (.slice la i lc) := by rw [cell_of_row wr w.heap.size 0 _ _ _ hb]; rfl
      have d0 : w2.cell? ⟨w.heap.size, 0, none⟩ = some (.slice la i lc) := by rw [cell_of_row w2 w.heap.size 0 _ _ _ hb2]; rfl
      have f0 : w2.frozen? ⟨w.heap.size, 0, none⟩ = false := by simp [World.frozen?, hb2]
      have hb3 := heap_setCell_same w2 w.heap.size 0 _ _ (.slice la' (i + 1) lc') hb2
      have kc : Chg (fun k => k = w.heap.size) w2 (w2.setCell ⟨w.heap.size, 0, none⟩ (.slice la' (i + 1) lc')) := Chg.setCell _ _ _ rfl
      have HR : Hid (∃ lv, (w2.setCell ⟨w.heap.size, 0, none⟩ (.slice la' (i + 1) lc')).heap[w.heap.size]? = some (.cells #[lv, .slice none 0 0, .bool false, .int .i64 0, .slice none 0 0, .int .i64 0] 57 (0, 0)) ∧ (w2.setCell ⟨w.heap.size, 0, none⟩ (.slice la' (i + 1) lc')).ownsRow (w.heap.size + 1) 9 1 lv (i + 1) (scells (fun _ => zeros 512) (i + 1)) ∧ Chg (fun _ => False) w (w2.setCell ⟨w.heap.size, 0, none⟩ (.slice la' (i + 1) lc'))) := by
        refine ⟨.slice la' (i + 1) lc', by simpa using hb3, ?_, (hch.trans hc2 (fun k hk e => by have := (hown.lt k e).1; omega)).trans kc (fun k hk e => by omega)⟩
        rw [scells_succ, HZ.out]
        exact own_same ho (fun g hg => kc.block g (ho.lt g hg).2 (fun e => by have := (ho.lt g hg).1; omega))
      clear hb hown hch hc2 ho hb2 hb3 kc hne
      go_wp2_with (at_builtin; go_must (refine Lib.wpList_append_run _ rfl (.tmp 26) (.tmp 28) 54 54 rfl _ _ rfl rfl _ w2 hr ?_))
      go_roundw
      case rel => exact ⟨i + 1, by omega, by go_num, HR.out⟩
      case measure => simp [intOf]; omega
    · have hie : i = nb := by omega
      subst hie
      have HR : Hid (Rk wr (fun b => w.heap.size ≤ b ∧ b < wr.heap.size) w.heap.size (St.new i) ∧ Chg (fun _ => False) w wr) := by
        have hqs : w.heap.size < wr.heap.size := (Array.getElem?_eq_some_iff.1 hb).1
        rcases hown.2 with ⟨_, e⟩ | ⟨g, c, cur, e, _⟩
        · omega
        · subst e
          refine ⟨⟨_, g, c, .slice none 0 0, .slice none 0 0, Sim.new h0 h1, ⟨hb, own_mono hown (Nat.zero_le _), World.ownsRow_nil _ _ _ _, World.ownsRow_nil _ _ _ _, ⟨Nat.le_refl _, hqs⟩, ⟨by have := (hown.lt g rfl).1; omega, (hown.lt g rfl).2⟩, fun g hg => (by cases hg), fun g hg => (by cases hg), fun b hb => hb.2⟩⟩, hch⟩
      have g3 : ¬ (i : Int) < (i : Int) := by omega
      clear hb hown hch
      go_wp2
      go_ret2
      exact ⟨_, _, rfl, HR.out.1, HR.out.2, fun b hb => hb.1⟩

set_option maxHeartbeats 800000 in
theorem rnew_bad (n : Int) (w : World) (h : n < 1 ∨ 16384 < n) : Calls Try.prog 12 #[.int .i64 n] w fun e w' => e = .returned (.tuple #[.pointer none, .int .i64 1]) ∧ w' = w := by
  by_cases h1 : n < 1
  · have k1 : decide (n < 1) = true := by simpa using h1
    go_enter Try.func12, Try.ntmps12
    go_wp2
    go_ret2
    exact ⟨rfl, rfl⟩
  · have k1 : decide (n < 1) = false := by simpa using h1
    have k2 : decide (16384 < n) = true := by simp; omega
    clear h h1
    go_enter Try.func12, Try.ntmps12
    go_wp2
    go_ret2
    exact ⟨rfl, rfl⟩
end Go.Proofs.Ytioloobeakjbeaa

namespace Go.Proofs.Ytioloobeakjbeaa
open Go.RowKit Go.Maps
attribute [local go_sem ↓] Go.wp_at_zero Go.wp_at_succ

theorem cutTo_keep : ∀ (ks : List Nat) (S : St) (ps : List Int) (n : Nat), n ∉ ks → (S.cutTo ps ks).syn n = S.syn n
  | [], _, _, _, _ => rfl
  | k :: ks, S, ps, n, h => by
    rw [St.cutTo, cutTo_keep ks _ _ n (fun e => h (by simp [e]))]
    show upd S.syn k _ n = S.syn n
    exact upd_other _ _ (fun e => h (by simp [e]))
theorem cutTo_split : ∀ (A : List Nat) (S : St) (ps : List Int) (n : Nat) (B : List Nat), n ∉ A → n ∉ B → (S.cutTo ps (A ++ n :: B)).syn n = S.ver n (St.pickN (ps.getD A.length 0) (S.wait n).length)
  | [], S, ps, n, B, _, hB => by
    rw [List.nil_append, St.cutTo, cutTo_keep B _ _ n hB]
    show upd S.syn n _ n = _
    rw [upd_same]
    cases ps <;> rfl
  | a :: A, S, ps, n, B, hA, hB => by
    have hne : n ≠ a := fun e => hA (by simp [e])
    rw [List.cons_append, St.cutTo, cutTo_split A _ _ n B (fun e => hA (by simp [e])) hB]
    have e1 : ∀ j, (S.settle a j).wait n = S.wait n := fun j => upd_other _ _ hne
    have e2 : ∀ j k, (S.settle a j).ver n k = S.ver n k := fun j k => by
      unfold St.ver
      rw [e1]
      show (if k = 0 then upd S.syn a _ n else _) = _
      rw [upd_other _ _ hne]
    rw [e1, e2]
    cases ps with
    | nil => rfl
    | cons p ps => rfl
/-- How many blocks below n have versions that wait. -/
def cntK (S : St) (n : Nat) : Nat := ((List.range n).filter fun n => !(S.wait n).isEmpty).length
theorem cntK_succ (S : St) (n : Nat) : cntK S (n + 1) = cntK S n + (if S.wait n = [] then 0 else 1) := by
  unfold cntK
  rw [List.range_succ, List.filter_append, List.length_append]
  by_cases h : S.wait n = []
  · simp [h]
  · have : (S.wait n).isEmpty = false := by simpa using h
    simp [h, this]
theorem cntK_le (S : St) (n : Nat) : cntK S n ≤ n := by
  unfold cntK
  exact Nat.le_trans (List.length_filter_le _ _) (by simp)
theorem keys_split {S : St} {n : Nat} (hn : n < S.nb) (hw : S.wait n ≠ []) : ∃ B, S.keys = ((List.range n).filter fun n => !(S.wait n).isEmpty) ++ n :: B ∧ n ∉ B := by
  obtain ⟨m, hm⟩ : ∃ m, S.nb = n + (m + 1) := ⟨S.nb - n - 1, by omega⟩
  refine ⟨((List.range m).map fun k => n + (k + 1)).filter fun n => !(S.wait n).isEmpty, ?_, ?_⟩
  · unfold St.keys
    rw [hm, List.range_add, List.filter_append, List.range_succ_eq_map, List.map_cons, List.map_map]
    have he : (S.wait n).isEmpty = false := by simpa using hw
    rw [List.filter_cons]
    simp [he, Function.comp_def]
  · intro h
    have := (List.mem_filter.1 h).1
    obtain ⟨k, _, e⟩ := List.mem_map.1 this
    omega
theorem cut_syn_at {S : St} {n : Nat} (hn : n < S.nb) (ps : List Int) : (S.cutTo ps S.keys).syn n = if S.wait n = [] then S.syn n else S.ver n (St.pickN (ps.getD (cntK S n) 0) (S.wait n).length) := by
  by_cases hw : S.wait n = []
  · rw [if_pos hw]
    exact cutTo_keep _ _ _ _ (fun h => (St.keys_lt h).2 hw)
  · rw [if_neg hw]
    obtain ⟨B, e, hB⟩ := keys_split hn hw
    rw [e]
    exact cutTo_split _ _ _ _ _ (fun h => by have := List.mem_range.1 (List.mem_filter.1 h).1; omega) hB

theorem tmod_pickR (pick : Int) (L k : Nat) (hk : St.pickN pick L = k) : (pick.tmod ((L : Int) + 1) = (k : Int) ∧ (k : Int) ≤ L) ∨ ∃ t, pick.tmod ((L : Int) + 1) = t ∧ t < 0 ∧ -((L : Int) + 1) < t ∧ t + (L : Int) + 1 = (k : Int) := by
  have hp : (0 : Int) < (L : Int) + 1 := by omega
  have h0 := Int.emod_nonneg pick (b := (L : Int) + 1) (by omega)
  have h1 := Int.emod_lt_of_pos pick hp
  have hkE : (k : Int) = pick % ((L : Int) + 1) := by
    rw [← hk]; unfold St.pickN
    omega
  by_cases hq : 0 ≤ pick
  · left
    have := Int.tmod_eq_emod_of_nonneg (b := (L : Int) + 1) hq
    omega
  · have h6 : pick.tmod ((L : Int) + 1) = -((-pick).tmod ((L : Int) + 1)) := by rw [← Int.neg_tmod]; simp
    have h6b := Int.tmod_eq_emod_of_nonneg (a := -pick) (b := (L : Int) + 1) (by omega)
    have h7 := Int.emod_nonneg (-pick) (b := (L : Int) + 1) (by omega)
    have h8 := Int.emod_lt_of_pos (-pick) hp
    by_cases hz : (-pick) % ((L : Int) + 1) = 0
    · left
      have hd : ((L : Int) + 1) ∣ pick := (Int.dvd_neg).1 (Int.dvd_of_emod_eq_zero hz)
      have := Int.emod_eq_zero_of_dvd hd
      omega
    · right
      refine ⟨_, rfl, by omega, by omega, ?_⟩
      have e9 := Int.emod_add_mul_ediv (-pick) ((L : Int) + 1)
      have e10 : pick = (((L : Int) + 1) - (-pick) % ((L : Int) + 1)) + ((L : Int) + 1) * (-((-pick) / ((L : Int) + 1)) - 1) := by
        rw [Int.mul_sub, Int.mul_neg]; omega
      have e11 := congrArg (· % ((L : Int) + 1)) e10
      simp only [Int.add_mul_emod_self_left] at e11
      have e12 := Int.emod_eq_of_lt (a := ((L : Int) + 1) - (-pick) % ((L : Int) + 1)) (b := (L : Int) + 1) (by omega) (by omega)
      omega

theorem RkAt.fcongr {w : World} {G : Nat → Prop} {q : Nat} {R : RSt} {lb lc : Nat} {wv pv : Value} (h : RkAt w G q R lb lc wv pv) {g : Nat → List Int} (hg : ∀ n, n < R.nb → R.f n = g n) : RkAt w G q { R with f := g } lb lc wv pv :=
  ⟨h.blk, by have := h.row; rw [scells_congr hg] at this; exact this, h.wrow, h.prow, h.fq, h.fl, h.fw, h.fk, h.lt⟩
/-- The blocks below n as they are cut. -/
def cutF (C : Nat → List Int) (f : Nat → List Int) (n k : Nat) : List Int := if k < n then C k else f k
theorem Sim.cut {S : St} {R : RSt} (h : Sim S R) (ho : S.off = false) (ps : List Int) {g : Nat → List Int} (hg : ∀ n, n < S.nb → g n = (S.cutTo ps S.keys).syn n) : Sim (S.cut ps) { R with f := g, W := [], off := true, arm := 0 } := by
  have e : S.cut ps = { S.cutTo ps S.keys with off := true, arm := 0, picks := [] } := by unfold St.cut; rw [if_neg (by simp [ho])]
  have hw := St.cut_wait h.wf ps ho
  have hnb := St.cut_nb S ps
  have hwr := St.cut_writes S ps
  refine ⟨St.cut_wf h.wf ps, by rw [hnb]; exact h.nb, fun n hn => ?_, fun n => by rw [hw n]; rfl, fun x hx => by simp at hx, Nat.zero_le _, ?_, ?_, ?_, by rw [hwr]; exact h.done⟩
  · rw [hnb] at hn
    rw [e]
    exact hg n hn
  · rw [e]
  · rw [e]; rfl
  · rw [e]; intro h1; exact absurd h1 (by show ¬ (1 : Int) ≤ 0; decide)

set_option maxHeartbeats 3200000 in
set_option maxRecDepth 100000 in
theorem rcut_core (G : Nat → Prop) (q : Nat) (S : St) (v : Value) (ps : List Int) (w : World) {R : RSt} {lb lc : Nat} {wv pv : Value} (s : Sim S R) (h : RkAt w G q R lb lc wv pv) (hi : Is w v ps) (hv : ps ≠ [] → ∀ g, v.ownBlock = some g → g ≠ lb) (hx : S.writes < 1099511627776) :
    Calls Try.prog 40 #[.pointer (some ⟨q, 0, none⟩), v] w fun e w' => e = .returned (.tuple #[]) ∧ RTo G q w w' (S.cut ps) := by
  have c2 := h.c2
  rw [s.off] at c2
  by_cases ho : S.off = true
  · have e2 : S.cut ps = S := by simp [St.cut, ho]
    rw [ho] at c2
    rw [e2]
    have HE : Hid (RTo G q w w S) := RTo.refl ⟨R, lb, lc, wv, pv, s, h⟩
    clear h s hi hv
    go_enter Try.func40, Try.ntmps40
    go_wp2
    refine bodyPost_ret (results_none rfl _ _ _) rfl ?_
    exact ⟨rfl, HE.out⟩
  have ho' : S.off = false := by simpa using ho
  rw [ho'] at c2
  obtain ⟨pa, pc, rfl, _⟩ := hi.form
  have hwl : R.W.length < 1099511627776 := by have := s.few; omega
  have hnb : R.nb ≤ 16384 := by rw [s.nb]; exact s.wf.top
  have HS : Hid (Sim S R) := s
  have HQ : Hid (G q ∧ G lb ∧ ∀ b, G b → b < w.heap.size) := ⟨h.fq, h.fl, h.lt⟩
  have HP : Hid (Is w (.slice pa ps.length pc) ps ∧ (ps ≠ [] → ∀ g, (Value.slice pa ps.length pc).ownBlock = some g → g ≠ lb)) := ⟨hi, hv⟩
  obtain ⟨C, hC⟩ : ∃ C, (S.cutTo ps S.keys).syn = C := ⟨_, rfl⟩
  have HC : Hid (∀ n, n < S.nb → C n = if S.wait n = [] then S.syn n else S.ver n (St.pickN (ps.getD (cntK S n) 0) (S.wait n).length)) := fun n hn => by rw [← hC]; exact cut_syn_at hn ps
  have HCC : Hid ((S.cutTo ps S.keys).syn = C) := hC
  have REL : RkAt w G q { R with f := cutF C R.f 0 } lb lc wv pv := h.fcongr (fun n _ => rfl)
  clear h s hi hv ho hC
  go_enter Try.func40, Try.ntmps40
  go_wp2_with fail
  go_loopw [4, 5, 6, 7] (fun x y _ _ wr => ∃ n : Nat, n ≤ R.nb ∧ x = .int .i64 (cntK S n : Int) ∧ y = .int .i64 (n : Int) ∧ RkAt wr G q { R with f := cutF C R.f n } lb lc wv pv ∧ Chg (fun k => k = lb) w wr) (fun _ y _ _ _ => R.nb - (intOf y).toNat)
  case atStart => exact ⟨0, Nat.zero_le _, rfl, rfl, REL, Chg.refl _ _⟩
  case round =>
    clear REL
    obtain ⟨n, hnL, rfl, rfl, a1, hch⟩ := hrel
    have c0 := a1.c0
    simp only at c0
    by_cases hlt : n < R.nb
    · have hnI : (n : Int) < (R.nb : Int) := by omega
      have hnS : n < S.nb := by rw [← HS.out.nb]; exact hlt
      have hCn := HC.out n hnS
      have HA : Hid (RkAt wr G q { R with f := cutF C R.f n } lb lc wv pv ∧ Chg (fun k => k = lb) w wr) := ⟨a1, hch⟩
      have hcn : cntK S n ≤ 16384 := by have := cntK_le S n; omega
      have hcs := cntK_succ S n
      have hvn := HS.out.vers n
      have hfe := HS.out.wf.few n
      clear a1 hch
      go_wp2_with fail
      refine (rvers_any G q { R with f := cutF C R.f n } n wr HA.out.1 hwl).mono ?_
      rintro e w1 ⟨u, rfl, hu, c1⟩
      simp only at hu
      rw [← hvn] at hu
      have a2 := HA.out.1.kept c1 (fun _ _ h => h)
      have hch2 : Chg (fun k => k = lb) w w1 := HA.out.2.trans c1 (fun _ _ h => h.elim)
      have HB : Hid (RkAt w1 G q { R with f := cutF C R.f n } lb lc wv pv ∧ Chg (fun k => k = lb) w w1) := ⟨a2, hch2⟩
      obtain ⟨ua, uc, rfl⟩ := own_form hu
      -- what the next round wants
      have step : ∀ w2, RkAt w2 G q { R with f := upd (cutF C R.f n) n (C n) } lb lc wv pv → RkAt w2 G q { R with f := cutF C R.f (n + 1) } lb lc wv pv := fun w2 a => a.fcongr (fun k _ => by
        show upd (cutF C R.f n) n (C n) k = cutF C R.f (n + 1) k
        unfold cutF
        by_cases e : k = n
        · subst e; rw [upd_same, if_pos (by omega)]
        · rw [upd_other _ _ e]
          by_cases h2 : k < n
          · rw [if_pos h2, if_pos (by omega)]
          · rw [if_neg h2, if_neg (by omega)])
      have stay : C n = R.f n → RkAt w1 G q { R with f := cutF C R.f (n + 1) } lb lc wv pv := fun e => step w1 (a2.fcongr (fun k _ => by
        show cutF C R.f n k = upd (cutF C R.f n) n (C n) k
        by_cases ek : k = n
        · subst ek; rw [upd_same]; unfold cutF; rw [if_neg (by omega), e]
        · rw [upd_other _ _ ek]))
      have hfn : R.f n = S.syn n := HS.out.f n hnS
      have hws := HA.out.2.size
      clear HA
      by_cases hw0 : S.wait n = []
      · rw [if_pos hw0] at hCn hcs
        have HR : Hid (RkAt w1 G q { R with f := cutF C R.f (n + 1) } lb lc wv pv ∧ Chg (fun k => k = lb) w w1) := ⟨stay (by rw [hCn, hfn]), hch2⟩
        rw [hw0] at hu ⊢
        have hc2 : cntK S (n + 1) = cntK S n := by omega
        have HC2 : Hid (cntK S (n + 1) = cntK S n) := hc2
        clear hu a2 hch2 step stay hCn hcs hc2 hvn hfe HB hfn
        go_wp2
        go_roundw
        case rel => exact ⟨n + 1, by omega, by rw [HC2.out], by go_num, HR.out⟩
        case measure => simp [intOf]; omega
      · rw [if_neg hw0] at hCn hcs
        have hL0 : 0 < (S.wait n).length := List.length_pos_iff.2 hw0
        have hub : ∃ ub, ua = some ⟨ub, 0, none⟩ := by
          rcases hu.2 with ⟨_, h0⟩ | ⟨g, c, cur, e, _⟩
          · omega
          · cases e; exact ⟨g, rfl⟩
        obtain ⟨ub, rfl⟩ := hub
        have hubl := (hu.lt ub rfl)
        have hne : ub ≠ lb := fun e => by have := hubl.1; have := HQ.out.2.2 lb HQ.out.2.1; omega
        have vc : ∀ j, j < (S.wait n).length → w1.cell? ⟨ub, j, none⟩ = some (.string (strOf ((S.wait n).getD j []))) := fun j hj => by
          have := hu.cells (g := ub) rfl j (.string (strOf ((S.wait n).getD j []))) (by simp [strs, List.getD, hj])
          rwa [add_zero_off] at this
        have hIs : Is w1 (.slice pa ps.length pc) ps := Is.kept' HP.out.1 hch2 (fun h g hg e => HP.out.2 h g hg e)
        have hc2 : cntK S (n + 1) = cntK S n + 1 := hcs
        have HC2 : Hid (cntK S (n + 1) = cntK S n + 1) := hc2
        obtain ⟨c, hc⟩ : ∃ c, cntK S n = c := ⟨_, rfl⟩
        rw [hc] at hCn HC2 hcn ⊢
        obtain ⟨L, hL⟩ : ∃ L, (S.wait n).length = L := ⟨_, rfl⟩
        rw [hL] at hCn hL0 vc hfe ⊢
        have hLx : L < 1099511627776 := by omega
        obtain ⟨k, hk⟩ : ∃ k, St.pickN (ps.getD c 0) L = k := ⟨_, rfl⟩
        rw [hk] at hCn
        have hkL : k ≤ L := by rw [← hk]; exact St.pickN_le _ _
        have keep0 : k = 0 → RkAt w1 G q { R with f := cutF C R.f (n + 1) } lb lc wv pv := fun e => stay (by rw [hCn, e, hfn]; rfl)
        have HK0 : Hid (k = 0 → RkAt w1 G q { R with f := cutF C R.f (n + 1) } lb lc wv pv ∧ Chg (fun k => k = lb) w w1) := fun e => ⟨keep0 e, hch2⟩
        have put1 : ∀ j, k = j + 1 → w1.cell? ⟨ub, j, none⟩ = some (.string (strOf (C n))) ∧ w1.cell? ⟨q, 0, none⟩ = some (.slice (some ⟨lb, 0, none⟩) R.nb lc) ∧ (∃ o, w1.cell? ⟨lb, n, none⟩ = some (.string o)) ∧ w1.frozen? ⟨lb, n, none⟩ = false ∧
            (w1.setCell ⟨lb, n, none⟩ (.string (strOf (C n)))).cell? ⟨ub, j, none⟩ = some (.string (strOf (C n))) ∧ (w1.setCell ⟨lb, n, none⟩ (.string (strOf (C n)))).cell? ⟨q, 0, none⟩ = some (.slice (some ⟨lb, 0, none⟩) R.nb lc) ∧
            Hid (RkAt (w1.setCell ⟨lb, n, none⟩ (.string (strOf (C n)))).drew G q { R with f := cutF C R.f (n + 1) } lb lc wv pv ∧ Chg (fun k => k = lb) w (w1.setCell ⟨lb, n, none⟩ (.string (strOf (C n)))).drew) := fun j hj => by
          have e : C n = (S.wait n).getD j [] := by rw [hCn, hj]; rfl
          have v1 := vc j (by omega)
          rw [← e] at v1
          obtain ⟨a3, k3⟩ := a2.setL n (C n)
          exact ⟨v1, a2.c0, ⟨_, a2.lcell (n := n) hlt⟩, a2.frl n, k3.cell v1 hne, a3.c0, (step _ a3).kept (Chg.drew (fun _ => False) _) (fun _ _ h => h), (hch2.trans k3 (fun _ _ h => h)).trans (Chg.drew _ _) (fun _ _ h => h)⟩
        have HPT : Hid (∀ j, k = j + 1 → w1.cell? ⟨ub, j, none⟩ = some (.string (strOf (C n))) ∧ w1.cell? ⟨q, 0, none⟩ = some (.slice (some ⟨lb, 0, none⟩) R.nb lc) ∧ (∃ o, w1.cell? ⟨lb, n, none⟩ = some (.string o)) ∧ w1.frozen? ⟨lb, n, none⟩ = false ∧
            (w1.setCell ⟨lb, n, none⟩ (.string (strOf (C n)))).cell? ⟨ub, j, none⟩ = some (.string (strOf (C n))) ∧ (w1.setCell ⟨lb, n, none⟩ (.string (strOf (C n)))).cell? ⟨q, 0, none⟩ = some (.slice (some ⟨lb, 0, none⟩) R.nb lc) ∧
            Hid (RkAt (w1.setCell ⟨lb, n, none⟩ (.string (strOf (C n)))).drew G q { R with f := cutF C R.f (n + 1) } lb lc wv pv ∧ Chg (fun k => k = lb) w (w1.setCell ⟨lb, n, none⟩ (.string (strOf (C n)))).drew)) := put1
        have gz : ((L : Int) == 0) = false := by simp; omega
        have gz2 : ¬ (L : Int) = 0 := by omega
        clear a2 hch2 step stay hCn hcs hvn hfe HB hfn hu vc keep0 put1 hL hc hw0 hubl hne c1 hc2
        by_cases hcp : c < ps.length
        · obtain ⟨b2, off2, rfl, hcs2⟩ := hIs.at hcp
          have hcell2 := hcs2 c hcp
          have hcI : (c : Int) < (ps.length : Int) := by omega
          have t3 := tmod_pickR (ps.getD c 0) L k hk
          obtain ⟨pq, hpq⟩ : ∃ x, ps.getD c 0 = x := ⟨_, rfl⟩
          rw [hpq] at t3 hcell2
          clear hIs hcs2 hpq hk
          rcases t3 with ⟨ht, htb⟩ | ⟨t, ht, htn, htm, hts⟩
          · cases k with
            | zero =>
              have HR : Hid (RkAt w1 G q { R with f := cutF C R.f (n + 1) } lb lc wv pv ∧ Chg (fun k => k = lb) w w1) := HK0.out rfl
              simp only [Int.natCast_zero] at ht
              clear HK0 HPT
              go_wp2
              go_roundw
              case rel => exact ⟨n + 1, by omega, by rw [HC2.out]; go_num, by go_num, HR.out⟩
              case measure => simp [intOf]; omega
            | succ j =>
              obtain ⟨v1, v2, ⟨o, v3⟩, v4, v5, v6, HR⟩ := HPT.out j rfl
              have v3' : w1.drew.cell? ⟨lb, n, none⟩ = some (.string o) := v3
              have v4' : w1.drew.frozen? ⟨lb, n, none⟩ = false := v4
              clear HK0 HPT
              generalize strOf (C n) = tc at *
              have hj1 : ((j + 1 : Nat) : Int) = (j : Int) + 1 := by omega
              rw [hj1] at ht htb
              have hjL : (j : Int) < (L : Int) := by omega
              have wr1 : IntKind.i64.wrap ((j : Int) + 1 - 1) = (j : Int) := by rw [IntKind.wrap_i64]; omega
              have wr2 : IntKind.i64.wrap (j : Int) = (j : Int) := by rw [IntKind.wrap_i64]; omega
              have hjN : j < L := by omega
              go_wp2_with fail
              go_region_held (fun w' => w'.cell? ⟨ub, j, none⟩ = some (.string tc) ∧ w'.cell? ⟨q, 0, none⟩ = some (.slice (some ⟨lb, 0, none⟩) R.nb lc))
                (first | exact ⟨v1, v2⟩ | exact ⟨v5, v6⟩) (fail)
              all_goals
                go_wp2
                go_roundw
                case rel => exact ⟨n + 1, by omega, by rw [HC2.out]; go_num, by go_num, HR.out⟩
                case measure => simp [intOf]; omega
          · cases k with
            | zero => exfalso; omega
            | succ j =>
              obtain ⟨v1, v2, ⟨o, v3⟩, v4, v5, v6, HR⟩ := HPT.out j rfl
              have v3' : w1.drew.cell? ⟨lb, n, none⟩ = some (.string o) := v3
              have v4' : w1.drew.frozen? ⟨lb, n, none⟩ = false := v4
              clear HK0 HPT
              generalize strOf (C n) = tc at *
              have hjt : t = (j : Int) - (L : Int) := by omega
              subst hjt
              have hjL : (j : Int) < (L : Int) := by omega
              have wr1 : IntKind.i64.wrap ((j : Int) + 1 - 1) = (j : Int) := by rw [IntKind.wrap_i64]; omega
              have wr2 : IntKind.i64.wrap (j : Int) = (j : Int) := by rw [IntKind.wrap_i64]; omega
              have hjN : j < L := by omega
              clear htn htm hts
              go_wp2_with fail
              go_region_held (fun w' => w'.cell? ⟨ub, j, none⟩ = some (.string tc) ∧ w'.cell? ⟨q, 0, none⟩ = some (.slice (some ⟨lb, 0, none⟩) R.nb lc))
                (first | exact ⟨v1, v2⟩ | exact ⟨v5, v6⟩) (fail)
              all_goals
                go_wp2
                go_roundw
                case rel => exact ⟨n + 1, by omega, by rw [HC2.out]; go_num, by go_num, HR.out⟩
                case measure => simp [intOf]; omega
        · have hcI : ¬ (c : Int) < (ps.length : Int) := by omega
          have hz0 : ps.getD c 0 = 0 := by simp [List.getD, List.getElem?_eq_none (Nat.le_of_not_lt hcp)]
          have hk0 : k = 0 := by rw [← hk, hz0]; unfold St.pickN; simp
          have HR : Hid (RkAt w1 G q { R with f := cutF C R.f (n + 1) } lb lc wv pv ∧ Chg (fun k => k = lb) w w1) := HK0.out hk0
          clear HK0 HPT hIs hz0 hk hk0
          go_wp2
          go_roundw
          case rel => exact ⟨n + 1, by omega, by rw [HC2.out]; go_num, by go_num, HR.out⟩
          case measure => simp [intOf]; omega
    · have hne : n = R.nb := by omega
      have g3 : ¬ (n : Int) < (R.nb : Int) := by omega
      have c1 := a1.c1
      have f1 := a1.fr 1
      obtain ⟨b1, k1⟩ := a1.setW0
      have c2' := b1.c2
      have f2 := b1.fr 2
      obtain ⟨b2, k2⟩ := b1.setOff true
      have c3 := b2.c3
      have f3 := b2.fr 3
      obtain ⟨b3, k3⟩ := b2.setArm 0
      have HE : Hid (RTo G q w (((wr.setCell ⟨q, 1, none⟩ (.slice none 0 0)).setCell ⟨q, 2, none⟩ (.bool true)).setCell ⟨q, 3, none⟩ (.int .i64 0)) (S.cut ps)) :=
        ⟨G, ⟨_, lb, lc, _, pv, HS.out.cut ho' ps (g := cutF C R.f n) (fun k hk => by rw [HCC.out]; unfold cutF; rw [if_pos (by rw [hne, HS.out.nb]; exact hk)]), b3⟩,
          (hch.mono (fun k _ e => by rw [e]; exact HQ.out.2.1)).trans ((k1.trans k2 (fun _ _ h => h)).trans k3 (fun _ _ h => h)) (fun k _ e => by rw [e]; exact HQ.out.1), fun b hb => .inl hb⟩
      clear a1 b1 b2 b3 k1 k2 k3 hch HC HCC HS HP
      go_wp2
      go_end0
      exact ⟨rfl, HE.out⟩
theorem rcut_arg (G : Nat → Prop) (q : Nat) (S : St) (v : Value) (ps : List Int) (w : World) (h : Rk w G q S) (hi : Is w v ps) (hv : ps ≠ [] → ∀ g, v.ownBlock = some g → ¬ G g) (hx : S.writes < 1099511627776) :
    Calls Try.prog 40 #[.pointer (some ⟨q, 0, none⟩), v] w fun e w' => e = .returned (.tuple #[]) ∧ RTo G q w w' (S.cut ps) := by
  obtain ⟨R, lb, lc, wv, pv, s, h⟩ := h
  exact rcut_core G q S v ps w s h hi (fun hne g hg e => hv hne g hg (by rw [e]; exact h.fl)) hx
theorem rcut_own (G : Nat → Prop) (q : Nat) (S : St) (w : World) {R : RSt} {lb lc : Nat} {wv pv : Value} (s : Sim S R) (h : RkAt w G q R lb lc wv pv) (ha : 1 ≤ S.arm) (hx : S.writes < 1099511627776) :
    Calls Try.prog 40 #[.pointer (some ⟨q, 0, none⟩), pv] w fun e w' => e = .returned (.tuple #[]) ∧ RTo G q w w' (S.cut S.picks) := by
  have hp := s.pks ha
  have hi := Is.ofOwns h.prow
  rw [hp] at hi
  refine rcut_core G q S pv S.picks w s h hi (fun _ g hg e => ?_) hx
  obtain ⟨c, hc⟩ := own_obj h.prow hg
  obtain ⟨cl, hcl⟩ := own_obj h.row rfl
  rw [e, hcl] at hc
  cases hc
end Go.Proofs.Ytioloobeakjbeaa
