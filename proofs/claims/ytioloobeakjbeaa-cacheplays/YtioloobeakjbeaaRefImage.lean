/-
  Contracts of the reference's Image, Sync and New.
-/
import Derived.Test.YtioloobeakjbeaaRefMore
namespace Go.Proofs.Ytioloobeakjbeaa
open Go.RowKit Go.Maps
attribute [local go_sem ↓] Go.wp_at_zero Go.wp_at_succ

/-! ### Image -/
def norm (n : Int) : Int := ((UInt8.ofNat n.toNat).toNat : Int)
theorem norm_byte (n : Int) : UInt8.ofNat (norm n).toNat = UInt8.ofNat n.toNat := by
  unfold norm
  rw [Int.toNat_natCast, UInt8.ofNat_toNat]
theorem strOf_norm (xs : List Int) : strOf (xs.map norm) = strOf xs := by
  apply str_ext
  rw [strOf_list, strOf_list, List.map_map]
  exact List.map_congr_left (fun n _ => norm_byte n)
theorem strCells_of (xs : List Int) : Lib.strCells (strOf xs) = bcells (xs.map norm) := by
  unfold Lib.strCells bcells
  rw [strOf_list, List.map_map, List.map_map]
  rfl

set_option maxHeartbeats 1600000 in
set_option maxRecDepth 100000 in
theorem rimage_at (G : Nat → Prop) (q : Nat) (R : RSt) (w : World) {lb lc : Nat} {wv pv : Value} (h : RkAt w G q R lb lc wv pv) (hb : R.nb ≤ 16384) (hw : R.W.length < 1099511627776) (hl : ∀ n, n < R.nb → (lastR R n).length = 512) :
    Calls Try.prog 22 #[.pointer (some ⟨q, 0, none⟩)] w fun e w' => e = .returned (.string (strOf (St.flat R.nb (lastR R)))) ∧ Chg (fun _ => False) w w' := by
  obtain ⟨i0, hi, hz0, hz1, hz2⟩ := info_parts info5
  have HH : Hid (RkAt w G q R lb lc wv pv) := h
  have HL : Hid (∀ n, n < R.nb → (lastR R n).length = 512) := hl
  obtain ⟨t, ht⟩ : ∃ t, strOf (St.flat R.nb (lastR R)) = t := ⟨_, rfl⟩
  have HT : Hid (strOf (St.flat R.nb (lastR R)) = t) := ht
  rw [ht]
  clear h hl ht
  go_enter Try.func22, Try.ntmps22
  go_wp2_with fail
  go_loopw [3, 4] (fun v x wr => ∃ (i : Nat) (u : Value), i ≤ R.nb ∧ u = v ∧ x = .int .i64 (i : Int) ∧ wr.ownsRow w.heap.size 5 1 u (512 * i) (bcells ((St.flat i (lastR R)).map norm)) ∧ Chg (fun _ => False) w wr) (fun _ x _ => R.nb - (intOf x).toNat)
  case atStart => exact ⟨0, _, Nat.zero_le _, rfl, rfl, World.ownsRow_nil _ _ _ _, Chg.refl _ _⟩
  case round =>
    obtain ⟨i, u, hiL, rfl, rfl, hown, hch⟩ := hrel
    have a1 := HH.out.kept hch (fun _ _ h => h)
    have c0 := a1.c0
    by_cases hlt : i < R.nb
    · have hli : (i : Int) < (R.nb : Int) := by omega
      have hsz : (strOf (lastR R i)).size = 512 := by rw [strOf_size]; exact HL.out i hlt
      obtain ⟨v', w2, hr, ho, hg, _⟩ := Lib.run_append_own_string (P := Try.prog) wr w.heap.size 39 9 39 5 i0 Try.underlying39 Try.underlying9 hi hz0 hz1 hz2 u _ _ hown (strOf (lastR R i)) (by rw [hsz]; unfold maxLen; omega) (by rw [hsz]; omega) hch.size
      have ho' : w2.ownsRow w.heap.size 5 1 v' (512 * (i + 1)) (bcells ((St.flat (i + 1) (lastR R)).map norm)) := by
        rw [hsz, strCells_of] at ho
        have e : bcells ((St.flat i (lastR R)).map norm) ++ bcells ((lastR R i).map norm) = bcells ((St.flat (i + 1) (lastR R)).map norm) := by
          rw [St.flat_succ]; simp [bcells]
        rw [e] at ho
        have e2 : 512 * (i + 1) = 512 * i + 512 := by omega
        rw [e2]; exact ho
      have hc2 : Chg (fun _ => False) w w2 := hch.trans (Chg.ofGrown hg) (fun k hk e => by have := (hown.lt k e).1; omega)
      have HR : Hid (w2.ownsRow w.heap.size 5 1 v' (512 * (i + 1)) (bcells ((St.flat (i + 1) (lastR R)).map norm)) ∧ Chg (fun _ => False) w w2) := ⟨ho', hc2⟩
      have HA : Hid (RkAt wr G q R lb lc wv pv) := a1
      clear a1 hown hch ho ho' hc2 hg hsz
      go_wp2_with fail
      refine (rlast_any G q R i wr HA.out hlt hb hw).mono ?_
      rintro e w1 ⟨rfl, rfl⟩
      clear HA
      go_wp2_with (at_builtin; go_must (refine Lib.wpList_append_run _ rfl (.tmp 14) (.tmp 17) 39 9 rfl _ _ rfl rfl v' w2 hr ?_))
      go_roundw
      case rel => exact ⟨i + 1, _, by omega, rfl, by go_num, HR.out⟩
      case measure => simp [intOf]; omega
    · have hie : i = R.nb := by omega
      subst hie
      have s1 := run_str (Bs.ofOwns hown)
      rw [strOf_norm, HT.out] at s1
      have HR : Hid (Chg (fun _ => False) w wr) := hch
      have g3 : ¬ (R.nb : Int) < (R.nb : Int) := by omega
      clear a1 hown hch
      go_wp2
      go_ret
      exact ⟨rfl, HR.out⟩
theorem rimage_any (G : Nat → Prop) (q : Nat) (S : St) (w : World) (h : Rk w G q S) (hx : S.writes < 1099511627776) :
    Calls Try.prog 22 #[.pointer (some ⟨q, 0, none⟩)] w fun e w' => e = .returned (.string (strOf S.image)) ∧ Chg (fun _ => False) w w' := by
  obtain ⟨R, lb, lc, wv, pv, s, h⟩ := h
  have e : St.flat R.nb (lastR R) = S.image := by
    rw [s.nb]
    exact St.flat_congr (fun n hn => s.last hn)
  have := rimage_at G q R w h (by rw [s.nb]; exact s.wf.top) (by have := s.few; omega) (fun n hn => by rw [s.last (by rw [← s.nb]; exact hn)]; exact St.last_len s.wf (by rw [← s.nb]; exact hn))
  rwa [e] at this

/-! ### Sync -/
/-- The blocks behind the first i versions. -/
def synTo (R : RSt) (i n : Nat) : List Int := (versOf (R.W.take i) n).getLast?.getD (R.f n)
theorem synTo_zero (R : RSt) : synTo R 0 = R.f := by funext n; rfl
theorem synTo_succ {R : RSt} {i : Nat} (hi : i < R.W.length) : synTo R (i + 1) = upd (synTo R i) R.W[i].1 R.W[i].2 := by
  have e : R.W.take (i + 1) = R.W.take i ++ [(R.W[i].1, R.W[i].2)] := by rw [List.take_add_one, List.getElem?_eq_getElem hi]; rfl
  funext n
  unfold synTo
  rw [e, versOf_append, versOf_one]
  by_cases h : R.W[i].1 = n
  · subst h; rw [if_pos rfl, upd_same]; simp
  · rw [if_neg h, List.append_nil, upd_other _ _ (fun x => h x.symm)]
theorem Sim.sync {S : St} {R : RSt} (h : Sim S R) (ho : S.off = false) : Sim S.sync { R with f := synTo R R.W.length, W := [] } := by
  have e : S.sync = S.synced := by unfold St.sync; rw [if_neg (by simp [ho])]
  rw [e]
  refine ⟨St.synced_wf h.wf, h.nb, fun n hn => ?_, fun n => rfl, fun x hx => by simp at hx, Nat.zero_le _, h.off, h.arm, h.pks, h.done⟩
  show synTo R R.W.length n = S.last n
  unfold synTo
  rw [List.take_length, last_eq, h.vers n, h.f n hn]

set_option maxHeartbeats 1600000 in
set_option maxRecDepth 100000 in
theorem rsync_any (G : Nat → Prop) (q : Nat) (S : St) (w : World) (h : Rk w G q S) (hx : S.writes < 1099511627776) :
    Calls Try.prog 64 #[.pointer (some ⟨q, 0, none⟩)] w fun e w' => e = .returned (.int .i64 S.syncE) ∧ RTo G q w w' S.sync := by
  have hR := h
  obtain ⟨R, lb, lc, wv, pv, s, h⟩ := h
  have c2 := h.c2
  rw [s.off] at c2
  by_cases ho : S.off = true
  · have e1 : S.syncE = 6 := by simp [St.syncE, ho]
    have e2 : S.sync = S := by simp [St.sync, ho]
    rw [ho] at c2
    rw [e1, e2]
    have HE : Hid (RTo G q w w S) := RTo.refl hR
    clear h s hR
    go_enter Try.func64, Try.ntmps64
    go_wp2
    go_ret
    exact ⟨rfl, HE.out⟩
  have ho' : S.off = false := by simpa using ho
  have e1 : S.syncE = 0 := by simp [St.syncE, ho']
  rw [ho'] at c2
  rw [e1]
  obtain ⟨wa, wc, rfl⟩ := h.wlen
  have hwl : R.W.length < 1099511627776 := by have := s.few; omega
  have HS : Hid (Sim S R) := s
  have HQ : Hid (G q ∧ G lb) := ⟨h.fq, h.fl⟩
  have hnb : R.nb ≤ 16384 := by rw [s.nb]; exact s.wf.top
  have HN : Hid (∀ x ∈ R.W, x.1 < R.nb) := fun x hx => by rw [s.nb]; exact s.num x hx
  have REL : RkAt w G q { R with f := synTo R 0 } lb lc (.slice wa R.W.length wc) pv := h
  clear h s hR e1 ho
  go_enter Try.func64, Try.ntmps64
  go_wp2_with fail
  go_loopw [3] (fun x wr => ∃ i : Nat, i ≤ R.W.length ∧ x = .int .i64 (i : Int) ∧ RkAt wr G q { R with f := synTo R i } lb lc (.slice wa R.W.length wc) pv ∧ Chg (fun k => k = lb) w wr) (fun x _ => R.W.length - (intOf x).toNat)
  case atStart => exact ⟨0, Nat.zero_le _, rfl, REL, Chg.refl _ _⟩
  case round =>
    clear REL
    obtain ⟨i, hiL, rfl, a1, hch⟩ := hrel
    have c0 := a1.c0
    have c1 := a1.c1
    by_cases hlt : i < R.W.length
    · have hg : ∃ g, wa = some ⟨g, 0, none⟩ := by
        rcases a1.wform with ⟨_, e2⟩ | ⟨g, c, e⟩
        · have e3 : R.W = [] := e2
          rw [e3] at hlt; simp at hlt
        · cases e; exact ⟨g, rfl⟩
      obtain ⟨g, rfl⟩ := hg
      obtain ⟨d0, d1⟩ := a1.wcell (i := i) hlt
      have hn := HN.out R.W[i] (List.getElem_mem hlt)
      have lcl := a1.lcell (n := R.W[i].1) hn
      have lfr := a1.frl R.W[i].1
      obtain ⟨a2, k2⟩ := a1.setL R.W[i].1 R.W[i].2
      have a3 : RkAt (wr.setCell ⟨lb, R.W[i].1, none⟩ (.string (strOf R.W[i].2))).drew G q { R with f := synTo R (i + 1) } lb lc (.slice (some ⟨g, 0, none⟩) R.W.length wc) pv := by
        rw [synTo_succ hlt]
        exact a2.kept (Chg.drew (fun _ => False) _) (fun _ _ h => h)
      have HR : Hid (RkAt (wr.setCell ⟨lb, R.W[i].1, none⟩ (.string (strOf R.W[i].2))).drew G q { R with f := synTo R (i + 1) } lb lc (.slice (some ⟨g, 0, none⟩) R.W.length wc) pv ∧ Chg (fun k => k = lb) w (wr.setCell ⟨lb, R.W[i].1, none⟩ (.string (strOf R.W[i].2))).drew) := ⟨a3, (hch.trans k2 (fun _ _ h => h)).trans (Chg.drew _ _) (fun _ _ h => h)⟩
      have hli : (i : Int) < (R.W.length : Int) := by omega
      have e0 := a2.c0
      have e1 := a2.c1
      obtain ⟨f0, f1⟩ := a2.wcell (i := i) hlt
      simp only at c0 c1 d0 d1 lcl e0 e1 f0 f1
      generalize strOf (synTo R i R.W[i].1) = told at *
      generalize strOf R.W[i].2 = t at *
      generalize R.W[i].1 = x at *
      have hxI : (x : Int) < (R.nb : Int) := by omega
      have lcl' : wr.drew.cell? ⟨lb, x, none⟩ = some (.string told) := lcl
      have lfr' : wr.drew.frozen? ⟨lb, x, none⟩ = false := lfr
      clear a1 a2 a3 k2 hch
      go_wp2_with fail
      go_region_held (fun w' => w'.cell? ⟨q, 0, none⟩ = some (.slice (some ⟨lb, 0, none⟩) R.nb lc) ∧ w'.cell? ⟨q, 1, none⟩ = some (.slice (some ⟨g, 0, none⟩) R.W.length wc) ∧ w'.cell? ⟨g, i * 2, none⟩ = some (.int .i64 (x : Int)) ∧ w'.cell? ⟨g, i * 2 + 1, none⟩ = some (.string t))
        (first | exact ⟨c0, c1, d0, d1⟩ | exact ⟨e0, e1, f0, f1⟩) (fail)
      all_goals
        go_wp2
        go_roundw
        case rel => exact ⟨i + 1, by omega, by go_num, HR.out⟩
        case measure => simp [intOf]; omega
    · have hie : i = R.W.length := by omega
      subst hie
      have f1 := a1.fr 1
      obtain ⟨a2, k2⟩ := a1.setW0
      have HE : Hid (RTo G q w (wr.setCell ⟨q, 1, none⟩ (.slice none 0 0)) S.sync) :=
        ⟨G, ⟨_, lb, lc, _, pv, HS.out.sync ho', a2⟩, (hch.mono (fun k _ e => by rw [e]; exact HQ.out.2)).trans k2 (fun k _ e => by rw [e]; exact HQ.out.1), fun b hb => .inl hb⟩
      have g3 : ¬ (R.W.length : Int) < (R.W.length : Int) := by omega
      clear a1 a2 k2 hch c0
      go_wp2
      go_ret
      exact ⟨rfl, HE.out⟩

/-! ### New -/
theorem eq29_nil (w : World) : (binOp .eql 29 (.pointer none) (.pointer none)).run Try.prog w = .ok (.bool true) w := by kernel_rfl
theorem eq29_some (a : Addr) (w : World) : (binOp .eql 29 (.pointer (some a)) (.pointer none)).run Try.prog w = .ok (.bool false) w := by kernel_rfl
theorem Sim.new {nb : Nat} (h0 : 0 < nb) (h1 : nb ≤ 16384) : Sim (St.new nb) { nb := nb, f := fun _ => zeros 512, W := [], off := false, arm := 0, pk := [], done := 0 } :=
  ⟨St.new_wf h0 h1, rfl, fun _ _ => rfl, fun _ => rfl, fun x hx => by simp at hx, Nat.le_refl _, rfl, rfl, fun h => absurd h (by show ¬ (1 : Int) ≤ 0; decide), rfl⟩
theorem scells_succ (f : Nat → List Int) (n : Nat) : scells f (n + 1) = scells f n ++ [.string (strOf (f n))] := by simp [scells, List.range_succ]

set_option maxHeartbeats 1600000 in
set_option maxRecDepth 100000 in
theorem rnew_ok (nb : Nat) (w : World) (h0 : 0 < nb) (h1 : nb ≤ 16384) :
    Calls Try.prog 12 #[.int .i64 (nb : Int)] w fun e w' => ∃ G q, e = .returned (.tuple #[.pointer (some ⟨q, 0, none⟩), .int .i64 0]) ∧ Rk w' G q (St.new nb) ∧ Chg (fun _ => False) w w' ∧ ∀ b, G b → w.heap.size ≤ b := by
  obtain ⟨i5, hi5, hy0, hy1, hy2⟩ := info_parts info5
  obtain ⟨i0, hi9, hz0, hz1, hz2⟩ := info_parts info9
  have k1 : ¬ ((nb : Int) < 1) := by omega
  have k2 : ¬ ((16384 : Int) < (nb : Int)) := by omega
  obtain ⟨tz, htz⟩ : ∃ t, strOf (zeros 512) = t := ⟨_, rfl⟩
  have HZ : Hid (strOf (zeros 512) = tz) := htz
  obtain ⟨o, hdo⟩ : ∃ o, Obj.cells #[.slice none 0 0, .slice none 0 0, .bool false, .int .i64 0, .slice none 0 0, .int .i64 0] 57 = o := ⟨_, rfl⟩
  have hq : (w.alloc o).heap[w.heap.size]? = some (.cells #[.slice none 0 0, .slice none 0 0, .bool false, .int .i64 0, .slice none 0 0, .int .i64 0] 57 (0, 0)) := by rw [← hdo]; exact heap_alloc_new w _
  have ca := Chg.alloc (fun _ => False) w o
  have hsz : (w.alloc o).heap.size = w.heap.size + 1 := by simp
  go_enter Try.func12, Try.ntmps12
  go_wp2_with (refine wpList_make_full _ rfl _ _ 39 rfl (w.heap.size + 1) 5 i5 (.int .u8 0) 1 Try.underlying39 hi5 hy0 hy1 .i64 .i64 _ _ 512 rfl rfl rfl rfl (by rw [hy2]; omega) (by unfold maxLen; omega) (by simp) ?_; intro w1 own1 grow1; rw [made_bytes] at own1; have s1 := run_str (Bs.ofOwns own1); rw [htz, World.size_alloc] at s1)
  have REL0 : ∃ lv, w1.heap[w.heap.size]? = some (.cells #[lv, .slice none 0 0, .bool false, .int .i64 0, .slice none 0 0, .int .i64 0] 57 (0, 0)) ∧ w1.ownsRow (w.heap.size + 1) 9 1 lv 0 (scells (fun _ => zeros 512) 0) ∧ Chg (fun _ => False) w w1 := by
    have cg := Chg.of_none grow1
    exact ⟨_, (cg.block w.heap.size (by simp) (fun h => h)).trans hq, World.ownsRow_nil _ _ _ _, ca.trans cg (fun _ _ h => h)⟩
  clear own1 grow1 hq ca hdo hsz s1
  go_loopw [6] (fun x wr => ∃ i : Nat, i ≤ nb ∧ x = .int .i64 (i : Int) ∧ ∃ lv, wr.heap[w.heap.size]? = some (.cells #[lv, .slice none 0 0, .bool false, .int .i64 0, .slice none 0 0, .int .i64 0] 57 (0, 0)) ∧ wr.ownsRow (w.heap.size + 1) 9 1 lv i (scells (fun _ => zeros 512) i) ∧ Chg (fun _ => False) w wr) (fun x _ => nb - (intOf x).toNat)
  case atStart => exact ⟨0, Nat.zero_le _, rfl, REL0⟩
  case round =>
    clear REL0
    obtain ⟨i, hiL, rfl, lv, hb, hown, hch⟩ := hrel
    by_cases hlt : i < nb
    · have hli : (i : Int) < (nb : Int) := by omega
      have hqs : w.heap.size < wr.heap.size := (Array.getElem?_eq_some_iff.1 hb).1
      obtain ⟨v', w2, hr, ho, hc2, _⟩ := run_appS (P := Try.prog) wr (w.heap.size + 1) 54 54 i0 Try.underlying54 hi9 hz0 hz1 hz2 lv _ _ tz hown (by omega) (by omega)
      obtain ⟨la', lc', rfl⟩ := own_form ho
      obtain ⟨la, lc, rfl⟩ := own_form hown
      have hne : ¬ (Value.slice la i lc).ownBlock = some w.heap.size := fun e => by have := (hown.lt _ e).1; omega
      have hb2 := (hc2.block w.heap.size hqs hne).trans hb
      have c0 : wr.cell? ⟨w.heap.size, 0, none⟩ = some (.slice la i lc) := by rw [cell_of_row wr w.heap.size 0 _ _ _ hb]; rfl
      have d0 : w2.cell? ⟨w.heap.size, 0, none⟩ = some (.slice la i lc) := by rw [cell_of_row w2 w.heap.size 0 _ _ _ hb2]; rfl
      have f0 : w2.frozen? ⟨w.heap.size, 0, none⟩ = false := by simp [World.frozen?, hb2]
      have hb3 := heap_setCell_same w2 w.heap.size 0 _ _ (.slice la' (i + 1) lc') hb2
      have kc : Chg (fun k => k = w.heap.size) w2 (w2.setCell ⟨w.heap.size, 0, none⟩ (.slice la' (i + 1) lc')) := Chg.setCell _ _ _ rfl
      have HR : Hid (∃ lv, (w2.setCell ⟨w.heap.size, 0, none⟩ (.slice la' (i + 1) lc')).heap[w.heap.size]? = some (.cells #[lv, .slice none 0 0, .bool false, .int .i64 0, .slice none 0 0, .int .i64 0] 57 (0, 0)) ∧ (w2.setCell ⟨w.heap.size, 0, none⟩ (.slice la' (i + 1) lc')).ownsRow (w.heap.size + 1) 9 1 lv (i + 1) (scells (fun _ => zeros 512) (i + 1)) ∧ Chg (fun _ => False) w (w2.setCell ⟨w.heap.size, 0, none⟩ (.slice la' (i + 1) lc'))) := by
        refine ⟨.slice la' (i + 1) lc', by simpa using hb3, ?_, (hch.trans hc2 (fun k hk e => by have := (hown.lt k e).1; omega)).trans kc (fun k hk e => by omega)⟩
        rw [scells_succ, HZ.out]
        exact own_same ho (fun g hg => kc.block g (ho.lt g hg).2 (fun e => by have := (ho.lt g hg).1; omega))
      clear hb hown hch hc2 ho hb2 hb3 kc hne
      go_wp2_with (at_builtin; go_must (refine Lib.wpList_append_run _ rfl (.tmp 26) (.tmp 28) 54 54 rfl _ _ rfl rfl _ w2 hr ?_))
      go_roundw
      case rel => exact ⟨i + 1, by omega, by go_num, HR.out⟩
      case measure => simp [intOf]; omega
    · have hie : i = nb := by omega
      subst hie
      have HR : Hid (Rk wr (fun b => w.heap.size ≤ b ∧ b < wr.heap.size) w.heap.size (St.new i) ∧ Chg (fun _ => False) w wr) := by
        have hqs : w.heap.size < wr.heap.size := (Array.getElem?_eq_some_iff.1 hb).1
        rcases hown.2 with ⟨_, e⟩ | ⟨g, c, cur, e, _⟩
        · omega
        · subst e
          refine ⟨⟨_, g, c, .slice none 0 0, .slice none 0 0, Sim.new h0 h1, ⟨hb, own_mono hown (Nat.zero_le _), World.ownsRow_nil _ _ _ _, World.ownsRow_nil _ _ _ _, ⟨Nat.le_refl _, hqs⟩, ⟨by have := (hown.lt g rfl).1; omega, (hown.lt g rfl).2⟩, fun g hg => (by cases hg), fun g hg => (by cases hg), fun b hb => hb.2⟩⟩, hch⟩
      have g3 : ¬ (i : Int) < (i : Int) := by omega
      clear hb hown hch
      go_wp2
      go_ret2
      exact ⟨_, _, rfl, HR.out.1, HR.out.2, fun b hb => hb.1⟩

set_option maxHeartbeats 800000 in
theorem rnew_bad (n : Int) (w : World) (h : n < 1 ∨ 16384 < n) : Calls Try.prog 12 #[.int .i64 n] w fun e w' => e = .returned (.tuple #[.pointer none, .int .i64 1]) ∧ w' = w := by
  by_cases h1 : n < 1
  · have k1 : decide (n < 1) = true := by simpa using h1
    go_enter Try.func12, Try.ntmps12
    go_wp2
    go_ret2
    exact ⟨rfl, rfl⟩
  · have k1 : decide (n < 1) = false := by simpa using h1
    have k2 : decide (16384 < n) = true := by simp; omega
    clear h h1
    go_enter Try.func12, Try.ntmps12
    go_wp2
    go_ret2
    exact ⟨rfl, rfl⟩
end Go.Proofs.Ytioloobeakjbeaa
