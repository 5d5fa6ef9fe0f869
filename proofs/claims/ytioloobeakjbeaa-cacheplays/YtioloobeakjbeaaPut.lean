/-
  The contracts of Put and Unpin of package cache.
-/
import Derived.Test.YtioloobeakjbeaaOps
namespace Go.Proofs.Ytioloobeakjbeaa
open Go.RowKit Go.Maps

theorem copy_facts {w : World} {g cap vc : Nat} {va : Option Addr} {old bs : List Int} (ho : w.ownsRow 0 5 1 (.slice (some ⟨g, 0, none⟩) 512 cap) 512 (bcells old)) (hb : Bs w (.slice va 512 vc) bs) (hl : bs.length = 512) :
    ∃ w2, (∀ ty, (Builtin.copy_ #[39, 39] ty #[.slice (some ⟨g, 0, none⟩) 512 cap, .slice va 512 vc]).run Try.prog w = .ok (goInt 512) w2) ∧ w2.ownsRow 0 5 1 (.slice (some ⟨g, 0, none⟩) 512 cap) 512 (bcells bs) ∧ Chg (fun b => b = g) w w2 := by
  have hbl : (bcells bs).length = 512 := by simp [bcells, hl]
  rcases hb with ⟨e, rfl⟩ | ⟨a, c, e, _, _, hcell⟩
  · simp at hl
  · simp at e
    obtain ⟨rfl, e2, rfl⟩ := e
    rcases ho.2 with ⟨e, _⟩ | ⟨g', cap', cur, e, h0, h1, h2, h3, h4, h5⟩
    · cases e
    · cases e
      have hr := fun ty => run_copy_row (P := Try.prog) w 39 39 ty 5 g 0 512 cap a 512 vc cur 5 (bcells bs) Try.underlying39 (by kernel_rfl) h1 (by rw [hbl]; rfl) (fun i u hu => by
        obtain ⟨hi, rfl⟩ := bcells_get hu
        exact hcell i hi) (by rw [hbl]; omega) (bcells_one _)
      rw [hbl] at hr
      refine ⟨_, hr, ⟨hbl, .inr ⟨g, cap, _, rfl, h0, setRow_heap w g cur _ 5 _ h1, h2, h3, ?_, ?_⟩⟩, ⟨rfl, rfl, rfl, by simp, fun k _ hk => setRow_other w g k _ (fun e => hk e)⟩⟩
      · simp [hbl]; omega
      · simp only [List.take_zero, List.nil_append]
        have : (512 * 1 : Nat) = (bcells bs).length := by rw [hbl]
        rw [this]
        simp

set_option maxHeartbeats 1600000 in
set_option maxRecDepth 100000 in
theorem put_any (F G : Nat → Prop) (c p : Nat) (S : St) (C : Ca) (n : Int) (v : Value) (bs : List Int) (w : World) (h : Cc w F G c p S C) (hb : Bs w v bs) (hv : ∀ g, v.ownBlock = some g → ¬ F g ∧ ¬ G g) (hx : S.writes < 1099511627776) (hu : C.hits + C.misses < 1099511627776) (hev : C.evicted < 1099511627776) :
    Calls Try.prog 25 #[.pointer (some ⟨c, 0, none⟩), .int .i64 n, v] w fun e w' => e = .returned (.int .i64 (put S C n bs).e) ∧ CTo F G c p w w' (put S C n bs).S (put S C n bs).C := by
  obtain ⟨va, vc, hvf, _⟩ := hb.form
  by_cases hl : bs.length = 512
  case neg =>
    have hP : Hid (put S C n bs = ⟨1, S, C⟩) := (show put S C n bs = ⟨1, S, C⟩ by unfold put; rw [if_pos hl])
    have HC : Hid (Cc w F G c p S C) := h
    have hli : ((bs.length : Int) == 512) = false := by simp; omega
    clear h hb hv
    subst hvf
    go_enter Try.func25, Try.ntmps25
    go_wp2
    go_ret
    rw [hP.out]
    exact ⟨rfl, F, G, HC.out, Gr.refl _ _ _⟩
  rw [hl] at hvf
  subst hvf
  obtain ⟨m, r, ls, nd, h⟩ := h
  have HU := useB_any F G c p S C m r ls nd n w h hx hu hev
  have HUU : Hid _ := HU
  have HP : Hid (put S C n bs = if (use S C n 0 (zeros 512)).e ≠ 0 then use S C n 0 (zeros 512) else ⟨0, (use S C n 0 (zeros 512)).S, (use S C n 0 (zeros 512)).C.last fun i => { i with b := bs, dirty := true }⟩) := (show put S C n bs = _ by unfold put; rw [if_neg (by simpa using hl)])
  generalize use S C n 0 (zeros 512) = R at *
  have HV : Hid ((∀ g, (Value.slice va 512 vc).ownBlock = some g → ¬ F g ∧ ¬ G g) ∧ Bs w (.slice va 512 vc) bs ∧ bs.length = 512) := ⟨hv, hb, hl⟩
  have HLW : Hid (∀ b, F b ∨ G b → b < w.heap.size) := (show ∀ b, F b ∨ G b → b < w.heap.size from fun b e => by
    rcases e with e | e
    · exact h.dk.lt b e
    · exact h.ca.lt b e)
  clear h HU hv hb hl
  go_enter Try.func25, Try.ntmps25
  go_wp2_with fail
  refine (show Calls _ _ _ _ _ from HUU.out).mono ?_
  clear HUU
  rintro e w1 ⟨F1, G1, m1, r1, g1, ⟨he, rfl, ls1, nd1, k1⟩ | ⟨he, ys, a, nd1, rfl, k1⟩⟩
  · have he0 : (R.e == 0) = false := by simpa using he
    have HK : Hid (Ck w1 F1 G1 c p R.S R.C m1 r1 ls1 nd1 ∧ Gr F G w w1 F1 G1) := ⟨k1, g1⟩
    clear k1 g1
    go_wp2
    go_ret
    rw [HP.out, if_pos he]
    exact ⟨rfl, F1, G1, ⟨_, _, _, _, HK.out.1⟩, HK.out.2⟩
  · have hal : a ∈ ys ++ [a] := by simp
    obtain ⟨g, cap, hgv, hgG⟩ := k1.ca.slice hal
    have hN := k1.ca.nodes a (List.mem_cons_of_mem _ hal)
    have a1 := hN.c1
    rw [hgv] at a1
    have hown := k1.ca.own a hal
    rw [hgv] at hown
    have hbs1 : Bs w1 (.slice va 512 vc) bs := HV.out.2.1.kept g1.chg (fun a' n' c' e hn' => by
      have := HV.out.1 a'.block (by rw [e]; rfl)
      exact fun e2 => by rcases e2 with e2 | e2; exact this.1 e2; exact this.2 e2)
    obtain ⟨w2, hr, ho2, hc2⟩ := copy_facts hown hbs1 HV.out.2.2
    have hag : a ≠ g := (k1.ca.node_ne (List.mem_cons_of_mem _ hal)).2.2 a hal g (by rw [hgv]; rfl)
    have ca2 := k1.ca.bytes hal (g := g) (by rw [hgv]; rfl) hc2 (by rw [hgv]; exact ho2) HV.out.2.2
    have hN2 := ca2.nodes a (List.mem_cons_of_mem _ hal)
    have a2 := hN2.c2
    have f2 := hN2.fr 2
    have hn2 : (setB nd1 a bs a).n = (nd1 a).n := (setB_same nd1 a bs a).1
    have ca3 := ca2.dirt hal true
    rw [hn2, mod_mod (nd1 a).n (fun i => { i with b := bs }) (fun i => { i with dirty := true }) (fun _ => rfl)] at ca3
    have hL : R.C.L = (ys.map fun b => (nd1 b).it) ++ [(nd1 a).it] := by rw [k1.ca.items]; simp
    rw [show (nd1 a).n = (nd1 a).it.n from rfl, mod_last k1.ca.wf hL] at ca3
    have hcs : Chg (fun b => b ∈ r1 :: (ys ++ [a])) w2 (w2.setCell ⟨a, 2, none⟩ (.bool true)) := Chg.setCell _ _ _ (List.mem_cons_of_mem _ hal)
    have hG3 : Chg G1 w1 (w2.setCell ⟨a, 2, none⟩ (.bool true)) := (hc2.mono (S' := G1) (fun b _ e => by rw [e]; exact hgG)).trans (hcs.mono (S' := G1) (fun b _ e => k1.ca.fn b e)) (fun _ _ h => h)
    have HK : Hid (CaAt (w2.setCell ⟨a, 2, none⟩ (.bool true)) G1 c p R.S.nb (R.C.last fun i => { i with b := bs, dirty := true }) m1 r1 (ys ++ [a]) (setD (setB nd1 a bs) a true) ∧ Chg G1 w1 (w2.setCell ⟨a, 2, none⟩ (.bool true)) ∧ Gr F G w w1 F1 G1 ∧ Dk w1 F1 p R.S ∧ (∀ b, F1 b → ¬ G1 b) ∧ R.e = 0) := ⟨ca3, hG3, g1, k1.dk, k1.no, he⟩
    generalize (setB nd1 a bs a).d = dd at *
    clear k1 g1 he hN hown hbs1 ho2 hc2 ca2 hN2 hn2 ca3 hcs hG3 hal hL
    go_wp2_with (first | (at_builtin; refine wpList_copy_eq _ rfl (.tmp 24) (.tmp 25) 39 39 rfl _ _ rfl rfl _ w2 (hr _) ?_))
    go_ret
    obtain ⟨ca3, hG3, g1, d1, no1, he⟩ := HK.out
    rw [HP.out, if_neg (by rw [he]; decide)]
    exact ⟨rfl, F1, G1, ⟨_, _, _, _, d1.kept hG3 (fun b hf hg => no1 b hf hg), ca3, no1⟩, g1.trans (Gr.chgG hG3)⟩

set_option maxHeartbeats 1600000 in
set_option maxRecDepth 100000 in
theorem unpin_any (G : Nat → Prop) (c p nb : Nat) (C : Ca) (m r : Nat) (ls : List Nat) (nd : Nat → Node) (n : Int) (w : World) (h : CaAt w G c p nb C m r ls nd) (h0 : -9223372036854775808 ≤ n) (h1 : n < 9223372036854775808) (hu : C.hits + C.misses < 1099511627776) :
    Calls Try.prog 35 #[.pointer (some ⟨c, 0, none⟩), .int .i64 n] w fun e w' => e = .returned (.bool (unpins C n)) ∧ ∃ nd', CaAt w' G c p nb (unpin C n) m r ls nd' ∧ Chg G w w' := by
  have c2 := h.c2
  have HH : Hid (CaAt w G c p nb C m r ls nd) := h
  by_cases hh : ∃ a ∈ ls, ((nd a).n : Int) = n
  · obtain ⟨a, hal, hn⟩ := hh
    have lk0 := h.map.look h.nbt hal (h.nlt hal)
    rw [hn] at lk0
    have lk : (Instr.lookup 74 (.map (some m)) (.int .i64 n) false).run Try.prog w = .ok (.pointer (some ⟨a, 0, none⟩)) w := lk0
    have hN := h.nodes a (List.mem_cons_of_mem _ hal)
    have a3 := hN.c3
    have f3 := hN.fr 3
    have hq := eq75_nil ⟨a, 0, none⟩
    have hun : unpins C n = ((nd a).k != 0) := by
      unfold unpins
      have e1 : decide (0 ≤ n) = true := by simp; omega
      have e2 : n.toNat = (nd a).n := by omega
      rw [e1, e2, Bool.true_and, Bool.eq_iff_iff, List.any_eq_true]
      constructor
      · rintro ⟨i, hi, hc⟩
        simp only [Bool.and_eq_true, beq_iff_eq] at hc
        rw [h.same_item hal hi hc.1] at hc
        exact hc.2
      · intro hk
        exact ⟨(nd a).it, h.mem hal, by simp only [Bool.and_eq_true, beq_iff_eq]; exact ⟨rfl, hk⟩⟩
    have hp := h.pins hal
    by_cases hk : (nd a).k = 0
    · have HU : Hid (unpins C n = false ∧ unpin C n = C) := by
        have : unpins C n = false := by rw [hun, hk]; rfl
        exact ⟨this, by unfold unpin; rw [this]; rfl⟩
      have k1 : (((nd a).k : Nat) : Int) = 0 := by omega
      rw [k1] at a3
      clear h hN lk0 hun hp hk hn hal
      go_enter Try.func35, Try.ntmps35
      go_wp2
      go_ret
      rw [HU.out.1, HU.out.2]
      exact ⟨rfl, nd, HH.out, Chg.refl _ _⟩
    · have hun1 : unpins C n = true := by rw [hun]; simpa using hk
      have e2 : n.toNat = (nd a).n := by omega
      have HU : Hid (unpins C n = true ∧ unpin C n = C.mod (nd a).n fun i => { i with pins := (nd a).k - 1 }) := by
        refine ⟨hun1, ?_⟩
        unfold unpin
        rw [if_pos hun1, e2]
        unfold Ca.mod
        simp only [Ca.mk.injEq, true_and, and_true]
        refine List.map_congr_left (fun i hi => ?_)
        by_cases e : i.n = (nd a).n
        · rw [if_pos e, if_pos e, h.same_item hal hi e]; rfl
        · rw [if_neg e, if_neg e]
      have k1 : ((((nd a).k : Nat) : Int) == 0) = false := by simp; omega
      have k2 : (((nd a).k : Nat) : Int) - 1 = (((nd a).k - 1 : Nat) : Int) := by omega
      have hpp := h.pin (k := (nd a).k - 1) hal (by omega)
      have hk2 : (nd a).k < 1099511627776 := by omega
      have hk3 : 0 < (nd a).k := by omega
      have HP : Hid (CaAt (w.setCell ⟨a, 3, none⟩ (.int .i64 (((nd a).k : Int) - 1))) G c p nb (unpin C n) m r ls (setK nd a ((nd a).k - 1)) ∧ Chg G w (w.setCell ⟨a, 3, none⟩ (.int .i64 (((nd a).k : Int) - 1)))) := by
        rw [k2, HU.out.2]
        exact ⟨hpp, Chg.setCell _ _ _ (h.fn a (List.mem_cons_of_mem _ hal))⟩
      have HU1 : Hid (unpins C n = true) := hun1
      generalize (nd a).k = kk at *
      clear h hN lk0 hun hp hk hn hal hpp HU hun1 e2 k2
      go_enter Try.func35, Try.ntmps35
      go_wp2
      go_ret
      rw [HU1.out]
      exact ⟨rfl, _, HP.out⟩
  · have hno : ∀ a ∈ ls, ((nd a).n : Int) ≠ n := fun a ha e => hh ⟨a, ha, e⟩
    have lk := h.map.lookNone n h0 h1 hno
    have hq := eq75_none
    have hun : unpins C n = false := by
      unfold unpins
      by_cases e : 0 ≤ n
      · have e1 : decide (0 ≤ n) = true := by simpa using e
        rw [e1, Bool.true_and, List.any_eq_false]
        intro i hi hc
        simp only [Bool.and_eq_true, beq_iff_eq] at hc
        rw [h.items] at hi
        obtain ⟨b, hb, rfl⟩ := List.mem_map.1 hi
        have h3 : (nd b).n = n.toNat := hc.1
        exact hno b hb (by omega)
      · have e1 : decide (0 ≤ n) = false := by simpa using e
        rw [e1]; rfl
    have HU : Hid (unpins C n = false ∧ unpin C n = C) := ⟨hun, by unfold unpin; rw [hun]; rfl⟩
    clear h hno hun hh
    go_enter Try.func35, Try.ntmps35
    go_wp2
    go_ret
    rw [HU.out.1, HU.out.2]
    exact ⟨rfl, nd, HH.out, Chg.refl _ _⟩
end Go.Proofs.Ytioloobeakjbeaa
