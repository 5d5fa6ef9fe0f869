/-
  The contracts of Get, Put, Pin and Unpin of package cache.
-/
import Derived.Test.YtioloobeakjbeaaUseR
namespace Go.Proofs.Ytioloobeakjbeaa
open Go.RowKit Go.Maps

/-- A disk and a cache over it. -/
def Cc (w : World) (F G : Nat → Prop) (c p : Nat) (S : St) (C : Ca) : Prop := ∃ m r ls nd, Ck w F G c p S C m r ls nd
/-- What a call leaves. -/
def CTo (F G : Nat → Prop) (c p : Nat) (w w' : World) (S' : St) (C' : Ca) : Prop := ∃ F' G', Cc w' F' G' c p S' C' ∧ Gr F G w w' F' G'
theorem Cc.kept {w w' : World} {F G E : Nat → Prop} {c p : Nat} {S : St} {C : Ca} (h : Cc w F G c p S C) (hc : Chg E w w') (hE : ∀ b, F b ∨ G b → ¬ E b) : Cc w' F G c p S C := by
  obtain ⟨m, r, ls, nd, h⟩ := h
  exact ⟨m, r, ls, nd, h.dk.kept hc (fun b hf => hE b (.inl hf)), h.ca.kept hc (fun b hg => hE b (.inr hg)), h.no⟩
theorem Cc.dk {w : World} {F G : Nat → Prop} {c p : Nat} {S : St} {C : Ca} (h : Cc w F G c p S C) : Dk w F p S := by obtain ⟨m, r, ls, nd, h⟩ := h; exact h.dk
theorem Cc.no {w : World} {F G : Nat → Prop} {c p : Nat} {S : St} {C : Ca} (h : Cc w F G c p S C) : ∀ b, F b → ¬ G b := by obtain ⟨m, r, ls, nd, h⟩ := h; exact h.no
theorem Cc.lt {w : World} {F G : Nat → Prop} {c p : Nat} {S : St} {C : Ca} (h : Cc w F G c p S C) : ∀ b, F b ∨ G b → b < w.heap.size := by
  obtain ⟨m, r, ls, nd, h⟩ := h
  rintro b (e | e)
  · exact h.dk.lt b e
  · exact h.ca.lt b e
theorem Cc.wf {w : World} {F G : Nat → Prop} {c p : Nat} {S : St} {C : Ca} (h : Cc w F G c p S C) : S.Wf ∧ C.Wf S.nb := by obtain ⟨m, r, ls, nd, h⟩ := h; exact ⟨h.dk.wf, h.ca.wf⟩

theorem lastB_snoc {C : Ca} {ys : List Nat} {a : Nat} {nd : Nat → Node} (h : C.L = (ys ++ [a]).map fun b => (nd b).it) : C.lastB = (nd a).b := by
  unfold Ca.lastB
  rw [h]
  simp [Node.it]

set_option maxHeartbeats 1600000 in
set_option maxRecDepth 100000 in
theorem get_any (F G : Nat → Prop) (c p : Nat) (S : St) (C : Ca) (n : Int) (w : World) (h : Cc w F G c p S C) (hx : S.writes < 1099511627776) (hu : C.hits + C.misses < 1099511627776) (hev : C.evicted < 1099511627776) :
    Calls Try.prog 26 #[.pointer (some ⟨c, 0, none⟩), .int .i64 n] w fun e w' => ∃ u F' G', e = .returned (.tuple #[u, .int .i64 (get S C n).e]) ∧ Cc w' F' G' c p (get S C n).S (get S C n).C ∧ Gr F G w w' F' G' ∧ Bs w' u (getB S C n) ∧ ∀ g, u.ownBlock = some g → w.heap.size ≤ g ∧ ¬ F' g ∧ ¬ G' g := by
  obtain ⟨m, r, ls, nd, h⟩ := h
  have c0 := h.ca.c0
  have HU := useR_any F G c p S C m r ls nd n w h hx hu hev
  have HUU : Hid _ := HU
  have HG : Hid (getB S C n = if (use S C n (S.readE n) (S.readV n)).e = 0 then (use S C n (S.readE n) (S.readV n)).C.lastB else []) := (show getB S C n = _ from rfl)
  have hget : get S C n = use S C n (S.readE n) (S.readV n) := rfl
  rw [hget]
  generalize use S C n (S.readE n) (S.readV n) = R at *
  have hmf : ∀ (fn : Fn) (first cap : Array Value) (w : World), (Instr.makeFunc fn first cap).run Try.prog w = .ok (.func fn first cap) w := fun _ _ _ _ => rfl
  have HS : Hid (w.heap.size ≤ w.heap.size) := Nat.le_refl _
  clear h HU hget
  go_enter Try.func26, Try.ntmps26
  go_wp2_with fail
  refine (show Calls _ _ _ _ _ from HUU.out).mono ?_
  clear HUU c0
  rintro e w1 ⟨F1, G1, m1, r1, g1, ⟨he, rfl, ls1, nd1, k1⟩ | ⟨he, ys, a, nd1, rfl, k1⟩⟩
  · have he0 : (R.e == 0) = false := by simpa using he
    have HK : Hid (Ck w1 F1 G1 c p R.S R.C m1 r1 ls1 nd1 ∧ Gr F G w w1 F1 G1) := ⟨k1, g1⟩
    clear k1 g1
    go_wp2
    go_ret2
    refine ⟨_, F1, G1, rfl, ⟨_, _, _, _, HK.out.1⟩, HK.out.2, .inl ⟨rfl, ?_⟩, fun g hg => by cases hg⟩
    rw [HG.out, if_neg he]
  · have hal : a ∈ ys ++ [a] := by simp
    have a1 := (k1.ca.nodes a (List.mem_cons_of_mem _ hal)).c1
    obtain ⟨g, cap, hv, hgG⟩ := k1.ca.slice hal
    have hb := k1.ca.bs hal
    have hlen := k1.ca.blen hal
    have hlast : getB S C n = (nd1 a).b := by rw [HG.out, if_pos he]; exact lastB_snoc k1.ca.items
    rw [hv] at a1 hb
    have HK : Hid (Ck w1 F1 G1 c p R.S R.C m1 r1 (ys ++ [a]) nd1 ∧ Gr F G w w1 F1 G1 ∧ Bs w1 (.slice (some ⟨g, 0, none⟩) 512 cap) (nd1 a).b ∧ (nd1 a).b.length = 512 ∧ getB S C n = (nd1 a).b ∧ R.e = 0) := ⟨k1, g1, hb, hlen, hlast, he⟩
    clear k1 g1 hb hlen hlast hal hv he
    go_wp2_with fail
    refine (cloneB_any _ (nd1 a).b w1 HK.out.2.2.1 (by rw [HK.out.2.2.2.1]; decide)).mono ?_
    rintro e w2 ⟨u, rfl, ho, hc⟩
    have HO : Hid (w2.ownsRow w1.heap.size 5 1 u (nd1 a).b.length (bcells (nd1 a).b) ∧ Chg (fun _ => False) w1 w2) := ⟨ho, hc⟩
    clear ho hc a1
    go_wp2
    go_ret2
    obtain ⟨k1, g1, hb, hlen, hlast, he⟩ := HK.out
    obtain ⟨ho, hc⟩ := HO.out
    have hs := g1.chg.size
    refine ⟨u, F1, G1, by rw [he]; rfl, ⟨_, _, _, _, k1.dk.kept hc (fun _ _ h => h), k1.ca.kept hc (fun _ _ h => h), k1.no⟩, g1.trans (Gr.new hc), by rw [hlast]; exact Bs.ofOwns ho, fun g2 hg2 => ?_⟩
    have := (ho.lt g2 hg2).1
    exact ⟨by omega, fun e => by have := k1.dk.lt _ e; omega, fun e => by have := k1.ca.lt _ e; omega⟩

section
variable {w : World} {G : Nat → Prop} {c p nb : Nat} {C : Ca} {m r : Nat} {ls : List Nat} {nd : Nat → Node}
theorem mod_wf2 {C : Ca} {nb : Nat} (h : C.Wf nb) (n : Nat) (f : It → It) (hn : ∀ i, (f i).n = i.n) (hb : ∀ i, i.b.length = 512 → (f i).b.length = 512) (hp : ∀ i, (f i).pins ≤ i.pins) : (C.mod n f).Wf nb := by
  have hm : ∀ j ∈ (C.mod n f).L, ∃ i ∈ C.L, j.n = i.n ∧ (i.b.length = 512 → j.b.length = 512) ∧ j.pins ≤ i.pins := fun j hj => by
    obtain ⟨i, hi, e⟩ := List.mem_map.1 hj
    refine ⟨i, hi, ?_⟩
    rw [← e]
    split
    · exact ⟨hn i, hb i, hp i⟩
    · exact ⟨rfl, fun h => h, Nat.le_refl _⟩
  refine ⟨h.pos, h.top, by simpa [Ca.mod] using h.few, ?_, fun j hj => ?_, fun j hj => ?_, fun j hj => ?_⟩
  · have : (C.mod n f).L.map It.n = C.L.map It.n := by
      simp only [Ca.mod, List.map_map]
      refine List.map_congr_left (fun i _ => ?_)
      simp only [Function.comp]
      split
      · exact hn i
      · rfl
    rw [this]; exact h.uniq
  · obtain ⟨i, hi, e, _⟩ := hm j hj; rw [e]; exact h.lt i hi
  · obtain ⟨i, hi, _, e, _⟩ := hm j hj; exact e (h.len i hi)
  · obtain ⟨i, hi, _, _, e⟩ := hm j hj; exact Nat.le_trans e (h.pins i hi)
theorem setB_it (nd : Nat → Node) (a : Nat) (bs : List Int) (b : Nat) : (setB nd a bs b).it = if b = a then { (nd b).it with b := bs } else (nd b).it := by
  unfold _root_.Go.Proofs.Ytioloobeakjbeaa.setB; split <;> rfl
theorem setB_same (nd : Nat → Node) (a : Nat) (bs : List Int) (b : Nat) : (setB nd a bs b).n = (nd b).n ∧ (setB nd a bs b).v = (nd b).v ∧ (setB nd a bs b).x = (nd b).x ∧ (setB nd a bs b).y = (nd b).y := by
  unfold _root_.Go.Proofs.Ytioloobeakjbeaa.setB; split <;> exact ⟨rfl, rfl, rfl, rfl⟩
/-- A node's bytes are others. -/
theorem CaAt.bytes {w' : World} (h : CaAt w G c p nb C m r ls nd) {a g : Nat} (ha : a ∈ ls) (hg : (nd a).v.ownBlock = some g) (hc : Chg (fun b => b = g) w w') {bs : List Int} (ho : w'.ownsRow 0 5 1 (nd a).v 512 (bcells bs)) (hl : bs.length = 512) :
    CaAt w' G c p nb (C.mod (nd a).n fun i => { i with b := bs }) m r ls (setB nd a bs) := by
  have hs := setB_same nd a bs
  have hne : ∀ b, G b → b ≠ g → w'.heap[b]? = w.heap[b]? := fun b hb e => hc.block b (h.lt b hb) e
  refine ⟨mod_wf2 h.wf _ _ (fun _ => rfl) (fun _ _ => hl) (fun _ => Nat.le_refl _), h.nbt, (hne c h.fc (fun e => h.c_ne.2 a ha g hg e)).trans h.blk, (h.map.kept (hne m h.fm (fun e => h.m_ne a ha g hg e))).congr (fun _ => Iff.rfl) (fun b _ => (hs b).1), fun b hb => ?_, h.nodup, chain_congr h.chain (fun b _ => (hs b).2.2.1) (fun b _ => (hs b).2.2.2), ?_, fun b hb => ?_, fun b hb b2 hb2 hab g2 hg2 => ?_, h.fc, h.fm, h.fn, fun b hb g2 hg2 => ?_, fun b hb => Nat.lt_of_lt_of_le (h.lt b hb) hc.size⟩
  · have h1 := (h.nodes b hb).same (hne b (h.fn b hb) (fun e => (h.node_ne hb).2.2 a ha g hg e))
    unfold _root_.Go.Proofs.Ytioloobeakjbeaa.setB
    split
    · exact h1
    · exact h1
  · rw [h.mod_items ha]
    exact List.map_congr_left (fun b _ => (setB_it nd a bs b).symm)
  · rw [(hs b).2.1]
    by_cases e : b = a
    · subst e
      have : (setB nd b bs b).b = bs := by unfold _root_.Go.Proofs.Ytioloobeakjbeaa.setB; rw [if_pos rfl]
      rw [this]; exact ho
    · have : (setB nd a bs b).b = (nd b).b := by unfold _root_.Go.Proofs.Ytioloobeakjbeaa.setB; rw [if_neg e]
      rw [this]
      exact own_same (h.own b hb) (fun g2 hg2 => hne g2 (h.fb b hb g2 hg2) (fun e2 => h.apart b hb a ha e g2 hg2 (by rw [e2]; exact hg)))
  · rw [(hs b).2.1] at hg2
    rw [(hs b2).2.1]
    exact h.apart b hb b2 hb2 hab g2 hg2
  · rw [(hs b).2.1] at hg2
    exact h.fb b hb g2 hg2
theorem mod_last {C : Ca} {nb : Nat} (h : C.Wf nb) {Y : List It} {i : It} (e : C.L = Y ++ [i]) (f : It → It) : C.mod i.n f = C.last f := by
  have hu := h.uniq
  rw [e, List.map_append] at hu
  have hd := (List.nodup_append.1 hu).2.2
  have : C.L.map (fun j => if j.n = i.n then f j else j) = modLast f C.L := by
    rw [e, modLast_snoc, List.map_append]
    congr 1
    · conv => rhs; rw [← List.map_id Y]
      refine List.map_congr_left (fun j hj => ?_)
      rw [if_neg (fun e2 => hd j.n (List.mem_map_of_mem hj) i.n (by simp) e2)]; rfl
    · simp
  unfold Ca.mod Ca.last
  rw [this]
theorem mod_mod {C : Ca} (n : Nat) (f g : It → It) (hf : ∀ i, (f i).n = i.n) : (C.mod n f).mod n g = C.mod n (g ∘ f) := by
  unfold Ca.mod
  simp only [List.map_map, Ca.mk.injEq, true_and, and_true]
  refine List.map_congr_left (fun i _ => ?_)
  simp only [Function.comp]
  by_cases e : i.n = n
  · rw [if_pos e, if_pos e, if_pos ((hf i).trans e)]
  · rw [if_neg e, if_neg e, if_neg e]
theorem CaAt.pin (h : CaAt w G c p nb C m r ls nd) {a k : Nat} (ha : a ∈ ls) (hk : k ≤ C.hits + C.misses) :
    CaAt (w.setCell ⟨a, 3, none⟩ (.int .i64 (k : Int))) G c p nb (C.mod (nd a).n fun i => { i with pins := k }) m r ls (setK nd a k) := by
  refine h.node (Chg.setCell _ _ _ (List.mem_cons_of_mem _ ha)) (h.nodes.setK (List.mem_cons_of_mem _ ha) k) (setK_same nd a k) ?_ ?_ rfl rfl rfl rfl
  · have hm := Ca.mod_wf h.wf (nd a).n (fun i => { i with pins := 0 }) (fun _ => rfl) (fun _ => rfl) (fun _ => Nat.zero_le _)
    have he : ∀ j ∈ (C.mod (nd a).n fun i => { i with pins := k }).L, ∃ i ∈ C.L, j.n = i.n ∧ j.b = i.b ∧ j.pins ≤ C.hits + C.misses := fun j hj => by
      obtain ⟨i, hi, e⟩ := List.mem_map.1 hj
      refine ⟨i, hi, ?_⟩
      rw [← e]
      split
      · exact ⟨rfl, rfl, hk⟩
      · exact ⟨rfl, rfl, h.wf.pins i hi⟩
    have hmn : (C.mod (nd a).n fun i => { i with pins := k }).L.map It.n = C.L.map It.n := by
      simp only [Ca.mod, List.map_map]
      refine List.map_congr_left (fun i _ => ?_)
      simp only [Function.comp]
      split <;> rfl
    refine ⟨hm.pos, hm.top, by simpa [Ca.mod] using h.wf.few, by rw [hmn]; exact h.wf.uniq, fun j hj => ?_, fun j hj => ?_, fun j hj => ?_⟩
    · obtain ⟨i, hi, e, _⟩ := he j hj; rw [e]; exact h.wf.lt i hi
    · obtain ⟨i, hi, _, e, _⟩ := he j hj; rw [e]; exact h.wf.len i hi
    · obtain ⟨i, hi, _, _, e⟩ := he j hj; exact e
  · rw [h.mod_items ha]
    exact List.map_congr_left (fun b _ => (setK_it nd a k b).symm)
end

set_option maxHeartbeats 1600000 in
set_option maxRecDepth 100000 in
theorem pin_any (F G : Nat → Prop) (c p : Nat) (S : St) (C : Ca) (n : Int) (w : World) (h : Cc w F G c p S C) (hx : S.writes < 1099511627776) (hu : C.hits + C.misses < 1099511627776) (hev : C.evicted < 1099511627776) :
    Calls Try.prog 29 #[.pointer (some ⟨c, 0, none⟩), .int .i64 n] w fun e w' => e = .returned (.int .i64 (pin S C n).e) ∧ CTo F G c p w w' (pin S C n).S (pin S C n).C := by
  have hwf := h.wf
  obtain ⟨m, r, ls, nd, h⟩ := h
  have c0 := h.ca.c0
  have HU := useR_any F G c p S C m r ls nd n w h hx hu hev
  have HUU : Hid _ := HU
  have HP : Hid (pin S C n = if (use S C n (S.readE n) (S.readV n)).e ≠ 0 then use S C n (S.readE n) (S.readV n) else ⟨0, (use S C n (S.readE n) (S.readV n)).S, (use S C n (S.readE n) (S.readV n)).C.last fun i => { i with pins := i.pins + 1 }⟩) := (show pin S C n = _ from rfl)
  have HPI : Hid ((use S C n (S.readE n) (S.readV n)).e = 0 → (∀ i ∈ (use S C n (S.readE n) (S.readV n)).C.L, i.pins ≤ C.hits + C.misses) ∧ (use S C n (S.readE n) (S.readV n)).C.hits + (use S C n (S.readE n) (S.readV n)).C.misses = C.hits + C.misses + 1) := (show _ → _ from fun he => ⟨hit_pins hwf.2 he, (use_ok hwf.2.uniq he).1⟩)
  generalize use S C n (S.readE n) (S.readV n) = R at *
  have hmf : ∀ (fn : Fn) (first cap : Array Value) (w : World), (Instr.makeFunc fn first cap).run Try.prog w = .ok (.func fn first cap) w := fun _ _ _ _ => rfl
  clear h HU hwf
  go_enter Try.func29, Try.ntmps29
  go_wp2_with fail
  refine (show Calls _ _ _ _ _ from HUU.out).mono ?_
  clear HUU c0
  rintro e w1 ⟨F1, G1, m1, r1, g1, ⟨he, rfl, ls1, nd1, k1⟩ | ⟨he, ys, a, nd1, rfl, k1⟩⟩
  · have he0 : (R.e == 0) = false := by simpa using he
    have HK : Hid (Ck w1 F1 G1 c p R.S R.C m1 r1 ls1 nd1 ∧ Gr F G w w1 F1 G1) := ⟨k1, g1⟩
    clear k1 g1
    go_wp2
    go_ret
    rw [HP.out, if_pos he]
    exact ⟨rfl, F1, G1, ⟨_, _, _, _, HK.out.1⟩, HK.out.2⟩
  · have hal : a ∈ ys ++ [a] := by simp
    have hN := k1.ca.nodes a (List.mem_cons_of_mem _ hal)
    have a3 := hN.c3
    have f3 := hN.fr 3
    have hpi := (HPI.out he).1 _ (k1.ca.mem hal)
    have hk3 : (nd1 a).k < 1099511627776 := Nat.lt_of_le_of_lt hpi hu
    have HK : Hid (Ck w1 F1 G1 c p R.S R.C m1 r1 (ys ++ [a]) nd1 ∧ Gr F G w w1 F1 G1 ∧ R.e = 0 ∧ (nd1 a).k + 1 ≤ R.C.hits + R.C.misses) := ⟨k1, g1, he, by rw [(HPI.out he).2]; exact Nat.succ_le_succ hpi⟩
    clear k1 g1 he hal hN hpi hu hev hx
    go_wp2
    go_ret
    obtain ⟨k1, g1, he, hk⟩ := HK.out
    have hal : a ∈ ys ++ [a] := by simp
    have hp := k1.ca.pin (k := (nd1 a).k + 1) hal hk
    have hcs : Chg (fun b => b ∈ r1 :: (ys ++ [a])) w1 (w1.setCell ⟨a, 3, none⟩ (.int .i64 (((nd1 a).k + 1 : Nat) : Int))) := Chg.setCell _ _ _ (List.mem_cons_of_mem _ hal)
    have hfn := k1.ca.fn
    have hL : R.C.L = (ys.map fun b => (nd1 b).it) ++ [(nd1 a).it] := by rw [k1.ca.items]; simp
    have hC : (R.C.mod (nd1 a).n fun i => { i with pins := (nd1 a).k + 1 }) = R.C.last fun i => { i with pins := i.pins + 1 } := by
      rw [show (nd1 a).n = (nd1 a).it.n from rfl, mod_last k1.ca.wf hL]
      unfold Ca.last
      rw [hL, modLast_snoc, modLast_snoc]
      rfl
    rw [hC] at hp
    rw [HP.out, if_neg (by rw [he]; decide)]
    exact ⟨rfl, F1, G1, ⟨_, _, _, _, k1.dk.kept hcs (fun b hf hm => k1.no b hf (hfn b hm)), hp, k1.no⟩, g1.trans (Gr.chgG (hcs.mono (fun b _ hm => hfn b hm)))⟩
end Go.Proofs.Ytioloobeakjbeaa
