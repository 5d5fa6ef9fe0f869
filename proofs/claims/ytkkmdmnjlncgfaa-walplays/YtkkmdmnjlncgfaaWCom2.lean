/-
  The contract of Commit of a transaction of package wal.
-/
import Derived.Test.YtkkmdmnjlncgfaaWCommit
namespace Go.Proofs.Ytkkmdmnjlncgfaa
open Go.RowKit Go.Maps

section
variable {F G : Nat → Prop} {pd pl q K : Nat} {S : St} {com own : Nat → Option (List Int)} {pend wrote : Nat} {ov : Value} {live : Bool} {m mt : Nat} {V Vt : Nat → Value}

set_option maxHeartbeats 3200000 in
set_option maxRecDepth 100000 in
theorem commit_any (f : Nat → List Int) (w : World) (h : Tk w F G pd pl q K S com pend true own wrote m V mt Vt) (hcl : Clean S K f) (hoff : S.off = false) (hk : (ks K com).length ≤ 63) (hx : S.writes + 2000 < 1099511627776) (hp : pend < 1099511627776) :
    Calls Try.prog 23 #[.pointer (some ⟨q, 0, none⟩)] w fun e w' => CmTo F G pd pl q K S com pend own wrote m mt Vt f w e w' := by
  have HK : Hid (Tk w F G pd pl q K S com pend true own wrote m V mt Vt) := h
  have HC : Hid (Clean S K f ∧ S.off = false ∧ (ks K com).length ≤ 63) := ⟨hcl, hoff, hk⟩
  have hK := h.lk.top
  have t0 := h.tx.c0
  have c0 := h.lk.lg.c0
  obtain ⟨T, hT⟩ : ∃ T, (ks K (mrg com own)).length = T := ⟨_, rfl⟩
  have HTT : Hid ((ks K (mrg com own)).length = T) := hT
  have TG : Hid (Calls Try.prog 57 #[.pointer (some ⟨q, 0, none⟩)] w fun e w' => e = .returned (.int .i64 (T : Int)) ∧ Chg (fun _ => False) w w') := by
    have := together_any w h
    rw [hT] at this
    exact this
  clear h hcl hk hT
  go_enter_defers Try.func23, Try.ntmps23
  go_wp2_with fail
  refine (isOpen_any w HK.out).mono ?_
  rintro e w0 ⟨rfl, rfl⟩
  go_wp2_with fail
  refine (off_any F pd S w0 HK.out.lk.dk).mono ?_
  rintro e wz ⟨rfl, rfl⟩
  rw [hoff]
  go_wp2_with fail
  refine TG.out.mono ?_
  rintro e w1 ⟨rfl, hc1⟩
  clear TG t0 c0
  by_cases hT63 : T ≤ 63
  · have k63 : ¬ ((63 : Int) < (T : Int)) := by omega
    obtain ⟨F1, hF1⟩ : ∃ F1, F1 = F := ⟨_, rfl⟩
    obtain ⟨S1, hS1⟩ : ∃ S1, S1 = S := ⟨_, rfl⟩
    obtain ⟨com1, hcom1⟩ : ∃ com1, com1 = com := ⟨_, rfl⟩
    obtain ⟨pend1, hpend1⟩ : ∃ pend1, pend1 = pend := ⟨_, rfl⟩
    obtain ⟨V1, hV1⟩ : ∃ V1, V1 = V := ⟨_, rfl⟩
    have HT : Hid (Tk w1 F1 G pd pl q K S1 com1 pend1 true own wrote m V1 mt Vt) := by
      rw [hF1, hS1, hcom1, hpend1, hV1]; exact HK.out.kept hc1
    have hp1 : pend1 < 1099511627776 := by omega
    have HF : Hid (∀ w' V', Tk w' F1 G pd pl q K S1 (mrg com1 own) (pend1 + 1) false (fun _ => none) wrote m V' mt Vt → Chg (fun b => b = pl ∨ b = m ∨ b = mt) w1 w' → CmTo F G pd pl q K S com pend own wrote m mt Vt f wz (.returned (.int .i64 0)) w') := by
      intro w' V' htk hch
      rw [hF1, hS1, hcom1, hpend1] at htk
      refine .inl ⟨F, S, V', mrg com own, pend + 1, rfl, htk, hc1.trans' (hch.mono (fun _ _ h => .inr h)), fun b hb => .inl hb, (Onw.refl HC.out.1.wf HC.out.2.1).mono (by omega), .inl ⟨rfl, rfl, rfl, ?_⟩⟩
      rw [HTT.out]; exact hT63
    have hT : Hid (Tk w1 F1 G pd pl q K S1 com1 pend1 true own wrote m V1 mt Vt ∧ True) := ⟨HT.out, trivial⟩
    clear hc1 hF1 hS1 hcom1 hpend1 hV1 HK HC HTT HT hp
    have HT := hT
    clear hT

    have HN : Hid (∀ n b, own n = some b → n < K) := fun n b hb => (HT.out.1.tx.mb.row n b hb).1
    have HL : Hid ((∀ b, F1 b → b < w1.heap.size) ∧ ∀ b, G b → b < w1.heap.size) := ⟨HT.out.1.lk.dk.lt, HT.out.1.lk.lg.lt⟩
    have t1 := HT.out.1.tx.c1
    have hmap := HT.out.1.tx.mb.map
    go_wp2_with (at_range; refine wpList_range_isB _ rfl (.tmp 31) rfl mt K (vf own Vt) rfl hmap ?_; intro w2 cnt0 hrg0 hg0 hs0)
    go_frame
    have REL0 : Hid (Rng w2 mt w1.heap.size K (vf own Vt) (fun n => (vf own Vt n).isSome) cnt0 ∧ Tk w2 F1 G pd pl q K S1 (mrgG com1 own fun n => (vf own Vt n).isSome) pend1 true own wrote m (valG own V1 Vt fun n => (vf own Vt n).isSome) mt Vt ∧ Chg (fun b => b = m) w1 w2) := by
      rw [mrgG_start, valG_start]
      exact ⟨hrg0, HT.out.1.kept (Chg.of_none hg0), (Chg.of_none hg0).mono (fun _ _ h => h.elim)⟩
    clear hmap hrg0 hg0 hs0 t1 HT
    go_loopw [5, 6] (fun _ _ wr => ∃ g cnt, Hid (Rng wr mt w1.heap.size K (vf own Vt) g cnt ∧ Tk wr F1 G pd pl q K S1 (mrgG com1 own g) pend1 true own wrote m (valG own V1 Vt g) mt Vt ∧ Chg (fun b => b = m) w1 wr)) (fun _ _ wr => wr.rangeLeft mt w1.heap.size)
    case atStart => exact ⟨_, _, REL0⟩
    case round =>
      clear REL0
      obtain ⟨g, cnt, HR⟩ := hrel
      have hform := HR.out.2.1.formT
      have hrg := HR.out.1
      go_wp2_with (first
        | (at_next; refine wpList_next_sl _ rfl (.tmp 32) rfl mt w1.heap.size K (vf own Vt) g cnt (fun _ => 512) hK rfl hrg hform ?_ ?_)
        | go_in)
      · intro hdone
        have tk := HR.out.2.1
        rw [mrgG_end hdone HN.out] at tk
        have c2 := tk.lk.lg.c2
        have fr2 := tk.lk.lg.fr 2
        have hcs : Chg (fun b => b = pl) wr (wr.setCell ⟨pl, 2, none⟩ (.int .i64 ((pend1 : Int) + 1))) := Chg.setCell _ _ _ rfl
        have tk3 : Tk (wr.setCell ⟨pl, 2, none⟩ (.int .i64 ((pend1 : Int) + 1))) F1 G pd pl q K S1 (mrg com1 own) (pend1 + 1) true own wrote m (valG own V1 Vt g) mt Vt := by
          refine ⟨tk.lk.restruct hcs ?_, tk.tx.beside tk.lk.lg tk.ne (hcs.mono (fun _ _ h => .inl h)), tk.ne⟩
          have := heap_setCell_same wr pl 2 _ 76 (.int .i64 ((pend1 : Int) + 1)) tk.lk.lg.blk
          simpa using this
        have H3 : Hid (Tk (wr.setCell ⟨pl, 2, none⟩ (.int .i64 ((pend1 : Int) + 1))) F1 G pd pl q K S1 (mrg com1 own) (pend1 + 1) true own wrote m (valG own V1 Vt g) mt Vt ∧ Chg (fun b => b = pl ∨ b = m) w1 (wr.setCell ⟨pl, 2, none⟩ (.int .i64 ((pend1 : Int) + 1)))) :=
          ⟨tk3, (HR.out.2.2.mono (fun _ _ h => .inr h)).trans hcs (fun _ _ h => .inl h)⟩
        clear hform hrg HR tk hcs tk3
        go_wp2
        refine leaves_cons (f := 49) (args := #[.pointer (some ⟨q, 0, none⟩)]) (by simp) (by simp [go_sem]) ?_
        refine (end_d .returning _ H3.out.1).mono ?_
        rintro e u' w4 ⟨rfl, rfl, h1, h2⟩
        exact ⟨_, results_tmp (t := 2) rfl _ _ _, HF.out w4 _ h1 ((H3.out.2.mono (fun _ _ h => by rcases h with h | h; exact .inl h; exact .inr (.inl h))).trans h2 (fun _ _ h => by rcases h with h | h; exact .inl h; exact .inr (.inr h)))⟩
      · intro n x c w3 cnt2 hn hgn hf hrg2 hlt2 hg2 hs2 hen
        have hl := hrg.left
        have tk2 := HR.out.2.1.keptE (Chg.of_grown hg2) (fun b hb e => by have := HL.out.1 b hb; omega) (fun b hb e => by have := HL.out.2 b hb; omega)
        have c1 := tk2.lk.lg.c1
        obtain ⟨b, hb, hv⟩ : ∃ b, own n = some b ∧ Vt n = .slice x 512 c := by
          unfold vf at hf
          split at hf
          · rename_i hs
            obtain ⟨b, hb⟩ := Option.isSome_iff_exists.1 hs
            injection hf with hf
            exact ⟨b, hb, hf⟩
          · cases hf
        obtain ⟨w4, hrun, hm4, hg4, hz4⟩ := tk2.lk.lg.mb.map.storeB hK hn (.slice x 512 c)
        have hch4 := Chg.of_grown hg4
        have tk4 := tk2.moved hb hch4 (by rw [hv]; exact hm4)
        rw [mrgG_step hb, valG_step hb] at tk4
        obtain ⟨ita, itb, itc, itd, hit⟩ := hrg2.obj
        obtain ⟨es, cl, hom⟩ := tk2.lk.lg.mb.map.obj
        have hrg4 : Rng w4 mt w1.heap.size K (vf own Vt) (upd g n false) cnt2 := hrg2.kept (hch4.block mt hrg2.map.lt tk2.ne) (hch4.block _ hrg2.lt (fun e => by rw [e, hom] at hit; cases hit))
        have H4 : Hid (Rng w4 mt w1.heap.size K (vf own Vt) (upd g n false) cnt2 ∧ Tk w4 F1 G pd pl q K S1 (mrgG com1 own (upd g n false)) pend1 true own wrote m (valG own V1 Vt (upd g n false)) mt Vt ∧ Chg (fun b => b = m) w1 w4) :=
          ⟨hrg4, tk4, (HR.out.2.2.trans (Chg.of_grown hg2) (fun i hi e => by omega)).trans hch4 (fun _ _ h => h)⟩
        have hl4 := hrg4.left
        clear hform hf hs2 hrg HR hg2 tk2 hrg2 hm4 hg4 hz4 hch4 tk4 hrg4 hit hom hb hv
        go_wp2
        go_roundw
        case rel => exact ⟨_, cnt2, H4⟩
        case measure => rw [hl4, hl]; exact hlt2
  · have k63 : (63 : Int) < (T : Int) := by omega
    have LS : Hid (Calls Try.prog 17 #[.pointer (some ⟨pl, 0, none⟩)] w1 fun e w' => SyTo F G pd pl K S com pend (ovOf true q) m V f w1 e w') := lsync_any f w1 (HK.out.kept hc1).lk HC.out.1 HC.out.2.1 HC.out.2.2 hx
    have HC1 : Hid (Chg (fun _ => False) wz w1) := hc1
    clear hc1
    go_wp2_with fail
    refine LS.out.mono ?_
    rintro e w5 hsy
    clear LS
    rcases hsy with ⟨F5, S5, rfl, hk5, hc5, hf5, hon5, hcl5⟩ | ⟨F5, S5, rfl, hk5, hc5, hf5, hgo5, hla5⟩
    rotate_left
    · have tk5 := (HK.out.kept HC1.out).sync hk5 (hc5.mono (fun _ _ h => .inl h))
      have H5 : Hid (Tk w5 F5 G pd pl q K S5 com pend true own wrote m V mt Vt ∧ ∀ w', Tk w' F5 G pd pl q K S5 com pend false (fun _ => none) wrote m V mt Vt → Chg (fun b => b = pl ∨ b = mt) w5 w' → CmTo F G pd pl q K S com pend own wrote m mt Vt f wz (.returned (.int .i64 6)) w') := by
        refine ⟨tk5, fun w' htk hch => .inr ⟨F5, S5, V, rfl, htk, ?_, fun b hb => ?_, hgo5, ?_, hla5⟩⟩
        · exact HC1.out.trans' ((hc5.mono (fun _ _ h => .inl h)).trans hch (fun _ _ h => by rcases h with h | h; exact .inr (.inl h); exact .inr (.inr (.inr h))))
        · have := HC1.out.size
          rcases hf5 b hb with h | h
          · exact .inl h
          · exact .inr (by omega)
        · rw [HTT.out]; omega
      clear hk5 hc5 hf5 hgo5 hla5 tk5 HK HC HTT
      go_wp2
      refine leaves_cons (f := 49) (args := #[.pointer (some ⟨q, 0, none⟩)]) (by simp) (by simp [go_sem]) ?_
      refine (end_d .returning _ H5.out.1).mono ?_
      rintro e u' w4 ⟨rfl, rfl, h1, h2⟩
      exact ⟨_, results_tmp (t := 2) rfl _ _ _, H5.out.2 w4 h1 h2⟩
    have tk5 := (HK.out.kept HC1.out).sync hk5 hc5
    obtain ⟨com1, hcom1⟩ : ∃ com1 : Nat → Option (List Int), com1 = fun _ => none := ⟨_, rfl⟩
    obtain ⟨pend1, hpend1⟩ : ∃ pend1 : Nat, pend1 = 0 := ⟨_, rfl⟩
    have HT : Hid (Tk w5 F5 G pd pl q K S5 com1 pend1 true own wrote m V mt Vt ∧ True) := by rw [hcom1, hpend1]; exact ⟨tk5, trivial⟩
    have HF : Hid (∀ w' V', Tk w' F5 G pd pl q K S5 (mrg com1 own) (pend1 + 1) false (fun _ => none) wrote m V' mt Vt → Chg (fun b => b = pl ∨ b = m ∨ b = mt) w5 w' → CmTo F G pd pl q K S com pend own wrote m mt Vt f wz (.returned (.int .i64 0)) w') := by
      intro w' V' htk hch
      rw [hcom1, hpend1] at htk
      have e0 : mrg (fun _ => none) own = own := by funext n; unfold mrg; cases own n <;> simp
      rw [e0] at htk
      refine .inl ⟨F5, S5, V', own, 1, rfl, htk, ?_, fun b hb => ?_, hon5, .inr ⟨rfl, rfl, hcl5, ?_⟩⟩
      · exact HC1.out.trans' ((hc5.mono (fun _ _ h => by rcases h with h | h | h; exact .inl h; exact .inr (.inl h); exact .inr (.inr (.inl h)))).trans hch (fun _ _ h => .inr h))
      · have := HC1.out.size
        rcases hf5 b hb with h | h
        · exact .inl h
        · exact .inr (by omega)
      · rw [HTT.out]; omega
    have hp1 : pend1 < 1099511627776 := by omega
    clear hk5 hc5 hf5 hon5 hcl5 tk5 HK HC HTT hcom1 hpend1 HC1
    obtain ⟨F1, hF1⟩ : ∃ F1, F5 = F1 := ⟨_, rfl⟩
    obtain ⟨S1, hS1⟩ : ∃ S1, S5 = S1 := ⟨_, rfl⟩
    obtain ⟨V1, hV1⟩ : ∃ V1, V = V1 := ⟨_, rfl⟩
    subst hF1 hS1 hV1

    have HN : Hid (∀ n b, own n = some b → n < K) := fun n b hb => (HT.out.1.tx.mb.row n b hb).1
    have HL : Hid ((∀ b, F5 b → b < w5.heap.size) ∧ ∀ b, G b → b < w5.heap.size) := ⟨HT.out.1.lk.dk.lt, HT.out.1.lk.lg.lt⟩
    have t1 := HT.out.1.tx.c1
    have hmap := HT.out.1.tx.mb.map
    go_wp2_with (at_range; refine wpList_range_isB _ rfl (.tmp 31) rfl mt K (vf own Vt) rfl hmap ?_; intro w2 cnt0 hrg0 hg0 hs0)
    go_frame
    have REL0 : Hid (Rng w2 mt w5.heap.size K (vf own Vt) (fun n => (vf own Vt n).isSome) cnt0 ∧ Tk w2 F5 G pd pl q K S5 (mrgG com1 own fun n => (vf own Vt n).isSome) pend1 true own wrote m (valG own V Vt fun n => (vf own Vt n).isSome) mt Vt ∧ Chg (fun b => b = m) w5 w2) := by
      rw [mrgG_start, valG_start]
      exact ⟨hrg0, HT.out.1.kept (Chg.of_none hg0), (Chg.of_none hg0).mono (fun _ _ h => h.elim)⟩
    clear hmap hrg0 hg0 hs0 t1 HT
    go_loopw [5, 6] (fun _ _ wr => ∃ g cnt, Hid (Rng wr mt w5.heap.size K (vf own Vt) g cnt ∧ Tk wr F5 G pd pl q K S5 (mrgG com1 own g) pend1 true own wrote m (valG own V Vt g) mt Vt ∧ Chg (fun b => b = m) w5 wr)) (fun _ _ wr => wr.rangeLeft mt w5.heap.size)
    case atStart => exact ⟨_, _, REL0⟩
    case round =>
      clear REL0
      obtain ⟨g, cnt, HR⟩ := hrel
      have hform := HR.out.2.1.formT
      have hrg := HR.out.1
      go_wp2_with (first
        | (at_next; refine wpList_next_sl _ rfl (.tmp 32) rfl mt w5.heap.size K (vf own Vt) g cnt (fun _ => 512) hK rfl hrg hform ?_ ?_)
        | go_in)
      · intro hdone
        have tk := HR.out.2.1
        rw [mrgG_end hdone HN.out] at tk
        have c2 := tk.lk.lg.c2
        have fr2 := tk.lk.lg.fr 2
        have hcs : Chg (fun b => b = pl) wr (wr.setCell ⟨pl, 2, none⟩ (.int .i64 ((pend1 : Int) + 1))) := Chg.setCell _ _ _ rfl
        have tk3 : Tk (wr.setCell ⟨pl, 2, none⟩ (.int .i64 ((pend1 : Int) + 1))) F5 G pd pl q K S5 (mrg com1 own) (pend1 + 1) true own wrote m (valG own V Vt g) mt Vt := by
          refine ⟨tk.lk.restruct hcs ?_, tk.tx.beside tk.lk.lg tk.ne (hcs.mono (fun _ _ h => .inl h)), tk.ne⟩
          have := heap_setCell_same wr pl 2 _ 76 (.int .i64 ((pend1 : Int) + 1)) tk.lk.lg.blk
          simpa using this
        have H3 : Hid (Tk (wr.setCell ⟨pl, 2, none⟩ (.int .i64 ((pend1 : Int) + 1))) F5 G pd pl q K S5 (mrg com1 own) (pend1 + 1) true own wrote m (valG own V Vt g) mt Vt ∧ Chg (fun b => b = pl ∨ b = m) w5 (wr.setCell ⟨pl, 2, none⟩ (.int .i64 ((pend1 : Int) + 1)))) :=
          ⟨tk3, (HR.out.2.2.mono (fun _ _ h => .inr h)).trans hcs (fun _ _ h => .inl h)⟩
        clear hform hrg HR tk hcs tk3
        go_wp2
        refine leaves_cons (f := 49) (args := #[.pointer (some ⟨q, 0, none⟩)]) (by simp) (by simp [go_sem]) ?_
        refine (end_d .returning _ H3.out.1).mono ?_
        rintro e u' w4 ⟨rfl, rfl, h1, h2⟩
        exact ⟨_, results_tmp (t := 2) rfl _ _ _, HF.out w4 _ h1 ((H3.out.2.mono (fun _ _ h => by rcases h with h | h; exact .inl h; exact .inr (.inl h))).trans h2 (fun _ _ h => by rcases h with h | h; exact .inl h; exact .inr (.inr h)))⟩
      · intro n x c w3 cnt2 hn hgn hf hrg2 hlt2 hg2 hs2 hen
        have hl := hrg.left
        have tk2 := HR.out.2.1.keptE (Chg.of_grown hg2) (fun b hb e => by have := HL.out.1 b hb; omega) (fun b hb e => by have := HL.out.2 b hb; omega)
        have c1 := tk2.lk.lg.c1
        obtain ⟨b, hb, hv⟩ : ∃ b, own n = some b ∧ Vt n = .slice x 512 c := by
          unfold vf at hf
          split at hf
          · rename_i hs
            obtain ⟨b, hb⟩ := Option.isSome_iff_exists.1 hs
            injection hf with hf
            exact ⟨b, hb, hf⟩
          · cases hf
        obtain ⟨w4, hrun, hm4, hg4, hz4⟩ := tk2.lk.lg.mb.map.storeB hK hn (.slice x 512 c)
        have hch4 := Chg.of_grown hg4
        have tk4 := tk2.moved hb hch4 (by rw [hv]; exact hm4)
        rw [mrgG_step hb, valG_step hb] at tk4
        obtain ⟨ita, itb, itc, itd, hit⟩ := hrg2.obj
        obtain ⟨es, cl, hom⟩ := tk2.lk.lg.mb.map.obj
        have hrg4 : Rng w4 mt w5.heap.size K (vf own Vt) (upd g n false) cnt2 := hrg2.kept (hch4.block mt hrg2.map.lt tk2.ne) (hch4.block _ hrg2.lt (fun e => by rw [e, hom] at hit; cases hit))
        have H4 : Hid (Rng w4 mt w5.heap.size K (vf own Vt) (upd g n false) cnt2 ∧ Tk w4 F5 G pd pl q K S5 (mrgG com1 own (upd g n false)) pend1 true own wrote m (valG own V Vt (upd g n false)) mt Vt ∧ Chg (fun b => b = m) w5 w4) :=
          ⟨hrg4, tk4, (HR.out.2.2.trans (Chg.of_grown hg2) (fun i hi e => by omega)).trans hch4 (fun _ _ h => h)⟩
        have hl4 := hrg4.left
        clear hform hf hs2 hrg HR hg2 tk2 hrg2 hm4 hg4 hz4 hch4 tk4 hrg4 hit hom hb hv
        go_wp2
        go_roundw
        case rel => exact ⟨_, cnt2, H4⟩
        case measure => rw [hl4, hl]; exact hlt2
end
end Go.Proofs.Ytkkmdmnjlncgfaa
