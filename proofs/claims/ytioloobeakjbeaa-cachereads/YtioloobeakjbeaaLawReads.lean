/-
  CacheReads answers true.
-/
import Derived.Test.YtioloobeakjbeaaNums
import Derived.Test.YtioloobeakjbeaaReadsPure
import Derived.Test.YtioloobeakjbeaaActs
namespace Go.Proofs.Ytioloobeakjbeaa
open Go.RowKit Go.Maps
attribute [local go_sem ↓] Go.wp_at_zero Go.wp_at_succ

theorem full_nil' : full [] = zeros 512 := by
  unfold full zeros
  rw [List.eq_replicate_iff]
  refine ⟨by simp, fun b hb => ?_⟩
  obtain ⟨j, _, rfl⟩ := List.mem_map.1 hb
  simp
/-- Block q is an array of 6 strings. -/
def Arr6 (W : World) (q : Nat) (T : Nat → ByteArray) : Prop := ∃ cs : Array Value, W.heap[q]? = some (.cells cs 59 (0, 0)) ∧ cs.size = 6 ∧ ∀ n, n < 6 → cs[n]? = some (.string (T n))
theorem Arr6.cell {W : World} {q : Nat} {T : Nat → ByteArray} (h : Arr6 W q T) {n : Nat} (hn : n < 6) : W.cell? ⟨q, n, none⟩ = some (.string (T n)) ∧ W.frozen? ⟨q, n, none⟩ = false := by
  obtain ⟨cs, h1, h2, h3⟩ := h
  exact ⟨by rw [cell_of_row W q n _ _ _ h1]; exact h3 n hn, by simp [World.frozen?, h1]⟩
theorem Arr6.lt {W : World} {q : Nat} {T : Nat → ByteArray} (h : Arr6 W q T) : q < W.heap.size := by
  obtain ⟨cs, h1, _⟩ := h
  exact (Array.getElem?_eq_some_iff.1 h1).1
theorem Arr6.kept {E : Nat → Prop} {W W' : World} {q : Nat} {T : Nat → ByteArray} (h : Arr6 W q T) (hc : Chg E W W') (hE : ¬ E q) : Arr6 W' q T := by
  have hl := h.lt
  obtain ⟨cs, h1, h2⟩ := h
  exact ⟨cs, (hc.block q hl hE).trans h1, h2⟩
theorem Arr6.set {W : World} {q : Nat} {T : Nat → ByteArray} (h : Arr6 W q T) {n : Nat} (hn : n < 6) (t : ByteArray) : Arr6 (W.setCell ⟨q, n, none⟩ (.string t)) q (upd T n t) := by
  obtain ⟨cs, h1, h2, h3⟩ := h
  refine ⟨_, heap_setCell_same W q n _ _ (.string t) h1, by simpa using h2, fun k hk => ?_⟩
  by_cases e : k = n
  · subst e
    rw [upd_same, Array.getElem?_setIfInBounds, if_pos rfl, if_pos (by rw [h2]; exact hk)]
  · rw [upd_other _ _ e, Array.getElem?_setIfInBounds, if_neg (fun e2 => e e2.symm)]
    exact h3 k hk
theorem Arr6.new (w : World) (t : ByteArray) : Arr6 (w.alloc (.cells #[.string t, .string t, .string t, .string t, .string t, .string t] 59)) w.heap.size (fun _ => t) := by
  refine ⟨_, heap_alloc_new w _, rfl, fun n hn => ?_⟩
  have h : n = 0 ∨ n = 1 ∨ n = 2 ∨ n = 3 ∨ n = 4 ∨ n = 5 := by omega
  rcases h with rfl | rfl | rfl | rfl | rfl | rfl <;> rfl
/-- The array, apart from the disk and the cache. -/
structure Side6 (F G : Nat → Prop) (W : World) (q : Nat) (T : Nat → ByteArray) : Prop where
  arr : Arr6 W q T
  f : ¬ F q
  g : ¬ G q
theorem Side6.to {F G F' G' : Nat → Prop} {W W' : World} {q : Nat} {T : Nat → ByteArray} (h : Side6 F G W q T) (k : Gr F G W W' F' G') : Side6 F' G' W' q T := by
  have hl := h.arr.lt
  refine ⟨h.arr.kept k.chg (fun e => ?_), fun e => ?_, fun e => ?_⟩
  · rcases e with e | e
    · exact h.f e
    · exact h.g e
  · rcases k.f q e with e | e
    · exact h.f e
    · omega
  · rcases k.g q e with e | e
    · exact h.g e
    · omega
theorem side6_set {F G : Nat → Prop} {w W : World} {q c p n : Nat} {T : Nat → ByteArray} {S : St} {C : Ca} (hq : w.heap.size ≤ q) (h : Cc W F G c p S C) (hn : Nw F G w W) (hs : Side6 F G W q T) (hn6 : n < 6) (t : ByteArray) :
    Cc (W.setCell ⟨q, n, none⟩ (.string t)) F G c p S C ∧ Nw F G w (W.setCell ⟨q, n, none⟩ (.string t)) ∧ Side6 F G (W.setCell ⟨q, n, none⟩ (.string t)) q (upd T n t) := by
  have hc : Chg (fun b => b = q) W (W.setCell ⟨q, n, none⟩ (.string t)) := Chg.setCell _ _ _ rfl
  refine ⟨h.kept hc (fun b hb e => ?_), ⟨hn.chg.trans hc (fun i hi e => by omega), hn.f⟩, hs.arr.set hn6 t, hs.f, hs.g⟩
  subst e
  rcases hb with e | e
  · exact hs.f e
  · exact hs.g e
open Reads
/-- The strings that are wanted. -/
def Str (T : Nat → ByteArray) (W : Nat → List Int) : Prop := ∀ n, n < 6 → T n = strOf (W n)
theorem Str.set {T : Nat → ByteArray} {W : Nat → List Int} (h : Str T W) (n : Nat) (b : List Int) : Str (upd T n (strOf b)) (upd W n b) := fun k hk => by
  by_cases e : k = n
  · subst e; rw [upd_same, upd_same]
  · rw [upd_other _ _ e, upd_other _ _ e]; exact h k hk

set_option maxHeartbeats 6400000 in
set_option maxRecDepth 100000 in
theorem law_reads (sz : Int) (v : Value) (l : List ActD) (w : World) (hv : Acts w v l) : Calls Try.prog 4 #[.int .i64 sz, v] w fun e w' => e = .returned (.bool true) ∧ Chg (fun _ => False) w w' := by
  obtain ⟨va, vc, hvf⟩ := hv.form
  subst hvf
  have HV : Hid (Acts w (.slice va l.length vc) l) := hv
  clear hv
  go_enter Try.func4, Try.ntmps4
  go_wp2_with fail
  refine (known_any w).mono ?_
  rintro e w0 ⟨rfl, hc0⟩
  have HC0 : Hid (Chg (fun _ => False) w w0) := hc0
  clear hc0
  go_wp2_with fail
  refine (few_any _ l w0 (HV.out.kept HC0.out)).mono ?_
  rintro e w0' ⟨rfl, rfl⟩
  by_cases hbad : fewA l = false ∨ sz < 1 ∨ 100 < sz
  · cases hf : fewA l with
    | false =>
      clear hbad
      go_wp2
      go_ret
      exact ⟨rfl, HC0.out⟩
    | true =>
      by_cases b1 : sz < 1
      · have k1 : decide (sz < 1) = true := by simpa using b1
        clear hbad b1
        go_wp2
        go_ret
        exact ⟨rfl, HC0.out⟩
      have k1 : decide (sz < 1) = false := by simpa using b1
      have k2 : decide (100 < sz) = true := by
        rcases hbad with e | e | e
        · rw [hf] at e; cases e
        · exact absurd e b1
        · simpa using e
      clear hbad b1
      go_wp2
      go_ret
      exact ⟨rfl, HC0.out⟩
  have hf : fewA l = true := by
    cases e : fewA l with
    | true => rfl
    | false => exact absurd (.inl e) hbad
  have hsz1 : ¬ sz < 1 := fun e => hbad (.inr (.inl e))
  have hsz2 : ¬ 100 < sz := fun e => hbad (.inr (.inr e))
  have hfew : l.length ≤ 150 ∧ ∀ d ∈ l, d.bs.length ≤ 512 := by
    simp [fewA] at hf
    refine ⟨hf.1, fun d hd => ?_⟩
    have := hf.2 d hd
    simp [ActD.few] at this
    exact this.1
  have hl150 := hfew.1
  have HFW : Hid (∀ d ∈ l, d.bs.length ≤ 512) := hfew.2
  rw [hf]
  clear hbad hf hfew
  obtain ⟨size, rfl⟩ := Int.eq_ofNat_of_zero_le (show 0 ≤ sz by omega)
  have k1 : decide ((size : Int) < 1) = false := by simp; omega
  have k2 : decide (100 < (size : Int)) = false := by simp; omega
  have hs1 : 0 < size := by omega
  have hs2 : size ≤ 100 := by omega
  clear hsz1 hsz2
  go_wp2_with fail
  refine (new_ok 6 w0' (by decide) (by decide)).mono ?_
  rintro e w1 ⟨F, p, rfl, h1, hc1, hF⟩
  have H1 : Hid (Dk w1 F p (St.new 6) ∧ Chg (fun _ => False) w0' w1 ∧ ∀ b, F b → w0'.heap.size ≤ b) := ⟨h1, hc1, hF⟩
  clear h1 hc1 hF k1 k2
  go_wp2_with fail
  refine (cnew_ok p size 6 w1 hs1 (by omega) (by decide)).mono ?_
  rintro e w2 ⟨c, G, m, r, nd, rfl, h2, hc2, hG⟩
  have h20 := Cc.start H1.out.1 H1.out.2.1 H1.out.2.2 h2 hc2 hG
  have hs0 := HC0.out.size
  have H2 : Hid (Cc w2 F G c p (St.new 6) (Ca.new size) ∧ Nw F G w w2) := ⟨h20.1, HC0.out.trans h20.2.chg (fun _ _ h => h), fun b hb => by have := h20.2.f b hb; omega⟩
  have hq := eq32_some' ⟨c, 0, none⟩
  clear h2 hc2 hG H1 h20 hs0
  obtain ⟨w3, hw3⟩ : ∃ w3, w2.alloc (.cells #[.string ⟨#[]⟩, .string ⟨#[]⟩, .string ⟨#[]⟩, .string ⟨#[]⟩, .string ⟨#[]⟩, .string ⟨#[]⟩] 59) = w3 := ⟨_, rfl⟩
  have H3 : Hid (Cc w3 F G c p (St.new 6) (Ca.new size) ∧ Nw F G w w3 ∧ Side6 F G w3 w2.heap.size (fun _ => ⟨#[]⟩)) := by
    have hc : Chg (fun _ => False) w2 w3 := by rw [← hw3]; exact Chg.alloc _ _ _
    refine ⟨H2.out.1.kept hc (fun _ _ h => h), H2.out.2.more hc, by rw [← hw3]; exact Arr6.new w2 _, fun e => ?_, fun e => ?_⟩
    · have := H2.out.1.lt _ (.inl e); omega
    · have := H2.out.1.lt _ (.inr e); omega
  obtain ⟨q, hqq⟩ : ∃ q, w2.heap.size = q := ⟨_, rfl⟩
  have HQ : Hid (w.heap.size ≤ q) := (show w.heap.size ≤ q by rw [← hqq]; exact H2.out.2.chg.size)
  rw [hqq] at H3
  go_wp2_with fail
  clear hw3 H2
  obtain ⟨t0, ht0⟩ : ∃ t, strOf (zeros 512) = t := ⟨_, rfl⟩
  have HT0 : Hid (strOf (zeros 512) = t0) := ht0
  clear ht0
  go_loopg [10] 6 (fun gg x wr => ∃ (i : Nat) (T : Nat → ByteArray), i ≤ 6 ∧ x = .int .i64 (i : Int) ∧ 6 - i ≤ gg ∧ Hid (Cc wr F G c p (St.new 6) (Ca.new size) ∧ Nw F G w wr ∧ Side6 F G wr q T ∧ ∀ n, n < i → T n = t0))
  case atStart => exact ⟨0, _, Nat.zero_le _, rfl, by omega, H3.out.1, H3.out.2.1, H3.out.2.2, fun n hn => absurd hn (Nat.not_lt_zero _)⟩
  case round =>
    clear H3
    obtain ⟨i, T, hi, rfl, hgg, HX⟩ := hrel
    by_cases hlt : i < 6
    · have k1 : decide ((i : Int) < 6) = true := by simp; omega
      have k1' : (i : Int) < 6 := by omega
      go_wp2_with fail
      refine (full_any (.slice none 0 0) [] wr (.inl ⟨rfl, rfl⟩) (by show 0 ≤ _; decide)).mono ?_
      rintro e w4 ⟨u4, rfl, fr4⟩
      have hb4 := fr4.bs
      rw [full_nil'] at hb4
      have s4 : (convert 39 9 u4).run Try.prog w4 = .ok (.string t0) w4 := by rw [← HT0.out]; exact run_str hb4
      have hside : Side6 F G w4 q T := ⟨HX.out.2.2.1.arr.kept fr4.chg (fun h => h), HX.out.2.2.1.f, HX.out.2.2.1.g⟩
      obtain ⟨ac, af⟩ := hside.arr.cell hlt
      have hset := side6_set HQ.out (HX.out.1.kept fr4.chg (fun _ _ h => h)) (HX.out.2.1.more fr4.chg) hside hlt t0
      have H4 : Hid (Cc (w4.setCell ⟨q, i, none⟩ (.string t0)) F G c p (St.new 6) (Ca.new size) ∧ Nw F G w (w4.setCell ⟨q, i, none⟩ (.string t0)) ∧ Side6 F G (w4.setCell ⟨q, i, none⟩ (.string t0)) q (upd T i t0)) := hset
      clear fr4 hb4 hside hset
      generalize T i = old at *
      go_wp2
      go_roundg (6 - (i + 1))
      case measure => omega
      case rel =>
        refine ⟨i + 1, upd T i t0, by omega, by go_num, Nat.le_refl _, H4.out.1, H4.out.2.1, H4.out.2.2, fun n hn => ?_⟩
        by_cases e : n = i
        · rw [e, upd_same]
        · rw [upd_other _ _ e]; exact HX.out.2.2.2 n (by omega)
    · have hie : i = 6 := by omega
      subst hie
      have hstr : Str T (fun _ => zeros 512) := fun n hn => by rw [HX.out.2.2.2 n hn, HT0.out]
      have HS : Hid (Str T (fun _ => zeros 512)) := hstr
      clear hstr
      go_wp2_with fail
      go_loopg [11, 12, 13, 14] (l.length) (fun gg x _ _ _ wr => ∃ (j : Nat) (F G : Nat → Prop) (S : St) (C : Ca) (T : Nat → ByteArray) (W : Nat → List Int), j ≤ l.length ∧ x = .int .i64 (j : Int) ∧ l.length - j ≤ gg ∧ Hid (Cc wr F G c p S C ∧ Nw F G w wr ∧ Inv size W S C ∧ Side6 F G wr q T ∧ Str T W ∧ C.hits + C.misses ≤ 2 * j ∧ C.evicted ≤ 2 * j ∧ S.writes ≤ 2 * j))
      case atStart => exact ⟨0, F, G, _, _, T, _, Nat.zero_le _, rfl, by omega, HX.out.1, HX.out.2.1, Inv.new, HX.out.2.2.1, HS.out, Nat.le_refl _, Nat.le_refl _, Nat.le_refl _⟩
      case round =>
        clear HX HS
        obtain ⟨j, F, G, S, C, T, W, hj, rfl, hgg, HX⟩ := hrel
        by_cases hlt : j < l.length
        · have k1 : decide ((j : Int) < (l.length : Int)) = true := by simp; omega
          have k1' : (j : Int) < (l.length : Int) := by omega
          obtain ⟨vb, vo, hva, hat⟩ := (HV.out.kept HX.out.2.1.chg).at hlt
          subst hva
          obtain ⟨d, hd⟩ : ∃ d, l[j] = d := ⟨_, rfl⟩
          rw [hd] at hat
          have hdm : d ∈ l := by rw [← hd]; exact List.getElem_mem hlt
          have hbl := HFW.out d hdm
          have cn := hat.n
          have co := hat.op
          have cb := hat.bc
          have HAT : Hid (ActAt wr vb (vo + j * 4) d) := hat
          have HDJ : Hid (l[j] = d) := hd
          clear hat hd hdm
          by_cases hn0 : d.n < 0
          · have q0 : decide (d.n < 0) = true := by simpa using hn0
            generalize d.n = dn at *
            go_wp2
            go_roundg (l.length - (j + 1))
            case measure => omega
            case rel => exact ⟨j + 1, F, G, S, C, T, W, by omega, by go_num, Nat.le_refl _, HX.out.1, HX.out.2.1, HX.out.2.2.1, HX.out.2.2.2.1, HX.out.2.2.2.2.1, by have := HX.out.2.2.2.2.2; omega, by have := HX.out.2.2.2.2.2; omega, by have := HX.out.2.2.2.2.2; omega⟩
          have q0 : decide (d.n < 0) = false := by simpa using hn0
          by_cases hn6 : 6 ≤ d.n
          · have q1 : decide (6 ≤ d.n) = true := by simpa using hn6
            generalize d.n = dn at *
            go_wp2
            go_roundg (l.length - (j + 1))
            case measure => omega
            case rel => exact ⟨j + 1, F, G, S, C, T, W, by omega, by go_num, Nat.le_refl _, HX.out.1, HX.out.2.1, HX.out.2.2.1, HX.out.2.2.2.1, HX.out.2.2.2.2.1, by have := HX.out.2.2.2.2.2; omega, by have := HX.out.2.2.2.2.2; omega, by have := HX.out.2.2.2.2.2; omega⟩
          have q1 : decide (6 ≤ d.n) = false := by simpa using hn6
          obtain ⟨k, hk⟩ := Int.eq_ofNat_of_zero_le (show 0 ≤ d.n by omega)
          have hk6 : k < 6 := by omega
          rw [hk] at cn q0 q1
          clear hn0 hn6
          by_cases ho2 : d.op = 2
          · rw [ho2] at co
            have hb := HX.out.2.2.2.2.2
            go_wp2_with fail
            refine (full_any d.bv d.bs wr HAT.out.bs (by omega)).mono ?_
            rintro e w4 ⟨u4, rfl, fr4⟩
            obtain ⟨ua, uc, rfl, hu⟩ := fr4.form
            have N4 := HX.out.1.full (Chg.refl _ wr) fr4
            obtain ⟨S1, C1, hput, hinv1⟩ := HX.out.2.2.1.put HX.out.1.wf.2 hk6 (full_len d.bs)
            have hpf1 := put_full (S := S) (C := C) ((k : Nat) : Int) (full d.bs) HX.out.1.wf.1 HX.out.1.wf.2
            rw [hput] at hpf1
            have HP : Hid (_root_.Go.Proofs.Ytioloobeakjbeaa.put S C k (full d.bs) = ⟨0, S1, C1⟩ ∧ Inv size (upd W k (full d.bs)) S1 C1 ∧ Good S C 1 ⟨0, S1, C1⟩) := ⟨hput, hinv1, hpf1⟩
            have hat4 := HAT.out.kept fr4.chg
            have cb4 := hat4.bc
            have H4 : Hid (Cc w4 F G c p S C ∧ Bs w4 (.slice ua 512 uc) (full d.bs) ∧ (∀ g, (Value.slice ua 512 uc).ownBlock = some g → ¬ F g ∧ ¬ G g) ∧ Nw F G w w4 ∧ Side6 F G w4 q T) := ⟨N4.1, N4.2.1, N4.2.2.1, HX.out.2.1.more N4.2.2.2, HX.out.2.2.2.1.arr.kept N4.2.2.2 (fun h => h), HX.out.2.2.2.1.f, HX.out.2.2.2.1.g⟩
            clear fr4 N4 hput hinv1 hpf1 hat4 cb
            go_wp2_with fail
            refine (put_any F G c p S C k _ (full d.bs) w4 H4.out.1 H4.out.2.1 H4.out.2.2.1 (by omega) (by omega) (by omega)).mono ?_
            rintro e w5 ⟨rfl, F5, G5, h5, g5⟩
            rw [HP.out.1] at h5 ⊢
            have hat5 := (HV.out.kept (H4.out.2.2.2.1.to g5).chg)
            have H5 : Hid (Cc w5 F5 G5 c p S1 C1 ∧ Nw F5 G5 w w5 ∧ Side6 F5 G5 w5 q T) := ⟨h5, H4.out.2.2.2.1.to g5, H4.out.2.2.2.2.to g5⟩
            obtain ⟨vb2, vo2, hva2, hatt⟩ := hat5.at hlt
            simp at hva2
            obtain ⟨hvb2, hvo2⟩ := hva2
            subst hvb2 hvo2
            have hbs5 : ActAt w5 vb (vo + j * 4) d := by
              rw [HDJ.out] at hatt; exact hatt
            have cb5 := hbs5.bc
            have HB5 : Hid (Bs w5 d.bv d.bs) := hbs5.bs
            clear h5 g5 hat5 hatt hbs5 cb4 hu
            go_wp2_with fail
            refine (full_any d.bv d.bs w5 HB5.out (by omega)).mono ?_
            rintro e w6 ⟨u6, rfl, fr6⟩
            obtain ⟨tb, htb⟩ : ∃ t, strOf (full d.bs) = t := ⟨_, rfl⟩
            have s6 : (convert 39 9 u6).run Try.prog w6 = .ok (.string tb) w6 := by rw [← htb]; exact run_str fr6.bs
            have hside : Side6 F5 G5 w6 q T := ⟨H5.out.2.2.arr.kept fr6.chg (fun h => h), H5.out.2.2.f, H5.out.2.2.g⟩
            obtain ⟨ac, af⟩ := hside.arr.cell hk6
            have hset := side6_set HQ.out (H5.out.1.kept fr6.chg (fun _ _ h => h)) (H5.out.2.1.more fr6.chg) hside hk6 tb
            have hstr2 := HX.out.2.2.2.2.1.set k (full d.bs)
            rw [htb] at hstr2
            have hk6i : (k : Int) < 6 := by omega
            obtain ⟨wY, hwY⟩ : ∃ wY, w6.setCell ⟨q, k, none⟩ (.string tb) = wY := ⟨_, rfl⟩
            obtain ⟨TY, hTY⟩ : ∃ TY, upd T k tb = TY := ⟨_, rfl⟩
            obtain ⟨WY, hWY⟩ : ∃ WY, upd W k (full d.bs) = WY := ⟨_, rfl⟩
            rw [hTY, hWY] at hstr2
            rw [hwY, hTY] at hset
            have hgd := HP.out.2.2
            have hinvY := HP.out.2.1
            rw [hWY] at hinvY
            have HY : Hid (Cc wY F5 G5 c p S1 C1 ∧ Nw F5 G5 w wY ∧ Inv size WY S1 C1 ∧ Side6 F5 G5 wY q TY ∧ Str TY WY ∧ C1.hits + C1.misses ≤ 2 * j + 1 ∧ C1.evicted ≤ 2 * j + 1 ∧ S1.writes ≤ 2 * j + 1) :=
              ⟨hset.1, hset.2.1, hinvY, hset.2.2, hstr2, by have := hgd.uses; simp at this; omega, by have := hgd.ev; simp at this; omega, by have := hgd.writes; simp at this; omega⟩
            generalize T k = old at *
            clear fr6 hside hset hstr2 hgd hinvY HP H5 H4 HX htb
            go_wp2_with fail
            clear hwY s6 ac af cb5 co cn
            generalize F5 = FY at *
            generalize G5 = GY at *
            generalize S1 = SY at *
            generalize C1 = CY at *
            obtain ⟨S', C', hget, hgb, hinv⟩ := HY.out.2.2.1.get HY.out.1.wf.2 hk6
            have hpf := get_full (S := SY) (C := CY) ((k : Nat) : Int) HY.out.1.wf.1 HY.out.1.wf.2
            rw [hget] at hpf
            have HG : Hid (_root_.Go.Proofs.Ytioloobeakjbeaa.get SY CY k = ⟨0, S', C'⟩ ∧ getB SY CY k = WY k ∧ Inv size WY S' C' ∧ Good SY CY 1 ⟨0, S', C'⟩) := ⟨hget, hgb, hinv, hpf⟩
            have hbY := HY.out.2.2.2.2.2
            clear hget hgb hinv hpf
            go_wp2_with fail
            refine (get_any FY GY c p SY CY k wY HY.out.1 (by omega) (by omega) (by omega)).mono ?_
            rintro e w7 ⟨ux, F7, G7, rfl, h7, g7, b7, _⟩
            rw [HG.out.1] at h7 ⊢
            rw [HG.out.2.1] at b7
            have side7 := HY.out.2.2.2.1.to g7
            have H7 : Hid (Cc w7 F7 G7 c p S' C' ∧ Nw F7 G7 w w7 ∧ Side6 F7 G7 w7 q TY) := ⟨h7, HY.out.2.1.to g7, side7⟩
            obtain ⟨t, ht⟩ : ∃ t, TY k = t := ⟨_, rfl⟩
            have htW : strOf (WY k) = t := by rw [← ht]; exact (HY.out.2.2.2.2.1 k hk6).symm
            have s1 : (convert 39 9 ux).run Try.prog w7.drew = .ok (.string t) w7.drew := by rw [← htW]; exact run_str (w := w7.drew) b7
            have s2 : w7.drew.cell? ⟨q, k, none⟩ = some (.string t) := by rw [← ht]; exact (side7.arr.cell hk6).1
            obtain ⟨m7, r7, ls7, nd7, hck7⟩ := h7
            have HHD : Hid (Calls Try.prog 18 #[.pointer (some ⟨c, 0, none⟩)] w7.drew fun e w8 => ∃ a8 cp8 Z8, e = .returned (.slice a8 Z8 cp8) ∧ Z8 ≤ size ∧ (convert 39 9 ux).run Try.prog w8 = .ok (.string t) w8 ∧ w8.cell? ⟨q, k, none⟩ = some (.string t) ∧ Hid (Chg (fun _ => False) w7 w8)) := by
              have cd := Chg.drew (fun _ => False) w7
              refine (held_any G7 c p S'.nb C' m7 r7 ls7 nd7 w7.drew (hck7.ca.kept cd (fun _ _ h => h))).mono ?_
              rintro e w8 ⟨v8, rfl, ho8, hc8⟩
              obtain ⟨a8, cp8, hv8⟩ := own_slice ho8
              have c78 := cd.trans hc8 (fun _ _ h => h)
              have hle := held_le hck7.ca.wf
              have hsz : C'.size = size := HG.out.2.2.1.size
              refine ⟨a8, cp8, _, by rw [hv8], by rw [← hsz]; exact hle, ?_, ?_, c78⟩
              · rw [← htW]; exact run_str (b7.kept c78 (fun _ _ _ _ _ h => h))
              · rw [← ht]; exact ((side7.arr.kept c78 (fun h => h)).cell hk6).1
            have hk6i : (k : Int) < 6 := by omega
            clear g7 b7 side7 hck7 ht htW
            go_wp2_with fail
            go_region_held (fun w' => (convert 39 9 ux).run Try.prog w' = .ok (.string t) w' ∧ w'.cell? ⟨q, k, none⟩ = some (.string t))
              (first | assumption | exact ⟨s1, s2⟩ | exact ⟨z2, z3⟩)
              (first | (go_at_call 18; refine HHD.out.mono ?_; clear HHD; rintro e w8 ⟨a8, cp8, Z8, rfl, z1, z2, z3, HC8⟩))
            all_goals
              have q8 : decide ((size : Int) < (Z8 : Int)) = false := by simp; omega
              clear s1 s2 z2 z3
              go_wp2
              go_roundg (l.length - (j + 1))
              case measure => omega
              case rel =>
                have g8 := HG.out.2.2.2
                have c78 : Chg (fun _ => False) w7 w8 := HC8.out
                refine ⟨j + 1, F7, G7, S', C', TY, WY, by omega, by go_num, Nat.le_refl _, H7.out.1.kept c78 (fun _ _ h => h), H7.out.2.1.more c78, HG.out.2.2.1, ⟨H7.out.2.2.arr.kept c78 (fun h => h), H7.out.2.2.f, H7.out.2.2.g⟩, HY.out.2.2.2.2.1, ?_, ?_, ?_⟩
                · have := g8.uses; simp at this; omega
                · have := g8.ev; simp at this; omega
                · have := g8.writes; simp at this; omega
          · have q2 : (d.op == 2) = false := by simpa using ho2
            have hb := HX.out.2.2.2.2.2
            have HY : Hid (Cc wr F G c p S C ∧ Nw F G w wr ∧ Inv size W S C ∧ Side6 F G wr q T ∧ Str T W ∧ C.hits + C.misses ≤ 2 * j + 1 ∧ C.evicted ≤ 2 * j + 1 ∧ S.writes ≤ 2 * j + 1) := ⟨HX.out.1, HX.out.2.1, HX.out.2.2.1, HX.out.2.2.2.1, HX.out.2.2.2.2.1, by omega, by omega, by omega⟩
            clear HX
            generalize d.op = dop at *
            go_wp2_with fail
            clear co cn cb
            generalize F = FY at *
            generalize G = GY at *
            generalize S = SY at *
            generalize C = CY at *
            generalize T = TY at *
            generalize W = WY at *
            generalize wr = wY at *
            obtain ⟨S', C', hget, hgb, hinv⟩ := HY.out.2.2.1.get HY.out.1.wf.2 hk6
            have hpf := get_full (S := SY) (C := CY) ((k : Nat) : Int) HY.out.1.wf.1 HY.out.1.wf.2
            rw [hget] at hpf
            have HG : Hid (_root_.Go.Proofs.Ytioloobeakjbeaa.get SY CY k = ⟨0, S', C'⟩ ∧ getB SY CY k = WY k ∧ Inv size WY S' C' ∧ Good SY CY 1 ⟨0, S', C'⟩) := ⟨hget, hgb, hinv, hpf⟩
            have hbY := HY.out.2.2.2.2.2
            clear hget hgb hinv hpf
            go_wp2_with fail
            refine (get_any FY GY c p SY CY k wY HY.out.1 (by omega) (by omega) (by omega)).mono ?_
            rintro e w7 ⟨ux, F7, G7, rfl, h7, g7, b7, _⟩
            rw [HG.out.1] at h7 ⊢
            rw [HG.out.2.1] at b7
            have side7 := HY.out.2.2.2.1.to g7
            have H7 : Hid (Cc w7 F7 G7 c p S' C' ∧ Nw F7 G7 w w7 ∧ Side6 F7 G7 w7 q TY) := ⟨h7, HY.out.2.1.to g7, side7⟩
            obtain ⟨t, ht⟩ : ∃ t, TY k = t := ⟨_, rfl⟩
            have htW : strOf (WY k) = t := by rw [← ht]; exact (HY.out.2.2.2.2.1 k hk6).symm
            have s1 : (convert 39 9 ux).run Try.prog w7.drew = .ok (.string t) w7.drew := by rw [← htW]; exact run_str (w := w7.drew) b7
            have s2 : w7.drew.cell? ⟨q, k, none⟩ = some (.string t) := by rw [← ht]; exact (side7.arr.cell hk6).1
            obtain ⟨m7, r7, ls7, nd7, hck7⟩ := h7
            have HHD : Hid (Calls Try.prog 18 #[.pointer (some ⟨c, 0, none⟩)] w7.drew fun e w8 => ∃ a8 cp8 Z8, e = .returned (.slice a8 Z8 cp8) ∧ Z8 ≤ size ∧ (convert 39 9 ux).run Try.prog w8 = .ok (.string t) w8 ∧ w8.cell? ⟨q, k, none⟩ = some (.string t) ∧ Hid (Chg (fun _ => False) w7 w8)) := by
              have cd := Chg.drew (fun _ => False) w7
              refine (held_any G7 c p S'.nb C' m7 r7 ls7 nd7 w7.drew (hck7.ca.kept cd (fun _ _ h => h))).mono ?_
              rintro e w8 ⟨v8, rfl, ho8, hc8⟩
              obtain ⟨a8, cp8, hv8⟩ := own_slice ho8
              have c78 := cd.trans hc8 (fun _ _ h => h)
              have hle := held_le hck7.ca.wf
              have hsz : C'.size = size := HG.out.2.2.1.size
              refine ⟨a8, cp8, _, by rw [hv8], by rw [← hsz]; exact hle, ?_, ?_, c78⟩
              · rw [← htW]; exact run_str (b7.kept c78 (fun _ _ _ _ _ h => h))
              · rw [← ht]; exact ((side7.arr.kept c78 (fun h => h)).cell hk6).1
            have hk6i : (k : Int) < 6 := by omega
            clear g7 b7 side7 hck7 ht htW
            go_wp2_with fail
            go_region_held (fun w' => (convert 39 9 ux).run Try.prog w' = .ok (.string t) w' ∧ w'.cell? ⟨q, k, none⟩ = some (.string t))
              (first | assumption | exact ⟨s1, s2⟩ | exact ⟨z2, z3⟩)
              (first | (go_at_call 18; refine HHD.out.mono ?_; clear HHD; rintro e w8 ⟨a8, cp8, Z8, rfl, z1, z2, z3, HC8⟩))
            all_goals
              have q8 : decide ((size : Int) < (Z8 : Int)) = false := by simp; omega
              clear s1 s2 z2 z3
              go_wp2
              go_roundg (l.length - (j + 1))
              case measure => omega
              case rel =>
                have g8 := HG.out.2.2.2
                have c78 : Chg (fun _ => False) w7 w8 := HC8.out
                refine ⟨j + 1, F7, G7, S', C', TY, WY, by omega, by go_num, Nat.le_refl _, H7.out.1.kept c78 (fun _ _ h => h), H7.out.2.1.more c78, HG.out.2.2.1, ⟨H7.out.2.2.arr.kept c78 (fun h => h), H7.out.2.2.f, H7.out.2.2.g⟩, HY.out.2.2.2.2.1, ?_, ?_, ?_⟩
                · have := g8.uses; simp at this; omega
                · have := g8.ev; simp at this; omega
                · have := g8.writes; simp at this; omega
        · have hje : j = l.length := by omega
          subst hje
          have k1 : decide ((l.length : Int) < (l.length : Int)) = false := by simp
          obtain ⟨S1, hfe, hp1, hnb1, hlast1, hwt1, hwr1⟩ := HX.out.2.2.1.flush HX.out.1.wf.1 HX.out.1.wf.2
          have hb := HX.out.2.2.2.2.2
          have HF : Hid (flush S C = ⟨0, S1, C.clean⟩ ∧ Pw S1 ∧ S1.nb = 6 ∧ (∀ n, n < 6 → S1.last n = W n) ∧ S1.waiting = 0 ∧ S1.writes ≤ 1000) := ⟨hfe, hp1, hnb1, hlast1, hwt1, by omega⟩
          clear hfe hp1 hnb1 hlast1 hwt1 hwr1
          go_wp2_with fail
          refine (flush_any F G c p S C wr HX.out.1 (by omega)).mono ?_
          rintro e w4 ⟨rfl, F4, G4, h4, g4⟩
          rw [HF.out.1] at h4 ⊢
          have H4 : Hid (Cc w4 F4 G4 c p S1 C.clean ∧ Nw F4 G4 w w4 ∧ Side6 F4 G4 w4 q T ∧ Str T W) := ⟨h4, HX.out.2.1.to g4, HX.out.2.2.2.1.to g4, HX.out.2.2.2.2.1⟩
          clear h4 g4 HX hb
          go_wp2_with fail
          go_loopg [16, 17, 18] 6 (fun gg x _ _ wr => ∃ n : Nat, n ≤ 6 ∧ x = .int .i64 (n : Int) ∧ 6 - n ≤ gg ∧ Hid (Chg (fun _ => False) w4 wr))
          case atStart => exact ⟨0, Nat.zero_le _, rfl, by omega, (show Chg (fun _ => False) w4 w4 from Chg.refl _ _)⟩
          case round =>
            obtain ⟨n, hn, rfl, hgg, HC⟩ := hrel
            by_cases hlt : n < 6
            · have k1 : decide ((n : Int) < 6) = true := by simp; omega
              have k1' : (n : Int) < 6 := by omega
              have hre := HF.out.2.1.readE (n := n) (by rw [HF.out.2.2.1]; exact hlt)
              have hrv := HF.out.2.1.readV (n := n) (by rw [HF.out.2.2.1]; exact hlt)
              have HR : Hid (S1.readE n = 0 ∧ S1.readV n = W n) := ⟨hre, by rw [hrv]; exact HF.out.2.2.2.1 n hlt⟩
              clear hre hrv
              go_wp2_with fail
              refine (read_any F4 p S1 n wr (H4.out.1.dk.kept HC.out (fun _ _ h => h)) (by have := HF.out.2.2.2.2.2; omega)).mono ?_
              rintro e w5 ⟨u5, rfl, fr5⟩
              rw [HR.out.1]
              rw [HR.out.2] at fr5
              have c45 := HC.out.trans fr5.chg (fun _ _ h => h)
              obtain ⟨t, ht⟩ : ∃ t, T n = t := ⟨_, rfl⟩
              have htW : strOf (W n) = t := by rw [← ht]; exact (H4.out.2.2.2 n hlt).symm
              have s1 : ∀ qq, (convert 39 9 u5).run Try.prog (w5.drewN qq) = .ok (.string t) (w5.drewN qq) := fun qq => by rw [← htW]; exact run_str (w := w5.drewN qq) fr5.bs
              have s2 : w5.cell? ⟨q, n, none⟩ = some (.string t) := by rw [← ht]; exact ((H4.out.2.2.1.arr.kept c45 (fun h => h)).cell hlt).1
              have HC5 : Hid (Chg (fun _ => False) w4 w5) := c45
              clear c45 fr5 ht htW
              go_wp2_with fail
              go_quiet (fail)
              go_wp2
              go_roundg (6 - (n + 1))
              case measure => omega
              case rel => exact ⟨n + 1, by omega, by go_num, Nat.le_refl _, HC5.out.trans (Chg.drewN _ _ _) (fun _ _ h => h)⟩
            · have hne : n = 6 := by omega
              subst hne
              obtain ⟨m6, r6, ls6, nd6, hck⟩ := H4.out.1.kept HC.out (fun _ _ h => h)
              have HK : Hid (Ck wr F4 G4 c p S1 C.clean m6 r6 ls6 nd6) := hck
              have hd0 : C.clean.dirties S1.nb = [] := clean_dirties _
              clear hck
              go_wp2_with fail
              refine (dirty_any G4 c p S1.nb C.clean m6 r6 ls6 nd6 wr HK.out.ca).mono ?_
              rintro e w6 ⟨v6, rfl, ho6, hc6⟩
              rw [hd0] at ho6
              obtain ⟨a6, cp6, hv6⟩ := own_slice ho6
              subst hv6
              have hdk := HK.out.dk.kept hc6 (fun _ _ h => h)
              have H6 : Hid (Dk w6 F4 p S1 ∧ Nw F4 G4 w w6) := ⟨hdk, (H4.out.2.1.more HC.out).more hc6⟩
              clear ho6 hc6 hdk
              go_wp2_with fail
              refine (waiting_any F4 p S1 w6 H6.out.1 (by have := HF.out.2.2.2.2.2; omega)).mono ?_
              rintro e w7 ⟨rfl, hc7⟩
              rw [HF.out.2.2.2.2.1]
              have HE : Hid (Chg (fun _ => False) w w7) := (H6.out.2.more hc7).chg
              clear hc7
              go_wp2
              go_ret
              exact ⟨rfl, HE.out⟩
end Go.Proofs.Ytioloobeakjbeaa
