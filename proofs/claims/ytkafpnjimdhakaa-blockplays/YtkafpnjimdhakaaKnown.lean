/-
  known answers true; nothing that was there has changed.
-/
import Derived.Test.YtkafpnjimdhakaaTwin
import Derived.Deep.RegionHeld
import Derived.Deep.DrawnRows
import Derived.Lib.SlBytesConst
namespace Go.Proofs.Ytkafpnjimdhakaa
open Go.RowKit Go.Maps
attribute [local go_sem ↓] Go.wp_at_zero Go.wp_at_succ

/-- The bytes as a string. -/
def strOf (xs : List Int) : ByteArray := xs.foldl (fun r n => r.push (UInt8.ofNat n.toNat)) ByteArray.empty
theorem run_str {w : World} {u : Value} {xs : List Int} (h : Bs w u xs) : (convert 32 9 u).run Try.prog w = .ok (.string (strOf xs)) w := by
  rcases h with ⟨rfl, rfl⟩ | ⟨a, c, rfl, hl, hm, hcell⟩
  · rw [run_convert_bytes_string w 32 9 5 _ _ _ Try.underlying32 Try.underlying5 Try.underlying9]
    rfl
  · rw [run_convert_bytes_string w 32 9 5 _ _ _ Try.underlying32 Try.underlying5 Try.underlying9]
    refine run_bytesToString w a xs.length c xs ?_
    have h1 := run_loadCells_list (P := Try.prog) w a (bcells xs) (fun j u hu => by obtain ⟨hj, rfl⟩ := bcells_get hu; exact hcell j hj)
    simpa [bcells] using h1

section
variable {A B C : List Int}
theorem write_of {S : St} {n : Nat} {b : List Int} (h0 : S.off = false) (hn : n < S.nb) (hb : b.length = 512) (ha : S.arm < 1) : S.write (n : Int) b = S.wrote n b := by
  unfold St.write
  rw [if_neg (by simp [h0]), if_neg (by simp [St.okW, hb]; omega), if_neg (by omega), Int.toNat_natCast, St.pushed_eq]
  unfold St.struck
  rw [if_pos ha]
def kn1 (A : List Int) : St := (St.new 2).write 1 A
def kn2 (A : List Int) : St := (kn1 A).sync
def kn3 (A B : List Int) : St := (kn2 A).write 1 B
def kn4 (A B C : List Int) : St := (kn3 A B).write 1 C
theorem kn1_eq (hA : A.length = 512) : kn1 A = (St.new 2).wrote 1 A := write_of (n := 1) rfl (by decide) hA (by decide)
theorem kn2_eq (hA : A.length = 512) : kn2 A = ((St.new 2).wrote 1 A).synced := by unfold kn2; rw [kn1_eq hA]; rfl
theorem kn3_eq (hA : A.length = 512) (hB : B.length = 512) : kn3 A B = (((St.new 2).wrote 1 A).synced).wrote 1 B := by unfold kn3; rw [kn2_eq hA]; exact write_of (n := 1) rfl (show 1 < 2 by decide) hB (show (0 : Int) < 1 by decide)
theorem kn4_eq (hA : A.length = 512) (hB : B.length = 512) (hC : C.length = 512) : kn4 A B C = ((((St.new 2).wrote 1 A).synced).wrote 1 B).wrote 1 C := by unfold kn4; rw [kn3_eq hA hB]; exact write_of (n := 1) rfl (show 1 < 2 by decide) hC (show (0 : Int) < 1 by decide)
theorem kn4_wait (hA : A.length = 512) (hB : B.length = 512) (hC : C.length = 512) : (kn4 A B C).wait 0 = [] ∧ (kn4 A B C).wait 1 = [B, C] ∧ (kn4 A B C).syn 1 = A ∧ (kn4 A B C).nb = 2 ∧ (kn4 A B C).off = false ∧ (kn4 A B C).writes = 3 ∧ (kn4 A B C).picks = [] := by
  rw [kn4_eq hA hB hC]
  refine ⟨rfl, rfl, rfl, rfl, rfl, rfl, rfl⟩
theorem cut_one {S : St} (h0 : S.wait 0 = []) (h1 : S.wait 1 = [B, C]) (hn : S.nb = 2) (ho : S.off = false) (q : Int) : (S.cut [q]).syn 1 = S.ver 1 (St.pickN q 2) := by
  have hk : S.keys = [1] := by
    unfold St.keys
    rw [hn]
    simp [List.range, List.range.loop, h0, h1]
  unfold St.cut
  rw [if_neg (by simp [ho]), hk]
  show (S.cutTo [q] [1]).syn 1 = _
  simp [St.cutTo, St.settle, upd_same, h1]
theorem cut_read {S : St} (hw : S.Wf) (hn : S.nb = 2) (ho : S.off = false) (ps : List Int) : (S.cut ps).on.readV 1 = (S.cut ps).syn 1 ∧ (S.cut ps).on.readE 1 = 0 := by
  have hnb : (S.cut ps).on.nb = 2 := by show (S.cut ps).nb = 2; rw [St.cut_nb, hn]
  have e : (S.cut ps).on.readE 1 = 0 := by
    unfold St.readE
    rw [hnb]
    rfl
  refine ⟨?_, e⟩
  unfold St.readV
  rw [if_pos e]
  have hwt : (S.cut ps).on.wait 1 = [] := St.cut_wait hw ps ho 1
  show (S.cut ps).on.last 1 = _
  unfold St.last St.ver
  rw [hwt]
  rfl
end

theorem Dk.wrt {w : World} {F : Nat → Prop} {p : Nat} {S : St} (_h : Dk w F p S) : True := trivial

/-- A one-number slice literal. -/
theorem Is.one (w : World) (x : Int) : Is (w.alloc (.cells #[.int .i64 x] 3)) (.slice (some ⟨w.heap.size, 0, none⟩) 1 1) [x] := by
  refine .inr ⟨⟨w.heap.size, 0, none⟩, 1, rfl, Nat.le_refl _, by simp [maxLen], fun j hj => ?_⟩
  have : j = 0 := by simp at hj; omega
  subst this
  exact cell_one_new w (.int .i64 x) 3 0 _ rfl

theorem eq25_nil (w : World) : (binOp .eql 25 (.pointer none) (.pointer none)).run Try.prog w = .ok (.bool true) w := by kernel_rfl
theorem eq25_some (a : Addr) (w : World) : (binOp .eql 25 (.pointer (some a)) (.pointer none)).run Try.prog w = .ok (.bool false) w := by kernel_rfl

/-- A one-byte literal that was converted. -/
theorem Bs.oneF (w : World) (x : Int) (fr : Nat × Nat) : Bs (w.alloc (.cells #[.int .u8 x] 5 fr)) (.slice (some ⟨w.heap.size, 0, none⟩) 1 1) [x] := by
  refine .inr ⟨⟨w.heap.size, 0, none⟩, 1, rfl, Nat.le_refl _, by simp [maxLen], fun j hj => ?_⟩
  have h0 : j = 0 := by simp at hj; omega
  subst h0
  rw [add_zero_off, cell_of_row _ _ _ _ _ _ (heap_alloc_new w _)]
  rfl

/-- A disk and memory that is no part of it. -/
theorem Bs.off {w : World} {F : Nat → Prop} {p : Nat} {S : St} (h : Dk w F p S) {w0 w' : World} {u : Value} {xs : List Int} (hc : Chg (fun _ => False) w w0) (hu : Fresh w0 w' u xs) : ∀ g, u.ownBlock = some g → ¬ F g := fun g hg hf => by
  have h1 := hu.new g hg
  have h2 := h.lt g hf
  have h3 := hc.size
  omega

theorem Fresh.form {w w' : World} {u : Value} {xs : List Int} (h : Fresh w w' u (full xs)) : ∃ a c, u = .slice a 512 c ∧ 512 ≤ c := by
  obtain ⟨a, c, e, hc⟩ := h.bs.form
  rw [full_len] at e hc
  exact ⟨a, c, e, hc⟩

/-- Behind a literal and Full of it. -/
theorem full_next {w w1 w2 : World} {F : Nat → Prop} {p : Nat} {S : St} {u : Value} {xs : List Int} {o : Obj} (h : Dk w1 F p S) (fr : Fresh (w1.alloc o) w2 u (full xs)) (hc : Chg (fun _ => False) w w1 ∧ ∀ b, F b → w.heap.size ≤ b) :
    Dk w2 F p S ∧ Bs w2 u (full xs) ∧ (∀ g, u.ownBlock = some g → ¬ F g) ∧ Chg (fun _ => False) w w2 ∧ ∀ b, F b → w.heap.size ≤ b := by
  have c1 : Chg (fun _ => False) w1 w2 := (Chg.alloc (fun _ => False) w1 o).trans fr.chg (fun _ _ h => h)
  exact ⟨h.kept c1 (fun _ _ h => h), fr.bs, Bs.off h (Chg.alloc (fun _ => False) w1 o) fr, hc.1.trans c1 (fun _ _ h => h), hc.2⟩
/-- Behind a call of the disk. -/
theorem step_next {w w1 w2 : World} {F : Nat → Prop} {p : Nat} {S : St} (hc : Chg (fun _ => False) w w1 ∧ ∀ b, F b → w.heap.size ≤ b) (h : To F p w1 w2 S) : ∃ F', Dk w2 F' p S ∧ Chg (fun _ => False) w w2 ∧ ∀ b, F' b → w.heap.size ≤ b := by
  obtain ⟨F', h1, h2, h3⟩ := h
  refine ⟨F', h1, hc.1.trans h2 (fun i hi e => by have := hc.2 i e; omega), fun b hb => ?_⟩
  rcases h3 b hb with h | h
  · exact hc.2 b h
  · have := hc.1.size; omega
/-- Two disks apart, both of new memory. -/
structure Two (F G : Nat → Prop) (w w' : World) : Prop where
  chg : Chg (fun _ => False) w w'
  f : ∀ b, F b → w.heap.size ≤ b
  g : ∀ b, G b → w.heap.size ≤ b
  no : ∀ b, F b → ¬ G b
theorem two_start {w w1 w2 : World} {F G : Nat → Prop} {p : Nat} {S : St} (h : Dk w1 F p S) (hc : Chg (fun _ => False) w w1 ∧ ∀ b, F b → w.heap.size ≤ b) (hc2 : Chg (fun _ => False) w1 w2) (hG : ∀ b, G b → w1.heap.size ≤ b) : Two F G w w2 :=
  ⟨hc.1.trans hc2 (fun _ _ h => h), hc.2, fun b hb => Nat.le_trans hc.1.size (hG b hb), fun b hb hg => by have := h.lt b hb; have := hG b hg; omega⟩
/-- Behind memory that was made. -/
theorem Two.more {w w1 w2 : World} {F G : Nat → Prop} (h : Two F G w w1) (hc : Chg (fun _ => False) w1 w2) : Two F G w w2 := ⟨h.chg.trans hc (fun _ _ h => h), h.f, h.g, h.no⟩
/-- Behind a call of the first. -/
theorem Two.left {w w1 w2 : World} {F G : Nat → Prop} {p q : Nat} {S S' T : St} (h : Two F G w w1) (t : Dk w1 G q T) (_d : Dk w1 F p S) (hto : To F p w1 w2 S') : ∃ F', Dk w2 F' p S' ∧ Dk w2 G q T ∧ Two F' G w w2 := by
  obtain ⟨F', h1, h2, h3⟩ := hto
  refine ⟨F', h1, t.kept h2 (fun b hg hf => h.no b hf hg), h.chg.trans h2 (fun i hi e => by have := h.f i e; omega), fun b hb => ?_, h.g, fun b hb hg => ?_⟩
  · rcases h3 b hb with e | e
    · exact h.f b e
    · have := h.chg.size; omega
  · rcases h3 b hb with e | e
    · exact h.no b e hg
    · have := t.lt b hg; omega
theorem Two.swap {w w1 : World} {F G : Nat → Prop} (h : Two F G w w1) : Two G F w w1 := ⟨h.chg, h.g, h.f, fun b hg hf => h.no b hf hg⟩

/-- Behind a literal of one number. -/
theorem lit_next {w w1 : World} {F G : Nat → Prop} {p q : Nat} {S T : St} (x : Int) (d : Dk w1 F p S) (t : Dk w1 G q T) (h : Two F G w w1) :
    Dk (w1.alloc (.cells #[.int .i64 x] 3)) F p S ∧ Dk (w1.alloc (.cells #[.int .i64 x] 3)) G q T ∧ Two F G w (w1.alloc (.cells #[.int .i64 x] 3)) ∧ (∀ g, (Value.slice (some ⟨w1.heap.size, 0, none⟩) 1 1).ownBlock = some g → ¬ F g) ∧ (∀ g, (Value.slice (some ⟨w1.heap.size, 0, none⟩) 1 1).ownBlock = some g → ¬ G g) := by
  have c := Chg.alloc (fun _ => False) w1 (.cells #[.int .i64 x] 3)
  refine ⟨d.kept c (fun _ _ h => h), t.kept c (fun _ _ h => h), h.more c, fun g hg hf => ?_, fun g hg hf => ?_⟩
  · cases hg; have := d.lt _ hf; simp at this
  · cases hg; have := t.lt _ hf; simp at this

/-- Full of one byte, then Write. -/
theorem To.after {F : Nat → Prop} {p : Nat} {w w1 w2 : World} {S2 : St} (hc : Chg (fun _ => False) w w1) (h2 : To F p w1 w2 S2) : To F p w w2 S2 := To.trans (hc.mono (fun _ _ h => h.elim)) (fun _ h => .inl h) h2

/-- What Full of "b" and of "a" find at the end of known: the strings stay what they are. -/
def KnownA (w : World) (ux uy : Value) (tb ta : ByteArray) (e : Ending) (w1 : World) : Prop :=
  ∃ u, e = .returned u ∧ (convert 32 9 u).run Try.prog w1 = .ok (.string tb) w1 ∧ (convert 32 9 ux).run Try.prog w1 = .ok (.string tb) w1 ∧ (convert 32 9 uy).run Try.prog w1 = .ok (.string ta) w1 ∧
    (∀ o, (convert 32 9 ux).run Try.prog (w1.alloc o) = .ok (.string tb) (w1.alloc o)) ∧ (∀ o, (convert 32 9 uy).run Try.prog (w1.alloc o) = .ok (.string ta) (w1.alloc o)) ∧
    Hid (Calls Try.prog 22 #[.slice (some ⟨w1.heap.size, 0, none⟩) 1 1] (w1.alloc (.cells #[.int .u8 97] 5 (1, 2))) fun e w2 => ∃ u, e = .returned u ∧ (convert 32 9 u).run Try.prog w2 = .ok (.string ta) w2 ∧ (convert 32 9 ux).run Try.prog w2 = .ok (.string tb) w2 ∧ (convert 32 9 uy).run Try.prog w2 = .ok (.string ta) w2 ∧ Hid (Chg (fun _ => False) w w2))
theorem known_last {w w16 : World} {ux uy : Value} {A B : List Int} (hc : Chg (fun _ => False) w w16) (bx : Bs w16 ux B) (hby : Bs w16 uy A) (hB : full [98] = B) (hA : full [97] = A) :
    Calls Try.prog 22 #[.slice (some ⟨w16.heap.size, 0, none⟩) 1 1] (w16.drew.alloc (.cells #[.int .u8 98] 5 (1, 2))) (KnownA w ux uy (strOf B) (strOf A)) := by
  refine (full_any _ [98] _ (Bs.oneF w16.drew 98 (1, 2)) (by decide)).mono ?_
  rintro e w1 ⟨u, rfl, fr⟩
  have c0 : Chg (fun _ => False) w16 w1 := ((Chg.drew (fun _ => False) w16).trans (Chg.alloc (fun _ => False) w16.drew _) (fun _ _ h => h)).trans fr.chg (fun _ _ h => h)
  have bx1 := bx.kept c0 (fun _ _ _ _ _ h => h)
  have by1 := hby.kept c0 (fun _ _ _ _ _ h => h)
  have bu := fr.bs
  rw [hB] at bu
  refine ⟨u, rfl, run_str bu, run_str bx1, run_str by1, fun o => run_str (bx1.kept (Chg.alloc (fun _ => False) w1 o) (fun _ _ _ _ _ h => h)), fun o => run_str (by1.kept (Chg.alloc (fun _ => False) w1 o) (fun _ _ _ _ _ h => h)), ?_⟩
  refine (full_any _ [97] _ (Bs.oneF w1 97 (1, 2)) (by decide)).mono ?_
  rintro e w2 ⟨u2, rfl, fr2⟩
  have c2 : Chg (fun _ => False) w1 w2 := (Chg.alloc (fun _ => False) w1 _).trans fr2.chg (fun _ _ h => h)
  have bu2 := fr2.bs
  rw [hA] at bu2
  exact ⟨u2, rfl, run_str bu2, run_str (bx1.kept c2 (fun _ _ _ _ _ h => h)), run_str (by1.kept c2 (fun _ _ _ _ _ h => h)), (hc.trans c0 (fun _ _ h => h)).trans c2 (fun _ _ h => h)⟩

set_option maxHeartbeats 3200000 in
set_option maxRecDepth 100000 in
theorem known_any (w : World) : Calls Try.prog 8 #[] w fun e w' => e = .returned (.bool true) ∧ Chg (fun _ => False) w w' := by
  have hA := full_len [97]
  have hB := full_len [98]
  have hC := full_len [99]
  have HK : Hid ((kn4 (full [97]) (full [98]) (full [99])).wait 0 = [] ∧ (kn4 (full [97]) (full [98]) (full [99])).wait 1 = [full [98], full [99]] ∧ (kn4 (full [97]) (full [98]) (full [99])).syn 1 = full [97] ∧ (kn4 (full [97]) (full [98]) (full [99])).nb = 2 ∧ (kn4 (full [97]) (full [98]) (full [99])).off = false ∧ (kn4 (full [97]) (full [98]) (full [99])).writes = 3 ∧ (kn4 (full [97]) (full [98]) (full [99])).picks = []) := kn4_wait hA hB hC
  have HK4 : Hid ((kn4 (full [97]) (full [98]) (full [99])).Wf) := St.write_wf (St.write_wf (St.sync_wf (St.write_wf (St.new_wf (by decide) (by decide)) _ _)) _ _) _ _
  have HX : Hid ((kn1 (full [97])).writes = 1 ∧ (kn2 (full [97])).writes = 1 ∧ (kn3 (full [97]) (full [98])).writes = 2) := by
    rw [kn3_eq hA hB, kn2_eq hA, kn1_eq hA]
    exact ⟨rfl, rfl, rfl⟩
  clear hA hB hC
  have kc := fun (w : World) (C : Array Value) (n c : Nat) => Lib.run_convert_bytes_const (P := Try.prog) w 32 5 C n c Try.underlying32 Try.underlying5
  go_enter Try.func8, Try.ntmps8
  go_wp2_with fail
  refine (new_ok 2 w (by decide) (by decide)).mono ?_
  rintro e w1 ⟨F, p, rfl, h1, hc1, hF⟩
  have hq := eq25_some ⟨p, 0, none⟩
  have HC1 : Hid (Chg (fun _ => False) w w1 ∧ ∀ b, F b → w.heap.size ≤ b) := ⟨hc1, hF⟩
  have H1 : Hid (Dk w1 F p (St.new 2)) := h1
  clear h1 hc1 hF
  go_wp2_with fail
  -- Write(1, Full("a"))
  refine (full_any _ [97] _ (Bs.oneF w1 97 _) (by decide)).mono ?_
  rintro e w2 ⟨u, rfl, fr⟩
  obtain ⟨ua, uc, rfl, hu⟩ := fr.form
  have N2 := full_next H1.out fr HC1.out
  have H2 : Hid (Dk w2 F p (St.new 2) ∧ Bs w2 (.slice ua 512 uc) (full [97]) ∧ (∀ g, (Value.slice ua 512 uc).ownBlock = some g → ¬ F g) ∧ Chg (fun _ => False) w w2 ∧ ∀ b, F b → w.heap.size ≤ b) := N2
  clear fr H1 HC1 N2
  go_wp2_with fail
  refine (write_any F p (St.new 2) 1 _ (full [97]) w2 H2.out.1 H2.out.2.1 H2.out.2.2.1 (by decide)).mono ?_
  rintro e w3 ⟨rfl, h3⟩
  obtain ⟨F3, H3⟩ := step_next H2.out.2.2.2 h3
  clear H2 h3
  go_wp2_with fail
  -- Sync
  refine (sync_any F3 p (kn1 (full [97])) w3 H3.1 (by rw [HX.out.1]; decide)).mono ?_
  rintro e w4 ⟨rfl, h4⟩
  obtain ⟨F4, H4⟩ := step_next H3.2 h4
  clear H3 h4
  go_wp2_with fail
  -- Write(1, Full("b"))
  refine (full_any _ [98] _ (Bs.oneF w4 98 _) (by decide)).mono ?_
  rintro e w5 ⟨u, rfl, fr⟩
  obtain ⟨ub, ud, rfl, hu⟩ := fr.form
  have N5 := full_next H4.1 fr H4.2
  have H5 : Hid (Dk w5 F4 p (kn2 (full [97])) ∧ Bs w5 (.slice ub 512 ud) (full [98]) ∧ (∀ g, (Value.slice ub 512 ud).ownBlock = some g → ¬ F4 g) ∧ Chg (fun _ => False) w w5 ∧ ∀ b, F4 b → w.heap.size ≤ b) := N5
  clear fr H4 N5
  go_wp2_with fail
  refine (write_any F4 p (kn2 (full [97])) 1 _ (full [98]) w5 H5.out.1 H5.out.2.1 H5.out.2.2.1 (by rw [HX.out.2.1]; decide)).mono ?_
  rintro e w6 ⟨rfl, h6⟩
  obtain ⟨F6, H6⟩ := step_next H5.out.2.2.2 h6
  clear H5 h6
  go_wp2_with fail
  -- Write(1, Full("c"))
  refine (full_any _ [99] _ (Bs.oneF w6 99 _) (by decide)).mono ?_
  rintro e w7 ⟨u, rfl, fr⟩
  obtain ⟨ue, uf, rfl, hu⟩ := fr.form
  have N7 := full_next H6.1 fr H6.2
  have H7 : Hid (Dk w7 F6 p (kn3 (full [97]) (full [98])) ∧ Bs w7 (.slice ue 512 uf) (full [99]) ∧ (∀ g, (Value.slice ue 512 uf).ownBlock = some g → ¬ F6 g) ∧ Chg (fun _ => False) w w7 ∧ ∀ b, F6 b → w.heap.size ≤ b) := N7
  clear fr H6 N7
  go_wp2_with fail
  refine (write_any F6 p (kn3 (full [97]) (full [98])) 1 _ (full [99]) w7 H7.out.1 H7.out.2.1 H7.out.2.2.1 (by rw [HX.out.2.2]; decide)).mono ?_
  rintro e w8 ⟨rfl, h8⟩
  obtain ⟨F8, H8⟩ := step_next H7.out.2.2.2 h8
  clear H7 h8
  go_wp2_with fail
  -- Twin
  have hw8 : (kn4 (full [97]) (full [98]) (full [99])).writes < 1099511627776 := by rw [HK.out.2.2.2.2.2.1]; decide
  refine (twin_any F8 p (kn4 (full [97]) (full [98]) (full [99])) w8 H8.1 hw8 (by rw [HK.out.2.2.2.2.2.2]; decide)).mono ?_
  rintro e w9 ⟨G9, t, rfl, t9, hc9, hG9⟩
  have H9 : Hid (Dk w9 F8 p (kn4 (full [97]) (full [98]) (full [99])) ∧ Dk w9 G9 t (kn4 (full [97]) (full [98]) (full [99])) ∧ Two F8 G9 w w9) :=
    ⟨H8.1.kept hc9 (fun _ _ h => h), t9, two_start H8.1 H8.2 hc9 hG9⟩
  have hq2 := eq25_some ⟨t, 0, none⟩
  clear H8 t9 hc9 hG9 HX
  go_wp2_with fail
  -- d.Cut(1)
  obtain ⟨d0, t0, two0, nf, ng⟩ := lit_next 1 H9.out.1 H9.out.2.1 H9.out.2.2
  refine (cut_any F8 p (kn4 (full [97]) (full [98]) (full [99])) _ [1] _ d0 (Is.one w9 1) nf hw8).mono ?_
  rintro e w10 ⟨rfl, h10⟩
  obtain ⟨F10, d10, t10, two10⟩ := two0.left t0 d0 h10
  have H10 : Hid (Dk w10 F10 p ((kn4 (full [97]) (full [98]) (full [99])).cut [1]) ∧ Dk w10 G9 t (kn4 (full [97]) (full [98]) (full [99])) ∧ Two F10 G9 w w10) := ⟨d10, t10, two10⟩
  clear H9 d0 t0 two0 nf ng h10 d10 t10 two10
  go_wp2_with fail
  -- t.Cut(0)
  obtain ⟨d0, t0, two0, nf, ng⟩ := lit_next 0 H10.out.1 H10.out.2.1 H10.out.2.2
  refine (cut_any G9 t (kn4 (full [97]) (full [98]) (full [99])) _ [0] _ t0 (Is.one w10 0) ng hw8).mono ?_
  rintro e w11 ⟨rfl, h11⟩
  obtain ⟨G11, t11, d11, two11⟩ := two0.swap.left d0 t0 h11
  obtain ⟨S5, hS5⟩ : ∃ S5, (kn4 (full [97]) (full [98]) (full [99])).cut [1] = S5 := ⟨_, rfl⟩
  obtain ⟨T5, hT5⟩ : ∃ T5, (kn4 (full [97]) (full [98]) (full [99])).cut [0] = T5 := ⟨_, rfl⟩
  have HP : Hid (S5.readE 1 = 6 ∧ S5.writes < 1099511627776 ∧ T5.writes < 1099511627776 ∧ S5.on.readV 1 = full [98] ∧ S5.on.readE 1 = 0 ∧ T5.on.readV 1 = full [97] ∧ T5.on.readE 1 = 0) := by
    have k0 := HK.out
    have hwf : (kn4 (full [97]) (full [98]) (full [99])).Wf := HK4.out
    rw [← hS5, ← hT5]
    refine ⟨?_, by rw [St.cut_writes]; exact hw8, by rw [St.cut_writes]; exact hw8, ?_, (cut_read hwf k0.2.2.2.1 k0.2.2.2.2.1 [1]).2, ?_, (cut_read hwf k0.2.2.2.1 k0.2.2.2.2.1 [0]).2⟩
    · unfold St.readE; rw [if_pos (St.cut_off _ _)]
    · rw [(cut_read hwf k0.2.2.2.1 k0.2.2.2.2.1 [1]).1, cut_one k0.1 k0.2.1 k0.2.2.2.1 k0.2.2.2.2.1]
      have : St.pickN 1 2 = 1 := by decide
      rw [this]
      unfold St.ver
      rw [if_neg (by decide), k0.2.1]; rfl
    · rw [(cut_read hwf k0.2.2.2.1 k0.2.2.2.2.1 [0]).1, cut_one k0.1 k0.2.1 k0.2.2.2.1 k0.2.2.2.2.1]
      have : St.pickN 0 2 = 0 := by decide
      rw [this]
      unfold St.ver
      rw [if_pos rfl, k0.2.2.1]
  rw [hS5] at d11
  rw [hT5] at t11
  have H11 : Hid (Dk w11 F10 p S5 ∧ Dk w11 G11 t T5 ∧ Two F10 G11 w w11) := ⟨d11, t11, two11.swap⟩
  clear H10 d0 t0 two0 nf ng h11 t11 d11 two11 HK hS5 hT5 hw8 HK4
  go_wp2_with fail
  -- d.Read(1), without power
  refine (read_any F10 p S5 1 w11 H11.out.1 HP.out.2.1).mono ?_
  rintro e w12 ⟨u12, rfl, fr12⟩
  rw [HP.out.1]
  have H12 : Hid (Dk w12 F10 p S5 ∧ Dk w12 G11 t T5 ∧ Two F10 G11 w w12) := ⟨H11.out.1.kept fr12.chg (fun _ _ h => h), H11.out.2.1.kept fr12.chg (fun _ _ h => h), H11.out.2.2.more fr12.chg⟩
  clear fr12 H11
  go_wp2_with fail
  -- d.On()
  refine (on_any F10 p S5 w12 H12.out.1).mono ?_
  rintro e w13 ⟨rfl, d13, c13⟩
  obtain ⟨F13, d13', t13, two13⟩ := H12.out.2.2.left H12.out.2.1 H12.out.1 (To.own H12.out.1.fp d13 c13)
  have H13 : Hid (Dk w13 F13 p S5.on ∧ Dk w13 G11 t T5 ∧ Two F13 G11 w w13) := ⟨d13', t13, two13⟩
  clear H12 d13 c13 d13' t13 two13
  go_wp2_with fail
  -- t.On()
  refine (on_any G11 t T5 w13 H13.out.2.1).mono ?_
  rintro e w14 ⟨rfl, t14, c14⟩
  obtain ⟨G14, t14', d14, two14⟩ := H13.out.2.2.swap.left H13.out.1 H13.out.2.1 (To.own H13.out.2.1.fp t14 c14)
  have H14 : Hid (Dk w14 F13 p S5.on ∧ Dk w14 G14 t T5.on ∧ Two F13 G14 w w14) := ⟨d14, t14', two14.swap⟩
  clear H13 t14 c14 t14' d14 two14
  go_wp2_with fail
  -- x
  refine (read_any F13 p S5.on 1 w14 H14.out.1 HP.out.2.1).mono ?_
  rintro e w15 ⟨ux, rfl, frx⟩
  rw [HP.out.2.2.2.2.1]
  rw [HP.out.2.2.2.1] at frx
  have H15 : Hid (Dk w15 F13 p S5.on ∧ Dk w15 G14 t T5.on ∧ Two F13 G14 w w15) := ⟨H14.out.1.kept frx.chg (fun _ _ h => h), H14.out.2.1.kept frx.chg (fun _ _ h => h), H14.out.2.2.more frx.chg⟩
  have hbx := frx.bs
  clear frx H14
  go_wp2_with fail
  -- y
  refine (read_any G14 t T5.on 1 w15 H15.out.2.1 HP.out.2.2.1).mono ?_
  rintro e w16 ⟨uy, rfl, fry⟩
  rw [HP.out.2.2.2.2.2.2]
  rw [HP.out.2.2.2.2.2.1] at fry
  have hcw : Chg (fun _ => False) w w16 := H15.out.2.2.chg.trans fry.chg (fun _ _ h => h)
  have bx := hbx.kept fry.chg (fun _ _ _ _ _ h => h)
  have hby := fry.bs
  clear fry H15 hbx HP hq hq2
  generalize St.on S5 = S5o at *
  obtain ⟨tb, qb⟩ : ∃ t, strOf (full [98]) = t := ⟨_, rfl⟩
  obtain ⟨ta, qa⟩ : ∃ t, strOf (full [97]) = t := ⟨_, rfl⟩
  have KN := known_last hcw bx hby rfl rfl
  rw [qb, qa] at KN
  have HL : Hid (Calls Try.prog 22 #[.slice (some ⟨w16.heap.size, 0, none⟩) 1 1] (w16.drew.alloc (.cells #[.int .u8 98] 5 (1, 2))) (KnownA w ux uy tb ta)) := KN
  have s1 : (convert 32 9 ux).run Try.prog w16.drew = .ok (.string tb) w16.drew := qb ▸ run_str (w := w16.drew) bx
  have s2 : (convert 32 9 uy).run Try.prog w16.drew = .ok (.string ta) w16.drew := qa ▸ run_str (w := w16.drew) hby
  have hbo : ∀ o, Bs (w16.alloc o) ux (full [98]) := fun o => bx.kept (Chg.alloc (fun _ => False) w16 o) (fun _ _ _ _ _ h => h)
  have hbp : ∀ o, Bs (w16.alloc o) uy (full [97]) := fun o => hby.kept (Chg.alloc (fun _ => False) w16 o) (fun _ _ _ _ _ h => h)
  have z1 : ∀ o, (convert 32 9 ux).run Try.prog (w16.alloc o).drew = .ok (.string tb) (w16.alloc o).drew := fun o => qb ▸ run_str (w := (w16.alloc o).drew) (hbo o)
  have z2 : ∀ o, (convert 32 9 uy).run Try.prog (w16.alloc o).drew = .ok (.string ta) (w16.alloc o).drew := fun o => qa ▸ run_str (w := (w16.alloc o).drew) (hbp o)
  have kcd : ∀ (C : Array Value) (n c : Nat), (convert 32 32 (.slice (some ⟨w16.heap.size, 0, none⟩) n c)).run Try.prog (w16.alloc (.cells C 5)).drew = .ok (.slice (some ⟨w16.heap.size, 0, none⟩) n c) (w16.alloc (.cells C 5 (C.size, C.size + 1))).drew := fun C n c => kc w16.drew C n c
  clear bx hby KN hcw qa qb hbo hbp
  go_wp2_with fail
  clear hu
  go_region_held (fun w' => (convert 32 9 ux).run Try.prog w' = .ok (.string tb) w' ∧ (convert 32 9 uy).run Try.prog w' = .ok (.string ta) w')
    (first | assumption | exact ⟨s1, s2⟩ | exact ⟨z1 _, z2 _⟩ | exact ⟨x2, x3⟩ | exact ⟨x4 _, x5 _⟩ | exact ⟨y2, y3⟩)
    (first | (go_at_call 22; refine HL.out.mono ?_; clear HL; rintro e w17 ⟨u17, rfl, x1, x2, x3, x4, x5, HM⟩) | (go_at_call 22; refine HM.out.mono ?_; rintro e w18 ⟨u18, rfl, y1, y2, y3, HE⟩))
  all_goals
    go_wp2
    go_ret
    exact ⟨rfl, HE.out⟩
end Go.Proofs.Ytkafpnjimdhakaa
