/-
  Where a number of a file stands: what field and entry of package file make, and what the closures in them do.
-/
import Derived.Test.YtnnaemlipahamaaGreatFLoad
import Derived.Laws.EntriesVeiled
namespace Go.Proofs.YtnnaemlipahamaaGreat
open Go.RowKit Go.Maps

/-- A spot as a value. -/
abbrev spV (fi wi : Int) (g s : Value) : Value := .agg #[.int .i64 fi, .int .i64 wi, g, s]
abbrev spO (fi wi : Int) (g s : Value) : Obj := .cells #[.int .i64 fi, .int .i64 wi, g, s] 113
/-- The closures of a number in the node. -/
abbrev gF (b : Nat) : Value := .func (.func 128) #[] #[.pointer (some ⟨b, 0, none⟩)]
abbrev sF (b : Nat) : Value := .func (.func 129) #[] #[.pointer (some ⟨b, 0, none⟩)]
/-- .. of a number in a block: tb has table, ib the number's place, qb the transaction, ob the outer spot. -/
abbrev tE (ob qb : Nat) : Value := .func (.func 130) #[] #[.pointer (some ⟨ob, 0, none⟩), .pointer (some ⟨qb, 0, none⟩)]
abbrev gE (tb ib : Nat) : Value := .func (.func 131) #[] #[.pointer (some ⟨tb, 0, none⟩), .pointer (some ⟨ib, 0, none⟩)]
abbrev sE (tb ib qb : Nat) : Value := .func (.func 133) #[] #[.pointer (some ⟨tb, 0, none⟩), .pointer (some ⟨ib, 0, none⟩), .pointer (some ⟨qb, 0, none⟩)]

/-- What field makes in memory. -/
abbrev fldW (w : World) (a : Addr) (fi : Int) : World := (w.alloc (.cells #[.pointer (some a)] 166)).alloc (spO fi (-1) (gF w.heap.size) (sF w.heap.size))
/-- .. and entry. -/
abbrev entW (w : World) (q : Nat) (fo wo : Int) (go so : Value) (i fi : Int) : World :=
  ((((w.alloc (.cells #[tI q] 99)).alloc (spO fo wo go so)).alloc (.cells #[.int .i64 i] 3)).alloc (spO fi fo (gE (w.heap.size + 4) (w.heap.size + 2)) (sE (w.heap.size + 4) (w.heap.size + 2) w.heap.size))).alloc (.cells #[tE (w.heap.size + 1) w.heap.size] 176)
theorem field_any (a : Addr) (fi : Int) (w : World) :
    Calls Tryz.prog 115 #[.pointer (some a), .int .i64 fi] w fun e w' => e = .returned (spV fi (-1) (gF w.heap.size) (sF w.heap.size)) ∧ w' = fldW w a fi := by
  have hmf : ∀ (fn : Fn) (first cap : Array Value) (w : World), (Instr.makeFunc fn first cap).run Tryz.prog w = .ok (.func fn first cap) w := fun _ _ _ _ => rfl
  go_enter Tryz.func115, Tryz.ntmps115
  go_wp2
  refine bodyPost_ret (v := spV fi (-1) (gF w.heap.size) (sF w.heap.size)) (by simp [results, Tryz.results115, go_sem]) rfl ⟨rfl, rfl⟩
theorem entry_any (q : Nat) (fo wo : Int) (go so : Value) (i fi : Int) (w : World) :
    Calls Tryz.prog 116 #[tI q, spV fo wo go so, .int .i64 i, .int .i64 fi] w fun e w' => e = .returned (spV fi fo (gE (w.heap.size + 4) (w.heap.size + 2)) (sE (w.heap.size + 4) (w.heap.size + 2) w.heap.size)) ∧ w' = entW w q fo wo go so i fi := by
  have hmf : ∀ (fn : Fn) (first cap : Array Value) (w : World), (Instr.makeFunc fn first cap).run Tryz.prog w = .ok (.func fn first cap) w := fun _ _ _ _ => rfl
  go_enter Tryz.func116, Tryz.ntmps116
  go_wp2
  refine bodyPost_ret (v := spV fi fo (gE (w.heap.size + 4) (w.heap.size + 2)) (sE (w.heap.size + 4) (w.heap.size + 2) w.heap.size)) (by simp [results, Tryz.results116, go_sem]) rfl ⟨rfl, rfl⟩

/-- What the closures of a number in the node find. -/
def FldAt (w : World) (s : Nat) (a : Addr) : Prop := w.cell? ⟨s, 0, none⟩ = some (.pointer (some a))
/-- .. of a number in a block. -/
structure EntAt (w : World) (s q : Nat) (go : Value) (i : Int) : Prop where
  c0 : w.cell? ⟨s, 0, none⟩ = some (tI q)
  c1 : w.cell? ⟨s + 1, 2, none⟩ = some go
  c2 : w.cell? ⟨s + 2, 0, none⟩ = some (.int .i64 i)
  c4 : w.cell? ⟨s + 4, 0, none⟩ = some (tE (s + 1) s)
theorem EntAt.kept {S : Nat → Prop} {w w' : World} {s q : Nat} {go : Value} {i : Int} (h : EntAt w s q go i) (hc : Chg S w w') (hn : ∀ b, s ≤ b → b ≤ s + 4 → ¬ S b) : EntAt w' s q go i :=
  ⟨hc.cell h.c0 (hn _ (by simp) (by simp)), hc.cell h.c1 (hn _ (by simp) (by simp)), hc.cell h.c2 (hn _ (by simp) (by simp)), hc.cell h.c4 (hn _ (by simp) (by simp))⟩
theorem EntAt.sm {Y : Nat → Prop} {w w' : World} {s q : Nat} {go : Value} {i : Int} (h : EntAt w s q go i) (hs : Sm Y w w') (hn : ∀ b, s ≤ b → b ≤ s + 4 → Y b) : EntAt w' s q go i :=
  ⟨hs.cell h.c0 (hn _ (by simp) (by simp)), hs.cell h.c1 (hn _ (by simp) (by simp)), hs.cell h.c2 (hn _ (by simp) (by simp)), hs.cell h.c4 (hn _ (by simp) (by simp))⟩
theorem FldAt.kept {S : Nat → Prop} {w w' : World} {s : Nat} {a : Addr} (h : FldAt w s a) (hc : Chg S w w') (hn : ¬ S s) : FldAt w' s a := hc.cell h hn
theorem FldAt.sm {Y : Nat → Prop} {w w' : World} {s : Nat} {a : Addr} (h : FldAt w s a) (hs : Sm Y w w') (hn : Y s) : FldAt w' s a := hs.cell h hn
theorem FldAt.new (w : World) (a : Addr) (fi : Int) : FldAt (fldW w a fi) w.heap.size a := by
  unfold FldAt
  rw [World.cell?_alloc_lt _ _ _ (by simp), World.cell?_alloc_at _ _ _ _ rfl]; rfl
theorem fldW_chg (w : World) (a : Addr) (fi : Int) : Chg (fun _ => False) w (fldW w a fi) := (Chg.alloc (fun _ => False) w _).trans (Chg.alloc (fun _ => False) _ _) (fun _ _ h => h)
theorem entW_chg (w : World) (q : Nat) (fo wo : Int) (go so : Value) (i fi : Int) : Chg (fun _ => False) w (entW w q fo wo go so i fi) :=
  ((((Chg.alloc (fun _ => False) w _).trans (Chg.alloc (fun _ => False) _ _) (fun _ _ h => h)).trans (Chg.alloc (fun _ => False) _ _) (fun _ _ h => h)).trans (Chg.alloc (fun _ => False) _ _) (fun _ _ h => h)).trans (Chg.alloc (fun _ => False) _ _) (fun _ _ h => h)
theorem entW_size (w : World) (q : Nat) (fo wo : Int) (go so : Value) (i fi : Int) : (entW w q fo wo go so i fi).heap.size = w.heap.size + 5 := by simp
theorem EntAt.new (w : World) (q : Nat) (fo wo : Int) (go so : Value) (i fi : Int) : EntAt (entW w q fo wo go so i fi) w.heap.size q go i := by
  refine ⟨?_, ?_, ?_, ?_⟩
  · rw [World.cell?_alloc_lt _ _ _ (by simp; omega), World.cell?_alloc_lt _ _ _ (by simp; omega), World.cell?_alloc_lt _ _ _ (by simp; omega), World.cell?_alloc_lt _ _ _ (by simp), World.cell?_alloc_at _ _ _ _ rfl]; rfl
  · rw [World.cell?_alloc_lt _ _ _ (by simp), World.cell?_alloc_lt _ _ _ (by simp), World.cell?_alloc_lt _ _ _ (by simp), World.cell?_alloc_at _ _ _ _ (by simp)]; rfl
  · rw [World.cell?_alloc_lt _ _ _ (by simp), World.cell?_alloc_lt _ _ _ (by simp), World.cell?_alloc_at _ _ _ _ (by simp)]; rfl
  · rw [World.cell?_alloc_at _ _ _ _ (by simp)]; rfl

/-- A closure that tells a number and leaves all. -/
def Gets (w : World) (go : Value) (x : Int) : Prop := ∃ g cap, go = .func (.func g) #[] cap ∧ (∀ w, (callFunc g cap).run Tryz.prog w = .ok (.enter g cap) w) ∧ ∀ w', Chg (fun _ => False) w w' → Calls Tryz.prog g cap w' fun e w'' => e = .returned (.tuple #[.int .i64 x, .int .i64 0]) ∧ Chg (fun _ => False) w' w''
theorem get_field {w : World} {s : Nat} {a : Addr} {x : Int} (h : FldAt w s a) (hc : w.cell? a = some (.int .i64 x)) : Gets w (gF s) x := by
  refine ⟨_, _, rfl, fun _ => by kernel_rfl, fun w' hw => ?_⟩
  have h1 := hw.cell h (fun h => h)
  have h2 := hw.cell hc (fun h => h)
  clear h hc
  go_enter Tryz.func128, Tryz.ntmps128
  go_wp2
  go_ret2
  exact ⟨rfl, Chg.refl _ _⟩
theorem set_field {w : World} {s : Nat} {a : Addr} {x : Int} (y : Int) (h : FldAt w s a) (hc : w.cell? a = some (.int .i64 x)) (hf : w.frozen? a = false) :
    Calls Tryz.prog 129 #[.int .i64 y, .pointer (some ⟨s, 0, none⟩)] w fun e w' => e = .returned (.int .i64 0) ∧ w' = w.setCell a (.int .i64 y) := by
  unfold FldAt at h
  go_enter Tryz.func129, Tryz.ntmps129
  go_wp2
  go_ret
  exact ⟨rfl, rfl⟩
section
variable {L : List Nat} {X : Nat → Prop} {w0 w : World} {pd pl q K : Nat} {f : Nat → List Int} {com : Nat → Option (List Int)} {pend N : Nat} {V : Nat → List Int} {s : Nat} {go : Value} {i n : Nat}
set_option maxHeartbeats 800000 in
set_option maxRecDepth 100000 in
theorem table_any (h : EntAt w s q go i) (hg : Gets w go (n : Int)) (ht : Tv L X w0 w pd pl q K f com pend N V) (hn : n < K) :
    Calls Tryz.prog 130 #[.pointer (some ⟨s + 1, 0, none⟩), .pointer (some ⟨s, 0, none⟩)] w fun e w' => ∃ u g, e = .returned (.tuple #[.int .i64 (n : Int), u, .int .i64 0]) ∧ NewM w w' u g (V n) := by
  obtain ⟨gn, cap, rfl, hcf, hcall⟩ := hg
  have c0 := h.c0
  have c1 := h.c1
  have HG : Hid _ := hcall w (Chg.refl _ _)
  have HT : Hid (Tv L X w0 w pd pl q K f com pend N V) := ht
  have HE : Hid (EntAt w s q (.func (.func gn) #[] cap) i) := h
  clear h ht hcall
  go_enter Tryz.func130, Tryz.ntmps130
  go_wp2_with fail
  refine (show Calls _ _ _ _ _ from HG.out).mono ?_
  clear HG
  rintro e w1 ⟨rfl, hc1⟩
  have d0 := hc1.cell c0 (fun h => h)
  have HC : Hid (Chg (fun _ => False) w w1) := hc1
  clear c0 c1 hc1
  go_wp2_with fail
  refine (load_any n (HT.out.more HC.out) hn).mono ?_
  rintro e w2 ⟨u, g, rfl, hu⟩
  have HU : Hid (NewM w w2 u g (V n)) := ⟨hu.mp, HC.out.trans hu.chg (fun _ _ h => h), by have := HC.out.size; have := hu.new; omega, hu.len, hu.form⟩
  clear hu d0
  go_wp2
  go_ret3
  exact ⟨_, _, rfl, HU.out⟩
set_option maxHeartbeats 800000 in
theorem get_entry (h : EntAt w s q go i) (hg : Gets w go (n : Int)) (ht : Tv L X w0 w pd pl q K f com pend N V) (hn : n < K) (hi : i < 128) (hb : IsBy (V n)) : Gets w (gE (s + 4) (s + 2)) (num (V n) i) := by
  refine ⟨_, _, rfl, fun _ => by kernel_rfl, fun w' hw => ?_⟩
  have h' := h.kept hw (fun _ _ _ h => h)
  have hg' : Gets w' go (n : Int) := by
    obtain ⟨gn, cap, e, hcf, hcall⟩ := hg
    exact ⟨gn, cap, e, hcf, fun w2 h2 => hcall w2 (hw.trans h2 (fun _ _ h => h))⟩
  have TB : Hid _ := table_any h' hg' (ht.more hw) hn
  have hl := ht.len hn
  have c2 := h'.c2
  have c4 := h'.c4
  clear h h' hg hg' ht hw
  go_enter Tryz.func131, Tryz.ntmps131
  go_wp2_with fail
  refine (show Calls _ _ _ _ _ from TB.out).mono ?_
  clear TB
  rintro e w1 ⟨u, g, rfl, hu⟩
  have d2 := hu.chg.cell c2 (fun h => h)
  have HU : Hid (NewM w' w1 u g (V n)) := hu
  clear hu c2 c4
  go_wp2_with fail
  refine (fnum_any u (V n) i w1 HU.out.mp.bs hb hl hi).mono ?_
  rintro e w2 ⟨rfl, rfl⟩
  go_wp2
  go_ret2
  exact ⟨rfl, HU.out.chg⟩
set_option maxHeartbeats 800000 in
theorem set_entry (y : Int) (h : EntAt w s q go i) (hg : Gets w go (n : Int)) (ht : Tv L X w0 w pd pl q K f com pend N V) (hn : n < K) (hi : i < 128) (hL : n ∈ L) (hX : X s) (y0 : 0 ≤ y) (y1 : y < 4294967296) :
    Calls Tryz.prog 133 #[.int .i64 y, .pointer (some ⟨s + 4, 0, none⟩), .pointer (some ⟨s + 2, 0, none⟩), .pointer (some ⟨s, 0, none⟩)] w fun e w' => e = .returned (.int .i64 0) ∧ Tv L X w0 w' pd pl q K f com pend N (upd V n (setNum (V n) i y)) ∧ Sm X w w' := by
  have TB : Hid _ := table_any h hg ht hn
  have hl := ht.len hn
  have c0 := h.c0
  have c2 := h.c2
  have c4 := h.c4
  have hlt := ht.xlt s hX
  have HT : Hid (Tv L X w0 w pd pl q K f com pend N V) := ht
  clear h hg ht
  go_enter Tryz.func133, Tryz.ntmps133
  go_wp2_with fail
  refine (show Calls _ _ _ _ _ from TB.out).mono ?_
  clear TB
  rintro e w1 ⟨u, g, rfl, hu⟩
  have d0 := hu.chg.cell c0 (fun h => h)
  have d2 := hu.chg.cell c2 (fun h => h)
  have hne : s ≠ g := by have := hu.new; omega
  have HU : Hid (NewM w w1 u g (V n)) := hu
  clear hu c2 c4 c0
  go_wp2_with fail
  refine (fset_any g u (V n) i y w1 HU.out.mp hl hi y0 y1).mono ?_
  rintro e w2 ⟨rfl, hm, hc2⟩
  have e0 := hc2.cell d0 hne
  have hu2 := HU.out.step hm (by rw [setNum_len]; exact hl) hc2 (fun _ h => h)
  obtain ⟨c, rfl⟩ := hu2.form
  have WR : Hid (Calls Tryz.prog 77 #[.pointer (some ⟨q, 0, none⟩), .int .i64 (n : Int), .slice (some ⟨g, 0, none⟩) 512 c] w2 fun e w' => e = .returned (.int .i64 0) ∧ Hid (Tv L X w0 w' pd pl q K f com pend N (upd V n (setNum (V n) i y)) ∧ Sm X w w')) := by
    refine (tv_write n _ _ c HT.out hu2.newB hu2.len hn hL).mono ?_
    rintro e w' ⟨rfl, h1, h2⟩
    exact ⟨rfl, h1, (Sm.ofChg hu2.chg HT.out.xlt).trans h2⟩
  clear hm hc2 hu2 d0 d2 HU
  go_wp2_with fail
  refine WR.out.mono ?_
  clear WR
  rintro e w3 ⟨rfl, HZ⟩
  go_wp2
  go_ret
  exact ⟨rfl, HZ.out⟩
end
end Go.Proofs.YtnnaemlipahamaaGreat
