/-
  Bytes as a string, literals, and memory apart from a disk.
-/
import Derived.Test.YtnnaemlipahamaaGreatWrite
import Derived.Deep.RegionHeld
import Derived.Deep.DrawnRows
import Derived.Lib.SlBytesConst
namespace Go.Proofs.YtnnaemlipahamaaGreat
open Go.RowKit Go.Maps

def strOf (xs : List Int) : ByteArray := xs.foldl (fun r n => r.push (UInt8.ofNat n.toNat)) ByteArray.empty

theorem run_str {w : World} {u : Value} {xs : List Int} (h : Bs w u xs) : (convert 33 9 u).run Tryz.prog w = .ok (.string (strOf xs)) w := by
  rcases h with ⟨rfl, rfl⟩ | ⟨a, c, rfl, hl, hm, hcell⟩
  · rw [run_convert_bytes_string w 33 9 5 _ _ _ Tryz.underlying33 Tryz.underlying5 Tryz.underlying9]
    rfl
  · rw [run_convert_bytes_string w 33 9 5 _ _ _ Tryz.underlying33 Tryz.underlying5 Tryz.underlying9]
    refine run_bytesToString w a xs.length c xs ?_
    have h1 := run_loadCells_list (P := Tryz.prog) w a (bcells xs) (fun j u hu => by obtain ⟨hj, rfl⟩ := bcells_get hu; exact hcell j hj)
    simpa [bcells] using h1

theorem write_of {S : St} {n : Nat} {b : List Int} (h0 : S.off = false) (hn : n < S.nb) (hb : b.length = 512) (ha : S.arm < 1) : S.write (n : Int) b = S.wrote n b := by
  unfold St.write
  rw [if_neg (by simp [h0]), if_neg (by simp [St.okW, hb]; omega), if_neg (by omega), Int.toNat_natCast, St.pushed_eq]
  unfold St.struck
  rw [if_pos ha]

theorem Is.one (w : World) (x : Int) : Is (w.alloc (.cells #[.int .i64 x] 3)) (.slice (some ⟨w.heap.size, 0, none⟩) 1 1) [x] := by
  refine .inr ⟨⟨w.heap.size, 0, none⟩, 1, rfl, Nat.le_refl _, by simp [maxLen], fun j hj => ?_⟩
  have : j = 0 := by simp at hj; omega
  subst this
  exact cell_one_new w (.int .i64 x) 3 0 _ rfl

theorem eq25_nil (w : World) : (binOp .eql 72 (.pointer none) (.pointer none)).run Tryz.prog w = .ok (.bool true) w := by kernel_rfl

theorem eq25_some (a : Addr) (w : World) : (binOp .eql 72 (.pointer (some a)) (.pointer none)).run Tryz.prog w = .ok (.bool false) w := by kernel_rfl

theorem Bs.oneF (w : World) (x : Int) (fr : Nat × Nat) : Bs (w.alloc (.cells #[.int .u8 x] 5 fr)) (.slice (some ⟨w.heap.size, 0, none⟩) 1 1) [x] := by
  refine .inr ⟨⟨w.heap.size, 0, none⟩, 1, rfl, Nat.le_refl _, by simp [maxLen], fun j hj => ?_⟩
  have h0 : j = 0 := by simp at hj; omega
  subst h0
  rw [add_zero_off, cell_of_row _ _ _ _ _ _ (heap_alloc_new w _)]
  rfl

theorem Bs.off {w : World} {F : Nat → Prop} {p : Nat} {S : St} (h : Dk w F p S) {w0 w' : World} {u : Value} {xs : List Int} (hc : Chg (fun _ => False) w w0) (hu : Fresh w0 w' u xs) : ∀ g, u.ownBlock = some g → ¬ F g := fun g hg hf => by
  have h1 := hu.new g hg
  have h2 := h.lt g hf
  have h3 := hc.size
  omega

theorem Fresh.form {w w' : World} {u : Value} {xs : List Int} (h : Fresh w w' u (full xs)) : ∃ a c, u = .slice a 512 c ∧ 512 ≤ c := by
  obtain ⟨a, c, e, hc⟩ := h.bs.form
  rw [full_len] at e hc
  exact ⟨a, c, e, hc⟩

theorem full_next {w w1 w2 : World} {F : Nat → Prop} {p : Nat} {S : St} {u : Value} {xs : List Int} {o : Obj} (h : Dk w1 F p S) (fr : Fresh (w1.alloc o) w2 u (full xs)) (hc : Chg (fun _ => False) w w1 ∧ ∀ b, F b → w.heap.size ≤ b) :
    Dk w2 F p S ∧ Bs w2 u (full xs) ∧ (∀ g, u.ownBlock = some g → ¬ F g) ∧ Chg (fun _ => False) w w2 ∧ ∀ b, F b → w.heap.size ≤ b := by
  have c1 : Chg (fun _ => False) w1 w2 := (Chg.alloc (fun _ => False) w1 o).trans fr.chg (fun _ _ h => h)
  exact ⟨h.kept c1 (fun _ _ h => h), fr.bs, Bs.off h (Chg.alloc (fun _ => False) w1 o) fr, hc.1.trans c1 (fun _ _ h => h), hc.2⟩

theorem step_next {w w1 w2 : World} {F : Nat → Prop} {p : Nat} {S : St} (hc : Chg (fun _ => False) w w1 ∧ ∀ b, F b → w.heap.size ≤ b) (h : To F p w1 w2 S) : ∃ F', Dk w2 F' p S ∧ Chg (fun _ => False) w w2 ∧ ∀ b, F' b → w.heap.size ≤ b := by
  obtain ⟨F', h1, h2, h3⟩ := h
  refine ⟨F', h1, hc.1.trans h2 (fun i hi e => by have := hc.2 i e; omega), fun b hb => ?_⟩
  rcases h3 b hb with h | h
  · exact hc.2 b h
  · have := hc.1.size; omega

theorem To.after {F : Nat → Prop} {p : Nat} {w w1 w2 : World} {S2 : St} (hc : Chg (fun _ => False) w w1) (h2 : To F p w1 w2 S2) : To F p w w2 S2 := To.trans (hc.mono (fun _ _ h => h.elim)) (fun _ h => .inl h) h2

end Go.Proofs.YtnnaemlipahamaaGreat
