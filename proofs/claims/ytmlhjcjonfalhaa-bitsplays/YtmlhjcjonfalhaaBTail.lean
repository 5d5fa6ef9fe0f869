/-
  What a round of BitsPlays asks of both maps.
-/
import Derived.Test.YtmlhjcjonfalhaaBActs
namespace Go.Proofs.Ytmlhjcjonfalhaa
open Go.RowKit

/-- All that a round asks of both maps, in whatever order it is drawn. -/
structure Tl (wc : World) (v1 v2 : Value) (y a b n x1 x2 : Int) (o1 o2 h : Bool) (c : Nat) (t : ByteArray) : Prop where
  f1 : ∀ m, Calls Try.prog 12 #[v1, .int .i64 a, .int .i64 b] (wc.drewN m) fun e w' => e = .returned (.tuple #[.int .i64 x1, .bool o1]) ∧ ∃ k, w' = (wc.drewN m).drewN k
  g1 : ∀ m, Calls Try.prog 13 #[v2, .int .i64 a, .int .i64 b] (wc.drewN m) fun e w' => e = .returned (.tuple #[.int .i64 x1, .bool o1]) ∧ w' = wc.drewN m
  f2 : ∀ m, Calls Try.prog 14 #[v1, .int .i64 a, .int .i64 b, .int .i64 n] (wc.drewN m) fun e w' => e = .returned (.tuple #[.int .i64 x2, .bool o2]) ∧ ∃ k, w' = (wc.drewN m).drewN k
  g2 : ∀ m, Calls Try.prog 15 #[v2, .int .i64 a, .int .i64 b, .int .i64 n] (wc.drewN m) fun e w' => e = .returned (.tuple #[.int .i64 x2, .bool o2]) ∧ w' = wc.drewN m
  f3 : ∀ m, Calls Try.prog 16 #[v1, .int .i64 y] (wc.drewN m) fun e w' => e = .returned (.bool h) ∧ ∃ k, w' = (wc.drewN m).drewN k
  g3 : ∀ m, Calls Try.prog 17 #[v2, .int .i64 y] (wc.drewN m) fun e w' => e = .returned (.bool h) ∧ w' = wc.drewN m
  f4 : ∀ m, Calls Try.prog 18 #[v1, .int .i64 a, .int .i64 b] (wc.drewN m) fun e w' => e = .returned (.int .i64 (c : Int)) ∧ ∃ k, w' = (wc.drewN m).drewN k
  g4 : ∀ m, Calls Try.prog 19 #[v2, .int .i64 a, .int .i64 b] (wc.drewN m) fun e w' => e = .returned (.int .i64 (c : Int)) ∧ w' = wc.drewN m
  s1 : ∀ m, (convert 25 9 v1).run Try.prog (wc.drewN m) = .ok (.string t) (wc.drewN m)
  s2 : ∀ m, (convert 22 9 v2).run Try.prog (wc.drewN m) = .ok (.string t) (wc.drewN m)
theorem Tl.of {wc : World} {v1 v2 : Value} {zs : List Int} (y a b n : Int) (h1 : Bs wc v1 zs) (h2 : Bs wc v2 zs) (hb : IsBy zs) (hl : zs.length ≤ 1099511627776) (ha : a ≤ 9223372036854775807) (hn : -9223372036854775808 ≤ n ∧ n ≤ 9223372036854775807) :
    ∃ (x1 x2 : Int) (o1 o2 h : Bool) (c : Nat) (t : ByteArray), Tl wc v1 v2 y a b n x1 x2 o1 o2 h c t :=
  ⟨runV (runI zs a b 1), runV (runI zs a b n), (runI zs a b 1).isSome, (runI zs a b n).isSome, bitI zs y, cntI zs a b, strB zs,
    fun m => first_any v1 zs a b _ (h1.drewN m) hb hl ha, fun m => rfirst_any v2 zs a b _ (h2.drewN m) hb hl ha,
    fun m => run_any v1 zs a b n _ (h1.drewN m) hb hl ha hn.2 hn.1, fun m => rrun_any v2 zs a b n _ (h2.drewN m) hb hl ha hn.2 hn.1,
    fun m => has_any v1 zs y _ (h1.drewN m) hb hl, fun m => rhas_any v2 zs y _ (h2.drewN m) hb hl,
    fun m => count_any v1 zs a b _ (h1.drewN m) hb hl ha, fun m => rcount_any v2 zs a b _ (h2.drewN m) hb hl ha,
    fun m => run_strM (h1.drewN m), fun m => run_strB (h2.drewN m)⟩
theorem Tl.more {wc : World} {v1 v2 : Value} {y a b n x1 x2 : Int} {o1 o2 h : Bool} {c : Nat} {t : ByteArray} (T : Tl wc v1 v2 y a b n x1 x2 o1 o2 h c t) (k : Nat) : Tl (wc.drewN k) v1 v2 y a b n x1 x2 o1 o2 h c t :=
  ⟨fun m => by rw [World.drewN_drewN]; exact T.f1 _, fun m => by rw [World.drewN_drewN]; exact T.g1 _, fun m => by rw [World.drewN_drewN]; exact T.f2 _, fun m => by rw [World.drewN_drewN]; exact T.g2 _, fun m => by rw [World.drewN_drewN]; exact T.f3 _, fun m => by rw [World.drewN_drewN]; exact T.g3 _, fun m => by rw [World.drewN_drewN]; exact T.f4 _, fun m => by rw [World.drewN_drewN]; exact T.g4 _, fun m => by rw [World.drewN_drewN]; exact T.s1 _, fun m => by rw [World.drewN_drewN]; exact T.s2 _⟩
end Go.Proofs.Ytmlhjcjonfalhaa
