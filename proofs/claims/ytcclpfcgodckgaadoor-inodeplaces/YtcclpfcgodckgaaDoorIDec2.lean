/-
  Contracts of within and Most of package inode, and of bytes.Equal.
-/
import Derived.Test.YtcclpfcgodckgaaDoorIDec
import Derived.Deep.RegionWith
import Derived.Deep.DrawnRows
namespace Go.Proofs.YtcclpfcgodckgaaDoor
open Go.RowKit

/-- A node brought down to what may be. -/
def Nd.lim (n : Nd) : Nd := { n with kd := if 2 < n.kd then 2 else n.kd, sz := if 8458240 < n.sz then 8458240 else n.sz }
theorem most_any (w : World) : Calls Tryd.prog 20 #[] w fun e w' => e = .returned (.int .i64 8458240) ∧ w' = w := by
  go_enter Tryd.func20, Tryd.ntmps20
  go_wp2
  go_ret
  exact ⟨rfl, rfl⟩

set_option maxHeartbeats 1600000 in
set_option maxRecDepth 100000 in
theorem within00 (n : Nd) (w : World) (h1 : n.kd ≤ 2) (h2 : n.sz ≤ 8458240) :
    Calls Tryd.prog 33 #[n.v] w fun e w' => e = .returned (⟨n.kd, n.lk, n.sz, n.d0, n.d1, n.d2, n.d3, n.d4, n.d5, n.d6, n.d7, n.on, n.tw⟩ : Nd).v ∧ Chg (fun _ => False) w w' := by
  go_enter Tryd.func33, Tryd.ntmps33
  go_wp2_with fail
  all_goals first
    | (exfalso; omega)
    | (go_region_with ((go_at_call 20; refine (most_any _).mono ?_; rintro e w3 ⟨rfl, rfl⟩))
       all_goals first
         | (exfalso; omega)
         | (go_wp2_with fail
            refine bodyPost_ret (v := (⟨n.kd, n.lk, n.sz, n.d0, n.d1, n.d2, n.d3, n.d4, n.d5, n.d6, n.d7, n.on, n.tw⟩ : Nd).v) (by simp [results, Tryd.results33, go_sem]) rfl ⟨rfl, ?_⟩
            exact ((Chg.alloc _ _ _).trans (Chg.alloc _ _ _) (fun _ _ h => h)).trans (Chg.drew _ _) (fun _ _ h => h)))
set_option maxHeartbeats 1600000 in
set_option maxRecDepth 100000 in
theorem within01 (n : Nd) (w : World) (h1 : n.kd ≤ 2) (h2 : 8458240 < n.sz) :
    Calls Tryd.prog 33 #[n.v] w fun e w' => e = .returned (⟨n.kd, n.lk, 8458240, n.d0, n.d1, n.d2, n.d3, n.d4, n.d5, n.d6, n.d7, n.on, n.tw⟩ : Nd).v ∧ Chg (fun _ => False) w w' := by
  go_enter Tryd.func33, Tryd.ntmps33
  go_wp2_with fail
  all_goals first
    | (exfalso; omega)
    | (go_region_with ((go_at_call 20; refine (most_any _).mono ?_; rintro e w3 ⟨rfl, rfl⟩))
       all_goals first
         | (exfalso; omega)
         | (go_wp2_with fail
            refine bodyPost_ret (v := (⟨n.kd, n.lk, 8458240, n.d0, n.d1, n.d2, n.d3, n.d4, n.d5, n.d6, n.d7, n.on, n.tw⟩ : Nd).v) (by simp [results, Tryd.results33, go_sem]) rfl ⟨rfl, ?_⟩
            exact ((Chg.alloc _ _ _).trans (Chg.alloc _ _ _) (fun _ _ h => h)).trans (Chg.drew _ _) (fun _ _ h => h)))
set_option maxHeartbeats 1600000 in
set_option maxRecDepth 100000 in
theorem within10 (n : Nd) (w : World) (h1 : 2 < n.kd) (h2 : n.sz ≤ 8458240) :
    Calls Tryd.prog 33 #[n.v] w fun e w' => e = .returned (⟨2, n.lk, n.sz, n.d0, n.d1, n.d2, n.d3, n.d4, n.d5, n.d6, n.d7, n.on, n.tw⟩ : Nd).v ∧ Chg (fun _ => False) w w' := by
  go_enter Tryd.func33, Tryd.ntmps33
  go_wp2_with fail
  all_goals first
    | (exfalso; omega)
    | (go_region_with ((go_at_call 20; refine (most_any _).mono ?_; rintro e w3 ⟨rfl, rfl⟩))
       all_goals first
         | (exfalso; omega)
         | (go_wp2_with fail
            refine bodyPost_ret (v := (⟨2, n.lk, n.sz, n.d0, n.d1, n.d2, n.d3, n.d4, n.d5, n.d6, n.d7, n.on, n.tw⟩ : Nd).v) (by simp [results, Tryd.results33, go_sem]) rfl ⟨rfl, ?_⟩
            exact ((Chg.alloc _ _ _).trans (Chg.alloc _ _ _) (fun _ _ h => h)).trans (Chg.drew _ _) (fun _ _ h => h)))
set_option maxHeartbeats 1600000 in
set_option maxRecDepth 100000 in
theorem within11 (n : Nd) (w : World) (h1 : 2 < n.kd) (h2 : 8458240 < n.sz) :
    Calls Tryd.prog 33 #[n.v] w fun e w' => e = .returned (⟨2, n.lk, 8458240, n.d0, n.d1, n.d2, n.d3, n.d4, n.d5, n.d6, n.d7, n.on, n.tw⟩ : Nd).v ∧ Chg (fun _ => False) w w' := by
  go_enter Tryd.func33, Tryd.ntmps33
  go_wp2_with fail
  all_goals first
    | (exfalso; omega)
    | (go_region_with ((go_at_call 20; refine (most_any _).mono ?_; rintro e w3 ⟨rfl, rfl⟩))
       all_goals first
         | (exfalso; omega)
         | (go_wp2_with fail
            refine bodyPost_ret (v := (⟨2, n.lk, 8458240, n.d0, n.d1, n.d2, n.d3, n.d4, n.d5, n.d6, n.d7, n.on, n.tw⟩ : Nd).v) (by simp [results, Tryd.results33, go_sem]) rfl ⟨rfl, ?_⟩
            exact ((Chg.alloc _ _ _).trans (Chg.alloc _ _ _) (fun _ _ h => h)).trans (Chg.drew _ _) (fun _ _ h => h)))
theorem within_any (n : Nd) (w : World) :
    Calls Tryd.prog 33 #[n.v] w fun e w' => e = .returned n.lim.v ∧ Chg (fun _ => False) w w' := by
  by_cases h1 : 2 < n.kd <;> by_cases h2 : 8458240 < n.sz
  · simpa only [Nd.lim, if_pos h1, if_pos h2] using within11 n w h1 h2
  · simpa only [Nd.lim, if_pos h1, if_neg h2] using within10 n w h1 (by omega)
  · simpa only [Nd.lim, if_neg h1, if_pos h2] using within01 n w (by omega) h2
  · simpa only [Nd.lim, if_neg h1, if_neg h2] using within00 n w (by omega) (by omega)
theorem Nd.lim_ok (n : Nd) (h : n.ok) : n.lim = n := by
  obtain ⟨h1, h2⟩ := h
  simp only [Nd.lim, if_neg (Int.not_lt.2 h1), if_neg (Int.not_lt.2 h2)]
theorem Nd.lim_not (n : Nd) (h : ¬ n.ok) : n.lim.kd ≠ n.kd ∨ n.lim.sz ≠ n.sz := by
  unfold Nd.ok at h
  simp only [Nd.lim]
  by_cases h1 : 2 < n.kd
  · left; rw [if_pos h1]; omega
  · right; rw [if_pos (by omega)]; omega

set_option maxHeartbeats 800000 in
theorem equal_any (u v : Value) (xs ys : List Int) (w : World) (hu : Bs w u xs) (hv : Bs w v ys) (hx : IsB xs) (hy : IsB ys) :
    Calls Tryd.prog 34 #[u, v] w fun e w' => e = .returned (.bool (decide (xs = ys))) ∧ w' = w := by
  have s1 := run_strC hu
  have s2 := run_strC hv
  by_cases h : xs = ys
  · subst h
    obtain ⟨t, ht⟩ : ∃ t, strC xs = t := ⟨_, rfl⟩
    rw [ht] at s1 s2
    clear ht hu hv
    go_enter Tryd.func34, Tryd.ntmps34
    go_wp2
    go_ret
    exact ⟨by simp, rfl⟩
  · have k := strC_ne xs ys hx hy h
    obtain ⟨t, ht⟩ : ∃ t, strC xs = t := ⟨_, rfl⟩
    obtain ⟨t', ht'⟩ : ∃ t, strC ys = t := ⟨_, rfl⟩
    rw [ht] at s1 k
    rw [ht'] at s2 k
    clear ht ht' hu hv
    go_enter Tryd.func34, Tryd.ntmps34
    go_wp2
    go_ret
    exact ⟨by simp [h], rfl⟩
end Go.Proofs.YtcclpfcgodckgaaDoor
