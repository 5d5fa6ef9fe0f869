/-
  append onto a row of bytes of which another slice is the front.
-/
import Derived.Test.YtfbildadidfolaaLBack
import Derived.Lib.AppendStr
namespace Go.Proofs.Ytfbildadidfolaa
open Go.RowKit

/-- u is v's front, or lies elsewhere. -/
def Fr (u : Value) (k : Nat) (v : Value) (n : Nat) : Prop :=
  (∃ g cap, u = .slice (some ⟨g, 0, none⟩) k cap ∧ v = .slice (some ⟨g, 0, none⟩) n cap ∧ k ≤ n) ∨ ∀ g, u.ownBlock = some g → v.ownBlock ≠ some g
theorem strCells_eq (s : ByteArray) : Lib.strCells s = bcells (sB s) := by
  unfold Lib.strCells bcells sB
  rw [List.map_map]
  rfl
/-- What an append leaves. -/
def AppR (N : Nat) (w : World) (u : Value) (k : Nat) (ys : List Int) (v : Value) (m : Nat) (zs : List Int) (v' : Value) (w' : World) : Prop :=
  w'.ownsRow N 5 1 v' m (bcells zs) ∧ w.grownBy w' v.ownBlock ∧ (v'.ownBlock = v.ownBlock ∨ v'.ownBlock = some w.heap.size) ∧ w'.ownsRow N 5 1 u k (bcells ys) ∧ Fr u k v' m
theorem app_away {N k m : Nat} {w w' : World} {u v v' : Value} {ys zs : List Int} (hu : w.ownsRow N 5 1 u k (bcells ys)) (hr : ∀ g, u.ownBlock = some g → v.ownBlock ≠ some g) (h1 : w'.ownsRow N 5 1 v' m (bcells zs)) (h2 : w.grownBy w' v.ownBlock) (h3 : v'.ownBlock = v.ownBlock ∨ v'.ownBlock = some w.heap.size) : AppR N w u k ys v m zs v' w' :=
  ⟨h1, h2, h3, own_kept hu (Chg.ofGrown h2) (fun b hb e => hr b hb e), .inr fun g hg e => by
    rcases h3 with h3 | h3
    · rw [h3] at e; exact hr g hg e
    · rw [h3] at e
      injection e with e
      have := (own_ge hu hg).2
      omega⟩
theorem app_room {N k n g cap : Nat} {w : World} {cur : Array Value} {ys xs news : List Int} (hN : N ≤ g) (hg : w.heap[g]? = some (.cells cur 5 (0, 0))) (hcm : cap ≤ maxLen) (hcs : cur.size = cap) (htn : cur.toList.take n = bcells xs) (hk : k ≤ n) (hn : n + news.length ≤ cap) (hxn : xs.length = n) (hyk : ys.length = k) (htk : cur.toList.take k = bcells ys) :
    AppR N w (.slice (some ⟨g, 0, none⟩) k cap) k ys (.slice (some ⟨g, 0, none⟩) n cap) (n + news.length) (xs ++ news) (.slice (some ⟨g, 0, none⟩) (n + news.length) cap) (w.setRow g (cur.toList.take n ++ bcells news ++ cur.toList.drop (n + (bcells news).length)).toArray) := by
  have hln : (bcells news).length = news.length := by simp [bcells]
  have hlx : (bcells xs).length = n := by simp [bcells, hxn]
  have hcl : cur.toList.length = cap := by rw [Array.length_toList]; exact hcs
  have hsz : (cur.toList.take n ++ bcells news ++ cur.toList.drop (n + (bcells news).length)).toArray.size = cap := by
    simp only [List.size_toArray, List.length_append, List.length_take, List.length_drop, hln]
    omega
  refine ⟨⟨by simp [bcells]; omega, .inr ⟨g, cap, _, rfl, hN, setRow_heap w g cur _ 5 _ hg, hn, hcm, by rw [hsz, Nat.mul_one], ?_⟩⟩, ⟨rfl, rfl, rfl, by simp, fun j _ hj => setRow_other w g j _ (fun e => hj (by simp [Value.ownBlock, e]))⟩, .inl rfl,
    ⟨by simp [bcells, hyk], .inr ⟨g, cap, _, rfl, hN, setRow_heap w g cur _ 5 _ hg, by omega, hcm, by rw [hsz, Nat.mul_one], ?_⟩⟩, .inl ⟨g, cap, rfl, rfl, by omega⟩⟩
  · rw [htn]
    have e : (n + news.length) * 1 = (bcells xs ++ bcells news).length := by rw [List.length_append, hlx, hln]; omega
    rw [e, show bcells (xs ++ news) = bcells xs ++ bcells news by simp [bcells]]
    exact List.take_left
  · rw [Nat.mul_one, List.append_assoc, List.take_append_of_le_length (by rw [List.length_take]; omega), List.take_take, Nat.min_eq_left hk]
    exact htk
theorem app_grow {N k n c2 old : Nat} {w : World} {u v : Value} {ys xs news : List Int} (hN : N ≤ w.heap.size) (hu : w.ownsRow N 5 1 u k (bcells ys)) (hxn : xs.length = n) (hc : c2 = grownCap w (n + news.length) old 5) (hl : n + news.length ≤ 1099511627776) :
    AppR N w u k ys v (n + news.length) (xs ++ news) (.slice (some ⟨w.heap.size, 0, none⟩) (n + news.length) c2) (w.drew.alloc (.cells ((bcells xs).toArray ++ (bcells news).toArray ++ Builtin.zeroCells (Value.int .u8 0).cells (c2 - (n + news.length))) 5)) := by
  have hge := grownCap_ge w (n + news.length) old 5
  have hcm : grownCap w (n + news.length) old 5 ≤ maxLen := grownCap_le_maxLen w (n + news.length) old 5 (by unfold maxLen; omega)
  rw [← hc] at hge hcm
  refine ⟨⟨by simp [bcells]; omega, .inr ⟨w.heap.size, _, _, rfl, hN, heap_alloc_new w.drew _, hge, hcm, ?_, ?_⟩⟩, ⟨rfl, rfl, rfl, by simp, fun j hj _ => Below.heap_alloc w.drew _ j hj⟩, .inr rfl,
    own_kept hu ((Chg.drew (fun _ => False) w).trans (Chg.alloc (fun _ => False) w.drew _) (fun _ _ h => h)) (fun _ _ h => h), .inr fun g hg e => ?_⟩
  · rw [zeroCells_eq]
    simp [bcells]
    omega
  · rw [zeroCells_eq]
    have e : (n + news.length) * 1 = (bcells xs ++ bcells news).length := by simp [bcells]; omega
    rw [e, show bcells (xs ++ news) = bcells xs ++ bcells news by simp [bcells]]
    simp only [Array.toList_append]
    exact List.take_left
  · have h1 := (own_ge hu hg).2
    have h2 : some w.heap.size = some g := e
    injection h2 with h2
    omega
/-- append of bytes onto a row, of which u is the front, or that lies elsewhere. -/
theorem app_slice {N k n : Nat} {w : World} {u v x : Value} {ys xs news : List Int} (ty : TypeId) (hu : w.ownsRow N 5 1 u k (bcells ys)) (hv : w.ownsRow N 5 1 v n (bcells xs)) (hr : Fr u k v n) (hx : Bs w x news) (h0 : 0 < news.length) (hlen : n + news.length ≤ 1099511627776) (hN : N ≤ w.heap.size) :
    ∃ v' w', (Builtin.append_ #[31, 31] ty #[v, x]).run Try.prog w = .ok v' w' ∧ AppR N w u k ys v (n + news.length) (xs ++ news) v' w' := by
  obtain ⟨i5, hi5, hz5, hs5, hb5⟩ := info5
  have hxn : xs.length = n := by have := hv.1; simpa [bcells] using this
  rcases hr with ⟨g, cap, rfl, rfl, hk⟩ | hr
  · rcases hv.2 with ⟨e, _⟩ | ⟨g', cap', cur, e, hb, hg, hnc, hcm, hcs, htn⟩
    · cases e
    · injection e with e1 e2 e3
      injection e1 with e1
      injection e1 with e1
      subst e1; subst e3
      have hyk : ys.length = k := by have := hu.1; simpa [bcells] using this
      rcases hx with ⟨_, rfl⟩ | ⟨a, c, rfl, _, _, hcell⟩
      · simp at h0
      have hnews : ∀ j w', (bcells news)[j]? = some w' → w.cell? (a.add j) = some w' := fun j w' hj => by
        obtain ⟨h1, rfl⟩ := bcells_get hj
        exact hcell j h1
      have hln : (bcells news).length = news.length * i5.size := by rw [hs5]; simp [bcells]
      by_cases hroom : n + news.length ≤ cap
      · have hr := run_append_room (P := Try.prog) w 31 ty 5 i5 Try.underlying31 hi5 g n cap cur hg a news.length c (bcells news) hln hnews (bcells_one news) hroom (by rw [hs5]; simp [bcells]; omega)
        rw [hs5, Nat.mul_one] at hr
        refine ⟨_, _, hr, app_room hb hg hcm (by omega) (by simpa using htn) hk hroom hxn hyk ?_⟩
        rcases hu.2 with ⟨e, _⟩ | ⟨g2, cap2, cur2, e, _, hg2, _, _, _, htk⟩
        · cases e
        · injection e with e1 e2 e3
          injection e1 with e1
          injection e1 with e1
          subst e1
          rw [hg] at hg2
          injection hg2 with hg2
          injection hg2 with hg2
          subst hg2
          simpa using htk
      · have hr := run_append_grow (P := Try.prog) w 31 ty 5 i5 _ Try.underlying31 hi5 hz5 ⟨g, 0, none⟩ n cap (bcells xs) (by rw [hs5]; simp [bcells, hxn]) (hv.cells (g := g) rfl) a news.length c (bcells news) hln hnews (by omega) (by omega)
          (growslice_fits (by omega) (by rw [hb5]; omega))
        exact ⟨_, _, hr, app_grow hN hu hxn rfl hlen⟩
  · obtain ⟨v', w', hr2, h1, h2, h3⟩ := run_app (P := Try.prog) w N 31 ty i5 Try.underlying31 hi5 hz5 hs5 hb5 v x n xs news hv hx (by omega) hN
    exact ⟨v', w', hr2, app_away hu hr h1 h2 h3⟩
/-- The same of a text. -/
theorem app_text {N k n : Nat} {w : World} {u v : Value} {ys xs : List Int} (ty : TypeId) (s : ByteArray) (hu : w.ownsRow N 5 1 u k (bcells ys)) (hv : w.ownsRow N 5 1 v n (bcells xs)) (hr : Fr u k v n) (hlen : n + s.size ≤ 1099511627776) (hN : N ≤ w.heap.size) (hv0 : v ≠ .slice none 0 0) :
    ∃ v' w', (Builtin.append_ #[31, 9] ty #[v, .string s]).run Try.prog w = .ok v' w' ∧ AppR N w u k ys v (n + (sB s).length) (xs ++ sB s) v' w' := by
  obtain ⟨i5, hi5, hz5, hs5, hb5⟩ := info5
  have hxn : xs.length = n := by have := hv.1; simpa [bcells] using this
  have hsl := sB_len s
  rcases hv.2 with ⟨e, _⟩ | ⟨g, cap, cur, rfl, hb, hg, hnc, hcm, hcs, htn⟩
  · exact absurd e hv0
  · by_cases hroom : n + s.size ≤ cap
    · have hrr := Lib.run_append_room_string (P := Try.prog) w 31 9 ty 5 i5 Try.underlying31 Try.underlying9 hi5 hs5 g n cap cur hg s hroom (by omega)
      rw [strCells_eq, show n + s.size = n + (sB s).length by omega] at hrr
      have hbl : (bcells (sB s)).length = (sB s).length := by simp [bcells]
      rcases hr with ⟨g2, cap2, rfl, e, hk⟩ | hr
      · injection e with e1 e2 e3
        injection e1 with e1
        injection e1 with e1
        subst e1; subst e3
        have hyk : ys.length = k := by have := hu.1; simpa [bcells] using this
        refine ⟨_, _, hrr, ?_⟩
        have := app_room (news := sB s) hb hg hcm (by omega) (by simpa using htn) hk (by omega) hxn hyk (N := N) (ys := ys) ?_
        · rw [hbl] at this
          exact this
        · rcases hu.2 with ⟨e, _⟩ | ⟨g2, cap2, cur2, e, _, hg2, _, _, _, htk⟩
          · cases e
          · injection e with e1 e2 e3
            injection e1 with e1
            injection e1 with e1
            subst e1
            rw [hg] at hg2
            injection hg2 with hg2
            injection hg2 with hg2
            subst hg2
            simpa using htk
      · refine ⟨_, _, hrr, ?_⟩
        have h := app_room (news := sB s) (k := n) (ys := xs) hb hg hcm (by omega) (by simpa using htn) (Nat.le_refl _) (by omega) hxn hxn (N := N) (by simpa using htn)
        rw [hbl] at h
        exact app_away hu hr h.1 h.2.1 h.2.2.1
    · have hrr := Lib.run_append_grow_string (P := Try.prog) w 31 9 ty 5 i5 _ Try.underlying31 Try.underlying9 hi5 hz5 ⟨g, 0, none⟩ n cap (bcells xs) (by rw [hs5]; simp [bcells, hxn]) (hv.cells (g := g) rfl) s (by omega) (by omega)
        (growslice_fits (by omega) (by rw [hb5]; omega))
      rw [strCells_eq, show n + s.size = n + (sB s).length by omega] at hrr
      exact ⟨_, _, hrr, app_grow hN hu hxn rfl (by omega)⟩
end Go.Proofs.Ytfbildadidfolaa
