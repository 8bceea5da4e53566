/- attr.put: the attribute in its place, in a row of the call's own. -/
import Derived.Test.YtbfomnkapnlgeaaInsA
namespace Go.Proofs.Ytbfomnkapnlgeaa
open Go.RowKit

def putL (l : List (Int × Int)) (a : Int × Int) : List (Int × Int) :=
  if (searchL a.1 l).2 then l.set (searchL a.1 l).1 a else l.take (searchL a.1 l).1 ++ [a] ++ l.drop (searchL a.1 l).1

theorem searchL_le (nm : Int) : ∀ l : List (Int × Int), (searchL nm l).1 ≤ l.length
  | [] => Nat.le_refl _
  | a :: l => by
    simp only [searchL]
    split
    · exact Nat.zero_le _
    · have := searchL_le nm l
      simp
      omega
theorem searchL_lt (nm : Int) : ∀ l : List (Int × Int), (searchL nm l).2 = true → (searchL nm l).1 < l.length
  | [], h => by simp [searchL] at h
  | a :: l, h => by
    simp only [searchL] at h ⊢
    split at h
    · rename_i hle; rw [if_pos hle]; simp
    · rename_i hle
      rw [if_neg hle]
      have := searchL_lt nm l h
      simp
      omega

theorem attrCells_append : ∀ a b : List (Int × Int), attrCells (a ++ b) = attrCells a ++ attrCells b
  | [], b => rfl
  | x :: a, b => by simp [attrCells, attrCells_append a b]
theorem attrCells_take : ∀ (l : List (Int × Int)) (k : Nat), attrCells (l.take k) = (attrCells l).take (k * 2)
  | [], k => by simp [attrCells]
  | x :: l, 0 => by simp [attrCells]
  | x :: l, k + 1 => by rw [show (k + 1) * 2 = k * 2 + 1 + 1 by omega]; simp [attrCells, attrCells_take l k]
theorem attrCells_drop : ∀ (l : List (Int × Int)) (k : Nat), attrCells (l.drop k) = (attrCells l).drop (k * 2)
  | [], k => by simp [attrCells]
  | x :: l, 0 => by simp
  | x :: l, k + 1 => by rw [show (k + 1) * 2 = k * 2 + 1 + 1 by omega]; simp [attrCells, attrCells_drop l k]
theorem attrCells_set : ∀ (l : List (Int × Int)) (k : Nat) (a : Int × Int), attrCells (l.set k a) = ((attrCells l).set (k * 2) (.int .i64 a.1)).set (k * 2 + 1) (.int .i64 a.2)
  | [], k, a => by simp [attrCells]
  | x :: l, 0, a => by simp [attrCells]
  | x :: l, k + 1, a => by
    rw [show (k + 1) * 2 + 1 = k * 2 + 1 + 1 + 1 by omega, show (k + 1) * 2 = k * 2 + 1 + 1 by omega]
    simp [attrCells, attrCells_set l k a]

theorem toGrown {w w' : World} (h : Below w.heap.size w w') (r : Option Nat) : w.grownBy w' r := ⟨h.os, h.tape, h.output, h.size, fun k hk _ => h.block k hk⟩

set_option maxRecDepth 100000 in
set_option maxHeartbeats 1000000 in
theorem put_any (base : Nat) (v : Value) (l : List (Int × Int)) (nm vl : Int) (w : World) (hown : w.ownsRow base 54 2 v l.length (attrCells l)) (hbase : base ≤ w.heap.size) (hl : l.length ≤ 900000) :
    Calls Try.prog 64 #[v, .agg #[.int .i64 nm, .int .i64 vl]] w fun e w' => ∃ v', e = .returned v' ∧ w'.ownsRow base 54 2 v' (putL l (nm, vl)).length (attrCells (putL l (nm, vl))) ∧ w.grownBy w' v.ownBlock ∧
      (∀ k, v'.ownBlock = some k → v.ownBlock = some k ∨ w.heap.size ≤ k) := by
  obtain ⟨a, cap, rfl⟩ := ownsRow_shape hown
  have hle := searchL_le nm l
  -- the world behind the box and the search
  have W1 : ∀ w1, Below (w.heap.size + 1) (w.alloc (.cells #[.int .i64 nm, .int .i64 vl] 54)) w1 → w1.ownsRow base 54 2 (.slice a l.length cap) l.length (attrCells l) ∧ w.grownBy w1 (Value.ownBlock (.slice a l.length cap)) := fun w1 hb => by
    have hb' : Below w.heap.size w w1 := ((Below.refl _ w).alloc (Nat.le_refl _) _).trans (hb.mono (by omega))
    exact ⟨ownsRow_below hown hb' (fun g hg => (hown.lt g hg).2), toGrown hb' _⟩
  have HW := hide90 W1
  have hat := (ownsRow_attrs hown).below ((Below.refl _ w).alloc (Nat.le_refl _) (.cells #[.int .i64 nm, .int .i64 vl] 54))
  have HA := hide90 hat
  have HO := hide90 hown
  clear W1 hat hown
  cases his : (searchL nm l).2
  · have hput : putL l (nm, vl) = l.take (searchL nm l).1 ++ [(nm, vl)] ++ l.drop (searchL nm l).1 := by simp only [putL, his, Bool.false_eq_true, if_false]
    have HP := hide90 hput
    clear hput
    go_enter Try.func64, Try.ntmps64
    go_wp2_with (go_at_call 62; refine (search_any l _ _ _ HA.out (by omega)).mono ?_; rintro e w1 ⟨rfl, hb1⟩; simp only [World.size_alloc] at hb1; obtain ⟨hr1, hg1⟩ := HW.out w1 hb1; have hcc := hb1.cell (p := ⟨w.heap.size, 0, none⟩) (by simp); have hcc2 := hb1.cell (p := ⟨w.heap.size, 1, none⟩) (by simp); simp only [World.cell?_alloc_new] at hcc hcc2; simp at hcc hcc2)
    have hs1 := hb1.size
    simp only [World.size_alloc] at hs1
    refine (insert90_any base _ l.length (searchL nm l).1 w1.heap.size (attrCells l) [.int .i64 nm, .int .i64 vl] _ (hr1.alloc _) (by simp; omega) hle hl rfl (heap_alloc_new w1 _) ?_ (attrCells_one l) (attrCells_one [(nm, vl)])).mono ?_
    · intro e
      have := (hr1.lt _ e).2
      omega
    rintro e w2 ⟨v', rfl, h1, h2, h3⟩
    obtain ⟨a', c', rfl⟩ := ownsRow_shape h1
    have H1 := hide90 h1
    have H2 := hide90 h2
    have H3 := hide90 h3
    clear h1 h2 h3
    go_wp2_with fail
    go_ret
    refine ⟨_, rfl, ?_, grownBy_trans hg1 (grownBy_trans (World.grownBy_alloc w1 _ _) H2.out), ?_⟩
    · rw [HP.out, attrCells_append, attrCells_append, attrCells_take, attrCells_drop]
      have e : (l.take (searchL nm l).1 ++ [(nm, vl)] ++ l.drop (searchL nm l).1).length = l.length + 1 := by simp; omega
      rw [e]
      exact H1.out
    · intro k hk
      rcases H3.out k hk with h | h
      · exact .inl h
      · right
        simp only [World.size_alloc] at h
        omega
  · have hlt := searchL_lt nm l his
    have hput : putL l (nm, vl) = l.set (searchL nm l).1 (nm, vl) := by simp only [putL, his, if_true]
    obtain ⟨g, cap', hg⟩ := ownsRow_some HO.out (by omega)
    simp only [Value.slice.injEq, true_and] at hg
    obtain ⟨rfl, rfl⟩ := hg
    have HP := hide90 hput
    have hsk : ∃ k, k = (searchL nm l).1 := ⟨_, rfl⟩
    obtain ⟨k, hk⟩ := hsk
    rw [← hk] at hlt HP hle
    have HK : Hid ((searchL nm l).1 = k) := hk.symm
    clear hput hk
    go_enter Try.func64, Try.ntmps64
    go_wp2_with (go_at_call 62; refine (search_any l _ _ _ HA.out (by omega)).mono ?_; rintro e w1 ⟨rfl, hb1⟩; simp only [World.size_alloc] at hb1; obtain ⟨hr1, hg1⟩ := HW.out w1 hb1; have hcc := hb1.cell (p := ⟨w.heap.size, 0, none⟩) (by simp); have hcc2 := hb1.cell (p := ⟨w.heap.size, 1, none⟩) (by simp); simp only [World.cell?_alloc_new] at hcc hcc2; simp at hcc hcc2; have hf0 := hr1.frozenAt (k * 2); have hf1 := hr1.frozenAt (k * 2 + 1); have hc0 := hr1.cellAt (k * 2) (by omega); have hc1 := hr1.cellAt (k * 2 + 1) (by omega); rw [(attrCells_at hlt).1] at hc0; rw [(attrCells_at hlt).2] at hc1; rw [HK.out, his])
    go_ret
    have st := (hr1.stored (k * 2) (.int .i64 nm)).1
    have st2 := (st.stored (k * 2 + 1) (.int .i64 vl)).1
    have g1 := (hr1.stored (k * 2) (.int .i64 nm)).2
    have g2 := (st.stored (k * 2 + 1) (.int .i64 vl)).2
    refine ⟨_, rfl, ?_, grownBy_trans hg1 (grownBy_trans g1 g2), fun k hk => .inl hk⟩
    rw [HP.out, attrCells_set, List.length_set]
    exact st2
end Go.Proofs.Ytbfomnkapnlgeaa
