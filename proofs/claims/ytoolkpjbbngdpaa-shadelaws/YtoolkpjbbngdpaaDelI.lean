/- slices.Delete of one element, at numbers: the row of the call's own without it. -/
import Derived.Test.YtoolkpjbbngdpaaDelRuns
namespace Go.Proofs.Ytoolkpjbbngdpaa
open Go.RowKit

theorem hide85 {p : Prop} (h : p) : Hid p := h

set_option maxRecDepth 100000 in
set_option maxHeartbeats 2000000 in
theorem delete85_any (base : Nat) (v : Value) (n i : Nat) (xs : List Value) (w : World) (hown0 : w.ownsRow base 3 1 v n xs) (hi : i < n) (hn : n ≤ 900000) (h1x : ∀ u ∈ xs, u.oneCell' = true) :
    Calls Try.prog 104 #[v, .int .i64 i, .int .i64 ((i : Int) + 1)] w fun e w' => e = .returned (.slice (ownAddr v) (n - 1) (ownCap v)) ∧ w'.ownsRow base 3 1 (.slice (ownAddr v) (n - 1) (ownCap v)) (n - 1) (xs.take (i * 1) ++ xs.drop ((i + 1) * 1)) ∧ w.grownBy w' v.ownBlock := by
  obtain ⟨g, cap, rfl⟩ := ownsRow_some hown0 (by omega)
  have hown := hown0
  clear hown0
  obtain ⟨i0, hi0, hz0, hz1, hz2⟩ := info_parts infoT3
  obtain ⟨w1, w2, hc1, hc2, h1, h2⟩ := delete_runs (P := Try.prog) 1 w 46 3 Try.underlying46 i0 _ hi0 hz0 hz1 rfl (List.all_eq_true.1 (by kernel_rfl)) base g n cap i xs hown hi h1x
  simp only [Nat.mul_one] at hc1 hc2
  have hnc : n ≤ cap ∧ (cap : Int) ≤ 9223372036854775807 := by
    rcases hown.2 with ⟨h, _⟩ | ⟨g', cap', cur, h, _, _, hnc, hcm, _⟩
    · cases h
    · simp only [Value.slice.injEq, true_and] at h
      obtain ⟨_, rfl⟩ := h
      simp only [maxLen] at hcm
      omega
  obtain ⟨hnc1, hnc2⟩ := hnc
  have H1 := hide85 h1
  have H2 := hide85 h2
  have hnn : n - (n - 1) = 1 := by omega
  have HC2 : Hid ((Builtin.clear_ #[46] 0 #[.slice (some ⟨g, n - 1, none⟩) (n - (n - 1)) (cap - (n - 1))]).run Try.prog w1 = .ok (.tuple #[]) w2) := by
    rw [hnn]; exact hc2 0 (cap - (n - 1))
  clear hnn
  have hne : ((i : Int) == (i : Int) + 1) = false := by simp; omega
  have hb1 : (0 : Int) ≤ (i : Int) + 1 := by omega
  have htn : ((i : Int) + 1).toNat = i + 1 := by omega
  have hb3 : (i : Int) ≤ (cap : Int) := by omega
  have hb5 : (i : Int) + 1 ≤ (n : Int) := by omega
  have hb6 : (i : Int) + 1 ≤ (cap : Int) := by omega
  have hb7 : (i : Int) ≤ (n : Int) := by omega
  have hb8 : ¬ (cap = n - 1) := by omega
  by_cases hcc : cap = i + 1
  · have HC1 := hide85 (hc1 46 ⟨g, 0, none⟩ (cap - (i + 1)) (.inl (by omega)))
    have hni : n = i + 1 := by omega
    subst hcc
    subst hni
    clear hc1 hc2 h1 h2 h1x hown hi0 hz0 hz1 hz2 hb8
    simp only [Nat.sub_self, Nat.add_sub_cancel, Nat.add_sub_cancel_left] at HC1 HC2
    have hbq : (i : Int) ≤ (i : Int) + 1 := by omega
    go_enter Try.func104, Try.ntmps104
    go_wp2_with fail
    go_region_law (refine step_append_run _ rfl _ _ 46 46 rfl _ _ (by simp [Act.eval, Act.put]) (by simp [Act.eval, Act.put]) _ w1 HC1.out ?_)
    go_wp2_with (refine wpList_clear_run _ rfl (.tmp 31) 46 rfl _ rfl _ w2 HC2.out ?_)
    go_ret
    exact ⟨rfl, H1.out, H2.out⟩
  · have HC1 := hide85 (hc1 46 ⟨g, i + 1, none⟩ (cap - (i + 1)) (.inr (by simp)))
    clear hc1 hc2 h1 h2 h1x hown hi0 hz0 hz1 hz2
    go_enter Try.func104, Try.ntmps104
    go_wp2_with fail
    go_region_law (refine step_append_run _ rfl _ _ 46 46 rfl _ _ (by simp [Act.eval, Act.put]) (by simp [Act.eval, Act.put]) _ w1 HC1.out ?_)
    go_wp2_with (refine wpList_clear_run _ rfl (.tmp 31) 46 rfl _ rfl _ w2 HC2.out ?_)
    go_ret
    exact ⟨rfl, H1.out, H2.out⟩
end Go.Proofs.Ytoolkpjbbngdpaa
