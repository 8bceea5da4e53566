/- slices.Clone and slices.Delete at listeners. -/
import Derived.Test.YtpmacpbhdgigfaaGreatHear2
namespace Go.Proofs.YtpmacpbhdgigfaaGreat.L8
open Go.RowKit

theorem cell_keptC {w : World} {o : Obj} {a : Addr} {v : Value} (h : w.cell? a = some v) : (w.alloc o).cell? a = some v :=
  (World.cell?_alloc_lt _ _ _ (below_of_cell h)).trans h

set_option maxHeartbeats 1000000 in
theorem cloneH_some (a : Addr) (n cap : Nat) (cs : List Value) (w : World) (hn : n ≤ 1000000) (hl : cs.length = n * 5) (hc : ∀ j u, cs[j]? = some u → w.cell? (a.add j) = some u) (h1 : ∀ u ∈ cs, u.oneCell' = true) :
    Calls Tryz.prog 131 #[.slice (some a) n cap] w fun e w' => ∃ v', e = .returned v' ∧ w'.ownsRow w.heap.size 35 5 v' n cs ∧ Below w.heap.size w w' ∧ (v' = .slice none 0 0 → False) := by
  obtain ⟨i0, hi, hz0, hz1, hz2⟩ := info_parts infoT24
  have hown : (w.alloc (.cells #[] 35)).ownsRow w.heap.size 35 5 (.slice (some ⟨w.heap.size, 0, none⟩) 0 0) 0 [] := World.ownsRow_made w #[] 0 (Nat.le_refl _) (by simp [maxLen]) rfl
  have HC : Hid (∀ j u, cs[j]? = some u → w.cell? (a.add j) = some u) := hc
  have H1 : Hid (∀ u ∈ cs, u.oneCell' = true) := h1
  have HL : Hid (cs.length = n * 5) := hl
  have he := fun wx => Lib.run_eql_slice_nil (P := Tryz.prog) wx 26 35 (some a) n cap 0 0 Tryz.underlying26
  clear hc h1 hl
  go_enter Tryz.func131, Tryz.ntmps131
  go_wp2_with (at_builtin; refine wpList_append_own _ rfl (.tmp 5) (.tmp 6) 26 rfl w.heap.size 35 i0 _ 5 32 Tryz.underlying26 hi hz0 hz1 hz2 rfl (by decide) _ 0 [] rfl hown a n cap cs rfl HL.out ?h1 H1.out ?h2 ?h3 ?h4 ?h5)
  case h1 => exact fun j u hj => cell_keptC (HC.out j u hj)
  case h2 => simp only [maxLen]; omega
  case h3 => omega
  case h4 => simp
  case h5 =>
    intro v' w' hown' hgrow hnil
    go_wp2_with fail
    go_ret
    refine ⟨v', rfl, by simpa using hown', ?_, ?_⟩
    · exact ((Below.refl _ w).alloc (Nat.le_refl _) _).grown hgrow (by simp) (fun k e => by simp [Value.ownBlock] at e; omega)
    · exact hnil

set_option maxHeartbeats 400000 in
theorem cloneH_nil (n cap : Nat) (w : World) :
    Calls Tryz.prog 131 #[.slice none n cap] w fun e w' => e = .returned (.slice none 0 0) ∧ w' = w := by
  have he := fun wx => Lib.run_eql_slice_nil (P := Tryz.prog) wx 26 35 none n cap 0 0 Tryz.underlying26
  go_enter Tryz.func131, Tryz.ntmps131
  go_wp2_with fail
  go_ret
  exact ⟨rfl, rfl⟩

theorem cloneHears_any (l : List Hr) (v : Value) (w : World) (hI : HearsAt w v l) (hl : l.length ≤ 1000000) :
    Calls Tryz.prog 131 #[v] w fun e w' => ∃ a c, e = .returned (.slice a l.length c) ∧ w'.ownsRow w.heap.size 35 5 (.slice a l.length c) l.length (hearCells l) ∧ Below w.heap.size w w' := by
  obtain ⟨a, cap, rfl, hc⟩ := hI
  cases a with
  | none =>
    have h0 : l = [] := by
      cases l with
      | nil => rfl
      | cons a l => obtain ⟨b, off, e, _⟩ := hc.2 (by simp); cases e
    subst h0
    refine (cloneH_nil _ _ _).mono ?_
    rintro e w' ⟨rfl, rfl⟩
    exact ⟨none, 0, rfl, World.ownsRow_nil _ _ _ _, Below.refl _ _⟩
  | some ad =>
    obtain ⟨h1, h2⟩ := HearsAt.cells (w := w) (a := ad) (n := l.length) (cap := cap) (l := l) ⟨some ad, cap, rfl, hc⟩
    refine (cloneH_some ad l.length cap (hearCells l) w hl (hearCells_length l) h2 (hearCells_one l)).mono ?_
    rintro e w' ⟨v', rfl, ho, hb, _⟩
    obtain ⟨a', c', rfl⟩ := ownsRow_shape ho
    exact ⟨a', c', rfl, ho, hb⟩

set_option maxRecDepth 100000 in
set_option maxHeartbeats 2000000 in
theorem deleteH_any (base : Nat) (v : Value) (n i : Nat) (xs : List Value) (w : World) (hown0 : w.ownsRow base 35 5 v n xs) (hi : i < n) (hn : n ≤ 900000) (h1x : ∀ u ∈ xs, u.oneCell' = true) :
    Calls Tryz.prog 130 #[v, .int .i64 i, .int .i64 ((i : Int) + 1)] w fun e w' => e = .returned (.slice (ownAddr v) (n - 1) (ownCap v)) ∧ w'.ownsRow base 35 5 (.slice (ownAddr v) (n - 1) (ownCap v)) (n - 1) (xs.take (i * 5) ++ xs.drop ((i + 1) * 5)) ∧ w.grownBy w' v.ownBlock := by
  obtain ⟨g, cap, rfl⟩ := ownsRow_some hown0 (by omega)
  have hown := hown0
  clear hown0
  obtain ⟨i0, hi0, hz0, hz1, hz2⟩ := info_parts infoT24
  obtain ⟨w1, w2, hc1, hc2, h1, h2⟩ := delete_runs (P := Tryz.prog) 5 w 26 35 Tryz.underlying26 i0 _ hi0 hz0 hz1 rfl (List.all_eq_true.1 (by kernel_rfl)) base g n cap i xs hown hi h1x
  have hnc : n ≤ cap ∧ (cap : Int) ≤ 9223372036854775807 := by
    rcases hown.2 with ⟨h, _⟩ | ⟨g', cap', cur, h, _, _, hnc, hcm, _⟩
    · cases h
    · simp only [Value.slice.injEq, true_and] at h
      obtain ⟨_, rfl⟩ := h
      simp only [maxLen] at hcm
      omega
  obtain ⟨hnc1, hnc2⟩ := hnc
  have H1 := hideG h1
  have H2 := hideG h2
  have hnn : n - (n - 1) = 1 := by omega
  have HC2 : Hid ((Builtin.clear_ #[26] 0 #[.slice (some ⟨g, (n - 1) * 5, none⟩) (n - (n - 1)) (cap - (n - 1))]).run Tryz.prog w1 = .ok (.tuple #[]) w2) := by
    rw [hnn]; exact hc2 0 (cap - (n - 1))
  clear hnn
  have hne : ((i : Int) == (i : Int) + 1) = false := by simp; omega
  have hb1 : (0 : Int) ≤ (i : Int) + 1 := by omega
  have htn : ((i : Int) + 1).toNat = i + 1 := by omega
  have hb3 : (i : Int) ≤ (cap : Int) := by omega
  have hb5 : (i : Int) + 1 ≤ (n : Int) := by omega
  have hb6 : (i : Int) + 1 ≤ (cap : Int) := by omega
  have hb7 : (i : Int) ≤ (n : Int) := by omega
  have hb8 : ¬ (cap = n - 1) := by omega
  by_cases hcc : cap = i + 1
  · have HC1 := hideG (hc1 26 ⟨g, 0, none⟩ (cap - (i + 1)) (.inl (by omega)))
    have hni : n = i + 1 := by omega
    subst hcc
    subst hni
    clear hc1 hc2 h1 h2 h1x hown hi0 hz0 hz1 hz2 hb8
    simp only [Nat.sub_self, Nat.add_sub_cancel, Nat.add_sub_cancel_left] at HC1 HC2
    have hbq : (i : Int) ≤ (i : Int) + 1 := by omega
    go_enter Tryz.func130, Tryz.ntmps130
    go_wp2_with fail
    go_region_law (refine step_append_run _ rfl _ _ 26 26 rfl _ _ (by simp [Act.eval, Act.put]) (by simp [Act.eval, Act.put]) _ w1 HC1.out ?_)
    go_wp2_with (refine wpList_clear_run _ rfl (.tmp 31) 26 rfl _ rfl _ w2 HC2.out ?_)
    go_ret
    exact ⟨rfl, H1.out, H2.out⟩
  · have HC1 := hideG (hc1 26 ⟨g, (i + 1) * 5, none⟩ (cap - (i + 1)) (.inr (by simp)))
    clear hc1 hc2 h1 h2 h1x hown hi0 hz0 hz1 hz2
    go_enter Tryz.func130, Tryz.ntmps130
    go_wp2_with fail
    go_region_law (refine step_append_run _ rfl _ _ 26 26 rfl _ _ (by simp [Act.eval, Act.put]) (by simp [Act.eval, Act.put]) _ w1 HC1.out ?_)
    go_wp2_with (refine wpList_clear_run _ rfl (.tmp 31) 26 rfl _ rfl _ w2 HC2.out ?_)
    go_ret
    exact ⟨rfl, H1.out, H2.out⟩
end Go.Proofs.YtpmacpbhdgigfaaGreat.L8
