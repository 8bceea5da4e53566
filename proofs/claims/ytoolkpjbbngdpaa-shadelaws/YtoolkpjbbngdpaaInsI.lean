/- slices.Insert of one element, at numbers: a row of the call's own with the element in its place. -/
import Derived.Test.YtoolkpjbbngdpaaInsRuns
namespace Go.Proofs.Ytoolkpjbbngdpaa
open Go.RowKit

theorem hide86 {p : Prop} (h : p) : Hid p := h

set_option maxRecDepth 100000 in
set_option maxHeartbeats 2000000 in
theorem insert86_end (base : Nat) (a : Option Addr) (n cap vb : Nat) (xs cs : List Value) (w : World) (hown : w.ownsRow base 3 1 (.slice a n cap) n xs) (hbase : base ≤ w.heap.size) (hn : n ≤ 900000) (hcs : cs.length = 1)
    (hv : ∀ j u, cs[j]? = some u → w.cell? ⟨vb, j, none⟩ = some u) (h1c : ∀ u ∈ cs, u.oneCell' = true) :
    Calls Try.prog 105 #[.slice a n cap, .int .i64 n, .slice (some ⟨vb, 0, none⟩) 1 1] w fun e w' => ∃ v', e = .returned v' ∧ w'.ownsRow base 3 1 v' (n + 1) (xs ++ cs) ∧ w.grownBy w' (Value.ownBlock (.slice a n cap)) ∧
      (∀ k, v'.ownBlock = some k → Value.ownBlock (.slice a n cap) = some k ∨ w.heap.size ≤ k) := by
  obtain ⟨i0, hi0, hz0, hz1, hz2⟩ := info_parts infoT3
  have hn1 : n + 1 ≤ maxLen := by simp only [maxLen]; omega
  have happ := append_own_fresh (P := Try.prog) w base 46 46 3 i0 _ 1 8 Try.underlying46 hi0 hz0 hz1 hz2 rfl (by decide) _ n xs hown ⟨vb, 0, none⟩ 1 1 cs (by rw [hcs]) (fun j u hj => by rw [addr_add, Nat.zero_add]; exact hv j u hj) h1c hn1 (by omega) hbase
  obtain ⟨v', w', hr, h1, h2, h3⟩ := happ
  have HR : Hid ((Builtin.append_ #[46, 46] 46 #[.slice a n cap, .slice (some ⟨vb, 0, none⟩) 1 1]).run Try.prog w = .ok v' w') := hr
  have H3 : Hid (∀ k, v'.ownBlock = some k → Value.ownBlock (.slice a n cap) = some k ∨ w.heap.size ≤ k) := h3
  have H1 : Hid (w'.ownsRow base 3 1 v' (n + 1) (xs ++ cs)) := h1
  have H2 : Hid (w.grownBy w' (Value.ownBlock (.slice a n cap))) := h2
  have hnc : n ≤ cap ∧ (cap : Int) ≤ 9223372036854775807 := by
    rcases hown.2 with ⟨h, h0⟩ | ⟨g', cap', cur, h, _, _, hnc, hcm, _⟩
    · simp only [Value.slice.injEq] at h
      omega
    · simp only [Value.slice.injEq, true_and] at h
      obtain ⟨_, rfl⟩ := h
      simp only [maxLen] at hcm
      omega
  obtain ⟨hnc1, hnc2⟩ := hnc
  clear hr h1 h2 h3 hv h1c hcs hi0 hz0 hz1 hz2 hown
  by_cases hcn : cap = n
  · subst hcn
    go_enter Try.func105, Try.ntmps105
    go_wp2_with (at_builtin; refine Lib.wpList_append_run _ rfl (.tmp 23) (.tmp 24) 46 46 rfl _ _ rfl rfl v' w' HR.out ?_)
    go_ret
    exact ⟨v', rfl, H1.out, H2.out, H3.out⟩
  · go_enter Try.func105, Try.ntmps105
    go_wp2_with (at_builtin; refine Lib.wpList_append_run _ rfl (.tmp 23) (.tmp 24) 46 46 rfl _ _ rfl rfl v' w' HR.out ?_)
    go_ret
    exact ⟨v', rfl, H1.out, H2.out, H3.out⟩

set_option maxRecDepth 100000 in
set_option maxHeartbeats 2000000 in
theorem insert86_room (base g n cap i vb : Nat) (xs cs : List Value) (w : World) (hown : w.ownsRow base 3 1 (.slice (some ⟨g, 0, none⟩) n cap) n xs) (hi : i < n) (hr : n + 1 ≤ cap) (hn : n ≤ 900000) (hcs : cs.length = 1)
    (hvrow : w.heap[vb]? = some (.cells cs.toArray 3 (0, 0))) (hvb : vb ≠ g) (h1x : ∀ u ∈ xs, u.oneCell' = true) (h1c : ∀ u ∈ cs, u.oneCell' = true) :
    Calls Try.prog 105 #[.slice (some ⟨g, 0, none⟩) n cap, .int .i64 i, .slice (some ⟨vb, 0, none⟩) 1 1] w fun e w' => ∃ v', e = .returned v' ∧ w'.ownsRow base 3 1 v' (n + 1) (xs.take (i * 1) ++ cs ++ xs.drop (i * 1)) ∧ w.grownBy w' (some g) ∧
      (∀ k, v'.ownBlock = some k → some g = some k ∨ w.heap.size ≤ k) := by
  have hv : ∀ j u, cs[j]? = some u → w.cell? ⟨vb, j, none⟩ = some u := fun j u hj => by rw [cell_of_row w vb j _ _ _ hvrow]; simpa using hj
  obtain ⟨w1, w2, hc1, hc2, h1, h2⟩ := insert_room_runs (P := Try.prog) 1 w 46 3 Try.underlying46 (by obtain ⟨i0, hi0, _, hz1, _⟩ := info_parts infoT3; rw [hi0]; simp [hz1]) base g n cap i vb xs cs hown hi hr hcs hvb hv h1x h1c
  simp only [Nat.mul_one] at hc1 hc2
  obtain ⟨kB, hsb, hkB⟩ : ∃ kB, w.shape? g = some (3, kB) ∧ kB ≠ 0 := by
    rcases hown.2 with ⟨h, _⟩ | ⟨g', cap', cur, h, _, hg, _, _, hsz, _⟩
    · cases h
    · simp only [Value.slice.injEq, Option.some.injEq, Addr.mk.injEq, and_true, true_and] at h
      obtain ⟨rfl, rfl⟩ := h
      exact ⟨cur.size, by simp [World.shape?, hg], by omega⟩
  have hsa : w.shape? vb = some (3, 1) := by simp [World.shape?, hvrow, hcs]
  have hfr : ∀ j, w.frozen? ⟨vb, j, none⟩ = false := fun j => frozen_of_row w vb j _ _ hvrow
  have hov : ∀ lb cb, (callFunc 114 #[.slice (some ⟨vb, 0, none⟩) 1 1, .slice (some ⟨g, i + 1, none⟩) lb cb]).run Try.prog w = .ok (.value (.bool false)) w := fun lb cb => by
    rw [run_callFunc_extern Try.func114 (by kernel_rfl) (by kernel_rfl) (by kernel_rfl) (e := Extern.SlicesOverlaps.overlaps #[46, 46] #[4]) (by kernel_rfl),
      Lib.run_overlaps_apart w 46 4 3 Try.underlying46 1 Try.sizeOf3 ⟨vb, 0, none⟩ ⟨g, i + 1, none⟩ 1 1 lb cb hvb 3 3 1 kB hsa hsb hkB (hfr 0) (hfr 1)]
    rfl
  have hnc2 : (cap : Int) ≤ 9223372036854775807 := by
    rcases hown.2 with ⟨h, _⟩ | ⟨g', cap', cur, h, _, _, _, hcm, _⟩
    · cases h
    · simp only [Value.slice.injEq, true_and] at h
      obtain ⟨_, rfl⟩ := h
      simp only [maxLen] at hcm
      omega
  have hne : ((i : Int) == (n : Int)) = false := by simp; omega
  have HC1 := hide86 (hc1 3 (n - i) (cap - (i + 1)) (n + 1 - i) (cap - i) (by simp only [Nat.min_def]; split <;> omega))
  have HC2 := hide86 (hc2 3 (n + 1 - i) (cap - i) (by omega))
  have H1 : Hid (w2.ownsRow base 3 1 (.slice (some ⟨g, 0, none⟩) (n + 1) cap) (n + 1) (xs.take (i * 1) ++ cs ++ xs.drop (i * 1))) := h1
  have H2 : Hid (w.grownBy w2 (some g)) := h2
  have HO : Hid (∀ lb cb, (callFunc 114 #[.slice (some ⟨vb, 0, none⟩) 1 1, .slice (some ⟨g, i + 1, none⟩) lb cb]).run Try.prog w = .ok (.value (.bool false)) w) := hov
  clear hc1 hc2 h1 h2 hv h1c h1x hcs hvrow hown hsb hkB hsa hfr hov
  go_enter Try.func105, Try.ntmps105
  go_wp2_with (simp only [HO.out])
  have hw1 : IntKind.i64.wrap ((i : Int) + 1) = (i : Int) + 1 := by rw [IntKind.wrap_i64]; omega
  have hb1 : (0 : Int) ≤ (i : Int) + 1 := by omega
  have htn : ((i : Int) + 1).toNat = i + 1 := by omega
  have hb2 : ¬ (cap = i + 1) := by omega
  have hb3 : (i : Int) ≤ (n : Int) + 1 := by omega
  have hb4 : ¬ (cap = i) := by omega
  have hb5 : (i : Int) + 1 ≤ (n : Int) + 1 := by omega
  have hb6 : ¬ (cap = i) := by omega
  have hb7 : (i : Int) ≤ (n : Int) := by omega
  go_region_law (refine step_copy_run _ rfl _ _ 46 46 rfl _ _ (by simp [Act.eval, Act.put]) (by simp [Act.eval, Act.put]) _ w1 HC1.out ?_)
  go_wp2_with (refine wpList_copy_run _ rfl (.tmp 80) (.tmp 81) 46 46 rfl _ _ rfl rfl _ w2 HC2.out ?_)
  go_ret
  exact ⟨_, rfl, H1.out, H2.out, fun k hk => .inl hk⟩

set_option maxRecDepth 100000 in
set_option maxHeartbeats 2000000 in
theorem insert86_grow (base g n cap i vb : Nat) (xs cs : List Value) (w : World) (hown : w.ownsRow base 3 1 (.slice (some ⟨g, 0, none⟩) n cap) n xs) (hbase : base ≤ w.heap.size) (hi : i < n) (hr : cap < n + 1) (hn : n ≤ 900000) (hcs : cs.length = 1)
    (hvrow : w.heap[vb]? = some (.cells cs.toArray 3 (0, 0))) (h1x : ∀ u ∈ xs, u.oneCell' = true) (h1c : ∀ u ∈ cs, u.oneCell' = true) :
    Calls Try.prog 105 #[.slice (some ⟨g, 0, none⟩) n cap, .int .i64 i, .slice (some ⟨vb, 0, none⟩) 1 1] w fun e w' => ∃ v', e = .returned v' ∧ w'.ownsRow base 3 1 v' (n + 1) (xs.take (i * 1) ++ cs ++ xs.drop (i * 1)) ∧ w.grownBy w' (some g) ∧
      (∀ k, v'.ownBlock = some k → some g = some k ∨ w.heap.size ≤ k) := by
  have hv : ∀ j u, cs[j]? = some u → w.cell? ⟨vb, j, none⟩ = some u := fun j u hj => by rw [cell_of_row w vb j _ _ _ hvrow]; simpa using hj
  obtain ⟨i0, hi0, hz0, hz1, hz2⟩ := info_parts infoT3
  have hvl : vb < w.heap.size := (Array.getElem?_eq_some_iff.1 hvrow).1
  obtain ⟨w1, w2, w3, cap2, ha, hge, hcm2, hc1, hc2, h1, h2⟩ := insert_grow_runs (P := Try.prog) 1 (by decide) w 46 3 Try.underlying46 i0 _ hi0 hz0 hz1 (by omega) rfl Try.underlying3 base g n cap i vb xs cs hown hbase hi hr hn hcs hvl hv h1x h1c
  simp only [Nat.mul_one] at hc1 hc2
  have hnc : n ≤ cap := by
    rcases hown.2 with ⟨h, _⟩ | ⟨g', cap', cur, h, _, _, hnc, _⟩
    · cases h
    · simp only [Value.slice.injEq, true_and] at h
      obtain ⟨_, rfl⟩ := h
      exact hnc
  simp only [maxLen] at hcm2
  have hnc2 : (cap2 : Int) ≤ 9223372036854775807 := by omega
  have hne : ((i : Int) == (n : Int)) = false := by simp; omega
  have HA : Hid (∀ ty, (Builtin.append_ #[46, 3] ty #[.slice (some ⟨g, 0, none⟩) i cap, .int .i64 ((n : Int) + 1 - (i : Int))]).run Try.prog w = .ok (.slice (some ⟨w.heap.size, 0, none⟩) (n + 1) cap2) w1) := ha
  have HC1 := hide86 (hc1 3 (n + 1 - i) (cap2 - i) (by omega))
  have HC2 := hide86 (hc2 3 (n - i) (cap2 - (i + 1)) (n - i) (cap - i) (by simp only [Nat.min_def]; split <;> omega))
  have H1 : Hid (w3.ownsRow base 3 1 (.slice (some ⟨w.heap.size, 0, none⟩) (n + 1) cap2) (n + 1) (xs.take (i * 1) ++ cs ++ xs.drop (i * 1))) := h1
  have H2 : Hid (w.grownBy w3 (some g)) := h2
  clear ha hc1 hc2 h1 h2 hv h1c h1x hcs hvrow hown hi0 hz0 hz1 hz2 hcm2
  go_enter Try.func105, Try.ntmps105
  go_wp2_with (first | (at_builtin; refine Lib.wpList_append_run _ rfl (.tmp 34) (.tmp 39) 46 3 rfl _ _ rfl rfl _ w1 (HA.out _) ?_) | refine wpList_copy_run _ rfl (.tmp 43) (.tmp 44) 46 46 rfl _ _ rfl rfl _ w2 HC1.out ?_)
  have hw1 : IntKind.i64.wrap ((i : Int) + 1) = (i : Int) + 1 := by rw [IntKind.wrap_i64]; omega
  have hb1 : (0 : Int) ≤ (i : Int) + 1 := by omega
  have htn : ((i : Int) + 1).toNat = i + 1 := by omega
  have hb2 : ¬ (cap2 = i + 1) := by omega
  have hb3 : (i : Int) ≤ (n : Int) + 1 := by omega
  have hb4 : ¬ (cap2 = i) := by omega
  have hb5 : (i : Int) + 1 ≤ (n : Int) + 1 := by omega
  have hb6 : ¬ (cap = i) := by omega
  have hb7 : (i : Int) ≤ (n : Int) := by omega
  go_simp
  go_region_law (refine step_copy_run _ rfl _ _ 46 46 rfl _ _ (by simp [Act.eval, Act.put]) (by simp [Act.eval, Act.put]) _ w3 HC2.out ?_)
  all_goals
    go_wp2_with fail
    go_ret
    exact ⟨_, rfl, H1.out, H2.out, fun k hk => .inr (by simp [Value.ownBlock] at hk; omega)⟩

theorem insert86_any (base : Nat) (v : Value) (n i vb : Nat) (xs cs : List Value) (w : World) (hown : w.ownsRow base 3 1 v n xs) (hbase : base ≤ w.heap.size) (hi : i ≤ n) (hn : n ≤ 900000) (hcs : cs.length = 1)
    (hvrow : w.heap[vb]? = some (.cells cs.toArray 3 (0, 0))) (hvb : v.ownBlock ≠ some vb) (h1x : ∀ u ∈ xs, u.oneCell' = true) (h1c : ∀ u ∈ cs, u.oneCell' = true) :
    Calls Try.prog 105 #[v, .int .i64 i, .slice (some ⟨vb, 0, none⟩) 1 1] w fun e w' => ∃ v', e = .returned v' ∧ w'.ownsRow base 3 1 v' (n + 1) (xs.take (i * 1) ++ cs ++ xs.drop (i * 1)) ∧ w.grownBy w' v.ownBlock ∧
      (∀ k, v'.ownBlock = some k → v.ownBlock = some k ∨ w.heap.size ≤ k) := by
  have hv : ∀ j u, cs[j]? = some u → w.cell? ⟨vb, j, none⟩ = some u := fun j u hj => by rw [cell_of_row w vb j _ _ _ hvrow]; simpa using hj
  obtain ⟨a, c, rfl⟩ := ownsRow_shape hown
  by_cases he : i = n
  · subst he
    refine (insert86_end base a i c vb xs cs w hown hbase hn hcs hv h1c).mono ?_
    rintro e w' ⟨v', rfl, h1, h2, h3⟩
    refine ⟨v', rfl, ?_, h2, h3⟩
    rw [List.take_of_length_le (by rw [hown.1]; exact Nat.le_refl _), List.drop_eq_nil_of_le (by rw [hown.1]; exact Nat.le_refl _), List.append_nil]
    exact h1
  · obtain ⟨g, c', hg⟩ := ownsRow_some hown (by omega)
    simp only [Value.slice.injEq, true_and] at hg
    obtain ⟨rfl, rfl⟩ := hg
    by_cases hr : n + 1 ≤ c
    · exact insert86_room base g n c i vb xs cs w hown (by omega) hr hn hcs hvrow (fun h => hvb (by simp [Value.ownBlock, h])) h1x h1c
    · exact insert86_grow base g n c i vb xs cs w hown hbase (by omega) (by omega) hn hcs hvrow h1x h1c
end Go.Proofs.Ytoolkpjbbngdpaa
