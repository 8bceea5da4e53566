/- slices.Clone at the three element types of the program: a row of the call's own, in new memory, with the same cells. -/
import Derived.Test.YtoolkpjbbngdpaaMay
namespace Go.Proofs.Ytoolkpjbbngdpaa
open Go.RowKit

theorem cell_kept' {w : World} {o : Obj} {a : Addr} {v : Value} (h : w.cell? a = some v) : (w.alloc o).cell? a = some v :=
  (World.cell?_alloc_lt _ _ _ (below_of_cell h)).trans h

theorem infoT3 : (Try.prog.info? 3).map (fun i => (i.zero, i.size, i.bytes)) = some (some (.int .i64 0), 1, 8) := by kernel_rfl

set_option maxHeartbeats 1000000 in
theorem clone80_some (a : Addr) (n cap : Nat) (cs : List Value) (w : World) (hn : n ≤ 1000000) (hl : cs.length = n * 1) (hc : ∀ j u, cs[j]? = some u → w.cell? (a.add j) = some u) (h1 : ∀ u ∈ cs, u.oneCell' = true) :
    Calls Try.prog 99 #[.slice (some a) n cap] w fun e w' => ∃ v', e = .returned v' ∧ w'.ownsRow w.heap.size 3 1 v' n cs ∧ Below w.heap.size w w' ∧ (v' = .slice none 0 0 → False) := by
  obtain ⟨i0, hi, hz0, hz1, hz2⟩ := info_parts infoT3
  have hown : (w.alloc (.cells #[] 3)).ownsRow w.heap.size 3 1 (.slice (some ⟨w.heap.size, 0, none⟩) 0 0) 0 [] := World.ownsRow_made w #[] 0 (Nat.le_refl _) (by simp [maxLen]) rfl
  have HC : Hid (∀ j u, cs[j]? = some u → w.cell? (a.add j) = some u) := hc
  have H1 : Hid (∀ u ∈ cs, u.oneCell' = true) := h1
  have HL : Hid (cs.length = n * 1) := hl
  have he := fun wx => Lib.run_eql_slice_nil (P := Try.prog) wx 46 3 (some a) n cap 0 0 Try.underlying46
  clear hc h1 hl
  go_enter Try.func99, Try.ntmps99
  go_wp2_with (at_builtin; refine wpList_append_own _ rfl (.tmp 5) (.tmp 6) 46 rfl w.heap.size 3 i0 _ 1 8 Try.underlying46 hi hz0 hz1 hz2 rfl (by decide) _ 0 [] rfl hown a n cap cs rfl HL.out ?h1 H1.out ?h2 ?h3 ?h4 ?h5)
  case h1 => exact fun j u hj => cell_kept' (HC.out j u hj)
  case h2 => simp only [maxLen]; omega
  case h3 => omega
  case h4 => simp
  case h5 =>
    intro v' w' hown' hgrow hnil
    go_wp2_with fail
    go_ret
    refine ⟨v', rfl, by simpa using hown', ?_, ?_⟩
    · exact ((Below.refl _ w).alloc (Nat.le_refl _) _).grown hgrow (by simp) (fun k e => by simp [Value.ownBlock] at e; omega)
    · exact hnil

set_option maxHeartbeats 400000 in
theorem clone80_nil (n cap : Nat) (w : World) :
    Calls Try.prog 99 #[.slice none n cap] w fun e w' => e = .returned (.slice none 0 0) ∧ w' = w := by
  have he := fun wx => Lib.run_eql_slice_nil (P := Try.prog) wx 46 3 none n cap 0 0 Try.underlying46
  go_enter Try.func99, Try.ntmps99
  go_wp2_with fail
  go_ret
  exact ⟨rfl, rfl⟩

theorem infoT54 : (Try.prog.info? 72).map (fun i => (i.zero, i.size, i.bytes)) = some (some (.agg #[.int .i64 0, .int .i64 0]), 2, 16) := by kernel_rfl

set_option maxHeartbeats 1000000 in
theorem clone81_some (a : Addr) (n cap : Nat) (cs : List Value) (w : World) (hn : n ≤ 1000000) (hl : cs.length = n * 2) (hc : ∀ j u, cs[j]? = some u → w.cell? (a.add j) = some u) (h1 : ∀ u ∈ cs, u.oneCell' = true) :
    Calls Try.prog 100 #[.slice (some a) n cap] w fun e w' => ∃ v', e = .returned v' ∧ w'.ownsRow w.heap.size 72 2 v' n cs ∧ Below w.heap.size w w' ∧ (v' = .slice none 0 0 → False) := by
  obtain ⟨i0, hi, hz0, hz1, hz2⟩ := info_parts infoT54
  have hown : (w.alloc (.cells #[] 72)).ownsRow w.heap.size 72 2 (.slice (some ⟨w.heap.size, 0, none⟩) 0 0) 0 [] := World.ownsRow_made w #[] 0 (Nat.le_refl _) (by simp [maxLen]) rfl
  have HC : Hid (∀ j u, cs[j]? = some u → w.cell? (a.add j) = some u) := hc
  have H1 : Hid (∀ u ∈ cs, u.oneCell' = true) := h1
  have HL : Hid (cs.length = n * 2) := hl
  have he := fun wx => Lib.run_eql_slice_nil (P := Try.prog) wx 47 72 (some a) n cap 0 0 Try.underlying47
  clear hc h1 hl
  go_enter Try.func100, Try.ntmps100
  go_wp2_with (at_builtin; refine wpList_append_own _ rfl (.tmp 5) (.tmp 6) 47 rfl w.heap.size 72 i0 _ 2 16 Try.underlying47 hi hz0 hz1 hz2 rfl (by decide) _ 0 [] rfl hown a n cap cs rfl HL.out ?h1 H1.out ?h2 ?h3 ?h4 ?h5)
  case h1 => exact fun j u hj => cell_kept' (HC.out j u hj)
  case h2 => simp only [maxLen]; omega
  case h3 => omega
  case h4 => simp
  case h5 =>
    intro v' w' hown' hgrow hnil
    go_wp2_with fail
    go_ret
    refine ⟨v', rfl, by simpa using hown', ?_, ?_⟩
    · exact ((Below.refl _ w).alloc (Nat.le_refl _) _).grown hgrow (by simp) (fun k e => by simp [Value.ownBlock] at e; omega)
    · exact hnil

set_option maxHeartbeats 400000 in
theorem clone81_nil (n cap : Nat) (w : World) :
    Calls Try.prog 100 #[.slice none n cap] w fun e w' => e = .returned (.slice none 0 0) ∧ w' = w := by
  have he := fun wx => Lib.run_eql_slice_nil (P := Try.prog) wx 47 72 none n cap 0 0 Try.underlying47
  go_enter Try.func100, Try.ntmps100
  go_wp2_with fail
  go_ret
  exact ⟨rfl, rfl⟩

theorem infoT49 : (Try.prog.info? 49).map (fun i => (i.zero, i.size, i.bytes)) = some (some (.agg #[.int .i64 0, .int .i64 0, .int .i64 0, .slice none 0 0, .int .i64 0, .int .i64 0, .slice none 0 0]), 7, 88) := by kernel_rfl

set_option maxHeartbeats 1000000 in
theorem clone79_some (a : Addr) (n cap : Nat) (cs : List Value) (w : World) (hn : n ≤ 1000000) (hl : cs.length = n * 7) (hc : ∀ j u, cs[j]? = some u → w.cell? (a.add j) = some u) (h1 : ∀ u ∈ cs, u.oneCell' = true) :
    Calls Try.prog 98 #[.slice (some a) n cap] w fun e w' => ∃ v', e = .returned v' ∧ w'.ownsRow w.heap.size 49 7 v' n cs ∧ Below w.heap.size w w' ∧ (v' = .slice none 0 0 → False) := by
  obtain ⟨i0, hi, hz0, hz1, hz2⟩ := info_parts infoT49
  have hown : (w.alloc (.cells #[] 49)).ownsRow w.heap.size 49 7 (.slice (some ⟨w.heap.size, 0, none⟩) 0 0) 0 [] := World.ownsRow_made w #[] 0 (Nat.le_refl _) (by simp [maxLen]) rfl
  have HC : Hid (∀ j u, cs[j]? = some u → w.cell? (a.add j) = some u) := hc
  have H1 : Hid (∀ u ∈ cs, u.oneCell' = true) := h1
  have HL : Hid (cs.length = n * 7) := hl
  have he := fun wx => Lib.run_eql_slice_nil (P := Try.prog) wx 23 49 (some a) n cap 0 0 Try.underlying23
  clear hc h1 hl
  go_enter Try.func98, Try.ntmps98
  go_wp2_with (at_builtin; refine wpList_append_own _ rfl (.tmp 5) (.tmp 6) 23 rfl w.heap.size 49 i0 _ 7 88 Try.underlying23 hi hz0 hz1 hz2 rfl (by decide) _ 0 [] rfl hown a n cap cs rfl HL.out ?h1 H1.out ?h2 ?h3 ?h4 ?h5)
  case h1 => exact fun j u hj => cell_kept' (HC.out j u hj)
  case h2 => simp only [maxLen]; omega
  case h3 => omega
  case h4 => simp
  case h5 =>
    intro v' w' hown' hgrow hnil
    go_wp2_with fail
    go_ret
    refine ⟨v', rfl, by simpa using hown', ?_, ?_⟩
    · exact ((Below.refl _ w).alloc (Nat.le_refl _) _).grown hgrow (by simp) (fun k e => by simp [Value.ownBlock] at e; omega)
    · exact hnil

set_option maxHeartbeats 400000 in
theorem clone79_nil (n cap : Nat) (w : World) :
    Calls Try.prog 98 #[.slice none n cap] w fun e w' => e = .returned (.slice none 0 0) ∧ w' = w := by
  have he := fun wx => Lib.run_eql_slice_nil (P := Try.prog) wx 23 49 none n cap 0 0 Try.underlying23
  go_enter Try.func98, Try.ntmps98
  go_wp2_with fail
  go_ret
  exact ⟨rfl, rfl⟩

end Go.Proofs.Ytoolkpjbbngdpaa
