/- WSm: New, own, told, small and Same: contracts. -/
import Derived.Test.YtlgbiecgbdbefabWGrps
import Derived.BigQuiet
import Derived.Deep.RegionWith
namespace Go.Proofs.Ytlgbiecgbdbefab
open Go.RowKit

set_option maxHeartbeats 1000000 in
theorem new_any (w : World) : Calls Try.prog 9 #[] w fun e w' => e = .returned (.agg #[.slice none 0 0, .int .i64 1, .bool true]) ∧ Below w.heap.size w w' := by
  go_enter Try.func9, Try.ntmps9
  go_wp2_with fail
  refine bodyPost_ret (v := .agg #[.slice none 0 0, .int .i64 1, .bool true]) (by simp [results, Try.f9, go_sem]) rfl ?_
  exact ⟨rfl, alB _ _⟩
set_option maxHeartbeats 1000000 in
theorem own_any (ga : Option Addr) (gn gc : Nat) (a : Int) (n : Bool) (w : World) : Calls Try.prog 15 #[.agg #[.slice ga gn gc, .int .i64 a, .bool n]] w fun e w' => e = .returned (.agg #[.slice ga gn gc, .int .i64 a, .bool n]) ∧ Below w.heap.size w w' := by
  go_enter Try.func15, Try.ntmps15
  go_wp2_with fail
  refine bodyPost_ret (v := .agg #[.slice ga gn gc, .int .i64 a, .bool n]) (by simp [results, Try.f15, go_sem]) rfl ?_
  exact ⟨rfl, (alB _ _).trans ((alB _ _).mono (by simp))⟩
set_option maxHeartbeats 1000000 in
theorem told_any (ga : Option Addr) (gn gc : Nat) (a : Int) (n : Bool) (w : World) : Calls Try.prog 17 #[.agg #[.slice ga gn gc, .int .i64 a, .bool n]] w fun e w' => e = .returned (.agg #[.slice ga gn gc, .int .i64 a, .bool n]) ∧ Below w.heap.size w w' := by
  go_enter Try.func17, Try.ntmps17
  go_wp2_with fail
  refine bodyPost_ret (v := .agg #[.slice ga gn gc, .int .i64 a, .bool n]) (by simp [results, Try.f17, go_sem]) rfl ?_
  exact ⟨rfl, (alB _ _).trans ((alB _ _).mono (by simp))⟩

instance (g : List (List Int)) (m : Nat) : Decidable (fewG g m) := by unfold fewG; exact inferInstance
def smallG (g : List (List Int)) : Bool := decide (fewG g 60)
theorem smallG_no {g : List (List Int)} {k : Nat} (_h : k < g.length) (hr : 60 < (g.getD k []).length) : smallG g = false := decide_eq_false fun hf => by have := hf.row (j := k); omega
theorem smallG_yes {g : List (List Int)} (h : ∀ k, k < g.length → (g.getD k []).length ≤ 60) : smallG g = decide (g.length ≤ 60) := by
  unfold smallG
  refine decide_eq_decide.mpr ⟨fun h => h.1, fun h1 => ⟨h1, fun l hl => ?_⟩⟩
  obtain ⟨j, hj, rfl⟩ := mem_getD (d := []) hl
  exact h j hj
set_option maxRecDepth 100000 in
set_option maxHeartbeats 2000000 in
theorem small_any (g : List (List Int)) (gv : Value) (a : Int) (n : Bool) (w : World) (hG : GrpsAt w gv g) :
    Calls Try.prog 13 #[.agg #[gv, .int .i64 a, .bool n]] w fun e w' => e = .returned (.bool (smallG g)) ∧ Below w.heap.size w w' := by
  obtain ⟨ga, gc, rfl⟩ := hG.shape
  obtain ⟨W1, hW1⟩ : ∃ W1, w.alloc (.cells #[.slice ga g.length gc, .int .i64 a, .bool n] 33) = W1 := ⟨_, rfl⟩
  have HB := hideG (show Below w.heap.size w W1 by rw [← hW1]; exact alB _ _)
  have HX := hideG (show Box3 W1 w.heap.size (.slice ga g.length gc) (.int .i64 a) (.bool n) by rw [← hW1]; exact Box3.new _ _ _ _ _)
  have HG := hideG hG
  have hgl := hG.1
  have HW1 := hideG hW1
  clear hW1 hG
  go_enter Try.func13, Try.ntmps13
  go_wp2_with fail
  rw [HW1.out]
  clear HW1
  go_loopw [3] (fun i wr => ∃ k : Nat, k ≤ g.length ∧ i = .int .i64 (k : Int) ∧ Below W1.heap.size W1 wr ∧ Hid (∀ j, j < k → (g.getD j []).length ≤ 60)) (fun i _ => g.length - (intOf i).toNat)
  case atStart => exact ⟨0, Nat.zero_le _, rfl, Below.refl _ _, hideG (fun j h => by omega)⟩
  case round =>
    obtain ⟨k, hk, rfl, hB, hle⟩ := hrel
    have HBW := hideG hB
    have HX1 := hideG (HX.out.call hB)
    clear hB
    have c0 := HX1.out.c0
    have clt := HX1.out.lt
    by_cases hlt : k < g.length
    · obtain ⟨b, off, ra, rc, rfl, cR, hI⟩ := ((HG.out.below HB.out).below HBW.out).at hlt
      clear hI
      have HN := hideG (fun h : 60 < (g.getD k []).length => smallG_no hlt h)
      have HY := hideG (fun (h : (g.getD k []).length ≤ 60) (j : Nat) (hj : j < k + 1) => show (g.getD j []).length ≤ 60 from if e : j = k then e ▸ h else hle.out j (by omega))
      generalize (g.getD k []).length = m at *
      clear hle
      by_cases hm : (60 : Int) < (m : Int)
      · go_wp2_with fail
        go_ret
        exact ⟨ret_bool (HN.out (by omega)).symm, HB.out.trans (HBW.out.mono HB.out.size)⟩
      · go_wp2_with fail
        go_roundw
        case rel => exact ⟨k + 1, by omega, by go_num, HBW.out, hideG (HY.out (by omega))⟩
        case measure => simp [intOf]; omega
    · have HY := hideG (smallG_yes (fun j hj => hle.out j (by omega)))
      clear hle
      go_wp2_with fail
      go_ret
      refine ⟨ret_bool ?_, HB.out.trans (HBW.out.mono HB.out.size)⟩
      rw [HY.out, decide_eq_decide]
      omega
end Go.Proofs.Ytlgbiecgbdbefab
