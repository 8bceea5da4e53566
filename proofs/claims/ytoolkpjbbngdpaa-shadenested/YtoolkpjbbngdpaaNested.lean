/- ShadeNested, walked. -/
import Derived.BigQuiet
import Derived.Test.YtoolkpjbbngdpaaRetMath
namespace Go.Proofs.Ytoolkpjbbngdpaa
open Go.RowKit

set_option maxRecDepth 100000 in
set_option maxHeartbeats 4000000 in
theorem nested_walk (T : List Nd) (v : Value) (a b c : Int) (w : World) (hT : TreeAt w v T) :
    Calls Try.prog 18 #[v, .agg #[.int .i64 a, .int .i64 b, .int .i64 c]] w fun e w' => e = .returned (.bool true) ∧ Below w.heap.size w w' := by
  have HA := hideG ((Below.refl _ w).alloc (Nat.le_refl _) (.cells #[.int .i64 a, .int .i64 b, .int .i64 c] 58))
  have HT0 := hideG hT
  have HT := hideG (hT.below HA.out)
  obtain ⟨ta, tc, rfl⟩ := hT.shape
  clear hT
  cases hs : smallB T
  · go_enter Try.func18, Try.ntmps18
    go_wp2_with (first | (go_at_call 19; refine (refSmall_any T _ _ HT.out).mono ?_; rintro e w1 ⟨rfl, rfl⟩) | (go_at_call 54; refine (live4_any _).mono ?_; rintro e w2 ⟨rfl, hb2⟩; simp only [World.size_alloc] at hb2))
    go_ret
    exact ⟨rfl, HA.out.trans (hb2.mono (by omega))⟩
  · have HS := hideG (small_sane hs)
    have h70 := (smallB_at hs).1
    have h6 : T.length ≤ 1000 := by omega
    cases hab : bothB T a b
    · go_enter Try.func18, Try.ntmps18
      go_wp2_with (go_at_call 19; refine (refSmall_any T _ _ HT.out).mono ?_; rintro e w1 ⟨rfl, hw⟩; subst hw)
      go_quiet (fail)
      have HQ := hideG (below_drewN HA.out nq)
      have HTQ := hideG (HT0.out.below HQ.out)
      generalize (w.alloc (.cells #[.int .i64 a, .int .i64 b, .int .i64 c] 58)).drewN nq = wq at *
      go_wp2_with (first | (go_at_call 38; refine (refBoth_any T HS.out _ _ _ _ HTQ.out).mono ?_; rintro e w1 ⟨rfl, hb1⟩; have HB1 := hideG (HQ.out.trans (hb1.mono HQ.out.size)); clear hb1) | (go_at_call 54; refine (live4_any _).mono ?_; rintro e w2 ⟨rfl, hb2⟩))
      go_ret
      exact ⟨rfl, HB1.out.trans (hb2.mono HB1.out.size)⟩
    · cases hbc : bothB T b c
      · go_enter Try.func18, Try.ntmps18
        go_wp2_with (go_at_call 19; refine (refSmall_any T _ _ HT.out).mono ?_; rintro e w1 ⟨rfl, hw⟩; subst hw)
        go_quiet (fail)
        have HQ := hideG (below_drewN HA.out nq)
        have HTQ := hideG (HT0.out.below HQ.out)
        generalize (w.alloc (.cells #[.int .i64 a, .int .i64 b, .int .i64 c] 58)).drewN nq = wq at *
        go_wp2_with (first | (go_at_call 38; refine (refBoth_any T HS.out _ a b _ HTQ.out).mono ?_; rintro e w1 ⟨rfl, hb1⟩; have HB1 := hideG (HQ.out.trans (hb1.mono HQ.out.size)); have HT1 := hideG (HTQ.out.below hb1); clear hb1 HTQ) | (go_at_call 38; refine (refBoth_any T HS.out _ b c _ HT1.out).mono ?_; rintro e w3 ⟨rfl, hb3⟩; have HB3 := hideG (HB1.out.trans (hb3.mono HB1.out.size)); clear hb3) | (go_at_call 54; refine (live4_any _).mono ?_; rintro e w2 ⟨rfl, hb2⟩))
        go_ret
        exact ⟨rfl, HB3.out.trans (hb2.mono HB3.out.size)⟩
      · obtain ⟨hm, ⟨a, rfl, ha⟩, b, rfl, hb⟩ := both_true hab
        obtain ⟨_, _, c, rfl, hc⟩ := both_true hbc
        cases hcb : aboveS T (c : Int) (b : Int)
        · go_enter Try.func18, Try.ntmps18
          go_wp2_with (go_at_call 19; refine (refSmall_any T _ _ HT.out).mono ?_; rintro e w1 ⟨rfl, hw⟩; subst hw)
          go_quiet (fail)
          have HQ := hideG (below_drewN HA.out nq)
          have HTQ := hideG (HT0.out.below HQ.out)
          generalize (w.alloc (.cells #[.int .i64 (a : Int), .int .i64 (b : Int), .int .i64 (c : Int)] 58)).drewN nq = wq at *
          go_wp2_with (first | (go_at_call 38; refine (refBoth_any T HS.out _ (a : Int) (b : Int) _ HTQ.out).mono ?_; rintro e w1 ⟨rfl, hb1⟩; have HB1 := hideG (HQ.out.trans (hb1.mono HQ.out.size)); have HT1 := hideG (HTQ.out.below hb1); clear hb1 HTQ) | (go_at_call 38; refine (refBoth_any T HS.out _ (b : Int) (c : Int) _ HT1.out).mono ?_; rintro e w3 ⟨rfl, hb3⟩; have HB3 := hideG (HB1.out.trans (hb3.mono HB1.out.size)); have HT3 := hideG (HT1.out.below hb3); clear hb3) | (go_at_call 55; refine (shadeAbove_any T HS.out _ _ _ _ HT3.out h6).mono ?_; rintro e w4 ⟨rfl, hb4⟩; have HB4 := hideG (HB3.out.trans (hb4.mono HB3.out.size)); clear hb4) | (go_at_call 54; refine (live4_any _).mono ?_; rintro e w2 ⟨rfl, hb2⟩))
          go_ret
          exact ⟨rfl, HB4.out.trans (hb2.mono HB4.out.size)⟩
        · have hcm := (above_iff hm hb).mp hcb
          obtain ⟨x1, x2, _, _⟩ := ret_facts hm (supI T (b : Int)) ha
          have hnest := ret_nested hm hb hc hcm ha
          obtain ⟨y1, y2, _, _⟩ := ret_facts hm (supI T (c : Int)) x1
          have e1 := retI_known hm ha hb
          have e2 := retI_known hm ha hc
          have e3 := retI_known hm x1 hc
          rw [hnest] at y1 y2 e3
          have e4 : aboveS T (ret T (supI T (c : Int)) a : Int) (ret T (supI T (b : Int)) a : Int) = true := (above_iff hm x1).mpr y2
          generalize ret T (supI T (b : Int)) a = x at *
          generalize ret T (supI T (c : Int)) a = y at *
          have E1 := hideG e1
          have E2 := hideG e2
          have E3 := hideG e3
          have E4 := hideG e4
          clear e1 e2 e3 e4 hm hcm hnest y1 y2 x2
          go_enter Try.func18, Try.ntmps18
          go_wp2_with (go_at_call 19; refine (refSmall_any T _ _ HT.out).mono ?_; rintro e w1 ⟨rfl, hw⟩; subst hw)
          go_quiet (fail)
          have HQ := hideG (below_drewN HA.out nq)
          have HTQ := hideG (HT0.out.below HQ.out)
          generalize (w.alloc (.cells #[.int .i64 (a : Int), .int .i64 (b : Int), .int .i64 (c : Int)] 58)).drewN nq = wq at *
          go_wp2_with (first | (go_at_call 38; refine (refBoth_any T HS.out _ (a : Int) (b : Int) _ HTQ.out).mono ?_; rintro e w1 ⟨rfl, hb1⟩; have HB1 := hideG (HQ.out.trans (hb1.mono HQ.out.size)); have HT1 := hideG (HTQ.out.below hb1); clear hb1 HTQ) | (go_at_call 38; refine (refBoth_any T HS.out _ (b : Int) (c : Int) _ HT1.out).mono ?_; rintro e w3 ⟨rfl, hb3⟩; have HB3 := hideG (HB1.out.trans (hb3.mono HB1.out.size)); have HT3 := hideG (HT1.out.below hb3); clear hb3 HT1) | (go_at_call 55; refine (shadeAbove_any T HS.out _ (c : Int) (b : Int) _ HT3.out h6).mono ?_; rintro e w4 ⟨rfl, hb4⟩; have HB4 := hideG (HB3.out.trans (hb4.mono HB3.out.size)); have HT4 := hideG (HT3.out.below hb4); clear hb4 HT3) | (go_at_call 56; refine (shadeRetarget_any T HS.out _ (a : Int) (b : Int) _ HT4.out h6).mono ?_; rintro e w5 ⟨rfl, hb5⟩; rw [E1.out]; have HB5 := hideG (HB4.out.trans (hb5.mono HB4.out.size)); have HT5 := hideG (HT4.out.below hb5); clear hb5 HT4) | (go_at_call 56; refine (shadeRetarget_any T HS.out _ (a : Int) (c : Int) _ HT5.out h6).mono ?_; rintro e w6 ⟨rfl, hb6⟩; rw [E2.out]; have HB6 := hideG (HB5.out.trans (hb6.mono HB5.out.size)); have HT6 := hideG (HT5.out.below hb6); clear hb6 HT5) | (go_at_call 55; refine (shadeAbove_any T HS.out _ (y : Int) (x : Int) _ HT6.out h6).mono ?_; rintro e w7 ⟨rfl, hb7⟩; rw [E4.out]; have HB7 := hideG (HB6.out.trans (hb7.mono HB6.out.size)); have HT7 := hideG (HT6.out.below hb7); clear hb7 HT6) | (go_at_call 56; refine (shadeRetarget_any T HS.out _ (x : Int) (c : Int) _ HT7.out h6).mono ?_; rintro e w8 ⟨rfl, hb8⟩; rw [E3.out]; have HB8 := hideG (HB7.out.trans (hb8.mono HB7.out.size)); clear hb8) | (go_at_call 54; refine (live4_any _).mono ?_; rintro e w2 ⟨rfl, hb2⟩))
          go_ret
          exact ⟨rfl, HB8.out.trans (hb2.mono HB8.out.size)⟩
end Go.Proofs.Ytoolkpjbbngdpaa
