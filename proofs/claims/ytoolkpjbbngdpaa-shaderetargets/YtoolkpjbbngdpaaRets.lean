/- ShadeRetargets, walked. -/
import Derived.Test.YtoolkpjbbngdpaaRetMath
namespace Go.Proofs.Ytoolkpjbbngdpaa
open Go.RowKit

set_option maxRecDepth 100000 in
set_option maxHeartbeats 4000000 in
theorem rets_walk (T : List Nd) (v : Value) (a b : Int) (w : World) (hT : TreeAt w v T) :
    Calls Try.prog 15 #[v, .int .i64 a, .int .i64 b] w fun e w' => e = .returned (.bool true) ∧ Below w.heap.size w w' := by
  have HT := hideG hT
  cases hs : smallB T
  · obtain ⟨ta, tc, rfl⟩ := hT.shape
    clear hT
    go_enter Try.func15, Try.ntmps15
    go_wp2_with (first | (go_at_call 19; refine (refSmall_any T _ _ HT.out).mono ?_; rintro e w1 ⟨rfl, rfl⟩) | (go_at_call 54; refine (live4_any _).mono ?_; rintro e w2 ⟨rfl, hb2⟩))
    go_ret
    exact ⟨rfl, hb2⟩
  · have HS := hideG (small_sane hs)
    have h70 := (smallB_at hs).1
    have h6 : T.length ≤ 1000 := by omega
    cases hbo : bothB T a b
    · obtain ⟨ta, tc, rfl⟩ := hT.shape
      clear hT
      go_enter Try.func15, Try.ntmps15
      go_wp2_with (first | (go_at_call 19; refine (refSmall_any T _ _ HT.out).mono ?_; rintro e w1 ⟨rfl, hw⟩; subst hw) | (go_at_call 38; refine (refBoth_any T HS.out _ _ _ _ HT.out).mono ?_; rintro e w1 ⟨rfl, hb1⟩) | (go_at_call 54; refine (live4_any _).mono ?_; rintro e w2 ⟨rfl, hb2⟩))
      go_ret
      exact ⟨rfl, hb1.trans (hb2.mono hb1.size)⟩
    · obtain ⟨hm, ⟨a, rfl, ha⟩, b, rfl, hb⟩ := both_true hbo
      obtain ⟨tb, to, tc, rfl, hct⟩ := hT.at (by omega)
      obtain ⟨f1, f2, f3, f4⟩ := ret_facts hm (supI T (b : Int)) ha
      have HM := hideG hm
      have e1 := retI_known hm ha hb
      have e2 : retI T (ret T (supI T (b : Int)) a : Int) (b : Int) = (ret T (supI T (b : Int)) a : Int) := by rw [retI_known hm f1 hb, ret_stop f3]
      have e3 : retI T (a : Int) (a : Int) = (a : Int) := by rw [retI_known hm ha ha, ret_self hm ha]
      have e4 : aboveS T (ret T (supI T (b : Int)) a : Int) (a : Int) = true := (above_iff hm ha).mpr f2
      have htl := (sup_split hm f1).1
      generalize hr : ret T (supI T (b : Int)) a = r at *
      obtain ⟨kt, at_, hNt⟩ := hct (topN T r) htl
      obtain ⟨kr, ar, hNr⟩ := hct r f1
      have gk := hNt.kind
      have gr := hNr.root
      have E1 := hideG e1
      have E2 := hideG e2
      have E3 := hideG e3
      have E4 := hideG e4
      have E5 := hideG f3
      clear hNt hNr hct hT hm e1 e2 e3 e4 f2 f3 hr
      have hor : (((nd T (topN T r)).kind == 3) = false) ∨ (((nd T (topN T r)).kind == 3) = true ∧ aboveS T (topN T r : Int) (b : Int) = true) := by
        cases hk : ((nd T (topN T r)).kind == 3)
        · exact .inl rfl
        · refine .inr ⟨rfl, ?_⟩
          have := E5.out
          have hk' : (nd T (topN T r)).kind = 3 := by simpa using hk
          rw [hk'] at this
          simpa [aboveS] using this
      have hf4 : (((r : Int) == (a : Int)) = true) ∨ (((r : Int) == (a : Int)) = false ∧ ((nd T r).root != -1) = true) := by
        cases hx : ((r : Int) == (a : Int))
        · right
          rcases f4 with e | e
          · rw [e] at hx; simp at hx
          · exact ⟨rfl, e⟩
        · exact .inl rfl
      clear f4
      rcases hor with hk | ⟨hk, hab⟩ <;> rcases hf4 with hx | ⟨hx, hroot⟩
      all_goals
        go_enter Try.func15, Try.ntmps15
        go_wp2_with (first | (go_at_call 19; refine (refSmall_any T _ _ HT.out).mono ?_; rintro e w1 ⟨rfl, hw⟩; subst hw) | (go_at_call 38; refine (refBoth_any T HS.out _ _ _ _ HT.out).mono ?_; rintro e w2 ⟨rfl, hb2⟩; have HT2 := hideG (HT.out.below hb2); have HB2 := hideG hb2; clear hb2) | (go_at_call 56; refine (shadeRetarget_any T HS.out _ (a : Int) (b : Int) _ HT2.out h6).mono ?_; rintro e w3 ⟨rfl, hb3⟩; rw [E1.out]; have HT3 := hideG (HT2.out.below hb3); have HB3 := hideG (HB2.out.trans (hb3.mono HB2.out.size)); clear hb3 HT2) | (go_at_call 55; refine (shadeAbove_any T HS.out _ (r : Int) (a : Int) _ HT3.out h6).mono ?_; rintro e w4 ⟨rfl, hb4⟩; rw [E4.out]; have HT4 := hideG (HT3.out.below hb4); have HB4 := hideG (HB3.out.trans (hb4.mono HB3.out.size)); clear hb4 HT3) | (go_at_call 48; refine (refTop3_any T HM.out _ r f1 _ HT4.out).mono ?_; rintro e w5 ⟨rfl, hb5⟩; have HT5 := hideG (HT4.out.below hb5); have HB5 := hideG (HB4.out.trans (hb5.mono HB4.out.size)); have gk5 := cell_below HB5.out gk; clear hb5 HT4) | (go_at_call 55; refine (shadeAbove_any T HS.out _ (topN T r : Int) (b : Int) _ HT5.out h6).mono ?_; rintro e w6 ⟨rfl, hb6⟩; have HT5' := hideG (HT5.out.below hb6); have HB5' := hideG (HB5.out.trans (hb6.mono HB5.out.size)); clear hb6 HT5 HB5; have HT5 := HT5'; have HB5 := HB5') | (go_at_call 56; refine (shadeRetarget_any T HS.out _ (r : Int) (b : Int) _ HT5.out h6).mono ?_; rintro e w7 ⟨rfl, hb7⟩; rw [E2.out]; have HT7 := hideG (HT5.out.below hb7); have HB7 := hideG (HB5.out.trans (hb7.mono HB5.out.size)); have gr7 := cell_below HB7.out gr; clear hb7 HT5) | (go_at_call 56; refine (shadeRetarget_any T HS.out _ (a : Int) (a : Int) _ HT7.out h6).mono ?_; rintro e w8 ⟨rfl, hb8⟩; rw [E3.out]; have HB8 := hideG (HB7.out.trans (hb8.mono HB7.out.size)); clear hb8) | (go_at_call 54; refine (live4_any _).mono ?_; rintro e w9 ⟨rfl, hb9⟩))
        go_ret
        exact ⟨rfl, HB8.out.trans (hb9.mono HB8.out.size)⟩
end Go.Proofs.Ytoolkpjbbngdpaa
