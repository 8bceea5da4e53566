/- aim.Parent. -/
import Derived.Test.YtpmacpbhdgigfaaGreatAimMath
namespace Go.Proofs.YtpmacpbhdgigfaaGreat
open Go.RowKit

set_option maxRecDepth 100000 in
set_option maxHeartbeats 4000000 in
theorem aimParent_any (T : List Nd) (hS : Sane T) (v : Value) (n : Int) (e : Ev) (w : World) (hT : TreeAt w v T) :
    Calls Tryz.prog 198 #[v, .int .i64 n, .agg #[.int .i64 e.type, .int .i64 e.target, .int .i64 e.related, .bool e.bub, .bool e.can, .bool e.comp]] w fun x w' => x = .returned (.int .i64 (aimParI T n e)) ∧ Below w.heap.size w w' := by
  have HT := hideG hT
  have HS := hideG hS
  obtain ⟨W0, hW0⟩ : ∃ W0, w.alloc (.cells #[.int .i64 e.type, .int .i64 e.target, .int .i64 e.related, .bool e.bub, .bool e.can, .bool e.comp] 25) = W0 := ⟨_, rfl⟩
  have HB0 := hideG (show Below w.heap.size w W0 by rw [← hW0]; exact (Below.refl _ w).alloc (Nat.le_refl _) _)
  have P1 := hideG (show W0.cell? ⟨w.heap.size, 1, none⟩ = some (.int .i64 e.target) by rw [← hW0]; simp)
  have P5 := hideG (show W0.cell? ⟨w.heap.size, 5, none⟩ = some (.bool e.comp) by rw [← hW0]; simp)
  have HW0 := hideG hW0
  clear hW0
  cases hkt : knownB T [e.target]
  · obtain ⟨ta, tc, rfl⟩ := hT.shape
    have HQ := hideG (show aimParI T n e = -1 by unfold aimParI; rw [hkt]; rfl)
    have E1 := hideG (show topI T e.target = -1 by simp [topI, hkt])
    clear hT hS hkt
    go_enter Tryz.func198, Tryz.ntmps198
    go_wp2_with fail
    rw [HW0.out]
    refine (orderTop_any T HS.out _ _ _ (HT.out.below HB0.out)).mono ?_
    rintro ex w1 ⟨rfl, hb1⟩
    rw [E1.out]
    have HB1 := hideG (HB0.out.trans (hb1.mono HB0.out.size))
    have HX1 := hideG (hb1)
    clear hb1
    go_wp2_with fail
    go_ret
    exact ⟨ret_int HQ.out.symm, HB1.out⟩
  · obtain ⟨hm, tg, htg, htl⟩ := known_one hkt
    have E1 := hideG (show topI T e.target = (topN T tg : Int) by rw [htg]; exact topI_known hm htl)
    have htn : ((topN T tg : Int) == -1) = false := by simp
    cases hkn : knownB T [n]
    · obtain ⟨ta, tc, rfl⟩ := hT.shape
      have HQ := hideG (show aimParI T n e = -1 by unfold aimParI; rw [hkn, Bool.and_false]; rfl)
      have E2 := hideG (show topI T n = -1 by simp [topI, hkn])
      clear hT hS hkt hkn htg hm
      go_enter Tryz.func198, Tryz.ntmps198
      go_wp2_with fail
      rw [HW0.out]
      refine (orderTop_any T HS.out _ _ _ (HT.out.below HB0.out)).mono ?_
      rintro ex w1 ⟨rfl, hb1⟩
      rw [E1.out]
      have HB1 := hideG (HB0.out.trans (hb1.mono HB0.out.size))
      have HX1 := hideG (hb1)
      clear hb1
      go_wp2_with fail
      refine (orderTop_any T HS.out _ _ _ (HT.out.below HB1.out)).mono ?_
      rintro ex w2 ⟨rfl, hb2⟩
      rw [E2.out]
      have HB2 := hideG (HB1.out.trans (hb2.mono HB1.out.size))
      have HX2 := hideG (HX1.out.trans (hb2.mono HX1.out.size))
      clear hb2
      go_wp2_with fail
      go_ret
      exact ⟨ret_int HQ.out.symm, HB2.out⟩
    · obtain ⟨_, m, rfl, hml⟩ := known_one hkn
      have E2 := hideG (topI_known hm hml)
      have hmn : ((topN T m : Int) == -1) = false := by simp
      have hq0 : aimParI T (m : Int) e = parA T tg e.comp m := by unfold aimParI; rw [hkt, hkn, htg]; simp
      obtain ⟨tb, to, tc, rfl, hct⟩ := hT.at (by omega)
      obtain ⟨kv, av, hN⟩ := hct m hml
      have G0 := hideG hN.kind
      have G2 := hideG hN.parent
      have G4 := hideG hN.host
      have hm0 : (0 : Int) ≤ (m : Int) := by omega
      have E0 := ofI_nat hm hml
      rcases ofN_cases hm hml with ho | ⟨s, _, _, ho, _⟩
      · have E3 := hideG (show ofI T (m : Int) = -1 by rw [E0, ho])
        cases hk : ((nd T m).kind == 3)
        · have HQ := hideG (show aimParI T (m : Int) e = (nd T m).parent by rw [hq0]; unfold parA; rw [ho, hk]; rfl)
          have hne : ((nd T m).kind != 3) = true := by simp only [bne, hk]; rfl
          clear hT hS hkt hkn htg hm hct hN hq0 E0 ho hk
          go_enter Tryz.func198, Tryz.ntmps198
          go_wp2_with fail
          rw [HW0.out]
          refine (orderTop_any T HS.out _ _ _ (HT.out.below HB0.out)).mono ?_
          rintro ex w1 ⟨rfl, hb1⟩
          rw [E1.out]
          have HB1 := hideG (HB0.out.trans (hb1.mono HB0.out.size))
          have HX1 := hideG (hb1)
          clear hb1
          go_wp2_with fail
          refine (orderTop_any T HS.out _ _ _ (HT.out.below HB1.out)).mono ?_
          rintro ex w2 ⟨rfl, hb2⟩
          rw [E2.out]
          have HB2 := hideG (HB1.out.trans (hb2.mono HB1.out.size))
          have HX2 := hideG (HX1.out.trans (hb2.mono HX1.out.size))
          clear hb2
          go_wp2_with fail
          refine (slotOf_any T HS.out _ _ _ (HT.out.below HB2.out)).mono ?_
          rintro ex w3 ⟨rfl, hb3⟩
          rw [E3.out]
          have HB3 := hideG (HB2.out.trans (hb3.mono HB2.out.size))
          have HX3 := hideG (HX2.out.trans (hb3.mono HX2.out.size))
          clear hb3
          have g0 := cell_below HB3.out G0.out
          have g2 := cell_below HB3.out G2.out
          go_wp2_with fail
          go_ret
          exact ⟨ret_int HQ.out.symm, HB3.out⟩
        · have hne : ((nd T m).kind != 3) = false := by simp only [bne, hk]; rfl
          by_cases hmt : m = topN T tg
          · have hme : ((m : Int) == (topN T tg : Int)) = true := by simp; omega
            rcases (Bool.eq_false_or_eq_true e.comp).symm with hc | hc
            · have HQ := hideG (show aimParI T (m : Int) e = -1 by
                rw [hq0]; unfold parA; rw [ho, hk, show (m == topN T tg && !e.comp) = true by simp [hmt, hc]]; rfl)
              rw [hc] at P5
              clear hT hS hkt hkn htg hm hct hN hq0 E0 ho hk hmt hc
              go_enter Tryz.func198, Tryz.ntmps198
              go_wp2_with fail
              rw [HW0.out]
              refine (orderTop_any T HS.out _ _ _ (HT.out.below HB0.out)).mono ?_
              rintro ex w1 ⟨rfl, hb1⟩
              rw [E1.out]
              have HB1 := hideG (HB0.out.trans (hb1.mono HB0.out.size))
              have HX1 := hideG (hb1)
              clear hb1
              go_wp2_with fail
              refine (orderTop_any T HS.out _ _ _ (HT.out.below HB1.out)).mono ?_
              rintro ex w2 ⟨rfl, hb2⟩
              rw [E2.out]
              have HB2 := hideG (HB1.out.trans (hb2.mono HB1.out.size))
              have HX2 := hideG (HX1.out.trans (hb2.mono HX1.out.size))
              clear hb2
              go_wp2_with fail
              refine (slotOf_any T HS.out _ _ _ (HT.out.below HB2.out)).mono ?_
              rintro ex w3 ⟨rfl, hb3⟩
              rw [E3.out]
              have HB3 := hideG (HB2.out.trans (hb3.mono HB2.out.size))
              have HX3 := hideG (HX2.out.trans (hb3.mono HX2.out.size))
              clear hb3
              have g0 := cell_below HB3.out G0.out
              have p5 := cell_below HX3.out P5.out
              go_wp2_with fail
              go_ret
              exact ⟨ret_int HQ.out.symm, HB3.out⟩
            · have HQ := hideG (show aimParI T (m : Int) e = (nd T m).host by
                rw [hq0]; unfold parA; rw [ho, hk, show (m == topN T tg && !e.comp) = false by simp [hc]]; rfl)
              rw [hc] at P5
              clear hT hS hkt hkn htg hm hct hN hq0 E0 ho hk hmt hc
              go_enter Tryz.func198, Tryz.ntmps198
              go_wp2_with fail
              rw [HW0.out]
              refine (orderTop_any T HS.out _ _ _ (HT.out.below HB0.out)).mono ?_
              rintro ex w1 ⟨rfl, hb1⟩
              rw [E1.out]
              have HB1 := hideG (HB0.out.trans (hb1.mono HB0.out.size))
              have HX1 := hideG (hb1)
              clear hb1
              go_wp2_with fail
              refine (orderTop_any T HS.out _ _ _ (HT.out.below HB1.out)).mono ?_
              rintro ex w2 ⟨rfl, hb2⟩
              rw [E2.out]
              have HB2 := hideG (HB1.out.trans (hb2.mono HB1.out.size))
              have HX2 := hideG (HX1.out.trans (hb2.mono HX1.out.size))
              clear hb2
              go_wp2_with fail
              refine (slotOf_any T HS.out _ _ _ (HT.out.below HB2.out)).mono ?_
              rintro ex w3 ⟨rfl, hb3⟩
              rw [E3.out]
              have HB3 := hideG (HB2.out.trans (hb3.mono HB2.out.size))
              have HX3 := hideG (HX2.out.trans (hb3.mono HX2.out.size))
              clear hb3
              have g0 := cell_below HB3.out G0.out
              have g4 := cell_below HB3.out G4.out
              have p5 := cell_below HX3.out P5.out
              go_wp2_with fail
              go_ret
              exact ⟨ret_int HQ.out.symm, HB3.out⟩
          · have hme : ((m : Int) == (topN T tg : Int)) = false := by simp; omega
            have HQ := hideG (show aimParI T (m : Int) e = (nd T m).host by
              rw [hq0]; unfold parA; rw [ho, hk, show (m == topN T tg && !e.comp) = false by simp [hmt]]; rfl)
            clear hT hS hkt hkn htg hm hct hN hq0 E0 ho hk hmt
            go_enter Tryz.func198, Tryz.ntmps198
            go_wp2_with fail
            rw [HW0.out]
            refine (orderTop_any T HS.out _ _ _ (HT.out.below HB0.out)).mono ?_
            rintro ex w1 ⟨rfl, hb1⟩
            rw [E1.out]
            have HB1 := hideG (HB0.out.trans (hb1.mono HB0.out.size))
            have HX1 := hideG (hb1)
            clear hb1
            go_wp2_with fail
            refine (orderTop_any T HS.out _ _ _ (HT.out.below HB1.out)).mono ?_
            rintro ex w2 ⟨rfl, hb2⟩
            rw [E2.out]
            have HB2 := hideG (HB1.out.trans (hb2.mono HB1.out.size))
            have HX2 := hideG (HX1.out.trans (hb2.mono HX1.out.size))
            clear hb2
            go_wp2_with fail
            refine (slotOf_any T HS.out _ _ _ (HT.out.below HB2.out)).mono ?_
            rintro ex w3 ⟨rfl, hb3⟩
            rw [E3.out]
            have HB3 := hideG (HB2.out.trans (hb3.mono HB2.out.size))
            have HX3 := hideG (HX2.out.trans (hb3.mono HX2.out.size))
            clear hb3
            have g0 := cell_below HB3.out G0.out
            have g4 := cell_below HB3.out G4.out
            have p5 := cell_below HX3.out P5.out
            go_wp2_with fail
            go_ret
            exact ⟨ret_int HQ.out.symm, HB3.out⟩
      · have E3 := hideG (show ofI T (m : Int) = (s : Int) by rw [E0, ho])
        have hsn : ((s : Int) == -1) = false := by simp
        have hsm : ((s : Int) != -1) = true := by simp
        have HQ := hideG (show aimParI T (m : Int) e = (s : Int) by rw [hq0]; unfold parA; rw [ho, hsn]; rfl)
        clear hT hS hkt hkn htg hm hct hN hq0 E0 ho
        go_enter Tryz.func198, Tryz.ntmps198
        go_wp2_with fail
        rw [HW0.out]
        refine (orderTop_any T HS.out _ _ _ (HT.out.below HB0.out)).mono ?_
        rintro ex w1 ⟨rfl, hb1⟩
        rw [E1.out]
        have HB1 := hideG (HB0.out.trans (hb1.mono HB0.out.size))
        have HX1 := hideG (hb1)
        clear hb1
        go_wp2_with fail
        refine (orderTop_any T HS.out _ _ _ (HT.out.below HB1.out)).mono ?_
        rintro ex w2 ⟨rfl, hb2⟩
        rw [E2.out]
        have HB2 := hideG (HB1.out.trans (hb2.mono HB1.out.size))
        have HX2 := hideG (HX1.out.trans (hb2.mono HX1.out.size))
        clear hb2
        go_wp2_with fail
        refine (slotOf_any T HS.out _ _ _ (HT.out.below HB2.out)).mono ?_
        rintro ex w3 ⟨rfl, hb3⟩
        rw [E3.out]
        have HB3 := hideG (HB2.out.trans (hb3.mono HB2.out.size))
        have HX3 := hideG (HX2.out.trans (hb3.mono HX2.out.size))
        clear hb3
        go_wp2_with fail
        go_ret
        exact ⟨ret_int HQ.out.symm, HB3.out⟩
end Go.Proofs.YtpmacpbhdgigfaaGreat
