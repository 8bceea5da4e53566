/- The document's own Parent and stop of layer 7. -/
import Derived.Test.YtgfdcllpmjhkeaaAim6
import Derived.Test.YtgfdcllpmjhkeaaSlotsR
namespace Go.Proofs.Ytgfdcllpmjhkeaa
open Go.RowKit

set_option maxRecDepth 100000 in
set_option maxHeartbeats 4000000 in
theorem refParent7_any (T : List Nd) (hm : mayB T = true) (hS : Sane T) (v : Value) (n tg : Nat) (hn : n < T.length) (htl : tg < T.length) (e : Ev) (he : e.target = (tg : Int)) (w : World) (hT : TreeAt w v T) :
    Calls Try.prog 18 #[v, .int .i64 (n : Int), .agg #[.int .i64 e.type, .int .i64 e.target, .int .i64 e.related, .bool e.bub, .bool e.can, .bool e.comp]] w fun x w' => x = .returned (.int .i64 (parA T tg e.comp n)) ∧ Below w.heap.size w w' := by
  have HT := hideG hT
  have HS := hideG hS
  have HM := hideG hm
  obtain ⟨W0, hW0⟩ : ∃ W0, w.alloc (.cells #[.int .i64 e.type, .int .i64 e.target, .int .i64 e.related, .bool e.bub, .bool e.can, .bool e.comp] 25) = W0 := ⟨_, rfl⟩
  have HB0 := hideG (show Below w.heap.size w W0 by rw [← hW0]; exact (Below.refl _ w).alloc (Nat.le_refl _) _)
  have P1 := hideG (show W0.cell? ⟨w.heap.size, 1, none⟩ = some (.int .i64 (tg : Int)) by rw [← hW0, ← he]; simp)
  have P5 := hideG (show W0.cell? ⟨w.heap.size, 5, none⟩ = some (.bool e.comp) by rw [← hW0]; simp)
  have HW0 := hideG hW0
  obtain ⟨tb, to, tc, rfl, hct⟩ := hT.at (by omega)
  obtain ⟨kv, av, hN⟩ := hct n hn
  have G0 := hideG hN.kind
  have G2 := hideG hN.parent
  have G4 := hideG hN.host
  have hn0 : (0 : Int) ≤ (n : Int) := by omega
  rcases ofN_cases hm hn with ho | ⟨s, _, _, ho, _⟩
  · have E3 := hideG ho
    cases hk : ((nd T n).kind == 3)
    · have HQ := hideG (show parA T tg e.comp n = (nd T n).parent by unfold parA; rw [ho, hk]; rfl)
      have hne : ((nd T n).kind != 3) = true := by simp only [bne, hk]; rfl
      clear hT hS hm hct hN ho hk hW0 he
      go_enter Try.func18, Try.ntmps18
      go_wp2_with fail
      rw [HW0.out]
      refine (refOf5_any T HM.out HS.out _ n hn _ (HT.out.below HB0.out)).mono ?_
      rintro ex w1 ⟨rfl, hb1⟩
      rw [E3.out]
      have HB1 := hideG (HB0.out.trans (hb1.mono HB0.out.size))
      have HX1 := hideG hb1
      clear hb1
      have g0 := cell_below HB1.out G0.out
      have g2 := cell_below HB1.out G2.out
      have g4 := cell_below HB1.out G4.out
      have p1 := cell_below HX1.out P1.out
      have p5 := cell_below HX1.out P5.out
      go_wp2_with fail
      go_ret
      exact ⟨ret_int HQ.out.symm, HB1.out⟩
    · have hne : ((nd T n).kind != 3) = false := by simp only [bne, hk]; rfl
      rcases (Bool.eq_false_or_eq_true e.comp).symm with hc | hc
      · rw [hc] at P5
        cases hmt : (n == topN T tg)
        · have hme : ((topN T tg : Int) == (n : Int)) = false := by simp at hmt; simp; omega
          have HQ := hideG (show parA T tg e.comp n = (nd T n).host by unfold parA; rw [ho, hk, hmt]; rfl)
          clear hT hS hm hct hN ho hk hmt hc hW0 he
          go_enter Try.func18, Try.ntmps18
          go_wp2_with fail
          rw [HW0.out]
          refine (refOf5_any T HM.out HS.out _ n hn _ (HT.out.below HB0.out)).mono ?_
          rintro ex w1 ⟨rfl, hb1⟩
          rw [E3.out]
          have HB1 := hideG (HB0.out.trans (hb1.mono HB0.out.size))
          have HX1 := hideG hb1
          clear hb1
          have g0 := cell_below HB1.out G0.out
          have g2 := cell_below HB1.out G2.out
          have g4 := cell_below HB1.out G4.out
          have p1 := cell_below HX1.out P1.out
          have p5 := cell_below HX1.out P5.out
          go_wp2_with (go_at_call 23; refine (refTop3_any T HM.out _ tg htl _ (HT.out.below HB1.out)).mono ?_; rintro ex w2 ⟨rfl, hb2⟩; have HB2 := hideG (HB1.out.trans (hb2.mono HB1.out.size)); have g4' := cell_below HB2.out G4.out; clear hb2)
          go_ret
          exact ⟨ret_int HQ.out.symm, HB2.out⟩
        · have hme : ((topN T tg : Int) == (n : Int)) = true := by simp at hmt; simp; omega
          have HQ := hideG (show parA T tg e.comp n = -1 by unfold parA; rw [ho, hk, hmt, hc]; rfl)
          clear hT hS hm hct hN ho hk hmt hc hW0 he
          go_enter Try.func18, Try.ntmps18
          go_wp2_with fail
          rw [HW0.out]
          refine (refOf5_any T HM.out HS.out _ n hn _ (HT.out.below HB0.out)).mono ?_
          rintro ex w1 ⟨rfl, hb1⟩
          rw [E3.out]
          have HB1 := hideG (HB0.out.trans (hb1.mono HB0.out.size))
          have HX1 := hideG hb1
          clear hb1
          have g0 := cell_below HB1.out G0.out
          have g2 := cell_below HB1.out G2.out
          have g4 := cell_below HB1.out G4.out
          have p1 := cell_below HX1.out P1.out
          have p5 := cell_below HX1.out P5.out
          go_wp2_with (go_at_call 23; refine (refTop3_any T HM.out _ tg htl _ (HT.out.below HB1.out)).mono ?_; rintro ex w2 ⟨rfl, hb2⟩; have HB2 := hideG (HB1.out.trans (hb2.mono HB1.out.size)); have g4' := cell_below HB2.out G4.out; clear hb2)
          go_ret
          exact ⟨ret_int HQ.out.symm, HB2.out⟩
      · rw [hc] at P5
        have HQ := hideG (show parA T tg e.comp n = (nd T n).host by unfold parA; rw [ho, hk, hc]; simp)
        clear hT hS hm hct hN ho hk hc hW0 he
        go_enter Try.func18, Try.ntmps18
        go_wp2_with fail
        rw [HW0.out]
        refine (refOf5_any T HM.out HS.out _ n hn _ (HT.out.below HB0.out)).mono ?_
        rintro ex w1 ⟨rfl, hb1⟩
        rw [E3.out]
        have HB1 := hideG (HB0.out.trans (hb1.mono HB0.out.size))
        have HX1 := hideG hb1
        clear hb1
        have g0 := cell_below HB1.out G0.out
        have g2 := cell_below HB1.out G2.out
        have g4 := cell_below HB1.out G4.out
        have p1 := cell_below HX1.out P1.out
        have p5 := cell_below HX1.out P5.out
        go_wp2_with fail
        go_ret
        exact ⟨ret_int HQ.out.symm, HB1.out⟩
  · have E3 := hideG ho
    have hsn : ((s : Int) == -1) = false := by simp
    have hsm : ((s : Int) != -1) = true := by simp
    have HQ := hideG (show parA T tg e.comp n = (s : Int) by unfold parA; rw [ho, hsn]; rfl)
    clear hT hS hm hct hN ho hW0 he
    go_enter Try.func18, Try.ntmps18
    go_wp2_with fail
    rw [HW0.out]
    refine (refOf5_any T HM.out HS.out _ n hn _ (HT.out.below HB0.out)).mono ?_
    rintro ex w1 ⟨rfl, hb1⟩
    rw [E3.out]
    have HB1 := hideG (HB0.out.trans (hb1.mono HB0.out.size))
    have HX1 := hideG hb1
    clear hb1
    go_wp2_with fail
    go_ret
    exact ⟨ret_int HQ.out.symm, HB1.out⟩
end Go.Proofs.Ytgfdcllpmjhkeaa
