/- AimHides, walked. -/
import Derived.Test.YtgfdcllpmjhkeaaA7Tell
import Derived.Test.YtgfdcllpmjhkeaaHid7
namespace Go.Proofs.Ytgfdcllpmjhkeaa
open Go.RowKit

set_option maxRecDepth 100000 in
set_option maxHeartbeats 8000000 in
theorem aimHides_walk (T : List Nd) (v : Value) (e : Ev) (w : World) (hT : TreeAt w v T) :
    Calls Try.prog 5 #[v, .agg #[.int .i64 e.type, .int .i64 e.target, .int .i64 e.related, .bool e.bub, .bool e.can, .bool e.comp]] w fun x w' => x = .returned (.bool true) ∧ Below w.heap.size w w' := by
  obtain ⟨ta, tc, rfl⟩ := hT.shape
  obtain ⟨W0, hW0⟩ : ∃ W0, w.alloc (.cells #[.int .i64 e.type, .int .i64 e.target, .int .i64 e.related, .bool e.bub, .bool e.can, .bool e.comp] 25) = W0 := ⟨_, rfl⟩
  have HB0 := hideG (show Below w.heap.size w W0 by rw [← hW0]; exact (Below.refl _ w).alloc (Nat.le_refl _) _)
  have HX0 := hideG (Below.refl W0.heap.size W0)
  have P0 := hideG (show W0.cell? ⟨w.heap.size, 0, none⟩ = some (.int .i64 e.type) by rw [← hW0]; simp)
  have P1 := hideG (show W0.cell? ⟨w.heap.size, 1, none⟩ = some (.int .i64 e.target) by rw [← hW0]; simp)
  have P2 := hideG (show W0.cell? ⟨w.heap.size, 2, none⟩ = some (.int .i64 e.related) by rw [← hW0]; simp)
  have P3 := hideG (show W0.cell? ⟨w.heap.size, 3, none⟩ = some (.bool e.bub) by rw [← hW0]; simp)
  have P4 := hideG (show W0.cell? ⟨w.heap.size, 4, none⟩ = some (.bool e.can) by rw [← hW0]; simp)
  have P5 := hideG (show W0.cell? ⟨w.heap.size, 5, none⟩ = some (.bool e.comp) by rw [← hW0]; simp)
  have HT0 := hideG (hT.below HB0.out)
  have HW0 := hideG hW0
  clear hW0 hT
  cases hs : fewB T
  · go_enter Try.func5, Try.ntmps5
    go_wp2_with fail
    rw [HW0.out]
    refine (refFew_any T _ _ HT0.out).mono ?_
    rintro ex wz ⟨rfl, hwz⟩
    obtain rfl : _ = wz := hwz.symm
    go_wp2_with fail
    refine (live7_any _).mono ?_
    rintro ex w1 ⟨rfl, hb1⟩
    have HB1 := hideG (HB0.out.trans (hb1.mono HB0.out.size))
    clear hb1
    go_wp2_with fail
    go_ret
    exact ⟨rfl, HB1.out⟩
  · have HS := hideG (small_sane (few_small hs))
    have h6 := few_len hs
    cases hb : bothB T e.target e.target
    · have EB := hideG hb
      clear hb
      go_enter Try.func5, Try.ntmps5
      go_wp2_with fail
      rw [HW0.out]
      refine (refFew_any T _ _ HT0.out).mono ?_
      rintro ex wz ⟨rfl, hwz⟩
      obtain rfl : _ = wz := hwz.symm
      have p1x0 := cell_below HX0.out P1.out
      go_wp2_with fail
      refine (refBoth_any T HS.out _ _ _ _ HT0.out).mono ?_
      rintro ex w1 ⟨rfl, hb1⟩
      rw [EB.out]
      clear p1x0
      have HT1 := hideG (HT0.out.below hb1)
      have HB1 := hideG (HB0.out.trans (hb1.mono HB0.out.size))
      have HX1 := hideG (HX0.out.trans (hb1.mono HX0.out.size))
      clear hb1
      go_wp2_with fail
      refine (live7_any _).mono ?_
      rintro ex w2 ⟨rfl, hb2⟩
      have HB2 := hideG (HB1.out.trans (hb2.mono HB1.out.size))
      clear hb2
      go_wp2_with fail
      go_ret
      exact ⟨rfl, HB2.out⟩
    · obtain ⟨hm, ⟨tg, htg, htl⟩, _⟩ := both_true hb
      have EB := hideG hb
      have HM := hideG hm
      have HTG := hideG htg
      have HPL := hideG (pathI_le (T := T) e)
      have HAT := hideG (fun k (hk : k < (pathI T e).length) => path_at hm htg htl hk)
      have HTW0 := hideG (fun k j (hk : k < (pathI T e).length) (hj : j < k) => path_twice hm htg htl hk hj)
      have hfi := path_first hm htg htl
      have hon := one_first hm htg htl
      rw [← htg] at hon
      clear hb hm htg
      rcases hfi with ⟨ho, hpe⟩ | ⟨ho, hp0, hf0, hf1⟩
      · rw [ho] at hon
        have h3 := hon.symm
        simp only [Bool.and_eq_true] at h3
        obtain ⟨⟨hin, hne⟩, hrt⟩ := h3
        obtain ⟨r, hre, hrl⟩ := isNodeB_true hin
        have HPE := hideG hpe
        have HIN := hideG hin
        have HRE := hideG hre
        clear ho hpe hon hin hre
        go_enter Try.func5, Try.ntmps5
        go_wp2_with fail
        rw [HW0.out]
        refine (refFew_any T _ _ HT0.out).mono ?_
        rintro ex wz ⟨rfl, hwz⟩
        obtain rfl : _ = wz := hwz.symm
        have p0x0 := cell_below HX0.out P0.out
        have p1x0 := cell_below HX0.out P1.out
        have p2x0 := cell_below HX0.out P2.out
        have p3x0 := cell_below HX0.out P3.out
        have p4x0 := cell_below HX0.out P4.out
        have p5x0 := cell_below HX0.out P5.out
        go_wp2_with fail
        refine (refBoth_any T HS.out _ _ _ _ HT0.out).mono ?_
        rintro ex w1 ⟨rfl, hb1⟩
        rw [EB.out]
        clear p0x0 p1x0 p2x0 p3x0 p4x0 p5x0
        have HT1 := hideG (HT0.out.below hb1)
        have HB1 := hideG (HB0.out.trans (hb1.mono HB0.out.size))
        have HX1 := hideG (HX0.out.trans (hb1.mono HX0.out.size))
        clear hb1
        have p0x1 := cell_below HX1.out P0.out
        have p1x1 := cell_below HX1.out P1.out
        have p2x1 := cell_below HX1.out P2.out
        have p3x1 := cell_below HX1.out P3.out
        have p4x1 := cell_below HX1.out P4.out
        have p5x1 := cell_below HX1.out P5.out
        go_wp2_with fail
        refine (path_any T HS.out _ e _ HT1.out h6).mono ?_
        rintro ex w2 ⟨a2, c2, rfl, ho2, hb2⟩
        clear p0x1 p1x1 p2x1 p3x1 p4x1 p5x1
        have HT2 := hideG (HT1.out.below hb2)
        have HB2 := hideG (HB1.out.trans (hb2.mono HB1.out.size))
        have HX2 := hideG (HX1.out.trans (hb2.mono HX1.out.size))
        clear hb2
        have HA2 := hideG (ownsRow_stCells ho2)
        clear ho2
        have p1x2 := cell_below HX2.out P1.out
        have p2x2 := cell_below HX2.out P2.out
        go_wp2_with fail
        refine (refIs_any _ _ _ _ _).mono ?_
        rintro ex wz ⟨rfl, hwz⟩
        rw [HIN.out]
        obtain rfl : _ = wz := hwz.symm
        have HR := hideG (show ∀ U, Below w2.heap.size w2 U → Calls Try.prog 21 #[.slice ta T.length tc, .int .i64 e.related, .int .i64 e.target] U (fun x w' => x = .returned (.int .i64 (retI T e.related e.target)) ∧ Below w2.heap.size w2 w') from fun U hU => by
          rw [HRE.out, HTG.out]
          refine (refRet4_any T HM.out _ r tg hrl htl U (HT2.out.below hU)).mono ?_
          rintro x w' ⟨rfl, hb⟩
          exact ⟨by rw [retI_known HM.out hrl htl], hU.trans (hb.mono hU.size)⟩)
        go_wp2_with fail
        have hcc : ∀ (d : Calm w2) (b o : Nat), b < w2.heap.size → d.to.cell? ⟨b, o, none⟩ = w2.cell? ⟨b, o, none⟩ := calmCell
        have hbw : w.heap.size < w2.heap.size := below_of_cell p1x2
        refine wp_region_calm (by kernel_rfl) (by kernel_rfl) ?_
        repeat (go_big_quiet_step (first | (go_at_call 21; refine Calls.mono (HR.out _ (Calm.below _)) ?_; rintro ex wq ⟨rfl, hb⟩; exact ⟨rfl, ⟨wq, hb⟩, rfl⟩)))
        refine wpQuiet_nil ?_
        intro _ hw'
        obtain ⟨dq, hw''⟩ := hw'
        subst hw''
        have hb3 := dq.below
        generalize dq.to = w3 at *
        clear dq hcc p1x2 p2x2 HR hrt
        have HT3 := hideG (HT2.out.below hb3)
        have HB3 := hideG (HB2.out.trans (hb3.mono HB2.out.size))
        have HX3 := hideG (HX2.out.trans (hb3.mono HX2.out.size))
        clear hb3
        rw [HPE.out]
        go_wp2_with fail
        refine (live7_any _).mono ?_
        rintro ex w4 ⟨rfl, hb4⟩
        have HB4 := hideG (HB3.out.trans (hb4.mono HB3.out.size))
        clear hb4
        go_wp2_with fail
        go_ret
        exact ⟨rfl, HB4.out⟩
      · rw [ho] at hon
        have HF0 := hideG (show ((pathI T e).getD 0 stD).node = e.target by rw [hf0, HTG.out])
        have HF1 := hideG (show ((pathI T e).getD 0 stD).tg = e.target by rw [hf1, HTG.out])
        clear hf0 hf1 ho
        cases hin : isNodeB T.length e.related
        · have HIN := hideG hin
          clear hin hon
          go_enter Try.func5, Try.ntmps5
          go_wp2_with fail
          rw [HW0.out]
          refine (refFew_any T _ _ HT0.out).mono ?_
          rintro ex wz ⟨rfl, hwz⟩
          obtain rfl : _ = wz := hwz.symm
          have p0x0 := cell_below HX0.out P0.out
          have p1x0 := cell_below HX0.out P1.out
          have p2x0 := cell_below HX0.out P2.out
          have p3x0 := cell_below HX0.out P3.out
          have p4x0 := cell_below HX0.out P4.out
          have p5x0 := cell_below HX0.out P5.out
          go_wp2_with fail
          refine (refBoth_any T HS.out _ _ _ _ HT0.out).mono ?_
          rintro ex w1 ⟨rfl, hb1⟩
          rw [EB.out]
          clear p0x0 p1x0 p2x0 p3x0 p4x0 p5x0
          have HT1 := hideG (HT0.out.below hb1)
          have HB1 := hideG (HB0.out.trans (hb1.mono HB0.out.size))
          have HX1 := hideG (HX0.out.trans (hb1.mono HX0.out.size))
          clear hb1
          have p0x1 := cell_below HX1.out P0.out
          have p1x1 := cell_below HX1.out P1.out
          have p2x1 := cell_below HX1.out P2.out
          have p3x1 := cell_below HX1.out P3.out
          have p4x1 := cell_below HX1.out P4.out
          have p5x1 := cell_below HX1.out P5.out
          go_wp2_with fail
          refine (path_any T HS.out _ e _ HT1.out h6).mono ?_
          rintro ex w2 ⟨a2, c2, rfl, ho2, hb2⟩
          clear p0x1 p1x1 p2x1 p3x1 p4x1 p5x1
          have HT2 := hideG (HT1.out.below hb2)
          have HB2 := hideG (HB1.out.trans (hb2.mono HB1.out.size))
          have HX2 := hideG (HX1.out.trans (hb2.mono HX1.out.size))
          clear hb2
          have HA2 := hideG (ownsRow_stCells ho2)
          clear ho2
          have p1x2 := cell_below HX2.out P1.out
          have p2x2 := cell_below HX2.out P2.out
          go_wp2_with fail
          refine (refIs_any _ _ _ _ _).mono ?_
          rintro ex wz ⟨rfl, hwz⟩
          rw [HIN.out]
          obtain rfl : _ = wz := hwz.symm
          obtain ⟨w3, hw3⟩ : ∃ w3, w3 = w2 := ⟨_, rfl⟩
          rw [← hw3] at HT2 HB2 HX2 HA2 p1x2 p2x2 ⊢
          have HT3 := HT2
          have HB3 := HB2
          have HX3 := HX2
          have HA3 := HA2
          clear hw3
          go_wp2_with fail
          clear p1x2 p2x2
          generalize pathI T e = p at *
          have hpl : p.length ≤ 64 := HPL.out
          obtain ⟨a1b, a1c, a1e, a1d⟩ := HA3.out
          injection a1e with q1 q2 q3
          subst q1
          subst q3
          clear q2
          obtain ⟨b1, o1, rfl, a1y⟩ := a1d.2 hp0
          have a1x := hideG a1y
          have c0 : w3.cell? ⟨b1, o1, none⟩ = some (.int .i64 e.target) := by have h7 := (a1y 0 hp0).node; rw [HF0.out] at h7; simpa using h7
          have c1 : w3.cell? ⟨b1, o1 + 1, none⟩ = some (.int .i64 e.target) := by have h7 := (a1y 0 hp0).tg; rw [HF1.out] at h7; simpa using h7
          have p1x3 := cell_below HX3.out P1.out
          have hp0' : (0 : Int) < (p.length : Int) := by omega
          have hpz : ((p.length : Int) == 0) = false := by rw [beq_eq_false_iff_ne]; omega
          clear a1d a1y
          go_wp2_with fail
          go_region
          go_wp2_with fail
          try rw [hpz]
          clear c0 c1 p1x3
          go_loopw [7] (fun i wr => ∃ k : Nat, k ≤ p.length ∧ i = .int .i64 (k : Int) ∧ Below w3.heap.size w3 wr) (fun i _ => p.length - (intOf i).toNat)
          case atStart => exact ⟨0, Nat.zero_le _, rfl, below_drew' (Below.refl _ _)⟩
          case round =>
            obtain ⟨k, hk, rfl, hBk⟩ := hrel
            have HBk := hideG hBk
            clear hBk
            by_cases hlt : k < p.length
            · obtain ⟨x, y, hxl, hyl, hpx, hh1, hrr⟩ := HAT.out k hlt
              have HTW := hideG (fun j (hj : j < k) => HTW0.out k j hlt hj)
              have hH := (a1x.out k hlt).below HBk.out
              have HPX := hideG (show (p.getD k stD).node = (x : Int) by rw [hpx])
              rw [hpx] at hH
              have HTk := hideG (HT3.out.below HBk.out)
              generalize (p.getD k stD).rel = rl at *
              have HH1 := hideG hh1
              have g0 : wr.cell? ⟨b1, o1 + k * 3, none⟩ = some (.int .i64 (x : Int)) := hH.node
              have g1 : wr.cell? ⟨b1, o1 + k * 3 + 1, none⟩ = some (.int .i64 (y : Int)) := hH.tg
              have g2 : wr.cell? ⟨b1, o1 + k * 3 + 2, none⟩ = some (.int .i64 rl) := hH.rel
              have hk0 : (0 : Int) ≤ (k : Int) := by omega
              have hk1 : (k : Int) < (p.length : Int) := by omega
              have HNX := hideG (show isNodeB T.length (x : Int) = true by simp [isNodeB]; omega)
              have HNY := hideG (show isNodeB T.length (y : Int) = true by simp [isNodeB]; omega)
              clear hH hpx hh1
              rcases hrr with hr | ⟨z, hzl, hr, hh2⟩
              · subst hr
                have HBA := hideG ((Below.refl wr.heap.size wr).alloc (Nat.le_refl _) (.cells #[.int .i64 (x : Int), .int .i64 (y : Int), .int .i64 (-1)] 36))
                have S0a := hideG (show (wr.alloc (.cells #[.int .i64 (x : Int), .int .i64 (y : Int), .int .i64 (-1)] 36)).cell? ⟨wr.heap.size, 0, none⟩ = some (.int .i64 (x : Int)) by simp)
                have S2a := hideG (show (wr.alloc (.cells #[.int .i64 (x : Int), .int .i64 (y : Int), .int .i64 (-1)] 36)).cell? ⟨wr.heap.size, 2, none⟩ = some (.int .i64 (-1)) by simp)
                go_wp2_with fail
                refine (refIs_any _ _ _ _ _).mono ?_
                rintro ex wz ⟨rfl, hwz⟩
                rw [HNX.out]
                subst hwz
                go_wp2_with fail
                refine (refIs_any _ _ _ _ _).mono ?_
                rintro ex wz ⟨rfl, hwz⟩
                rw [HNY.out]
                subst hwz
                go_wp2_with fail
                refine (hidden_any T HM.out _ y x hyl hxl _ (HTk.out.below HBA.out)).mono ?_
                rintro ex w9 ⟨rfl, hb8⟩
                rw [HH1.out]
                have HBG := hideG (HBA.out.trans (hb8.mono HBA.out.size))
                have s0 := cell_below hb8 S0a.out
                have s2 := cell_below hb8 S2a.out
                have S0 := hideG s0
                clear hb8 S0a S2a g0 g1 g2
                go_wp2_with fail
                clear s0 s2
                go_loopw [9] (fun i wr2 => ∃ j : Nat, j ≤ k ∧ i = .int .i64 (j : Int) ∧ Below w9.heap.size w9 wr2) (fun i _ => k - (intOf i).toNat)
                case atStart => exact ⟨0, Nat.zero_le _, rfl, Below.refl _ _⟩
                case round =>
                  obtain ⟨j, hj, rfl, hBj⟩ := hrel
                  have HBj := hideG hBj
                  clear hBj
                  by_cases hjk : j < k
                  · have hg := ((a1x.out j (by omega)).below (HBk.out.trans (HBG.out.mono HBk.out.size))).below HBj.out
                    have c0 := hg.node
                    have s0 := cell_below HBj.out S0.out
                    have ht2 := HTW.out j hjk
                    rw [HPX.out] at ht2
                    generalize (p.getD j stD).node = nj at *
                    have hj0 : (0 : Int) ≤ (j : Int) := by omega
                    have hj1 : (j : Int) < (p.length : Int) := by omega
                    have hjk' : (j : Int) < (k : Int) := by omega
                    clear hg
                    go_wp2_with fail
                    go_region
                    go_wp2_with fail
                    go_roundw
                    case rel => exact ⟨j + 1, by omega, by go_num, below_drew' HBj.out⟩
                    case measure => simp [intOf]; omega
                  · have HBz := hideG (HBk.out.trans ((HBG.out.trans (HBj.out.mono HBG.out.size)).mono HBk.out.size))
                    have hjk2 : j = k := by omega
                    subst hjk2
                    clear HTW HTW0 HAT HPX HBj HBG S0 HBA HTk HNX HNY HH1 a1x
                    go_wp2_with fail
                    go_roundw
                    case rel => exact ⟨j + 1, by omega, by go_num, HBz.out⟩
                    case measure => simp [intOf]; omega
              · subst hr
                have HBA := hideG ((Below.refl wr.heap.size wr).alloc (Nat.le_refl _) (.cells #[.int .i64 (x : Int), .int .i64 (y : Int), .int .i64 (z : Int)] 36))
                have S0a := hideG (show (wr.alloc (.cells #[.int .i64 (x : Int), .int .i64 (y : Int), .int .i64 (z : Int)] 36)).cell? ⟨wr.heap.size, 0, none⟩ = some (.int .i64 (x : Int)) by simp)
                have S2a := hideG (show (wr.alloc (.cells #[.int .i64 (x : Int), .int .i64 (y : Int), .int .i64 (z : Int)] 36)).cell? ⟨wr.heap.size, 2, none⟩ = some (.int .i64 (z : Int)) by simp)
                have HH2 := hideG hh2
                have HNZ := hideG (show isNodeB T.length (z : Int) = true by simp [isNodeB]; omega)
                have hzn : ((z : Int) != -1) = true := by simp
                clear hh2
                go_wp2_with fail
                refine (refIs_any _ _ _ _ _).mono ?_
                rintro ex wz ⟨rfl, hwz⟩
                rw [HNX.out]
                subst hwz
                go_wp2_with fail
                refine (refIs_any _ _ _ _ _).mono ?_
                rintro ex wz ⟨rfl, hwz⟩
                rw [HNY.out]
                subst hwz
                go_wp2_with fail
                refine (hidden_any T HM.out _ y x hyl hxl _ (HTk.out.below HBA.out)).mono ?_
                rintro ex w8 ⟨rfl, hb8⟩
                rw [HH1.out]
                have HB8 := hideG (HBA.out.trans (hb8.mono HBA.out.size))
                have s0 := cell_below hb8 S0a.out
                have s2 := cell_below hb8 S2a.out
                have S0 := hideG s0
                clear hb8 S0a S2a g0 g1 g2
                go_wp2_with fail
                refine (refIs_any _ _ _ _ _).mono ?_
                rintro ex wz ⟨rfl, hwz⟩
                rw [HNZ.out]
                obtain rfl : _ = wz := hwz.symm
                go_wp2_with fail
                refine (hidden_any T HM.out _ z x hzl hxl _ (HTk.out.below HB8.out)).mono ?_
                rintro ex w9 ⟨rfl, hb9⟩
                rw [HH2.out]
                have HBG := hideG (HB8.out.trans (hb9.mono HB8.out.size))
                have S0' := hideG (cell_below hb9 S0.out)
                clear S0 s0 s2 hb9
                have S0 := S0'
                clear S0'
                go_wp2_with fail
                go_loopw [9] (fun i wr2 => ∃ j : Nat, j ≤ k ∧ i = .int .i64 (j : Int) ∧ Below w9.heap.size w9 wr2) (fun i _ => k - (intOf i).toNat)
                case atStart => exact ⟨0, Nat.zero_le _, rfl, Below.refl _ _⟩
                case round =>
                  obtain ⟨j, hj, rfl, hBj⟩ := hrel
                  have HBj := hideG hBj
                  clear hBj
                  by_cases hjk : j < k
                  · have hg := ((a1x.out j (by omega)).below (HBk.out.trans (HBG.out.mono HBk.out.size))).below HBj.out
                    have c0 := hg.node
                    have s0 := cell_below HBj.out S0.out
                    have ht2 := HTW.out j hjk
                    rw [HPX.out] at ht2
                    generalize (p.getD j stD).node = nj at *
                    have hj0 : (0 : Int) ≤ (j : Int) := by omega
                    have hj1 : (j : Int) < (p.length : Int) := by omega
                    have hjk' : (j : Int) < (k : Int) := by omega
                    clear hg
                    go_wp2_with fail
                    go_region
                    go_wp2_with fail
                    go_roundw
                    case rel => exact ⟨j + 1, by omega, by go_num, below_drew' HBj.out⟩
                    case measure => simp [intOf]; omega
                  · have HBz := hideG (HBk.out.trans ((HBG.out.trans (HBj.out.mono HBG.out.size)).mono HBk.out.size))
                    have hjk2 : j = k := by omega
                    subst hjk2
                    clear HTW HTW0 HAT HPX HBj HBG S0 HBA HTk HNX HNY HH1 a1x
                    go_wp2_with fail
                    go_roundw
                    case rel => exact ⟨j + 1, by omega, by go_num, HBz.out⟩
                    case measure => simp [intOf]; omega
            · have HBr := hideG (HB3.out.trans (HBk.out.mono HB3.out.size))
              go_wp2_with fail
              refine (live7_any _).mono ?_
              rintro ex w6 ⟨rfl, hb6⟩
              have HB6 := hideG (HBr.out.trans (hb6.mono HBr.out.size))
              clear hb6
              go_wp2_with fail
              go_ret
              exact ⟨rfl, HB6.out⟩
        · obtain ⟨r, hre, hrl⟩ := isNodeB_true hin
          have HIN := hideG hin
          have HRE := hideG hre
          cases hne : (e.related != e.target)
          · clear hin hon hre
            go_enter Try.func5, Try.ntmps5
            go_wp2_with fail
            rw [HW0.out]
            refine (refFew_any T _ _ HT0.out).mono ?_
            rintro ex wz ⟨rfl, hwz⟩
            obtain rfl : _ = wz := hwz.symm
            have p0x0 := cell_below HX0.out P0.out
            have p1x0 := cell_below HX0.out P1.out
            have p2x0 := cell_below HX0.out P2.out
            have p3x0 := cell_below HX0.out P3.out
            have p4x0 := cell_below HX0.out P4.out
            have p5x0 := cell_below HX0.out P5.out
            go_wp2_with fail
            refine (refBoth_any T HS.out _ _ _ _ HT0.out).mono ?_
            rintro ex w1 ⟨rfl, hb1⟩
            rw [EB.out]
            clear p0x0 p1x0 p2x0 p3x0 p4x0 p5x0
            have HT1 := hideG (HT0.out.below hb1)
            have HB1 := hideG (HB0.out.trans (hb1.mono HB0.out.size))
            have HX1 := hideG (HX0.out.trans (hb1.mono HX0.out.size))
            clear hb1
            have p0x1 := cell_below HX1.out P0.out
            have p1x1 := cell_below HX1.out P1.out
            have p2x1 := cell_below HX1.out P2.out
            have p3x1 := cell_below HX1.out P3.out
            have p4x1 := cell_below HX1.out P4.out
            have p5x1 := cell_below HX1.out P5.out
            go_wp2_with fail
            refine (path_any T HS.out _ e _ HT1.out h6).mono ?_
            rintro ex w2 ⟨a2, c2, rfl, ho2, hb2⟩
            clear p0x1 p1x1 p2x1 p3x1 p4x1 p5x1
            have HT2 := hideG (HT1.out.below hb2)
            have HB2 := hideG (HB1.out.trans (hb2.mono HB1.out.size))
            have HX2 := hideG (HX1.out.trans (hb2.mono HX1.out.size))
            clear hb2
            have HA2 := hideG (ownsRow_stCells ho2)
            clear ho2
            have p1x2 := cell_below HX2.out P1.out
            have p2x2 := cell_below HX2.out P2.out
            go_wp2_with fail
            refine (refIs_any _ _ _ _ _).mono ?_
            rintro ex wz ⟨rfl, hwz⟩
            rw [HIN.out]
            obtain rfl : _ = wz := hwz.symm
            obtain ⟨w3, hw3⟩ : ∃ w3, w3 = w2 := ⟨_, rfl⟩
            rw [← hw3] at HT2 HB2 HX2 HA2 p1x2 p2x2 ⊢
            have HT3 := HT2
            have HB3 := HB2
            have HX3 := HX2
            have HA3 := HA2
            clear hw3
            go_wp2_with fail
            clear p1x2 p2x2
            generalize pathI T e = p at *
            have hpl : p.length ≤ 64 := HPL.out
            obtain ⟨a1b, a1c, a1e, a1d⟩ := HA3.out
            injection a1e with q1 q2 q3
            subst q1
            subst q3
            clear q2
            obtain ⟨b1, o1, rfl, a1y⟩ := a1d.2 hp0
            have a1x := hideG a1y
            have c0 : w3.cell? ⟨b1, o1, none⟩ = some (.int .i64 e.target) := by have h7 := (a1y 0 hp0).node; rw [HF0.out] at h7; simpa using h7
            have c1 : w3.cell? ⟨b1, o1 + 1, none⟩ = some (.int .i64 e.target) := by have h7 := (a1y 0 hp0).tg; rw [HF1.out] at h7; simpa using h7
            have p1x3 := cell_below HX3.out P1.out
            have hp0' : (0 : Int) < (p.length : Int) := by omega
            have hpz : ((p.length : Int) == 0) = false := by rw [beq_eq_false_iff_ne]; omega
            clear a1d a1y
            go_wp2_with fail
            go_region
            go_wp2_with fail
            try rw [hpz]
            clear c0 c1 p1x3
            go_loopw [7] (fun i wr => ∃ k : Nat, k ≤ p.length ∧ i = .int .i64 (k : Int) ∧ Below w3.heap.size w3 wr) (fun i _ => p.length - (intOf i).toNat)
            case atStart => exact ⟨0, Nat.zero_le _, rfl, below_drew' (Below.refl _ _)⟩
            case round =>
              obtain ⟨k, hk, rfl, hBk⟩ := hrel
              have HBk := hideG hBk
              clear hBk
              by_cases hlt : k < p.length
              · obtain ⟨x, y, hxl, hyl, hpx, hh1, hrr⟩ := HAT.out k hlt
                have HTW := hideG (fun j (hj : j < k) => HTW0.out k j hlt hj)
                have hH := (a1x.out k hlt).below HBk.out
                have HPX := hideG (show (p.getD k stD).node = (x : Int) by rw [hpx])
                rw [hpx] at hH
                have HTk := hideG (HT3.out.below HBk.out)
                generalize (p.getD k stD).rel = rl at *
                have HH1 := hideG hh1
                have g0 : wr.cell? ⟨b1, o1 + k * 3, none⟩ = some (.int .i64 (x : Int)) := hH.node
                have g1 : wr.cell? ⟨b1, o1 + k * 3 + 1, none⟩ = some (.int .i64 (y : Int)) := hH.tg
                have g2 : wr.cell? ⟨b1, o1 + k * 3 + 2, none⟩ = some (.int .i64 rl) := hH.rel
                have hk0 : (0 : Int) ≤ (k : Int) := by omega
                have hk1 : (k : Int) < (p.length : Int) := by omega
                have HNX := hideG (show isNodeB T.length (x : Int) = true by simp [isNodeB]; omega)
                have HNY := hideG (show isNodeB T.length (y : Int) = true by simp [isNodeB]; omega)
                clear hH hpx hh1
                rcases hrr with hr | ⟨z, hzl, hr, hh2⟩
                · subst hr
                  have HBA := hideG ((Below.refl wr.heap.size wr).alloc (Nat.le_refl _) (.cells #[.int .i64 (x : Int), .int .i64 (y : Int), .int .i64 (-1)] 36))
                  have S0a := hideG (show (wr.alloc (.cells #[.int .i64 (x : Int), .int .i64 (y : Int), .int .i64 (-1)] 36)).cell? ⟨wr.heap.size, 0, none⟩ = some (.int .i64 (x : Int)) by simp)
                  have S2a := hideG (show (wr.alloc (.cells #[.int .i64 (x : Int), .int .i64 (y : Int), .int .i64 (-1)] 36)).cell? ⟨wr.heap.size, 2, none⟩ = some (.int .i64 (-1)) by simp)
                  go_wp2_with fail
                  refine (refIs_any _ _ _ _ _).mono ?_
                  rintro ex wz ⟨rfl, hwz⟩
                  rw [HNX.out]
                  subst hwz
                  go_wp2_with fail
                  refine (refIs_any _ _ _ _ _).mono ?_
                  rintro ex wz ⟨rfl, hwz⟩
                  rw [HNY.out]
                  subst hwz
                  go_wp2_with fail
                  refine (hidden_any T HM.out _ y x hyl hxl _ (HTk.out.below HBA.out)).mono ?_
                  rintro ex w9 ⟨rfl, hb8⟩
                  rw [HH1.out]
                  have HBG := hideG (HBA.out.trans (hb8.mono HBA.out.size))
                  have s0 := cell_below hb8 S0a.out
                  have s2 := cell_below hb8 S2a.out
                  have S0 := hideG s0
                  clear hb8 S0a S2a g0 g1 g2
                  go_wp2_with fail
                  clear s0 s2
                  go_loopw [9] (fun i wr2 => ∃ j : Nat, j ≤ k ∧ i = .int .i64 (j : Int) ∧ Below w9.heap.size w9 wr2) (fun i _ => k - (intOf i).toNat)
                  case atStart => exact ⟨0, Nat.zero_le _, rfl, Below.refl _ _⟩
                  case round =>
                    obtain ⟨j, hj, rfl, hBj⟩ := hrel
                    have HBj := hideG hBj
                    clear hBj
                    by_cases hjk : j < k
                    · have hg := ((a1x.out j (by omega)).below (HBk.out.trans (HBG.out.mono HBk.out.size))).below HBj.out
                      have c0 := hg.node
                      have s0 := cell_below HBj.out S0.out
                      have ht2 := HTW.out j hjk
                      rw [HPX.out] at ht2
                      generalize (p.getD j stD).node = nj at *
                      have hj0 : (0 : Int) ≤ (j : Int) := by omega
                      have hj1 : (j : Int) < (p.length : Int) := by omega
                      have hjk' : (j : Int) < (k : Int) := by omega
                      clear hg
                      go_wp2_with fail
                      go_region
                      go_wp2_with fail
                      go_roundw
                      case rel => exact ⟨j + 1, by omega, by go_num, below_drew' HBj.out⟩
                      case measure => simp [intOf]; omega
                    · have HBz := hideG (HBk.out.trans ((HBG.out.trans (HBj.out.mono HBG.out.size)).mono HBk.out.size))
                      have hjk2 : j = k := by omega
                      subst hjk2
                      clear HTW HTW0 HAT HPX HBj HBG S0 HBA HTk HNX HNY HH1 a1x
                      go_wp2_with fail
                      go_roundw
                      case rel => exact ⟨j + 1, by omega, by go_num, HBz.out⟩
                      case measure => simp [intOf]; omega
                · subst hr
                  have HBA := hideG ((Below.refl wr.heap.size wr).alloc (Nat.le_refl _) (.cells #[.int .i64 (x : Int), .int .i64 (y : Int), .int .i64 (z : Int)] 36))
                  have S0a := hideG (show (wr.alloc (.cells #[.int .i64 (x : Int), .int .i64 (y : Int), .int .i64 (z : Int)] 36)).cell? ⟨wr.heap.size, 0, none⟩ = some (.int .i64 (x : Int)) by simp)
                  have S2a := hideG (show (wr.alloc (.cells #[.int .i64 (x : Int), .int .i64 (y : Int), .int .i64 (z : Int)] 36)).cell? ⟨wr.heap.size, 2, none⟩ = some (.int .i64 (z : Int)) by simp)
                  have HH2 := hideG hh2
                  have HNZ := hideG (show isNodeB T.length (z : Int) = true by simp [isNodeB]; omega)
                  have hzn : ((z : Int) != -1) = true := by simp
                  clear hh2
                  go_wp2_with fail
                  refine (refIs_any _ _ _ _ _).mono ?_
                  rintro ex wz ⟨rfl, hwz⟩
                  rw [HNX.out]
                  subst hwz
                  go_wp2_with fail
                  refine (refIs_any _ _ _ _ _).mono ?_
                  rintro ex wz ⟨rfl, hwz⟩
                  rw [HNY.out]
                  subst hwz
                  go_wp2_with fail
                  refine (hidden_any T HM.out _ y x hyl hxl _ (HTk.out.below HBA.out)).mono ?_
                  rintro ex w8 ⟨rfl, hb8⟩
                  rw [HH1.out]
                  have HB8 := hideG (HBA.out.trans (hb8.mono HBA.out.size))
                  have s0 := cell_below hb8 S0a.out
                  have s2 := cell_below hb8 S2a.out
                  have S0 := hideG s0
                  clear hb8 S0a S2a g0 g1 g2
                  go_wp2_with fail
                  refine (refIs_any _ _ _ _ _).mono ?_
                  rintro ex wz ⟨rfl, hwz⟩
                  rw [HNZ.out]
                  obtain rfl : _ = wz := hwz.symm
                  go_wp2_with fail
                  refine (hidden_any T HM.out _ z x hzl hxl _ (HTk.out.below HB8.out)).mono ?_
                  rintro ex w9 ⟨rfl, hb9⟩
                  rw [HH2.out]
                  have HBG := hideG (HB8.out.trans (hb9.mono HB8.out.size))
                  have S0' := hideG (cell_below hb9 S0.out)
                  clear S0 s0 s2 hb9
                  have S0 := S0'
                  clear S0'
                  go_wp2_with fail
                  go_loopw [9] (fun i wr2 => ∃ j : Nat, j ≤ k ∧ i = .int .i64 (j : Int) ∧ Below w9.heap.size w9 wr2) (fun i _ => k - (intOf i).toNat)
                  case atStart => exact ⟨0, Nat.zero_le _, rfl, Below.refl _ _⟩
                  case round =>
                    obtain ⟨j, hj, rfl, hBj⟩ := hrel
                    have HBj := hideG hBj
                    clear hBj
                    by_cases hjk : j < k
                    · have hg := ((a1x.out j (by omega)).below (HBk.out.trans (HBG.out.mono HBk.out.size))).below HBj.out
                      have c0 := hg.node
                      have s0 := cell_below HBj.out S0.out
                      have ht2 := HTW.out j hjk
                      rw [HPX.out] at ht2
                      generalize (p.getD j stD).node = nj at *
                      have hj0 : (0 : Int) ≤ (j : Int) := by omega
                      have hj1 : (j : Int) < (p.length : Int) := by omega
                      have hjk' : (j : Int) < (k : Int) := by omega
                      clear hg
                      go_wp2_with fail
                      go_region
                      go_wp2_with fail
                      go_roundw
                      case rel => exact ⟨j + 1, by omega, by go_num, below_drew' HBj.out⟩
                      case measure => simp [intOf]; omega
                    · have HBz := hideG (HBk.out.trans ((HBG.out.trans (HBj.out.mono HBG.out.size)).mono HBk.out.size))
                      have hjk2 : j = k := by omega
                      subst hjk2
                      clear HTW HTW0 HAT HPX HBj HBG S0 HBA HTk HNX HNY HH1 a1x
                      go_wp2_with fail
                      go_roundw
                      case rel => exact ⟨j + 1, by omega, by go_num, HBz.out⟩
                      case measure => simp [intOf]; omega
              · have HBr := hideG (HB3.out.trans (HBk.out.mono HB3.out.size))
                go_wp2_with fail
                refine (live7_any _).mono ?_
                rintro ex w6 ⟨rfl, hb6⟩
                have HB6 := hideG (HBr.out.trans (hb6.mono HBr.out.size))
                clear hb6
                go_wp2_with fail
                go_ret
                exact ⟨rfl, HB6.out⟩
          · rw [hin, hne] at hon
            have hrt : (retI T e.related e.target == e.target) = false := by simpa using hon.symm
            clear hin hon hre
            go_enter Try.func5, Try.ntmps5
            go_wp2_with fail
            rw [HW0.out]
            refine (refFew_any T _ _ HT0.out).mono ?_
            rintro ex wz ⟨rfl, hwz⟩
            obtain rfl : _ = wz := hwz.symm
            have p0x0 := cell_below HX0.out P0.out
            have p1x0 := cell_below HX0.out P1.out
            have p2x0 := cell_below HX0.out P2.out
            have p3x0 := cell_below HX0.out P3.out
            have p4x0 := cell_below HX0.out P4.out
            have p5x0 := cell_below HX0.out P5.out
            go_wp2_with fail
            refine (refBoth_any T HS.out _ _ _ _ HT0.out).mono ?_
            rintro ex w1 ⟨rfl, hb1⟩
            rw [EB.out]
            clear p0x0 p1x0 p2x0 p3x0 p4x0 p5x0
            have HT1 := hideG (HT0.out.below hb1)
            have HB1 := hideG (HB0.out.trans (hb1.mono HB0.out.size))
            have HX1 := hideG (HX0.out.trans (hb1.mono HX0.out.size))
            clear hb1
            have p0x1 := cell_below HX1.out P0.out
            have p1x1 := cell_below HX1.out P1.out
            have p2x1 := cell_below HX1.out P2.out
            have p3x1 := cell_below HX1.out P3.out
            have p4x1 := cell_below HX1.out P4.out
            have p5x1 := cell_below HX1.out P5.out
            go_wp2_with fail
            refine (path_any T HS.out _ e _ HT1.out h6).mono ?_
            rintro ex w2 ⟨a2, c2, rfl, ho2, hb2⟩
            clear p0x1 p1x1 p2x1 p3x1 p4x1 p5x1
            have HT2 := hideG (HT1.out.below hb2)
            have HB2 := hideG (HB1.out.trans (hb2.mono HB1.out.size))
            have HX2 := hideG (HX1.out.trans (hb2.mono HX1.out.size))
            clear hb2
            have HA2 := hideG (ownsRow_stCells ho2)
            clear ho2
            have p1x2 := cell_below HX2.out P1.out
            have p2x2 := cell_below HX2.out P2.out
            go_wp2_with fail
            refine (refIs_any _ _ _ _ _).mono ?_
            rintro ex wz ⟨rfl, hwz⟩
            rw [HIN.out]
            obtain rfl : _ = wz := hwz.symm
            have HR := hideG (show ∀ U, Below w2.heap.size w2 U → Calls Try.prog 21 #[.slice ta T.length tc, .int .i64 e.related, .int .i64 e.target] U (fun x w' => x = .returned (.int .i64 (retI T e.related e.target)) ∧ Below w2.heap.size w2 w') from fun U hU => by
              rw [HRE.out, HTG.out]
              refine (refRet4_any T HM.out _ r tg hrl htl U (HT2.out.below hU)).mono ?_
              rintro x w' ⟨rfl, hb⟩
              exact ⟨by rw [retI_known HM.out hrl htl], hU.trans (hb.mono hU.size)⟩)
            go_wp2_with fail
            have hcc : ∀ (d : Calm w2) (b o : Nat), b < w2.heap.size → d.to.cell? ⟨b, o, none⟩ = w2.cell? ⟨b, o, none⟩ := calmCell
            have hbw : w.heap.size < w2.heap.size := below_of_cell p1x2
            refine wp_region_calm (by kernel_rfl) (by kernel_rfl) ?_
            repeat (go_big_quiet_step (first | (go_at_call 21; refine Calls.mono (HR.out _ (Calm.below _)) ?_; rintro ex wq ⟨rfl, hb⟩; exact ⟨rfl, ⟨wq, hb⟩, rfl⟩)))
            refine wpQuiet_nil ?_
            intro _ hw'
            obtain ⟨dq, hw''⟩ := hw'
            subst hw''
            have hb3 := dq.below
            generalize dq.to = w3 at *
            clear dq hcc p1x2 p2x2 HR hrt
            have HT3 := hideG (HT2.out.below hb3)
            have HB3 := hideG (HB2.out.trans (hb3.mono HB2.out.size))
            have HX3 := hideG (HX2.out.trans (hb3.mono HX2.out.size))
            have HA3 := hideG (HA2.out.below hb3)
            clear hb3
            generalize pathI T e = p at *
            have hpl : p.length ≤ 64 := HPL.out
            obtain ⟨a1b, a1c, a1e, a1d⟩ := HA3.out
            injection a1e with q1 q2 q3
            subst q1
            subst q3
            clear q2
            obtain ⟨b1, o1, rfl, a1y⟩ := a1d.2 hp0
            have a1x := hideG a1y
            have c0 : w3.cell? ⟨b1, o1, none⟩ = some (.int .i64 e.target) := by have h7 := (a1y 0 hp0).node; rw [HF0.out] at h7; simpa using h7
            have c1 : w3.cell? ⟨b1, o1 + 1, none⟩ = some (.int .i64 e.target) := by have h7 := (a1y 0 hp0).tg; rw [HF1.out] at h7; simpa using h7
            have p1x3 := cell_below HX3.out P1.out
            have hp0' : (0 : Int) < (p.length : Int) := by omega
            have hpz : ((p.length : Int) == 0) = false := by rw [beq_eq_false_iff_ne]; omega
            clear a1d a1y
            go_wp2_with fail
            go_region
            go_wp2_with fail
            try rw [hpz]
            clear c0 c1 p1x3
            go_loopw [7] (fun i wr => ∃ k : Nat, k ≤ p.length ∧ i = .int .i64 (k : Int) ∧ Below w3.heap.size w3 wr) (fun i _ => p.length - (intOf i).toNat)
            case atStart => exact ⟨0, Nat.zero_le _, rfl, below_drew' (Below.refl _ _)⟩
            case round =>
              obtain ⟨k, hk, rfl, hBk⟩ := hrel
              have HBk := hideG hBk
              clear hBk
              by_cases hlt : k < p.length
              · obtain ⟨x, y, hxl, hyl, hpx, hh1, hrr⟩ := HAT.out k hlt
                have HTW := hideG (fun j (hj : j < k) => HTW0.out k j hlt hj)
                have hH := (a1x.out k hlt).below HBk.out
                have HPX := hideG (show (p.getD k stD).node = (x : Int) by rw [hpx])
                rw [hpx] at hH
                have HTk := hideG (HT3.out.below HBk.out)
                generalize (p.getD k stD).rel = rl at *
                have HH1 := hideG hh1
                have g0 : wr.cell? ⟨b1, o1 + k * 3, none⟩ = some (.int .i64 (x : Int)) := hH.node
                have g1 : wr.cell? ⟨b1, o1 + k * 3 + 1, none⟩ = some (.int .i64 (y : Int)) := hH.tg
                have g2 : wr.cell? ⟨b1, o1 + k * 3 + 2, none⟩ = some (.int .i64 rl) := hH.rel
                have hk0 : (0 : Int) ≤ (k : Int) := by omega
                have hk1 : (k : Int) < (p.length : Int) := by omega
                have HNX := hideG (show isNodeB T.length (x : Int) = true by simp [isNodeB]; omega)
                have HNY := hideG (show isNodeB T.length (y : Int) = true by simp [isNodeB]; omega)
                clear hH hpx hh1
                rcases hrr with hr | ⟨z, hzl, hr, hh2⟩
                · subst hr
                  have HBA := hideG ((Below.refl wr.heap.size wr).alloc (Nat.le_refl _) (.cells #[.int .i64 (x : Int), .int .i64 (y : Int), .int .i64 (-1)] 36))
                  have S0a := hideG (show (wr.alloc (.cells #[.int .i64 (x : Int), .int .i64 (y : Int), .int .i64 (-1)] 36)).cell? ⟨wr.heap.size, 0, none⟩ = some (.int .i64 (x : Int)) by simp)
                  have S2a := hideG (show (wr.alloc (.cells #[.int .i64 (x : Int), .int .i64 (y : Int), .int .i64 (-1)] 36)).cell? ⟨wr.heap.size, 2, none⟩ = some (.int .i64 (-1)) by simp)
                  go_wp2_with fail
                  refine (refIs_any _ _ _ _ _).mono ?_
                  rintro ex wz ⟨rfl, hwz⟩
                  rw [HNX.out]
                  subst hwz
                  go_wp2_with fail
                  refine (refIs_any _ _ _ _ _).mono ?_
                  rintro ex wz ⟨rfl, hwz⟩
                  rw [HNY.out]
                  subst hwz
                  go_wp2_with fail
                  refine (hidden_any T HM.out _ y x hyl hxl _ (HTk.out.below HBA.out)).mono ?_
                  rintro ex w9 ⟨rfl, hb8⟩
                  rw [HH1.out]
                  have HBG := hideG (HBA.out.trans (hb8.mono HBA.out.size))
                  have s0 := cell_below hb8 S0a.out
                  have s2 := cell_below hb8 S2a.out
                  have S0 := hideG s0
                  clear hb8 S0a S2a g0 g1 g2
                  go_wp2_with fail
                  clear s0 s2
                  go_loopw [9] (fun i wr2 => ∃ j : Nat, j ≤ k ∧ i = .int .i64 (j : Int) ∧ Below w9.heap.size w9 wr2) (fun i _ => k - (intOf i).toNat)
                  case atStart => exact ⟨0, Nat.zero_le _, rfl, Below.refl _ _⟩
                  case round =>
                    obtain ⟨j, hj, rfl, hBj⟩ := hrel
                    have HBj := hideG hBj
                    clear hBj
                    by_cases hjk : j < k
                    · have hg := ((a1x.out j (by omega)).below (HBk.out.trans (HBG.out.mono HBk.out.size))).below HBj.out
                      have c0 := hg.node
                      have s0 := cell_below HBj.out S0.out
                      have ht2 := HTW.out j hjk
                      rw [HPX.out] at ht2
                      generalize (p.getD j stD).node = nj at *
                      have hj0 : (0 : Int) ≤ (j : Int) := by omega
                      have hj1 : (j : Int) < (p.length : Int) := by omega
                      have hjk' : (j : Int) < (k : Int) := by omega
                      clear hg
                      go_wp2_with fail
                      go_region
                      go_wp2_with fail
                      go_roundw
                      case rel => exact ⟨j + 1, by omega, by go_num, below_drew' HBj.out⟩
                      case measure => simp [intOf]; omega
                    · have HBz := hideG (HBk.out.trans ((HBG.out.trans (HBj.out.mono HBG.out.size)).mono HBk.out.size))
                      have hjk2 : j = k := by omega
                      subst hjk2
                      clear HTW HTW0 HAT HPX HBj HBG S0 HBA HTk HNX HNY HH1 a1x
                      go_wp2_with fail
                      go_roundw
                      case rel => exact ⟨j + 1, by omega, by go_num, HBz.out⟩
                      case measure => simp [intOf]; omega
                · subst hr
                  have HBA := hideG ((Below.refl wr.heap.size wr).alloc (Nat.le_refl _) (.cells #[.int .i64 (x : Int), .int .i64 (y : Int), .int .i64 (z : Int)] 36))
                  have S0a := hideG (show (wr.alloc (.cells #[.int .i64 (x : Int), .int .i64 (y : Int), .int .i64 (z : Int)] 36)).cell? ⟨wr.heap.size, 0, none⟩ = some (.int .i64 (x : Int)) by simp)
                  have S2a := hideG (show (wr.alloc (.cells #[.int .i64 (x : Int), .int .i64 (y : Int), .int .i64 (z : Int)] 36)).cell? ⟨wr.heap.size, 2, none⟩ = some (.int .i64 (z : Int)) by simp)
                  have HH2 := hideG hh2
                  have HNZ := hideG (show isNodeB T.length (z : Int) = true by simp [isNodeB]; omega)
                  have hzn : ((z : Int) != -1) = true := by simp
                  clear hh2
                  go_wp2_with fail
                  refine (refIs_any _ _ _ _ _).mono ?_
                  rintro ex wz ⟨rfl, hwz⟩
                  rw [HNX.out]
                  subst hwz
                  go_wp2_with fail
                  refine (refIs_any _ _ _ _ _).mono ?_
                  rintro ex wz ⟨rfl, hwz⟩
                  rw [HNY.out]
                  subst hwz
                  go_wp2_with fail
                  refine (hidden_any T HM.out _ y x hyl hxl _ (HTk.out.below HBA.out)).mono ?_
                  rintro ex w8 ⟨rfl, hb8⟩
                  rw [HH1.out]
                  have HB8 := hideG (HBA.out.trans (hb8.mono HBA.out.size))
                  have s0 := cell_below hb8 S0a.out
                  have s2 := cell_below hb8 S2a.out
                  have S0 := hideG s0
                  clear hb8 S0a S2a g0 g1 g2
                  go_wp2_with fail
                  refine (refIs_any _ _ _ _ _).mono ?_
                  rintro ex wz ⟨rfl, hwz⟩
                  rw [HNZ.out]
                  obtain rfl : _ = wz := hwz.symm
                  go_wp2_with fail
                  refine (hidden_any T HM.out _ z x hzl hxl _ (HTk.out.below HB8.out)).mono ?_
                  rintro ex w9 ⟨rfl, hb9⟩
                  rw [HH2.out]
                  have HBG := hideG (HB8.out.trans (hb9.mono HB8.out.size))
                  have S0' := hideG (cell_below hb9 S0.out)
                  clear S0 s0 s2 hb9
                  have S0 := S0'
                  clear S0'
                  go_wp2_with fail
                  go_loopw [9] (fun i wr2 => ∃ j : Nat, j ≤ k ∧ i = .int .i64 (j : Int) ∧ Below w9.heap.size w9 wr2) (fun i _ => k - (intOf i).toNat)
                  case atStart => exact ⟨0, Nat.zero_le _, rfl, Below.refl _ _⟩
                  case round =>
                    obtain ⟨j, hj, rfl, hBj⟩ := hrel
                    have HBj := hideG hBj
                    clear hBj
                    by_cases hjk : j < k
                    · have hg := ((a1x.out j (by omega)).below (HBk.out.trans (HBG.out.mono HBk.out.size))).below HBj.out
                      have c0 := hg.node
                      have s0 := cell_below HBj.out S0.out
                      have ht2 := HTW.out j hjk
                      rw [HPX.out] at ht2
                      generalize (p.getD j stD).node = nj at *
                      have hj0 : (0 : Int) ≤ (j : Int) := by omega
                      have hj1 : (j : Int) < (p.length : Int) := by omega
                      have hjk' : (j : Int) < (k : Int) := by omega
                      clear hg
                      go_wp2_with fail
                      go_region
                      go_wp2_with fail
                      go_roundw
                      case rel => exact ⟨j + 1, by omega, by go_num, below_drew' HBj.out⟩
                      case measure => simp [intOf]; omega
                    · have HBz := hideG (HBk.out.trans ((HBG.out.trans (HBj.out.mono HBG.out.size)).mono HBk.out.size))
                      have hjk2 : j = k := by omega
                      subst hjk2
                      clear HTW HTW0 HAT HPX HBj HBG S0 HBA HTk HNX HNY HH1 a1x
                      go_wp2_with fail
                      go_roundw
                      case rel => exact ⟨j + 1, by omega, by go_num, HBz.out⟩
                      case measure => simp [intOf]; omega
              · have HBr := hideG (HB3.out.trans (HBk.out.mono HB3.out.size))
                go_wp2_with fail
                refine (live7_any _).mono ?_
                rintro ex w6 ⟨rfl, hb6⟩
                have HB6 := hideG (HBr.out.trans (hb6.mono HBr.out.size))
                clear hb6
                go_wp2_with fail
                go_ret
                exact ⟨rfl, HB6.out⟩
end Go.Proofs.Ytgfdcllpmjhkeaa
