/- AimTells, walked. -/
import Derived.Test.YtgfdcllpmjhkeaaLive7
namespace Go.Proofs.Ytgfdcllpmjhkeaa
open Go.RowKit

theorem known_bothA (T : List Nd) (a : Int) : knownB T [a] = bothB T a a := by
  simp [knownB, bothB]
theorem few_len {T : List Nd} (h : fewB T = true) : T.length ≤ 1000 := by
  unfold fewB at h
  simp only [Bool.and_eq_true, decide_eq_true_eq] at h
  omega

set_option maxRecDepth 100000 in
set_option maxHeartbeats 4000000 in
theorem aimTells_walk (T : List Nd) (v : Value) (e : Ev) (n : Int) (w : World) (hT : TreeAt w v T) :
    Calls Try.prog 3 #[v, .agg #[.int .i64 e.type, .int .i64 e.target, .int .i64 e.related, .bool e.bub, .bool e.can, .bool e.comp], .int .i64 n] w fun x w' => x = .returned (.bool true) ∧ Below w.heap.size w w' := by
  obtain ⟨ta, tc, rfl⟩ := hT.shape
  obtain ⟨W0, hW0⟩ : ∃ W0, w.alloc (.cells #[.int .i64 e.type, .int .i64 e.target, .int .i64 e.related, .bool e.bub, .bool e.can, .bool e.comp] 25) = W0 := ⟨_, rfl⟩
  have HB0 := hideG (show Below w.heap.size w W0 by rw [← hW0]; exact (Below.refl _ w).alloc (Nat.le_refl _) _)
  have HX0 := hideG (Below.refl W0.heap.size W0)
  have P0 := hideG (show W0.cell? ⟨w.heap.size, 0, none⟩ = some (.int .i64 e.type) by rw [← hW0]; simp)
  have P1 := hideG (show W0.cell? ⟨w.heap.size, 1, none⟩ = some (.int .i64 e.target) by rw [← hW0]; simp)
  have P2 := hideG (show W0.cell? ⟨w.heap.size, 2, none⟩ = some (.int .i64 e.related) by rw [← hW0]; simp)
  have P3 := hideG (show W0.cell? ⟨w.heap.size, 3, none⟩ = some (.bool e.bub) by rw [← hW0]; simp)
  have P4 := hideG (show W0.cell? ⟨w.heap.size, 4, none⟩ = some (.bool e.can) by rw [← hW0]; simp)
  have P5 := hideG (show W0.cell? ⟨w.heap.size, 5, none⟩ = some (.bool e.comp) by rw [← hW0]; simp)
  have HT0 := hideG (hT.below HB0.out)
  have HW0 := hideG hW0
  clear hW0 hT
  cases hs : fewB T
  · go_enter Try.func3, Try.ntmps3
    go_wp2_with fail
    rw [HW0.out]
    refine (refFew_any T _ _ HT0.out).mono ?_
    rintro ex wz ⟨rfl, hwz⟩
    subst hwz
    go_wp2_with fail
    refine (live7_any _).mono ?_
    rintro ex w1 ⟨rfl, hb1⟩
    have HB1 := hideG (HB0.out.trans (hb1.mono HB0.out.size))
    clear hb1
    go_wp2_with fail
    go_ret
    exact ⟨rfl, HB1.out⟩
  · have HS := hideG (small_sane (few_small hs))
    have h6 := few_len hs
    have HPA := hideG (path_any T HS.out (.slice ta T.length tc) e W0 HT0.out h6)
    cases hb : bothB T e.target e.target
    · have EB := hideG hb
      have hk : knownB T [e.target] = false := by rw [known_bothA, hb]
      have E1 := hideG (show pathI T e = [] by simp [pathI, hk])
      have E2 := hideG (show aimParI T n e = -1 by simp [aimParI, hk])
      clear hb hk
      go_enter Try.func3, Try.ntmps3
      go_wp2_with fail
      rw [HW0.out]
      refine (refFew_any T _ _ HT0.out).mono ?_
      rintro ex wz ⟨rfl, hwz⟩
      subst hwz
      have p0x0 := cell_below HX0.out P0.out
      have p1x0 := cell_below HX0.out P1.out
      have p2x0 := cell_below HX0.out P2.out
      have p3x0 := cell_below HX0.out P3.out
      have p4x0 := cell_below HX0.out P4.out
      have p5x0 := cell_below HX0.out P5.out
      go_wp2_with fail
      refine HPA.out.mono ?_
      rintro ex w1 ⟨a1, c1, rfl, ho1, hb1⟩
      rw [E1.out] at ho1 ⊢
      clear ho1
      clear p0x0 p1x0 p2x0 p3x0 p4x0 p5x0
      have HT1 := hideG (HT0.out.below hb1)
      have HB1 := hideG (HB0.out.trans (hb1.mono HB0.out.size))
      have HX1 := hideG (HX0.out.trans (hb1.mono HX0.out.size))
      clear hb1
      have p0x1 := cell_below HX1.out P0.out
      have p1x1 := cell_below HX1.out P1.out
      have p2x1 := cell_below HX1.out P2.out
      have p3x1 := cell_below HX1.out P3.out
      have p4x1 := cell_below HX1.out P4.out
      have p5x1 := cell_below HX1.out P5.out
      go_wp2_with fail
      refine (refBoth_any T HS.out _ _ _ _ HT1.out).mono ?_
      rintro ex w2 ⟨rfl, hb2⟩
      rw [EB.out]
      clear p0x1 p1x1 p2x1 p3x1 p4x1 p5x1
      have HT2 := hideG (HT1.out.below hb2)
      have HB2 := hideG (HB1.out.trans (hb2.mono HB1.out.size))
      have HX2 := hideG (HX1.out.trans (hb2.mono HX1.out.size))
      clear hb2
      have p0x2 := cell_below HX2.out P0.out
      have p1x2 := cell_below HX2.out P1.out
      have p2x2 := cell_below HX2.out P2.out
      have p3x2 := cell_below HX2.out P3.out
      have p4x2 := cell_below HX2.out P4.out
      have p5x2 := cell_below HX2.out P5.out
      go_wp2_with fail
      refine (aimParent_any T HS.out _ n e _ HT2.out).mono ?_
      rintro ex w3 ⟨rfl, hb3⟩
      rw [E2.out]
      clear p0x2 p1x2 p2x2 p3x2 p4x2 p5x2
      have HT3 := hideG (HT2.out.below hb3)
      have HB3 := hideG (HB2.out.trans (hb3.mono HB2.out.size))
      have HX3 := hideG (HX2.out.trans (hb3.mono HX2.out.size))
      clear hb3
      go_wp2_with fail
      refine (live7_any _).mono ?_
      rintro ex w4 ⟨rfl, hb4⟩
      have HB4 := hideG (HB3.out.trans (hb4.mono HB3.out.size))
      clear hb4
      go_wp2_with fail
      go_ret
      exact ⟨rfl, HB4.out⟩
    · obtain ⟨hm, ⟨tg, htg, htl⟩, _⟩ := both_true hb
      have EB := hideG hb
      have hk : knownB T [e.target] = true := by rw [known_bothA, hb]
      have HKN := hideG hk
      have HM := hideG hm
      have HTG := hideG htg
      have HPL := hideG (pathI_le (T := T) e)
      clear hb hk hm htg
      go_enter Try.func3, Try.ntmps3
      go_wp2_with fail
      rw [HW0.out]
      refine (refFew_any T _ _ HT0.out).mono ?_
      rintro ex wz ⟨rfl, hwz⟩
      subst hwz
      have p0x0 := cell_below HX0.out P0.out
      have p1x0 := cell_below HX0.out P1.out
      have p2x0 := cell_below HX0.out P2.out
      have p3x0 := cell_below HX0.out P3.out
      have p4x0 := cell_below HX0.out P4.out
      have p5x0 := cell_below HX0.out P5.out
      go_wp2_with fail
      refine HPA.out.mono ?_
      rintro ex w1 ⟨a1, c1, rfl, ho1, hb1⟩
      clear p0x0 p1x0 p2x0 p3x0 p4x0 p5x0
      have HT1 := hideG (HT0.out.below hb1)
      have HB1 := hideG (HB0.out.trans (hb1.mono HB0.out.size))
      have HX1 := hideG (HX0.out.trans (hb1.mono HX0.out.size))
      clear hb1
      have HA1 := hideG (ownsRow_stCells ho1)
      clear ho1
      have p0x1 := cell_below HX1.out P0.out
      have p1x1 := cell_below HX1.out P1.out
      have p2x1 := cell_below HX1.out P2.out
      have p3x1 := cell_below HX1.out P3.out
      have p4x1 := cell_below HX1.out P4.out
      have p5x1 := cell_below HX1.out P5.out
      go_wp2_with fail
      refine (refBoth_any T HS.out _ _ _ _ HT1.out).mono ?_
      rintro ex w2 ⟨rfl, hb2⟩
      rw [EB.out]
      clear p0x1 p1x1 p2x1 p3x1 p4x1 p5x1
      have HT2 := hideG (HT1.out.below hb2)
      have HB2 := hideG (HB1.out.trans (hb2.mono HB1.out.size))
      have HX2 := hideG (HX1.out.trans (hb2.mono HX1.out.size))
      have HA2 := hideG (HA1.out.below hb2)
      clear hb2
      have p0x2 := cell_below HX2.out P0.out
      have p1x2 := cell_below HX2.out P1.out
      have p2x2 := cell_below HX2.out P2.out
      have p3x2 := cell_below HX2.out P3.out
      have p4x2 := cell_below HX2.out P4.out
      have p5x2 := cell_below HX2.out P5.out
      go_wp2_with fail
      refine (refPath7_any T HS.out _ e HKN.out _ HT2.out).mono ?_
      rintro ex w3 ⟨a3, c3, rfl, ho3, hb3⟩
      clear p0x2 p1x2 p2x2 p3x2 p4x2 p5x2
      have HT3 := hideG (HT2.out.below hb3)
      have HB3 := hideG (HB2.out.trans (hb3.mono HB2.out.size))
      have HX3 := hideG (HX2.out.trans (hb3.mono HX2.out.size))
      have HA3 := hideG (HA2.out.below hb3)
      clear hb3
      have HC3 := hideG (ownsRow_stCells ho3)
      clear ho3
      generalize pathI T e = p at *
      have hpl : p.length ≤ 64 := HPL.out
      go_wp2_with fail
      go_loopw [9] (fun i wr => ∃ k : Nat, k ≤ p.length ∧ i = .int .i64 (k : Int) ∧ Below w3.heap.size w3 wr) (fun i _ => p.length - (intOf i).toNat)
      case atStart => exact ⟨0, Nat.zero_le _, rfl, Below.refl _ _⟩
      case round =>
        obtain ⟨k, hk, rfl, hBk⟩ := hrel
        have HBk := hideG hBk
        clear hBk
        by_cases hlt : k < p.length
        · obtain ⟨a1b, a1c, a1e, a1d⟩ := HA3.out
          injection a1e with q1 q2 q3
          subst q1
          subst q3
          clear q2
          obtain ⟨b1, o1, rfl, a1x⟩ := a1d.2 (by omega)
          obtain ⟨a2b, a2c, a2e, a2d⟩ := HC3.out
          injection a2e with q1 q2 q3
          subst q1
          subst q3
          clear q2
          obtain ⟨b2, o2, rfl, a2x⟩ := a2d.2 (by omega)
          have h1 := (a1x k hlt).below HBk.out
          have h2 := (a2x k hlt).below HBk.out
          clear a1d a1x a2d a2x
          generalize p.getD k stD = x at *
          have c0 := h1.node
          have c1 := h1.tg
          have c2 := h1.rel
          have d0 := h2.node
          have d1 := h2.tg
          have d2 := h2.rel
          have hk0 : (0 : Int) ≤ (k : Int) := by omega
          have hk1 : (k : Int) < (p.length : Int) := by omega
          have he := fun wx => str_neq x.node x.tg x.rel wx
          clear h1 h2
          go_wp2_with fail
          go_region
          go_wp2_with fail
          go_roundw
          case rel => exact ⟨k + 1, by omega, by go_num, below_drew' HBk.out⟩
          case measure => simp [intOf]; omega
        · have HTr := hideG (HT3.out.below HBk.out)
          have HBr := hideG (HB3.out.trans (HBk.out.mono HB3.out.size))
          have HXr := hideG (HX3.out.trans (HBk.out.mono HX3.out.size))
          go_wp2_with fail
          refine (refIs_any _ _ _ _ _).mono ?_
          rintro ex wz ⟨rfl, hwz⟩
          subst hwz
          cases hin : isNodeB T.length n
          · have E5 := hideG (show aimParI T n e = -1 by unfold aimParI; rw [show knownB T [n] = false by simp [knownB, hin]]; simp)
            clear hin
            have p0 := cell_below HXr.out P0.out
            have p1 := cell_below HXr.out P1.out
            have p2 := cell_below HXr.out P2.out
            have p3 := cell_below HXr.out P3.out
            have p4 := cell_below HXr.out P4.out
            have p5 := cell_below HXr.out P5.out
            go_wp2_with fail
            refine (aimParent_any T HS.out _ n e _ HTr.out).mono ?_
            rintro ex w5 ⟨rfl, hb5⟩
            rw [E5.out]
            have HB5 := hideG (HBr.out.trans (hb5.mono HBr.out.size))
            clear hb5 p0 p1 p2 p3 p4 p5
            go_wp2_with fail
            refine (live7_any _).mono ?_
            rintro ex w6 ⟨rfl, hb6⟩
            have HB6 := hideG (HB5.out.trans (hb6.mono HB5.out.size))
            clear hb6
            go_wp2_with fail
            go_ret
            exact ⟨rfl, HB6.out⟩
          · obtain ⟨m, hmn, hml⟩ := isNodeB_true hin
            subst hmn
            have E5 := hideG (show aimParI T (m : Int) e = parA T tg e.comp m by unfold aimParI; rw [known_of HM.out hml, HTG.out, known_of HM.out htl]; simp)
            clear hin
            have p0 := cell_below HXr.out P0.out
            have p1 := cell_below HXr.out P1.out
            have p2 := cell_below HXr.out P2.out
            have p3 := cell_below HXr.out P3.out
            have p4 := cell_below HXr.out P4.out
            have p5 := cell_below HXr.out P5.out
            go_wp2_with fail
            refine (refParent7_any T HM.out HS.out _ m tg hml htl e HTG.out _ HTr.out).mono ?_
            rintro ex w5 ⟨rfl, hb5⟩
            have HB5 := hideG (HBr.out.trans (hb5.mono HBr.out.size))
            have HT5 := hideG (HTr.out.below hb5)
            have HX5 := hideG (HXr.out.trans (hb5.mono HXr.out.size))
            clear hb5 p0 p1 p2 p3 p4 p5
            have p0 := cell_below HX5.out P0.out
            have p1 := cell_below HX5.out P1.out
            have p2 := cell_below HX5.out P2.out
            have p3 := cell_below HX5.out P3.out
            have p4 := cell_below HX5.out P4.out
            have p5 := cell_below HX5.out P5.out
            go_wp2_with fail
            refine (aimParent_any T HS.out _ _ e _ HT5.out).mono ?_
            rintro ex w6 ⟨rfl, hb6⟩
            rw [E5.out]
            have HB6 := hideG (HB5.out.trans (hb6.mono HB5.out.size))
            clear hb6 p0 p1 p2 p3 p4 p5
            go_wp2_with fail
            refine (live7_any _).mono ?_
            rintro ex w7 ⟨rfl, hb7⟩
            have HB7 := hideG (HB6.out.trans (hb7.mono HB6.out.size))
            clear hb7
            go_wp2_with fail
            go_ret
            exact ⟨rfl, HB7.out⟩
end Go.Proofs.Ytgfdcllpmjhkeaa
