/- AimVisits, walked. -/
import Derived.Test.YtgfdcllpmjhkeaaA7Tell
namespace Go.Proofs.Ytgfdcllpmjhkeaa
open Go.RowKit

set_option maxRecDepth 100000 in
set_option maxHeartbeats 8000000 in
theorem aimVisits_walk (T : List Nd) (v : Value) (e : Ev) (w : World) (hT : TreeAt w v T) :
    Calls Try.prog 4 #[v, .agg #[.int .i64 e.type, .int .i64 e.target, .int .i64 e.related, .bool e.bub, .bool e.can, .bool e.comp]] w fun x w' => x = .returned (.bool true) ∧ Below w.heap.size w w' := by
  obtain ⟨ta, tc, rfl⟩ := hT.shape
  obtain ⟨W0, hW0⟩ : ∃ W0, w.alloc (.cells #[.int .i64 e.type, .int .i64 e.target, .int .i64 e.related, .bool e.bub, .bool e.can, .bool e.comp] 25) = W0 := ⟨_, rfl⟩
  have HB0 := hideG (show Below w.heap.size w W0 by rw [← hW0]; exact (Below.refl _ w).alloc (Nat.le_refl _) _)
  have HX0 := hideG (Below.refl W0.heap.size W0)
  have P0 := hideG (show W0.cell? ⟨w.heap.size, 0, none⟩ = some (.int .i64 e.type) by rw [← hW0]; simp)
  have P1 := hideG (show W0.cell? ⟨w.heap.size, 1, none⟩ = some (.int .i64 e.target) by rw [← hW0]; simp)
  have P2 := hideG (show W0.cell? ⟨w.heap.size, 2, none⟩ = some (.int .i64 e.related) by rw [← hW0]; simp)
  have P3 := hideG (show W0.cell? ⟨w.heap.size, 3, none⟩ = some (.bool e.bub) by rw [← hW0]; simp)
  have P4 := hideG (show W0.cell? ⟨w.heap.size, 4, none⟩ = some (.bool e.can) by rw [← hW0]; simp)
  have P5 := hideG (show W0.cell? ⟨w.heap.size, 5, none⟩ = some (.bool e.comp) by rw [← hW0]; simp)
  have HT0 := hideG (hT.below HB0.out)
  have HW0 := hideG hW0
  clear hW0 hT
  cases hs : fewB T
  · go_enter Try.func4, Try.ntmps4
    go_wp2_with fail
    rw [HW0.out]
    refine (refFew_any T _ _ HT0.out).mono ?_
    rintro ex wz ⟨rfl, hwz⟩
    subst hwz
    go_wp2_with fail
    refine (live7_any _).mono ?_
    rintro ex w1 ⟨rfl, hb1⟩
    have HB1 := hideG (HB0.out.trans (hb1.mono HB0.out.size))
    clear hb1
    go_wp2_with fail
    go_ret
    exact ⟨rfl, HB1.out⟩
  · have HS := hideG (small_sane (few_small hs))
    have h6 := few_len hs
    have HPA := hideG (visits_any T HS.out (.slice ta T.length tc) e W0 HT0.out h6)
    cases hb : bothB T e.target e.target
    · have EB := hideG hb
      have hk : knownB T [e.target] = false := by rw [known_bothA, hb]
      have E1 := hideG (show visitsI T e = [] by simp [visitsI, visitsL, pathI, hk])
      clear hb hk
      go_enter Try.func4, Try.ntmps4
      go_wp2_with fail
      rw [HW0.out]
      refine (refFew_any T _ _ HT0.out).mono ?_
      rintro ex wz ⟨rfl, hwz⟩
      subst hwz
      have p0x0 := cell_below HX0.out P0.out
      have p1x0 := cell_below HX0.out P1.out
      have p2x0 := cell_below HX0.out P2.out
      have p3x0 := cell_below HX0.out P3.out
      have p4x0 := cell_below HX0.out P4.out
      have p5x0 := cell_below HX0.out P5.out
      go_wp2_with fail
      refine HPA.out.mono ?_
      rintro ex w1 ⟨a1, c1, rfl, ho1, hb1⟩
      rw [E1.out] at ho1 ⊢
      clear ho1
      clear p0x0 p1x0 p2x0 p3x0 p4x0 p5x0
      have HT1 := hideG (HT0.out.below hb1)
      have HB1 := hideG (HB0.out.trans (hb1.mono HB0.out.size))
      have HX1 := hideG (HX0.out.trans (hb1.mono HX0.out.size))
      clear hb1
      have p0x1 := cell_below HX1.out P0.out
      have p1x1 := cell_below HX1.out P1.out
      have p2x1 := cell_below HX1.out P2.out
      have p3x1 := cell_below HX1.out P3.out
      have p4x1 := cell_below HX1.out P4.out
      have p5x1 := cell_below HX1.out P5.out
      go_wp2_with fail
      refine (refBoth_any T HS.out _ _ _ _ HT1.out).mono ?_
      rintro ex w2 ⟨rfl, hb2⟩
      rw [EB.out]
      clear p0x1 p1x1 p2x1 p3x1 p4x1 p5x1
      have HT2 := hideG (HT1.out.below hb2)
      have HB2 := hideG (HB1.out.trans (hb2.mono HB1.out.size))
      have HX2 := hideG (HX1.out.trans (hb2.mono HX1.out.size))
      clear hb2
      go_wp2_with fail
      refine (live7_any _).mono ?_
      rintro ex w4 ⟨rfl, hb4⟩
      have HB4 := hideG (HB2.out.trans (hb4.mono HB2.out.size))
      clear hb4
      go_wp2_with fail
      go_ret
      exact ⟨rfl, HB4.out⟩
    · obtain ⟨hm, ⟨tg, htg, htl⟩, _⟩ := both_true hb
      have EB := hideG hb
      have hk : knownB T [e.target] = true := by rw [known_bothA, hb]
      have HKN := hideG hk
      have HPL := hideG (show (visitsI T e).length ≤ 128 by have h1 := visitsL_le (pathI T e) e.bub; have h2 := pathI_le (T := T) e; unfold visitsI; omega)
      clear hb hk hm htg
      go_enter Try.func4, Try.ntmps4
      go_wp2_with fail
      rw [HW0.out]
      refine (refFew_any T _ _ HT0.out).mono ?_
      rintro ex wz ⟨rfl, hwz⟩
      subst hwz
      have p0x0 := cell_below HX0.out P0.out
      have p1x0 := cell_below HX0.out P1.out
      have p2x0 := cell_below HX0.out P2.out
      have p3x0 := cell_below HX0.out P3.out
      have p4x0 := cell_below HX0.out P4.out
      have p5x0 := cell_below HX0.out P5.out
      go_wp2_with fail
      refine HPA.out.mono ?_
      rintro ex w1 ⟨a1, c1, rfl, ho1, hb1⟩
      clear p0x0 p1x0 p2x0 p3x0 p4x0 p5x0
      have HT1 := hideG (HT0.out.below hb1)
      have HB1 := hideG (HB0.out.trans (hb1.mono HB0.out.size))
      have HX1 := hideG (HX0.out.trans (hb1.mono HX0.out.size))
      clear hb1
      have HA1 := hideG (ownsRow_viCells ho1)
      clear ho1
      have p0x1 := cell_below HX1.out P0.out
      have p1x1 := cell_below HX1.out P1.out
      have p2x1 := cell_below HX1.out P2.out
      have p3x1 := cell_below HX1.out P3.out
      have p4x1 := cell_below HX1.out P4.out
      have p5x1 := cell_below HX1.out P5.out
      go_wp2_with fail
      refine (refBoth_any T HS.out _ _ _ _ HT1.out).mono ?_
      rintro ex w2 ⟨rfl, hb2⟩
      rw [EB.out]
      clear p0x1 p1x1 p2x1 p3x1 p4x1 p5x1
      have HT2 := hideG (HT1.out.below hb2)
      have HB2 := hideG (HB1.out.trans (hb2.mono HB1.out.size))
      have HX2 := hideG (HX1.out.trans (hb2.mono HX1.out.size))
      have HA2 := hideG (HA1.out.below hb2)
      clear hb2
      have p0x2 := cell_below HX2.out P0.out
      have p1x2 := cell_below HX2.out P1.out
      have p2x2 := cell_below HX2.out P2.out
      have p3x2 := cell_below HX2.out P3.out
      have p4x2 := cell_below HX2.out P4.out
      have p5x2 := cell_below HX2.out P5.out
      go_wp2_with fail
      refine (refVisits7_any T HS.out _ e HKN.out _ HT2.out).mono ?_
      rintro ex w3 ⟨a3, c3, rfl, ho3, hb3⟩
      clear p0x2 p1x2 p2x2 p3x2 p4x2 p5x2
      have HT3 := hideG (HT2.out.below hb3)
      have HB3 := hideG (HB2.out.trans (hb3.mono HB2.out.size))
      have HX3 := hideG (HX2.out.trans (hb3.mono HX2.out.size))
      have HA3 := hideG (HA2.out.below hb3)
      clear hb3
      have HC3 := hideG (ownsRow_viCells ho3)
      clear ho3
      generalize visitsI T e = p at *
      have hpl : p.length ≤ 128 := HPL.out
      go_wp2_with fail
      go_loopw [7] (fun i wr => ∃ k : Nat, k ≤ p.length ∧ i = .int .i64 (k : Int) ∧ Below w3.heap.size w3 wr) (fun i _ => p.length - (intOf i).toNat)
      case atStart => exact ⟨0, Nat.zero_le _, rfl, Below.refl _ _⟩
      case round =>
        obtain ⟨k, hk, rfl, hBk⟩ := hrel
        have HBk := hideG hBk
        clear hBk
        by_cases hlt : k < p.length
        · obtain ⟨a1b, a1c, a1e, a1d⟩ := HA3.out
          injection a1e with q1 q2 q3
          subst q1
          subst q3
          clear q2
          obtain ⟨b1, o1, rfl, a1x⟩ := a1d.2 (by omega)
          obtain ⟨a2b, a2c, a2e, a2d⟩ := HC3.out
          injection a2e with q1 q2 q3
          subst q1
          subst q3
          clear q2
          obtain ⟨b2, o2, rfl, a2x⟩ := a2d.2 (by omega)
          have h1 := (a1x k hlt).below HBk.out
          have h2 := (a2x k hlt).below HBk.out
          clear a1d a1x a2d a2x
          generalize p.getD k viD = x at *
          have c0 := h1.node
          have c1 := h1.tg
          have c2 := h1.rel
          have c3 := h1.phase
          have c4 := h1.cap
          have d0 := h2.node
          have d1 := h2.tg
          have d2 := h2.rel
          have d3 := h2.phase
          have d4 := h2.cap
          have hk0 : (0 : Int) ≤ (k : Int) := by omega
          have hk1 : (k : Int) < (p.length : Int) := by omega
          have he := fun wx => str_neq x.s.node x.s.tg x.s.rel wx
          clear h1 h2
          go_wp2_with fail
          go_region
          go_wp2_with fail
          go_roundw
          case rel => exact ⟨k + 1, by omega, by go_num, below_drew' HBk.out⟩
          case measure => simp [intOf]; omega
        · have HBr := hideG (HB3.out.trans (HBk.out.mono HB3.out.size))
          clear HBk
          go_wp2_with fail
          refine (live7_any _).mono ?_
          rintro ex w6 ⟨rfl, hb6⟩
          have HB6 := hideG (HBr.out.trans (hb6.mono HBr.out.size))
          clear hb6
          go_wp2_with fail
          go_ret
          exact ⟨rfl, HB6.out⟩
end Go.Proofs.Ytgfdcllpmjhkeaa
