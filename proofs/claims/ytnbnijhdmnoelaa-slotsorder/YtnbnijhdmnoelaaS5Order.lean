/- SlotsOrder, walked. -/
import Derived.Test.YtnbnijhdmnoelaaS5Ord
namespace Go.Proofs.Ytnbnijhdmnoelaa
open Go.RowKit

set_option maxRecDepth 100000 in
set_option maxHeartbeats 8000000 in
theorem s5order_yes (T : List Nd) (tb to tc : Nat) (n : Nat) (w : World) (hT : TreeAt w (.slice (some ⟨tb, to, none⟩) T.length tc) T) (hs : fewB T = true) (hab : bothB T (n : Int) (n : Int) = true) :
    Calls Try.prog 17 #[.slice (some ⟨tb, to, none⟩) T.length tc, .int .i64 (n : Int)] w fun e w' => e = .returned (.bool true) ∧ Below w.heap.size w w' := by
  obtain ⟨hm, ⟨n', en, hn⟩, _⟩ := both_true hab
  obtain rfl : n = n' := by omega
  have hpos := mayB_pos hm
  have HT0 := hideG hT
  have HS := hideG (small_sane (few_small hs))
  have HM := hideG hm
  obtain ⟨h, hpa, hpb⟩ := asg_pairs hm hn
  have HPA := hideG hpa
  have HPB := hideG hpb
  obtain ⟨hqa, hqb⟩ := all_pairs hm hn
  have HQA := hideG hqa
  have HQB := hideG hqb
  have hl1 := asgI_le (T := T) (n : Int)
  have hl2 := all_leI (T := T) (s := (n : Int))
  clear hT hm en hpa hpb hqa hqb
  go_enter Try.func17, Try.ntmps17
  go_wp2_with fail
  refine (refFew_any T _ _ HT0.out).mono ?_
  rintro e wz ⟨rfl, hwz⟩
  subst hwz
  go_wp2_with fail
  refine (refBoth_any T HS.out _ _ _ _ HT0.out).mono ?_
  rintro e w1 ⟨rfl, hb1⟩
  have HT1 := hideG (HT0.out.below hb1)
  have HB1 := hideG hb1
  clear hb1
  go_wp2_with fail
  refine (assigned_any T HS.out _ _ _ HT1.out).mono ?_
  rintro e w2 ⟨a2, c2, rfl, ho2, hb2⟩
  have HL2 := hideG (ownsRow_ints ho2)
  have HT2 := hideG (HT1.out.below hb2)
  have HB2 := hideG (HB1.out.trans (hb2.mono HB1.out.size))
  clear ho2 hb2
  generalize asgI T (n : Int) = la at *
  have HKC : Hid (0 < la.length → ∃ b off, a2 = some ⟨b, off, none⟩ ∧ ∀ j, j < la.length → w2.cell? ⟨b, off + j, none⟩ = some (.int .i64 (la.getD j 0))) := by
    obtain ⟨a', cap', hv', hd'⟩ := HL2.out
    simp only [Value.slice.injEq, true_and] at hv'
    obtain ⟨rfl, rfl⟩ := hv'
    exact hd'
  go_wp2_with fail
  go_loopw [6] (fun i wr => ∃ k : Nat, k ≤ la.length ∧ i = .int .i64 ((k : Int) + 1) ∧ Below w2.heap.size w2 wr) (fun i _ => la.length + 1 - (intOf i).toNat)
  case atStart => exact ⟨0, Nat.zero_le _, rfl, Below.refl _ _⟩
  case round =>
    obtain ⟨k, hk, rfl, hB⟩ := hrel
    have HBk := hideG hB
    clear hB
    by_cases hlt : (k : Int) + 1 < (la.length : Int)
    · obtain ⟨gb, goff, rfl, hdd⟩ := HKC.out (by omega)
      obtain ⟨x0, e0, hx0, hp0⟩ := HPA.out 0 (by omega)
      obtain ⟨x1, e1, hx1, _⟩ := HPA.out k (by omega)
      obtain ⟨x2, e2, hx2, hp2⟩ := HPA.out (k + 1) (by omega)
      have hbe := HPB.out k (by omega)
      rw [e1, e2, Int.toNat_natCast, Int.toNat_natCast] at hbe
      have C0 := hideG (hdd 0 (by omega))
      have C1 := hideG (hdd k (by omega))
      have C2 := hideG (hdd (k + 1) (by omega))
      rw [e0] at C0
      rw [e1] at C1
      rw [e2] at C2
      obtain ⟨tb', to', tc', htv, hct⟩ := HT2.out.at (by omega)
      simp only [Value.slice.injEq, Option.some.injEq, Addr.mk.injEq, and_true, true_and] at htv
      obtain ⟨⟨rfl, rfl⟩, rfl⟩ := htv
      obtain ⟨kv, av, hN0⟩ := hct x0 hx0
      obtain ⟨kv', av', hN2⟩ := hct x2 hx2
      have G0 := hideG hN0.parent
      have G2 := hideG hN2.parent
      rw [hp0] at G0
      rw [hp2] at G2
      have HBE := hideG hbe
      have hk0 : (0 : Int) ≤ (k : Int) := by omega
      have hk1 : (k : Int) < (la.length : Int) := by omega
      have hz1 : (0 : Int) < (la.length : Int) := by omega
      have hx00 : (0 : Int) ≤ (x0 : Int) := by omega
      have hx20 : (0 : Int) ≤ (x2 : Int) := by omega
      have hhh : ((h : Int) != (h : Int)) = false := by simp
      clear hdd e0 e1 e2 hct hN0 hN2 hp0 hp2 hbe
      have c1 := cell_below HBk.out C1.out
      have c2 := cell_below HBk.out C2.out
      have c0 := cell_below HBk.out C0.out
      rw [Nat.add_zero] at c0
      have g0 := cell_below HBk.out G0.out
      have g2 := cell_below HBk.out G2.out
      have HF := hideG (show ∀ U, Below wr.heap.size wr U → Calls Try.prog 39 #[.slice (some ⟨tb, to, none⟩) T.length tc, .int .i64 (x1 : Int), .int .i64 (x2 : Int)] U fun e w' => e = .returned (.bool true) ∧ Below wr.heap.size wr w' from fun U hU => by
        refine (refBefore_any T HM.out _ x1 x2 hx1 hx2 _ ((HT2.out.below HBk.out).below hU)).mono ?_
        rintro e w' ⟨rfl, hb⟩
        exact ⟨by rw [HBE.out], hU.trans (hb.mono hU.size)⟩)
      have hcc : ∀ (d : Calm wr) (b o : Nat), b < wr.heap.size → d.to.cell? ⟨b, o, none⟩ = wr.cell? ⟨b, o, none⟩ := calmCell
      have hgb : gb < wr.heap.size := below_of_cell c1
      have htb : tb < wr.heap.size := below_of_cell g2
      go_wp2_with fail
      refine wp_region_calm (by kernel_rfl) (by kernel_rfl) ?_
      repeat (go_big_quiet_step (first | (go_at_call 39; refine Calls.mono (HF.out _ (Calm.below _)) ?_; rintro e w1 ⟨rfl, hb⟩; exact ⟨rfl, ⟨w1, hb⟩, rfl⟩)))
      refine wpQuiet_nil ?_
      intro _ hw'
      obtain ⟨dq, hw''⟩ := hw'
      subst hw''
      have HB5 := hideG (HBk.out.trans (dq.below.mono HBk.out.size))
      generalize dq.to = w5 at *
      clear dq hcc
      go_wp2_with fail
      go_roundw
      case rel => exact ⟨k + 1, by omega, by go_num, HB5.out⟩
      case measure => simp [intOf]; omega
    · have HBE := hideG (HB2.out.trans (HBk.out.mono HB2.out.size))
      have HTE := hideG (HT2.out.below HBk.out)
      go_wp2_with fail
      refine (slotsAll_any T HS.out _ _ _ HTE.out).mono ?_
      rintro e w3 ⟨a3, c3, rfl, ho3, hb3⟩
      have HL3 := hideG (ownsRow_ints ho3)
      have HT3 := hideG (HTE.out.below hb3)
      have HB3 := hideG (HBE.out.trans (hb3.mono HBE.out.size))
      clear ho3 hb3
      generalize allI T (n : Int) = lb at *
      have HKD : Hid (0 < lb.length → ∃ b off, a3 = some ⟨b, off, none⟩ ∧ ∀ j, j < lb.length → w3.cell? ⟨b, off + j, none⟩ = some (.int .i64 (lb.getD j 0))) := by
        obtain ⟨a', cap', hv', hd'⟩ := HL3.out
        simp only [Value.slice.injEq, true_and] at hv'
        obtain ⟨rfl, rfl⟩ := hv'
        exact hd'
      go_wp2_with fail
      go_loopw [8] (fun i wr => ∃ q : Nat, q ≤ lb.length ∧ i = .int .i64 ((q : Int) + 1) ∧ Below w3.heap.size w3 wr) (fun i _ => lb.length + 1 - (intOf i).toNat)
      case atStart => exact ⟨0, Nat.zero_le _, rfl, Below.refl _ _⟩
      case round =>
        obtain ⟨q, hq, rfl, hBq⟩ := hrel
        have HBq := hideG hBq
        clear hBq
        by_cases hltq : (q : Int) + 1 < (lb.length : Int)
        · obtain ⟨gb, goff, rfl, hdd⟩ := HKD.out (by omega)
          obtain ⟨x1, e1, hx1⟩ := HQA.out q (by omega)
          obtain ⟨x2, e2, hx2⟩ := HQA.out (q + 1) (by omega)
          have hbe := HQB.out q (by omega)
          rw [e1, e2, Int.toNat_natCast, Int.toNat_natCast] at hbe
          have C1 := hideG (hdd q (by omega))
          have C2 := hideG (hdd (q + 1) (by omega))
          rw [e1] at C1
          rw [e2] at C2
          have HBF := hideG hbe
          have hq0 : (0 : Int) ≤ (q : Int) := by omega
          have hq1 : (q : Int) < (lb.length : Int) := by omega
          clear hdd e1 e2 hbe
          have c1 := cell_below HBq.out C1.out
          have c2 := cell_below HBq.out C2.out
          have HF := hideG (show ∀ U, Below wr.heap.size wr U → Calls Try.prog 39 #[.slice (some ⟨tb, to, none⟩) T.length tc, .int .i64 (x1 : Int), .int .i64 (x2 : Int)] U fun e w' => e = .returned (.bool true) ∧ Below wr.heap.size wr w' from fun U hU => by
            refine (refBefore_any T HM.out _ x1 x2 hx1 hx2 _ ((HT3.out.below HBq.out).below hU)).mono ?_
            rintro e w' ⟨rfl, hb⟩
            exact ⟨by rw [HBF.out], hU.trans (hb.mono hU.size)⟩)
          have hcc : ∀ (d : Calm wr) (b o : Nat), b < wr.heap.size → d.to.cell? ⟨b, o, none⟩ = wr.cell? ⟨b, o, none⟩ := calmCell
          have hgb : gb < wr.heap.size := below_of_cell c1
          go_wp2_with fail
          refine wp_region_calm (by kernel_rfl) (by kernel_rfl) ?_
          repeat (go_big_quiet_step (first | (go_at_call 39; refine Calls.mono (HF.out _ (Calm.below _)) ?_; rintro e w1 ⟨rfl, hb⟩; exact ⟨rfl, ⟨w1, hb⟩, rfl⟩)))
          refine wpQuiet_nil ?_
          intro _ hw'
          obtain ⟨dq, hw''⟩ := hw'
          subst hw''
          have HB5 := hideG (HBq.out.trans (dq.below.mono HBq.out.size))
          generalize dq.to = w5 at *
          clear dq hcc
          go_wp2_with fail
          go_roundw
          case rel => exact ⟨q + 1, by omega, by go_num, HB5.out⟩
          case measure => simp [intOf]; omega
        · have HB6 := hideG (HB3.out.trans (HBq.out.mono HB3.out.size))
          go_wp2_with fail
          refine (live5_any _).mono ?_
          rintro e w7 ⟨rfl, hb7⟩
          have HB7 := hideG (HB6.out.trans (hb7.mono HB6.out.size))
          clear hb7
          go_wp2_with fail
          go_ret
          exact ⟨rfl, HB7.out⟩

set_option maxRecDepth 100000 in
set_option maxHeartbeats 4000000 in
theorem s5order_walk (T : List Nd) (v : Value) (n : Int) (w : World) (hT : TreeAt w v T) :
    Calls Try.prog 17 #[v, .int .i64 n] w fun e w' => e = .returned (.bool true) ∧ Below w.heap.size w w' := by
  cases hs : fewB T
  · obtain ⟨ta, tc, rfl⟩ := hT.shape
    have HT := hideG hT
    clear hT
    go_enter Try.func17, Try.ntmps17
    go_wp2_with (first | (go_at_call 42; refine (refFew_any T _ _ HT.out).mono ?_; rintro e w1 ⟨rfl, rfl⟩) | (go_at_call 56; refine (live5_any _).mono ?_; rintro e w2 ⟨rfl, hb2⟩))
    go_ret
    exact ⟨rfl, hb2⟩
  · cases hab : bothB T n n
    · obtain ⟨ta, tc, rfl⟩ := hT.shape
      have HT := hideG hT
      have HS := hideG (small_sane (few_small hs))
      clear hT
      go_enter Try.func17, Try.ntmps17
      go_wp2_with (first | (go_at_call 42; refine (refFew_any T _ _ HT.out).mono ?_; rintro e w1 ⟨rfl, hw⟩; subst hw) | (go_at_call 27; refine (refBoth_any T HS.out _ _ _ _ HT.out).mono ?_; rintro e w1 ⟨rfl, hb1⟩; have HB1 := hideG hb1; clear hb1) | (go_at_call 56; refine (live5_any _).mono ?_; rintro e w2 ⟨rfl, hb2⟩; have HB2 := hideG (HB1.out.trans (hb2.mono HB1.out.size)); clear hb2))
      go_ret
      exact ⟨rfl, HB2.out⟩
    · obtain ⟨hm, ⟨n', en, hn⟩, _⟩ := both_true hab
      subst en
      obtain ⟨tb, to, tc, rfl, _⟩ := hT.at (by omega)
      exact s5order_yes T tb to tc n' w hT hs hab
end Go.Proofs.Ytnbnijhdmnoelaa
