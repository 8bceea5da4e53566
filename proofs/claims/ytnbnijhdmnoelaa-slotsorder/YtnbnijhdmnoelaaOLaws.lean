/- OrderLaws, walked, road by road. -/
import Derived.Test.YtnbnijhdmnoelaaOTells
import Derived.Test.YtnbnijhdmnoelaaCalm
namespace Go.Proofs.Ytnbnijhdmnoelaa
open Go.RowKit

theorem below_drewN {B : Nat} {a w : World} (h : Below B a w) (n : Nat) : Below B a (w.drewN n) := h.trans ⟨rfl, rfl, rfl, Nat.le_refl _, fun _ _ => rfl⟩

set_option maxRecDepth 100000 in
set_option maxHeartbeats 4000000 in
theorem olaws_eq (T : List Nd) (ta : Option Addr) (tc a b c : Nat) (tt k : Nat) (w : World) (hT : TreeAt w (.slice ta T.length tc) T) (hs : smallB T = true) (hab : bothB T (a : Int) (b : Int) = true) (hbc : bothB T (b : Int) (c : Int) = true) (ETa' : topI T (a : Int) = (tt : Int)) (ETb' : topI T (b : Int) = (tt : Int)) (EC1' : commonI T (a : Int) (b : Int) = (k : Int)) (EC2' : commonI T (b : Int) (a : Int) = (k : Int)) (EKA' : aboveO T (k : Int) (a : Int) = true) (EKB' : aboveO T (k : Int) (b : Int) = true) (EAB' : beforeI T (a : Int) (b : Int) = false) (ne : ((a : Int) == (b : Int)) = true) (ne2 : ((a : Int) != (b : Int)) = false) :
    Calls Try.prog 4 #[.slice ta T.length tc, .agg #[.int .i64 (a : Int), .int .i64 (b : Int), .int .i64 (c : Int)]] w fun e w' => e = .returned (.bool true) ∧ Below w.heap.size w w' := by
  have HA := hideG ((Below.refl _ w).alloc (Nat.le_refl _) (.cells #[.int .i64 (a : Int), .int .i64 (b : Int), .int .i64 (c : Int)] 33))
  have HTT := hideG hT
  have HT := hideG (hT.below HA.out)
  have HS := hideG (small_sane hs)
  clear hT
  have ETa := hideG ETa'
  have ETb := hideG ETb'
  have EC1 := hideG EC1'
  have EC2 := hideG EC2'
  have EKA := hideG EKA'
  have EKB := hideG EKB'
  have EAB := hideG EAB'
  clear ETa' ETb' EC1' EC2' EKA' EKB' EAB'
  have hk0 : (0 : Int) ≤ (k : Int) := by omega
  have hk1 : ¬ (k : Int) < 0 := by omega
  go_enter Try.func4, Try.ntmps4
  go_wp2_with (go_at_call 25; refine (refSmall_any T _ _ HT.out).mono ?_; rintro e w1 ⟨rfl, hw⟩; subst hw)
  go_quiet (fail)
  have HB0 := hideG (below_drewN HA.out nq)
  have HT0 := hideG (HTT.out.below HB0.out)
  generalize (w.alloc (.cells #[.int .i64 (a : Int), .int .i64 (b : Int), .int .i64 (c : Int)] 33)).drewN nq = wq at *
  clear HA HT HTT
  go_wp2_with fail
  refine (refBoth_any T HS.out _ _ _ _ HT0.out).mono ?_
  rintro e w1 ⟨rfl, hb1⟩
  have HT1 := hideG (HT0.out.below hb1)
  have HB1 := hideG (HB0.out.trans (hb1.mono HB0.out.size))
  clear hb1 HT0 HB0
  go_wp2_with fail
  refine (refBoth_any T HS.out _ _ _ _ HT1.out).mono ?_
  rintro e w2 ⟨rfl, hb2⟩
  have HT2 := hideG (HT1.out.below hb2)
  have HB2 := hideG (HB1.out.trans (hb2.mono HB1.out.size))
  clear hb2 HT1 HB1
  go_wp2_with fail
  refine (orderTop_any T HS.out _ _ _ HT2.out).mono ?_
  rintro e w3 ⟨rfl, hb3⟩
  rw [ETa.out]
  have HT3 := hideG (HT2.out.below hb3)
  have HB3 := hideG (HB2.out.trans (hb3.mono HB2.out.size))
  clear hb3 HT2 HB2
  go_wp2_with fail
  refine (orderTop_any T HS.out _ _ _ HT3.out).mono ?_
  rintro e w4 ⟨rfl, hb4⟩
  rw [ETb.out]
  have HT4 := hideG (HT3.out.below hb4)
  have HB4 := hideG (HB3.out.trans (hb4.mono HB3.out.size))
  clear hb4 HT3 HB3
  go_wp2_with fail
  refine (orderBefore_any T HS.out _ _ _ _ HT4.out).mono ?_
  rintro e w5 ⟨rfl, hb5⟩
  rw [EAB.out]
  have HT5 := hideG (HT4.out.below hb5)
  have HB5 := hideG (HB4.out.trans (hb5.mono HB4.out.size))
  clear hb5 HT4 HB4
  go_wp2_with fail
  refine (orderBefore_any T HS.out _ _ _ _ HT5.out).mono ?_
  rintro e w6 ⟨rfl, hb6⟩
  rw [EAB.out]
  have HT6 := hideG (HT5.out.below hb6)
  have HB6 := hideG (HB5.out.trans (hb6.mono HB5.out.size))
  clear hb6 HT5 HB5
  go_wp2_with fail
  refine (orderCommon_any T HS.out _ _ _ _ HT6.out).mono ?_
  rintro e w7 ⟨rfl, hb7⟩
  rw [EC1.out]
  have HT7 := hideG (HT6.out.below hb7)
  have HB7 := hideG (HB6.out.trans (hb7.mono HB6.out.size))
  clear hb7 HT6 HB6
  go_wp2_with fail
  refine (orderCommon_any T HS.out _ _ _ _ HT7.out).mono ?_
  rintro e w8 ⟨rfl, hb8⟩
  rw [EC2.out]
  have HT8 := hideG (HT7.out.below hb8)
  have HB8 := hideG (HB7.out.trans (hb8.mono HB7.out.size))
  clear hb8 HT7 HB7
  go_wp2_with fail
  refine (orderAbove_any T HS.out _ _ _ _ HT8.out).mono ?_
  rintro e w9 ⟨rfl, hb9⟩
  rw [EKA.out]
  have HT9 := hideG (HT8.out.below hb9)
  have HB9 := hideG (HB8.out.trans (hb9.mono HB8.out.size))
  clear hb9 HT8 HB8
  go_wp2_with fail
  refine (orderAbove_any T HS.out _ _ _ _ HT9.out).mono ?_
  rintro e w10 ⟨rfl, hb10⟩
  rw [EKB.out]
  have HT10 := hideG (HT9.out.below hb10)
  have HB10 := hideG (HB9.out.trans (hb10.mono HB9.out.size))
  clear hb10 HT9 HB9
  go_wp2_with fail
  refine (live3_any _).mono ?_
  rintro e w11 ⟨rfl, hb11⟩
  have HT11 := hideG (HT10.out.below hb11)
  have HB11 := hideG (HB10.out.trans (hb11.mono HB10.out.size))
  clear hb11 HT10 HB10
  go_wp2_with fail
  go_ret
  exact ⟨rfl, HB11.out⟩

set_option maxRecDepth 100000 in
set_option maxHeartbeats 4000000 in
theorem olaws_ab11 (T : List Nd) (ta : Option Addr) (tc a b c : Nat) (tt k : Nat) (w : World) (hT : TreeAt w (.slice ta T.length tc) T) (hs : smallB T = true) (hab : bothB T (a : Int) (b : Int) = true) (hbc : bothB T (b : Int) (c : Int) = true) (ETa' : topI T (a : Int) = (tt : Int)) (ETb' : topI T (b : Int) = (tt : Int)) (EC1' : commonI T (a : Int) (b : Int) = (k : Int)) (EC2' : commonI T (b : Int) (a : Int) = (k : Int)) (EKA' : aboveO T (k : Int) (a : Int) = true) (EKB' : aboveO T (k : Int) (b : Int) = true) (EAB' : beforeI T (a : Int) (b : Int) = true) (EBA' : beforeI T (b : Int) (a : Int) = false) (EBC' : beforeI T (b : Int) (c : Int) = true) (EV' : aboveO T (a : Int) (b : Int) = true) (EAC' : beforeI T (a : Int) (c : Int) = true) (ne : ((a : Int) == (b : Int)) = false) (ne2 : ((a : Int) != (b : Int)) = true) :
    Calls Try.prog 4 #[.slice ta T.length tc, .agg #[.int .i64 (a : Int), .int .i64 (b : Int), .int .i64 (c : Int)]] w fun e w' => e = .returned (.bool true) ∧ Below w.heap.size w w' := by
  have HA := hideG ((Below.refl _ w).alloc (Nat.le_refl _) (.cells #[.int .i64 (a : Int), .int .i64 (b : Int), .int .i64 (c : Int)] 33))
  have HTT := hideG hT
  have HT := hideG (hT.below HA.out)
  have HS := hideG (small_sane hs)
  clear hT
  have ETa := hideG ETa'
  have ETb := hideG ETb'
  have EC1 := hideG EC1'
  have EC2 := hideG EC2'
  have EKA := hideG EKA'
  have EKB := hideG EKB'
  have EAB := hideG EAB'
  have EBA := hideG EBA'
  have EBC := hideG EBC'
  have EV := hideG EV'
  have EAC := hideG EAC'
  clear ETa' ETb' EC1' EC2' EKA' EKB' EAB' EBA' EBC' EV' EAC'
  have hk0 : (0 : Int) ≤ (k : Int) := by omega
  have hk1 : ¬ (k : Int) < 0 := by omega
  go_enter Try.func4, Try.ntmps4
  go_wp2_with (go_at_call 25; refine (refSmall_any T _ _ HT.out).mono ?_; rintro e w1 ⟨rfl, hw⟩; subst hw)
  go_quiet (fail)
  have HB0 := hideG (below_drewN HA.out nq)
  have HT0 := hideG (HTT.out.below HB0.out)
  generalize (w.alloc (.cells #[.int .i64 (a : Int), .int .i64 (b : Int), .int .i64 (c : Int)] 33)).drewN nq = wq at *
  clear HA HT HTT
  go_wp2_with fail
  refine (refBoth_any T HS.out _ _ _ _ HT0.out).mono ?_
  rintro e w1 ⟨rfl, hb1⟩
  have HT1 := hideG (HT0.out.below hb1)
  have HB1 := hideG (HB0.out.trans (hb1.mono HB0.out.size))
  clear hb1 HT0 HB0
  go_wp2_with fail
  refine (refBoth_any T HS.out _ _ _ _ HT1.out).mono ?_
  rintro e w2 ⟨rfl, hb2⟩
  have HT2 := hideG (HT1.out.below hb2)
  have HB2 := hideG (HB1.out.trans (hb2.mono HB1.out.size))
  clear hb2 HT1 HB1
  go_wp2_with fail
  refine (orderTop_any T HS.out _ _ _ HT2.out).mono ?_
  rintro e w3 ⟨rfl, hb3⟩
  rw [ETa.out]
  have HT3 := hideG (HT2.out.below hb3)
  have HB3 := hideG (HB2.out.trans (hb3.mono HB2.out.size))
  clear hb3 HT2 HB2
  go_wp2_with fail
  refine (orderTop_any T HS.out _ _ _ HT3.out).mono ?_
  rintro e w4 ⟨rfl, hb4⟩
  rw [ETb.out]
  have HT4 := hideG (HT3.out.below hb4)
  have HB4 := hideG (HB3.out.trans (hb4.mono HB3.out.size))
  clear hb4 HT3 HB3
  go_wp2_with fail
  refine (orderBefore_any T HS.out _ _ _ _ HT4.out).mono ?_
  rintro e w5 ⟨rfl, hb5⟩
  rw [EAB.out]
  have HT5 := hideG (HT4.out.below hb5)
  have HB5 := hideG (HB4.out.trans (hb5.mono HB4.out.size))
  clear hb5 HT4 HB4
  go_wp2_with fail
  refine (orderBefore_any T HS.out _ _ _ _ HT5.out).mono ?_
  rintro e w6 ⟨rfl, hb6⟩
  rw [EBA.out]
  have HT6 := hideG (HT5.out.below hb6)
  have HB6 := hideG (HB5.out.trans (hb6.mono HB5.out.size))
  clear hb6 HT5 HB5
  go_wp2_with fail
  refine (orderBefore_any T HS.out _ _ _ _ HT6.out).mono ?_
  rintro e w7 ⟨rfl, hb7⟩
  rw [EAB.out]
  have HT7 := hideG (HT6.out.below hb7)
  have HB7 := hideG (HB6.out.trans (hb7.mono HB6.out.size))
  clear hb7 HT6 HB6
  go_wp2_with fail
  refine (orderBefore_any T HS.out _ _ _ _ HT7.out).mono ?_
  rintro e w8 ⟨rfl, hb8⟩
  rw [EAB.out]
  have HT8 := hideG (HT7.out.below hb8)
  have HB8 := hideG (HB7.out.trans (hb8.mono HB7.out.size))
  clear hb8 HT7 HB7
  go_wp2_with fail
  refine (orderBefore_any T HS.out _ _ _ _ HT8.out).mono ?_
  rintro e w9 ⟨rfl, hb9⟩
  rw [EBC.out]
  have HT9 := hideG (HT8.out.below hb9)
  have HB9 := hideG (HB8.out.trans (hb9.mono HB8.out.size))
  clear hb9 HT8 HB8
  go_wp2_with fail
  refine (orderBefore_any T HS.out _ _ _ _ HT9.out).mono ?_
  rintro e w10 ⟨rfl, hb10⟩
  rw [EAC.out]
  have HT10 := hideG (HT9.out.below hb10)
  have HB10 := hideG (HB9.out.trans (hb10.mono HB9.out.size))
  clear hb10 HT9 HB9
  go_wp2_with fail
  refine (orderAbove_any T HS.out _ _ _ _ HT10.out).mono ?_
  rintro e w11 ⟨rfl, hb11⟩
  rw [EV.out]
  have HT11 := hideG (HT10.out.below hb11)
  have HB11 := hideG (HB10.out.trans (hb11.mono HB10.out.size))
  clear hb11 HT10 HB10
  go_wp2_with fail
  refine (orderBefore_any T HS.out _ _ _ _ HT11.out).mono ?_
  rintro e w12 ⟨rfl, hb12⟩
  rw [EAB.out]
  have HT12 := hideG (HT11.out.below hb12)
  have HB12 := hideG (HB11.out.trans (hb12.mono HB11.out.size))
  clear hb12 HT11 HB11
  go_wp2_with fail
  refine (orderCommon_any T HS.out _ _ _ _ HT12.out).mono ?_
  rintro e w13 ⟨rfl, hb13⟩
  rw [EC1.out]
  have HT13 := hideG (HT12.out.below hb13)
  have HB13 := hideG (HB12.out.trans (hb13.mono HB12.out.size))
  clear hb13 HT12 HB12
  go_wp2_with fail
  refine (orderCommon_any T HS.out _ _ _ _ HT13.out).mono ?_
  rintro e w14 ⟨rfl, hb14⟩
  rw [EC2.out]
  have HT14 := hideG (HT13.out.below hb14)
  have HB14 := hideG (HB13.out.trans (hb14.mono HB13.out.size))
  clear hb14 HT13 HB13
  go_wp2_with fail
  refine (orderAbove_any T HS.out _ _ _ _ HT14.out).mono ?_
  rintro e w15 ⟨rfl, hb15⟩
  rw [EKA.out]
  have HT15 := hideG (HT14.out.below hb15)
  have HB15 := hideG (HB14.out.trans (hb15.mono HB14.out.size))
  clear hb15 HT14 HB14
  go_wp2_with fail
  refine (orderAbove_any T HS.out _ _ _ _ HT15.out).mono ?_
  rintro e w16 ⟨rfl, hb16⟩
  rw [EKB.out]
  have HT16 := hideG (HT15.out.below hb16)
  have HB16 := hideG (HB15.out.trans (hb16.mono HB15.out.size))
  clear hb16 HT15 HB15
  go_wp2_with fail
  refine (live3_any _).mono ?_
  rintro e w17 ⟨rfl, hb17⟩
  have HT17 := hideG (HT16.out.below hb17)
  have HB17 := hideG (HB16.out.trans (hb17.mono HB16.out.size))
  clear hb17 HT16 HB16
  go_wp2_with fail
  go_ret
  exact ⟨rfl, HB17.out⟩

set_option maxRecDepth 100000 in
set_option maxHeartbeats 4000000 in
theorem olaws_ab10 (T : List Nd) (ta : Option Addr) (tc a b c : Nat) (tt k : Nat) (w : World) (hT : TreeAt w (.slice ta T.length tc) T) (hs : smallB T = true) (hab : bothB T (a : Int) (b : Int) = true) (hbc : bothB T (b : Int) (c : Int) = true) (ETa' : topI T (a : Int) = (tt : Int)) (ETb' : topI T (b : Int) = (tt : Int)) (EC1' : commonI T (a : Int) (b : Int) = (k : Int)) (EC2' : commonI T (b : Int) (a : Int) = (k : Int)) (EKA' : aboveO T (k : Int) (a : Int) = true) (EKB' : aboveO T (k : Int) (b : Int) = true) (EAB' : beforeI T (a : Int) (b : Int) = true) (EBA' : beforeI T (b : Int) (a : Int) = false) (EBC' : beforeI T (b : Int) (c : Int) = true) (EV' : aboveO T (a : Int) (b : Int) = false) (EAC' : beforeI T (a : Int) (c : Int) = true) (ne : ((a : Int) == (b : Int)) = false) (ne2 : ((a : Int) != (b : Int)) = true) :
    Calls Try.prog 4 #[.slice ta T.length tc, .agg #[.int .i64 (a : Int), .int .i64 (b : Int), .int .i64 (c : Int)]] w fun e w' => e = .returned (.bool true) ∧ Below w.heap.size w w' := by
  have HA := hideG ((Below.refl _ w).alloc (Nat.le_refl _) (.cells #[.int .i64 (a : Int), .int .i64 (b : Int), .int .i64 (c : Int)] 33))
  have HTT := hideG hT
  have HT := hideG (hT.below HA.out)
  have HS := hideG (small_sane hs)
  clear hT
  have ETa := hideG ETa'
  have ETb := hideG ETb'
  have EC1 := hideG EC1'
  have EC2 := hideG EC2'
  have EKA := hideG EKA'
  have EKB := hideG EKB'
  have EAB := hideG EAB'
  have EBA := hideG EBA'
  have EBC := hideG EBC'
  have EV := hideG EV'
  have EAC := hideG EAC'
  clear ETa' ETb' EC1' EC2' EKA' EKB' EAB' EBA' EBC' EV' EAC'
  have hk0 : (0 : Int) ≤ (k : Int) := by omega
  have hk1 : ¬ (k : Int) < 0 := by omega
  go_enter Try.func4, Try.ntmps4
  go_wp2_with (go_at_call 25; refine (refSmall_any T _ _ HT.out).mono ?_; rintro e w1 ⟨rfl, hw⟩; subst hw)
  go_quiet (fail)
  have HB0 := hideG (below_drewN HA.out nq)
  have HT0 := hideG (HTT.out.below HB0.out)
  generalize (w.alloc (.cells #[.int .i64 (a : Int), .int .i64 (b : Int), .int .i64 (c : Int)] 33)).drewN nq = wq at *
  clear HA HT HTT
  go_wp2_with fail
  refine (refBoth_any T HS.out _ _ _ _ HT0.out).mono ?_
  rintro e w1 ⟨rfl, hb1⟩
  have HT1 := hideG (HT0.out.below hb1)
  have HB1 := hideG (HB0.out.trans (hb1.mono HB0.out.size))
  clear hb1 HT0 HB0
  go_wp2_with fail
  refine (refBoth_any T HS.out _ _ _ _ HT1.out).mono ?_
  rintro e w2 ⟨rfl, hb2⟩
  have HT2 := hideG (HT1.out.below hb2)
  have HB2 := hideG (HB1.out.trans (hb2.mono HB1.out.size))
  clear hb2 HT1 HB1
  go_wp2_with fail
  refine (orderTop_any T HS.out _ _ _ HT2.out).mono ?_
  rintro e w3 ⟨rfl, hb3⟩
  rw [ETa.out]
  have HT3 := hideG (HT2.out.below hb3)
  have HB3 := hideG (HB2.out.trans (hb3.mono HB2.out.size))
  clear hb3 HT2 HB2
  go_wp2_with fail
  refine (orderTop_any T HS.out _ _ _ HT3.out).mono ?_
  rintro e w4 ⟨rfl, hb4⟩
  rw [ETb.out]
  have HT4 := hideG (HT3.out.below hb4)
  have HB4 := hideG (HB3.out.trans (hb4.mono HB3.out.size))
  clear hb4 HT3 HB3
  go_wp2_with fail
  refine (orderBefore_any T HS.out _ _ _ _ HT4.out).mono ?_
  rintro e w5 ⟨rfl, hb5⟩
  rw [EAB.out]
  have HT5 := hideG (HT4.out.below hb5)
  have HB5 := hideG (HB4.out.trans (hb5.mono HB4.out.size))
  clear hb5 HT4 HB4
  go_wp2_with fail
  refine (orderBefore_any T HS.out _ _ _ _ HT5.out).mono ?_
  rintro e w6 ⟨rfl, hb6⟩
  rw [EBA.out]
  have HT6 := hideG (HT5.out.below hb6)
  have HB6 := hideG (HB5.out.trans (hb6.mono HB5.out.size))
  clear hb6 HT5 HB5
  go_wp2_with fail
  refine (orderBefore_any T HS.out _ _ _ _ HT6.out).mono ?_
  rintro e w7 ⟨rfl, hb7⟩
  rw [EAB.out]
  have HT7 := hideG (HT6.out.below hb7)
  have HB7 := hideG (HB6.out.trans (hb7.mono HB6.out.size))
  clear hb7 HT6 HB6
  go_wp2_with fail
  refine (orderBefore_any T HS.out _ _ _ _ HT7.out).mono ?_
  rintro e w8 ⟨rfl, hb8⟩
  rw [EAB.out]
  have HT8 := hideG (HT7.out.below hb8)
  have HB8 := hideG (HB7.out.trans (hb8.mono HB7.out.size))
  clear hb8 HT7 HB7
  go_wp2_with fail
  refine (orderBefore_any T HS.out _ _ _ _ HT8.out).mono ?_
  rintro e w9 ⟨rfl, hb9⟩
  rw [EBC.out]
  have HT9 := hideG (HT8.out.below hb9)
  have HB9 := hideG (HB8.out.trans (hb9.mono HB8.out.size))
  clear hb9 HT8 HB8
  go_wp2_with fail
  refine (orderBefore_any T HS.out _ _ _ _ HT9.out).mono ?_
  rintro e w10 ⟨rfl, hb10⟩
  rw [EAC.out]
  have HT10 := hideG (HT9.out.below hb10)
  have HB10 := hideG (HB9.out.trans (hb10.mono HB9.out.size))
  clear hb10 HT9 HB9
  go_wp2_with fail
  refine (orderAbove_any T HS.out _ _ _ _ HT10.out).mono ?_
  rintro e w11 ⟨rfl, hb11⟩
  rw [EV.out]
  have HT11 := hideG (HT10.out.below hb11)
  have HB11 := hideG (HB10.out.trans (hb11.mono HB10.out.size))
  clear hb11 HT10 HB10
  go_wp2_with fail
  refine (orderCommon_any T HS.out _ _ _ _ HT11.out).mono ?_
  rintro e w12 ⟨rfl, hb12⟩
  rw [EC1.out]
  have HT12 := hideG (HT11.out.below hb12)
  have HB12 := hideG (HB11.out.trans (hb12.mono HB11.out.size))
  clear hb12 HT11 HB11
  go_wp2_with fail
  refine (orderCommon_any T HS.out _ _ _ _ HT12.out).mono ?_
  rintro e w13 ⟨rfl, hb13⟩
  rw [EC2.out]
  have HT13 := hideG (HT12.out.below hb13)
  have HB13 := hideG (HB12.out.trans (hb13.mono HB12.out.size))
  clear hb13 HT12 HB12
  go_wp2_with fail
  refine (orderAbove_any T HS.out _ _ _ _ HT13.out).mono ?_
  rintro e w14 ⟨rfl, hb14⟩
  rw [EKA.out]
  have HT14 := hideG (HT13.out.below hb14)
  have HB14 := hideG (HB13.out.trans (hb14.mono HB13.out.size))
  clear hb14 HT13 HB13
  go_wp2_with fail
  refine (orderAbove_any T HS.out _ _ _ _ HT14.out).mono ?_
  rintro e w15 ⟨rfl, hb15⟩
  rw [EKB.out]
  have HT15 := hideG (HT14.out.below hb15)
  have HB15 := hideG (HB14.out.trans (hb15.mono HB14.out.size))
  clear hb15 HT14 HB14
  go_wp2_with fail
  refine (live3_any _).mono ?_
  rintro e w16 ⟨rfl, hb16⟩
  have HT16 := hideG (HT15.out.below hb16)
  have HB16 := hideG (HB15.out.trans (hb16.mono HB15.out.size))
  clear hb16 HT15 HB15
  go_wp2_with fail
  go_ret
  exact ⟨rfl, HB16.out⟩

set_option maxRecDepth 100000 in
set_option maxHeartbeats 4000000 in
theorem olaws_ab01 (T : List Nd) (ta : Option Addr) (tc a b c : Nat) (tt k : Nat) (w : World) (hT : TreeAt w (.slice ta T.length tc) T) (hs : smallB T = true) (hab : bothB T (a : Int) (b : Int) = true) (hbc : bothB T (b : Int) (c : Int) = true) (ETa' : topI T (a : Int) = (tt : Int)) (ETb' : topI T (b : Int) = (tt : Int)) (EC1' : commonI T (a : Int) (b : Int) = (k : Int)) (EC2' : commonI T (b : Int) (a : Int) = (k : Int)) (EKA' : aboveO T (k : Int) (a : Int) = true) (EKB' : aboveO T (k : Int) (b : Int) = true) (EAB' : beforeI T (a : Int) (b : Int) = true) (EBA' : beforeI T (b : Int) (a : Int) = false) (EBC' : beforeI T (b : Int) (c : Int) = false) (EV' : aboveO T (a : Int) (b : Int) = true) (ne : ((a : Int) == (b : Int)) = false) (ne2 : ((a : Int) != (b : Int)) = true) :
    Calls Try.prog 4 #[.slice ta T.length tc, .agg #[.int .i64 (a : Int), .int .i64 (b : Int), .int .i64 (c : Int)]] w fun e w' => e = .returned (.bool true) ∧ Below w.heap.size w w' := by
  have HA := hideG ((Below.refl _ w).alloc (Nat.le_refl _) (.cells #[.int .i64 (a : Int), .int .i64 (b : Int), .int .i64 (c : Int)] 33))
  have HTT := hideG hT
  have HT := hideG (hT.below HA.out)
  have HS := hideG (small_sane hs)
  clear hT
  have ETa := hideG ETa'
  have ETb := hideG ETb'
  have EC1 := hideG EC1'
  have EC2 := hideG EC2'
  have EKA := hideG EKA'
  have EKB := hideG EKB'
  have EAB := hideG EAB'
  have EBA := hideG EBA'
  have EBC := hideG EBC'
  have EV := hideG EV'
  clear ETa' ETb' EC1' EC2' EKA' EKB' EAB' EBA' EBC' EV'
  have hk0 : (0 : Int) ≤ (k : Int) := by omega
  have hk1 : ¬ (k : Int) < 0 := by omega
  go_enter Try.func4, Try.ntmps4
  go_wp2_with (go_at_call 25; refine (refSmall_any T _ _ HT.out).mono ?_; rintro e w1 ⟨rfl, hw⟩; subst hw)
  go_quiet (fail)
  have HB0 := hideG (below_drewN HA.out nq)
  have HT0 := hideG (HTT.out.below HB0.out)
  generalize (w.alloc (.cells #[.int .i64 (a : Int), .int .i64 (b : Int), .int .i64 (c : Int)] 33)).drewN nq = wq at *
  clear HA HT HTT
  go_wp2_with fail
  refine (refBoth_any T HS.out _ _ _ _ HT0.out).mono ?_
  rintro e w1 ⟨rfl, hb1⟩
  have HT1 := hideG (HT0.out.below hb1)
  have HB1 := hideG (HB0.out.trans (hb1.mono HB0.out.size))
  clear hb1 HT0 HB0
  go_wp2_with fail
  refine (refBoth_any T HS.out _ _ _ _ HT1.out).mono ?_
  rintro e w2 ⟨rfl, hb2⟩
  have HT2 := hideG (HT1.out.below hb2)
  have HB2 := hideG (HB1.out.trans (hb2.mono HB1.out.size))
  clear hb2 HT1 HB1
  go_wp2_with fail
  refine (orderTop_any T HS.out _ _ _ HT2.out).mono ?_
  rintro e w3 ⟨rfl, hb3⟩
  rw [ETa.out]
  have HT3 := hideG (HT2.out.below hb3)
  have HB3 := hideG (HB2.out.trans (hb3.mono HB2.out.size))
  clear hb3 HT2 HB2
  go_wp2_with fail
  refine (orderTop_any T HS.out _ _ _ HT3.out).mono ?_
  rintro e w4 ⟨rfl, hb4⟩
  rw [ETb.out]
  have HT4 := hideG (HT3.out.below hb4)
  have HB4 := hideG (HB3.out.trans (hb4.mono HB3.out.size))
  clear hb4 HT3 HB3
  go_wp2_with fail
  refine (orderBefore_any T HS.out _ _ _ _ HT4.out).mono ?_
  rintro e w5 ⟨rfl, hb5⟩
  rw [EAB.out]
  have HT5 := hideG (HT4.out.below hb5)
  have HB5 := hideG (HB4.out.trans (hb5.mono HB4.out.size))
  clear hb5 HT4 HB4
  go_wp2_with fail
  refine (orderBefore_any T HS.out _ _ _ _ HT5.out).mono ?_
  rintro e w6 ⟨rfl, hb6⟩
  rw [EBA.out]
  have HT6 := hideG (HT5.out.below hb6)
  have HB6 := hideG (HB5.out.trans (hb6.mono HB5.out.size))
  clear hb6 HT5 HB5
  go_wp2_with fail
  refine (orderBefore_any T HS.out _ _ _ _ HT6.out).mono ?_
  rintro e w7 ⟨rfl, hb7⟩
  rw [EAB.out]
  have HT7 := hideG (HT6.out.below hb7)
  have HB7 := hideG (HB6.out.trans (hb7.mono HB6.out.size))
  clear hb7 HT6 HB6
  go_wp2_with fail
  refine (orderBefore_any T HS.out _ _ _ _ HT7.out).mono ?_
  rintro e w8 ⟨rfl, hb8⟩
  rw [EAB.out]
  have HT8 := hideG (HT7.out.below hb8)
  have HB8 := hideG (HB7.out.trans (hb8.mono HB7.out.size))
  clear hb8 HT7 HB7
  go_wp2_with fail
  refine (orderBefore_any T HS.out _ _ _ _ HT8.out).mono ?_
  rintro e w9 ⟨rfl, hb9⟩
  rw [EBC.out]
  have HT9 := hideG (HT8.out.below hb9)
  have HB9 := hideG (HB8.out.trans (hb9.mono HB8.out.size))
  clear hb9 HT8 HB8
  go_wp2_with fail
  refine (orderAbove_any T HS.out _ _ _ _ HT9.out).mono ?_
  rintro e w10 ⟨rfl, hb10⟩
  rw [EV.out]
  have HT10 := hideG (HT9.out.below hb10)
  have HB10 := hideG (HB9.out.trans (hb10.mono HB9.out.size))
  clear hb10 HT9 HB9
  go_wp2_with fail
  refine (orderBefore_any T HS.out _ _ _ _ HT10.out).mono ?_
  rintro e w11 ⟨rfl, hb11⟩
  rw [EAB.out]
  have HT11 := hideG (HT10.out.below hb11)
  have HB11 := hideG (HB10.out.trans (hb11.mono HB10.out.size))
  clear hb11 HT10 HB10
  go_wp2_with fail
  refine (orderCommon_any T HS.out _ _ _ _ HT11.out).mono ?_
  rintro e w12 ⟨rfl, hb12⟩
  rw [EC1.out]
  have HT12 := hideG (HT11.out.below hb12)
  have HB12 := hideG (HB11.out.trans (hb12.mono HB11.out.size))
  clear hb12 HT11 HB11
  go_wp2_with fail
  refine (orderCommon_any T HS.out _ _ _ _ HT12.out).mono ?_
  rintro e w13 ⟨rfl, hb13⟩
  rw [EC2.out]
  have HT13 := hideG (HT12.out.below hb13)
  have HB13 := hideG (HB12.out.trans (hb13.mono HB12.out.size))
  clear hb13 HT12 HB12
  go_wp2_with fail
  refine (orderAbove_any T HS.out _ _ _ _ HT13.out).mono ?_
  rintro e w14 ⟨rfl, hb14⟩
  rw [EKA.out]
  have HT14 := hideG (HT13.out.below hb14)
  have HB14 := hideG (HB13.out.trans (hb14.mono HB13.out.size))
  clear hb14 HT13 HB13
  go_wp2_with fail
  refine (orderAbove_any T HS.out _ _ _ _ HT14.out).mono ?_
  rintro e w15 ⟨rfl, hb15⟩
  rw [EKB.out]
  have HT15 := hideG (HT14.out.below hb15)
  have HB15 := hideG (HB14.out.trans (hb15.mono HB14.out.size))
  clear hb15 HT14 HB14
  go_wp2_with fail
  refine (live3_any _).mono ?_
  rintro e w16 ⟨rfl, hb16⟩
  have HT16 := hideG (HT15.out.below hb16)
  have HB16 := hideG (HB15.out.trans (hb16.mono HB15.out.size))
  clear hb16 HT15 HB15
  go_wp2_with fail
  go_ret
  exact ⟨rfl, HB16.out⟩

set_option maxRecDepth 100000 in
set_option maxHeartbeats 4000000 in
theorem olaws_ab00 (T : List Nd) (ta : Option Addr) (tc a b c : Nat) (tt k : Nat) (w : World) (hT : TreeAt w (.slice ta T.length tc) T) (hs : smallB T = true) (hab : bothB T (a : Int) (b : Int) = true) (hbc : bothB T (b : Int) (c : Int) = true) (ETa' : topI T (a : Int) = (tt : Int)) (ETb' : topI T (b : Int) = (tt : Int)) (EC1' : commonI T (a : Int) (b : Int) = (k : Int)) (EC2' : commonI T (b : Int) (a : Int) = (k : Int)) (EKA' : aboveO T (k : Int) (a : Int) = true) (EKB' : aboveO T (k : Int) (b : Int) = true) (EAB' : beforeI T (a : Int) (b : Int) = true) (EBA' : beforeI T (b : Int) (a : Int) = false) (EBC' : beforeI T (b : Int) (c : Int) = false) (EV' : aboveO T (a : Int) (b : Int) = false) (ne : ((a : Int) == (b : Int)) = false) (ne2 : ((a : Int) != (b : Int)) = true) :
    Calls Try.prog 4 #[.slice ta T.length tc, .agg #[.int .i64 (a : Int), .int .i64 (b : Int), .int .i64 (c : Int)]] w fun e w' => e = .returned (.bool true) ∧ Below w.heap.size w w' := by
  have HA := hideG ((Below.refl _ w).alloc (Nat.le_refl _) (.cells #[.int .i64 (a : Int), .int .i64 (b : Int), .int .i64 (c : Int)] 33))
  have HTT := hideG hT
  have HT := hideG (hT.below HA.out)
  have HS := hideG (small_sane hs)
  clear hT
  have ETa := hideG ETa'
  have ETb := hideG ETb'
  have EC1 := hideG EC1'
  have EC2 := hideG EC2'
  have EKA := hideG EKA'
  have EKB := hideG EKB'
  have EAB := hideG EAB'
  have EBA := hideG EBA'
  have EBC := hideG EBC'
  have EV := hideG EV'
  clear ETa' ETb' EC1' EC2' EKA' EKB' EAB' EBA' EBC' EV'
  have hk0 : (0 : Int) ≤ (k : Int) := by omega
  have hk1 : ¬ (k : Int) < 0 := by omega
  go_enter Try.func4, Try.ntmps4
  go_wp2_with (go_at_call 25; refine (refSmall_any T _ _ HT.out).mono ?_; rintro e w1 ⟨rfl, hw⟩; subst hw)
  go_quiet (fail)
  have HB0 := hideG (below_drewN HA.out nq)
  have HT0 := hideG (HTT.out.below HB0.out)
  generalize (w.alloc (.cells #[.int .i64 (a : Int), .int .i64 (b : Int), .int .i64 (c : Int)] 33)).drewN nq = wq at *
  clear HA HT HTT
  go_wp2_with fail
  refine (refBoth_any T HS.out _ _ _ _ HT0.out).mono ?_
  rintro e w1 ⟨rfl, hb1⟩
  have HT1 := hideG (HT0.out.below hb1)
  have HB1 := hideG (HB0.out.trans (hb1.mono HB0.out.size))
  clear hb1 HT0 HB0
  go_wp2_with fail
  refine (refBoth_any T HS.out _ _ _ _ HT1.out).mono ?_
  rintro e w2 ⟨rfl, hb2⟩
  have HT2 := hideG (HT1.out.below hb2)
  have HB2 := hideG (HB1.out.trans (hb2.mono HB1.out.size))
  clear hb2 HT1 HB1
  go_wp2_with fail
  refine (orderTop_any T HS.out _ _ _ HT2.out).mono ?_
  rintro e w3 ⟨rfl, hb3⟩
  rw [ETa.out]
  have HT3 := hideG (HT2.out.below hb3)
  have HB3 := hideG (HB2.out.trans (hb3.mono HB2.out.size))
  clear hb3 HT2 HB2
  go_wp2_with fail
  refine (orderTop_any T HS.out _ _ _ HT3.out).mono ?_
  rintro e w4 ⟨rfl, hb4⟩
  rw [ETb.out]
  have HT4 := hideG (HT3.out.below hb4)
  have HB4 := hideG (HB3.out.trans (hb4.mono HB3.out.size))
  clear hb4 HT3 HB3
  go_wp2_with fail
  refine (orderBefore_any T HS.out _ _ _ _ HT4.out).mono ?_
  rintro e w5 ⟨rfl, hb5⟩
  rw [EAB.out]
  have HT5 := hideG (HT4.out.below hb5)
  have HB5 := hideG (HB4.out.trans (hb5.mono HB4.out.size))
  clear hb5 HT4 HB4
  go_wp2_with fail
  refine (orderBefore_any T HS.out _ _ _ _ HT5.out).mono ?_
  rintro e w6 ⟨rfl, hb6⟩
  rw [EBA.out]
  have HT6 := hideG (HT5.out.below hb6)
  have HB6 := hideG (HB5.out.trans (hb6.mono HB5.out.size))
  clear hb6 HT5 HB5
  go_wp2_with fail
  refine (orderBefore_any T HS.out _ _ _ _ HT6.out).mono ?_
  rintro e w7 ⟨rfl, hb7⟩
  rw [EAB.out]
  have HT7 := hideG (HT6.out.below hb7)
  have HB7 := hideG (HB6.out.trans (hb7.mono HB6.out.size))
  clear hb7 HT6 HB6
  go_wp2_with fail
  refine (orderBefore_any T HS.out _ _ _ _ HT7.out).mono ?_
  rintro e w8 ⟨rfl, hb8⟩
  rw [EAB.out]
  have HT8 := hideG (HT7.out.below hb8)
  have HB8 := hideG (HB7.out.trans (hb8.mono HB7.out.size))
  clear hb8 HT7 HB7
  go_wp2_with fail
  refine (orderBefore_any T HS.out _ _ _ _ HT8.out).mono ?_
  rintro e w9 ⟨rfl, hb9⟩
  rw [EBC.out]
  have HT9 := hideG (HT8.out.below hb9)
  have HB9 := hideG (HB8.out.trans (hb9.mono HB8.out.size))
  clear hb9 HT8 HB8
  go_wp2_with fail
  refine (orderAbove_any T HS.out _ _ _ _ HT9.out).mono ?_
  rintro e w10 ⟨rfl, hb10⟩
  rw [EV.out]
  have HT10 := hideG (HT9.out.below hb10)
  have HB10 := hideG (HB9.out.trans (hb10.mono HB9.out.size))
  clear hb10 HT9 HB9
  go_wp2_with fail
  refine (orderCommon_any T HS.out _ _ _ _ HT10.out).mono ?_
  rintro e w11 ⟨rfl, hb11⟩
  rw [EC1.out]
  have HT11 := hideG (HT10.out.below hb11)
  have HB11 := hideG (HB10.out.trans (hb11.mono HB10.out.size))
  clear hb11 HT10 HB10
  go_wp2_with fail
  refine (orderCommon_any T HS.out _ _ _ _ HT11.out).mono ?_
  rintro e w12 ⟨rfl, hb12⟩
  rw [EC2.out]
  have HT12 := hideG (HT11.out.below hb12)
  have HB12 := hideG (HB11.out.trans (hb12.mono HB11.out.size))
  clear hb12 HT11 HB11
  go_wp2_with fail
  refine (orderAbove_any T HS.out _ _ _ _ HT12.out).mono ?_
  rintro e w13 ⟨rfl, hb13⟩
  rw [EKA.out]
  have HT13 := hideG (HT12.out.below hb13)
  have HB13 := hideG (HB12.out.trans (hb13.mono HB12.out.size))
  clear hb13 HT12 HB12
  go_wp2_with fail
  refine (orderAbove_any T HS.out _ _ _ _ HT13.out).mono ?_
  rintro e w14 ⟨rfl, hb14⟩
  rw [EKB.out]
  have HT14 := hideG (HT13.out.below hb14)
  have HB14 := hideG (HB13.out.trans (hb14.mono HB13.out.size))
  clear hb14 HT13 HB13
  go_wp2_with fail
  refine (live3_any _).mono ?_
  rintro e w15 ⟨rfl, hb15⟩
  have HT15 := hideG (HT14.out.below hb15)
  have HB15 := hideG (HB14.out.trans (hb15.mono HB14.out.size))
  clear hb15 HT14 HB14
  go_wp2_with fail
  go_ret
  exact ⟨rfl, HB15.out⟩

set_option maxRecDepth 100000 in
set_option maxHeartbeats 4000000 in
theorem olaws_ba (T : List Nd) (ta : Option Addr) (tc a b c : Nat) (tt k : Nat) (w : World) (hT : TreeAt w (.slice ta T.length tc) T) (hs : smallB T = true) (hab : bothB T (a : Int) (b : Int) = true) (hbc : bothB T (b : Int) (c : Int) = true) (ETa' : topI T (a : Int) = (tt : Int)) (ETb' : topI T (b : Int) = (tt : Int)) (EC1' : commonI T (a : Int) (b : Int) = (k : Int)) (EC2' : commonI T (b : Int) (a : Int) = (k : Int)) (EKA' : aboveO T (k : Int) (a : Int) = true) (EKB' : aboveO T (k : Int) (b : Int) = true) (EAB' : beforeI T (a : Int) (b : Int) = false) (EBA' : beforeI T (b : Int) (a : Int) = true) (EV' : aboveO T (a : Int) (b : Int) = false) (ne : ((a : Int) == (b : Int)) = false) (ne2 : ((a : Int) != (b : Int)) = true) :
    Calls Try.prog 4 #[.slice ta T.length tc, .agg #[.int .i64 (a : Int), .int .i64 (b : Int), .int .i64 (c : Int)]] w fun e w' => e = .returned (.bool true) ∧ Below w.heap.size w w' := by
  have HA := hideG ((Below.refl _ w).alloc (Nat.le_refl _) (.cells #[.int .i64 (a : Int), .int .i64 (b : Int), .int .i64 (c : Int)] 33))
  have HTT := hideG hT
  have HT := hideG (hT.below HA.out)
  have HS := hideG (small_sane hs)
  clear hT
  have ETa := hideG ETa'
  have ETb := hideG ETb'
  have EC1 := hideG EC1'
  have EC2 := hideG EC2'
  have EKA := hideG EKA'
  have EKB := hideG EKB'
  have EAB := hideG EAB'
  have EBA := hideG EBA'
  have EV := hideG EV'
  clear ETa' ETb' EC1' EC2' EKA' EKB' EAB' EBA' EV'
  have hk0 : (0 : Int) ≤ (k : Int) := by omega
  have hk1 : ¬ (k : Int) < 0 := by omega
  go_enter Try.func4, Try.ntmps4
  go_wp2_with (go_at_call 25; refine (refSmall_any T _ _ HT.out).mono ?_; rintro e w1 ⟨rfl, hw⟩; subst hw)
  go_quiet (fail)
  have HB0 := hideG (below_drewN HA.out nq)
  have HT0 := hideG (HTT.out.below HB0.out)
  generalize (w.alloc (.cells #[.int .i64 (a : Int), .int .i64 (b : Int), .int .i64 (c : Int)] 33)).drewN nq = wq at *
  clear HA HT HTT
  go_wp2_with fail
  refine (refBoth_any T HS.out _ _ _ _ HT0.out).mono ?_
  rintro e w1 ⟨rfl, hb1⟩
  have HT1 := hideG (HT0.out.below hb1)
  have HB1 := hideG (HB0.out.trans (hb1.mono HB0.out.size))
  clear hb1 HT0 HB0
  go_wp2_with fail
  refine (refBoth_any T HS.out _ _ _ _ HT1.out).mono ?_
  rintro e w2 ⟨rfl, hb2⟩
  have HT2 := hideG (HT1.out.below hb2)
  have HB2 := hideG (HB1.out.trans (hb2.mono HB1.out.size))
  clear hb2 HT1 HB1
  go_wp2_with fail
  refine (orderTop_any T HS.out _ _ _ HT2.out).mono ?_
  rintro e w3 ⟨rfl, hb3⟩
  rw [ETa.out]
  have HT3 := hideG (HT2.out.below hb3)
  have HB3 := hideG (HB2.out.trans (hb3.mono HB2.out.size))
  clear hb3 HT2 HB2
  go_wp2_with fail
  refine (orderTop_any T HS.out _ _ _ HT3.out).mono ?_
  rintro e w4 ⟨rfl, hb4⟩
  rw [ETb.out]
  have HT4 := hideG (HT3.out.below hb4)
  have HB4 := hideG (HB3.out.trans (hb4.mono HB3.out.size))
  clear hb4 HT3 HB3
  go_wp2_with fail
  refine (orderBefore_any T HS.out _ _ _ _ HT4.out).mono ?_
  rintro e w5 ⟨rfl, hb5⟩
  rw [EAB.out]
  have HT5 := hideG (HT4.out.below hb5)
  have HB5 := hideG (HB4.out.trans (hb5.mono HB4.out.size))
  clear hb5 HT4 HB4
  go_wp2_with fail
  refine (orderBefore_any T HS.out _ _ _ _ HT5.out).mono ?_
  rintro e w6 ⟨rfl, hb6⟩
  rw [EAB.out]
  have HT6 := hideG (HT5.out.below hb6)
  have HB6 := hideG (HB5.out.trans (hb6.mono HB5.out.size))
  clear hb6 HT5 HB5
  go_wp2_with fail
  refine (orderBefore_any T HS.out _ _ _ _ HT6.out).mono ?_
  rintro e w7 ⟨rfl, hb7⟩
  rw [EBA.out]
  have HT7 := hideG (HT6.out.below hb7)
  have HB7 := hideG (HB6.out.trans (hb7.mono HB6.out.size))
  clear hb7 HT6 HB6
  go_wp2_with fail
  refine (orderBefore_any T HS.out _ _ _ _ HT7.out).mono ?_
  rintro e w8 ⟨rfl, hb8⟩
  rw [EAB.out]
  have HT8 := hideG (HT7.out.below hb8)
  have HB8 := hideG (HB7.out.trans (hb8.mono HB7.out.size))
  clear hb8 HT7 HB7
  go_wp2_with fail
  refine (orderAbove_any T HS.out _ _ _ _ HT8.out).mono ?_
  rintro e w9 ⟨rfl, hb9⟩
  rw [EV.out]
  have HT9 := hideG (HT8.out.below hb9)
  have HB9 := hideG (HB8.out.trans (hb9.mono HB8.out.size))
  clear hb9 HT8 HB8
  go_wp2_with fail
  refine (orderCommon_any T HS.out _ _ _ _ HT9.out).mono ?_
  rintro e w10 ⟨rfl, hb10⟩
  rw [EC1.out]
  have HT10 := hideG (HT9.out.below hb10)
  have HB10 := hideG (HB9.out.trans (hb10.mono HB9.out.size))
  clear hb10 HT9 HB9
  go_wp2_with fail
  refine (orderCommon_any T HS.out _ _ _ _ HT10.out).mono ?_
  rintro e w11 ⟨rfl, hb11⟩
  rw [EC2.out]
  have HT11 := hideG (HT10.out.below hb11)
  have HB11 := hideG (HB10.out.trans (hb11.mono HB10.out.size))
  clear hb11 HT10 HB10
  go_wp2_with fail
  refine (orderAbove_any T HS.out _ _ _ _ HT11.out).mono ?_
  rintro e w12 ⟨rfl, hb12⟩
  rw [EKA.out]
  have HT12 := hideG (HT11.out.below hb12)
  have HB12 := hideG (HB11.out.trans (hb12.mono HB11.out.size))
  clear hb12 HT11 HB11
  go_wp2_with fail
  refine (orderAbove_any T HS.out _ _ _ _ HT12.out).mono ?_
  rintro e w13 ⟨rfl, hb13⟩
  rw [EKB.out]
  have HT13 := hideG (HT12.out.below hb13)
  have HB13 := hideG (HB12.out.trans (hb13.mono HB12.out.size))
  clear hb13 HT12 HB12
  go_wp2_with fail
  refine (live3_any _).mono ?_
  rintro e w14 ⟨rfl, hb14⟩
  have HT14 := hideG (HT13.out.below hb14)
  have HB14 := hideG (HB13.out.trans (hb14.mono HB13.out.size))
  clear hb14 HT13 HB13
  go_wp2_with fail
  go_ret
  exact ⟨rfl, HB14.out⟩

set_option maxRecDepth 100000 in
set_option maxHeartbeats 4000000 in
theorem olaws_df (T : List Nd) (ta : Option Addr) (tc a b c : Nat) (ta' tb' : Nat) (w : World) (hT : TreeAt w (.slice ta T.length tc) T) (hs : smallB T = true) (hab : bothB T (a : Int) (b : Int) = true) (hbc : bothB T (b : Int) (c : Int) = true) (ETa' : topI T (a : Int) = (ta' : Int)) (ETb' : topI T (b : Int) = (tb' : Int)) (EC1' : commonI T (a : Int) (b : Int) = -1) (EC2' : commonI T (b : Int) (a : Int) = -1) (EAB' : beforeI T (a : Int) (b : Int) = false) (EBA' : beforeI T (b : Int) (a : Int) = false) (EV' : aboveO T (a : Int) (b : Int) = false) (ne : ((a : Int) == (b : Int)) = false) (ne2 : ((a : Int) != (b : Int)) = true) (hne : ((ta' : Int) == (tb' : Int)) = false) :
    Calls Try.prog 4 #[.slice ta T.length tc, .agg #[.int .i64 (a : Int), .int .i64 (b : Int), .int .i64 (c : Int)]] w fun e w' => e = .returned (.bool true) ∧ Below w.heap.size w w' := by
  have HA := hideG ((Below.refl _ w).alloc (Nat.le_refl _) (.cells #[.int .i64 (a : Int), .int .i64 (b : Int), .int .i64 (c : Int)] 33))
  have HTT := hideG hT
  have HT := hideG (hT.below HA.out)
  have HS := hideG (small_sane hs)
  clear hT
  have ETa := hideG ETa'
  have ETb := hideG ETb'
  have EC1 := hideG EC1'
  have EC2 := hideG EC2'
  have EAB := hideG EAB'
  have EBA := hideG EBA'
  have EV := hideG EV'
  clear ETa' ETb' EC1' EC2' EAB' EBA' EV'
  go_enter Try.func4, Try.ntmps4
  go_wp2_with (go_at_call 25; refine (refSmall_any T _ _ HT.out).mono ?_; rintro e w1 ⟨rfl, hw⟩; subst hw)
  go_quiet (fail)
  have HB0 := hideG (below_drewN HA.out nq)
  have HT0 := hideG (HTT.out.below HB0.out)
  generalize (w.alloc (.cells #[.int .i64 (a : Int), .int .i64 (b : Int), .int .i64 (c : Int)] 33)).drewN nq = wq at *
  clear HA HT HTT
  go_wp2_with fail
  refine (refBoth_any T HS.out _ _ _ _ HT0.out).mono ?_
  rintro e w1 ⟨rfl, hb1⟩
  have HT1 := hideG (HT0.out.below hb1)
  have HB1 := hideG (HB0.out.trans (hb1.mono HB0.out.size))
  clear hb1 HT0 HB0
  go_wp2_with fail
  refine (refBoth_any T HS.out _ _ _ _ HT1.out).mono ?_
  rintro e w2 ⟨rfl, hb2⟩
  have HT2 := hideG (HT1.out.below hb2)
  have HB2 := hideG (HB1.out.trans (hb2.mono HB1.out.size))
  clear hb2 HT1 HB1
  go_wp2_with fail
  refine (orderTop_any T HS.out _ _ _ HT2.out).mono ?_
  rintro e w3 ⟨rfl, hb3⟩
  rw [ETa.out]
  have HT3 := hideG (HT2.out.below hb3)
  have HB3 := hideG (HB2.out.trans (hb3.mono HB2.out.size))
  clear hb3 HT2 HB2
  go_wp2_with fail
  refine (orderTop_any T HS.out _ _ _ HT3.out).mono ?_
  rintro e w4 ⟨rfl, hb4⟩
  rw [ETb.out]
  have HT4 := hideG (HT3.out.below hb4)
  have HB4 := hideG (HB3.out.trans (hb4.mono HB3.out.size))
  clear hb4 HT3 HB3
  go_wp2_with fail
  refine (orderBefore_any T HS.out _ _ _ _ HT4.out).mono ?_
  rintro e w5 ⟨rfl, hb5⟩
  rw [EAB.out]
  have HT5 := hideG (HT4.out.below hb5)
  have HB5 := hideG (HB4.out.trans (hb5.mono HB4.out.size))
  clear hb5 HT4 HB4
  go_wp2_with fail
  refine (orderBefore_any T HS.out _ _ _ _ HT5.out).mono ?_
  rintro e w6 ⟨rfl, hb6⟩
  rw [EAB.out]
  have HT6 := hideG (HT5.out.below hb6)
  have HB6 := hideG (HB5.out.trans (hb6.mono HB5.out.size))
  clear hb6 HT5 HB5
  go_wp2_with fail
  refine (orderBefore_any T HS.out _ _ _ _ HT6.out).mono ?_
  rintro e w7 ⟨rfl, hb7⟩
  rw [EBA.out]
  have HT7 := hideG (HT6.out.below hb7)
  have HB7 := hideG (HB6.out.trans (hb7.mono HB6.out.size))
  clear hb7 HT6 HB6
  go_wp2_with fail
  refine (orderBefore_any T HS.out _ _ _ _ HT7.out).mono ?_
  rintro e w8 ⟨rfl, hb8⟩
  rw [EAB.out]
  have HT8 := hideG (HT7.out.below hb8)
  have HB8 := hideG (HB7.out.trans (hb8.mono HB7.out.size))
  clear hb8 HT7 HB7
  go_wp2_with fail
  refine (orderAbove_any T HS.out _ _ _ _ HT8.out).mono ?_
  rintro e w9 ⟨rfl, hb9⟩
  rw [EV.out]
  have HT9 := hideG (HT8.out.below hb9)
  have HB9 := hideG (HB8.out.trans (hb9.mono HB8.out.size))
  clear hb9 HT8 HB8
  go_wp2_with fail
  refine (orderCommon_any T HS.out _ _ _ _ HT9.out).mono ?_
  rintro e w10 ⟨rfl, hb10⟩
  rw [EC1.out]
  have HT10 := hideG (HT9.out.below hb10)
  have HB10 := hideG (HB9.out.trans (hb10.mono HB9.out.size))
  clear hb10 HT9 HB9
  go_wp2_with fail
  refine (orderCommon_any T HS.out _ _ _ _ HT10.out).mono ?_
  rintro e w11 ⟨rfl, hb11⟩
  rw [EC2.out]
  have HT11 := hideG (HT10.out.below hb11)
  have HB11 := hideG (HB10.out.trans (hb11.mono HB10.out.size))
  clear hb11 HT10 HB10
  go_wp2_with fail
  refine (live3_any _).mono ?_
  rintro e w12 ⟨rfl, hb12⟩
  have HT12 := hideG (HT11.out.below hb12)
  have HB12 := hideG (HB11.out.trans (hb12.mono HB11.out.size))
  clear hb12 HT11 HB11
  go_wp2_with fail
  go_ret
  exact ⟨rfl, HB12.out⟩


theorem olaws_yes (T : List Nd) (ta : Option Addr) (tc a b c : Nat) (w : World) (hT : TreeAt w (.slice ta T.length tc) T) (hs : smallB T = true) (hab : bothB T (a : Int) (b : Int) = true) (hbc : bothB T (b : Int) (c : Int) = true) :
    Calls Try.prog 4 #[.slice ta T.length tc, .agg #[.int .i64 (a : Int), .int .i64 (b : Int), .int .i64 (c : Int)]] w fun e w' => e = .returned (.bool true) ∧ Below w.heap.size w w' := by
  obtain ⟨hm, ⟨a', ea, ha⟩, b', eb, hb⟩ := both_true hab
  obtain ⟨_, _, c', ec, hc⟩ := both_true hbc
  obtain rfl : a = a' := by omega
  obtain rfl : b = b' := by omega
  obtain rfl : c = c' := by omega
  have eAB := beforeI_known hm ha hb
  have eBA := beforeI_known hm hb ha
  have eBC := beforeI_known hm hb hc
  have eAC := beforeI_known hm ha hc
  have eV := aboveO_known hm ha hb
  have eTa := topI_known hm ha
  have eTb := topI_known hm hb
  have eC1 := commonI_known hm ha hb
  have eC2 := commonI_known hm hb ha
  by_cases ht : topN T a = topN T b
  · obtain ⟨k, hk⟩ := (com_top hm ha hb).mpr ht
    obtain ⟨hkl, k1, k2, _⟩ := com_some hm ha hk
    have hk' := hk
    rw [com_symm hm ha hb] at hk'
    have q1 : commonI T (a : Int) (b : Int) = (k : Int) := by rw [eC1]; unfold comI; rw [hk]
    have q2 : commonI T (b : Int) (a : Int) = (k : Int) := by rw [eC2]; unfold comI; rw [hk']
    have q3 : aboveO T (k : Int) (a : Int) = true := by rw [aboveO_known hm hkl ha]; exact abvB_iff.mpr k1
    have q4 : aboveO T (k : Int) (b : Int) = true := by rw [aboveO_known hm hkl hb]; exact abvB_iff.mpr k2
    have q5 : topI T (b : Int) = (topN T a : Int) := by rw [eTb, ht]
    by_cases e : a = b
    · refine olaws_eq T ta tc a b c (topN T a) k w hT hs hab hbc eTa q5 q1 q2 q3 q4 ?_ (by simp [e]) (by simp [e])
      rw [eAB]; subst e; simp [befN]
    · have ne : ((a : Int) == (b : Int)) = false := by simp; omega
      have ne2 : ((a : Int) != (b : Int)) = true := by simp; omega
      rcases (bef_total hm ha hb).mp ht with e' | h | h
      · exact absurd e' e
      · have h' : befN T b a = false := bef_asym h
        cases hbc' : befN T b c <;> cases hv : abvB T (a : Int) b
        · exact olaws_ab00 T ta tc a b c (topN T a) k w hT hs hab hbc eTa q5 q1 q2 q3 q4 (eAB.trans h) (eBA.trans h') (eBC.trans hbc') (eV.trans hv) ne ne2
        · exact olaws_ab01 T ta tc a b c (topN T a) k w hT hs hab hbc eTa q5 q1 q2 q3 q4 (eAB.trans h) (eBA.trans h') (eBC.trans hbc') (eV.trans hv) ne ne2
        · exact olaws_ab10 T ta tc a b c (topN T a) k w hT hs hab hbc eTa q5 q1 q2 q3 q4 (eAB.trans h) (eBA.trans h') (eBC.trans hbc') (eV.trans hv) (eAC.trans (bef_trans h hbc')) ne ne2
        · exact olaws_ab11 T ta tc a b c (topN T a) k w hT hs hab hbc eTa q5 q1 q2 q3 q4 (eAB.trans h) (eBA.trans h') (eBC.trans hbc') (eV.trans hv) (eAC.trans (bef_trans h hbc')) ne ne2
      · have h' : befN T a b = false := bef_asym h
        have hv : abvB T (a : Int) b = false := by
          cases hx : abvB T (a : Int) b
          · rfl
          · rw [bef_above hm ha hb e (abvB_iff.mp hx)] at h'; cases h'
        exact olaws_ba T ta tc a b c (topN T a) k w hT hs hab hbc eTa q5 q1 q2 q3 q4 (eAB.trans h') (eBA.trans h) (eV.trans hv) ne ne2
  · have e : a ≠ b := fun e => ht (by rw [e])
    have ne : ((a : Int) == (b : Int)) = false := by simp; omega
    have ne2 : ((a : Int) != (b : Int)) = true := by simp; omega
    have n1 : comN T a b = none := by
      cases h : comN T a b with
      | none => rfl
      | some k => exact absurd ((com_top hm ha hb).mp ⟨k, h⟩) ht
    have n2 : comN T b a = none := by rw [← com_symm hm ha hb]; exact n1
    have h1 : befN T a b = false := by unfold befN; rw [decide_eq_false ht]; rfl
    have h2 : befN T b a = false := by unfold befN; rw [decide_eq_false (fun e => ht e.symm)]; rfl
    have hv : abvB T (a : Int) b = false := by
      cases hx : abvB T (a : Int) b
      · rfl
      · exact absurd (top_eq hm hb (abvB_iff.mp hx)) ht
    refine olaws_df T ta tc a b c (topN T a) (topN T b) w hT hs hab hbc eTa eTb ?_ ?_ (eAB.trans h1) (eBA.trans h2) (eV.trans hv) ne ne2 (by simp; omega)
    · rw [eC1]; unfold comI; rw [n1]
    · rw [eC2]; unfold comI; rw [n2]

set_option maxRecDepth 100000 in
set_option maxHeartbeats 4000000 in
theorem olaws_walk (T : List Nd) (v : Value) (a b c : Int) (w : World) (hT : TreeAt w v T) :
    Calls Try.prog 4 #[v, .agg #[.int .i64 a, .int .i64 b, .int .i64 c]] w fun e w' => e = .returned (.bool true) ∧ Below w.heap.size w w' := by
  obtain ⟨ta, tc, rfl⟩ := hT.shape
  have HA := hideG ((Below.refl _ w).alloc (Nat.le_refl _) (.cells #[.int .i64 a, .int .i64 b, .int .i64 c] 33))
  have HT0 := hideG hT
  have HT := hideG (hT.below HA.out)
  cases hs : smallB T
  · clear hT
    go_enter Try.func4, Try.ntmps4
    go_wp2_with (first | (go_at_call 25; refine (refSmall_any T _ _ HT.out).mono ?_; rintro e w1 ⟨rfl, rfl⟩) | (go_at_call 26; refine (live3_any _).mono ?_; rintro e w2 ⟨rfl, hb2⟩; simp only [World.size_alloc] at hb2))
    go_ret
    exact ⟨rfl, HA.out.trans (hb2.mono (by omega))⟩
  · have HS := hideG (small_sane hs)
    cases hab : bothB T a b
    · clear hT
      go_enter Try.func4, Try.ntmps4
      go_wp2_with (go_at_call 25; refine (refSmall_any T _ _ HT.out).mono ?_; rintro e w1 ⟨rfl, hw⟩; subst hw)
      go_quiet (fail)
      have HBq := hideG (below_drewN HA.out nq)
      have HTq := hideG (HT0.out.below HBq.out)
      generalize (w.alloc (.cells #[.int .i64 a, .int .i64 b, .int .i64 c] 33)).drewN nq = wq at *
      go_wp2_with (first | (go_at_call 27; refine (refBoth_any T HS.out _ _ _ _ HTq.out).mono ?_; rintro e wN ⟨rfl, hbN⟩; have HTn := hideG (HTq.out.below hbN); have HBn := hideG (HBq.out.trans (hbN.mono HBq.out.size)); clear hbN HTq HBq; have HTq := HTn; have HBq := HBn; clear HTn HBn) | (go_at_call 26; refine (live3_any _).mono ?_; rintro e w2 ⟨rfl, hb2⟩))
      go_ret
      exact ⟨rfl, HBq.out.trans (hb2.mono HBq.out.size)⟩
    · cases hbc : bothB T b c
      · clear hT
        go_enter Try.func4, Try.ntmps4
        go_wp2_with (go_at_call 25; refine (refSmall_any T _ _ HT.out).mono ?_; rintro e w1 ⟨rfl, hw⟩; subst hw)
        go_quiet (fail)
        have HBq := hideG (below_drewN HA.out nq)
        have HTq := hideG (HT0.out.below HBq.out)
        generalize (w.alloc (.cells #[.int .i64 a, .int .i64 b, .int .i64 c] 33)).drewN nq = wq at *
        go_wp2_with (first | (go_at_call 27; refine (refBoth_any T HS.out _ _ _ _ HTq.out).mono ?_; rintro e wN ⟨rfl, hbN⟩; have HTn := hideG (HTq.out.below hbN); have HBn := hideG (HBq.out.trans (hbN.mono HBq.out.size)); clear hbN HTq HBq; have HTq := HTn; have HBq := HBn; clear HTn HBn) | (go_at_call 26; refine (live3_any _).mono ?_; rintro e w2 ⟨rfl, hb2⟩))
        go_ret
        exact ⟨rfl, HBq.out.trans (hb2.mono HBq.out.size)⟩
      · obtain ⟨_, ⟨x, rfl, _⟩, y, rfl, _⟩ := both_true hab
        obtain ⟨_, _, z, rfl, _⟩ := both_true hbc
        exact olaws_yes T ta tc x y z w hT hs hab hbc
end Go.Proofs.Ytnbnijhdmnoelaa
