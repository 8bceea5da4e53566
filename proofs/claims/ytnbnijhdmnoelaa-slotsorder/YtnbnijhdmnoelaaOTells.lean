/- OrderTells, walked. -/
import Derived.Test.YtnbnijhdmnoelaaLive3
namespace Go.Proofs.Ytnbnijhdmnoelaa
open Go.RowKit

theorem dnI_known {T : List Nd} (hm : mayB T = true) {n : Nat} (hn : n < T.length) : dnI T (n : Int) = castL (dn T n) := by
  unfold dnI; rw [known_of hm hn, if_pos rfl, Int.toNat_natCast]
theorem upI_known {T : List Nd} (hm : mayB T = true) {n : Nat} (hn : n < T.length) : upI T (n : Int) = castL (pars T n) := by
  unfold upI; rw [known_of hm hn, if_pos rfl, Int.toNat_natCast]; rfl
theorem topI_known {T : List Nd} (hm : mayB T = true) {n : Nat} (hn : n < T.length) : topI T (n : Int) = (topN T n : Int) := by
  unfold topI; rw [known_of hm hn, if_pos rfl, Int.toNat_natCast]
theorem both_of {T : List Nd} (hm : mayB T = true) {a b : Nat} (ha : a < T.length) (hb : b < T.length) : bothB T (a : Int) (b : Int) = true := by
  simp only [bothB, hm, isNodeB, Bool.and_eq_true, decide_eq_true_eq, Bool.true_and]; omega
theorem aboveO_known {T : List Nd} (hm : mayB T = true) {a b : Nat} (ha : a < T.length) (hb : b < T.length) : aboveO T (a : Int) (b : Int) = abvB T (a : Int) b := by
  unfold aboveO; rw [known_both, both_of hm ha hb, Int.toNat_natCast]; rfl
theorem beforeI_known {T : List Nd} (hm : mayB T = true) {a b : Nat} (ha : a < T.length) (hb : b < T.length) : beforeI T (a : Int) (b : Int) = befN T a b := by
  unfold beforeI; rw [both_of hm ha hb, Int.toNat_natCast, Int.toNat_natCast]; rfl
theorem commonI_known {T : List Nd} (hm : mayB T = true) {a b : Nat} (ha : a < T.length) (hb : b < T.length) : commonI T (a : Int) (b : Int) = comI T a b := by
  unfold commonI; rw [known_both, both_of hm ha hb, if_pos rfl, Int.toNat_natCast, Int.toNat_natCast]
theorem known_single (T : List Nd) (a : Int) : knownB T [a] = bothB T a a := by
  simp [knownB, bothB]
theorem abv_contains {T : List Nd} {a b : Nat} : abvB T (a : Int) b = containsB (castL (pars T b)) (a : Int) := by
  rw [contains_castL]
  cases h : abvB T (a : Int) b
  · exact (decide_eq_false (fun h' => by rw [abvB_iff.mpr h'] at h; cases h)).symm
  · exact (decide_eq_true (abvB_iff.mp h)).symm

set_option maxRecDepth 100000 in
set_option maxHeartbeats 4000000 in
theorem otells_no (T : List Nd) (ta : Option Addr) (tc : Nat) (a b : Int) (w : World) (hT : TreeAt w (.slice ta T.length tc) T) (hs : smallB T = true) (hab : bothB T a b = false) :
    Calls Try.prog 3 #[.slice ta T.length tc, .int .i64 a, .int .i64 b] w fun e w' => e = .returned (.bool true) ∧ Below w.heap.size w w' := by
  have HT0 := hideG hT
  have HB0 := hideG (Below.refl w.heap.size w)
  have HS := hideG (small_sane hs)
  have E1 := hideG (show aboveO T a b = false by simp [aboveO, known_both, hab])
  have E2 := hideG (show beforeI T a b = false by simp [beforeI, hab])
  have E3 := hideG (show commonI T a b = -1 by simp [commonI, known_both, hab])
  clear hT
  cases haa : bothB T a a
  · have E4 := hideG (show dnI T a = [] by simp [dnI, known_single, haa])
    have E5 := hideG (show upI T a = [] by simp [upI, known_single, haa])
    have E6 := hideG (show topI T a = -1 by simp [topI, known_single, haa])
    go_enter Try.func3, Try.ntmps3
    go_wp2_with fail
    refine (refSmall_any T _ _ HT0.out).mono ?_
    rintro e wz ⟨rfl, hwz⟩
    subst hwz
    go_wp2_with fail
    refine (refBoth_any T HS.out _ _ _ _ HT0.out).mono ?_
    rintro e w1 ⟨rfl, hb1⟩
    have HT1 := hideG (HT0.out.below hb1)
    have HB1 := hideG (HB0.out.trans (hb1.mono HB0.out.size))
    clear hb1 HT0 HB0
    go_wp2_with fail
    refine (orderAbove_any T HS.out _ _ _ _ HT1.out).mono ?_
    rintro e w2 ⟨rfl, hb2⟩
    rw [E1.out]
    have HT2 := hideG (HT1.out.below hb2)
    have HB2 := hideG (HB1.out.trans (hb2.mono HB1.out.size))
    clear hb2 HT1 HB1
    go_wp2_with fail
    refine (orderBefore_any T HS.out _ _ _ _ HT2.out).mono ?_
    rintro e w3 ⟨rfl, hb3⟩
    rw [E2.out]
    have HT3 := hideG (HT2.out.below hb3)
    have HB3 := hideG (HB2.out.trans (hb3.mono HB2.out.size))
    clear hb3 HT2 HB2
    go_wp2_with fail
    refine (orderCommon_any T HS.out _ _ _ _ HT3.out).mono ?_
    rintro e w4 ⟨rfl, hb4⟩
    rw [E3.out]
    have HT4 := hideG (HT3.out.below hb4)
    have HB4 := hideG (HB3.out.trans (hb4.mono HB3.out.size))
    clear hb4 HT3 HB3
    go_wp2_with fail
    refine (refBoth_any T HS.out _ _ _ _ HT4.out).mono ?_
    rintro e w5 ⟨rfl, hb5⟩
    have HT5 := hideG (HT4.out.below hb5)
    have HB5 := hideG (HB4.out.trans (hb5.mono HB4.out.size))
    clear hb5 HT4 HB4
    go_wp2_with fail
    refine (listO_any T HS.out _ _ _ HT5.out).mono ?_
    rintro e w6 ⟨a6, c6, rfl, ho6, hb6⟩
    rw [E4.out] at ho6 ⊢
    have HL1 := hideG (ownsRow_ints ho6)
    clear ho6
    have HT6 := hideG (HT5.out.below hb6)
    have HB6 := hideG (HB5.out.trans (hb6.mono HB5.out.size))
    clear hb6 HT5 HB5
    go_wp2_with fail
    refine (orderUp_any T HS.out _ _ _ HT6.out).mono ?_
    rintro e w7 ⟨a7, c7, rfl, ho7, hb7⟩
    rw [E5.out] at ho7 ⊢
    have HL2 := hideG (ownsRow_ints ho7)
    clear ho7
    have HT7 := hideG (HT6.out.below hb7)
    have HB7 := hideG (HB6.out.trans (hb7.mono HB6.out.size))
    have HL1n := hideG (HL1.out.below hb7)
    clear hb7 HT6 HB6 HL1
    have HL1 := HL1n
    clear HL1n
    go_wp2_with fail
    refine (orderTop_any T HS.out _ _ _ HT7.out).mono ?_
    rintro e w8 ⟨rfl, hb8⟩
    rw [E6.out]
    have HT8 := hideG (HT7.out.below hb8)
    have HB8 := hideG (HB7.out.trans (hb8.mono HB7.out.size))
    have HL1n := hideG (HL1.out.below hb8)
    have HL2n := hideG (HL2.out.below hb8)
    clear hb8 HT7 HB7 HL1 HL2
    have HL1 := HL1n
    clear HL1n
    have HL2 := HL2n
    clear HL2n
    go_wp2_with fail
    refine (live3_any _).mono ?_
    rintro e w9 ⟨rfl, hb9⟩
    have HT9 := hideG (HT8.out.below hb9)
    have HB9 := hideG (HB8.out.trans (hb9.mono HB8.out.size))
    have HL1n := hideG (HL1.out.below hb9)
    have HL2n := hideG (HL2.out.below hb9)
    clear hb9 HT8 HB8 HL1 HL2
    have HL1 := HL1n
    clear HL1n
    have HL2 := HL2n
    clear HL2n
    go_wp2_with fail
    go_ret
    exact ⟨rfl, HB9.out⟩
  ·
    go_enter Try.func3, Try.ntmps3
    go_wp2_with fail
    refine (refSmall_any T _ _ HT0.out).mono ?_
    rintro e wz ⟨rfl, hwz⟩
    subst hwz
    go_wp2_with fail
    refine (refBoth_any T HS.out _ _ _ _ HT0.out).mono ?_
    rintro e w1 ⟨rfl, hb1⟩
    have HT1 := hideG (HT0.out.below hb1)
    have HB1 := hideG (HB0.out.trans (hb1.mono HB0.out.size))
    clear hb1 HT0 HB0
    go_wp2_with fail
    refine (orderAbove_any T HS.out _ _ _ _ HT1.out).mono ?_
    rintro e w2 ⟨rfl, hb2⟩
    rw [E1.out]
    have HT2 := hideG (HT1.out.below hb2)
    have HB2 := hideG (HB1.out.trans (hb2.mono HB1.out.size))
    clear hb2 HT1 HB1
    go_wp2_with fail
    refine (orderBefore_any T HS.out _ _ _ _ HT2.out).mono ?_
    rintro e w3 ⟨rfl, hb3⟩
    rw [E2.out]
    have HT3 := hideG (HT2.out.below hb3)
    have HB3 := hideG (HB2.out.trans (hb3.mono HB2.out.size))
    clear hb3 HT2 HB2
    go_wp2_with fail
    refine (orderCommon_any T HS.out _ _ _ _ HT3.out).mono ?_
    rintro e w4 ⟨rfl, hb4⟩
    rw [E3.out]
    have HT4 := hideG (HT3.out.below hb4)
    have HB4 := hideG (HB3.out.trans (hb4.mono HB3.out.size))
    clear hb4 HT3 HB3
    go_wp2_with fail
    refine (refBoth_any T HS.out _ _ _ _ HT4.out).mono ?_
    rintro e w5 ⟨rfl, hb5⟩
    have HT5 := hideG (HT4.out.below hb5)
    have HB5 := hideG (HB4.out.trans (hb5.mono HB4.out.size))
    clear hb5 HT4 HB4
    go_wp2_with fail
    refine (live3_any _).mono ?_
    rintro e w6 ⟨rfl, hb6⟩
    have HT6 := hideG (HT5.out.below hb6)
    have HB6 := hideG (HB5.out.trans (hb6.mono HB5.out.size))
    clear hb6 HT5 HB5
    go_wp2_with fail
    go_ret
    exact ⟨rfl, HB6.out⟩

set_option maxRecDepth 100000 in
set_option maxHeartbeats 4000000 in
theorem otells_yes (T : List Nd) (ta : Option Addr) (tc : Nat) (a b : Nat) (w : World) (hT : TreeAt w (.slice ta T.length tc) T) (hs : smallB T = true) (hab : bothB T (a : Int) (b : Int) = true) :
    Calls Try.prog 3 #[.slice ta T.length tc, .int .i64 (a : Int), .int .i64 (b : Int)] w fun e w' => e = .returned (.bool true) ∧ Below w.heap.size w w' := by
  have HT0 := hideG hT
  have HB0 := hideG (Below.refl w.heap.size w)
  have HS := hideG (small_sane hs)
  obtain ⟨hm, ⟨a', ea, ha⟩, b', eb, hb⟩ := both_true hab
  obtain rfl : a = a' := by omega
  obtain rfl : b = b' := by omega
  have hpos := mayB_pos hm
  have hl1 : (castL (dn T a)).length ≤ 1000 := by rw [castL_length]; exact dn_short a hm ha
  have hl2 : (castL (pars T b)).length ≤ 1000 := by rw [castL_length]; have := pars_le T b; omega
  have E1 := hideG (dnI_known hm ha)
  have E2 := hideG (upI_known hm hb)
  have E3 := hideG (topI_known hm ha)
  have E4 := hideG ((aboveO_known hm ha hb).trans abv_contains)
  have E5 := hideG (beforeI_known hm ha hb)
  have E6 := hideG (commonI_known hm ha hb)
  have HM := hideG hm
  clear hT hm ea eb
  go_enter Try.func3, Try.ntmps3
  go_wp2_with fail
  refine (refSmall_any T _ _ HT0.out).mono ?_
  rintro e wz ⟨rfl, hwz⟩
  subst hwz
  go_wp2_with fail
  refine (refBoth_any T HS.out _ _ _ _ HT0.out).mono ?_
  rintro e w1 ⟨rfl, hb1⟩
  have HT1 := hideG (HT0.out.below hb1)
  have HB1 := hideG (HB0.out.trans (hb1.mono HB0.out.size))
  clear hb1 HT0 HB0
  go_wp2_with fail
  refine (refUp3_any T HM.out _ b hb _ HT1.out).mono ?_
  rintro e w2 ⟨a2, c2, rfl, ho2, hb2⟩
  generalize hup : castL (pars T b) = lu at *
  have HUP := hideG hup
  clear hup
  have HU := hideG (ownsRow_ints ho2)
  clear ho2
  have HT2 := hideG (HT1.out.below hb2)
  have HB2 := hideG (HB1.out.trans (hb2.mono HB1.out.size))
  clear hb2 HT1 HB1
  go_wp2_with fail
  refine (listO_any T HS.out _ _ _ HT2.out).mono ?_
  rintro e w3 ⟨a3, c3, rfl, ho3, hb3⟩
  rw [E1.out] at ho3 ⊢
  have HL := hideG (ownsRow_ints ho3)
  clear ho3
  have HT3 := hideG (HT2.out.below hb3)
  have HB3 := hideG (HB2.out.trans (hb3.mono HB2.out.size))
  have HUn := hideG (HU.out.below hb3)
  clear hb3 HT2 HB2 HU
  have HU := HUn
  clear HUn
  go_wp2_with fail
  refine (refList3_any T HM.out _ a ha _ HT3.out).mono ?_
  rintro e w4 ⟨a4, c4, rfl, ho4, hb4⟩
  generalize castL (dn T a) = ld at *
  have HL3 := hideG (ownsRow_ints ho4)
  clear ho4
  have HT4 := hideG (HT3.out.below hb4)
  have HB4 := hideG (HB3.out.trans (hb4.mono HB3.out.size))
  have HUn := hideG (HU.out.below hb4)
  have HLn := hideG (HL.out.below hb4)
  clear hb4 HT3 HB3 HU HL
  have HU := HUn
  clear HUn
  have HL := HLn
  clear HLn
  go_wp2_with fail
  refine (lints ld ld true (by omega) (by simp) _ _ _ HL.out HL3.out).mono ?_
  rintro e w5 ⟨rfl, hb5⟩
  have HT5 := hideG (HT4.out.below hb5)
  have HB5 := hideG (HB4.out.trans (hb5.mono HB4.out.size))
  have HUn := hideG (HU.out.below hb5)
  have HLn := hideG (HL.out.below hb5)
  have HL3n := hideG (HL3.out.below hb5)
  clear hb5 HT4 HB4 HU HL HL3
  have HU := HUn
  clear HUn
  have HL := HLn
  clear HLn
  have HL3 := HL3n
  clear HL3n
  go_wp2_with fail
  refine (orderUp_any T HS.out _ _ _ HT5.out).mono ?_
  rintro e w6 ⟨a6, c6, rfl, ho6, hb6⟩
  rw [E2.out] at ho6 ⊢
  have HU2 := hideG (ownsRow_ints ho6)
  clear ho6
  have HT6 := hideG (HT5.out.below hb6)
  have HB6 := hideG (HB5.out.trans (hb6.mono HB5.out.size))
  have HUn := hideG (HU.out.below hb6)
  have HLn := hideG (HL.out.below hb6)
  have HL3n := hideG (HL3.out.below hb6)
  clear hb6 HT5 HB5 HU HL HL3
  have HU := HUn
  clear HUn
  have HL := HLn
  clear HLn
  have HL3 := HL3n
  clear HL3n
  go_wp2_with fail
  refine (lints lu lu true (by omega) (by simp) _ _ _ HU2.out HU.out).mono ?_
  rintro e w7 ⟨rfl, hb7⟩
  have HT7 := hideG (HT6.out.below hb7)
  have HB7 := hideG (HB6.out.trans (hb7.mono HB6.out.size))
  have HUn := hideG (HU.out.below hb7)
  have HLn := hideG (HL.out.below hb7)
  have HL3n := hideG (HL3.out.below hb7)
  have HU2n := hideG (HU2.out.below hb7)
  clear hb7 HT6 HB6 HU HL HL3 HU2
  have HU := HUn
  clear HUn
  have HL := HLn
  clear HLn
  have HL3 := HL3n
  clear HL3n
  have HU2 := HU2n
  clear HU2n
  go_wp2_with fail
  refine (orderTop_any T HS.out _ _ _ HT7.out).mono ?_
  rintro e w8 ⟨rfl, hb8⟩
  rw [E3.out]
  have HT8 := hideG (HT7.out.below hb8)
  have HB8 := hideG (HB7.out.trans (hb8.mono HB7.out.size))
  have HUn := hideG (HU.out.below hb8)
  have HLn := hideG (HL.out.below hb8)
  have HL3n := hideG (HL3.out.below hb8)
  have HU2n := hideG (HU2.out.below hb8)
  clear hb8 HT7 HB7 HU HL HL3 HU2
  have HU := HUn
  clear HUn
  have HL := HLn
  clear HLn
  have HL3 := HL3n
  clear HL3n
  have HU2 := HU2n
  clear HU2n
  go_wp2_with fail
  refine (refTop3_any T HM.out _ a ha _ HT8.out).mono ?_
  rintro e w9 ⟨rfl, hb9⟩
  have HT9 := hideG (HT8.out.below hb9)
  have HB9 := hideG (HB8.out.trans (hb9.mono HB8.out.size))
  have HUn := hideG (HU.out.below hb9)
  have HLn := hideG (HL.out.below hb9)
  have HL3n := hideG (HL3.out.below hb9)
  have HU2n := hideG (HU2.out.below hb9)
  clear hb9 HT8 HB8 HU HL HL3 HU2
  have HU := HUn
  clear HUn
  have HL := HLn
  clear HLn
  have HL3 := HL3n
  clear HL3n
  have HU2 := HU2n
  clear HU2n
  go_wp2_with fail
  refine (orderAbove_any T HS.out _ _ _ _ HT9.out).mono ?_
  rintro e w10 ⟨rfl, hb10⟩
  rw [E4.out]
  generalize hq1 : containsB lu (a : Int) = q1 at *
  have HQ1 := hideG hq1
  clear hq1
  have HT10 := hideG (HT9.out.below hb10)
  have HB10 := hideG (HB9.out.trans (hb10.mono HB9.out.size))
  have HUn := hideG (HU.out.below hb10)
  have HLn := hideG (HL.out.below hb10)
  have HL3n := hideG (HL3.out.below hb10)
  have HU2n := hideG (HU2.out.below hb10)
  clear hb10 HT9 HB9 HU HL HL3 HU2
  have HU := HUn
  clear HUn
  have HL := HLn
  clear HLn
  have HL3 := HL3n
  clear HL3n
  have HU2 := HU2n
  clear HU2n
  go_wp2_with fail
  refine (refIn_any lu _ _ _ HU.out (by omega)).mono ?_
  rintro e wz ⟨rfl, hwz⟩
  subst hwz
  rw [HQ1.out]
  go_wp2_with fail
  refine (orderBefore_any T HS.out _ _ _ _ HT10.out).mono ?_
  rintro e w11 ⟨rfl, hb11⟩
  rw [E5.out]
  have HT11 := hideG (HT10.out.below hb11)
  have HB11 := hideG (HB10.out.trans (hb11.mono HB10.out.size))
  have HUn := hideG (HU.out.below hb11)
  have HLn := hideG (HL.out.below hb11)
  have HL3n := hideG (HL3.out.below hb11)
  have HU2n := hideG (HU2.out.below hb11)
  clear hb11 HT10 HB10 HU HL HL3 HU2
  have HU := HUn
  clear HUn
  have HL := HLn
  clear HLn
  have HL3 := HL3n
  clear HL3n
  have HU2 := HU2n
  clear HU2n
  go_wp2_with fail
  refine (refBefore_any T HM.out _ a b ha hb _ HT11.out).mono ?_
  rintro e w12 ⟨rfl, hb12⟩
  have HT12 := hideG (HT11.out.below hb12)
  have HB12 := hideG (HB11.out.trans (hb12.mono HB11.out.size))
  have HUn := hideG (HU.out.below hb12)
  have HLn := hideG (HL.out.below hb12)
  have HL3n := hideG (HL3.out.below hb12)
  have HU2n := hideG (HU2.out.below hb12)
  clear hb12 HT11 HB11 HU HL HL3 HU2
  have HU := HUn
  clear HUn
  have HL := HLn
  clear HLn
  have HL3 := HL3n
  clear HL3n
  have HU2 := HU2n
  clear HU2n
  go_wp2_with fail
  refine (orderCommon_any T HS.out _ _ _ _ HT12.out).mono ?_
  rintro e w13 ⟨rfl, hb13⟩
  rw [E6.out]
  have HT13 := hideG (HT12.out.below hb13)
  have HB13 := hideG (HB12.out.trans (hb13.mono HB12.out.size))
  have HUn := hideG (HU.out.below hb13)
  have HLn := hideG (HL.out.below hb13)
  have HL3n := hideG (HL3.out.below hb13)
  have HU2n := hideG (HU2.out.below hb13)
  clear hb13 HT12 HB12 HU HL HL3 HU2
  have HU := HUn
  clear HUn
  have HL := HLn
  clear HLn
  have HL3 := HL3n
  clear HL3n
  have HU2 := HU2n
  clear HU2n
  go_wp2_with fail
  refine (refCommon_any T HM.out _ a b ha hb _ HT13.out).mono ?_
  rintro e w14 ⟨rfl, hb14⟩
  have HT14 := hideG (HT13.out.below hb14)
  have HB14 := hideG (HB13.out.trans (hb14.mono HB13.out.size))
  have HUn := hideG (HU.out.below hb14)
  have HLn := hideG (HL.out.below hb14)
  have HL3n := hideG (HL3.out.below hb14)
  have HU2n := hideG (HU2.out.below hb14)
  clear hb14 HT13 HB13 HU HL HL3 HU2
  have HU := HUn
  clear HUn
  have HL := HLn
  clear HLn
  have HL3 := HL3n
  clear HL3n
  have HU2 := HU2n
  clear HU2n
  go_wp2_with fail
  refine (live3_any _).mono ?_
  rintro e w15 ⟨rfl, hb15⟩
  have HT15 := hideG (HT14.out.below hb15)
  have HB15 := hideG (HB14.out.trans (hb15.mono HB14.out.size))
  have HUn := hideG (HU.out.below hb15)
  have HLn := hideG (HL.out.below hb15)
  have HL3n := hideG (HL3.out.below hb15)
  have HU2n := hideG (HU2.out.below hb15)
  clear hb15 HT14 HB14 HU HL HL3 HU2
  have HU := HUn
  clear HUn
  have HL := HLn
  clear HLn
  have HL3 := HL3n
  clear HL3n
  have HU2 := HU2n
  clear HU2n
  go_wp2_with fail
  go_ret
  exact ⟨rfl, HB15.out⟩

set_option maxRecDepth 100000 in
set_option maxHeartbeats 4000000 in
theorem otells_walk (T : List Nd) (v : Value) (a b : Int) (w : World) (hT : TreeAt w v T) :
    Calls Try.prog 3 #[v, .int .i64 a, .int .i64 b] w fun e w' => e = .returned (.bool true) ∧ Below w.heap.size w w' := by
  obtain ⟨ta, tc, rfl⟩ := hT.shape
  cases hs : smallB T
  · have HT := hideG hT
    clear hT
    go_enter Try.func3, Try.ntmps3
    go_wp2_with (first | (go_at_call 25; refine (refSmall_any T _ _ HT.out).mono ?_; rintro e w1 ⟨rfl, rfl⟩) | (go_at_call 26; refine (live3_any _).mono ?_; rintro e w2 ⟨rfl, hb2⟩))
    go_ret
    exact ⟨rfl, hb2⟩
  · cases hab : bothB T a b
    · exact otells_no T ta tc a b w hT hs hab
    · obtain ⟨_, ⟨x, rfl, _⟩, y, rfl, _⟩ := both_true hab
      exact otells_yes T ta tc x y w hT hs hab
end Go.Proofs.Ytnbnijhdmnoelaa
