/- FlatTells, FlatList, walked. -/
import Derived.Test.YtahnkhgaopaaoaaLive6
namespace Go.Proofs.Ytahnkhgaopaaoaa
open Go.RowKit

theorem known_bothOne (T : List Nd) (a : Int) : knownB T [a] = bothB T a a := by
  simp [knownB, bothB]
theorem fabv_node {T : List Nd} (hm : mayB T = true) {a : Int} {n : Nat} (hn : n < T.length) (h : fabvB T a n = true) : isNodeB T.length a = true := by
  unfold fabvB at h
  obtain ⟨x, hx, e⟩ := List.any_eq_true.mp h
  have hxl := (forest6 hm).u_lt hn hx
  have : (x : Int) = a := by simpa using e
  subst this
  simp [isNodeB]; omega
theorem fabove_no {T : List Nd} {a b : Int} (h : bothB T a b = false) : faboveI T a b = false := by
  cases e : faboveI T a b
  · rfl
  · unfold faboveI at e
    rw [Bool.and_eq_true] at e
    obtain ⟨hm, n, rfl, hn⟩ := known_one e.1
    rw [Int.toNat_natCast] at e
    have h1 := fabv_node hm hn e.2
    have h2 : isNodeB T.length (n : Int) = true := by simp [isNodeB]; omega
    rw [bothB, hm, h1, h2] at h
    simp at h

set_option maxRecDepth 100000 in
set_option maxHeartbeats 4000000 in
theorem flatTells_walk (T : List Nd) (v : Value) (a b : Int) (w : World) (hT : TreeAt w v T) :
    Calls Try.prog 4 #[v, .int .i64 a, .int .i64 b] w fun e w' => e = .returned (.bool true) ∧ Below w.heap.size w w' := by
  obtain ⟨ta, tc, rfl⟩ := hT.shape
  have HT0 := hideG hT
  have HB0 := hideG (Below.refl w.heap.size w)
  cases hs : fewB T
  · clear hT
    go_enter Try.func4, Try.ntmps4
    go_wp2_with fail
    refine (refFew_any T _ _ HT0.out).mono ?_
    rintro e wz ⟨rfl, hwz⟩
    subst hwz
    go_wp2_with fail
    refine (live6_any _).mono ?_
    rintro e w1 ⟨rfl, hb1⟩
    have HT1 := hideG (HT0.out.below hb1)
    have HB1 := hideG (HB0.out.trans (hb1.mono HB0.out.size))
    clear hb1 HT0 HB0
    go_wp2_with fail
    go_ret
    exact ⟨rfl, HB1.out⟩
  · have HS := hideG (small_sane (few_small hs))
    cases hab : bothB T a b
    · have EB := hideG hab
      have E1 := hideG (fabove_no hab)
      cases haa : bothB T a a
      · have EA := hideG haa
        have hk : knownB T [a] = false := by rw [known_bothOne, haa]
        have E2 := hideG (show fkidsI T a = [] by simp [fkidsI, hk])
        have E3 := hideG (show fparI T a = -1 by simp [fparI, hk])
        have E4 := hideG (show fupI T a = [] by simp [fupI, hk])
        have E5 := hideG (show faboveI T 0 a = false by simp [faboveI, hk])
        clear hT hab haa hk
        go_enter Try.func4, Try.ntmps4
        go_wp2_with fail
        refine (refFew_any T _ _ HT0.out).mono ?_
        rintro e wz ⟨rfl, hwz⟩
        subst hwz
        go_wp2_with fail
        refine (refBoth_any T HS.out _ _ _ _ HT0.out).mono ?_
        rintro e w1 ⟨rfl, hb1⟩
        rw [EB.out]
        have HT1 := hideG (HT0.out.below hb1)
        have HB1 := hideG (HB0.out.trans (hb1.mono HB0.out.size))
        clear hb1 HT0 HB0
        go_wp2_with fail
        refine (flatAbove_any T HS.out _ _ _ _ HT1.out).mono ?_
        rintro e w2 ⟨rfl, hb2⟩
        rw [E1.out]
        have HT2 := hideG (HT1.out.below hb2)
        have HB2 := hideG (HB1.out.trans (hb2.mono HB1.out.size))
        clear hb2 HT1 HB1
        go_wp2_with fail
        refine (refBoth_any T HS.out _ _ _ _ HT2.out).mono ?_
        rintro e w3 ⟨rfl, hb3⟩
        rw [EA.out]
        have HT3 := hideG (HT2.out.below hb3)
        have HB3 := hideG (HB2.out.trans (hb3.mono HB2.out.size))
        clear hb3 HT2 HB2
        go_wp2_with fail
        refine (flatKids_any T HS.out _ _ _ HT3.out).mono ?_
        rintro e w4 ⟨a4, c4, rfl, ho4, hb4⟩
        rw [E2.out] at ho4 ⊢
        have HL1 := hideG (ownsRow_ints ho4)
        clear ho4
        have HT4 := hideG (HT3.out.below hb4)
        have HB4 := hideG (HB3.out.trans (hb4.mono HB3.out.size))
        clear hb4 HT3 HB3
        go_wp2_with fail
        refine (flatParent_any T HS.out _ _ _ HT4.out).mono ?_
        rintro e w5 ⟨rfl, hb5⟩
        rw [E3.out]
        have HT5 := hideG (HT4.out.below hb5)
        have HB5 := hideG (HB4.out.trans (hb5.mono HB4.out.size))
        have HL1n := hideG (HL1.out.below hb5)
        clear hb5 HT4 HB4 HL1
        have HL1 := HL1n
        clear HL1n
        go_wp2_with fail
        refine (flatUp_any T HS.out _ _ _ HT5.out).mono ?_
        rintro e w6 ⟨a6, c6, rfl, ho6, hb6⟩
        rw [E4.out] at ho6 ⊢
        have HL2 := hideG (ownsRow_ints ho6)
        clear ho6
        have HT6 := hideG (HT5.out.below hb6)
        have HB6 := hideG (HB5.out.trans (hb6.mono HB5.out.size))
        have HL1n := hideG (HL1.out.below hb6)
        clear hb6 HT5 HB5 HL1
        have HL1 := HL1n
        clear HL1n
        go_wp2_with fail
        refine (flatHas_any T HS.out _ _ _ HT6.out).mono ?_
        rintro e w7 ⟨rfl, hb7⟩
        rw [E5.out]
        have HT7 := hideG (HT6.out.below hb7)
        have HB7 := hideG (HB6.out.trans (hb7.mono HB6.out.size))
        have HL1n := hideG (HL1.out.below hb7)
        have HL2n := hideG (HL2.out.below hb7)
        clear hb7 HT6 HB6 HL1 HL2
        have HL1 := HL1n
        clear HL1n
        have HL2 := HL2n
        clear HL2n
        go_wp2_with fail
        refine (live6_any _).mono ?_
        rintro e w8 ⟨rfl, hb8⟩
        have HT8 := hideG (HT7.out.below hb8)
        have HB8 := hideG (HB7.out.trans (hb8.mono HB7.out.size))
        have HL1n := hideG (HL1.out.below hb8)
        have HL2n := hideG (HL2.out.below hb8)
        clear hb8 HT7 HB7 HL1 HL2
        have HL1 := HL1n
        clear HL1n
        have HL2 := HL2n
        clear HL2n
        go_wp2_with fail
        go_ret
        exact ⟨rfl, HB8.out⟩
      · have EA := hideG haa
        clear hT hab haa
        go_enter Try.func4, Try.ntmps4
        go_wp2_with fail
        refine (refFew_any T _ _ HT0.out).mono ?_
        rintro e wz ⟨rfl, hwz⟩
        subst hwz
        go_wp2_with fail
        refine (refBoth_any T HS.out _ _ _ _ HT0.out).mono ?_
        rintro e w1 ⟨rfl, hb1⟩
        rw [EB.out]
        have HT1 := hideG (HT0.out.below hb1)
        have HB1 := hideG (HB0.out.trans (hb1.mono HB0.out.size))
        clear hb1 HT0 HB0
        go_wp2_with fail
        refine (flatAbove_any T HS.out _ _ _ _ HT1.out).mono ?_
        rintro e w2 ⟨rfl, hb2⟩
        rw [E1.out]
        have HT2 := hideG (HT1.out.below hb2)
        have HB2 := hideG (HB1.out.trans (hb2.mono HB1.out.size))
        clear hb2 HT1 HB1
        go_wp2_with fail
        refine (refBoth_any T HS.out _ _ _ _ HT2.out).mono ?_
        rintro e w3 ⟨rfl, hb3⟩
        rw [EA.out]
        have HT3 := hideG (HT2.out.below hb3)
        have HB3 := hideG (HB2.out.trans (hb3.mono HB2.out.size))
        clear hb3 HT2 HB2
        go_wp2_with fail
        refine (live6_any _).mono ?_
        rintro e w4 ⟨rfl, hb4⟩
        have HT4 := hideG (HT3.out.below hb4)
        have HB4 := hideG (HB3.out.trans (hb4.mono HB3.out.size))
        clear hb4 HT3 HB3
        go_wp2_with fail
        go_ret
        exact ⟨rfl, HB4.out⟩
    · obtain ⟨hm, ⟨a', ea, ha⟩, b', eb, hb⟩ := both_true hab
      subst ea eb
      have EB := hideG hab
      have HM := hideG hm
      have hka := known_of hm ha
      have hkb := known_of hm hb
      have E2 := hideG (show fkidsI T (a' : Int) = kidsF T a' by simp [fkidsI, hka])
      have E3 := hideG (show fparI T (a' : Int) = parF T a' by simp [fparI, hka])
      have E4 := hideG (show fupI T (a' : Int) = castL (upF T a') by simp [fupI, hka])
      have E5 := hideG (show faboveI T 0 (a' : Int) = fabvB T 0 a' by simp [faboveI, hka])
      have E6 := hideG (show faboveI T (a' : Int) (b' : Int) = fabvB T (a' : Int) b' by simp [faboveI, hkb])
      have hl1 := hideG (show (kidsF T a').length ≤ 1000 by have := kidsF_le hm ha; omega)
      have hl2 := hideG (show (castL (upF T a')).length ≤ 1000 by have h1 := upF_le hm ha; have h2 := (mayB_fine hm).le; rw [castL_length]; omega)
      clear hT hab hm hka hkb
      go_enter Try.func4, Try.ntmps4
      go_wp2_with fail
      refine (refFew_any T _ _ HT0.out).mono ?_
      rintro e wz ⟨rfl, hwz⟩
      subst hwz
      go_wp2_with fail
      refine (refBoth_any T HS.out _ _ _ _ HT0.out).mono ?_
      rintro e w1 ⟨rfl, hb1⟩
      rw [EB.out]
      have HT1 := hideG (HT0.out.below hb1)
      have HB1 := hideG (HB0.out.trans (hb1.mono HB0.out.size))
      clear hb1 HT0 HB0
      go_wp2_with fail
      refine (flatKids_any T HS.out _ _ _ HT1.out).mono ?_
      rintro e w2 ⟨a2, c2, rfl, ho2, hb2⟩
      rw [E2.out] at ho2 ⊢
      have HK1 := hideG (ownsRow_ints ho2)
      clear ho2
      have HT2 := hideG (HT1.out.below hb2)
      have HB2 := hideG (HB1.out.trans (hb2.mono HB1.out.size))
      clear hb2 HT1 HB1
      go_wp2_with fail
      refine (refKids6_any T HM.out HS.out _ a' ha _ HT2.out).mono ?_
      rintro e w3 ⟨a3, c3, rfl, ho3, hb3⟩
      generalize kidsF T a' = la at *
      have HK2 := hideG ho3
      clear ho3
      have HT3 := hideG (HT2.out.below hb3)
      have HB3 := hideG (HB2.out.trans (hb3.mono HB2.out.size))
      have HK1n := hideG (HK1.out.below hb3)
      clear hb3 HT2 HB2 HK1
      have HK1 := HK1n
      clear HK1n
      go_wp2_with fail
      refine (lints la la true hl1.out (by simp) _ _ _ HK1.out HK2.out).mono ?_
      rintro e w4 ⟨rfl, hb4⟩
      have HT4 := hideG (HT3.out.below hb4)
      have HB4 := hideG (HB3.out.trans (hb4.mono HB3.out.size))
      have HK1n := hideG (HK1.out.below hb4)
      have HK2n := hideG (HK2.out.below hb4)
      clear hb4 HT3 HB3 HK1 HK2
      have HK1 := HK1n
      clear HK1n
      have HK2 := HK2n
      clear HK2n
      go_wp2_with fail
      refine (flatParent_any T HS.out _ _ _ HT4.out).mono ?_
      rintro e w5 ⟨rfl, hb5⟩
      rw [E3.out]
      have HT5 := hideG (HT4.out.below hb5)
      have HB5 := hideG (HB4.out.trans (hb5.mono HB4.out.size))
      have HK1n := hideG (HK1.out.below hb5)
      have HK2n := hideG (HK2.out.below hb5)
      clear hb5 HT4 HB4 HK1 HK2
      have HK1 := HK1n
      clear HK1n
      have HK2 := HK2n
      clear HK2n
      go_wp2_with fail
      refine (refParent6_any T HM.out HS.out _ a' ha _ HT5.out).mono ?_
      rintro e w6 ⟨rfl, hb6⟩
      have HT6 := hideG (HT5.out.below hb6)
      have HB6 := hideG (HB5.out.trans (hb6.mono HB5.out.size))
      have HK1n := hideG (HK1.out.below hb6)
      have HK2n := hideG (HK2.out.below hb6)
      clear hb6 HT5 HB5 HK1 HK2
      have HK1 := HK1n
      clear HK1n
      have HK2 := HK2n
      clear HK2n
      go_wp2_with fail
      refine (flatUp_any T HS.out _ _ _ HT6.out).mono ?_
      rintro e w7 ⟨a7, c7, rfl, ho7, hb7⟩
      rw [E4.out] at ho7 ⊢
      have HU1 := hideG (ownsRow_ints ho7)
      clear ho7
      have HT7 := hideG (HT6.out.below hb7)
      have HB7 := hideG (HB6.out.trans (hb7.mono HB6.out.size))
      have HK1n := hideG (HK1.out.below hb7)
      have HK2n := hideG (HK2.out.below hb7)
      clear hb7 HT6 HB6 HK1 HK2
      have HK1 := HK1n
      clear HK1n
      have HK2 := HK2n
      clear HK2n
      go_wp2_with fail
      refine (refUp6_any T HM.out HS.out _ a' ha _ HT7.out).mono ?_
      rintro e w8 ⟨a8, c8, rfl, ho8, hb8⟩
      generalize castL (upF T a') = lb at *
      have HU2 := hideG (ownsRow_ints ho8)
      clear ho8
      have HT8 := hideG (HT7.out.below hb8)
      have HB8 := hideG (HB7.out.trans (hb8.mono HB7.out.size))
      have HK1n := hideG (HK1.out.below hb8)
      have HK2n := hideG (HK2.out.below hb8)
      have HU1n := hideG (HU1.out.below hb8)
      clear hb8 HT7 HB7 HK1 HK2 HU1
      have HK1 := HK1n
      clear HK1n
      have HK2 := HK2n
      clear HK2n
      have HU1 := HU1n
      clear HU1n
      go_wp2_with fail
      refine (lints lb lb true hl2.out (by simp) _ _ _ HU1.out HU2.out).mono ?_
      rintro e w9 ⟨rfl, hb9⟩
      have HT9 := hideG (HT8.out.below hb9)
      have HB9 := hideG (HB8.out.trans (hb9.mono HB8.out.size))
      have HK1n := hideG (HK1.out.below hb9)
      have HK2n := hideG (HK2.out.below hb9)
      have HU1n := hideG (HU1.out.below hb9)
      have HU2n := hideG (HU2.out.below hb9)
      clear hb9 HT8 HB8 HK1 HK2 HU1 HU2
      have HK1 := HK1n
      clear HK1n
      have HK2 := HK2n
      clear HK2n
      have HU1 := HU1n
      clear HU1n
      have HU2 := HU2n
      clear HU2n
      go_wp2_with fail
      refine (flatHas_any T HS.out _ _ _ HT9.out).mono ?_
      rintro e w10 ⟨rfl, hb10⟩
      rw [E5.out]
      have HT10 := hideG (HT9.out.below hb10)
      have HB10 := hideG (HB9.out.trans (hb10.mono HB9.out.size))
      have HK1n := hideG (HK1.out.below hb10)
      have HK2n := hideG (HK2.out.below hb10)
      have HU1n := hideG (HU1.out.below hb10)
      have HU2n := hideG (HU2.out.below hb10)
      clear hb10 HT9 HB9 HK1 HK2 HU1 HU2
      have HK1 := HK1n
      clear HK1n
      have HK2 := HK2n
      clear HK2n
      have HU1 := HU1n
      clear HU1n
      have HU2 := HU2n
      clear HU2n
      go_wp2_with fail
      refine (refHas6_any T HM.out HS.out _ a' ha _ HT10.out).mono ?_
      rintro e w11 ⟨rfl, hb11⟩
      have HT11 := hideG (HT10.out.below hb11)
      have HB11 := hideG (HB10.out.trans (hb11.mono HB10.out.size))
      have HK1n := hideG (HK1.out.below hb11)
      have HK2n := hideG (HK2.out.below hb11)
      have HU1n := hideG (HU1.out.below hb11)
      have HU2n := hideG (HU2.out.below hb11)
      clear hb11 HT10 HB10 HK1 HK2 HU1 HU2
      have HK1 := HK1n
      clear HK1n
      have HK2 := HK2n
      clear HK2n
      have HU1 := HU1n
      clear HU1n
      have HU2 := HU2n
      clear HU2n
      go_wp2_with fail
      refine (flatAbove_any T HS.out _ _ _ _ HT11.out).mono ?_
      rintro e w12 ⟨rfl, hb12⟩
      rw [E6.out]
      have HT12 := hideG (HT11.out.below hb12)
      have HB12 := hideG (HB11.out.trans (hb12.mono HB11.out.size))
      have HK1n := hideG (HK1.out.below hb12)
      have HK2n := hideG (HK2.out.below hb12)
      have HU1n := hideG (HU1.out.below hb12)
      have HU2n := hideG (HU2.out.below hb12)
      clear hb12 HT11 HB11 HK1 HK2 HU1 HU2
      have HK1 := HK1n
      clear HK1n
      have HK2 := HK2n
      clear HK2n
      have HU1 := HU1n
      clear HU1n
      have HU2 := HU2n
      clear HU2n
      go_wp2_with fail
      refine (refAbove6_any T HM.out HS.out _ _ b' hb _ HT12.out).mono ?_
      rintro e w13 ⟨rfl, hb13⟩
      have HT13 := hideG (HT12.out.below hb13)
      have HB13 := hideG (HB12.out.trans (hb13.mono HB12.out.size))
      have HK1n := hideG (HK1.out.below hb13)
      have HK2n := hideG (HK2.out.below hb13)
      have HU1n := hideG (HU1.out.below hb13)
      have HU2n := hideG (HU2.out.below hb13)
      clear hb13 HT12 HB12 HK1 HK2 HU1 HU2
      have HK1 := HK1n
      clear HK1n
      have HK2 := HK2n
      clear HK2n
      have HU1 := HU1n
      clear HU1n
      have HU2 := HU2n
      clear HU2n
      go_wp2_with fail
      refine (live6_any _).mono ?_
      rintro e w14 ⟨rfl, hb14⟩
      have HT14 := hideG (HT13.out.below hb14)
      have HB14 := hideG (HB13.out.trans (hb14.mono HB13.out.size))
      have HK1n := hideG (HK1.out.below hb14)
      have HK2n := hideG (HK2.out.below hb14)
      have HU1n := hideG (HU1.out.below hb14)
      have HU2n := hideG (HU2.out.below hb14)
      clear hb14 HT13 HB13 HK1 HK2 HU1 HU2
      have HK1 := HK1n
      clear HK1n
      have HK2 := HK2n
      clear HK2n
      have HU1 := HU1n
      clear HU1n
      have HU2 := HU2n
      clear HU2n
      go_wp2_with fail
      go_ret
      exact ⟨rfl, HB14.out⟩

set_option maxRecDepth 100000 in
set_option maxHeartbeats 4000000 in
theorem flatList_walk (T : List Nd) (v : Value) (w : World) (hT : TreeAt w v T) :
    Calls Try.prog 5 #[v] w fun e w' => e = .returned (.bool true) ∧ Below w.heap.size w w' := by
  obtain ⟨ta, tc, rfl⟩ := hT.shape
  have HT0 := hideG hT
  have HB0 := hideG (Below.refl w.heap.size w)
  cases hs : fewB T
  · clear hT
    go_enter Try.func5, Try.ntmps5
    go_wp2_with fail
    refine (refFew_any T _ _ HT0.out).mono ?_
    rintro e wz ⟨rfl, hwz⟩
    subst hwz
    go_wp2_with fail
    refine (live6_any _).mono ?_
    rintro e w1 ⟨rfl, hb1⟩
    have HT1 := hideG (HT0.out.below hb1)
    have HB1 := hideG (HB0.out.trans (hb1.mono HB0.out.size))
    clear hb1 HT0 HB0
    go_wp2_with fail
    go_ret
    exact ⟨rfl, HB1.out⟩
  · have HS := hideG (small_sane (few_small hs))
    cases hm : mayB T
    · have EM := hideG hm
      have E1 := hideG (show flistI T = [] by simp [flistI, knownB, hm])
      clear hT hm
      go_enter Try.func5, Try.ntmps5
      go_wp2_with fail
      refine (refFew_any T _ _ HT0.out).mono ?_
      rintro e wz ⟨rfl, hwz⟩
      subst hwz
      go_wp2_with fail
      refine (refMay_walk T HS.out _ _ HT0.out).mono ?_
      rintro e w1 ⟨rfl, hb1⟩
      rw [EM.out]
      have HT1 := hideG (HT0.out.below hb1)
      have HB1 := hideG (HB0.out.trans (hb1.mono HB0.out.size))
      clear hb1 HT0 HB0
      go_wp2_with fail
      refine (flatList_any T HS.out _ _ HT1.out).mono ?_
      rintro e w2 ⟨a2, c2, rfl, ho2, hb2⟩
      rw [E1.out] at ho2 ⊢
      have HL1 := hideG (ownsRow_ints ho2)
      clear ho2
      have HT2 := hideG (HT1.out.below hb2)
      have HB2 := hideG (HB1.out.trans (hb2.mono HB1.out.size))
      clear hb2 HT1 HB1
      go_wp2_with fail
      refine (live6_any _).mono ?_
      rintro e w3 ⟨rfl, hb3⟩
      have HT3 := hideG (HT2.out.below hb3)
      have HB3 := hideG (HB2.out.trans (hb3.mono HB2.out.size))
      have HL1n := hideG (HL1.out.below hb3)
      clear hb3 HT2 HB2 HL1
      have HL1 := HL1n
      clear HL1n
      go_wp2_with fail
      go_ret
      exact ⟨rfl, HB3.out⟩
    · have EM := hideG hm
      have HM := hideG hm
      have hpos := mayB_pos hm
      have hk := known_of hm (n := 0) (by omega)
      have E1 := hideG (show flistI T = castL (dnFl T 0) by unfold flistI; rw [show knownB T [0] = true from hk]; rfl)
      have hl1 := hideG (show (castL (dnFl T 0)).length ≤ 1000 by have := dnFl_le hm (n := 0) (by omega); rw [castL_length]; omega)
      clear hT hm hk
      go_enter Try.func5, Try.ntmps5
      go_wp2_with fail
      refine (refFew_any T _ _ HT0.out).mono ?_
      rintro e wz ⟨rfl, hwz⟩
      subst hwz
      go_wp2_with fail
      refine (refMay_walk T HS.out _ _ HT0.out).mono ?_
      rintro e w1 ⟨rfl, hb1⟩
      rw [EM.out]
      have HT1 := hideG (HT0.out.below hb1)
      have HB1 := hideG (HB0.out.trans (hb1.mono HB0.out.size))
      clear hb1 HT0 HB0
      go_wp2_with fail
      refine (flatList_any T HS.out _ _ HT1.out).mono ?_
      rintro e w2 ⟨a2, c2, rfl, ho2, hb2⟩
      rw [E1.out] at ho2 ⊢
      have HL1 := hideG (ownsRow_ints ho2)
      clear ho2
      have HT2 := hideG (HT1.out.below hb2)
      have HB2 := hideG (HB1.out.trans (hb2.mono HB1.out.size))
      clear hb2 HT1 HB1
      go_wp2_with fail
      refine (refList6_any T HM.out HS.out _ _ HT2.out).mono ?_
      rintro e w3 ⟨a3, c3, rfl, ho3, hb3⟩
      generalize castL (dnFl T 0) = la at *
      have HL2 := hideG (ownsRow_ints ho3)
      clear ho3
      have HT3 := hideG (HT2.out.below hb3)
      have HB3 := hideG (HB2.out.trans (hb3.mono HB2.out.size))
      have HL1n := hideG (HL1.out.below hb3)
      clear hb3 HT2 HB2 HL1
      have HL1 := HL1n
      clear HL1n
      go_wp2_with fail
      refine (lints la la true hl1.out (by simp) _ _ _ HL1.out HL2.out).mono ?_
      rintro e w4 ⟨rfl, hb4⟩
      have HT4 := hideG (HT3.out.below hb4)
      have HB4 := hideG (HB3.out.trans (hb4.mono HB3.out.size))
      have HL1n := hideG (HL1.out.below hb4)
      have HL2n := hideG (HL2.out.below hb4)
      clear hb4 HT3 HB3 HL1 HL2
      have HL1 := HL1n
      clear HL1n
      have HL2 := HL2n
      clear HL2n
      go_wp2_with fail
      refine (live6_any _).mono ?_
      rintro e w5 ⟨rfl, hb5⟩
      have HT5 := hideG (HT4.out.below hb5)
      have HB5 := hideG (HB4.out.trans (hb5.mono HB4.out.size))
      have HL1n := hideG (HL1.out.below hb5)
      have HL2n := hideG (HL2.out.below hb5)
      clear hb5 HT4 HB4 HL1 HL2
      have HL1 := HL1n
      clear HL1n
      have HL2 := HL2n
      clear HL2n
      go_wp2_with fail
      go_ret
      exact ⟨rfl, HB5.out⟩
end Go.Proofs.Ytahnkhgaopaaoaa
