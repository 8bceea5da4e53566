/- SlotsTell, walked. -/
import Derived.Test.YtnbnijhdmnoelaaSlotsR
namespace Go.Proofs.Ytnbnijhdmnoelaa
open Go.RowKit

theorem asgN_le {T : List Nd} (hm : mayB T = true) {r h : Nat} (hh : h < T.length) (s : Int) : (asgN T r h s).length ≤ 64 := by
  have h1 := List.length_filter_le (fun k => placeI T r k == s) (nd T h).kids
  have h2 := fine_short (mayB_fine hm) hh
  unfold asgN; omega
theorem asgI_le {T : List Nd} (s : Int) : (asgI T s).length ≤ 64 := by
  unfold asgI
  split
  · rename_i h
    simp only [Bool.and_eq_true] at h
    obtain ⟨⟨hk, h3⟩, _⟩ := h
    obtain ⟨hm, n, rfl, hn⟩ := known_one hk
    rw [Int.toNat_natCast] at h3 ⊢
    have htl := top_lt hm hn
    obtain ⟨h, hhl, hho, _, _⟩ := fine_host (mayB_fine hm) htl (by simpa using h3)
    rw [hho, Int.toNat_natCast]
    exact asgN_le hm hhl _
  · simp
theorem ofI_known {T : List Nd} (hm : mayB T = true) {n : Nat} (hn : n < T.length) : ofI T (n : Int) = ofN T n := by
  unfold ofI; rw [known_of hm hn, if_pos rfl, Int.toNat_natCast]

set_option maxRecDepth 100000 in
set_option maxHeartbeats 4000000 in
theorem s5tell_yes (T : List Nd) (ta : Option Addr) (tc : Nat) (n : Nat) (w : World) (hT : TreeAt w (.slice ta T.length tc) T) (hs : fewB T = true) (hab : bothB T (n : Int) (n : Int) = true) :
    Calls Try.prog 13 #[.slice ta T.length tc, .int .i64 (n : Int)] w fun e w' => e = .returned (.bool true) ∧ Below w.heap.size w w' := by
  have HT0 := hideG hT
  have HB0 := hideG (Below.refl w.heap.size w)
  have HS := hideG (small_sane (few_small hs))
  obtain ⟨hm, ⟨n', en, hn⟩, _⟩ := both_true hab
  obtain rfl : n = n' := by omega
  have hpos := mayB_pos hm
  have h6 : T.length ≤ 1000 := by omega
  have hl1 : (asgI T (n : Int)).length ≤ 1000 := by have := asgI_le (T := T) (n : Int); omega
  have hl2 : (castL (slotsN T n)).length ≤ 1000 := by rw [castL_length]; have := slotsN_le hm hn; omega
  have E1 := hideG (ofI_known hm hn)
  have HM := hideG hm
  cases hk : ((nd T n).kind == 3)
  · have E3 := hideG (show allI T (n : Int) = [] by unfold allI; rw [Int.toNat_natCast, hk, Bool.and_false]; rfl)
    have hk3 := hk
    clear hT hm en hk
    go_enter Try.func13, Try.ntmps13
    go_wp2_with fail
    refine (refFew_any T _ _ HT0.out).mono ?_
    rintro e wz ⟨rfl, hwz⟩
    subst hwz
    go_wp2_with fail
    refine (refBoth_any T HS.out _ _ _ _ HT0.out).mono ?_
    rintro e w1 ⟨rfl, hb1⟩
    have HT1 := hideG (HT0.out.below hb1)
    have HB1 := hideG (HB0.out.trans (hb1.mono HB0.out.size))
    clear hb1 HT0 HB0
    go_wp2_with fail
    refine (slotOf_any T HS.out _ _ _ HT1.out).mono ?_
    rintro e w2 ⟨rfl, hb2⟩
    rw [E1.out]
    have HT2 := hideG (HT1.out.below hb2)
    have HB2 := hideG (HB1.out.trans (hb2.mono HB1.out.size))
    clear hb2 HT1 HB1
    go_wp2_with fail
    refine (refOf5_any T HM.out HS.out _ n hn _ HT2.out).mono ?_
    rintro e w3 ⟨rfl, hb3⟩
    have HT3 := hideG (HT2.out.below hb3)
    have HB3 := hideG (HB2.out.trans (hb3.mono HB2.out.size))
    clear hb3 HT2 HB2
    go_wp2_with fail
    refine (assigned_any T HS.out _ _ _ HT3.out).mono ?_
    rintro e w4 ⟨a4, c4, rfl, ho4, hb4⟩
    have HA := hideG (ownsRow_ints ho4)
    clear ho4
    have HT4 := hideG (HT3.out.below hb4)
    have HB4 := hideG (HB3.out.trans (hb4.mono HB3.out.size))
    clear hb4 HT3 HB3
    go_wp2_with fail
    refine (refAsg5_any T HM.out HS.out _ n hn _ HT4.out).mono ?_
    rintro e w5 ⟨a5, c5, rfl, ho5, hb5⟩
    generalize asgI T (n : Int) = la at *
    have HA2 := hideG (ownsRow_ints ho5)
    clear ho5
    have HT5 := hideG (HT4.out.below hb5)
    have HB5 := hideG (HB4.out.trans (hb5.mono HB4.out.size))
    have HAn := hideG (HA.out.below hb5)
    clear hb5 HT4 HB4 HA
    have HA := HAn
    clear HAn
    go_wp2_with fail
    refine (lints la la true hl1 (by simp) _ _ _ HA.out HA2.out).mono ?_
    rintro e w6 ⟨rfl, hb6⟩
    have HT6 := hideG (HT5.out.below hb6)
    have HB6 := hideG (HB5.out.trans (hb6.mono HB5.out.size))
    have HAn := hideG (HA.out.below hb6)
    have HA2n := hideG (HA2.out.below hb6)
    clear hb6 HT5 HB5 HA HA2
    have HA := HAn
    clear HAn
    have HA2 := HA2n
    clear HA2n
    go_wp2_with fail
    refine (slotsAll_any T HS.out _ _ _ HT6.out).mono ?_
    rintro e w7 ⟨a7, c7, rfl, ho7, hb7⟩
    rw [E3.out] at ho7 ⊢
    have HS1 := hideG (ownsRow_ints ho7)
    clear ho7
    have HT7 := hideG (HT6.out.below hb7)
    have HB7 := hideG (HB6.out.trans (hb7.mono HB6.out.size))
    have HAn := hideG (HA.out.below hb7)
    have HA2n := hideG (HA2.out.below hb7)
    clear hb7 HT6 HB6 HA HA2
    have HA := HAn
    clear HAn
    have HA2 := HA2n
    clear HA2n
    go_wp2_with fail
    refine (refAll5_no T _ n hn hk3 h6 _ HT7.out).mono ?_
    rintro e wz ⟨rfl, hwz⟩
    subst hwz
    go_wp2_with fail
    refine (lints [] [] true (by decide) (by decide) _ _ _ HS1.out (ints_none _)).mono ?_
    rintro e w8 ⟨rfl, hb8⟩
    have HT8 := hideG (HT7.out.below hb8)
    have HB8 := hideG (HB7.out.trans (hb8.mono HB7.out.size))
    have HAn := hideG (HA.out.below hb8)
    have HA2n := hideG (HA2.out.below hb8)
    have HS1n := hideG (HS1.out.below hb8)
    clear hb8 HT7 HB7 HA HA2 HS1
    have HA := HAn
    clear HAn
    have HA2 := HA2n
    clear HA2n
    have HS1 := HS1n
    clear HS1n
    go_wp2_with fail
    refine (live5_any _).mono ?_
    rintro e w9 ⟨rfl, hb9⟩
    have HT9 := hideG (HT8.out.below hb9)
    have HB9 := hideG (HB8.out.trans (hb9.mono HB8.out.size))
    have HAn := hideG (HA.out.below hb9)
    have HA2n := hideG (HA2.out.below hb9)
    have HS1n := hideG (HS1.out.below hb9)
    clear hb9 HT8 HB8 HA HA2 HS1
    have HA := HAn
    clear HAn
    have HA2 := HA2n
    clear HA2n
    have HS1 := HS1n
    clear HS1n
    go_wp2_with fail
    go_ret
    exact ⟨rfl, HB9.out⟩
  · have hk3 : (nd T n).kind = 3 := by simpa using hk
    have E3 := hideG (show allI T (n : Int) = castL (slotsN T n) by unfold allI; rw [known_of hm hn, Int.toNat_natCast, hk]; rfl)
    clear hT hm en hk
    go_enter Try.func13, Try.ntmps13
    go_wp2_with fail
    refine (refFew_any T _ _ HT0.out).mono ?_
    rintro e wz ⟨rfl, hwz⟩
    subst hwz
    go_wp2_with fail
    refine (refBoth_any T HS.out _ _ _ _ HT0.out).mono ?_
    rintro e w1 ⟨rfl, hb1⟩
    have HT1 := hideG (HT0.out.below hb1)
    have HB1 := hideG (HB0.out.trans (hb1.mono HB0.out.size))
    clear hb1 HT0 HB0
    go_wp2_with fail
    refine (slotOf_any T HS.out _ _ _ HT1.out).mono ?_
    rintro e w2 ⟨rfl, hb2⟩
    rw [E1.out]
    have HT2 := hideG (HT1.out.below hb2)
    have HB2 := hideG (HB1.out.trans (hb2.mono HB1.out.size))
    clear hb2 HT1 HB1
    go_wp2_with fail
    refine (refOf5_any T HM.out HS.out _ n hn _ HT2.out).mono ?_
    rintro e w3 ⟨rfl, hb3⟩
    have HT3 := hideG (HT2.out.below hb3)
    have HB3 := hideG (HB2.out.trans (hb3.mono HB2.out.size))
    clear hb3 HT2 HB2
    go_wp2_with fail
    refine (assigned_any T HS.out _ _ _ HT3.out).mono ?_
    rintro e w4 ⟨a4, c4, rfl, ho4, hb4⟩
    have HA := hideG (ownsRow_ints ho4)
    clear ho4
    have HT4 := hideG (HT3.out.below hb4)
    have HB4 := hideG (HB3.out.trans (hb4.mono HB3.out.size))
    clear hb4 HT3 HB3
    go_wp2_with fail
    refine (refAsg5_any T HM.out HS.out _ n hn _ HT4.out).mono ?_
    rintro e w5 ⟨a5, c5, rfl, ho5, hb5⟩
    generalize asgI T (n : Int) = la at *
    have HA2 := hideG (ownsRow_ints ho5)
    clear ho5
    have HT5 := hideG (HT4.out.below hb5)
    have HB5 := hideG (HB4.out.trans (hb5.mono HB4.out.size))
    have HAn := hideG (HA.out.below hb5)
    clear hb5 HT4 HB4 HA
    have HA := HAn
    clear HAn
    go_wp2_with fail
    refine (lints la la true hl1 (by simp) _ _ _ HA.out HA2.out).mono ?_
    rintro e w6 ⟨rfl, hb6⟩
    have HT6 := hideG (HT5.out.below hb6)
    have HB6 := hideG (HB5.out.trans (hb6.mono HB5.out.size))
    have HAn := hideG (HA.out.below hb6)
    have HA2n := hideG (HA2.out.below hb6)
    clear hb6 HT5 HB5 HA HA2
    have HA := HAn
    clear HAn
    have HA2 := HA2n
    clear HA2n
    go_wp2_with fail
    refine (slotsAll_any T HS.out _ _ _ HT6.out).mono ?_
    rintro e w7 ⟨a7, c7, rfl, ho7, hb7⟩
    rw [E3.out] at ho7 ⊢
    have HS1 := hideG (ownsRow_ints ho7)
    clear ho7
    have HT7 := hideG (HT6.out.below hb7)
    have HB7 := hideG (HB6.out.trans (hb7.mono HB6.out.size))
    have HAn := hideG (HA.out.below hb7)
    have HA2n := hideG (HA2.out.below hb7)
    clear hb7 HT6 HB6 HA HA2
    have HA := HAn
    clear HAn
    have HA2 := HA2n
    clear HA2n
    go_wp2_with fail
    refine (refAll5_any T HM.out _ n hn hk3 _ HT7.out).mono ?_
    rintro e w8 ⟨a8, c8, rfl, ho8, hb8⟩
    generalize castL (slotsN T n) = lb at *
    have HS2 := hideG (ownsRow_ints ho8)
    clear ho8
    have HT8 := hideG (HT7.out.below hb8)
    have HB8 := hideG (HB7.out.trans (hb8.mono HB7.out.size))
    have HAn := hideG (HA.out.below hb8)
    have HA2n := hideG (HA2.out.below hb8)
    have HS1n := hideG (HS1.out.below hb8)
    clear hb8 HT7 HB7 HA HA2 HS1
    have HA := HAn
    clear HAn
    have HA2 := HA2n
    clear HA2n
    have HS1 := HS1n
    clear HS1n
    go_wp2_with fail
    refine (lints lb lb true hl2 (by simp) _ _ _ HS1.out HS2.out).mono ?_
    rintro e w9 ⟨rfl, hb9⟩
    have HT9 := hideG (HT8.out.below hb9)
    have HB9 := hideG (HB8.out.trans (hb9.mono HB8.out.size))
    have HAn := hideG (HA.out.below hb9)
    have HA2n := hideG (HA2.out.below hb9)
    have HS1n := hideG (HS1.out.below hb9)
    have HS2n := hideG (HS2.out.below hb9)
    clear hb9 HT8 HB8 HA HA2 HS1 HS2
    have HA := HAn
    clear HAn
    have HA2 := HA2n
    clear HA2n
    have HS1 := HS1n
    clear HS1n
    have HS2 := HS2n
    clear HS2n
    go_wp2_with fail
    refine (live5_any _).mono ?_
    rintro e w10 ⟨rfl, hb10⟩
    have HT10 := hideG (HT9.out.below hb10)
    have HB10 := hideG (HB9.out.trans (hb10.mono HB9.out.size))
    have HAn := hideG (HA.out.below hb10)
    have HA2n := hideG (HA2.out.below hb10)
    have HS1n := hideG (HS1.out.below hb10)
    have HS2n := hideG (HS2.out.below hb10)
    clear hb10 HT9 HB9 HA HA2 HS1 HS2
    have HA := HAn
    clear HAn
    have HA2 := HA2n
    clear HA2n
    have HS1 := HS1n
    clear HS1n
    have HS2 := HS2n
    clear HS2n
    go_wp2_with fail
    go_ret
    exact ⟨rfl, HB10.out⟩

set_option maxRecDepth 100000 in
set_option maxHeartbeats 4000000 in
theorem s5tell_walk (T : List Nd) (v : Value) (n : Int) (w : World) (hT : TreeAt w v T) :
    Calls Try.prog 13 #[v, .int .i64 n] w fun e w' => e = .returned (.bool true) ∧ Below w.heap.size w w' := by
  obtain ⟨ta, tc, rfl⟩ := hT.shape
  cases hs : fewB T
  · have HT := hideG hT
    clear hT
    go_enter Try.func13, Try.ntmps13
    go_wp2_with (first | (go_at_call 42; refine (refFew_any T _ _ HT.out).mono ?_; rintro e w1 ⟨rfl, rfl⟩) | (go_at_call 56; refine (live5_any _).mono ?_; rintro e w2 ⟨rfl, hb2⟩))
    go_ret
    exact ⟨rfl, hb2⟩
  · cases hab : bothB T n n
    · have HT0 := hideG hT
      have HB0 := hideG (Below.refl w.heap.size w)
      have HS := hideG (small_sane (few_small hs))
      have E1 := hideG (show ofI T n = -1 by simp [ofI, known_single, hab])
      have E2 := hideG (show asgI T n = [] by simp [asgI, known_single, hab])
      have E3 := hideG (show allI T n = [] by simp [allI, known_single, hab])
      clear hT
      go_enter Try.func13, Try.ntmps13
      go_wp2_with fail
      refine (refFew_any T _ _ HT0.out).mono ?_
      rintro e wz ⟨rfl, hwz⟩
      subst hwz
      go_wp2_with fail
      refine (refBoth_any T HS.out _ _ _ _ HT0.out).mono ?_
      rintro e w1 ⟨rfl, hb1⟩
      have HT1 := hideG (HT0.out.below hb1)
      have HB1 := hideG (HB0.out.trans (hb1.mono HB0.out.size))
      clear hb1 HT0 HB0
      go_wp2_with fail
      refine (slotOf_any T HS.out _ _ _ HT1.out).mono ?_
      rintro e w2 ⟨rfl, hb2⟩
      rw [E1.out]
      have HT2 := hideG (HT1.out.below hb2)
      have HB2 := hideG (HB1.out.trans (hb2.mono HB1.out.size))
      clear hb2 HT1 HB1
      go_wp2_with fail
      refine (assigned_any T HS.out _ _ _ HT2.out).mono ?_
      rintro e w3 ⟨a3, c3, rfl, ho3, hb3⟩
      rw [E2.out] at ho3 ⊢
      have HL1 := hideG (ownsRow_ints ho3)
      clear ho3
      have HT3 := hideG (HT2.out.below hb3)
      have HB3 := hideG (HB2.out.trans (hb3.mono HB2.out.size))
      clear hb3 HT2 HB2
      go_wp2_with fail
      refine (slotsAll_any T HS.out _ _ _ HT3.out).mono ?_
      rintro e w4 ⟨a4, c4, rfl, ho4, hb4⟩
      rw [E3.out] at ho4 ⊢
      have HL2 := hideG (ownsRow_ints ho4)
      clear ho4
      have HT4 := hideG (HT3.out.below hb4)
      have HB4 := hideG (HB3.out.trans (hb4.mono HB3.out.size))
      have HL1n := hideG (HL1.out.below hb4)
      clear hb4 HT3 HB3 HL1
      have HL1 := HL1n
      clear HL1n
      go_wp2_with fail
      refine (live5_any _).mono ?_
      rintro e w5 ⟨rfl, hb5⟩
      have HT5 := hideG (HT4.out.below hb5)
      have HB5 := hideG (HB4.out.trans (hb5.mono HB4.out.size))
      have HL1n := hideG (HL1.out.below hb5)
      have HL2n := hideG (HL2.out.below hb5)
      clear hb5 HT4 HB4 HL1 HL2
      have HL1 := HL1n
      clear HL1n
      have HL2 := HL2n
      clear HL2n
      go_wp2_with fail
      go_ret
      exact ⟨rfl, HB5.out⟩
    · obtain ⟨_, ⟨x, rfl, _⟩, _⟩ := both_true hab
      exact s5tell_yes T ta tc x w hT hs hab
end Go.Proofs.Ytnbnijhdmnoelaa
