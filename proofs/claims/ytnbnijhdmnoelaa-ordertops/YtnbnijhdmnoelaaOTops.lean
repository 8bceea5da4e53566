/- OrderTops, walked. -/
import Derived.Test.YtnbnijhdmnoelaaOList
namespace Go.Proofs.Ytnbnijhdmnoelaa
open Go.RowKit

def fewB (T : List Nd) : Bool := smallB T && decide (T.length ≤ 30)
set_option maxHeartbeats 800000 in
theorem refFew_any (T : List Nd) (v : Value) (w : World) (hT : TreeAt w v T) :
    Calls Try.prog 42 #[v] w fun e w' => e = .returned (.bool (fewB T)) ∧ w' = w := by
  obtain ⟨ta, tc, rfl⟩ := hT.shape
  have HT := hideG hT
  clear hT
  cases hs : smallB T
  · have HQ := hideG (show fewB T = false by simp [fewB, hs])
    go_enter Try.func42, Try.ntmps42
    go_wp2_with (go_at_call 25; refine (refSmall_any T _ _ HT.out).mono ?_; rintro e w1 ⟨rfl, hw⟩; subst hw)
    go_ret
    exact ⟨ret_bool HQ.out.symm, rfl⟩
  · by_cases h30 : T.length ≤ 30
    · have HQ := hideG (show fewB T = true by simp [fewB, hs, h30])
      have h30' : (T.length : Int) ≤ 30 := by omega
      go_enter Try.func42, Try.ntmps42
      go_wp2_with (go_at_call 25; refine (refSmall_any T _ _ HT.out).mono ?_; rintro e w1 ⟨rfl, hw⟩; subst hw)
      go_ret
      exact ⟨ret_bool HQ.out.symm, rfl⟩
    · have HQ := hideG (show fewB T = false by simp [fewB, h30])
      have h30' : ¬ (T.length : Int) ≤ 30 := by omega
      go_enter Try.func42, Try.ntmps42
      go_wp2_with (go_at_call 25; refine (refSmall_any T _ _ HT.out).mono ?_; rintro e w1 ⟨rfl, hw⟩; subst hw)
      go_ret
      exact ⟨ret_bool (by rw [HQ.out]; exact decide_eq_false (by omega)), rfl⟩
theorem few_small {T : List Nd} (h : fewB T = true) : smallB T = true := by
  simp only [fewB, Bool.and_eq_true] at h; exact h.1

set_option maxRecDepth 100000 in
set_option maxHeartbeats 8000000 in
theorem otops_yes (T : List Nd) (tb to tc : Nat) (n : Nat) (w : World) (hT : TreeAt w (.slice (some ⟨tb, to, none⟩) T.length tc) T) (hs : fewB T = true) (hab : bothB T (n : Int) (n : Int) = true) :
    Calls Try.prog 7 #[.slice (some ⟨tb, to, none⟩) T.length tc, .int .i64 (n : Int)] w fun e w' => e = .returned (.bool true) ∧ Below w.heap.size w w' := by
  obtain ⟨hm, ⟨n', en, hn⟩, _⟩ := both_true hab
  obtain rfl : n = n' := by omega
  have hpos := mayB_pos hm
  have F := forest3 hm
  have htl := top_lt hm hn
  have HT0 := hideG hT
  have HS := hideG (small_sane (few_small hs))
  have HM := hideG hm
  have E1 := hideG (dnI_known hm htl)
  have E2 := hideG (topI_known hm hn)
  have hdl := F.d_len htl
  have HLL := hideG (show (castL (dn T (topN T n))).length ≤ 1000000 by rw [castL_length]; omega)
  have HCA := hideG (show ∀ k : Nat, k < T.length →
      (topN T k = topN T n ∧ containsB (castL (dn T (topN T n))) (k : Int) = true ∧ indexI (castL (dn T (topN T n))) (k : Int) = (posT T k : Int) ∧ befN T n k = decide (posT T n < posT T k)) ∨
      (topN T k ≠ topN T n ∧ containsB (castL (dn T (topN T n))) (k : Int) = false ∧ indexI (castL (dn T (topN T n))) (k : Int) = -1 ∧ befN T n k = false) from fun k hk => by
    by_cases ht : topN T k = topN T n
    · left
      have hmem := (mem_top hm hn hk).mpr ht
      refine ⟨ht, by rw [contains_castL]; exact decide_eq_true hmem, ?_, ?_⟩
      · rw [index_castL hmem]; unfold posT; rw [ht]
      · unfold befN; rw [decide_eq_true ht.symm, Bool.true_and]
    · right
      have hmem : k ∉ dn T (topN T n) := fun h => ht ((mem_top hm hn hk).mp h)
      refine ⟨ht, by rw [contains_castL]; exact decide_eq_false hmem, index_castL_not hmem, ?_⟩
      unfold befN; rw [decide_eq_false (fun e => ht e.symm)]; rfl)
  have I2 := hideG (show indexI (castL (dn T (topN T n))) (n : Int) = (posT T n : Int) from index_castL ((mem_top hm hn hn).mpr rfl))
  have HTOP := hideG (show ∀ k : Nat, k < T.length → topI T (k : Int) = (topN T k : Int) from fun k hk => topI_known hm hk)
  have HBEF := hideG (show ∀ k : Nat, k < T.length → beforeI T (n : Int) (k : Int) = befN T n k from fun k hk => beforeI_known hm hn hk)
  clear hT hm en F
  go_enter Try.func7, Try.ntmps7
  go_wp2_with fail
  refine (refFew_any T _ _ HT0.out).mono ?_
  rintro e wz ⟨rfl, hwz⟩
  subst hwz
  go_wp2_with fail
  refine (refBoth_any T HS.out _ _ _ _ HT0.out).mono ?_
  rintro e w1 ⟨rfl, hb1⟩
  have HT1 := hideG (HT0.out.below hb1)
  have HB1 := hideG hb1
  clear hb1
  go_wp2_with fail
  refine (orderTop_any T HS.out _ _ _ HT1.out).mono ?_
  rintro e w1t ⟨rfl, hb1t⟩
  rw [E2.out]
  have HT1t := hideG (HT1.out.below hb1t)
  have HB1t := hideG (HB1.out.trans (hb1t.mono HB1.out.size))
  clear hb1t
  go_wp2_with fail
  refine (listO_any T HS.out _ _ _ HT1t.out).mono ?_
  rintro e w2 ⟨a2, c2, rfl, ho2, hb2⟩
  rw [E1.out] at ho2 ⊢
  have HL := hideG (ownsRow_ints ho2)
  have HB2 := hideG (HB1t.out.trans (hb2.mono HB1t.out.size))
  have HT2 := hideG (HT1t.out.below hb2)
  clear ho2 hb2
  generalize hll : (castL (dn T (topN T n))).length = LL at *
  go_wp2_with fail
  go_loopw [6] (fun i wr => ∃ k : Nat, k ≤ T.length ∧ i = .int .i64 k ∧ Below w2.heap.size w2 wr) (fun i _ => T.length - (intOf i).toNat)
  case atStart => exact ⟨0, Nat.zero_le _, rfl, Below.refl _ _⟩
  case round =>
    obtain ⟨k, hk, rfl, hB⟩ := hrel
    have HBk := hideG hB
    clear hB
    rw [← hll] at HLL
    by_cases hlt : k < T.length
    · have HTK := hideG (HTOP.out k hlt)
      have hp0 : (0 : Int) ≤ (posT T n : Int) := by omega
      rcases HCA.out k hlt with ⟨ht, h1, h2, h3⟩ | ⟨ht, h1, h2, h3⟩
      · have HI := hideG h1
        have I1 := hideG h2
        have htq : ((topN T k : Int) == (topN T n : Int)) = true := by simp [ht]
        have hbf := HBEF.out k hlt
        rw [h3] at hbf
        by_cases hlt2 : posT T n < posT T k
        · rw [decide_eq_true hlt2] at hbf
          have HBE := hideG hbf
          have hlt3 : (posT T n : Int) < (posT T k : Int) := by omega
          generalize posT T k = pk at *
          generalize posT T n = pn at *
          generalize topN T k = tk at *
          clear h1 h2 h3 ht hbf hlt2
          go_wp2_with fail
          refine (refIn_any (castL (dn T (topN T n))) _ _ _ (HL.out.below HBk.out) HLL.out).mono ?_
          rintro e w6 ⟨rfl, hw6⟩
          subst hw6
          rw [HI.out]
          go_wp2_with fail
          refine (orderTop_any T HS.out _ _ _ (HT2.out.below HBk.out)).mono ?_
          rintro e w3 ⟨rfl, hb3⟩
          rw [HTK.out]
          have HB3 := hideG (HBk.out.trans (hb3.mono HBk.out.size))
          clear hb3
          go_wp2_with fail
          refine (orderTop_any T HS.out _ _ _ (HT2.out.below HB3.out)).mono ?_
          rintro e w4 ⟨rfl, hb4⟩
          rw [E2.out]
          have HB4 := hideG (HB3.out.trans (hb4.mono HB3.out.size))
          clear hb4
          go_wp2_with fail
          refine (orderBefore_any T HS.out _ _ _ _ (HT2.out.below HB4.out)).mono ?_
          rintro e w5 ⟨rfl, hb5⟩
          rw [HBE.out]
          have HB5 := hideG (HB4.out.trans (hb5.mono HB4.out.size))
          clear hb5
          go_wp2_with fail
          refine (refPlace_any (castL (dn T (topN T n))) _ _ _ (HL.out.below HB5.out) HLL.out).mono ?_
          rintro e w6 ⟨rfl, hw6⟩
          subst hw6
          rw [I1.out]
          go_wp2_with fail
          refine (refPlace_any (castL (dn T (topN T n))) _ _ _ (HL.out.below HB5.out) HLL.out).mono ?_
          rintro e w6 ⟨rfl, hw6⟩
          subst hw6
          rw [I2.out]
          go_wp2_with fail
          go_roundw
          case rel => exact ⟨k + 1, by omega, by go_num, HB5.out⟩
          case measure => simp [intOf]; omega
        · rw [decide_eq_false hlt2] at hbf
          have HBE := hideG hbf
          have hlt3 : ¬ (posT T n : Int) < (posT T k : Int) := by omega
          generalize posT T k = pk at *
          generalize posT T n = pn at *
          generalize topN T k = tk at *
          clear h1 h2 h3 ht hbf hlt2
          go_wp2_with fail
          refine (refIn_any (castL (dn T (topN T n))) _ _ _ (HL.out.below HBk.out) HLL.out).mono ?_
          rintro e w6 ⟨rfl, hw6⟩
          subst hw6
          rw [HI.out]
          go_wp2_with fail
          refine (orderTop_any T HS.out _ _ _ (HT2.out.below HBk.out)).mono ?_
          rintro e w3 ⟨rfl, hb3⟩
          rw [HTK.out]
          have HB3 := hideG (HBk.out.trans (hb3.mono HBk.out.size))
          clear hb3
          go_wp2_with fail
          refine (orderTop_any T HS.out _ _ _ (HT2.out.below HB3.out)).mono ?_
          rintro e w4 ⟨rfl, hb4⟩
          rw [E2.out]
          have HB4 := hideG (HB3.out.trans (hb4.mono HB3.out.size))
          clear hb4
          go_wp2_with fail
          refine (orderBefore_any T HS.out _ _ _ _ (HT2.out.below HB4.out)).mono ?_
          rintro e w5 ⟨rfl, hb5⟩
          rw [HBE.out]
          have HB5 := hideG (HB4.out.trans (hb5.mono HB4.out.size))
          clear hb5
          go_wp2_with fail
          refine (refPlace_any (castL (dn T (topN T n))) _ _ _ (HL.out.below HB5.out) HLL.out).mono ?_
          rintro e w6 ⟨rfl, hw6⟩
          subst hw6
          rw [I1.out]
          go_wp2_with fail
          refine (refPlace_any (castL (dn T (topN T n))) _ _ _ (HL.out.below HB5.out) HLL.out).mono ?_
          rintro e w6 ⟨rfl, hw6⟩
          subst hw6
          rw [I2.out]
          go_wp2_with fail
          go_roundw
          case rel => exact ⟨k + 1, by omega, by go_num, HB5.out⟩
          case measure => simp [intOf]; omega
      · have HI := hideG h1
        have I1 := hideG h2
        have htq : ((topN T k : Int) == (topN T n : Int)) = false := by simp; omega
        have HBE := hideG ((HBEF.out k hlt).trans h3)
        have hlt3 : ¬ (posT T n : Int) < -1 := by omega
        generalize posT T n = pn at *
        generalize topN T k = tk at *
        clear h1 h2 h3 ht
        go_wp2_with fail
        refine (refIn_any (castL (dn T (topN T n))) _ _ _ (HL.out.below HBk.out) HLL.out).mono ?_
        rintro e w6 ⟨rfl, hw6⟩
        subst hw6
        rw [HI.out]
        go_wp2_with fail
        refine (orderTop_any T HS.out _ _ _ (HT2.out.below HBk.out)).mono ?_
        rintro e w3 ⟨rfl, hb3⟩
        rw [HTK.out]
        have HB3 := hideG (HBk.out.trans (hb3.mono HBk.out.size))
        clear hb3
        go_wp2_with fail
        refine (orderTop_any T HS.out _ _ _ (HT2.out.below HB3.out)).mono ?_
        rintro e w4 ⟨rfl, hb4⟩
        rw [E2.out]
        have HB4 := hideG (HB3.out.trans (hb4.mono HB3.out.size))
        clear hb4
        go_wp2_with fail
        refine (orderBefore_any T HS.out _ _ _ _ (HT2.out.below HB4.out)).mono ?_
        rintro e w5 ⟨rfl, hb5⟩
        rw [HBE.out]
        have HB5 := hideG (HB4.out.trans (hb5.mono HB4.out.size))
        clear hb5
        go_wp2_with fail
        refine (refPlace_any (castL (dn T (topN T n))) _ _ _ (HL.out.below HB5.out) HLL.out).mono ?_
        rintro e w6 ⟨rfl, hw6⟩
        subst hw6
        rw [I1.out]
        go_wp2_with fail
        refine (refPlace_any (castL (dn T (topN T n))) _ _ _ (HL.out.below HB5.out) HLL.out).mono ?_
        rintro e w6 ⟨rfl, hw6⟩
        subst hw6
        rw [I2.out]
        go_wp2_with fail
        go_roundw
        case rel => exact ⟨k + 1, by omega, by go_num, HB5.out⟩
        case measure => simp [intOf]; omega
    · have HB3 := hideG (HB2.out.trans (HBk.out.mono HB2.out.size))
      clear hll
      go_wp2_with fail
      refine (live3_any _).mono ?_
      rintro e w7 ⟨rfl, hb7⟩
      have HB7 := hideG (HB3.out.trans (hb7.mono HB3.out.size))
      clear hb7
      go_wp2_with fail
      go_ret
      exact ⟨rfl, HB7.out⟩

set_option maxRecDepth 100000 in
set_option maxHeartbeats 4000000 in
theorem otops_walk (T : List Nd) (v : Value) (n : Int) (w : World) (hT : TreeAt w v T) :
    Calls Try.prog 7 #[v, .int .i64 n] w fun e w' => e = .returned (.bool true) ∧ Below w.heap.size w w' := by
  cases hs : fewB T
  · obtain ⟨ta, tc, rfl⟩ := hT.shape
    have HT := hideG hT
    clear hT
    go_enter Try.func7, Try.ntmps7
    go_wp2_with (first | (go_at_call 42; refine (refFew_any T _ _ HT.out).mono ?_; rintro e w1 ⟨rfl, rfl⟩) | (go_at_call 26; refine (live3_any _).mono ?_; rintro e w2 ⟨rfl, hb2⟩))
    go_ret
    exact ⟨rfl, hb2⟩
  · cases hab : bothB T n n
    · obtain ⟨ta, tc, rfl⟩ := hT.shape
      have HT := hideG hT
      have HS := hideG (small_sane (few_small hs))
      clear hT
      go_enter Try.func7, Try.ntmps7
      go_wp2_with (first | (go_at_call 42; refine (refFew_any T _ _ HT.out).mono ?_; rintro e w1 ⟨rfl, hw⟩; subst hw) | (go_at_call 27; refine (refBoth_any T HS.out _ _ _ _ HT.out).mono ?_; rintro e w1 ⟨rfl, hb1⟩; have HB1 := hideG hb1; clear hb1) | (go_at_call 26; refine (live3_any _).mono ?_; rintro e w2 ⟨rfl, hb2⟩; have HB2 := hideG (HB1.out.trans (hb2.mono HB1.out.size)); clear hb2))
      go_ret
      exact ⟨rfl, HB2.out⟩
    · obtain ⟨_, ⟨x, rfl, hx⟩, _⟩ := both_true hab
      obtain ⟨tb, to, tc, rfl, _⟩ := hT.at (by omega)
      exact otops_yes T tb to tc x w hT hs hab

end Go.Proofs.Ytnbnijhdmnoelaa
