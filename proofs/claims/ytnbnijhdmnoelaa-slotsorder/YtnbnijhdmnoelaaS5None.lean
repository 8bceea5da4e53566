/- SlotsNone, walked. -/
import Derived.Test.YtnbnijhdmnoelaaS5Once
namespace Go.Proofs.Ytnbnijhdmnoelaa
open Go.RowKit

theorem place_none {T : List Nd} {r : Nat} {k : Int} (h : slotsN T r = []) : placeI T r k = -1 := by
  cases hman : manB T (r : Int)
  · rw [place_nam hman]
    unfold byNameI
    have : indexI (namesI T r) (nameI T k) < 0 := by
      have h0 : namesI T r = [] := by unfold namesI; rw [h]; rfl
      rw [h0]; simp [indexI]
    rw [if_pos this]
  · rw [place_man hman, h]
    simp [byNumI, castL, containsB]
theorem kid_none {T : List Nd} (hm : mayB T = true) {k : Nat} (hk : k < T.length) {r : Nat} (hr : (nd T k).root = (r : Int)) (h : slotsN T r = []) {x : Int} (hx : x ∈ (nd T k).kids) : ∃ m : Nat, x = m ∧ m < T.length ∧ ofI T x = -1 := by
  obtain ⟨r', hrr, hrl, hkind, hho⟩ := root_facts (mayB_fine hm) hk (by rw [hr]; simp)
  have : r' = r := by omega
  subst this
  obtain ⟨m, rfl, hml, hof⟩ := of_kid hm hrl hkind hho hk hx
  exact ⟨m, rfl, hml, by rw [ofI_known hm hml, hof, place_none h]⟩
theorem asg_none {T : List Nd} (hm : mayB T = true) {k : Nat} (hk : k < T.length) (h : ((nd T (topN T k)).kind == 3 && (nd T k).tag == 3) = false) : asgI T (k : Int) = [] := by
  unfold asgI
  rw [known_of hm hk, Int.toNat_natCast, Bool.true_and, h]; rfl
theorem all_root {T : List Nd} (hm : mayB T = true) {r : Nat} (hr : r < T.length) (hk : (nd T r).kind = 3) : allI T (r : Int) = castL (slotsN T r) := by
  unfold allI
  rw [known_of hm hr, Int.toNat_natCast, hk]; rfl

set_option maxRecDepth 100000 in
set_option maxHeartbeats 8000000 in
theorem s5none_yes (T : List Nd) (tb to tc : Nat) (w : World) (hT : TreeAt w (.slice (some ⟨tb, to, none⟩) T.length tc) T) (hs : fewB T = true) (h16 : ¬ (16 : Int) < (T.length : Int)) (hm : mayB T = true) :
    Calls Try.prog 18 #[.slice (some ⟨tb, to, none⟩) T.length tc] w fun e w' => e = .returned (.bool true) ∧ Below w.heap.size w w' := by
  have hpos := mayB_pos hm
  have HT0 := hideG hT
  have HS := hideG (small_sane (few_small hs))
  have HM := hideG hm
  have HASN := hideG (show ∀ k : Nat, k < T.length → ((nd T (topN T k)).kind == 3 && (nd T k).tag == 3) = false → asgI T (k : Int) = [] from fun k hk h => asg_none hm hk h)
  clear hT hm
  go_enter Try.func18, Try.ntmps18
  go_wp2_with fail
  refine (refFew_any T _ _ HT0.out).mono ?_
  rintro e wz ⟨rfl, hwz⟩
  subst hwz
  go_wp2_with fail
  refine (refMay_walk T HS.out _ _ HT0.out).mono ?_
  rintro e w1 ⟨rfl, hb1⟩
  have HT1 := hideG (HT0.out.below hb1)
  have HB1 := hideG hb1
  clear hb1
  rw [HM.out]
  go_wp2_with fail
  go_loopw [3] (fun i wr => ∃ k : Nat, k ≤ T.length ∧ i = .int .i64 k ∧ Below w1.heap.size w1 wr) (fun i _ => T.length - (intOf i).toNat)
  case atStart => exact ⟨0, Nat.zero_le _, rfl, Below.refl _ _⟩
  case round =>
    obtain ⟨k, hk, rfl, hB⟩ := hrel
    have HBk := hideG hB
    clear hB
    by_cases hlt : k < T.length
    · obtain ⟨tb', to', tc', htv, hct⟩ := HT1.out.at (by omega)
      simp only [Value.slice.injEq, Option.some.injEq, Addr.mk.injEq, and_true, true_and] at htv
      obtain ⟨⟨rfl, rfl⟩, rfl⟩ := htv
      have htl := top_lt HM.out hlt
      obtain ⟨kt, at_, hNt⟩ := hct _ htl
      obtain ⟨kk, ak, hNk⟩ := hct k hlt
      have G0 := hideG hNt.kind
      have G1 := hideG hNk.tag
      have G3 := hideG hNk.kidsc
      have G5 := hideG hNk.root
      obtain ⟨kka, kkc, hkv⟩ := hNk.kids.shape
      subst hkv
      have HKC : Hid (0 < (nd T k).kids.length → ∃ b off, kka = some ⟨b, off, none⟩ ∧ ∀ j, j < (nd T k).kids.length → w1.cell? ⟨b, off + j, none⟩ = some (.int .i64 ((nd T k).kids.getD j 0))) := by
        obtain ⟨a', cap', hv', hd'⟩ := hNk.kids
        simp only [Value.slice.injEq, true_and] at hv'
        obtain ⟨rfl, rfl⟩ := hv'
        exact hd'
      have h64 := fine_short (mayB_fine HM.out) hlt
      have ht0 : (0 : Int) ≤ (topN T k : Int) := by omega
      have hk0 : (0 : Int) ≤ (k : Int) := by omega
      clear hct hNt hNk
      cases hr1 : ((nd T k).root == -1)
      · obtain ⟨r, hrr, hrl, hkind, hho⟩ := root_facts (mayB_fine HM.out) hlt hr1
        rw [hrr] at G5 hr1
        have HALL := hideG (all_root HM.out hrl hkind)
        by_cases hse : slotsN T r = []
        · have HNO := hideG (show ∀ x ∈ (nd T k).kids, ∃ m : Nat, x = m ∧ m < T.length ∧ ofI T x = -1 from fun x hx => kid_none HM.out hlt hrr hse hx)
          rw [hse] at HALL
          replace HALL := hideG (show (allI T (r : Int)) = [] from HALL.out)
          clear hrr hkind hho hse
          cases hsh : ((nd T (topN T k)).kind == 3)
          · have HAN := hideG (HASN.out k hlt (by rw [hsh]; rfl))
            go_wp2_with fail
            refine (refTop3_any T HM.out _ k hlt _ (HT1.out.below HBk.out)).mono ?_
            rintro e w2 ⟨rfl, hb2⟩
            have HB2 := hideG (HBk.out.trans (hb2.mono HBk.out.size))
            have g0 := cell_below HB2.out G0.out
            have g1 := cell_below HB2.out G1.out
            have g5 := cell_below HB2.out G5.out
            have g3 := cell_below HB2.out G3.out
            clear hb2
            go_wp2_with fail
            refine (assigned_any T HS.out _ _ _ (HT1.out.below HB2.out)).mono ?_
            rintro e w3 ⟨a3, c3, rfl, _, hb3⟩
            rw [HAN.out]
            have HB3 := hideG (HB2.out.trans (hb3.mono HB2.out.size))
            clear g0 g1 g5 g3 hb3
            have g5 := cell_below HB3.out G5.out
            have g3 := cell_below HB3.out G3.out
            go_wp2_with fail
            refine (slotsAll_any T HS.out _ _ _ (HT1.out.below HB3.out)).mono ?_
            rintro e w4 ⟨a4, c4, rfl, _, hb4⟩
            rw [HALL.out]
            have HB4 := hideG (HB3.out.trans (hb4.mono HB3.out.size))
            clear g5 g3 hb4
            have g3 := cell_below HB4.out G3.out
            have g5 := cell_below HB4.out G5.out
            go_wp2_with fail
            go_loopw [5] (fun j wr => ∃ q : Nat, q ≤ (nd T k).kids.length ∧ j = .int .i64 q ∧ Below w4.heap.size w4 wr) (fun j _ => (nd T k).kids.length - (intOf j).toNat)
            case atStart => exact ⟨0, Nat.zero_le _, rfl, Below.refl _ _⟩
            case round =>
              obtain ⟨q, hq, rfl, hBq⟩ := hrel
              have HBq := hideG (HB4.out.trans (hBq.mono HB4.out.size))
              have g3 := cell_below HBq.out G3.out
              have HBR := hideG hBq
              clear hBq
              by_cases hltq : q < (nd T k).kids.length
              · obtain ⟨kb, koff, rfl, hdd⟩ := HKC.out (by omega)
                have c1 := cell_below HBq.out (hdd q hltq)
                have hxk : (nd T k).kids.getD q 0 ∈ (nd T k).kids := by
                  rw [List.getD_eq_getElem?_getD, List.getElem?_eq_getElem hltq]; exact List.getElem_mem hltq
                obtain ⟨m, hxm, hml, hof⟩ := HNO.out _ hxk
                rw [hxm] at c1 hof
                have HOF := hideG hof
                clear hdd hxk hxm hof
                go_wp2_with fail
                refine (slotOf_any T HS.out _ _ _ (HT1.out.below HBq.out)).mono ?_
                rintro e w5 ⟨rfl, hb5⟩
                rw [HOF.out]
                have HB5 := hideG (show Below w4.heap.size w4 w5 from HBR.out.trans (hb5.mono HBR.out.size))
                clear hb5
                go_wp2_with fail
                go_roundw
                case rel => exact ⟨q + 1, by omega, by go_num, HB5.out⟩
                case measure => simp [intOf]; omega
              · go_wp2_with fail
                go_roundw
                case rel => exact ⟨k + 1, by omega, by go_num, HBq.out⟩
                case measure => simp [intOf]; omega
          · cases htg : ((nd T k).tag == 3)
            · have HAN := hideG (HASN.out k hlt (by rw [hsh, htg]; rfl))
              have htn : ((nd T k).tag != 3) = true := by rw [bne, htg]; rfl
              go_wp2_with fail
              refine (refTop3_any T HM.out _ k hlt _ (HT1.out.below HBk.out)).mono ?_
              rintro e w2 ⟨rfl, hb2⟩
              have HB2 := hideG (HBk.out.trans (hb2.mono HBk.out.size))
              have g0 := cell_below HB2.out G0.out
              have g1 := cell_below HB2.out G1.out
              have g5 := cell_below HB2.out G5.out
              have g3 := cell_below HB2.out G3.out
              clear hb2
              go_wp2_with fail
              refine (assigned_any T HS.out _ _ _ (HT1.out.below HB2.out)).mono ?_
              rintro e w3 ⟨a3, c3, rfl, _, hb3⟩
              rw [HAN.out]
              have HB3 := hideG (HB2.out.trans (hb3.mono HB2.out.size))
              clear g0 g1 g5 g3 hb3
              have g5 := cell_below HB3.out G5.out
              have g3 := cell_below HB3.out G3.out
              go_wp2_with fail
              refine (slotsAll_any T HS.out _ _ _ (HT1.out.below HB3.out)).mono ?_
              rintro e w4 ⟨a4, c4, rfl, _, hb4⟩
              rw [HALL.out]
              have HB4 := hideG (HB3.out.trans (hb4.mono HB3.out.size))
              clear g5 g3 hb4
              have g3 := cell_below HB4.out G3.out
              have g5 := cell_below HB4.out G5.out
              go_wp2_with fail
              go_loopw [5] (fun j wr => ∃ q : Nat, q ≤ (nd T k).kids.length ∧ j = .int .i64 q ∧ Below w4.heap.size w4 wr) (fun j _ => (nd T k).kids.length - (intOf j).toNat)
              case atStart => exact ⟨0, Nat.zero_le _, rfl, Below.refl _ _⟩
              case round =>
                obtain ⟨q, hq, rfl, hBq⟩ := hrel
                have HBq := hideG (HB4.out.trans (hBq.mono HB4.out.size))
                have g3 := cell_below HBq.out G3.out
                have HBR := hideG hBq
                clear hBq
                by_cases hltq : q < (nd T k).kids.length
                · obtain ⟨kb, koff, rfl, hdd⟩ := HKC.out (by omega)
                  have c1 := cell_below HBq.out (hdd q hltq)
                  have hxk : (nd T k).kids.getD q 0 ∈ (nd T k).kids := by
                    rw [List.getD_eq_getElem?_getD, List.getElem?_eq_getElem hltq]; exact List.getElem_mem hltq
                  obtain ⟨m, hxm, hml, hof⟩ := HNO.out _ hxk
                  rw [hxm] at c1 hof
                  have HOF := hideG hof
                  clear hdd hxk hxm hof
                  go_wp2_with fail
                  refine (slotOf_any T HS.out _ _ _ (HT1.out.below HBq.out)).mono ?_
                  rintro e w5 ⟨rfl, hb5⟩
                  rw [HOF.out]
                  have HB5 := hideG (show Below w4.heap.size w4 w5 from HBR.out.trans (hb5.mono HBR.out.size))
                  clear hb5
                  go_wp2_with fail
                  go_roundw
                  case rel => exact ⟨q + 1, by omega, by go_num, HB5.out⟩
                  case measure => simp [intOf]; omega
                · go_wp2_with fail
                  go_roundw
                  case rel => exact ⟨k + 1, by omega, by go_num, HBq.out⟩
                  case measure => simp [intOf]; omega
            · have htn : ((nd T k).tag != 3) = false := by rw [bne, htg]; rfl
              go_wp2_with fail
              refine (refTop3_any T HM.out _ k hlt _ (HT1.out.below HBk.out)).mono ?_
              rintro e w2 ⟨rfl, hb2⟩
              have HB2 := hideG (HBk.out.trans (hb2.mono HBk.out.size))
              have g0 := cell_below HB2.out G0.out
              have g1 := cell_below HB2.out G1.out
              have g5 := cell_below HB2.out G5.out
              have g3 := cell_below HB2.out G3.out
              clear hb2
              go_wp2_with fail
              refine (slotsAll_any T HS.out _ _ _ (HT1.out.below HB2.out)).mono ?_
              rintro e w4 ⟨a4, c4, rfl, _, hb4⟩
              rw [HALL.out]
              have HB4 := hideG (HB2.out.trans (hb4.mono HB2.out.size))
              clear g0 g1 g5 g3 hb4
              have g3 := cell_below HB4.out G3.out
              have g5 := cell_below HB4.out G5.out
              go_wp2_with fail
              go_loopw [5] (fun j wr => ∃ q : Nat, q ≤ (nd T k).kids.length ∧ j = .int .i64 q ∧ Below w4.heap.size w4 wr) (fun j _ => (nd T k).kids.length - (intOf j).toNat)
              case atStart => exact ⟨0, Nat.zero_le _, rfl, Below.refl _ _⟩
              case round =>
                obtain ⟨q, hq, rfl, hBq⟩ := hrel
                have HBq := hideG (HB4.out.trans (hBq.mono HB4.out.size))
                have g3 := cell_below HBq.out G3.out
                have HBR := hideG hBq
                clear hBq
                by_cases hltq : q < (nd T k).kids.length
                · obtain ⟨kb, koff, rfl, hdd⟩ := HKC.out (by omega)
                  have c1 := cell_below HBq.out (hdd q hltq)
                  have hxk : (nd T k).kids.getD q 0 ∈ (nd T k).kids := by
                    rw [List.getD_eq_getElem?_getD, List.getElem?_eq_getElem hltq]; exact List.getElem_mem hltq
                  obtain ⟨m, hxm, hml, hof⟩ := HNO.out _ hxk
                  rw [hxm] at c1 hof
                  have HOF := hideG hof
                  clear hdd hxk hxm hof
                  go_wp2_with fail
                  refine (slotOf_any T HS.out _ _ _ (HT1.out.below HBq.out)).mono ?_
                  rintro e w5 ⟨rfl, hb5⟩
                  rw [HOF.out]
                  have HB5 := hideG (show Below w4.heap.size w4 w5 from HBR.out.trans (hb5.mono HBR.out.size))
                  clear hb5
                  go_wp2_with fail
                  go_roundw
                  case rel => exact ⟨q + 1, by omega, by go_num, HB5.out⟩
                  case measure => simp [intOf]; omega
                · go_wp2_with fail
                  go_roundw
                  case rel => exact ⟨k + 1, by omega, by go_num, HBq.out⟩
                  case measure => simp [intOf]; omega
        · have hln : 0 < (castL (slotsN T r)).length := by
            rw [castL_length]; exact List.length_pos_iff.mpr hse
          clear hrr hkind hho hse
          generalize castL (slotsN T r) = L at *
          generalize hLL : L.length = ll at *
          have hl1 : (0 : Int) < (ll : Int) := by omega
          replace HALL := hideG (show (allI T (r : Int)).length = ll from by rw [HALL.out, hLL])
          clear hLL
          cases hsh : ((nd T (topN T k)).kind == 3)
          · have HAN := hideG (HASN.out k hlt (by rw [hsh]; rfl))
            go_wp2_with fail
            refine (refTop3_any T HM.out _ k hlt _ (HT1.out.below HBk.out)).mono ?_
            rintro e w2 ⟨rfl, hb2⟩
            have HB2 := hideG (HBk.out.trans (hb2.mono HBk.out.size))
            have g0 := cell_below HB2.out G0.out
            have g1 := cell_below HB2.out G1.out
            have g5 := cell_below HB2.out G5.out
            have g3 := cell_below HB2.out G3.out
            clear hb2
            go_wp2_with fail
            refine (assigned_any T HS.out _ _ _ (HT1.out.below HB2.out)).mono ?_
            rintro e w3 ⟨a3, c3, rfl, _, hb3⟩
            rw [HAN.out]
            have HB3 := hideG (HB2.out.trans (hb3.mono HB2.out.size))
            clear g0 g1 g5 g3 hb3
            have g5 := cell_below HB3.out G5.out
            have g3 := cell_below HB3.out G3.out
            go_wp2_with fail
            refine (slotsAll_any T HS.out _ _ _ (HT1.out.below HB3.out)).mono ?_
            rintro e w4 ⟨a4, c4, rfl, _, hb4⟩
            rw [HALL.out]
            have HB4 := hideG (HB3.out.trans (hb4.mono HB3.out.size))
            clear g5 g3 hb4
            have g3 := cell_below HB4.out G3.out
            have g5 := cell_below HB4.out G5.out
            go_wp2_with fail
            go_roundw
            case rel => exact ⟨k + 1, by omega, by go_num, HB4.out⟩
            case measure => simp [intOf]; omega
          · cases htg : ((nd T k).tag == 3)
            · have HAN := hideG (HASN.out k hlt (by rw [hsh, htg]; rfl))
              have htn : ((nd T k).tag != 3) = true := by rw [bne, htg]; rfl
              go_wp2_with fail
              refine (refTop3_any T HM.out _ k hlt _ (HT1.out.below HBk.out)).mono ?_
              rintro e w2 ⟨rfl, hb2⟩
              have HB2 := hideG (HBk.out.trans (hb2.mono HBk.out.size))
              have g0 := cell_below HB2.out G0.out
              have g1 := cell_below HB2.out G1.out
              have g5 := cell_below HB2.out G5.out
              have g3 := cell_below HB2.out G3.out
              clear hb2
              go_wp2_with fail
              refine (assigned_any T HS.out _ _ _ (HT1.out.below HB2.out)).mono ?_
              rintro e w3 ⟨a3, c3, rfl, _, hb3⟩
              rw [HAN.out]
              have HB3 := hideG (HB2.out.trans (hb3.mono HB2.out.size))
              clear g0 g1 g5 g3 hb3
              have g5 := cell_below HB3.out G5.out
              have g3 := cell_below HB3.out G3.out
              go_wp2_with fail
              refine (slotsAll_any T HS.out _ _ _ (HT1.out.below HB3.out)).mono ?_
              rintro e w4 ⟨a4, c4, rfl, _, hb4⟩
              rw [HALL.out]
              have HB4 := hideG (HB3.out.trans (hb4.mono HB3.out.size))
              clear g5 g3 hb4
              have g3 := cell_below HB4.out G3.out
              have g5 := cell_below HB4.out G5.out
              go_wp2_with fail
              go_roundw
              case rel => exact ⟨k + 1, by omega, by go_num, HB4.out⟩
              case measure => simp [intOf]; omega
            · have htn : ((nd T k).tag != 3) = false := by rw [bne, htg]; rfl
              go_wp2_with fail
              refine (refTop3_any T HM.out _ k hlt _ (HT1.out.below HBk.out)).mono ?_
              rintro e w2 ⟨rfl, hb2⟩
              have HB2 := hideG (HBk.out.trans (hb2.mono HBk.out.size))
              have g0 := cell_below HB2.out G0.out
              have g1 := cell_below HB2.out G1.out
              have g5 := cell_below HB2.out G5.out
              have g3 := cell_below HB2.out G3.out
              clear hb2
              go_wp2_with fail
              refine (slotsAll_any T HS.out _ _ _ (HT1.out.below HB2.out)).mono ?_
              rintro e w4 ⟨a4, c4, rfl, _, hb4⟩
              rw [HALL.out]
              have HB4 := hideG (HB2.out.trans (hb4.mono HB2.out.size))
              clear g0 g1 g5 g3 hb4
              have g3 := cell_below HB4.out G3.out
              have g5 := cell_below HB4.out G5.out
              go_wp2_with fail
              go_roundw
              case rel => exact ⟨k + 1, by omega, by go_num, HB4.out⟩
              case measure => simp [intOf]; omega
      · have hre : (nd T k).root = -1 := by simpa using hr1
        rw [hre] at G5
        clear hr1 hre
        cases hsh : ((nd T (topN T k)).kind == 3)
        · have HAN := hideG (HASN.out k hlt (by rw [hsh]; rfl))
          go_wp2_with fail
          refine (refTop3_any T HM.out _ k hlt _ (HT1.out.below HBk.out)).mono ?_
          rintro e w2 ⟨rfl, hb2⟩
          have HB2 := hideG (HBk.out.trans (hb2.mono HBk.out.size))
          have g0 := cell_below HB2.out G0.out
          have g1 := cell_below HB2.out G1.out
          have g5 := cell_below HB2.out G5.out
          have g3 := cell_below HB2.out G3.out
          clear hb2
          go_wp2_with fail
          refine (assigned_any T HS.out _ _ _ (HT1.out.below HB2.out)).mono ?_
          rintro e w3 ⟨a3, c3, rfl, _, hb3⟩
          rw [HAN.out]
          have HB3 := hideG (HB2.out.trans (hb3.mono HB2.out.size))
          clear g0 g1 g5 g3 hb3
          have g5 := cell_below HB3.out G5.out
          have g3 := cell_below HB3.out G3.out
          go_wp2_with fail
          go_roundw
          case rel => exact ⟨k + 1, by omega, by go_num, HB3.out⟩
          case measure => simp [intOf]; omega
        · cases htg : ((nd T k).tag == 3)
          · have HAN := hideG (HASN.out k hlt (by rw [hsh, htg]; rfl))
            have htn : ((nd T k).tag != 3) = true := by rw [bne, htg]; rfl
            go_wp2_with fail
            refine (refTop3_any T HM.out _ k hlt _ (HT1.out.below HBk.out)).mono ?_
            rintro e w2 ⟨rfl, hb2⟩
            have HB2 := hideG (HBk.out.trans (hb2.mono HBk.out.size))
            have g0 := cell_below HB2.out G0.out
            have g1 := cell_below HB2.out G1.out
            have g5 := cell_below HB2.out G5.out
            have g3 := cell_below HB2.out G3.out
            clear hb2
            go_wp2_with fail
            refine (assigned_any T HS.out _ _ _ (HT1.out.below HB2.out)).mono ?_
            rintro e w3 ⟨a3, c3, rfl, _, hb3⟩
            rw [HAN.out]
            have HB3 := hideG (HB2.out.trans (hb3.mono HB2.out.size))
            clear g0 g1 g5 g3 hb3
            have g5 := cell_below HB3.out G5.out
            have g3 := cell_below HB3.out G3.out
            go_wp2_with fail
            go_roundw
            case rel => exact ⟨k + 1, by omega, by go_num, HB3.out⟩
            case measure => simp [intOf]; omega
          · have htn : ((nd T k).tag != 3) = false := by rw [bne, htg]; rfl
            go_wp2_with fail
            refine (refTop3_any T HM.out _ k hlt _ (HT1.out.below HBk.out)).mono ?_
            rintro e w2 ⟨rfl, hb2⟩
            have HB2 := hideG (HBk.out.trans (hb2.mono HBk.out.size))
            have g0 := cell_below HB2.out G0.out
            have g1 := cell_below HB2.out G1.out
            have g5 := cell_below HB2.out G5.out
            have g3 := cell_below HB2.out G3.out
            clear hb2
            go_wp2_with fail
            go_roundw
            case rel => exact ⟨k + 1, by omega, by go_num, HB2.out⟩
            case measure => simp [intOf]; omega
    · have HB3 := hideG (HB1.out.trans (HBk.out.mono HB1.out.size))
      go_wp2_with fail
      refine (live5_any _).mono ?_
      rintro e w7 ⟨rfl, hb7⟩
      have HB7 := hideG (HB3.out.trans (hb7.mono HB3.out.size))
      clear hb7
      go_wp2_with fail
      go_ret
      exact ⟨rfl, HB7.out⟩

set_option maxRecDepth 100000 in
set_option maxHeartbeats 4000000 in
theorem s5none_walk (T : List Nd) (v : Value) (w : World) (hT : TreeAt w v T) :
    Calls Try.prog 18 #[v] w fun e w' => e = .returned (.bool true) ∧ Below w.heap.size w w' := by
  cases hs : fewB T
  · obtain ⟨ta, tc, rfl⟩ := hT.shape
    have HT := hideG hT
    clear hT
    go_enter Try.func18, Try.ntmps18
    go_wp2_with (first | (go_at_call 42; refine (refFew_any T _ _ HT.out).mono ?_; rintro e w1 ⟨rfl, rfl⟩) | (go_at_call 56; refine (live5_any _).mono ?_; rintro e w2 ⟨rfl, hb2⟩))
    go_ret
    exact ⟨rfl, hb2⟩
  · by_cases h16 : (16 : Int) < (T.length : Int)
    · obtain ⟨ta, tc, rfl⟩ := hT.shape
      have HT := hideG hT
      clear hT
      go_enter Try.func18, Try.ntmps18
      go_wp2_with (first | (go_at_call 42; refine (refFew_any T _ _ HT.out).mono ?_; rintro e w1 ⟨rfl, hw⟩; subst hw) | (go_at_call 56; refine (live5_any _).mono ?_; rintro e w2 ⟨rfl, hb2⟩))
      go_ret
      exact ⟨rfl, hb2⟩
    · cases hm : mayB T
      · obtain ⟨ta, tc, rfl⟩ := hT.shape
        have HT := hideG hT
        have HS := hideG (small_sane (few_small hs))
        clear hT
        go_enter Try.func18, Try.ntmps18
        go_wp2_with (first | (go_at_call 42; refine (refFew_any T _ _ HT.out).mono ?_; rintro e w1 ⟨rfl, hw⟩; subst hw) | (go_at_call 63; refine (refMay_walk T HS.out _ _ HT.out).mono ?_; rintro e w1 ⟨rfl, hb1⟩; have HB1 := hideG hb1; clear hb1) | (go_at_call 56; refine (live5_any _).mono ?_; rintro e w2 ⟨rfl, hb2⟩; have HB2 := hideG (HB1.out.trans (hb2.mono HB1.out.size)); clear hb2))
        go_ret
        exact ⟨rfl, HB2.out⟩
      · obtain ⟨tb, to, tc, rfl, _⟩ := hT.at (by have := mayB_pos hm; omega)
        exact s5none_yes T tb to tc w hT hs h16 hm

end Go.Proofs.Ytnbnijhdmnoelaa
