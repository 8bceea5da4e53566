/- SlotsHosts, walked. -/
import Derived.Test.YtnbnijhdmnoelaaS5None
namespace Go.Proofs.Ytnbnijhdmnoelaa
open Go.RowKit

/-- A text has no attributes. -/
theorem text_attrs {T : List Nd} (hm : mayB T = true) {m : Nat} (hl : m < T.length) (h : (nd T m).kind = 2) : (nd T m).attrs = [] := by
  have ht := may_attrs hm hl
  rw [h] at ht
  cases ha : (nd T m).attrs with
  | nil => rfl
  | cons a l =>
    rw [ha] at ht
    simp only [attrsFrom, Bool.and_eq_true, Bool.not_eq_true', Bool.or_eq_false_iff, Bool.not_eq_false'] at ht
    have hf := ht.1.2
    unfold attrFitsB attrKindI at hf
    split at hf <;> simp at hf
theorem text_get {T : List Nd} (hm : mayB T = true) {m : Nat} (hl : m < T.length) (h : (nd T m).kind = 2) (nm : Int) : getL T (m : Int) nm = (0, false) := by
  rw [getL_ok hm hl, text_attrs hm hl h]; rfl
theorem place_text {T : List Nd} (hm : mayB T = true) {a b : Nat} (ha : a < T.length) (hb : b < T.length) (h1 : (nd T a).kind = 2) (h2 : (nd T b).kind = 2) (r : Nat) : placeI T r (a : Int) = placeI T r (b : Int) := by
  unfold placeI placeV byNumI byNameI nameI
  rw [text_get hm ha h1, text_get hm hb h2, text_get hm ha h1, text_get hm hb h2]
theorem place_cases (T : List Nd) (r : Nat) (k : Int) : placeI T r k = -1 ∨ containsB (castL (slotsN T r)) (placeI T r k) = true := by
  cases hman : manB T (r : Int)
  · rw [place_nam hman]
    unfold byNameI
    split
    · exact Or.inl rfl
    · rename_i hge
      refine Or.inr ?_
      have hlt : (indexI (namesI T r) (nameI T k)).toNat < (slotsN T r).length := by
        have : indexI (namesI T r) (nameI T k) < ((namesI T r).length : Int) := by
          unfold indexI at hge ⊢
          split <;> omega
        rw [namesI_len] at this
        omega
      rw [castL_getD _ hlt, contains_castL]
      exact decide_eq_true (getD_mem hlt)
  · rw [place_man hman]
    unfold byNumI
    split
    · rename_i hc
      rw [Bool.and_eq_true] at hc
      exact Or.inr hc.2
    · exact Or.inl rfl
theorem of_root {T : List Nd} {n p r : Nat} (hp : (nd T n).parent = (p : Int)) (hr : (nd T p).root = (r : Int)) : ofN T n = placeI T r (n : Int) := by
  unfold ofN
  have e1 : ((nd T n).parent == -1) = false := by rw [hp]; simp
  have e2 : ((nd T p).root == -1) = false := by rw [hr]; simp
  rw [e1, hp, Int.toNat_natCast, e2, hr, Int.toNat_natCast]; rfl
theorem all_le {T : List Nd} (hm : mayB T = true) {r : Nat} (hr : r < T.length) (hk : (nd T r).kind = 3) : (allI T (r : Int)).length ≤ 1000000 := by
  rw [all_root hm hr hk, castL_length]
  have := slotsN_le hm hr
  omega

set_option maxRecDepth 100000 in
set_option maxHeartbeats 8000000 in
theorem s5hosts_yes (T : List Nd) (tb to tc : Nat) (w : World) (hT : TreeAt w (.slice (some ⟨tb, to, none⟩) T.length tc) T) (hs : fewB T = true) (h16 : ¬ (16 : Int) < (T.length : Int)) (hm : mayB T = true) :
    Calls Try.prog 16 #[.slice (some ⟨tb, to, none⟩) T.length tc] w fun e w' => e = .returned (.bool true) ∧ Below w.heap.size w w' := by
  have hpos := mayB_pos hm
  have HT0 := hideG hT
  have HS := hideG (small_sane (few_small hs))
  have HM := hideG hm
  clear hT hm
  go_enter Try.func16, Try.ntmps16
  go_wp2_with fail
  refine (refFew_any T _ _ HT0.out).mono ?_
  rintro e wz ⟨rfl, hwz⟩
  subst hwz
  go_wp2_with fail
  refine (refMay_walk T HS.out _ _ HT0.out).mono ?_
  rintro e w1 ⟨rfl, hb1⟩
  have HT1 := hideG (HT0.out.below hb1)
  have HB1 := hideG hb1
  clear hb1
  rw [HM.out]
  go_wp2_with fail
  go_loopw [3] (fun i wr => ∃ k : Nat, k ≤ T.length ∧ i = .int .i64 k ∧ Below w1.heap.size w1 wr) (fun i _ => T.length - (intOf i).toNat)
  case atStart => exact ⟨0, Nat.zero_le _, rfl, Below.refl _ _⟩
  case round =>
    obtain ⟨k, hk, rfl, hB⟩ := hrel
    have HBk := hideG hB
    clear hB
    by_cases hlt : k < T.length
    · obtain ⟨tb', to', tc', htv, hct⟩ := HT1.out.at (by omega)
      simp only [Value.slice.injEq, Option.some.injEq, Addr.mk.injEq, and_true, true_and] at htv
      obtain ⟨⟨rfl, rfl⟩, rfl⟩ := htv
      have HCT := hideG hct
      obtain ⟨kk, ak, hNk⟩ := hct k hlt
      have G0 := hideG hNk.kind
      have G2 := hideG hNk.parent
      have hk0 : (0 : Int) ≤ (k : Int) := by omega
      clear hNk
      rcases (mayB_fine HM.out).par k hlt with hpe | ⟨p, hpl, hpe, hmem⟩
      · have HOK := hideG (show ofI T (k : Int) = -1 by rw [ofI_known HM.out hlt]; unfold ofN; rw [hpe]; rfl)
        rw [hpe] at G2
        clear hct hpe
        go_wp2_with fail
        refine (slotOf_any T HS.out _ _ _ (HT1.out.below HBk.out)).mono ?_
        rintro e w2 ⟨rfl, hb2⟩
        rw [HOK.out]
        have HB2 := hideG (HBk.out.trans (hb2.mono HBk.out.size))
        have g2 := cell_below HB2.out G2.out
        clear hb2
        go_wp2_with fail
        go_roundw
        case rel => exact ⟨k + 1, by omega, by go_num, HB2.out⟩
        case measure => simp [intOf]; omega
      · obtain ⟨kp, ap, hNp⟩ := hct p hpl
        have G5 := hideG hNp.root
        have G3 := hideG hNp.kidsc
        obtain ⟨kka, kkc, hkv⟩ := hNp.kids.shape
        subst hkv
        have HKC : Hid (0 < (nd T p).kids.length → ∃ b off, kka = some ⟨b, off, none⟩ ∧ ∀ j, j < (nd T p).kids.length → w1.cell? ⟨b, off + j, none⟩ = some (.int .i64 ((nd T p).kids.getD j 0))) := by
          obtain ⟨a', cap', hv', hd'⟩ := hNp.kids
          simp only [Value.slice.injEq, true_and] at hv'
          obtain ⟨rfl, rfl⟩ := hv'
          exact hd'
        have h64 := fine_short (mayB_fine HM.out) hpl
        have hp0 : (0 : Int) ≤ (p : Int) := by omega
        have hp1 : ((p : Int) == -1) = false := by simp
        clear hct hNp
        cases hr1 : ((nd T p).root == -1)
        · obtain ⟨r, hrr, hrl, hkind, hho⟩ := root_facts (mayB_fine HM.out) hpl hr1
          have HOK := hideG (show ofI T (k : Int) = placeI T r (k : Int) by rw [ofI_known HM.out hlt, of_root hpe hrr])
          have HKD := hideG (show ∀ x ∈ (nd T p).kids, ∃ m : Nat, x = m ∧ m < T.length ∧ ((nd T k).kind = 2 → (nd T m).kind = 2 → ofI T (m : Int) = placeI T r (k : Int)) from fun x hx => by
            obtain ⟨m, rfl, hml, hof⟩ := of_kid HM.out hrl hkind hho hpl hx
            exact ⟨m, rfl, hml, fun h1 h2 => by rw [ofI_known HM.out hml, hof, place_text HM.out hml hlt h2 h1]⟩)
          have HLA := hideG (all_le HM.out hrl hkind)
          have HPC := hideG (place_cases T r (k : Int))
          rw [← all_root HM.out hrl hkind] at HPC
          rw [hpe] at G2
          rw [hrr] at G5 hr1
          clear hpe hmem hrr hkind hho
          generalize placeI T r (k : Int) = ok at *
          by_cases hoe : ok = -1
          · subst hoe
            clear HPC HLA
            go_wp2_with fail
            refine (slotOf_any T HS.out _ _ _ (HT1.out.below HBk.out)).mono ?_
            rintro e w2 ⟨rfl, hb2⟩
            rw [HOK.out]
            have HB2 := hideG (HBk.out.trans (hb2.mono HBk.out.size))
            have g2 := cell_below HB2.out G2.out
            have g5 := cell_below HB2.out G5.out
            clear hb2
            go_wp2_with fail
            refine (slotsAll_any T HS.out _ _ _ (HT1.out.below HB2.out)).mono ?_
            rintro e w4 ⟨a4, c4, rfl, ho4, hb4⟩
            have HB4 := hideG (HB2.out.trans (hb4.mono HB2.out.size))
            clear g2 g5 ho4 hb4
            generalize allI T (r : Int) = la at *
            go_wp2_with fail
            go_loopw [7] (fun j wr => ∃ q : Nat, q ≤ (nd T p).kids.length ∧ j = .int .i64 q ∧ Below w4.heap.size w4 wr) (fun j _ => (nd T p).kids.length - (intOf j).toNat)
            case atStart => exact ⟨0, Nat.zero_le _, rfl, Below.refl _ _⟩
            case round =>
              obtain ⟨q, hq, rfl, hBq⟩ := hrel
              have HBq := hideG (HB4.out.trans (hBq.mono HB4.out.size))
              have HBR := hideG hBq
              have g3 := cell_below HBq.out G3.out
              have g0 := cell_below HBq.out G0.out
              clear hBq
              by_cases hltq : q < (nd T p).kids.length
              · obtain ⟨kb, koff, rfl, hdd⟩ := HKC.out (by omega)
                have c1 := cell_below HBq.out (hdd q hltq)
                have hxk : (nd T p).kids.getD q 0 ∈ (nd T p).kids := by
                  rw [List.getD_eq_getElem?_getD, List.getElem?_eq_getElem hltq]; exact List.getElem_mem hltq
                obtain ⟨m, hxm, hml, hof⟩ := HKD.out _ hxk
                rw [hxm] at c1
                obtain ⟨km, am, hNm⟩ := HCT.out m hml
                have gm := cell_below HBq.out hNm.kind
                have hm0 : (0 : Int) ≤ (m : Int) := by omega
                clear hdd hxk hxm hNm
                cases hkk : ((nd T k).kind == 2)
                · clear hof
                  go_wp2_with fail
                  go_roundw
                  case rel => exact ⟨q + 1, by omega, by go_num, HBR.out⟩
                  case measure => simp [intOf]; omega
                · cases hkm : ((nd T m).kind == 2)
                  · clear hof
                    go_wp2_with fail
                    go_roundw
                    case rel => exact ⟨q + 1, by omega, by go_num, HBR.out⟩
                    case measure => simp [intOf]; omega
                  · have HOM := hideG (hof (by simpa using hkk) (by simpa using hkm))
                    clear hof
                    go_wp2_with fail
                    refine (slotOf_any T HS.out _ _ _ (HT1.out.below HBq.out)).mono ?_
                    rintro e w5 ⟨rfl, hb5⟩
                    rw [HOM.out]
                    have HB5 := hideG (show Below w4.heap.size w4 w5 from HBR.out.trans (hb5.mono HBR.out.size))
                    clear hb5
                    go_wp2_with fail
                    go_roundw
                    case rel => exact ⟨q + 1, by omega, by go_num, HB5.out⟩
                    case measure => simp [intOf]; omega
              · go_wp2_with fail
                go_roundw
                case rel => exact ⟨k + 1, by omega, by go_num, HBq.out⟩
                case measure => simp [intOf]; omega
          · have HCQ := hideG (HPC.out.resolve_left hoe)
            have ho1 : (ok == -1) = false := by simpa using hoe
            have ho2 : (ok != -1) = true := by simpa using hoe
            clear HPC hoe
            go_wp2_with fail
            refine (slotOf_any T HS.out _ _ _ (HT1.out.below HBk.out)).mono ?_
            rintro e w2 ⟨rfl, hb2⟩
            rw [HOK.out]
            have HB2 := hideG (HBk.out.trans (hb2.mono HBk.out.size))
            have g2 := cell_below HB2.out G2.out
            have g5 := cell_below HB2.out G5.out
            clear hb2
            go_wp2_with fail
            refine (slotsAll_any T HS.out _ _ _ (HT1.out.below HB2.out)).mono ?_
            rintro e w3 ⟨a4, c4, rfl, ho4, hb4⟩
            have HL4 := hideG (ownsRow_ints ho4)
            have HB4 := hideG (HB2.out.trans (hb4.mono HB2.out.size))
            clear g2 g5 ho4 hb4
            generalize allI T (r : Int) = la at *
            go_wp2_with fail
            refine (refIn_any la _ _ _ HL4.out HLA.out).mono ?_
            rintro e w4 ⟨rfl, hw4⟩
            subst hw4
            rw [HCQ.out]
            go_wp2_with fail
            go_loopw [7] (fun j wr => ∃ q : Nat, q ≤ (nd T p).kids.length ∧ j = .int .i64 q ∧ Below w4.heap.size w4 wr) (fun j _ => (nd T p).kids.length - (intOf j).toNat)
            case atStart => exact ⟨0, Nat.zero_le _, rfl, Below.refl _ _⟩
            case round =>
              obtain ⟨q, hq, rfl, hBq⟩ := hrel
              have HBq := hideG (HB4.out.trans (hBq.mono HB4.out.size))
              have HBR := hideG hBq
              have g3 := cell_below HBq.out G3.out
              have g0 := cell_below HBq.out G0.out
              clear hBq
              by_cases hltq : q < (nd T p).kids.length
              · obtain ⟨kb, koff, rfl, hdd⟩ := HKC.out (by omega)
                have c1 := cell_below HBq.out (hdd q hltq)
                have hxk : (nd T p).kids.getD q 0 ∈ (nd T p).kids := by
                  rw [List.getD_eq_getElem?_getD, List.getElem?_eq_getElem hltq]; exact List.getElem_mem hltq
                obtain ⟨m, hxm, hml, hof⟩ := HKD.out _ hxk
                rw [hxm] at c1
                obtain ⟨km, am, hNm⟩ := HCT.out m hml
                have gm := cell_below HBq.out hNm.kind
                have hm0 : (0 : Int) ≤ (m : Int) := by omega
                clear hdd hxk hxm hNm
                cases hkk : ((nd T k).kind == 2)
                · clear hof
                  go_wp2_with fail
                  go_roundw
                  case rel => exact ⟨q + 1, by omega, by go_num, HBR.out⟩
                  case measure => simp [intOf]; omega
                · cases hkm : ((nd T m).kind == 2)
                  · clear hof
                    go_wp2_with fail
                    go_roundw
                    case rel => exact ⟨q + 1, by omega, by go_num, HBR.out⟩
                    case measure => simp [intOf]; omega
                  · have HOM := hideG (hof (by simpa using hkk) (by simpa using hkm))
                    clear hof
                    go_wp2_with fail
                    refine (slotOf_any T HS.out _ _ _ (HT1.out.below HBq.out)).mono ?_
                    rintro e w5 ⟨rfl, hb5⟩
                    rw [HOM.out]
                    have HB5 := hideG (show Below w4.heap.size w4 w5 from HBR.out.trans (hb5.mono HBR.out.size))
                    clear hb5
                    go_wp2_with fail
                    go_roundw
                    case rel => exact ⟨q + 1, by omega, by go_num, HB5.out⟩
                    case measure => simp [intOf]; omega
              · go_wp2_with fail
                go_roundw
                case rel => exact ⟨k + 1, by omega, by go_num, HBq.out⟩
                case measure => simp [intOf]; omega
        · have hre : (nd T p).root = -1 := by simpa using hr1
          have HOK := hideG (show ofI T (k : Int) = -1 by
            rw [ofI_known HM.out hlt]
            unfold ofN
            split
            · rfl
            · rw [hpe, Int.toNat_natCast, hre]; rfl)
          rw [hpe] at G2
          rw [hre] at G5
          clear hr1 hre hpe hmem
          go_wp2_with fail
          refine (slotOf_any T HS.out _ _ _ (HT1.out.below HBk.out)).mono ?_
          rintro e w2 ⟨rfl, hb2⟩
          rw [HOK.out]
          have HB2 := hideG (HBk.out.trans (hb2.mono HBk.out.size))
          have g2 := cell_below HB2.out G2.out
          have g5 := cell_below HB2.out G5.out
          clear hb2
          go_wp2_with fail
          go_roundw
          case rel => exact ⟨k + 1, by omega, by go_num, HB2.out⟩
          case measure => simp [intOf]; omega
    · have HB3 := hideG (HB1.out.trans (HBk.out.mono HB1.out.size))
      go_wp2_with fail
      refine (live5_any _).mono ?_
      rintro e w7 ⟨rfl, hb7⟩
      have HB7 := hideG (HB3.out.trans (hb7.mono HB3.out.size))
      clear hb7
      go_wp2_with fail
      go_ret
      exact ⟨rfl, HB7.out⟩

set_option maxRecDepth 100000 in
set_option maxHeartbeats 4000000 in
theorem s5hosts_walk (T : List Nd) (v : Value) (w : World) (hT : TreeAt w v T) :
    Calls Try.prog 16 #[v] w fun e w' => e = .returned (.bool true) ∧ Below w.heap.size w w' := by
  cases hs : fewB T
  · obtain ⟨ta, tc, rfl⟩ := hT.shape
    have HT := hideG hT
    clear hT
    go_enter Try.func16, Try.ntmps16
    go_wp2_with (first | (go_at_call 42; refine (refFew_any T _ _ HT.out).mono ?_; rintro e w1 ⟨rfl, rfl⟩) | (go_at_call 56; refine (live5_any _).mono ?_; rintro e w2 ⟨rfl, hb2⟩))
    go_ret
    exact ⟨rfl, hb2⟩
  · by_cases h16 : (16 : Int) < (T.length : Int)
    · obtain ⟨ta, tc, rfl⟩ := hT.shape
      have HT := hideG hT
      clear hT
      go_enter Try.func16, Try.ntmps16
      go_wp2_with (first | (go_at_call 42; refine (refFew_any T _ _ HT.out).mono ?_; rintro e w1 ⟨rfl, hw⟩; subst hw) | (go_at_call 56; refine (live5_any _).mono ?_; rintro e w2 ⟨rfl, hb2⟩))
      go_ret
      exact ⟨rfl, hb2⟩
    · cases hm : mayB T
      · obtain ⟨ta, tc, rfl⟩ := hT.shape
        have HT := hideG hT
        have HS := hideG (small_sane (few_small hs))
        clear hT
        go_enter Try.func16, Try.ntmps16
        go_wp2_with (first | (go_at_call 42; refine (refFew_any T _ _ HT.out).mono ?_; rintro e w1 ⟨rfl, hw⟩; subst hw) | (go_at_call 63; refine (refMay_walk T HS.out _ _ HT.out).mono ?_; rintro e w1 ⟨rfl, hb1⟩; have HB1 := hideG hb1; clear hb1) | (go_at_call 56; refine (live5_any _).mono ?_; rintro e w2 ⟨rfl, hb2⟩; have HB2 := hideG (HB1.out.trans (hb2.mono HB1.out.size)); clear hb2))
        go_ret
        exact ⟨rfl, HB2.out⟩
      · obtain ⟨tb, to, tc, rfl, _⟩ := hT.at (by have := mayB_pos hm; omega)
        exact s5hosts_yes T tb to tc w hT hs h16 hm

end Go.Proofs.Ytnbnijhdmnoelaa
