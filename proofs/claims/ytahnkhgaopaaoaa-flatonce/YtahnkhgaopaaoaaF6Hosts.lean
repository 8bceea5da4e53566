/- FlatHosts, walked. -/
import Derived.Test.YtahnkhgaopaaoaaF6Tell
namespace Go.Proofs.Ytahnkhgaopaaoaa
open Go.RowKit

theorem kid_pos {T : List Nd} (hm : mayB T = true) {m : Nat} (hml : m < T.length) (hc : canBeKidB (nd T m).kind = true) : m ≠ 0 := by
  rintro rfl
  have := (mayB_fine hm).kind 0 hml
  unfold kindFitsB at this
  rw [if_pos (by decide), Bool.and_eq_true] at this
  have h0 : (nd T 0).kind = 0 := by simpa using this.1
  rw [h0] at hc
  simp [canBeKidB] at hc
theorem host_kid {T : List Nd} (hm : mayB T = true) {n r m : Nat} (hn : n < T.length) (hr : (nd T n).root = (r : Int)) (hml : m < T.length) (hmem : (m : Int) ∈ (nd T n).kids) (hof : ofN T m = -1) : parF T m = -1 ∧ fabvB T 0 m = false := by
  obtain ⟨m', e, _, hc, hp⟩ := kidP_iff.mp ((mayB_fine hm).kid n hn _ hmem)
  have : m' = m := by omega
  subst this
  have hk1 := kind_one hm hn hr
  have e1 : ((nd T m').parent == -1) = false := by rw [hp]; simp
  have e3 : ((nd T n).root == -1) = false := by rw [hr]; simp
  have hpar : parF T m' = -1 := by
    unfold parF
    rw [e1, hp, Int.toNat_natCast, hk1, e3]
    show showF T m' = -1
    unfold showF; rw [hof]; rfl
  refine ⟨hpar, ?_⟩
  unfold fabvB
  rw [upF_none hml hpar]
  have := kid_pos hm hml hc
  simp; omega

set_option maxRecDepth 100000 in
set_option maxHeartbeats 8000000 in
theorem flatHosts_yes (T : List Nd) (tb to tc : Nat) (w : World) (hT : TreeAt w (.slice (some ⟨tb, to, none⟩) T.length tc) T) (hs : fewB T = true) (h16 : ¬ (16 : Int) < (T.length : Int)) (hm : mayB T = true) :
    Calls Try.prog 9 #[.slice (some ⟨tb, to, none⟩) T.length tc] w fun e w' => e = .returned (.bool true) ∧ Below w.heap.size w w' := by
  have hpos := mayB_pos hm
  have HT0 := hideG hT
  have HS := hideG (small_sane (few_small hs))
  have HM := hideG hm
  clear hT hm
  go_enter Try.func9, Try.ntmps9
  go_wp2_with fail
  refine (refFew_any T _ _ HT0.out).mono ?_
  rintro e wz ⟨rfl, hwz⟩
  subst hwz
  go_wp2_with fail
  refine (refMay_walk T HS.out _ _ HT0.out).mono ?_
  rintro e w1 ⟨rfl, hb1⟩
  rw [HM.out]
  have HT1 := hideG (HT0.out.below hb1)
  have HB1 := hideG hb1
  clear hb1
  go_wp2_with fail
  go_loopw [3] (fun i wr => ∃ k : Nat, k ≤ T.length ∧ i = .int .i64 k ∧ Below w1.heap.size w1 wr) (fun i _ => T.length - (intOf i).toNat)
  case atStart => exact ⟨0, Nat.zero_le _, rfl, Below.refl _ _⟩
  case round =>
    obtain ⟨k, hk, rfl, hB⟩ := hrel
    have HBk := hideG hB
    clear hB
    by_cases hlt : k < T.length
    · have HTk := hideG (HT1.out.below HBk.out)
      obtain ⟨tb', to', tc', htv, hct⟩ := HTk.out.at (by omega)
      simp only [Value.slice.injEq, Option.some.injEq, Addr.mk.injEq, and_true, true_and] at htv
      obtain ⟨⟨rfl, rfl⟩, rfl⟩ := htv
      obtain ⟨kk, ak, hN⟩ := hct k hlt
      have g5 := hN.root
      have hk0 : (0 : Int) ≤ (k : Int) := by omega
      cases hr1 : ((nd T k).root == -1)
      · obtain ⟨r, hrr, hrl, hkind, hho⟩ := root_facts (mayB_fine HM.out) hlt hr1
        rw [hrr] at g5 hr1
        obtain ⟨kr, ar, hR⟩ := hct r hrl
        have g3 := hR.kidsc
        obtain ⟨kka, kkc, hkv⟩ := hR.kids.shape
        subst hkv
        have HKI := hideG hR.kids
        obtain ⟨nka, nkc, hnv⟩ := hN.kids.shape
        subst hnv
        have G3 := hideG hN.kidsc
        have HKC : Hid (0 < (nd T k).kids.length → ∃ b off, nka = some ⟨b, off, none⟩ ∧ ∀ j, j < (nd T k).kids.length → wr.cell? ⟨b, off + j, none⟩ = some (.int .i64 ((nd T k).kids.getD j 0))) := by
          obtain ⟨a', cap', hv', hd'⟩ := hN.kids
          simp only [Value.slice.injEq, true_and] at hv'
          obtain ⟨rfl, rfl⟩ := hv'
          exact hd'
        have hr0 : (0 : Int) ≤ (r : Int) := by omega
        have hkn := known_of HM.out hlt
        have hkf : kidsF T k = (nd T r).kids := by
          have h1 := kind_one HM.out hlt hrr
          unfold kidsF; rw [h1, hrr, hr1, Int.toNat_natCast]; rfl
        have h64 := kidsF_le HM.out hlt
        rw [hkf] at h64
        have h6 : (nd T r).kids.length ≤ 1000 := by omega
        have hk64 := fine_short (mayB_fine HM.out) hlt
        have HK := hideG (show ∀ U, Below wr.heap.size wr U → Calls Try.prog 23 #[.slice (some ⟨tb, to, none⟩) T.length tc, .int .i64 (k : Int)] U (fun e w' => ∃ a c, e = .returned (.slice a (nd T r).kids.length c) ∧ IntsAt w' (.slice a (nd T r).kids.length c) (nd T r).kids ∧ Below wr.heap.size wr w') from fun U hU => by
          refine (flatKids_any T HS.out _ _ _ (HTk.out.below hU)).mono ?_
          have he : fkidsI T (k : Int) = (nd T r).kids := by unfold fkidsI; rw [hkn, Int.toNat_natCast, hkf]; rfl
          rw [he]
          rintro e w' ⟨a, c, rfl, ho, hb⟩
          exact ⟨a, c, rfl, ownsRow_ints ho, hU.trans (hb.mono hU.size)⟩)
        have HIA := hideG (show ∀ U v v' L, Below wr.heap.size wr U → IntsAt U v L → IntsAt U v' L → L.length ≤ 1000 → Calls Try.prog 27 #[v, v'] U (fun e w' => e = .returned (.bool true) ∧ Below wr.heap.size wr w') from fun U v v' L hU hi hi' h6 => by
          refine (lints _ _ true h6 (by simp) _ _ _ hi hi').mono ?_
          rintro e w' ⟨rfl, hb⟩
          exact ⟨rfl, hU.trans (hb.mono hU.size)⟩)
        have HHK := hideG (show ∀ j, j < (nd T k).kids.length → ∃ m : Nat, (nd T k).kids.getD j 0 = (m : Int) ∧ m < T.length ∧ (ofN T m = -1 → parF T m = -1 ∧ fabvB T 0 m = false) from fun j hj => by
          have hx : (nd T k).kids.getD j 0 ∈ (nd T k).kids := by
            rw [List.getD_eq_getElem?_getD, List.getElem?_eq_getElem hj]; exact List.getElem_mem hj
          obtain ⟨m, e, hml, _, _⟩ := kidP_iff.mp ((mayB_fine HM.out).kid k hlt _ hx)
          rw [e] at hx
          exact ⟨m, e, hml, fun h => host_kid HM.out hlt hrr hml hx h⟩)
        have htb : tb < wr.heap.size := below_of_cell g5
        clear hct hN hR hkn hkf h64 hrr hkind hho
        go_wp2_with fail
        go_region_held3 (fun w' => Below wr.heap.size wr w' ∧ w'.cell? ⟨tb, to + k * 7 + 5, none⟩ = some (.int .i64 (r : Int)) ∧ w'.cell? ⟨tb, to + r * 7 + 3, none⟩ = some (.slice kka (nd T r).kids.length kkc)) (refine ⟨?_, ?_, ?_⟩ <;> first | assumption | exact below_drew' (Below.refl _ _) | exact below_drew' (by assumption) | exact cell_below (by assumption) g5 | exact cell_below (by assumption) g3 | go_keep) (first | (go_at_call 23; refine (HK.out _ ?_).mono ?_; (first | assumption | exact below_drew' (Below.refl _ _) | exact below_drew' (by assumption)); rintro e w' ⟨a2, c2, rfl, hi2, hb2⟩) | (go_at_call 27; refine Calls.mono (HIA.out _ _ _ _ (by first | assumption | exact below_drew' (by assumption)) (by first | assumption | exact ints_drew (by assumption) | exact IntsAt.below (by assumption) (by assumption)) (by first | assumption | exact HKI.out.below (by assumption)) (by assumption)) ?_; rintro e w' ⟨rfl, hb3⟩))
        have HB9 : Hid (Below wr.heap.size wr w') := by show Below _ _ _; assumption
        have HB8 := hideG (HBk.out.trans (HB9.out.mono HBk.out.size))
        have q3 := cell_below HB9.out G3.out
        go_wp2_with fail
        go_loopw [4] (fun j wr2 => ∃ q : Nat, q ≤ (nd T k).kids.length ∧ j = .int .i64 q ∧ Below w'.heap.size w' wr2) (fun j _ => (nd T k).kids.length - (intOf j).toNat)
        case atStart => exact ⟨0, Nat.zero_le _, rfl, Below.refl _ _⟩
        case round =>
          obtain ⟨q, hq, rfl, hBq⟩ := hrel
          have HBR := hideG hBq
          have HBq := hideG (HB9.out.trans (hBq.mono HB9.out.size))
          have HTq := hideG (HTk.out.below HBq.out)
          have g3q := cell_below HBq.out G3.out
          have HBw := hideG (HBk.out.trans (HBq.out.mono HBk.out.size))
          clear hBq
          by_cases hltq : q < (nd T k).kids.length
          · obtain ⟨kb, koff, rfl, hdd⟩ := HKC.out (by omega)
            have c1 := cell_below HBq.out (hdd q hltq)
            obtain ⟨m, hxm, hml, hno⟩ := HHK.out q hltq
            rw [hxm] at c1
            have HNO := hideG hno
            clear hdd hxm hno
            rcases ofN_cases HM.out hml with hof | ⟨s, _, _, hof, _⟩
            · have hfa := HNO.out hof
              have hkm := known_of HM.out hml
              have HOF := hideG hof
              have E1 := hideG (show fparI T (m : Int) = -1 by unfold fparI; rw [hkm, Int.toNat_natCast, hfa.1]; rfl)
              have E2 := hideG (show faboveI T 0 (m : Int) = false by unfold faboveI; rw [hkm, Int.toNat_natCast, hfa.2]; rfl)
              clear hof hfa hkm
              go_wp2_with fail
              refine (refOf5_any T HM.out HS.out _ m hml _ HTq.out).mono ?_
              rintro e w5 ⟨rfl, hb5⟩
              rw [HOF.out]
              have HT5 := hideG (HTq.out.below hb5)
              have HB5 := hideG (HBR.out.trans (hb5.mono HBR.out.size))
              clear hb5
              go_wp2_with fail
              refine (flatParent_any T HS.out _ _ _ HT5.out).mono ?_
              rintro e w6 ⟨rfl, hb6⟩
              rw [E1.out]
              have HT6 := hideG (HT5.out.below hb6)
              have HB6 := hideG (HB5.out.trans (hb6.mono HB5.out.size))
              clear hb6
              go_wp2_with fail
              refine (flatHas_any T HS.out _ _ _ HT6.out).mono ?_
              rintro e w7 ⟨rfl, hb7⟩
              rw [E2.out]
              have HB7 := hideG (HB6.out.trans (hb7.mono HB6.out.size))
              clear hb7
              go_wp2_with fail
              go_roundw
              case rel => exact ⟨q + 1, by omega, by go_num, HB7.out⟩
              case measure => simp [intOf]; omega
            · have HOF := hideG hof
              have hsn : ((s : Int) == -1) = false := by simp
              clear hof
              go_wp2_with fail
              refine (refOf5_any T HM.out HS.out _ m hml _ HTq.out).mono ?_
              rintro e w5 ⟨rfl, hb5⟩
              rw [HOF.out]
              have HB5 := hideG (HBR.out.trans (hb5.mono HBR.out.size))
              clear hb5
              go_wp2_with fail
              go_roundw
              case rel => exact ⟨q + 1, by omega, by go_num, HB5.out⟩
              case measure => simp [intOf]; omega
          · go_wp2_with fail
            go_roundw
            case rel => exact ⟨k + 1, by omega, by go_num, HBw.out⟩
            case measure => simp [intOf]; omega
      · have hre : (nd T k).root = -1 := by simpa using hr1
        rw [hre] at g5
        clear hr1 hre hct hN
        go_wp2_with fail
        go_roundw
        case rel => exact ⟨k + 1, by omega, by go_num, HBk.out⟩
        case measure => simp [intOf]; omega
    · have HBE := hideG (HB1.out.trans (HBk.out.mono HB1.out.size))
      go_wp2_with fail
      refine (live6_any _).mono ?_
      rintro e w6 ⟨rfl, hb6⟩
      have HB6 := hideG (HBE.out.trans (hb6.mono HBE.out.size))
      clear hb6
      go_wp2_with fail
      go_ret
      exact ⟨rfl, HB6.out⟩

set_option maxRecDepth 100000 in
set_option maxHeartbeats 4000000 in
theorem flatHosts_walk (T : List Nd) (v : Value) (w : World) (hT : TreeAt w v T) :
    Calls Try.prog 9 #[v] w fun e w' => e = .returned (.bool true) ∧ Below w.heap.size w w' := by
  cases hs : fewB T
  · obtain ⟨ta, tc, rfl⟩ := hT.shape
    have HT := hideG hT
    clear hT
    go_enter Try.func9, Try.ntmps9
    go_wp2_with (first | (go_at_call 15; refine (refFew_any T _ _ HT.out).mono ?_; rintro e w1 ⟨rfl, rfl⟩) | (go_at_call 21; refine (live6_any _).mono ?_; rintro e w2 ⟨rfl, hb2⟩))
    go_ret
    exact ⟨rfl, hb2⟩
  · by_cases h16 : (16 : Int) < (T.length : Int)
    · obtain ⟨ta, tc, rfl⟩ := hT.shape
      have HT := hideG hT
      clear hT
      go_enter Try.func9, Try.ntmps9
      go_wp2_with (first | (go_at_call 15; refine (refFew_any T _ _ HT.out).mono ?_; rintro e w1 ⟨rfl, hw⟩; subst hw) | (go_at_call 21; refine (live6_any _).mono ?_; rintro e w2 ⟨rfl, hb2⟩))
      go_ret
      exact ⟨rfl, hb2⟩
    · cases hm : mayB T
      · obtain ⟨ta, tc, rfl⟩ := hT.shape
        have HT := hideG hT
        have HS := hideG (small_sane (few_small hs))
        clear hT
        go_enter Try.func9, Try.ntmps9
        go_wp2_with (first | (go_at_call 15; refine (refFew_any T _ _ HT.out).mono ?_; rintro e w1 ⟨rfl, hw⟩; subst hw) | (go_at_call 33; refine (refMay_walk T HS.out _ _ HT.out).mono ?_; rintro e w1 ⟨rfl, hb1⟩; have HB1 := hideG hb1; clear hb1) | (go_at_call 21; refine (live6_any _).mono ?_; rintro e w2 ⟨rfl, hb2⟩; have HB2 := hideG (HB1.out.trans (hb2.mono HB1.out.size)); clear hb2))
        go_ret
        exact ⟨rfl, HB2.out⟩
      · obtain ⟨tb, to, tc, rfl, _⟩ := hT.at (by have := mayB_pos hm; omega)
        exact flatHosts_yes T tb to tc w hT hs h16 hm
end Go.Proofs.Ytahnkhgaopaaoaa
