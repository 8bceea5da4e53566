/- FlatPlain, walked. -/
import Derived.Test.YtahnkhgaopaaoaaF6Tell
namespace Go.Proofs.Ytahnkhgaopaaoaa
open Go.RowKit

theorem plain_facts {T : List Nd} (hm : mayB T = true) (h : ∀ n, n < T.length → ((nd T n).kind == 3) = false) : (∀ n, n < T.length → kidsF T n = (nd T n).kids) ∧ (∀ n, n < T.length → parF T n = (nd T n).parent) ∧ (∀ n, n < T.length → dnFl T n = dn T n) ∧ ∀ n, n < T.length → upF T n = pars T n := by
  have hroot : ∀ n, n < T.length → (nd T n).root = -1 := fun n hn => by
    rcases rootP_iff.mp ((mayB_fine hm).root n hn) with e | ⟨_, r, hrl, _, hk, _⟩
    · exact e
    · have := h r hrl
      rw [hk] at this; simp at this
  have hasg : ∀ n : Nat, n < T.length → asgI T (n : Int) = [] := fun n hn => asg_none hm hn (by rw [h _ (top_lt hm hn)]; rfl)
  have hkids : ∀ n, n < T.length → kidsF T n = (nd T n).kids := fun n hn => by
    unfold kidsF
    rw [h n hn, hroot n hn, hasg n hn]; rfl
  have hpar : ∀ n, n < T.length → parF T n = (nd T n).parent := fun n hn => by
    rcases (mayB_fine hm).par n hn with e | ⟨p, hpl, e, _⟩
    · unfold parF; rw [e]; rfl
    · have e1 : ((p : Int) == -1) = false := by simp
      unfold parF
      rw [e, e1, Int.toNat_natCast, h p hpl, hroot p hpl, hasg p hpl]; rfl
  have hx := (forest6 hm).ext (forest3 hm) (fun n hn => by unfold chF chK; rw [hkids n hn])
  exact ⟨hkids, hpar, hx.1, hx.2⟩

set_option maxRecDepth 100000 in
set_option maxHeartbeats 8000000 in
theorem flatPlain_yes (T : List Nd) (tb to tc : Nat) (w : World) (hT : TreeAt w (.slice (some ⟨tb, to, none⟩) T.length tc) T) (hs : fewB T = true) (hm : mayB T = true) (hns : ∀ n, n < T.length → ((nd T n).kind == 3) = false) :
    Calls Try.prog 8 #[.slice (some ⟨tb, to, none⟩) T.length tc] w fun e w' => e = .returned (.bool true) ∧ Below w.heap.size w w' := by
  have hpos := mayB_pos hm
  have HT0 := hideG hT
  have HS := hideG (small_sane (few_small hs))
  have HM := hideG hm
  obtain ⟨hf1, hf2, hf3, hf4⟩ := plain_facts hm hns
  have HF1 := hideG hf1
  have HF2 := hideG hf2
  have HF4 := hideG hf4
  have hk0 := known_of hm (n := 0) (by omega)
  have E1 := hideG (show flistI T = castL (dn T 0) by unfold flistI; rw [show knownB T [0] = true from hk0, ← hf3 0 (by omega)]; rfl)
  have hl1 := hideG (show (castL (dn T 0)).length ≤ 1000 by have := dnFl_le hm (n := 0) (by omega); rw [hf3 0 (by omega)] at this; rw [castL_length]; omega)
  have HNS := hideG hns
  clear hT hm hf1 hf2 hf3 hf4 hk0 hns
  go_enter Try.func8, Try.ntmps8
  go_wp2_with fail
  refine (refFew_any T _ _ HT0.out).mono ?_
  rintro e wz ⟨rfl, hwz⟩
  subst hwz
  go_wp2_with fail
  refine (refMay_walk T HS.out _ _ HT0.out).mono ?_
  rintro e w1 ⟨rfl, hb1⟩
  rw [HM.out]
  have HT1 := hideG (HT0.out.below hb1)
  have HB1 := hideG hb1
  clear hb1
  go_wp2_with fail
  go_loopw [3] (fun i wr => ∃ k : Nat, k ≤ T.length ∧ i = .int .i64 k ∧ w1 = wr) (fun i _ => T.length - (intOf i).toNat)
  case atStart => exact ⟨0, Nat.zero_le _, rfl, rfl⟩
  case round =>
    obtain ⟨k, hk, rfl, rfl⟩ := hrel
    by_cases hlt : k < T.length
    · obtain ⟨tb', to', tc', htv, hct⟩ := HT1.out.at (by omega)
      simp only [Value.slice.injEq, Option.some.injEq, Addr.mk.injEq, and_true, true_and] at htv
      obtain ⟨⟨rfl, rfl⟩, rfl⟩ := htv
      obtain ⟨kv, av, hN⟩ := hct k hlt
      have g0 := hN.kind
      have hkk := HNS.out k hlt
      have hk0 : (0 : Int) ≤ (k : Int) := by omega
      clear hct hN
      go_wp2_with fail
      go_roundw
      case rel => exact ⟨k + 1, by omega, by go_num, by first | trivial | rfl⟩
      case measure => simp [intOf]; omega
    · go_wp2_with fail
      go_loopw [4] (fun i wr => ∃ k : Nat, k ≤ T.length ∧ i = .int .i64 k ∧ Below w1.heap.size w1 wr) (fun i _ => T.length - (intOf i).toNat)
      case atStart => exact ⟨0, Nat.zero_le _, rfl, Below.refl _ _⟩
      case round =>
        obtain ⟨q, hq, rfl, hB⟩ := hrel
        have HBq := hideG hB
        clear hB
        by_cases hltq : q < T.length
        · have HTq := hideG (HT1.out.below HBq.out)
          obtain ⟨tb', to', tc', htv, hct⟩ := HTq.out.at (by omega)
          simp only [Value.slice.injEq, Option.some.injEq, Addr.mk.injEq, and_true, true_and] at htv
          obtain ⟨⟨rfl, rfl⟩, rfl⟩ := htv
          obtain ⟨kv, av, hN⟩ := hct q hltq
          have g2 := hN.parent
          have g3 := hN.kidsc
          obtain ⟨kka, kkc, hkv⟩ := hN.kids.shape
          subst hkv
          have HKI := hideG hN.kids
          have hq0 : (0 : Int) ≤ (q : Int) := by omega
          have hkn := known_of HM.out hltq
          have h64 := kidsF_le HM.out hltq
          rw [HF1.out q hltq] at h64
          have h6 : (nd T q).kids.length ≤ 1000 := by omega
          have hu6 : (castL (pars T q)).length ≤ 1000 := by have h1 := pars_le T q; rw [castL_length]; omega
          have HP := hideG (show ∀ U, Below wr.heap.size wr U → Calls Try.prog 24 #[.slice (some ⟨tb, to, none⟩) T.length tc, .int .i64 (q : Int)] U (fun e w' => e = .returned (.int .i64 (nd T q).parent) ∧ Below wr.heap.size wr w') from fun U hU => by
            refine (flatParent_any T HS.out _ _ _ (HTq.out.below hU)).mono ?_
            rintro e w' ⟨rfl, hb⟩
            refine ⟨?_, hU.trans (hb.mono hU.size)⟩
            unfold fparI; rw [hkn, Int.toNat_natCast, HF2.out q hltq]; rfl)
          have HK := hideG (show ∀ U, Below wr.heap.size wr U → Calls Try.prog 23 #[.slice (some ⟨tb, to, none⟩) T.length tc, .int .i64 (q : Int)] U (fun e w' => ∃ a c, e = .returned (.slice a (nd T q).kids.length c) ∧ IntsAt w' (.slice a (nd T q).kids.length c) (nd T q).kids ∧ Below wr.heap.size wr w') from fun U hU => by
            refine (flatKids_any T HS.out _ _ _ (HTq.out.below hU)).mono ?_
            have he : fkidsI T (q : Int) = (nd T q).kids := by unfold fkidsI; rw [hkn, Int.toNat_natCast, HF1.out q hltq]; rfl
            rw [he]
            rintro e w' ⟨a, c, rfl, ho, hb⟩
            exact ⟨a, c, rfl, ownsRow_ints ho, hU.trans (hb.mono hU.size)⟩)
          have HU := hideG (show ∀ U, Below wr.heap.size wr U → Calls Try.prog 25 #[.slice (some ⟨tb, to, none⟩) T.length tc, .int .i64 (q : Int)] U (fun e w' => ∃ a c, e = .returned (.slice a (castL (pars T q)).length c) ∧ IntsAt w' (.slice a (castL (pars T q)).length c) (castL (pars T q)) ∧ Below wr.heap.size wr w') from fun U hU => by
            refine (flatUp_any T HS.out _ _ _ (HTq.out.below hU)).mono ?_
            have he : fupI T (q : Int) = castL (pars T q) := by unfold fupI; rw [hkn, Int.toNat_natCast, HF4.out q hltq]; rfl
            rw [he]
            rintro e w' ⟨a, c, rfl, ho, hb⟩
            exact ⟨a, c, rfl, ownsRow_ints ho, hU.trans (hb.mono hU.size)⟩)
          have HIA := hideG (show ∀ U v v' L, Below wr.heap.size wr U → IntsAt U v L → IntsAt U v' L → L.length ≤ 1000 → Calls Try.prog 27 #[v, v'] U (fun e w' => e = .returned (.bool true) ∧ Below wr.heap.size wr w') from fun U v v' L hU hi hi' h6 => by
            refine (lints _ _ true h6 (by simp) _ _ _ hi hi').mono ?_
            rintro e w' ⟨rfl, hb⟩
            exact ⟨rfl, hU.trans (hb.mono hU.size)⟩)
          have HU3 := hideG (show ∀ U, Below wr.heap.size wr U → Calls Try.prog 38 #[.slice (some ⟨tb, to, none⟩) T.length tc, .int .i64 (q : Int)] U (fun e w' => ∃ a c, e = .returned (.slice a (castL (pars T q)).length c) ∧ IntsAt w' (.slice a (castL (pars T q)).length c) (castL (pars T q)) ∧ Below U.heap.size U w' ∧ Below wr.heap.size wr w') from fun U hU => by
            refine (refUp3_any T HM.out _ q hltq _ (HTq.out.below hU)).mono ?_
            rintro e w' ⟨a, c, rfl, ho, hb⟩
            exact ⟨a, c, rfl, ownsRow_ints ho, hb, hU.trans (hb.mono hU.size)⟩)
          have htb : tb < wr.heap.size := below_of_cell g2
          clear hct hN hkn h64
          go_wp2_with fail
          go_region_held3 (fun w' => Below wr.heap.size wr w' ∧ w'.cell? ⟨tb, to + q * 7 + 2, none⟩ = some (.int .i64 (nd T q).parent) ∧ w'.cell? ⟨tb, to + q * 7 + 3, none⟩ = some (.slice kka (nd T q).kids.length kkc)) ((refine ⟨?_, ?_, ?_⟩ <;> first | assumption | exact below_drew' (Below.refl _ _) | exact below_drew' (by assumption) | exact cell_below (by assumption) g2 | exact cell_below (by assumption) g3 | go_keep)) (first | (go_at_call 24; refine (HP.out _ ?_).mono ?_; (first | assumption | exact below_drew' (Below.refl _ _) | exact below_drew' (by assumption)); rintro e w' ⟨rfl, hb1⟩) | (go_at_call 23; refine (HK.out _ ?_).mono ?_; (first | assumption | exact below_drew' (by assumption)); rintro e w' ⟨a2, c2, rfl, hi2, hb2⟩) | (go_at_call 25; refine (HU.out _ ?_).mono ?_; (first | assumption | exact below_drew' (by assumption)); rintro e w' ⟨a4, c4, rfl, hi4, hb4⟩) | (go_at_call 38; refine (HU3.out _ ?_).mono ?_; (first | assumption | exact below_drew' (by assumption)); rintro e w' ⟨a5, c5, rfl, hi5, hc5, hb5⟩) | (go_at_call 27; refine Calls.mono (HIA.out _ _ _ _ (by first | assumption | exact below_drew' (by assumption)) (by first | assumption | exact ints_drew (by assumption) | exact IntsAt.below (by assumption) (by assumption)) (by first | assumption | exact HKI.out.below (by assumption)) (by assumption)) ?_; rintro e w' ⟨rfl, hb3⟩))
          have HB9 : Hid (Below wr.heap.size wr w') := by show Below _ _ _; assumption
          go_wp2_with fail
          go_roundw
          case rel => exact ⟨q + 1, by omega, by go_num, HBq.out.trans (HB9.out.mono HBq.out.size)⟩
          case measure => simp [intOf]; omega
        · have HTE := hideG (HT1.out.below HBq.out)
          have HBE := hideG (HB1.out.trans (HBq.out.mono HB1.out.size))
          go_wp2_with fail
          refine (flatList_any T HS.out _ _ HTE.out).mono ?_
          rintro e w3 ⟨a3, c3, rfl, ho3, hb3⟩
          rw [E1.out] at ho3 ⊢
          have HL3 := hideG (ownsRow_ints ho3)
          have HT3 := hideG (HTE.out.below hb3)
          have HB3 := hideG (HBE.out.trans (hb3.mono HBE.out.size))
          clear ho3 hb3
          go_wp2_with fail
          refine (refList3_any T HM.out _ 0 (by omega) _ HT3.out).mono ?_
          rintro e w4 ⟨a4, c4, rfl, ho4, hb4⟩
          generalize castL (dn T 0) = la at *
          have HL4 := hideG (ownsRow_ints ho4)
          have HL3' := hideG (HL3.out.below hb4)
          have HB4 := hideG (HB3.out.trans (hb4.mono HB3.out.size))
          clear ho4 hb4
          go_wp2_with fail
          refine (lints la la true hl1.out (by simp) _ _ _ HL3'.out HL4.out).mono ?_
          rintro e w5 ⟨rfl, hb5⟩
          have HB5 := hideG (HB4.out.trans (hb5.mono HB4.out.size))
          clear hb5
          go_wp2_with fail
          refine (live6_any _).mono ?_
          rintro e w6 ⟨rfl, hb6⟩
          have HB6 := hideG (HB5.out.trans (hb6.mono HB5.out.size))
          clear hb6
          go_wp2_with fail
          go_ret
          exact ⟨rfl, HB6.out⟩

set_option maxRecDepth 100000 in
set_option maxHeartbeats 4000000 in
theorem flatPlain_shadow (T : List Nd) (tb to tc : Nat) (w : World) (hT : TreeAt w (.slice (some ⟨tb, to, none⟩) T.length tc) T) (hs : fewB T = true) (hm : mayB T = true) (hsh : ∃ n, n < T.length ∧ ((nd T n).kind == 3) = true) :
    Calls Try.prog 8 #[.slice (some ⟨tb, to, none⟩) T.length tc] w fun e w' => e = .returned (.bool true) ∧ Below w.heap.size w w' := by
  have hpos := mayB_pos hm
  have HT0 := hideG hT
  have HS := hideG (small_sane (few_small hs))
  have HM := hideG hm
  obtain ⟨s, hsl, hsk⟩ := hsh
  have HSK := hideG hsk
  clear hT hm hsk
  go_enter Try.func8, Try.ntmps8
  go_wp2_with fail
  refine (refFew_any T _ _ HT0.out).mono ?_
  rintro e wz ⟨rfl, hwz⟩
  subst hwz
  go_wp2_with fail
  refine (refMay_walk T HS.out _ _ HT0.out).mono ?_
  rintro e w1 ⟨rfl, hb1⟩
  rw [HM.out]
  have HT1 := hideG (HT0.out.below hb1)
  have HB1 := hideG hb1
  clear hb1
  go_wp2_with fail
  go_loopw [3] (fun i wr => ∃ k : Nat, k ≤ s ∧ i = .int .i64 k ∧ w1 = wr) (fun i _ => T.length - (intOf i).toNat)
  case atStart => exact ⟨0, Nat.zero_le _, rfl, rfl⟩
  case round =>
    obtain ⟨k, hk, rfl, rfl⟩ := hrel
    have hlt : k < T.length := by omega
    obtain ⟨tb', to', tc', htv, hct⟩ := HT1.out.at (by omega)
    simp only [Value.slice.injEq, Option.some.injEq, Addr.mk.injEq, and_true, true_and] at htv
    obtain ⟨⟨rfl, rfl⟩, rfl⟩ := htv
    obtain ⟨kv, av, hN⟩ := hct k hlt
    have g0 := hN.kind
    have hk0 : (0 : Int) ≤ (k : Int) := by omega
    clear hct hN
    cases hkk : ((nd T k).kind == 3)
    · have hks : k < s := by
        rcases Nat.lt_or_ge k s with h | h
        · exact h
        · have : k = s := by omega
          subst this
          rw [HSK.out] at hkk; cases hkk
      go_wp2_with fail
      go_roundw
      case rel => exact ⟨k + 1, by omega, by go_num, by first | trivial | rfl⟩
      case measure => simp [intOf]; omega
    · go_wp2_with fail
      refine (live6_any _).mono ?_
      rintro e w6 ⟨rfl, hb6⟩
      have HB6 := hideG (HB1.out.trans (hb6.mono HB1.out.size))
      clear hb6
      go_wp2_with fail
      go_ret
      exact ⟨rfl, HB6.out⟩

set_option maxRecDepth 100000 in
set_option maxHeartbeats 4000000 in
theorem flatPlain_walk (T : List Nd) (v : Value) (w : World) (hT : TreeAt w v T) :
    Calls Try.prog 8 #[v] w fun e w' => e = .returned (.bool true) ∧ Below w.heap.size w w' := by
  cases hs : fewB T
  · obtain ⟨ta, tc, rfl⟩ := hT.shape
    have HT := hideG hT
    clear hT
    go_enter Try.func8, Try.ntmps8
    go_wp2_with (first | (go_at_call 15; refine (refFew_any T _ _ HT.out).mono ?_; rintro e w1 ⟨rfl, rfl⟩) | (go_at_call 21; refine (live6_any _).mono ?_; rintro e w2 ⟨rfl, hb2⟩))
    go_ret
    exact ⟨rfl, hb2⟩
  · cases hm : mayB T
    · obtain ⟨ta, tc, rfl⟩ := hT.shape
      have HT := hideG hT
      have HS := hideG (small_sane (few_small hs))
      clear hT
      go_enter Try.func8, Try.ntmps8
      go_wp2_with (first | (go_at_call 15; refine (refFew_any T _ _ HT.out).mono ?_; rintro e w1 ⟨rfl, hw⟩; subst hw) | (go_at_call 33; refine (refMay_walk T HS.out _ _ HT.out).mono ?_; rintro e w1 ⟨rfl, hb1⟩; have HB1 := hideG hb1; clear hb1) | (go_at_call 21; refine (live6_any _).mono ?_; rintro e w2 ⟨rfl, hb2⟩; have HB2 := hideG (HB1.out.trans (hb2.mono HB1.out.size)); clear hb2))
      go_ret
      exact ⟨rfl, HB2.out⟩
    · obtain ⟨tb, to, tc, rfl, _⟩ := hT.at (by have := mayB_pos hm; omega)
      by_cases hsh : ∃ n, n < T.length ∧ ((nd T n).kind == 3) = true
      · exact flatPlain_shadow T tb to tc w hT hs hm hsh
      · refine flatPlain_yes T tb to tc w hT hs hm (fun n hn => ?_)
        cases h : ((nd T n).kind == 3)
        · rfl
        · exact absurd ⟨n, hn, h⟩ hsh
end Go.Proofs.Ytahnkhgaopaaoaa
