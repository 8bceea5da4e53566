/- SlotsOnce, walked. -/
import Derived.Test.YtnbnijhdmnoelaaS5Tell
namespace Go.Proofs.Ytnbnijhdmnoelaa
open Go.RowKit

theorem place_mem {T : List Nd} {r : Nat} {k : Int} {s : Nat} (h : placeI T r k = (s : Int)) : s ∈ slotsN T r := by
  cases hman : manB T (r : Int)
  · rw [place_nam hman] at h
    unfold byNameI at h
    split at h
    · omega
    · rename_i hge
      have hlt : (indexI (namesI T r) (nameI T k)).toNat < (slotsN T r).length := by
        have : indexI (namesI T r) (nameI T k) < ((namesI T r).length : Int) := by
          unfold indexI at hge ⊢
          split <;> omega
        rw [namesI_len] at this
        omega
      rw [castL_getD _ hlt] at h
      have : (slotsN T r).getD (indexI (namesI T r) (nameI T k)).toNat 0 = s := by omega
      rw [← this]; exact getD_mem hlt
  · rw [place_man hman] at h
    unfold byNumI at h
    split at h
    · rename_i hc
      rw [Bool.and_eq_true] at hc
      rw [h] at hc
      have := hc.2
      rw [contains_castL] at this
      exact of_decide_eq_true this
    · omega
/-- Who lies in a slot, by the slot and by the kid. -/
theorem asg_iff {T : List Nd} (hm : mayB T = true) {n s : Nat} (hn : n < T.length) (hs : s < T.length) : (n : Int) ∈ asgI T (s : Int) ↔ ofN T n = (s : Int) := by
  constructor
  · intro h
    unfold asgI at h
    split at h
    · rename_i hc
      rw [Int.toNat_natCast] at h hc
      simp only [Bool.and_eq_true] at hc
      have hk : (nd T (topN T s)).kind = 3 := by simpa using hc.1.2
      have htl := top_lt hm hs
      obtain ⟨q, hql, hho, _, _⟩ := fine_host (mayB_fine hm) htl hk
      rw [hho, Int.toNat_natCast] at h
      unfold asgN at h
      obtain ⟨h1, h2⟩ := List.mem_filter.mp h
      obtain ⟨m, e, _, hof⟩ := of_kid hm htl hk hho hql h1
      have : n = m := by omega
      subst this
      rw [hof]; simpa using h2
    · simp at h
  · intro h
    unfold ofN at h
    split at h
    · omega
    · rename_i hp
      split at h
      · omega
      · rename_i hr
        have hp' : ((nd T n).parent == -1) = false := by simpa using hp
        have hr' : ((nd T (nd T n).parent.toNat).root == -1) = false := by simpa using hr
        rcases (mayB_fine hm).par n hn with e | ⟨p, hpl, e, hmem⟩
        · rw [e] at hp'; simp at hp'
        · rw [e, Int.toNat_natCast] at h hr'
          obtain ⟨r, hrr, hrl, hk, hho⟩ := root_facts (mayB_fine hm) hpl hr'
          rw [hrr, Int.toNat_natCast] at h
          have hsm := place_mem h
          obtain ⟨hsd, htag⟩ := List.mem_filter.mp hsm
          obtain ⟨_, hpar, _⟩ := (forest3 hm).d_segment hrl hsd
          have ht : topN T s = r := by rw [← top_eq hm hs hpar, top_shadow hm hrl hk]
          unfold asgI
          rw [known_of hm hs, Int.toNat_natCast, ht, hk, htag, hho, Int.toNat_natCast]
          show (n : Int) ∈ asgN T r p (s : Int)
          unfold asgN
          refine List.mem_filter.mpr ⟨hmem, ?_⟩
          rw [h]; simp
theorem asg_contains {T : List Nd} (hm : mayB T = true) {n s : Nat} (hn : n < T.length) (hs : s < T.length) : containsB (asgI T (s : Int)) (n : Int) = (ofN T n == (s : Int)) := by
  unfold containsB
  cases h : (ofN T n == (s : Int))
  · exact decide_eq_false (fun h' => by rw [(asg_iff hm hn hs).mp h'] at h; simp at h)
  · exact decide_eq_true ((asg_iff hm hn hs).mpr (by simpa using h))
/-- Whoever lies in a slot is a kid of the slot's host. -/
theorem of_facts {T : List Nd} (hm : mayB T = true) {n s : Nat} (hn : n < T.length) (hs : s < T.length) (h : ofN T n = (s : Int)) : ∃ p : Nat, p < T.length ∧ (nd T n).parent = (p : Int) ∧ (nd T p).root = (topN T s : Int) := by
  unfold ofN at h
  split at h
  · omega
  · rename_i hp
    split at h
    · omega
    · rename_i hr
      have hp' : ((nd T n).parent == -1) = false := by simpa using hp
      have hr' : ((nd T (nd T n).parent.toNat).root == -1) = false := by simpa using hr
      rcases (mayB_fine hm).par n hn with e | ⟨p, hpl, e, hmem⟩
      · rw [e] at hp'; simp at hp'
      · rw [e, Int.toNat_natCast] at h hr'
        obtain ⟨r, hrr, hrl, hk, hho⟩ := root_facts (mayB_fine hm) hpl hr'
        rw [hrr, Int.toNat_natCast] at h
        obtain ⟨hsd, htag⟩ := List.mem_filter.mp (place_mem h)
        obtain ⟨_, hpar, _⟩ := (forest3 hm).d_segment hrl hsd
        have ht : topN T s = r := by rw [← top_eq hm hs hpar, top_shadow hm hrl hk]
        exact ⟨p, hpl, e, by rw [hrr, ht]⟩

set_option maxRecDepth 100000 in
set_option maxHeartbeats 8000000 in
theorem s5once_yes (T : List Nd) (tb to tc : Nat) (w : World) (hT : TreeAt w (.slice (some ⟨tb, to, none⟩) T.length tc) T) (hs : fewB T = true) (h16 : ¬ (16 : Int) < (T.length : Int)) (hm : mayB T = true) :
    Calls Try.prog 14 #[.slice (some ⟨tb, to, none⟩) T.length tc] w fun e w' => e = .returned (.bool true) ∧ Below w.heap.size w w' := by
  have hpos := mayB_pos hm
  have HT0 := hideG hT
  have HS := hideG (small_sane (few_small hs))
  have HM := hideG hm
  have HCO := hideG (show ∀ n s : Nat, n < T.length → s < T.length → containsB (asgI T (s : Int)) (n : Int) = (ofN T n == (s : Int)) from fun n s hn hs => asg_contains hm hn hs)
  have HFA := hideG (show ∀ n s : Nat, n < T.length → s < T.length → ofN T n = (s : Int) → ∃ p : Nat, p < T.length ∧ (nd T n).parent = (p : Int) ∧ (nd T p).root = (topN T s : Int) from fun n s hn hs h => of_facts hm hn hs h)
  have HOF := hideG (show ∀ n : Nat, n < T.length → ofI T (n : Int) = ofN T n from fun n hn => ofI_known hm hn)
  clear hT hm
  go_enter Try.func14, Try.ntmps14
  go_wp2_with fail
  refine (refFew_any T _ _ HT0.out).mono ?_
  rintro e wz ⟨rfl, hwz⟩
  subst hwz
  go_wp2_with fail
  refine (refMay_walk T HS.out _ _ HT0.out).mono ?_
  rintro e w1 ⟨rfl, hb1⟩
  have HT1 := hideG (HT0.out.below hb1)
  have HB1 := hideG hb1
  clear hb1
  rw [HM.out]
  go_wp2_with fail
  go_loopw [3] (fun i wr => ∃ k : Nat, k ≤ T.length ∧ i = .int .i64 k ∧ Below w1.heap.size w1 wr) (fun i _ => T.length - (intOf i).toNat)
  case atStart => exact ⟨0, Nat.zero_le _, rfl, Below.refl _ _⟩
  case round =>
    obtain ⟨k, hk, rfl, hB⟩ := hrel
    have HBk := hideG hB
    clear hB
    by_cases hlt : k < T.length
    · have HOk := hideG (HOF.out k hlt)
      go_wp2_with fail
      refine (slotOf_any T HS.out _ _ _ (HT1.out.below HBk.out)).mono ?_
      rintro e w2 ⟨rfl, hb2⟩
      rw [HOk.out]
      have HB2 := hideG (HBk.out.trans (hb2.mono HBk.out.size))
      have HT2 := hideG (HT1.out.below HB2.out)
      have HCk := hideG (show ∀ s : Nat, s < T.length → containsB (asgI T (s : Int)) (k : Int) = (ofN T k == (s : Int)) from fun s hs => HCO.out k s hlt hs)
      have HFk := hideG (show ∀ s : Nat, s < T.length → ofN T k = (s : Int) → ∃ p : Nat, p < T.length ∧ (nd T k).parent = (p : Int) ∧ (nd T p).root = (topN T s : Int) from fun s hs => HFA.out k s hlt hs)
      clear hb2 HOk
      generalize ofN T k = ok at *
      go_wp2_with fail
      go_loopw [5] (fun j wr => ∃ q : Nat, q ≤ T.length ∧ j = .int .i64 q ∧ Below w2.heap.size w2 wr) (fun j _ => T.length - (intOf j).toNat)
      case atStart => exact ⟨0, Nat.zero_le _, rfl, Below.refl _ _⟩
      case round =>
        obtain ⟨q, hq, rfl, hBq⟩ := hrel
        have HBq := hideG hBq
        clear hBq
        by_cases hltq : q < T.length
        · have hco := HCk.out q hltq
          have HAL := hideG (show (asgI T (q : Int)).length ≤ 1000000 by have := asgI_le (T := T) (q : Int); omega)
          cases hbq : (ok == (q : Int))
          · rw [hbq] at hco
            have HCq := hideG hco
            clear hco
            go_wp2_with fail
            refine (assigned_any T HS.out _ _ _ (HT2.out.below HBq.out)).mono ?_
            rintro e w3 ⟨a3, c3, rfl, ho3, hb3⟩
            have HL3 := hideG (ownsRow_ints ho3)
            have HB3 := hideG (HBq.out.trans (hb3.mono HBq.out.size))
            clear ho3 hb3
            generalize asgI T (q : Int) = la at *
            go_wp2_with fail
            refine (refIn_any la _ _ _ HL3.out HAL.out).mono ?_
            rintro e w4 ⟨rfl, hw4⟩
            subst hw4
            rw [HCq.out]
            go_wp2_with fail
            refine wp_region_calm (by kernel_rfl) (by kernel_rfl) ?_
            repeat (go_big_quiet_step (fail))
            refine wpQuiet_nil ?_
            intro _ hw'
            obtain ⟨dq, hw''⟩ := hw'
            subst hw''
            have HB5 := hideG (HB3.out.trans (dq.below.mono HB3.out.size))
            generalize dq.to = w5 at *
            clear dq
            go_wp2_with fail
            go_roundw
            case rel => exact ⟨q + 1, by omega, by go_num, HB5.out⟩
            case measure => simp [intOf]; omega
          · rw [hbq] at hco
            have HCq := hideG hco
            obtain ⟨p, hpl, hpp, hpr⟩ := HFk.out q hltq (by simpa using hbq)
            clear hco
            go_wp2_with fail
            refine (assigned_any T HS.out _ _ _ (HT2.out.below HBq.out)).mono ?_
            rintro e w3 ⟨a3, c3, rfl, ho3, hb3⟩
            have HL3 := hideG (ownsRow_ints ho3)
            have HB3 := hideG (HBq.out.trans (hb3.mono HBq.out.size))
            clear ho3 hb3
            generalize asgI T (q : Int) = la at *
            go_wp2_with fail
            refine (refIn_any la _ _ _ HL3.out HAL.out).mono ?_
            rintro e w4 ⟨rfl, hw4⟩
            subst hw4
            rw [HCq.out]
            have HT4 := hideG (HT2.out.below HB3.out)
            obtain ⟨tb', to', tc', htv, hct⟩ := HT4.out.at (by omega)
            simp only [Value.slice.injEq, Option.some.injEq, Addr.mk.injEq, and_true, true_and] at htv
            obtain ⟨⟨rfl, rfl⟩, rfl⟩ := htv
            obtain ⟨kv, av, hN⟩ := hct k hlt
            obtain ⟨kv', av', hP⟩ := hct p hpl
            have g2 := hN.parent
            rw [hpp] at g2
            have g5 := hP.root
            rw [hpr] at g5
            have htb : tb < w4.heap.size := below_of_cell g2
            have hp1 : (0 : Int) ≤ (p : Int) := by omega
            have hk1 : (0 : Int) ≤ (k : Int) := by omega
            have htt : ((topN T q : Int) != (topN T q : Int)) = false := by simp
            have HF4 := hideG (show ∀ U, Below w4.heap.size w4 U → Calls Try.prog 37 #[.slice (some ⟨tb, to, none⟩) T.length tc, .int .i64 (q : Int)] U fun e w' => e = .returned (.int .i64 (topN T q : Int)) ∧ Below w4.heap.size w4 w' from fun U hU => by
              refine (refTop3_any T HM.out _ q hltq _ (HT4.out.below hU)).mono ?_
              rintro e w' ⟨rfl, hb⟩
              exact ⟨rfl, hU.trans (hb.mono hU.size)⟩)
            have hcc : ∀ (d : Calm w4) (b o : Nat), b < w4.heap.size → d.to.cell? ⟨b, o, none⟩ = w4.cell? ⟨b, o, none⟩ := calmCell
            clear hct hN hP hpp hpr
            go_wp2_with fail
            have hpd : decide ((p : Int) < 0) = false := decide_eq_false (by omega)
            refine wp_region_calm (by kernel_rfl) (by kernel_rfl) ?_
            repeat (go_big_quiet_step (first | (go_at_call 37; refine Calls.mono (HF4.out _ (Calm.below _)) ?_; rintro e w1 ⟨rfl, hb⟩; exact ⟨rfl, ⟨w1, hb⟩, rfl⟩)))
            refine wpQuiet_nil ?_
            intro _ hw'
            obtain ⟨dq, hw''⟩ := hw'
            subst hw''
            have HB5 := hideG (HB3.out.trans (dq.below.mono HB3.out.size))
            generalize dq.to = w5 at *
            clear dq hcc
            go_wp2_with fail
            go_roundw
            case rel => exact ⟨q + 1, by omega, by go_num, HB5.out⟩
            case measure => simp [intOf]; omega
        · have HBE := hideG (HB2.out.trans (HBq.out.mono HB2.out.size))
          go_wp2_with fail
          go_roundw
          case rel => exact ⟨k + 1, by omega, by go_num, HBE.out⟩
          case measure => simp [intOf]; omega
    · have HB3 := hideG (HB1.out.trans (HBk.out.mono HB1.out.size))
      go_wp2_with fail
      refine (live5_any _).mono ?_
      rintro e w7 ⟨rfl, hb7⟩
      have HB7 := hideG (HB3.out.trans (hb7.mono HB3.out.size))
      clear hb7
      go_wp2_with fail
      go_ret
      exact ⟨rfl, HB7.out⟩

set_option maxRecDepth 100000 in
set_option maxHeartbeats 4000000 in
theorem s5once_walk (T : List Nd) (v : Value) (w : World) (hT : TreeAt w v T) :
    Calls Try.prog 14 #[v] w fun e w' => e = .returned (.bool true) ∧ Below w.heap.size w w' := by
  cases hs : fewB T
  · obtain ⟨ta, tc, rfl⟩ := hT.shape
    have HT := hideG hT
    clear hT
    go_enter Try.func14, Try.ntmps14
    go_wp2_with (first | (go_at_call 42; refine (refFew_any T _ _ HT.out).mono ?_; rintro e w1 ⟨rfl, rfl⟩) | (go_at_call 56; refine (live5_any _).mono ?_; rintro e w2 ⟨rfl, hb2⟩))
    go_ret
    exact ⟨rfl, hb2⟩
  · by_cases h16 : (16 : Int) < (T.length : Int)
    · obtain ⟨ta, tc, rfl⟩ := hT.shape
      have HT := hideG hT
      clear hT
      go_enter Try.func14, Try.ntmps14
      go_wp2_with (first | (go_at_call 42; refine (refFew_any T _ _ HT.out).mono ?_; rintro e w1 ⟨rfl, hw⟩; subst hw) | (go_at_call 56; refine (live5_any _).mono ?_; rintro e w2 ⟨rfl, hb2⟩))
      go_ret
      exact ⟨rfl, hb2⟩
    · cases hm : mayB T
      · obtain ⟨ta, tc, rfl⟩ := hT.shape
        have HT := hideG hT
        have HS := hideG (small_sane (few_small hs))
        clear hT
        go_enter Try.func14, Try.ntmps14
        go_wp2_with (first | (go_at_call 42; refine (refFew_any T _ _ HT.out).mono ?_; rintro e w1 ⟨rfl, hw⟩; subst hw) | (go_at_call 63; refine (refMay_walk T HS.out _ _ HT.out).mono ?_; rintro e w1 ⟨rfl, hb1⟩; have HB1 := hideG hb1; clear hb1) | (go_at_call 56; refine (live5_any _).mono ?_; rintro e w2 ⟨rfl, hb2⟩; have HB2 := hideG (HB1.out.trans (hb2.mono HB1.out.size)); clear hb2))
        go_ret
        exact ⟨rfl, HB2.out⟩
      · obtain ⟨tb, to, tc, rfl, _⟩ := hT.at (by have := mayB_pos hm; omega)
        exact s5once_yes T tb to tc w hT hs h16 hm

end Go.Proofs.Ytnbnijhdmnoelaa
