/- ShadeLaws: the pure part. ShadeLaws, a third of its ways, walked. ShadeLaws, a third of its ways, walked. ShadeLaws, a third of its ways, walked. -/
import Derived.Test.YtoolkpjbbngdpaaRetMath
import Derived.Test.YtoolkpjbbngdpaaCalm
namespace Go.Proofs.Ytoolkpjbbngdpaa
open Go.RowKit

theorem sup_antisym {T : List Nd} (hm : mayB T = true) {a b : Nat} (ha : a < T.length) (hb : b < T.length) (h1 : a ∈ supN T b) (h2 : b ∈ supN T a) : a = b := by
  obtain ⟨p, hp⟩ := sup_suffix hm hb h1
  obtain ⟨q, hq⟩ := sup_suffix hm ha h2
  have e1 := congrArg List.length hp
  have e2 := congrArg List.length hq
  rw [List.length_append] at e1 e2
  have hp0 : p = [] := List.length_eq_zero_iff.mp (by omega)
  rw [hp0, List.nil_append] at hp
  have : b :: upsL T b = a :: upsL T a := hp
  injection this with h _
  exact h.symm
/-- Nobody is above the document. -/
theorem over_zero {T : List Nd} (hm : mayB T = true) : upsL T 0 = [] := by
  have hF := mayB_fine hm
  have hpos := hF.pos
  have hk := hF.kind 0 hpos
  have hk0 : (nd T 0).kind = 0 := by
    unfold kindFitsB at hk
    simp only [Int.natCast_zero, beq_self_eq_true, if_true, Bool.and_eq_true, beq_iff_eq] at hk
    exact hk.1
  apply upsL_none
  have h3 : (nd T 0).kind ≠ 3 := by rw [hk0]; decide
  rw [over_parent h3]
  rcases hF.par 0 hpos with e | ⟨p, hp, e, hmem⟩
  · rw [e]; rfl
  · obtain ⟨m, e1, _, hkk, _⟩ := kidP_iff.mp (hF.kid p hp _ hmem)
    obtain rfl : 0 = m := by omega
    rw [hk0] at hkk
    exact absurd hkk (by decide)
theorem sup_conn {T : List Nd} (hm : mayB T = true) {a b : Nat} (ha : a < T.length) (h0 : 0 ∈ supN T a) (hb : b ∈ supN T a) : 0 ∈ supN T b := by
  obtain ⟨p, hp⟩ := sup_suffix hm ha h0
  obtain ⟨q, hq⟩ := sup_suffix hm ha hb
  have h00 : supN T 0 = [0] := by unfold supN; rw [over_zero hm]
  rw [h00] at hp
  rw [hp] at hq
  have hl := congrArg (fun l => List.getLast? l) hq
  simp only [List.getLast?_append, List.getLast?_singleton] at hl
  have hne : supN T b ≠ [] := by unfold supN; simp
  obtain ⟨z, hz⟩ : ∃ z, (supN T b).getLast? = some z := ⟨_, List.getLast?_eq_some_getLast hne⟩
  rw [hz] at hl
  simp at hl
  subst hl
  exact List.mem_of_getLast? hz
theorem host_facts {T : List Nd} (hm : mayB T = true) {a : Nat} (ha : a < T.length) : hostS T (a : Int) = -1 ∨ ∃ h : Nat, h < T.length ∧ hostS T (a : Int) = (h : Int) ∧ h ∈ supN T a ∧ (nd T h).root = (topN T a : Int) := by
  have e : hostS T (a : Int) = (nd T (topN T a)).host := by unfold hostS; rw [known_of hm ha, if_pos rfl, Int.toNat_natCast]
  obtain ⟨htl, _, h3⟩ := sup_split hm ha
  rcases h3 with ⟨_, hh, _⟩ | ⟨hk, h, hl, hh, heq⟩
  · exact .inl (by rw [e, hh])
  · refine .inr ⟨h, hl, by rw [e, hh], ?_, fine_hostroot hm htl hk hh⟩
    show h ∈ a :: upsL T a
    rw [heq]
    exact List.mem_append.mpr (.inr (List.mem_cons_self ..))
end Go.Proofs.Ytoolkpjbbngdpaa
namespace Go.Proofs.Ytoolkpjbbngdpaa
open Go.RowKit

set_option maxRecDepth 100000 in
set_option maxHeartbeats 8000000 in
theorem laws_A (T : List Nd) (tb to tc a b c : Nat) (w : World) (hT : TreeAt w (.slice (some ⟨tb, to, none⟩) T.length tc) T) (hs : smallB T = true) (hm : mayB T = true) (ha : a < T.length) (hab : bothB T (a : Int) (b : Int) = true) (hbc : bothB T (b : Int) (c : Int) = true) (ne : ((a : Int) != (b : Int)) = false) (x1 : aboveS T (a : Int) (b : Int) = true) (hx2 : aboveS T (b : Int) (c : Int) = false ∨ (aboveS T (b : Int) (c : Int) = true ∧ aboveS T (a : Int) (c : Int) = true)) (hC : aboveS T 0 (a : Int) = false ∨ (aboveS T 0 (a : Int) = true ∧ aboveS T (b : Int) (a : Int) = true ∧ aboveS T 0 (b : Int) = true)) :
    Calls Try.prog 17 #[.slice (some ⟨tb, to, none⟩) T.length tc, .agg #[.int .i64 (a : Int), .int .i64 (b : Int), .int .i64 (c : Int)]] w fun e w' => e = .returned (.bool true) ∧ Below w.heap.size w w' := by
  have HA := hideG ((Below.refl _ w).alloc (Nat.le_refl _) (.cells #[.int .i64 (a : Int), .int .i64 (b : Int), .int .i64 (c : Int)] 58))
  have HT0 := hideG hT
  have HT := hideG (hT.below HA.out)
  have HS := hideG (small_sane hs)
  have h70 := (smallB_at hs).1
  have h6 : T.length ≤ 1000 := by omega
  have HAA := hideG ((above_iff hm ha).mpr (sup_self T a))
  have HM := hideG hm
  have hH := host_facts hm ha
  obtain ⟨tb', to', tc', htv, hct⟩ := hT.at (by omega)
  simp only [Value.slice.injEq, Option.some.injEq, Addr.mk.injEq, and_true, true_and] at htv
  obtain ⟨⟨rfl, rfl⟩, rfl⟩ := htv
  have HCT := hideG hct
  clear hT hct hm
  rcases hH with hh | ⟨h, hl, hh, hmem, hroot⟩
  · have HH := hideG hh
    clear hh
    rcases hx2 with x2 | ⟨x2, x3⟩ <;> rcases hC with cA | ⟨cA, x4, cB⟩
    all_goals
            go_enter Try.func17, Try.ntmps17
            go_wp2_with (go_at_call 19; refine (refSmall_any T _ _ HT.out).mono ?_; rintro e w1 ⟨rfl, hw⟩; subst hw)
            go_quiet (fail)
            have HBq := hideG (below_drewN HA.out nq)
            have HTq := hideG (HT0.out.below HBq.out)
            generalize (w.alloc (.cells #[.int .i64 (a : Int), .int .i64 (b : Int), .int .i64 (c : Int)] 58)).drewN nq = wq at *
            go_wp2_with (first | (go_at_call 38; refine (refBoth_any T HS.out _ _ _ _ HTq.out).mono ?_; rintro e wN ⟨rfl, hbN⟩; have HTn := hideG (HTq.out.below hbN); have HBn := hideG (HBq.out.trans (hbN.mono HBq.out.size)); clear hbN HTq HBq; have HTq := HTn; have HBq := HBn; clear HTn HBn) | (go_at_call 55; refine (shadeAbove_any T HS.out _ _ _ _ HTq.out h6).mono ?_; rintro e wN ⟨rfl, hbN⟩; have HTn := hideG (HTq.out.below hbN); have HBn := hideG (HBq.out.trans (hbN.mono HBq.out.size)); clear hbN HTq HBq; have HTq := HTn; have HBq := HBn; clear HTn HBn) | (go_at_call 59; refine (shadeConnected_any T HS.out _ _ _ HTq.out h6).mono ?_; rintro e wN ⟨rfl, hbN⟩; have HTn := hideG (HTq.out.below hbN); have HBn := hideG (HBq.out.trans (hbN.mono HBq.out.size)); clear hbN HTq HBq; have HTq := HTn; have HBq := HBn; clear HTn HBn) | (go_at_call 60; refine (shadeHost_any T HS.out _ _ _ HTq.out).mono ?_; rintro e wN ⟨rfl, hbN⟩; rw [HH.out]; have HTn := hideG (HTq.out.below hbN); have HBn := hideG (HBq.out.trans (hbN.mono HBq.out.size)); clear hbN HTq HBq; have HTq := HTn; have HBq := HBn; clear HTn HBn))
            have haa : aboveS T (a : Int) (a : Int) = true := HAA.out
            have HF1 := hideG (show ∀ w2, Below wN.heap.size wN w2 → ∀ x : Int, aboveS T x (a : Int) = true → Calls Try.prog 55 #[.slice (some ⟨tb, to, none⟩) T.length tc, .int .i64 x, .int .i64 (a : Int)] w2 fun e w' => e = .returned (.bool true) ∧ Below wN.heap.size wN w' from fun w2 h2 x hx => by
              refine (shadeAbove_any T HS.out _ _ _ _ (HTq.out.below h2) h6).mono ?_
              rintro e w' ⟨rfl, hb⟩
              exact ⟨by rw [hx], h2.trans (hb.mono h2.size)⟩)
            have HF2 := hideG (show ∀ w2, Below wN.heap.size wN w2 → Calls Try.prog 54 #[] w2 fun e w' => e = .returned (.bool true) ∧ Below wN.heap.size wN w' from fun w2 h2 => by
              refine (live4_any _).mono ?_
              rintro e w' ⟨rfl, hb⟩
              exact ⟨rfl, h2.trans (hb.mono h2.size)⟩)
            refine wp_region_calm (by kernel_rfl) (by kernel_rfl) ?_
            repeat (go_big_quiet_step (first | (go_at_call 55; refine Calls.mono (HF1.out _ (Calm.below _) _ (by simp only [haa])) ?_; rintro e w1 ⟨rfl, hb⟩; exact ⟨rfl, ⟨w1, hb⟩, rfl⟩) | (go_at_call 54; refine Calls.mono (HF2.out _ (Calm.below _)) ?_; rintro e w1 ⟨rfl, hb⟩; exact ⟨rfl, ⟨w1, hb⟩, rfl⟩)))
            refine wpQuiet_nil ?_
            intro _ hw'
            obtain ⟨dq, hw''⟩ := hw'
            subst hw''
            go_wp2_with fail
            go_ret
            exact ⟨rfl, HBq.out.trans (dq.below.mono HBq.out.size)⟩
  · have HH := hideG hh
    have hhne : ((h : Int) == -1) = false := by simp
    have HHA := hideG ((above_iff HM.out ha).mpr hmem)
    obtain ⟨kvh, avh, hNh⟩ := HCT.out h hl
    have g5 := hNh.root
    rw [hroot] at g5
    clear hh hmem hroot hNh
    rcases hx2 with x2 | ⟨x2, x3⟩ <;> rcases hC with cA | ⟨cA, x4, cB⟩
    all_goals
            go_enter Try.func17, Try.ntmps17
            go_wp2_with (go_at_call 19; refine (refSmall_any T _ _ HT.out).mono ?_; rintro e w1 ⟨rfl, hw⟩; subst hw)
            go_quiet (fail)
            have HBq := hideG (below_drewN HA.out nq)
            have HTq := hideG (HT0.out.below HBq.out)
            generalize (w.alloc (.cells #[.int .i64 (a : Int), .int .i64 (b : Int), .int .i64 (c : Int)] 58)).drewN nq = wq at *
            go_wp2_with (first | (go_at_call 38; refine (refBoth_any T HS.out _ _ _ _ HTq.out).mono ?_; rintro e wN ⟨rfl, hbN⟩; have HTn := hideG (HTq.out.below hbN); have HBn := hideG (HBq.out.trans (hbN.mono HBq.out.size)); clear hbN HTq HBq; have HTq := HTn; have HBq := HBn; clear HTn HBn) | (go_at_call 55; refine (shadeAbove_any T HS.out _ _ _ _ HTq.out h6).mono ?_; rintro e wN ⟨rfl, hbN⟩; have HTn := hideG (HTq.out.below hbN); have HBn := hideG (HBq.out.trans (hbN.mono HBq.out.size)); clear hbN HTq HBq; have HTq := HTn; have HBq := HBn; clear HTn HBn) | (go_at_call 59; refine (shadeConnected_any T HS.out _ _ _ HTq.out h6).mono ?_; rintro e wN ⟨rfl, hbN⟩; have HTn := hideG (HTq.out.below hbN); have HBn := hideG (HBq.out.trans (hbN.mono HBq.out.size)); clear hbN HTq HBq; have HTq := HTn; have HBq := HBn; clear HTn HBn) | (go_at_call 60; refine (shadeHost_any T HS.out _ _ _ HTq.out).mono ?_; rintro e wN ⟨rfl, hbN⟩; rw [HH.out]; have HTn := hideG (HTq.out.below hbN); have HBn := hideG (HBq.out.trans (hbN.mono HBq.out.size)); clear hbN HTq HBq; have HTq := HTn; have HBq := HBn; clear HTn HBn))
            have haa : aboveS T (a : Int) (a : Int) = true := HAA.out
            have HF1 := hideG (show ∀ w2, Below wN.heap.size wN w2 → ∀ x : Int, aboveS T x (a : Int) = true → Calls Try.prog 55 #[.slice (some ⟨tb, to, none⟩) T.length tc, .int .i64 x, .int .i64 (a : Int)] w2 fun e w' => e = .returned (.bool true) ∧ Below wN.heap.size wN w' from fun w2 h2 x hx => by
              refine (shadeAbove_any T HS.out _ _ _ _ (HTq.out.below h2) h6).mono ?_
              rintro e w' ⟨rfl, hb⟩
              exact ⟨by rw [hx], h2.trans (hb.mono h2.size)⟩)
            have HF2 := hideG (show ∀ w2, Below wN.heap.size wN w2 → Calls Try.prog 54 #[] w2 fun e w' => e = .returned (.bool true) ∧ Below wN.heap.size wN w' from fun w2 h2 => by
              refine (live4_any _).mono ?_
              rintro e w' ⟨rfl, hb⟩
              exact ⟨rfl, h2.trans (hb.mono h2.size)⟩)
            have hha : aboveS T (h : Int) (a : Int) = true := HHA.out
            have HF4 := hideG (show ∀ w2, Below wN.heap.size wN w2 → Calls Try.prog 48 #[.slice (some ⟨tb, to, none⟩) T.length tc, .int .i64 (a : Int)] w2 fun e w' => e = .returned (.int .i64 (topN T a : Int)) ∧ Below wN.heap.size wN w' from fun w2 h2 => by
              refine (refTop3_any T HM.out _ a ha _ (HTq.out.below h2)).mono ?_
              rintro e w' ⟨rfl, hb⟩
              exact ⟨rfl, h2.trans (hb.mono h2.size)⟩)
            have g5N := cell_below HBq.out g5
            have htbN : tb < wN.heap.size := below_of_cell g5N
            have hcc : ∀ (d : Calm wN) (b o : Nat), b < wN.heap.size → d.to.cell? ⟨b, o, none⟩ = wN.cell? ⟨b, o, none⟩ := calmCell
            refine wp_region_calm (by kernel_rfl) (by kernel_rfl) ?_
            repeat (go_big_quiet_step (first | (go_at_call 48; refine Calls.mono (HF4.out _ (Calm.below _)) ?_; rintro e w1 ⟨rfl, hb⟩; exact ⟨rfl, ⟨w1, hb⟩, rfl⟩) | (go_at_call 55; refine Calls.mono (HF1.out _ (Calm.below _) _ (by simp only [hha, haa])) ?_; rintro e w1 ⟨rfl, hb⟩; exact ⟨rfl, ⟨w1, hb⟩, rfl⟩) | (go_at_call 54; refine Calls.mono (HF2.out _ (Calm.below _)) ?_; rintro e w1 ⟨rfl, hb⟩; exact ⟨rfl, ⟨w1, hb⟩, rfl⟩)))
            refine wpQuiet_nil ?_
            intro _ hw'
            obtain ⟨dq, hw''⟩ := hw'
            subst hw''
            go_wp2_with fail
            go_ret
            exact ⟨rfl, HBq.out.trans (dq.below.mono HBq.out.size)⟩
end Go.Proofs.Ytoolkpjbbngdpaa
namespace Go.Proofs.Ytoolkpjbbngdpaa
open Go.RowKit

set_option maxRecDepth 100000 in
set_option maxHeartbeats 8000000 in
theorem laws_B (T : List Nd) (tb to tc a b c : Nat) (w : World) (hT : TreeAt w (.slice (some ⟨tb, to, none⟩) T.length tc) T) (hs : smallB T = true) (hm : mayB T = true) (ha : a < T.length) (hab : bothB T (a : Int) (b : Int) = true) (hbc : bothB T (b : Int) (c : Int) = true) (ne : ((a : Int) != (b : Int)) = true) (x1 : aboveS T (a : Int) (b : Int) = false) (hC : aboveS T 0 (a : Int) = false ∨ (aboveS T 0 (a : Int) = true ∧ aboveS T (b : Int) (a : Int) = false) ∨ (aboveS T 0 (a : Int) = true ∧ aboveS T (b : Int) (a : Int) = true ∧ aboveS T 0 (b : Int) = true)) :
    Calls Try.prog 17 #[.slice (some ⟨tb, to, none⟩) T.length tc, .agg #[.int .i64 (a : Int), .int .i64 (b : Int), .int .i64 (c : Int)]] w fun e w' => e = .returned (.bool true) ∧ Below w.heap.size w w' := by
  have HA := hideG ((Below.refl _ w).alloc (Nat.le_refl _) (.cells #[.int .i64 (a : Int), .int .i64 (b : Int), .int .i64 (c : Int)] 58))
  have HT0 := hideG hT
  have HT := hideG (hT.below HA.out)
  have HS := hideG (small_sane hs)
  have h70 := (smallB_at hs).1
  have h6 : T.length ≤ 1000 := by omega
  have HAA := hideG ((above_iff hm ha).mpr (sup_self T a))
  have HM := hideG hm
  have hH := host_facts hm ha
  obtain ⟨tb', to', tc', htv, hct⟩ := hT.at (by omega)
  simp only [Value.slice.injEq, Option.some.injEq, Addr.mk.injEq, and_true, true_and] at htv
  obtain ⟨⟨rfl, rfl⟩, rfl⟩ := htv
  have HCT := hideG hct
  clear hT hct hm
  rcases hH with hh | ⟨h, hl, hh, hmem, hroot⟩
  · have HH := hideG hh
    clear hh
    rcases hC with cA | ⟨cA, x4⟩ | ⟨cA, x4, cB⟩
    all_goals
            go_enter Try.func17, Try.ntmps17
            go_wp2_with (go_at_call 19; refine (refSmall_any T _ _ HT.out).mono ?_; rintro e w1 ⟨rfl, hw⟩; subst hw)
            go_quiet (fail)
            have HBq := hideG (below_drewN HA.out nq)
            have HTq := hideG (HT0.out.below HBq.out)
            generalize (w.alloc (.cells #[.int .i64 (a : Int), .int .i64 (b : Int), .int .i64 (c : Int)] 58)).drewN nq = wq at *
            go_wp2_with (first | (go_at_call 38; refine (refBoth_any T HS.out _ _ _ _ HTq.out).mono ?_; rintro e wN ⟨rfl, hbN⟩; have HTn := hideG (HTq.out.below hbN); have HBn := hideG (HBq.out.trans (hbN.mono HBq.out.size)); clear hbN HTq HBq; have HTq := HTn; have HBq := HBn; clear HTn HBn) | (go_at_call 55; refine (shadeAbove_any T HS.out _ _ _ _ HTq.out h6).mono ?_; rintro e wN ⟨rfl, hbN⟩; have HTn := hideG (HTq.out.below hbN); have HBn := hideG (HBq.out.trans (hbN.mono HBq.out.size)); clear hbN HTq HBq; have HTq := HTn; have HBq := HBn; clear HTn HBn) | (go_at_call 59; refine (shadeConnected_any T HS.out _ _ _ HTq.out h6).mono ?_; rintro e wN ⟨rfl, hbN⟩; have HTn := hideG (HTq.out.below hbN); have HBn := hideG (HBq.out.trans (hbN.mono HBq.out.size)); clear hbN HTq HBq; have HTq := HTn; have HBq := HBn; clear HTn HBn) | (go_at_call 60; refine (shadeHost_any T HS.out _ _ _ HTq.out).mono ?_; rintro e wN ⟨rfl, hbN⟩; rw [HH.out]; have HTn := hideG (HTq.out.below hbN); have HBn := hideG (HBq.out.trans (hbN.mono HBq.out.size)); clear hbN HTq HBq; have HTq := HTn; have HBq := HBn; clear HTn HBn))
            have haa : aboveS T (a : Int) (a : Int) = true := HAA.out
            have HF1 := hideG (show ∀ w2, Below wN.heap.size wN w2 → ∀ x : Int, aboveS T x (a : Int) = true → Calls Try.prog 55 #[.slice (some ⟨tb, to, none⟩) T.length tc, .int .i64 x, .int .i64 (a : Int)] w2 fun e w' => e = .returned (.bool true) ∧ Below wN.heap.size wN w' from fun w2 h2 x hx => by
              refine (shadeAbove_any T HS.out _ _ _ _ (HTq.out.below h2) h6).mono ?_
              rintro e w' ⟨rfl, hb⟩
              exact ⟨by rw [hx], h2.trans (hb.mono h2.size)⟩)
            have HF2 := hideG (show ∀ w2, Below wN.heap.size wN w2 → Calls Try.prog 54 #[] w2 fun e w' => e = .returned (.bool true) ∧ Below wN.heap.size wN w' from fun w2 h2 => by
              refine (live4_any _).mono ?_
              rintro e w' ⟨rfl, hb⟩
              exact ⟨rfl, h2.trans (hb.mono h2.size)⟩)
            refine wp_region_calm (by kernel_rfl) (by kernel_rfl) ?_
            repeat (go_big_quiet_step (first | (go_at_call 55; refine Calls.mono (HF1.out _ (Calm.below _) _ (by simp only [haa])) ?_; rintro e w1 ⟨rfl, hb⟩; exact ⟨rfl, ⟨w1, hb⟩, rfl⟩) | (go_at_call 54; refine Calls.mono (HF2.out _ (Calm.below _)) ?_; rintro e w1 ⟨rfl, hb⟩; exact ⟨rfl, ⟨w1, hb⟩, rfl⟩)))
            refine wpQuiet_nil ?_
            intro _ hw'
            obtain ⟨dq, hw''⟩ := hw'
            subst hw''
            go_wp2_with fail
            go_ret
            exact ⟨rfl, HBq.out.trans (dq.below.mono HBq.out.size)⟩
  · have HH := hideG hh
    have hhne : ((h : Int) == -1) = false := by simp
    have HHA := hideG ((above_iff HM.out ha).mpr hmem)
    obtain ⟨kvh, avh, hNh⟩ := HCT.out h hl
    have g5 := hNh.root
    rw [hroot] at g5
    clear hh hmem hroot hNh
    rcases hC with cA | ⟨cA, x4⟩ | ⟨cA, x4, cB⟩
    all_goals
            go_enter Try.func17, Try.ntmps17
            go_wp2_with (go_at_call 19; refine (refSmall_any T _ _ HT.out).mono ?_; rintro e w1 ⟨rfl, hw⟩; subst hw)
            go_quiet (fail)
            have HBq := hideG (below_drewN HA.out nq)
            have HTq := hideG (HT0.out.below HBq.out)
            generalize (w.alloc (.cells #[.int .i64 (a : Int), .int .i64 (b : Int), .int .i64 (c : Int)] 58)).drewN nq = wq at *
            go_wp2_with (first | (go_at_call 38; refine (refBoth_any T HS.out _ _ _ _ HTq.out).mono ?_; rintro e wN ⟨rfl, hbN⟩; have HTn := hideG (HTq.out.below hbN); have HBn := hideG (HBq.out.trans (hbN.mono HBq.out.size)); clear hbN HTq HBq; have HTq := HTn; have HBq := HBn; clear HTn HBn) | (go_at_call 55; refine (shadeAbove_any T HS.out _ _ _ _ HTq.out h6).mono ?_; rintro e wN ⟨rfl, hbN⟩; have HTn := hideG (HTq.out.below hbN); have HBn := hideG (HBq.out.trans (hbN.mono HBq.out.size)); clear hbN HTq HBq; have HTq := HTn; have HBq := HBn; clear HTn HBn) | (go_at_call 59; refine (shadeConnected_any T HS.out _ _ _ HTq.out h6).mono ?_; rintro e wN ⟨rfl, hbN⟩; have HTn := hideG (HTq.out.below hbN); have HBn := hideG (HBq.out.trans (hbN.mono HBq.out.size)); clear hbN HTq HBq; have HTq := HTn; have HBq := HBn; clear HTn HBn) | (go_at_call 60; refine (shadeHost_any T HS.out _ _ _ HTq.out).mono ?_; rintro e wN ⟨rfl, hbN⟩; rw [HH.out]; have HTn := hideG (HTq.out.below hbN); have HBn := hideG (HBq.out.trans (hbN.mono HBq.out.size)); clear hbN HTq HBq; have HTq := HTn; have HBq := HBn; clear HTn HBn))
            have haa : aboveS T (a : Int) (a : Int) = true := HAA.out
            have HF1 := hideG (show ∀ w2, Below wN.heap.size wN w2 → ∀ x : Int, aboveS T x (a : Int) = true → Calls Try.prog 55 #[.slice (some ⟨tb, to, none⟩) T.length tc, .int .i64 x, .int .i64 (a : Int)] w2 fun e w' => e = .returned (.bool true) ∧ Below wN.heap.size wN w' from fun w2 h2 x hx => by
              refine (shadeAbove_any T HS.out _ _ _ _ (HTq.out.below h2) h6).mono ?_
              rintro e w' ⟨rfl, hb⟩
              exact ⟨by rw [hx], h2.trans (hb.mono h2.size)⟩)
            have HF2 := hideG (show ∀ w2, Below wN.heap.size wN w2 → Calls Try.prog 54 #[] w2 fun e w' => e = .returned (.bool true) ∧ Below wN.heap.size wN w' from fun w2 h2 => by
              refine (live4_any _).mono ?_
              rintro e w' ⟨rfl, hb⟩
              exact ⟨rfl, h2.trans (hb.mono h2.size)⟩)
            have hha : aboveS T (h : Int) (a : Int) = true := HHA.out
            have HF4 := hideG (show ∀ w2, Below wN.heap.size wN w2 → Calls Try.prog 48 #[.slice (some ⟨tb, to, none⟩) T.length tc, .int .i64 (a : Int)] w2 fun e w' => e = .returned (.int .i64 (topN T a : Int)) ∧ Below wN.heap.size wN w' from fun w2 h2 => by
              refine (refTop3_any T HM.out _ a ha _ (HTq.out.below h2)).mono ?_
              rintro e w' ⟨rfl, hb⟩
              exact ⟨rfl, h2.trans (hb.mono h2.size)⟩)
            have g5N := cell_below HBq.out g5
            have htbN : tb < wN.heap.size := below_of_cell g5N
            have hcc : ∀ (d : Calm wN) (b o : Nat), b < wN.heap.size → d.to.cell? ⟨b, o, none⟩ = wN.cell? ⟨b, o, none⟩ := calmCell
            refine wp_region_calm (by kernel_rfl) (by kernel_rfl) ?_
            repeat (go_big_quiet_step (first | (go_at_call 48; refine Calls.mono (HF4.out _ (Calm.below _)) ?_; rintro e w1 ⟨rfl, hb⟩; exact ⟨rfl, ⟨w1, hb⟩, rfl⟩) | (go_at_call 55; refine Calls.mono (HF1.out _ (Calm.below _) _ (by simp only [hha, haa])) ?_; rintro e w1 ⟨rfl, hb⟩; exact ⟨rfl, ⟨w1, hb⟩, rfl⟩) | (go_at_call 54; refine Calls.mono (HF2.out _ (Calm.below _)) ?_; rintro e w1 ⟨rfl, hb⟩; exact ⟨rfl, ⟨w1, hb⟩, rfl⟩)))
            refine wpQuiet_nil ?_
            intro _ hw'
            obtain ⟨dq, hw''⟩ := hw'
            subst hw''
            go_wp2_with fail
            go_ret
            exact ⟨rfl, HBq.out.trans (dq.below.mono HBq.out.size)⟩
end Go.Proofs.Ytoolkpjbbngdpaa
namespace Go.Proofs.Ytoolkpjbbngdpaa
open Go.RowKit

set_option maxRecDepth 100000 in
set_option maxHeartbeats 8000000 in
theorem laws_C (T : List Nd) (tb to tc a b c : Nat) (w : World) (hT : TreeAt w (.slice (some ⟨tb, to, none⟩) T.length tc) T) (hs : smallB T = true) (hm : mayB T = true) (ha : a < T.length) (hab : bothB T (a : Int) (b : Int) = true) (hbc : bothB T (b : Int) (c : Int) = true) (ne : ((a : Int) != (b : Int)) = true) (x1 : aboveS T (a : Int) (b : Int) = true) (x4 : aboveS T (b : Int) (a : Int) = false) (hx2 : aboveS T (b : Int) (c : Int) = false ∨ (aboveS T (b : Int) (c : Int) = true ∧ aboveS T (a : Int) (c : Int) = true)) (hC : aboveS T 0 (a : Int) = false ∨ aboveS T 0 (a : Int) = true) :
    Calls Try.prog 17 #[.slice (some ⟨tb, to, none⟩) T.length tc, .agg #[.int .i64 (a : Int), .int .i64 (b : Int), .int .i64 (c : Int)]] w fun e w' => e = .returned (.bool true) ∧ Below w.heap.size w w' := by
  have HA := hideG ((Below.refl _ w).alloc (Nat.le_refl _) (.cells #[.int .i64 (a : Int), .int .i64 (b : Int), .int .i64 (c : Int)] 58))
  have HT0 := hideG hT
  have HT := hideG (hT.below HA.out)
  have HS := hideG (small_sane hs)
  have h70 := (smallB_at hs).1
  have h6 : T.length ≤ 1000 := by omega
  have HAA := hideG ((above_iff hm ha).mpr (sup_self T a))
  have HM := hideG hm
  have hH := host_facts hm ha
  obtain ⟨tb', to', tc', htv, hct⟩ := hT.at (by omega)
  simp only [Value.slice.injEq, Option.some.injEq, Addr.mk.injEq, and_true, true_and] at htv
  obtain ⟨⟨rfl, rfl⟩, rfl⟩ := htv
  have HCT := hideG hct
  clear hT hct hm
  rcases hH with hh | ⟨h, hl, hh, hmem, hroot⟩
  · have HH := hideG hh
    clear hh
    rcases hx2 with x2 | ⟨x2, x3⟩ <;> rcases hC with cA | cA
    all_goals
            go_enter Try.func17, Try.ntmps17
            go_wp2_with (go_at_call 19; refine (refSmall_any T _ _ HT.out).mono ?_; rintro e w1 ⟨rfl, hw⟩; subst hw)
            go_quiet (fail)
            have HBq := hideG (below_drewN HA.out nq)
            have HTq := hideG (HT0.out.below HBq.out)
            generalize (w.alloc (.cells #[.int .i64 (a : Int), .int .i64 (b : Int), .int .i64 (c : Int)] 58)).drewN nq = wq at *
            go_wp2_with (first | (go_at_call 38; refine (refBoth_any T HS.out _ _ _ _ HTq.out).mono ?_; rintro e wN ⟨rfl, hbN⟩; have HTn := hideG (HTq.out.below hbN); have HBn := hideG (HBq.out.trans (hbN.mono HBq.out.size)); clear hbN HTq HBq; have HTq := HTn; have HBq := HBn; clear HTn HBn) | (go_at_call 55; refine (shadeAbove_any T HS.out _ _ _ _ HTq.out h6).mono ?_; rintro e wN ⟨rfl, hbN⟩; have HTn := hideG (HTq.out.below hbN); have HBn := hideG (HBq.out.trans (hbN.mono HBq.out.size)); clear hbN HTq HBq; have HTq := HTn; have HBq := HBn; clear HTn HBn) | (go_at_call 59; refine (shadeConnected_any T HS.out _ _ _ HTq.out h6).mono ?_; rintro e wN ⟨rfl, hbN⟩; have HTn := hideG (HTq.out.below hbN); have HBn := hideG (HBq.out.trans (hbN.mono HBq.out.size)); clear hbN HTq HBq; have HTq := HTn; have HBq := HBn; clear HTn HBn) | (go_at_call 60; refine (shadeHost_any T HS.out _ _ _ HTq.out).mono ?_; rintro e wN ⟨rfl, hbN⟩; rw [HH.out]; have HTn := hideG (HTq.out.below hbN); have HBn := hideG (HBq.out.trans (hbN.mono HBq.out.size)); clear hbN HTq HBq; have HTq := HTn; have HBq := HBn; clear HTn HBn))
            have haa : aboveS T (a : Int) (a : Int) = true := HAA.out
            have HF1 := hideG (show ∀ w2, Below wN.heap.size wN w2 → ∀ x : Int, aboveS T x (a : Int) = true → Calls Try.prog 55 #[.slice (some ⟨tb, to, none⟩) T.length tc, .int .i64 x, .int .i64 (a : Int)] w2 fun e w' => e = .returned (.bool true) ∧ Below wN.heap.size wN w' from fun w2 h2 x hx => by
              refine (shadeAbove_any T HS.out _ _ _ _ (HTq.out.below h2) h6).mono ?_
              rintro e w' ⟨rfl, hb⟩
              exact ⟨by rw [hx], h2.trans (hb.mono h2.size)⟩)
            have HF2 := hideG (show ∀ w2, Below wN.heap.size wN w2 → Calls Try.prog 54 #[] w2 fun e w' => e = .returned (.bool true) ∧ Below wN.heap.size wN w' from fun w2 h2 => by
              refine (live4_any _).mono ?_
              rintro e w' ⟨rfl, hb⟩
              exact ⟨rfl, h2.trans (hb.mono h2.size)⟩)
            refine wp_region_calm (by kernel_rfl) (by kernel_rfl) ?_
            repeat (go_big_quiet_step (first | (go_at_call 55; refine Calls.mono (HF1.out _ (Calm.below _) _ (by simp only [haa])) ?_; rintro e w1 ⟨rfl, hb⟩; exact ⟨rfl, ⟨w1, hb⟩, rfl⟩) | (go_at_call 54; refine Calls.mono (HF2.out _ (Calm.below _)) ?_; rintro e w1 ⟨rfl, hb⟩; exact ⟨rfl, ⟨w1, hb⟩, rfl⟩)))
            refine wpQuiet_nil ?_
            intro _ hw'
            obtain ⟨dq, hw''⟩ := hw'
            subst hw''
            go_wp2_with fail
            go_ret
            exact ⟨rfl, HBq.out.trans (dq.below.mono HBq.out.size)⟩
  · have HH := hideG hh
    have hhne : ((h : Int) == -1) = false := by simp
    have HHA := hideG ((above_iff HM.out ha).mpr hmem)
    obtain ⟨kvh, avh, hNh⟩ := HCT.out h hl
    have g5 := hNh.root
    rw [hroot] at g5
    clear hh hmem hroot hNh
    rcases hx2 with x2 | ⟨x2, x3⟩ <;> rcases hC with cA | cA
    all_goals
            go_enter Try.func17, Try.ntmps17
            go_wp2_with (go_at_call 19; refine (refSmall_any T _ _ HT.out).mono ?_; rintro e w1 ⟨rfl, hw⟩; subst hw)
            go_quiet (fail)
            have HBq := hideG (below_drewN HA.out nq)
            have HTq := hideG (HT0.out.below HBq.out)
            generalize (w.alloc (.cells #[.int .i64 (a : Int), .int .i64 (b : Int), .int .i64 (c : Int)] 58)).drewN nq = wq at *
            go_wp2_with (first | (go_at_call 38; refine (refBoth_any T HS.out _ _ _ _ HTq.out).mono ?_; rintro e wN ⟨rfl, hbN⟩; have HTn := hideG (HTq.out.below hbN); have HBn := hideG (HBq.out.trans (hbN.mono HBq.out.size)); clear hbN HTq HBq; have HTq := HTn; have HBq := HBn; clear HTn HBn) | (go_at_call 55; refine (shadeAbove_any T HS.out _ _ _ _ HTq.out h6).mono ?_; rintro e wN ⟨rfl, hbN⟩; have HTn := hideG (HTq.out.below hbN); have HBn := hideG (HBq.out.trans (hbN.mono HBq.out.size)); clear hbN HTq HBq; have HTq := HTn; have HBq := HBn; clear HTn HBn) | (go_at_call 59; refine (shadeConnected_any T HS.out _ _ _ HTq.out h6).mono ?_; rintro e wN ⟨rfl, hbN⟩; have HTn := hideG (HTq.out.below hbN); have HBn := hideG (HBq.out.trans (hbN.mono HBq.out.size)); clear hbN HTq HBq; have HTq := HTn; have HBq := HBn; clear HTn HBn) | (go_at_call 60; refine (shadeHost_any T HS.out _ _ _ HTq.out).mono ?_; rintro e wN ⟨rfl, hbN⟩; rw [HH.out]; have HTn := hideG (HTq.out.below hbN); have HBn := hideG (HBq.out.trans (hbN.mono HBq.out.size)); clear hbN HTq HBq; have HTq := HTn; have HBq := HBn; clear HTn HBn))
            have haa : aboveS T (a : Int) (a : Int) = true := HAA.out
            have HF1 := hideG (show ∀ w2, Below wN.heap.size wN w2 → ∀ x : Int, aboveS T x (a : Int) = true → Calls Try.prog 55 #[.slice (some ⟨tb, to, none⟩) T.length tc, .int .i64 x, .int .i64 (a : Int)] w2 fun e w' => e = .returned (.bool true) ∧ Below wN.heap.size wN w' from fun w2 h2 x hx => by
              refine (shadeAbove_any T HS.out _ _ _ _ (HTq.out.below h2) h6).mono ?_
              rintro e w' ⟨rfl, hb⟩
              exact ⟨by rw [hx], h2.trans (hb.mono h2.size)⟩)
            have HF2 := hideG (show ∀ w2, Below wN.heap.size wN w2 → Calls Try.prog 54 #[] w2 fun e w' => e = .returned (.bool true) ∧ Below wN.heap.size wN w' from fun w2 h2 => by
              refine (live4_any _).mono ?_
              rintro e w' ⟨rfl, hb⟩
              exact ⟨rfl, h2.trans (hb.mono h2.size)⟩)
            have hha : aboveS T (h : Int) (a : Int) = true := HHA.out
            have HF4 := hideG (show ∀ w2, Below wN.heap.size wN w2 → Calls Try.prog 48 #[.slice (some ⟨tb, to, none⟩) T.length tc, .int .i64 (a : Int)] w2 fun e w' => e = .returned (.int .i64 (topN T a : Int)) ∧ Below wN.heap.size wN w' from fun w2 h2 => by
              refine (refTop3_any T HM.out _ a ha _ (HTq.out.below h2)).mono ?_
              rintro e w' ⟨rfl, hb⟩
              exact ⟨rfl, h2.trans (hb.mono h2.size)⟩)
            have g5N := cell_below HBq.out g5
            have htbN : tb < wN.heap.size := below_of_cell g5N
            have hcc : ∀ (d : Calm wN) (b o : Nat), b < wN.heap.size → d.to.cell? ⟨b, o, none⟩ = wN.cell? ⟨b, o, none⟩ := calmCell
            refine wp_region_calm (by kernel_rfl) (by kernel_rfl) ?_
            repeat (go_big_quiet_step (first | (go_at_call 48; refine Calls.mono (HF4.out _ (Calm.below _)) ?_; rintro e w1 ⟨rfl, hb⟩; exact ⟨rfl, ⟨w1, hb⟩, rfl⟩) | (go_at_call 55; refine Calls.mono (HF1.out _ (Calm.below _) _ (by simp only [hha, haa])) ?_; rintro e w1 ⟨rfl, hb⟩; exact ⟨rfl, ⟨w1, hb⟩, rfl⟩) | (go_at_call 54; refine Calls.mono (HF2.out _ (Calm.below _)) ?_; rintro e w1 ⟨rfl, hb⟩; exact ⟨rfl, ⟨w1, hb⟩, rfl⟩)))
            refine wpQuiet_nil ?_
            intro _ hw'
            obtain ⟨dq, hw''⟩ := hw'
            subst hw''
            go_wp2_with fail
            go_ret
            exact ⟨rfl, HBq.out.trans (dq.below.mono HBq.out.size)⟩
end Go.Proofs.Ytoolkpjbbngdpaa
