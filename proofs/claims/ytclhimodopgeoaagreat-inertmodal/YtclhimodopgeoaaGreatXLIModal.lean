/- The law on modal dialogs: who is inert, by the marks and the highest one. -/
import Derived.Test.YtclhimodopgeoaaGreatXIn5
import Derived.Test.YtclhimodopgeoaaGreatXIn7
namespace Go.Proofs.YtclhimodopgeoaaGreat
open Go.RowKit

theorem kind0' {T : List Nd} (hm : mayB T = true) : (nd T 0).kind = 0 := by
  have hf := mayB_fine hm
  have h := hf.kind 0 hf.pos
  unfold kindFitsB at h
  simp at h
  exact h.1
theorem high_node {V : Vw} (hck : checkV V = 0) (hh : highV V ≠ -1) : ∃ q : Nat, highV V = (q : Int) ∧ q < V.tree.length ∧ q ≠ 0 := by
  obtain ⟨hm, hM⟩ := check_iff.mp hck
  obtain ⟨j, _, _, h, _⟩ := highest_at hM hh
  have h := hM.modal _ (contains_yes.mp h)
  unfold dlgB at h
  simp only [Bool.and_eq_true, beq_iff_eq] at h
  obtain ⟨hn, hk, _⟩ := h
  unfold isNodeB at hn
  simp only [Bool.and_eq_true, decide_eq_true_eq] at hn
  refine ⟨(highV V).toNat, by omega, by omega, fun e => ?_⟩
  rw [e, kind0' hm] at hk
  exact absurd hk (by decide)
theorem known_yes {V : Vw} (hck : checkV V = 0) {k : Nat} (hk : k < V.tree.length) : knownV V (k : Int) = true := by
  unfold knownV
  simp [hck]
  omega

set_option maxRecDepth 100000 in
set_option maxHeartbeats 16000000 in
theorem inertModal_walk (tv ov mv pv qv : Value) (V : Vw) (w : World) (hV : ViewAt w tv ov mv pv qv V) :
    Calls Tryz.prog 14 #[.agg #[tv, ov, mv, pv, qv]] w fun e w' => e = .returned (.bool true) ∧ Below w.heap.size w w' := by
  obtain ⟨hT, hO, hM, hP, hQ⟩ := hV
  obtain ⟨ta, tc, rfl⟩ := hT.shape
  obtain ⟨oa, oc, rfl⟩ := hO.shape
  obtain ⟨ma, mc, rfl⟩ := hM.shape
  obtain ⟨pa, pc, rfl⟩ := hP.shape
  obtain ⟨qa, qc, rfl⟩ := hQ.shape
  obtain ⟨W0, hW0⟩ : ∃ W0, w.alloc (.cells #[.slice ta V.tree.length tc, .slice oa V.op.length oc, .slice ma V.modal.length mc, .slice pa V.pops.length pc, .slice qa V.top.length qc] 27) = W0 := ⟨_, rfl⟩
  have HB0 := hideG (show Below w.heap.size w W0 by rw [← hW0]; exact alB _ _)
  have BX := hideG (show BoxV W0 w.heap.size _ _ _ _ _ by rw [← hW0]; exact BoxV.new _ _ _ _ _ _ _)
  have HV := hideG (show ViewAt w _ _ _ _ _ V from ⟨hT, hO, hM, hP, hQ⟩)
  have HV0 := hideG (HV.out.below HB0.out)
  have HW0 := hideG hW0
  clear hW0 hT hO hM hP hQ
  have HSM := hideG (refSmall10_any _ _ _ _ _ V W0 HV0.out)
  have HB := HB0
  clear HB0 HV
  have HV := HV0
  clear HV0
  have p0 := BX.out.c0
  have p1 := BX.out.c1
  have p2 := BX.out.c2
  have p3 := BX.out.c3
  have p4 := BX.out.c4
  have plt := BX.out.lt
  cases hs : smallV V
  · rw [hs] at HSM
    clear hs
    go_enter Tryz.func14, Tryz.ntmps14
    go_wp2_with fail
    rw [HW0.out]
    refine (HSM.out).mono ?_
    rintro ex u1 ⟨rfl, hu1⟩
    have HBn := hideG (HB.out.trans (hu1.mono HB.out.size))
    have BXn := hideG (BX.out.below hu1)
    have HVn := hideG (HV.out.below hu1)
    clear hu1 HB BX HV
    have HB := HBn
    have BX := BXn
    have HV := HVn
    clear HBn BXn HVn
    clear p0 p1 p2 p3 p4 plt
    go_wp2_with fail
    refine (live12_any _).mono ?_
    rintro ex u2 ⟨rfl, hu2⟩
    have HF2 := hideG (HB.out.trans (hu2.mono HB.out.size))
    clear hu2
    go_wp2_with fail
    go_ret
    exact ⟨rfl, HF2.out⟩
  · rw [hs] at HSM
    obtain ⟨hS, hl, htl, _⟩ := small_facts hs
    have HS := hideG hS
    have HL := hideG hl
    have h4l : V.top.length ≤ 1000 := hl.2.2.2
    have h2l : V.modal.length ≤ 500 := hl.2.1
    clear hs hS hl
    go_enter Tryz.func14, Tryz.ntmps14
    go_wp2_with fail
    rw [HW0.out]
    clear HW0
    refine (HSM.out).mono ?_
    rintro ex u3 ⟨rfl, hu3⟩
    have HBn := hideG (HB.out.trans (hu3.mono HB.out.size))
    have BXn := hideG (BX.out.below hu3)
    have HVn := hideG (HV.out.below hu3)
    clear hu3 HB BX HV
    have HB := HBn
    have BX := BXn
    have HV := HVn
    clear HBn BXn HVn
    clear HSM
    clear p0 p1 p2 p3 p4 plt
    have p0 := BX.out.c0
    have p1 := BX.out.c1
    have p2 := BX.out.c2
    have p3 := BX.out.c3
    have p4 := BX.out.c4
    have plt := BX.out.lt
    go_wp2_with fail
    clear p0 p1 p2 p3 p4 plt
    have HC := hideG (refCheck10_any _ _ _ _ _ V _ HV.out HS.out ⟨by have := HL.out.1; omega, by omega, by have := HL.out.2.2.1; omega, h4l⟩)
    by_cases hck : checkV V = 0
    · have HMAY := hideG (check_iff.mp hck).1
      have HCK := hideG hck
      have HPOS := hideG (mayB_pos HMAY.out).1
      rw [hck] at HC
      refine (HC.out).mono ?_
      rintro ex u4 ⟨rfl, hu4⟩
      have HBn := hideG (HB.out.trans (hu4.mono HB.out.size))
      have BXn := hideG (BX.out.below hu4)
      have HVn := hideG (HV.out.below hu4)
      clear hu4 HB BX HV
      have HB := HBn
      have BX := BXn
      have HV := HVn
      clear HBn BXn HVn
      clear HC hck
      have p0 := BX.out.c0
      have p1 := BX.out.c1
      have p2 := BX.out.c2
      have p3 := BX.out.c3
      have p4 := BX.out.c4
      have plt := BX.out.lt
      go_wp2_with fail
      clear p0 p1 p2 p3 p4 plt
      refine (refHighest_any _ _ _ _ _ V _ HV.out ⟨by omega, by omega⟩).mono ?_
      rintro ex u5 ⟨rfl, hu5⟩
      have HBn := hideG (HB.out.trans (hu5.mono HB.out.size))
      have BXn := hideG (BX.out.below hu5)
      have HVn := hideG (HV.out.below hu5)
      clear hu5 HB BX HV
      have HB := HBn
      have BX := BXn
      have HV := HVn
      clear HBn BXn HVn
      have H55 := hideG (fun (n : Nat) (hn : n < V.tree.length) (U : World) (h : ViewAt U (.slice ta V.tree.length tc) (.slice oa V.op.length oc) (.slice ma V.modal.length mc) (.slice pa V.pops.length pc) (.slice qa V.top.length qc) V) => show Calls Tryz.prog 55 _ U (fun e w' => e = .returned (.bool (inB V n)) ∧ Below U.heap.size U w') from by
        have h2 := iis_any _ _ _ _ _ V (n : Int) U h HS.out HL.out
        rw [known_yes HCK.out hn, Bool.true_and, Int.toNat_natCast] at h2
        exact h2)
      have H56 := hideG (fun (n : Nat) (hn : n < V.tree.length) (U : World) (h : ViewAt U (.slice ta V.tree.length tc) (.slice oa V.op.length oc) (.slice ma V.modal.length mc) (.slice pa V.pops.length pc) (.slice qa V.top.length qc) V) => show Calls Tryz.prog 56 _ U (fun e w' => e = .returned (.bool (blockedB (highV V) (upI6 V.tree n))) ∧ Below U.heap.size U w') from by
        have h2 := iblocked_any _ _ _ _ _ V (n : Int) U h HS.out HL.out
        rw [known_yes HCK.out hn, Bool.true_and, Int.toNat_natCast] at h2
        exact h2)
      have HAL := hideG (show allV V = allIn V V.tree.length by unfold allV; rw [show knownV V 0 = true from known_yes (k := 0) HCK.out (by have := HPOS.out; omega)]; rfl)
      have H57 := hideG (fun (U : World) (h : ViewAt U (.slice ta V.tree.length tc) (.slice oa V.op.length oc) (.slice ma V.modal.length mc) (.slice pa V.pops.length pc) (.slice qa V.top.length qc) V) => iall_any _ _ _ _ _ V U h HS.out HL.out)
      simp only [HAL.out] at H57
      clear HAL
      by_cases hh : highV V = -1
      · have HIN := hideG (fun (n : Nat) (hn : n < V.tree.length) => in_mark HMAY.out hn (wi := true) (by rw [hh]; rfl) (.inl rfl) (fun h => absurd hh h))
        have hhe : (highV V == -1) = true := by rw [hh]; rfl
        clear hh HCK
        generalize highV V = hv at *
        have p0 := BX.out.c0
        have p1 := BX.out.c1
        have p2 := BX.out.c2
        have p3 := BX.out.c3
        have p4 := BX.out.c4
        have plt := BX.out.lt
        go_wp2_with fail
        clear p0 p1 p2 p3 p4 plt
        obtain ⟨WL, hWL⟩ : ∃ W : World, W = u5 := ⟨_, rfl⟩
        rw [← hWL] at HB BX HV ⊢
        clear hWL
        go_loopw [4] (fun i wr => ∃ k : Nat, k ≤ V.tree.length ∧ i = .int .i64 (k : Int) ∧ Below WL.heap.size WL wr) (fun i _ => V.tree.length - (intOf i).toNat)
        case atStart => exact ⟨0, Nat.zero_le _, rfl, Below.refl _ _⟩
        case round =>
          obtain ⟨k, hk, rfl, hB⟩ := hrel
          have HRO := hideG hB
          have HBn := hideG (HB.out.trans (hB.mono HB.out.size))
          have BXn := hideG (BX.out.below hB)
          have HVn := hideG (HV.out.below hB)
          clear hB BX HV HB
          have BX := BXn
          have HV := HVn
          have HB := HBn
          clear HBn
          clear BXn HVn
          by_cases hlt : k < V.tree.length
          · have HLT := hideG hlt
            have HIM := hideG (HIN.out k hlt)
            have p0 := BX.out.c0
            have p1 := BX.out.c1
            have p2 := BX.out.c2
            have p3 := BX.out.c3
            have p4 := BX.out.c4
            have plt := BX.out.lt
            go_wp2_with fail
            clear p0 p1 p2 p3 p4 plt
            obtain ⟨WI, hWI⟩ : ∃ W : World, W = wr := ⟨_, rfl⟩
            rw [← hWI] at HB HRO BX HV ⊢
            clear hWI
            go_loopw [6, 7] (fun m i wr => ∃ j : Nat, j ≤ V.tree.length ∧ m = .bool (mMB V.tree hv true k j) ∧ i = .int .i64 (j : Int) ∧ Below WI.heap.size WI wr) (fun _ i _ => V.tree.length - (intOf i).toNat)
            case atStart => exact ⟨0, Nat.zero_le _, rfl, rfl, Below.refl _ _⟩
            case round =>
              obtain ⟨j, hj, rfl, rfl, hB⟩ := hrel
              have HRI := hideG hB
              have HBn := hideG (HB.out.trans (hB.mono HB.out.size))
              have HROn := hideG (HRO.out.trans (hB.mono HRO.out.size))
              have BXn := hideG (BX.out.below hB)
              have HVn := hideG (HV.out.below hB)
              clear hB BX HV HB HRO
              have BX := BXn
              have HV := HVn
              have HB := HBn
              clear HBn
              have HRO := HROn
              clear HROn
              clear BXn HVn
              by_cases hjl : j < V.tree.length
              · have HJL := hideG hjl
                have HSU := hideG (mMB_succ V.tree hv true k j)
                generalize hmj : mMB V.tree hv true k j = mj at *
                clear hmj
                cases hs : (refGetL V.tree (j : Int) 3).2
                · have HCM := hideG (show cMB V.tree hv true k j = false by unfold cMB; rw [hs]; rfl)
                  have p0 := BX.out.c0
                  have p1 := BX.out.c1
                  have p2 := BX.out.c2
                  have p3 := BX.out.c3
                  have p4 := BX.out.c4
                  have plt := BX.out.lt
                  go_wp2_with fail
                  clear p0 p1 p2 p3 p4 plt
                  refine (refHas_any V.tree HS.out _ (j : Int) 3 _ HV.out.tree).mono ?_
                  rintro ex u101 ⟨rfl, hz101⟩
                  obtain rfl : _ = u101 := hz101.symm
                  rw [hs]
                  clear hs
                  go_wp2_with fail
                  go_roundw
                  case rel => exact ⟨j + 1, by omega, by rw [HSU.out, HCM.out, Bool.or_false], by go_num, HRI.out⟩
                  case measure => simp [intOf]; omega
                · cases hf1 : fabvB V.tree (j : Int) k
                  · have HCM := hideG (show cMB V.tree hv true k j = false by unfold cMB; rw [hs, hf1]; rfl)
                    have p0 := BX.out.c0
                    have p1 := BX.out.c1
                    have p2 := BX.out.c2
                    have p3 := BX.out.c3
                    have p4 := BX.out.c4
                    have plt := BX.out.lt
                    go_wp2_with fail
                    clear p0 p1 p2 p3 p4 plt
                    refine (refHas_any V.tree HS.out _ (j : Int) 3 _ HV.out.tree).mono ?_
                    rintro ex u102 ⟨rfl, hz102⟩
                    obtain rfl : _ = u102 := hz102.symm
                    rw [hs]
                    clear hs
                    have p0 := BX.out.c0
                    have p1 := BX.out.c1
                    have p2 := BX.out.c2
                    have p3 := BX.out.c3
                    have p4 := BX.out.c4
                    have plt := BX.out.lt
                    go_wp2_with fail
                    clear p0 p1 p2 p3 p4 plt
                    refine (refAbove6_any V.tree HMAY.out HS.out _ (j : Int) k HLT.out _ HV.out.tree).mono ?_
                    rintro ex u103 ⟨rfl, hu103⟩
                    have HBn := hideG (HB.out.trans (hu103.mono HB.out.size))
                    have HROn := hideG (HRO.out.trans (hu103.mono HRO.out.size))
                    have HRIn := hideG (HRI.out.trans (hu103.mono HRI.out.size))
                    have BXn := hideG (BX.out.below hu103)
                    have HVn := hideG (HV.out.below hu103)
                    clear hu103 BX HV HB HRO HRI
                    have BX := BXn
                    have HV := HVn
                    have HB := HBn
                    clear HBn
                    have HRO := HROn
                    clear HROn
                    have HRI := HRIn
                    clear HRIn
                    clear BXn HVn
                    rw [hf1]
                    clear hf1
                    go_wp2_with fail
                    go_roundw
                    case rel => exact ⟨j + 1, by omega, by rw [HSU.out, HCM.out, Bool.or_false], by go_num, HRI.out⟩
                    case measure => simp [intOf]; omega
                  · have HCM := hideG (show cMB V.tree hv true k j = true by unfold cMB; rw [hs, hf1, hhe]; simp)
                    have p0 := BX.out.c0
                    have p1 := BX.out.c1
                    have p2 := BX.out.c2
                    have p3 := BX.out.c3
                    have p4 := BX.out.c4
                    have plt := BX.out.lt
                    go_wp2_with fail
                    clear p0 p1 p2 p3 p4 plt
                    refine (refHas_any V.tree HS.out _ (j : Int) 3 _ HV.out.tree).mono ?_
                    rintro ex u104 ⟨rfl, hz104⟩
                    obtain rfl : _ = u104 := hz104.symm
                    rw [hs]
                    clear hs
                    have p0 := BX.out.c0
                    have p1 := BX.out.c1
                    have p2 := BX.out.c2
                    have p3 := BX.out.c3
                    have p4 := BX.out.c4
                    have plt := BX.out.lt
                    go_wp2_with fail
                    clear p0 p1 p2 p3 p4 plt
                    refine (refAbove6_any V.tree HMAY.out HS.out _ (j : Int) k HLT.out _ HV.out.tree).mono ?_
                    rintro ex u105 ⟨rfl, hu105⟩
                    have HBn := hideG (HB.out.trans (hu105.mono HB.out.size))
                    have HROn := hideG (HRO.out.trans (hu105.mono HRO.out.size))
                    have HRIn := hideG (HRI.out.trans (hu105.mono HRI.out.size))
                    have BXn := hideG (BX.out.below hu105)
                    have HVn := hideG (HV.out.below hu105)
                    clear hu105 BX HV HB HRO HRI
                    have BX := BXn
                    have HV := HVn
                    have HB := HBn
                    clear HBn
                    have HRO := HROn
                    clear HROn
                    have HRI := HRIn
                    clear HRIn
                    clear BXn HVn
                    rw [hf1]
                    clear hf1
                    go_wp2_with fail
                    go_roundw
                    case rel => exact ⟨j + 1, by omega, by rw [HSU.out, HCM.out, Bool.or_true], by go_num, HRI.out⟩
                    case measure => simp [intOf]; omega
              · have hje : j = V.tree.length := by omega
                subst hje
                have hmm : ¬ ((V.tree.length : Int) < (V.tree.length : Int)) := by omega
                clear HRI
                have H5 := hideG (fun (U : World) (h : ViewAt U (.slice ta V.tree.length tc) (.slice oa V.op.length oc) (.slice ma V.modal.length mc) (.slice pa V.pops.length pc) (.slice qa V.top.length qc) V) => H55.out k HLT.out U h)
                simp only [HIM.out] at H5
                have H7 := hideG (show containsB (allIn V V.tree.length) (k : Int) = mMB V.tree hv true k V.tree.length by rw [allIn_has HLT.out, HIM.out])
                clear HIM
                generalize mMB V.tree hv true k V.tree.length = mk at *
                have hal := allIn_len V V.tree.length
                generalize allIn V V.tree.length = AL at *
                cases mk
                · have p0 := BX.out.c0
                  have p1 := BX.out.c1
                  have p2 := BX.out.c2
                  have p3 := BX.out.c3
                  have p4 := BX.out.c4
                  have plt := BX.out.lt
                  go_wp2_with fail
                  clear p0 p1 p2 p3 p4 plt
                  refine (H5.out _ HV.out).mono ?_
                  rintro ex u106 ⟨rfl, hu106⟩
                  have HBn := hideG (HB.out.trans (hu106.mono HB.out.size))
                  have HROn := hideG (HRO.out.trans (hu106.mono HRO.out.size))
                  have BXn := hideG (BX.out.below hu106)
                  have HVn := hideG (HV.out.below hu106)
                  clear hu106 BX HV HB HRO
                  have BX := BXn
                  have HV := HVn
                  have HB := HBn
                  clear HBn
                  have HRO := HROn
                  clear HROn
                  clear BXn HVn
                  have p0 := BX.out.c0
                  have p1 := BX.out.c1
                  have p2 := BX.out.c2
                  have p3 := BX.out.c3
                  have p4 := BX.out.c4
                  have plt := BX.out.lt
                  go_wp2_with fail
                  clear p0 p1 p2 p3 p4 plt
                  refine (H57.out _ HV.out).mono ?_
                  rintro ex u107 ⟨aA, cA, rfl, hIA, hu107⟩
                  have HBn := hideG (HB.out.trans (hu107.mono HB.out.size))
                  have HROn := hideG (HRO.out.trans (hu107.mono HRO.out.size))
                  have BXn := hideG (BX.out.below hu107)
                  have HVn := hideG (HV.out.below hu107)
                  have HIA := hideG hIA
                  clear hIA
                  clear hu107 BX HV HB HRO
                  have BX := BXn
                  have HV := HVn
                  have HB := HBn
                  clear HBn
                  have HRO := HROn
                  clear HROn
                  clear BXn HVn
                  go_wp2_with fail
                  refine (refIn_any AL _ (k : Int) _ HIA.out (by omega)).mono ?_
                  rintro ex u108 ⟨rfl, hz108⟩
                  obtain rfl : _ = u108 := hz108.symm
                  rw [H7.out]
                  go_wp2_with fail
                  go_roundw
                  case rel => exact ⟨k + 1, by omega, by go_num, HRO.out⟩
                  case measure => simp [intOf]; omega
                · have p0 := BX.out.c0
                  have p1 := BX.out.c1
                  have p2 := BX.out.c2
                  have p3 := BX.out.c3
                  have p4 := BX.out.c4
                  have plt := BX.out.lt
                  go_wp2_with fail
                  clear p0 p1 p2 p3 p4 plt
                  refine (H5.out _ HV.out).mono ?_
                  rintro ex u106 ⟨rfl, hu106⟩
                  have HBn := hideG (HB.out.trans (hu106.mono HB.out.size))
                  have HROn := hideG (HRO.out.trans (hu106.mono HRO.out.size))
                  have BXn := hideG (BX.out.below hu106)
                  have HVn := hideG (HV.out.below hu106)
                  clear hu106 BX HV HB HRO
                  have BX := BXn
                  have HV := HVn
                  have HB := HBn
                  clear HBn
                  have HRO := HROn
                  clear HROn
                  clear BXn HVn
                  have p0 := BX.out.c0
                  have p1 := BX.out.c1
                  have p2 := BX.out.c2
                  have p3 := BX.out.c3
                  have p4 := BX.out.c4
                  have plt := BX.out.lt
                  go_wp2_with fail
                  clear p0 p1 p2 p3 p4 plt
                  refine (H57.out _ HV.out).mono ?_
                  rintro ex u107 ⟨aA, cA, rfl, hIA, hu107⟩
                  have HBn := hideG (HB.out.trans (hu107.mono HB.out.size))
                  have HROn := hideG (HRO.out.trans (hu107.mono HRO.out.size))
                  have BXn := hideG (BX.out.below hu107)
                  have HVn := hideG (HV.out.below hu107)
                  have HIA := hideG hIA
                  clear hIA
                  clear hu107 BX HV HB HRO
                  have BX := BXn
                  have HV := HVn
                  have HB := HBn
                  clear HBn
                  have HRO := HROn
                  clear HROn
                  clear BXn HVn
                  go_wp2_with fail
                  refine (refIn_any AL _ (k : Int) _ HIA.out (by omega)).mono ?_
                  rintro ex u108 ⟨rfl, hz108⟩
                  obtain rfl : _ = u108 := hz108.symm
                  rw [H7.out]
                  go_wp2_with fail
                  go_roundw
                  case rel => exact ⟨k + 1, by omega, by go_num, HRO.out⟩
                  case measure => simp [intOf]; omega
          · have hke : k = V.tree.length := by omega
            subst hke
            have hmm : ¬ ((V.tree.length : Int) < (V.tree.length : Int)) := by omega
            have p0 := BX.out.c0
            have p1 := BX.out.c1
            have p2 := BX.out.c2
            have p3 := BX.out.c3
            have p4 := BX.out.c4
            have plt := BX.out.lt
            go_wp2_with fail
            clear p0 p1 p2 p3 p4 plt
            refine (live12_any _).mono ?_
            rintro ex u6 ⟨rfl, hu6⟩
            have HF6 := hideG (HB.out.trans (hu6.mono HB.out.size))
            clear hu6
            go_wp2_with fail
            go_ret
            exact ⟨rfl, HF6.out⟩
      · obtain ⟨q, hq, hql, hq0⟩ := high_node HCK.out hh
        have HIT := hideG (fun (n : Nat) (hn : n < V.tree.length) (hf : fabvB V.tree (highV V) n = true) => in_mark HMAY.out hn (wi := true) (by rw [hf, Bool.or_true]) (.inl rfl) (fun _ => ⟨q, hq⟩))
        have HI0 := hideG (fun (n : Nat) (hn : n < V.tree.length) (hf : fabvB V.tree (highV V) n = false) (h0 : n = 0) => in_mark HMAY.out hn (wi := false) (by rw [hf, show (highV V == -1) = false from by rw [beq_eq_false_iff_ne]; exact hh]; rfl) (.inr h0) (fun _ => ⟨q, hq⟩))
        have HOUT := hideG (fun (n : Nat) (hn : n < V.tree.length) (hf : fabvB V.tree (highV V) n = false) (h0 : n ≠ 0) => in_out HMAY.out hn hh hf h0)
        have hhe : (highV V == -1) = false := by rw [beq_eq_false_iff_ne]; exact hh
        clear hh hql hq0 HCK
        generalize highV V = hv at *
        subst hq
        have p0 := BX.out.c0
        have p1 := BX.out.c1
        have p2 := BX.out.c2
        have p3 := BX.out.c3
        have p4 := BX.out.c4
        have plt := BX.out.lt
        go_wp2_with fail
        clear p0 p1 p2 p3 p4 plt
        obtain ⟨WL, hWL⟩ : ∃ W : World, W = u5 := ⟨_, rfl⟩
        rw [← hWL] at HB BX HV ⊢
        clear hWL
        go_loopw [4] (fun i wr => ∃ k : Nat, k ≤ V.tree.length ∧ i = .int .i64 (k : Int) ∧ Below WL.heap.size WL wr) (fun i _ => V.tree.length - (intOf i).toNat)
        case atStart => exact ⟨0, Nat.zero_le _, rfl, Below.refl _ _⟩
        case round =>
          obtain ⟨k, hk, rfl, hB⟩ := hrel
          have HRO := hideG hB
          have HBn := hideG (HB.out.trans (hB.mono HB.out.size))
          have BXn := hideG (BX.out.below hB)
          have HVn := hideG (HV.out.below hB)
          clear hB BX HV HB
          have BX := BXn
          have HV := HVn
          have HB := HBn
          clear HBn
          clear BXn HVn
          by_cases hlt : k < V.tree.length
          · have HLT := hideG hlt
            have p0 := BX.out.c0
            have p1 := BX.out.c1
            have p2 := BX.out.c2
            have p3 := BX.out.c3
            have p4 := BX.out.c4
            have plt := BX.out.lt
            go_wp2_with fail
            clear p0 p1 p2 p3 p4 plt
            cases hf : fabvB V.tree (q : Int) k
            · refine (refAbove6_any V.tree HMAY.out HS.out _ (q : Int) k HLT.out _ HV.out.tree).mono ?_
              rintro ex u109 ⟨rfl, hu109⟩
              have HBn := hideG (HB.out.trans (hu109.mono HB.out.size))
              have HROn := hideG (HRO.out.trans (hu109.mono HRO.out.size))
              have BXn := hideG (BX.out.below hu109)
              have HVn := hideG (HV.out.below hu109)
              clear hu109 BX HV HB HRO
              have BX := BXn
              have HV := HVn
              have HB := HBn
              clear HBn
              have HRO := HROn
              clear HROn
              clear BXn HVn
              rw [hf]
              by_cases hk0 : k = 0
              · have hkz : ((k : Int) != 0) = false := by rw [hk0]; rfl
                have HIM := hideG (HI0.out k hlt hf hk0)
                clear hf hk0
                have p0 := BX.out.c0
                have p1 := BX.out.c1
                have p2 := BX.out.c2
                have p3 := BX.out.c3
                have p4 := BX.out.c4
                have plt := BX.out.lt
                go_wp2_with fail
                clear p0 p1 p2 p3 p4 plt
                obtain ⟨WI, hWI⟩ : ∃ W : World, W = u109 := ⟨_, rfl⟩
                rw [← hWI] at HB HRO BX HV ⊢
                clear hWI
                go_loopw [6, 7] (fun m i wr => ∃ j : Nat, j ≤ V.tree.length ∧ m = .bool (mMB V.tree (q : Int) false k j) ∧ i = .int .i64 (j : Int) ∧ Below WI.heap.size WI wr) (fun _ i _ => V.tree.length - (intOf i).toNat)
                case atStart => exact ⟨0, Nat.zero_le _, rfl, rfl, Below.refl _ _⟩
                case round =>
                  obtain ⟨j, hj, rfl, rfl, hB⟩ := hrel
                  have HRI := hideG hB
                  have HBn := hideG (HB.out.trans (hB.mono HB.out.size))
                  have HROn := hideG (HRO.out.trans (hB.mono HRO.out.size))
                  have BXn := hideG (BX.out.below hB)
                  have HVn := hideG (HV.out.below hB)
                  clear hB BX HV HB HRO
                  have BX := BXn
                  have HV := HVn
                  have HB := HBn
                  clear HBn
                  have HRO := HROn
                  clear HROn
                  clear BXn HVn
                  by_cases hjl : j < V.tree.length
                  · have HJL := hideG hjl
                    have HSU := hideG (mMB_succ V.tree (q : Int) false k j)
                    generalize hmj : mMB V.tree (q : Int) false k j = mj at *
                    clear hmj
                    cases hs : (refGetL V.tree (j : Int) 3).2
                    · have HCM := hideG (show cMB V.tree (q : Int) false k j = false by unfold cMB; rw [hs]; rfl)
                      have p0 := BX.out.c0
                      have p1 := BX.out.c1
                      have p2 := BX.out.c2
                      have p3 := BX.out.c3
                      have p4 := BX.out.c4
                      have plt := BX.out.lt
                      go_wp2_with fail
                      clear p0 p1 p2 p3 p4 plt
                      refine (refHas_any V.tree HS.out _ (j : Int) 3 _ HV.out.tree).mono ?_
                      rintro ex u110 ⟨rfl, hz110⟩
                      obtain rfl : _ = u110 := hz110.symm
                      rw [hs]
                      clear hs
                      go_wp2_with fail
                      go_roundw
                      case rel => exact ⟨j + 1, by omega, by rw [HSU.out, HCM.out, Bool.or_false], by go_num, HRI.out⟩
                      case measure => simp [intOf]; omega
                    · cases hf1 : fabvB V.tree (j : Int) k
                      · have HCM := hideG (show cMB V.tree (q : Int) false k j = false by unfold cMB; rw [hs, hf1]; rfl)
                        have p0 := BX.out.c0
                        have p1 := BX.out.c1
                        have p2 := BX.out.c2
                        have p3 := BX.out.c3
                        have p4 := BX.out.c4
                        have plt := BX.out.lt
                        go_wp2_with fail
                        clear p0 p1 p2 p3 p4 plt
                        refine (refHas_any V.tree HS.out _ (j : Int) 3 _ HV.out.tree).mono ?_
                        rintro ex u111 ⟨rfl, hz111⟩
                        obtain rfl : _ = u111 := hz111.symm
                        rw [hs]
                        clear hs
                        have p0 := BX.out.c0
                        have p1 := BX.out.c1
                        have p2 := BX.out.c2
                        have p3 := BX.out.c3
                        have p4 := BX.out.c4
                        have plt := BX.out.lt
                        go_wp2_with fail
                        clear p0 p1 p2 p3 p4 plt
                        refine (refAbove6_any V.tree HMAY.out HS.out _ (j : Int) k HLT.out _ HV.out.tree).mono ?_
                        rintro ex u112 ⟨rfl, hu112⟩
                        have HBn := hideG (HB.out.trans (hu112.mono HB.out.size))
                        have HROn := hideG (HRO.out.trans (hu112.mono HRO.out.size))
                        have HRIn := hideG (HRI.out.trans (hu112.mono HRI.out.size))
                        have BXn := hideG (BX.out.below hu112)
                        have HVn := hideG (HV.out.below hu112)
                        clear hu112 BX HV HB HRO HRI
                        have BX := BXn
                        have HV := HVn
                        have HB := HBn
                        clear HBn
                        have HRO := HROn
                        clear HROn
                        have HRI := HRIn
                        clear HRIn
                        clear BXn HVn
                        rw [hf1]
                        clear hf1
                        go_wp2_with fail
                        go_roundw
                        case rel => exact ⟨j + 1, by omega, by rw [HSU.out, HCM.out, Bool.or_false], by go_num, HRI.out⟩
                        case measure => simp [intOf]; omega
                      · have HCM := hideG (show cMB V.tree (q : Int) false k j = true by unfold cMB; rw [hs, hf1]; rfl)
                        have p0 := BX.out.c0
                        have p1 := BX.out.c1
                        have p2 := BX.out.c2
                        have p3 := BX.out.c3
                        have p4 := BX.out.c4
                        have plt := BX.out.lt
                        go_wp2_with fail
                        clear p0 p1 p2 p3 p4 plt
                        refine (refHas_any V.tree HS.out _ (j : Int) 3 _ HV.out.tree).mono ?_
                        rintro ex u113 ⟨rfl, hz113⟩
                        obtain rfl : _ = u113 := hz113.symm
                        rw [hs]
                        clear hs
                        have p0 := BX.out.c0
                        have p1 := BX.out.c1
                        have p2 := BX.out.c2
                        have p3 := BX.out.c3
                        have p4 := BX.out.c4
                        have plt := BX.out.lt
                        go_wp2_with fail
                        clear p0 p1 p2 p3 p4 plt
                        refine (refAbove6_any V.tree HMAY.out HS.out _ (j : Int) k HLT.out _ HV.out.tree).mono ?_
                        rintro ex u114 ⟨rfl, hu114⟩
                        have HBn := hideG (HB.out.trans (hu114.mono HB.out.size))
                        have HROn := hideG (HRO.out.trans (hu114.mono HRO.out.size))
                        have HRIn := hideG (HRI.out.trans (hu114.mono HRI.out.size))
                        have BXn := hideG (BX.out.below hu114)
                        have HVn := hideG (HV.out.below hu114)
                        clear hu114 BX HV HB HRO HRI
                        have BX := BXn
                        have HV := HVn
                        have HB := HBn
                        clear HBn
                        have HRO := HROn
                        clear HROn
                        have HRI := HRIn
                        clear HRIn
                        clear BXn HVn
                        rw [hf1]
                        clear hf1
                        go_wp2_with fail
                        go_roundw
                        case rel => exact ⟨j + 1, by omega, by rw [HSU.out, HCM.out, Bool.or_true], by go_num, HRI.out⟩
                        case measure => simp [intOf]; omega
                  · have hje : j = V.tree.length := by omega
                    subst hje
                    have hmm : ¬ ((V.tree.length : Int) < (V.tree.length : Int)) := by omega
                    clear HRI
                    have H5 := hideG (fun (U : World) (h : ViewAt U (.slice ta V.tree.length tc) (.slice oa V.op.length oc) (.slice ma V.modal.length mc) (.slice pa V.pops.length pc) (.slice qa V.top.length qc) V) => H55.out k HLT.out U h)
                    simp only [HIM.out] at H5
                    have H7 := hideG (show containsB (allIn V V.tree.length) (k : Int) = mMB V.tree (q : Int) false k V.tree.length by rw [allIn_has HLT.out, HIM.out])
                    clear HIM
                    generalize mMB V.tree (q : Int) false k V.tree.length = mk at *
                    have hal := allIn_len V V.tree.length
                    generalize allIn V V.tree.length = AL at *
                    cases mk
                    · have p0 := BX.out.c0
                      have p1 := BX.out.c1
                      have p2 := BX.out.c2
                      have p3 := BX.out.c3
                      have p4 := BX.out.c4
                      have plt := BX.out.lt
                      go_wp2_with fail
                      clear p0 p1 p2 p3 p4 plt
                      refine (H5.out _ HV.out).mono ?_
                      rintro ex u115 ⟨rfl, hu115⟩
                      have HBn := hideG (HB.out.trans (hu115.mono HB.out.size))
                      have HROn := hideG (HRO.out.trans (hu115.mono HRO.out.size))
                      have BXn := hideG (BX.out.below hu115)
                      have HVn := hideG (HV.out.below hu115)
                      clear hu115 BX HV HB HRO
                      have BX := BXn
                      have HV := HVn
                      have HB := HBn
                      clear HBn
                      have HRO := HROn
                      clear HROn
                      clear BXn HVn
                      have p0 := BX.out.c0
                      have p1 := BX.out.c1
                      have p2 := BX.out.c2
                      have p3 := BX.out.c3
                      have p4 := BX.out.c4
                      have plt := BX.out.lt
                      go_wp2_with fail
                      clear p0 p1 p2 p3 p4 plt
                      refine (H57.out _ HV.out).mono ?_
                      rintro ex u116 ⟨aA, cA, rfl, hIA, hu116⟩
                      have HBn := hideG (HB.out.trans (hu116.mono HB.out.size))
                      have HROn := hideG (HRO.out.trans (hu116.mono HRO.out.size))
                      have BXn := hideG (BX.out.below hu116)
                      have HVn := hideG (HV.out.below hu116)
                      have HIA := hideG hIA
                      clear hIA
                      clear hu116 BX HV HB HRO
                      have BX := BXn
                      have HV := HVn
                      have HB := HBn
                      clear HBn
                      have HRO := HROn
                      clear HROn
                      clear BXn HVn
                      go_wp2_with fail
                      refine (refIn_any AL _ (k : Int) _ HIA.out (by omega)).mono ?_
                      rintro ex u117 ⟨rfl, hz117⟩
                      obtain rfl : _ = u117 := hz117.symm
                      rw [H7.out]
                      go_wp2_with fail
                      go_roundw
                      case rel => exact ⟨k + 1, by omega, by go_num, HRO.out⟩
                      case measure => simp [intOf]; omega
                    · have p0 := BX.out.c0
                      have p1 := BX.out.c1
                      have p2 := BX.out.c2
                      have p3 := BX.out.c3
                      have p4 := BX.out.c4
                      have plt := BX.out.lt
                      go_wp2_with fail
                      clear p0 p1 p2 p3 p4 plt
                      refine (H5.out _ HV.out).mono ?_
                      rintro ex u115 ⟨rfl, hu115⟩
                      have HBn := hideG (HB.out.trans (hu115.mono HB.out.size))
                      have HROn := hideG (HRO.out.trans (hu115.mono HRO.out.size))
                      have BXn := hideG (BX.out.below hu115)
                      have HVn := hideG (HV.out.below hu115)
                      clear hu115 BX HV HB HRO
                      have BX := BXn
                      have HV := HVn
                      have HB := HBn
                      clear HBn
                      have HRO := HROn
                      clear HROn
                      clear BXn HVn
                      have p0 := BX.out.c0
                      have p1 := BX.out.c1
                      have p2 := BX.out.c2
                      have p3 := BX.out.c3
                      have p4 := BX.out.c4
                      have plt := BX.out.lt
                      go_wp2_with fail
                      clear p0 p1 p2 p3 p4 plt
                      refine (H57.out _ HV.out).mono ?_
                      rintro ex u116 ⟨aA, cA, rfl, hIA, hu116⟩
                      have HBn := hideG (HB.out.trans (hu116.mono HB.out.size))
                      have HROn := hideG (HRO.out.trans (hu116.mono HRO.out.size))
                      have BXn := hideG (BX.out.below hu116)
                      have HVn := hideG (HV.out.below hu116)
                      have HIA := hideG hIA
                      clear hIA
                      clear hu116 BX HV HB HRO
                      have BX := BXn
                      have HV := HVn
                      have HB := HBn
                      clear HBn
                      have HRO := HROn
                      clear HROn
                      clear BXn HVn
                      go_wp2_with fail
                      refine (refIn_any AL _ (k : Int) _ HIA.out (by omega)).mono ?_
                      rintro ex u117 ⟨rfl, hz117⟩
                      obtain rfl : _ = u117 := hz117.symm
                      rw [H7.out]
                      go_wp2_with fail
                      go_roundw
                      case rel => exact ⟨k + 1, by omega, by go_num, HRO.out⟩
                      case measure => simp [intOf]; omega
              · have hkz : ((k : Int) != 0) = true := by rw [bne_iff_ne]; omega
                have HO := hideG (HOUT.out k hlt hf hk0)
                have H5 := hideG (H55.out k hlt)
                rw [HO.out.2] at H5
                have H6 := hideG (H56.out k hlt)
                rw [HO.out.1] at H6
                clear hf hk0 HO
                have p0 := BX.out.c0
                have p1 := BX.out.c1
                have p2 := BX.out.c2
                have p3 := BX.out.c3
                have p4 := BX.out.c4
                have plt := BX.out.lt
                go_wp2_with fail
                clear p0 p1 p2 p3 p4 plt
                refine (H5.out _ HV.out).mono ?_
                rintro ex u118 ⟨rfl, hu118⟩
                have HBn := hideG (HB.out.trans (hu118.mono HB.out.size))
                have HROn := hideG (HRO.out.trans (hu118.mono HRO.out.size))
                have BXn := hideG (BX.out.below hu118)
                have HVn := hideG (HV.out.below hu118)
                clear hu118 BX HV HB HRO
                have BX := BXn
                have HV := HVn
                have HB := HBn
                clear HBn
                have HRO := HROn
                clear HROn
                clear BXn HVn
                have p0 := BX.out.c0
                have p1 := BX.out.c1
                have p2 := BX.out.c2
                have p3 := BX.out.c3
                have p4 := BX.out.c4
                have plt := BX.out.lt
                go_wp2_with fail
                clear p0 p1 p2 p3 p4 plt
                refine (H6.out _ HV.out).mono ?_
                rintro ex u119 ⟨rfl, hu119⟩
                have HBn := hideG (HB.out.trans (hu119.mono HB.out.size))
                have HROn := hideG (HRO.out.trans (hu119.mono HRO.out.size))
                have BXn := hideG (BX.out.below hu119)
                have HVn := hideG (HV.out.below hu119)
                clear hu119 BX HV HB HRO
                have BX := BXn
                have HV := HVn
                have HB := HBn
                clear HBn
                have HRO := HROn
                clear HROn
                clear BXn HVn
                go_wp2_with fail
                go_roundw
                case rel => exact ⟨k + 1, by omega, by go_num, HRO.out⟩
                case measure => simp [intOf]; omega
            · refine (refAbove6_any V.tree HMAY.out HS.out _ (q : Int) k HLT.out _ HV.out.tree).mono ?_
              rintro ex u120 ⟨rfl, hu120⟩
              have HBn := hideG (HB.out.trans (hu120.mono HB.out.size))
              have HROn := hideG (HRO.out.trans (hu120.mono HRO.out.size))
              have BXn := hideG (BX.out.below hu120)
              have HVn := hideG (HV.out.below hu120)
              clear hu120 BX HV HB HRO
              have BX := BXn
              have HV := HVn
              have HB := HBn
              clear HBn
              have HRO := HROn
              clear HROn
              clear BXn HVn
              rw [hf]
              have HIM := hideG (HIT.out k hlt hf)
              clear hf
              have p0 := BX.out.c0
              have p1 := BX.out.c1
              have p2 := BX.out.c2
              have p3 := BX.out.c3
              have p4 := BX.out.c4
              have plt := BX.out.lt
              go_wp2_with fail
              clear p0 p1 p2 p3 p4 plt
              obtain ⟨WI, hWI⟩ : ∃ W : World, W = u120 := ⟨_, rfl⟩
              rw [← hWI] at HB HRO BX HV ⊢
              clear hWI
              go_loopw [6, 7] (fun m i wr => ∃ j : Nat, j ≤ V.tree.length ∧ m = .bool (mMB V.tree (q : Int) true k j) ∧ i = .int .i64 (j : Int) ∧ Below WI.heap.size WI wr) (fun _ i _ => V.tree.length - (intOf i).toNat)
              case atStart => exact ⟨0, Nat.zero_le _, rfl, rfl, Below.refl _ _⟩
              case round =>
                obtain ⟨j, hj, rfl, rfl, hB⟩ := hrel
                have HRI := hideG hB
                have HBn := hideG (HB.out.trans (hB.mono HB.out.size))
                have HROn := hideG (HRO.out.trans (hB.mono HRO.out.size))
                have BXn := hideG (BX.out.below hB)
                have HVn := hideG (HV.out.below hB)
                clear hB BX HV HB HRO
                have BX := BXn
                have HV := HVn
                have HB := HBn
                clear HBn
                have HRO := HROn
                clear HROn
                clear BXn HVn
                by_cases hjl : j < V.tree.length
                · have HJL := hideG hjl
                  have HSU := hideG (mMB_succ V.tree (q : Int) true k j)
                  generalize hmj : mMB V.tree (q : Int) true k j = mj at *
                  clear hmj
                  cases hs : (refGetL V.tree (j : Int) 3).2
                  · have HCM := hideG (show cMB V.tree (q : Int) true k j = false by unfold cMB; rw [hs]; rfl)
                    have p0 := BX.out.c0
                    have p1 := BX.out.c1
                    have p2 := BX.out.c2
                    have p3 := BX.out.c3
                    have p4 := BX.out.c4
                    have plt := BX.out.lt
                    go_wp2_with fail
                    clear p0 p1 p2 p3 p4 plt
                    refine (refHas_any V.tree HS.out _ (j : Int) 3 _ HV.out.tree).mono ?_
                    rintro ex u121 ⟨rfl, hz121⟩
                    obtain rfl : _ = u121 := hz121.symm
                    rw [hs]
                    clear hs
                    go_wp2_with fail
                    go_roundw
                    case rel => exact ⟨j + 1, by omega, by rw [HSU.out, HCM.out, Bool.or_false], by go_num, HRI.out⟩
                    case measure => simp [intOf]; omega
                  · cases hf1 : fabvB V.tree (j : Int) k
                    · have HCM := hideG (show cMB V.tree (q : Int) true k j = false by unfold cMB; rw [hs, hf1]; rfl)
                      have p0 := BX.out.c0
                      have p1 := BX.out.c1
                      have p2 := BX.out.c2
                      have p3 := BX.out.c3
                      have p4 := BX.out.c4
                      have plt := BX.out.lt
                      go_wp2_with fail
                      clear p0 p1 p2 p3 p4 plt
                      refine (refHas_any V.tree HS.out _ (j : Int) 3 _ HV.out.tree).mono ?_
                      rintro ex u122 ⟨rfl, hz122⟩
                      obtain rfl : _ = u122 := hz122.symm
                      rw [hs]
                      clear hs
                      have p0 := BX.out.c0
                      have p1 := BX.out.c1
                      have p2 := BX.out.c2
                      have p3 := BX.out.c3
                      have p4 := BX.out.c4
                      have plt := BX.out.lt
                      go_wp2_with fail
                      clear p0 p1 p2 p3 p4 plt
                      refine (refAbove6_any V.tree HMAY.out HS.out _ (j : Int) k HLT.out _ HV.out.tree).mono ?_
                      rintro ex u123 ⟨rfl, hu123⟩
                      have HBn := hideG (HB.out.trans (hu123.mono HB.out.size))
                      have HROn := hideG (HRO.out.trans (hu123.mono HRO.out.size))
                      have HRIn := hideG (HRI.out.trans (hu123.mono HRI.out.size))
                      have BXn := hideG (BX.out.below hu123)
                      have HVn := hideG (HV.out.below hu123)
                      clear hu123 BX HV HB HRO HRI
                      have BX := BXn
                      have HV := HVn
                      have HB := HBn
                      clear HBn
                      have HRO := HROn
                      clear HROn
                      have HRI := HRIn
                      clear HRIn
                      clear BXn HVn
                      rw [hf1]
                      clear hf1
                      go_wp2_with fail
                      go_roundw
                      case rel => exact ⟨j + 1, by omega, by rw [HSU.out, HCM.out, Bool.or_false], by go_num, HRI.out⟩
                      case measure => simp [intOf]; omega
                    · cases hf2 : fabvB V.tree (q : Int) j
                      · have HCM := hideG (show cMB V.tree (q : Int) true k j = false by unfold cMB; rw [hs, hf1, hf2, hhe]; rfl)
                        have p0 := BX.out.c0
                        have p1 := BX.out.c1
                        have p2 := BX.out.c2
                        have p3 := BX.out.c3
                        have p4 := BX.out.c4
                        have plt := BX.out.lt
                        go_wp2_with fail
                        clear p0 p1 p2 p3 p4 plt
                        refine (refHas_any V.tree HS.out _ (j : Int) 3 _ HV.out.tree).mono ?_
                        rintro ex u124 ⟨rfl, hz124⟩
                        obtain rfl : _ = u124 := hz124.symm
                        rw [hs]
                        clear hs
                        have p0 := BX.out.c0
                        have p1 := BX.out.c1
                        have p2 := BX.out.c2
                        have p3 := BX.out.c3
                        have p4 := BX.out.c4
                        have plt := BX.out.lt
                        go_wp2_with fail
                        clear p0 p1 p2 p3 p4 plt
                        refine (refAbove6_any V.tree HMAY.out HS.out _ (j : Int) k HLT.out _ HV.out.tree).mono ?_
                        rintro ex u125 ⟨rfl, hu125⟩
                        have HBn := hideG (HB.out.trans (hu125.mono HB.out.size))
                        have HROn := hideG (HRO.out.trans (hu125.mono HRO.out.size))
                        have HRIn := hideG (HRI.out.trans (hu125.mono HRI.out.size))
                        have BXn := hideG (BX.out.below hu125)
                        have HVn := hideG (HV.out.below hu125)
                        clear hu125 BX HV HB HRO HRI
                        have BX := BXn
                        have HV := HVn
                        have HB := HBn
                        clear HBn
                        have HRO := HROn
                        clear HROn
                        have HRI := HRIn
                        clear HRIn
                        clear BXn HVn
                        rw [hf1]
                        clear hf1
                        have p0 := BX.out.c0
                        have p1 := BX.out.c1
                        have p2 := BX.out.c2
                        have p3 := BX.out.c3
                        have p4 := BX.out.c4
                        have plt := BX.out.lt
                        go_wp2_with fail
                        clear p0 p1 p2 p3 p4 plt
                        refine (refAbove6_any V.tree HMAY.out HS.out _ (q : Int) j HJL.out _ HV.out.tree).mono ?_
                        rintro ex u126 ⟨rfl, hu126⟩
                        have HBn := hideG (HB.out.trans (hu126.mono HB.out.size))
                        have HROn := hideG (HRO.out.trans (hu126.mono HRO.out.size))
                        have HRIn := hideG (HRI.out.trans (hu126.mono HRI.out.size))
                        have BXn := hideG (BX.out.below hu126)
                        have HVn := hideG (HV.out.below hu126)
                        clear hu126 BX HV HB HRO HRI
                        have BX := BXn
                        have HV := HVn
                        have HB := HBn
                        clear HBn
                        have HRO := HROn
                        clear HROn
                        have HRI := HRIn
                        clear HRIn
                        clear BXn HVn
                        rw [hf2]
                        clear hf2
                        go_wp2_with fail
                        go_roundw
                        case rel => exact ⟨j + 1, by omega, by rw [HSU.out, HCM.out, Bool.or_false], by go_num, HRI.out⟩
                        case measure => simp [intOf]; omega
                      · have HCM := hideG (show cMB V.tree (q : Int) true k j = true by unfold cMB; rw [hs, hf1, hf2, hhe]; rfl)
                        have p0 := BX.out.c0
                        have p1 := BX.out.c1
                        have p2 := BX.out.c2
                        have p3 := BX.out.c3
                        have p4 := BX.out.c4
                        have plt := BX.out.lt
                        go_wp2_with fail
                        clear p0 p1 p2 p3 p4 plt
                        refine (refHas_any V.tree HS.out _ (j : Int) 3 _ HV.out.tree).mono ?_
                        rintro ex u127 ⟨rfl, hz127⟩
                        obtain rfl : _ = u127 := hz127.symm
                        rw [hs]
                        clear hs
                        have p0 := BX.out.c0
                        have p1 := BX.out.c1
                        have p2 := BX.out.c2
                        have p3 := BX.out.c3
                        have p4 := BX.out.c4
                        have plt := BX.out.lt
                        go_wp2_with fail
                        clear p0 p1 p2 p3 p4 plt
                        refine (refAbove6_any V.tree HMAY.out HS.out _ (j : Int) k HLT.out _ HV.out.tree).mono ?_
                        rintro ex u128 ⟨rfl, hu128⟩
                        have HBn := hideG (HB.out.trans (hu128.mono HB.out.size))
                        have HROn := hideG (HRO.out.trans (hu128.mono HRO.out.size))
                        have HRIn := hideG (HRI.out.trans (hu128.mono HRI.out.size))
                        have BXn := hideG (BX.out.below hu128)
                        have HVn := hideG (HV.out.below hu128)
                        clear hu128 BX HV HB HRO HRI
                        have BX := BXn
                        have HV := HVn
                        have HB := HBn
                        clear HBn
                        have HRO := HROn
                        clear HROn
                        have HRI := HRIn
                        clear HRIn
                        clear BXn HVn
                        rw [hf1]
                        clear hf1
                        have p0 := BX.out.c0
                        have p1 := BX.out.c1
                        have p2 := BX.out.c2
                        have p3 := BX.out.c3
                        have p4 := BX.out.c4
                        have plt := BX.out.lt
                        go_wp2_with fail
                        clear p0 p1 p2 p3 p4 plt
                        refine (refAbove6_any V.tree HMAY.out HS.out _ (q : Int) j HJL.out _ HV.out.tree).mono ?_
                        rintro ex u129 ⟨rfl, hu129⟩
                        have HBn := hideG (HB.out.trans (hu129.mono HB.out.size))
                        have HROn := hideG (HRO.out.trans (hu129.mono HRO.out.size))
                        have HRIn := hideG (HRI.out.trans (hu129.mono HRI.out.size))
                        have BXn := hideG (BX.out.below hu129)
                        have HVn := hideG (HV.out.below hu129)
                        clear hu129 BX HV HB HRO HRI
                        have BX := BXn
                        have HV := HVn
                        have HB := HBn
                        clear HBn
                        have HRO := HROn
                        clear HROn
                        have HRI := HRIn
                        clear HRIn
                        clear BXn HVn
                        rw [hf2]
                        clear hf2
                        go_wp2_with fail
                        go_roundw
                        case rel => exact ⟨j + 1, by omega, by rw [HSU.out, HCM.out, Bool.or_true], by go_num, HRI.out⟩
                        case measure => simp [intOf]; omega
                · have hje : j = V.tree.length := by omega
                  subst hje
                  have hmm : ¬ ((V.tree.length : Int) < (V.tree.length : Int)) := by omega
                  clear HRI
                  have H5 := hideG (fun (U : World) (h : ViewAt U (.slice ta V.tree.length tc) (.slice oa V.op.length oc) (.slice ma V.modal.length mc) (.slice pa V.pops.length pc) (.slice qa V.top.length qc) V) => H55.out k HLT.out U h)
                  simp only [HIM.out] at H5
                  have H7 := hideG (show containsB (allIn V V.tree.length) (k : Int) = mMB V.tree (q : Int) true k V.tree.length by rw [allIn_has HLT.out, HIM.out])
                  clear HIM
                  generalize mMB V.tree (q : Int) true k V.tree.length = mk at *
                  have hal := allIn_len V V.tree.length
                  generalize allIn V V.tree.length = AL at *
                  cases mk
                  · have p0 := BX.out.c0
                    have p1 := BX.out.c1
                    have p2 := BX.out.c2
                    have p3 := BX.out.c3
                    have p4 := BX.out.c4
                    have plt := BX.out.lt
                    go_wp2_with fail
                    clear p0 p1 p2 p3 p4 plt
                    refine (H5.out _ HV.out).mono ?_
                    rintro ex u130 ⟨rfl, hu130⟩
                    have HBn := hideG (HB.out.trans (hu130.mono HB.out.size))
                    have HROn := hideG (HRO.out.trans (hu130.mono HRO.out.size))
                    have BXn := hideG (BX.out.below hu130)
                    have HVn := hideG (HV.out.below hu130)
                    clear hu130 BX HV HB HRO
                    have BX := BXn
                    have HV := HVn
                    have HB := HBn
                    clear HBn
                    have HRO := HROn
                    clear HROn
                    clear BXn HVn
                    have p0 := BX.out.c0
                    have p1 := BX.out.c1
                    have p2 := BX.out.c2
                    have p3 := BX.out.c3
                    have p4 := BX.out.c4
                    have plt := BX.out.lt
                    go_wp2_with fail
                    clear p0 p1 p2 p3 p4 plt
                    refine (H57.out _ HV.out).mono ?_
                    rintro ex u131 ⟨aA, cA, rfl, hIA, hu131⟩
                    have HBn := hideG (HB.out.trans (hu131.mono HB.out.size))
                    have HROn := hideG (HRO.out.trans (hu131.mono HRO.out.size))
                    have BXn := hideG (BX.out.below hu131)
                    have HVn := hideG (HV.out.below hu131)
                    have HIA := hideG hIA
                    clear hIA
                    clear hu131 BX HV HB HRO
                    have BX := BXn
                    have HV := HVn
                    have HB := HBn
                    clear HBn
                    have HRO := HROn
                    clear HROn
                    clear BXn HVn
                    go_wp2_with fail
                    refine (refIn_any AL _ (k : Int) _ HIA.out (by omega)).mono ?_
                    rintro ex u132 ⟨rfl, hz132⟩
                    obtain rfl : _ = u132 := hz132.symm
                    rw [H7.out]
                    go_wp2_with fail
                    go_roundw
                    case rel => exact ⟨k + 1, by omega, by go_num, HRO.out⟩
                    case measure => simp [intOf]; omega
                  · have p0 := BX.out.c0
                    have p1 := BX.out.c1
                    have p2 := BX.out.c2
                    have p3 := BX.out.c3
                    have p4 := BX.out.c4
                    have plt := BX.out.lt
                    go_wp2_with fail
                    clear p0 p1 p2 p3 p4 plt
                    refine (H5.out _ HV.out).mono ?_
                    rintro ex u130 ⟨rfl, hu130⟩
                    have HBn := hideG (HB.out.trans (hu130.mono HB.out.size))
                    have HROn := hideG (HRO.out.trans (hu130.mono HRO.out.size))
                    have BXn := hideG (BX.out.below hu130)
                    have HVn := hideG (HV.out.below hu130)
                    clear hu130 BX HV HB HRO
                    have BX := BXn
                    have HV := HVn
                    have HB := HBn
                    clear HBn
                    have HRO := HROn
                    clear HROn
                    clear BXn HVn
                    have p0 := BX.out.c0
                    have p1 := BX.out.c1
                    have p2 := BX.out.c2
                    have p3 := BX.out.c3
                    have p4 := BX.out.c4
                    have plt := BX.out.lt
                    go_wp2_with fail
                    clear p0 p1 p2 p3 p4 plt
                    refine (H57.out _ HV.out).mono ?_
                    rintro ex u131 ⟨aA, cA, rfl, hIA, hu131⟩
                    have HBn := hideG (HB.out.trans (hu131.mono HB.out.size))
                    have HROn := hideG (HRO.out.trans (hu131.mono HRO.out.size))
                    have BXn := hideG (BX.out.below hu131)
                    have HVn := hideG (HV.out.below hu131)
                    have HIA := hideG hIA
                    clear hIA
                    clear hu131 BX HV HB HRO
                    have BX := BXn
                    have HV := HVn
                    have HB := HBn
                    clear HBn
                    have HRO := HROn
                    clear HROn
                    clear BXn HVn
                    go_wp2_with fail
                    refine (refIn_any AL _ (k : Int) _ HIA.out (by omega)).mono ?_
                    rintro ex u132 ⟨rfl, hz132⟩
                    obtain rfl : _ = u132 := hz132.symm
                    rw [H7.out]
                    go_wp2_with fail
                    go_roundw
                    case rel => exact ⟨k + 1, by omega, by go_num, HRO.out⟩
                    case measure => simp [intOf]; omega
          · have hke : k = V.tree.length := by omega
            subst hke
            have hmm : ¬ ((V.tree.length : Int) < (V.tree.length : Int)) := by omega
            have p0 := BX.out.c0
            have p1 := BX.out.c1
            have p2 := BX.out.c2
            have p3 := BX.out.c3
            have p4 := BX.out.c4
            have plt := BX.out.lt
            go_wp2_with fail
            clear p0 p1 p2 p3 p4 plt
            refine (live12_any _).mono ?_
            rintro ex u7 ⟨rfl, hu7⟩
            have HF7 := hideG (HB.out.trans (hu7.mono HB.out.size))
            clear hu7
            go_wp2_with fail
            go_ret
            exact ⟨rfl, HF7.out⟩
    · have hce : ((checkV V : Int) != 0) = true := by simpa using hck
      refine (HC.out).mono ?_
      rintro ex u8 ⟨rfl, hu8⟩
      have HBn := hideG (HB.out.trans (hu8.mono HB.out.size))
      have BXn := hideG (BX.out.below hu8)
      have HVn := hideG (HV.out.below hu8)
      clear hu8 HB BX HV
      have HB := HBn
      have BX := BXn
      have HV := HVn
      clear HBn BXn HVn
      clear HC
      generalize checkV V = cv at *
      go_wp2_with fail
      refine (live12_any _).mono ?_
      rintro ex u9 ⟨rfl, hu9⟩
      have HF9 := hideG (HB.out.trans (hu9.mono HB.out.size))
      clear hu9
      go_wp2_with fail
      go_ret
      exact ⟨rfl, HF9.out⟩
end Go.Proofs.YtclhimodopgeoaaGreat

