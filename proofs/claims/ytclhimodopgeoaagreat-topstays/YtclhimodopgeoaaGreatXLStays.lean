/- The law on views that stay. -/
import Derived.Deep.DeepCutAuto
import Derived.Test.YtclhimodopgeoaaGreatXLHigh
import Derived.Test.YtclhimodopgeoaaGreatXTopAny
import Derived.Test.YtclhimodopgeoaaGreatXTopSame
namespace Go.Proofs.YtclhimodopgeoaaGreat
open Go.RowKit

theorem dlg_len {V : Vw} {n : Int} {m : Bool} (hck : checkV V = 0) (h : V.op.length ≤ 40 ∧ V.modal.length ≤ 40 ∧ V.pops.length ≤ 40 ∧ V.top.length ≤ 80) : (dlgW V n m).op.length ≤ 41 ∧ (dlgW V n m).modal.length ≤ 41 ∧ (dlgW V n m).pops.length ≤ 40 ∧ (dlgW V n m).top.length ≤ 81 := by
  unfold dlgW
  rw [if_pos hck]
  split
  · cases m <;> simp <;> omega
  · omega
theorem pop_len {V : Vw} {x : Sh} (hck : checkV V = 0) (h : V.op.length ≤ 40 ∧ V.modal.length ≤ 40 ∧ V.pops.length ≤ 40 ∧ V.top.length ≤ 80) : (popW V x).op.length ≤ 41 ∧ (popW V x).modal.length ≤ 41 ∧ (popW V x).pops.length ≤ 41 ∧ (popW V x).top.length ≤ 81 := by
  unfold popW
  rw [if_pos hck]
  split
  · simp; omega
  · omega
theorem close_len {V : Vw} {n : Int} (hck : checkV V = 0) (h : V.op.length ≤ 40 ∧ V.modal.length ≤ 40 ∧ V.pops.length ≤ 40 ∧ V.top.length ≤ 80) : (closeW V n).op.length ≤ 40 ∧ (closeW V n).modal.length ≤ 40 ∧ (closeW V n).pops.length ≤ 40 ∧ (closeW V n).top.length ≤ 80 := by
  unfold closeW
  rw [if_pos hck]
  split
  · exact ⟨Nat.le_trans (List.length_filter_le _ _) h.1, Nat.le_trans (List.length_filter_le _ _) h.2.1, Nat.le_trans (List.length_filter_le _ _) h.2.2.1, Nat.le_trans (List.length_filter_le _ _) h.2.2.2⟩
  · exact h
set_option maxRecDepth 100000 in
set_option maxHeartbeats 16000000 in
theorem topStays_walk (tv ov mv pv qv : Value) (V : Vw) (x : Sh) (m : Bool) (w : World) (hV : ViewAt w tv ov mv pv qv V) :
    Calls Tryz.prog 5 #[.agg #[tv, ov, mv, pv, qv], .agg #[.int .i64 x.node, .int .i64 x.inv], .bool m] w fun e w' => e = .returned (.bool true) ∧ Below w.heap.size w w' := by
  obtain ⟨hT, hO, hM, hP, hQ⟩ := hV
  obtain ⟨ta, tc, rfl⟩ := hT.shape
  obtain ⟨oa, oc, rfl⟩ := hO.shape
  obtain ⟨ma, mc, rfl⟩ := hM.shape
  obtain ⟨pa, pc, rfl⟩ := hP.shape
  obtain ⟨qa, qc, rfl⟩ := hQ.shape
  obtain ⟨W0, hW0⟩ : ∃ W0, (w.alloc (.cells #[.slice ta V.tree.length tc, .slice oa V.op.length oc, .slice ma V.modal.length mc, .slice pa V.pops.length pc, .slice qa V.top.length qc] 27)).alloc (.cells #[.int .i64 x.node, .int .i64 x.inv] 39) = W0 := ⟨_, rfl⟩
  have HB0 := hideG (show Below w.heap.size w W0 by rw [← hW0]; exact (alB _ _).trans ((alB _ _).mono (alB _ _).size))
  have BX := hideG (show BoxV W0 w.heap.size _ _ _ _ _ by rw [← hW0]; exact (BoxV.new w _ _ _ _ _ 27).below (alB _ _))
  have XN := hideG (show ShAt W0 (w.heap.size + 1) 0 x by rw [← hW0]; exact ⟨by simp, by simp⟩)
  have HV := hideG (show ViewAt w _ _ _ _ _ V from ⟨hT, hO, hM, hP, hQ⟩)
  have HV0 := hideG (HV.out.below HB0.out)
  have HW0 := hideG hW0
  clear hW0 hT hO hM hP hQ
  have HSM := hideG (refSmall10_any _ _ _ _ _ V W0 HV0.out)
  have p0 := BX.out.c0
  have p1 := BX.out.c1
  have p2 := BX.out.c2
  have p3 := BX.out.c3
  have p4 := BX.out.c4
  have plt := BX.out.lt
  cases hs : smallV V
  · rw [hs] at HSM
    clear hs
    go_enter Tryz.func5, Tryz.ntmps5
    go_wp2_with fail
    rw [HW0.out]
    refine HSM.out.mono ?_
    rintro ex w1 ⟨rfl, hb1⟩
    have HBX1 := hideG hb1
    clear hb1 p0 p1 p2 p3 p4 plt
    go_wp2_with fail
    refine (live10_any _).mono ?_
    rintro ex wl ⟨rfl, hbl⟩
    have HBL := hideG (HB0.out.trans (((HBX1.out).trans (hbl.mono (HBX1.out).size)).mono HB0.out.size))
    clear hbl
    go_wp2_with fail
    go_ret
    exact ⟨rfl, HBL.out⟩
  · rw [hs] at HSM
    obtain ⟨hS, hl, htl, hls⟩ := small_facts hs
    have HS := hideG hS
    have HL := hideG hl
    have HLS := hideG hls
    have HTL := hideG htl
    clear hs hS hl hls htl
    go_enter Tryz.func5, Tryz.ntmps5
    go_wp2_with fail
    rw [HW0.out]
    refine HSM.out.mono ?_
    rintro ex w1 ⟨rfl, hb1⟩
    have HBX1 := hideG hb1
    have HC := hideG (refCheck10_any _ _ _ _ _ V w1 (HV0.out.below hb1) HS.out (by have := HLS.out; omega))
    clear hb1 HSM p0 p1 p2 p3 p4 plt
    have FV := hideG (BX.out.below HBX1.out)
    have p0 := FV.out.c0
    have p1 := FV.out.c1
    have p2 := FV.out.c2
    have p3 := FV.out.c3
    have p4 := FV.out.c4
    have plt := FV.out.lt
    go_wp2_with fail
    clear FV p0 p1 p2 p3 p4 plt
    by_cases hck : checkV V = 0
    · rw [hck] at HC
      have HCK := hideG hck
      refine HC.out.mono ?_
      rintro ex w2 ⟨rfl, hb2⟩
      have HBX2 := hideG (HBX1.out.trans (hb2.mono HBX1.out.size))
      clear hb2 HC hck
      have FV := hideG (BX.out.below HBX2.out)
      have p0 := FV.out.c0
      have p1 := FV.out.c1
      have p2 := FV.out.c2
      have p3 := FV.out.c3
      have p4 := FV.out.c4
      have plt := FV.out.lt
      have FX := hideG (XN.out.below HBX2.out)
      have x0 := FX.out.node
      have x1 := FX.out.inv
      have xlt := below_of_cell x0
      go_upto_if 35 with fail
      clear FV p0 p1 p2 p3 p4 plt FX x0 x1 xlt
      have HDG := hideG (shaped (dlg_any _ _ _ _ _ V w2 (HV0.out.below HBX2.out) HS.out HL.out (by have := HTL.out; omega) x.node m) _ _ _ _ _ rfl rfl rfl rfl rfl)
      have HTR := hideG (dlg_tree (m := m) (n := x.node) HCK.out)
      have HAF := hideG (fun h => dlg_may (m := m) (n := x.node) HCK.out h)
      have HAM := hideG (show dlgE V x.node = 0 → m = true → dlgW V x.node m = { V with modal := V.modal ++ [x.node], top := V.top ++ [x.node] } from fun h hm => by simp [dlgW, HCK.out, h, hm])
      have HAL := hideG (show (dlgW V x.node m).op.length ≤ 41 ∧ (dlgW V x.node m).modal.length ≤ 41 ∧ (dlgW V x.node m).pops.length ≤ 40 ∧ (dlgW V x.node m).top.length ≤ 81 from dlg_len HCK.out HLS.out)
      generalize dlgE V x.node = eA at *
      generalize dlgW V x.node m = A at *
      refine HDG.out.mono ?_
      rintro ex w3 ⟨aA0, cA0, aA1, cA1, aA2, cA2, aA3, cA3, aA4, cA4, rfl, hvA, hbw3⟩
      obtain ⟨X3, hX3⟩ : ∃ X, w3.alloc (.cells #[.slice aA0 A.tree.length cA0, .slice aA1 A.op.length cA1, .slice aA2 A.modal.length cA2, .slice aA3 A.pops.length cA3, .slice aA4 A.top.length cA4] 27) = X := ⟨_, rfl⟩
      have hzX3 : Below w3.heap.size w3 X3 := by rw [← hX3]; exact alB _ _
      have BX3 := hideG ((HBX2.out).trans ((hbw3.trans (hzX3.mono hbw3.size)).mono (HBX2.out).size))
      have BXA := hideG (show BoxV X3 w3.heap.size (.slice aA0 A.tree.length cA0) (.slice aA1 A.op.length cA1) (.slice aA2 A.modal.length cA2) (.slice aA3 A.pops.length cA3) (.slice aA4 A.top.length cA4) by rw [← hX3]; exact BoxV.new _ _ _ _ _ _ _)
      have HVA := hideG (hvA.below hzX3)
      have HEX3 := hideG hX3
      clear hX3 hvA
      clear HDG hbw3 hzX3
      go_upto_if 35 with fail
      rw [HEX3.out]
      go_cut [] (fun wx => Below W0.heap.size W0 wx)
      case first =>
        by_cases hE : eA = 0
        · subst hE
          obtain ⟨hcA, hceA, hcwA⟩ := HAF.out rfl
          have HSA := hideG (show Sane A.tree by rw [HTR.out]; exact HS.out)
          have HLA := hideG (show smallL A by have := HAL.out; exact ⟨by omega, by omega, by omega, by omega⟩)
          have HCA := hideG hcA
          have HMA := hideG (show mayB A.tree = true from check_may hcA)
          have HMV := hideG (show mayV A = true from may_iff.mpr (check_iff.mp hcA).2)
          have HCE := hideG hceA
          have HCW := hideG hcwA
          have HD35 := hideG (show ∀ U, Below X3.heap.size X3 U → Calls Tryz.prog 35 #[.agg #[.slice aA0 A.tree.length cA0, .slice aA1 A.op.length cA1, .slice aA2 A.modal.length cA2, .slice aA3 A.pops.length cA3, .slice aA4 A.top.length cA4]] U (fun e w' => e = .returned (.bool true) ∧ Below X3.heap.size X3 w') from fun U hU => by
            refine (refMay10_any _ _ _ _ _ A U (HVA.out.below hU) HSA.out HMA.out (by have := HAL.out; omega)).mono ?_
            rintro e w' ⟨rfl, hb⟩
            rw [HMV.out]
            exact ⟨rfl, hU.trans (hb.mono hU.size)⟩)
          have hcc : ∀ (d : Calm X3) (b o : Nat), b < X3.heap.size → d.to.cell? ⟨b, o, none⟩ = X3.cell? ⟨b, o, none⟩ := calmCell
          clear hcA hceA hcwA
          cases m
          · skip
            have FX := hideG (XN.out.below BX3.out)
            have x0 := FX.out.node
            have x1 := FX.out.inv
            have xlt := below_of_cell x0
            have p0 := BXA.out.c0
            have p1 := BXA.out.c1
            have p2 := BXA.out.c2
            have p3 := BXA.out.c3
            have p4 := BXA.out.c4
            have plt := BXA.out.lt
            go_wp2_with fail
            refine wp_region_calm (by kernel_rfl) (by kernel_rfl) ?_
            repeat (go_big_quiet_step (first | (go_at_call 35; refine Calls.mono (HD35.out _ (Calm.below _)) ?_; rintro ex wx ⟨rfl, hbx⟩; exact ⟨rfl, ⟨wx, hbx⟩, rfl⟩)))
            refine wpQuiet_nil ?_
            intro _ hw'
            obtain ⟨dq, hw''⟩ := hw'
            subst hw''
            have HB9 := hideG (BX3.out.trans (dq.below.mono BX3.out.size))
            have BX9 := hideG (BXA.out.below dq.below)
            have HV9 := hideG (HVA.out.below dq.below)
            generalize dq.to = wd at *
            clear hcc p0 p1 p2 p3 p4 plt x0 x1 xlt FX
            have p0 := BX9.out.c0
            have p1 := BX9.out.c1
            have p2 := BX9.out.c2
            have p3 := BX9.out.c3
            have p4 := BX9.out.c4
            have plt := BX9.out.lt
            have FX := hideG (XN.out.below HB9.out)
            have x0 := FX.out.node
            have x1 := FX.out.inv
            have xlt := below_of_cell x0
            go_wp2_with fail
            clear p0 p1 p2 p3 p4 plt x0 x1 xlt FX
            have HCL := hideG (shaped (by have := close_any _ _ _ _ _ A wd HV9.out HSA.out HLA.out (by rw [HTR.out]; have := HTL.out; omega) x.node; rw [HCE.out, HCW.out] at this; exact this) _ _ _ _ _ rfl rfl rfl rfl rfl)
            refine HCL.out.mono ?_
            rintro ex w4 ⟨aB0, cB0, aB1, cB1, aB2, cB2, aB3, cB3, aB4, cB4, rfl, hvB, hbw4⟩
            have HB4 := hideG (HB9.out.trans (hbw4.mono HB9.out.size))
            have FV := hideG (BX.out.below HB4.out)
            have p0 := FV.out.c0
            have p1 := FV.out.c1
            have p2 := FV.out.c2
            have p3 := FV.out.c3
            have p4 := FV.out.c4
            have plt := FV.out.lt
            obtain ⟨X4, hX4⟩ : ∃ X, w4.alloc (.cells #[.slice aB0 V.tree.length cB0, .slice aB1 V.op.length cB1, .slice aB2 V.modal.length cB2, .slice aB3 V.pops.length cB3, .slice aB4 V.top.length cB4] 27) = X := ⟨_, rfl⟩
            have hzX4 : Below w4.heap.size w4 X4 := by rw [← hX4]; exact alB _ _
            have BX4 := hideG ((HB9.out).trans ((hbw4.trans (hzX4.mono hbw4.size)).mono (HB9.out).size))
            have BXB := hideG (show BoxV X4 w4.heap.size (.slice aB0 V.tree.length cB0) (.slice aB1 V.op.length cB1) (.slice aB2 V.modal.length cB2) (.slice aB3 V.pops.length cB3) (.slice aB4 V.top.length cB4) by rw [← hX4]; exact BoxV.new _ _ _ _ _ _ _)
            have HVB := hideG (hvB.below hzX4)
            have HEX4 := hideG hX4
            clear hX4 hvB
            go_wp2_with fail
            rw [HEX4.out]
            clear p0 p1 p2 p3 p4 plt FV
            refine (sameYes _ _ _ _ _ _ _ _ _ _ V X4 HVB.out (HV0.out.below BX4.out) HS.out (by have := HLS.out; have := HTL.out; omega)).mono ?_
            rintro ex w9 ⟨rfl, hb9⟩
            have HBF := hideG (BX4.out.trans (hb9.mono BX4.out.size))
            clear hb9
            go_wp2_with fail
            go_meet
            case rel => exact HBF.out
          · have hAe := HAM.out rfl rfl
            have HTOP := hideG (show A.top = V.top ++ [x.node] by rw [hAe])
            have HHV := hideG (show highV A = x.node by rw [hAe]; exact high_modal V x.node)
            have HD25 := hideG (show ∀ U, Below X3.heap.size X3 U → Calls Tryz.prog 25 #[.agg #[.slice aA0 A.tree.length cA0, .slice aA1 A.op.length cA1, .slice aA2 A.modal.length cA2, .slice aA3 A.pops.length cA3, .slice aA4 A.top.length cA4]] U (fun e w' => e = .returned (.int .i64 x.node) ∧ Below X3.heap.size X3 w') from fun U hU => by
              refine (callsIn_wide.1 (highOk_in _ _ _ _ _ A U (HVA.out.below hU) HSA.out HLA.out HCA.out)).mono ?_
              rintro e w' ⟨rfl, hb⟩
              rw [HHV.out]
              exact ⟨rfl, hU.trans (hb.mono hU.size)⟩)
            obtain ⟨k, hk⟩ : ∃ k : Nat, k = V.top.length := ⟨_, rfl⟩
            have hAk : A.top.length = k + 1 := by rw [HTOP.out, hk]; simp
            have HGET := hideG (show A.top.getD k 0 = x.node by rw [HTOP.out, hk]; exact getD_snoc)
            obtain ⟨a', c', hv, hc⟩ := HVA.out.top
            injection hv with y1 y2 y3
            obtain ⟨b, off, he1, hd⟩ := hc (by omega)
            have e0 := hd k (by omega)
            rw [HGET.out] at e0
            have hbl : b < X3.heap.size := below_of_cell e0
            have he2 : aA4 = some ⟨b, off, none⟩ := y1.trans he1
            clear hd hc he1 y1 y2 y3 HGET
            subst he2
            have hN0 : ¬ (A.top.length : Int) = 0 := by omega
            have hNb : ((A.top.length : Int) == 0) = false := by rw [beq_eq_false_iff_ne]; omega
            have hN1 : ((A.top.length : Int) - 1) = (k : Int) := by omega
            have hk0 : (0 : Int) ≤ (k : Int) := by omega
            have hkN : (k : Int) < (A.top.length : Int) := by omega
            have hkl : (k : Int) ≤ 81 := by have := HAL.out; omega
            have HAK := hideG hAk
            clear hAk hk hAe
            generalize A.top.length = N at *
            have FX := hideG (XN.out.below BX3.out)
            have x0 := FX.out.node
            have x1 := FX.out.inv
            have xlt := below_of_cell x0
            have p0 := BXA.out.c0
            have p1 := BXA.out.c1
            have p2 := BXA.out.c2
            have p3 := BXA.out.c3
            have p4 := BXA.out.c4
            have plt := BXA.out.lt
            go_wp2_with fail
            refine wp_region_calm (by kernel_rfl) (by kernel_rfl) ?_
            repeat (go_big_quiet_step (first | (go_at_call 35; refine Calls.mono (HD35.out _ (Calm.below _)) ?_; rintro ex wx ⟨rfl, hbx⟩; exact ⟨rfl, ⟨wx, hbx⟩, rfl⟩) | (go_at_call 25; refine Calls.mono (HD25.out _ (Calm.below _)) ?_; rintro ex wx ⟨rfl, hbx⟩; exact ⟨rfl, ⟨wx, hbx⟩, rfl⟩)))
            refine wpQuiet_nil ?_
            intro _ hw'
            obtain ⟨dq, hw''⟩ := hw'
            subst hw''
            have HB9 := hideG (BX3.out.trans (dq.below.mono BX3.out.size))
            have BX9 := hideG (BXA.out.below dq.below)
            have HV9 := hideG (HVA.out.below dq.below)
            generalize dq.to = wd at *
            clear hcc p0 p1 p2 p3 p4 plt x0 x1 xlt FX
            have p0 := BX9.out.c0
            have p1 := BX9.out.c1
            have p2 := BX9.out.c2
            have p3 := BX9.out.c3
            have p4 := BX9.out.c4
            have plt := BX9.out.lt
            have FX := hideG (XN.out.below HB9.out)
            have x0 := FX.out.node
            have x1 := FX.out.inv
            have xlt := below_of_cell x0
            go_wp2_with fail
            clear p0 p1 p2 p3 p4 plt x0 x1 xlt FX
            have HCL := hideG (shaped (by have := close_any _ _ _ _ _ A wd HV9.out HSA.out HLA.out (by rw [HTR.out]; have := HTL.out; omega) x.node; rw [HCE.out, HCW.out] at this; exact this) _ _ _ _ _ rfl rfl rfl rfl rfl)
            refine HCL.out.mono ?_
            rintro ex w4 ⟨aB0, cB0, aB1, cB1, aB2, cB2, aB3, cB3, aB4, cB4, rfl, hvB, hbw4⟩
            have HB4 := hideG (HB9.out.trans (hbw4.mono HB9.out.size))
            have FV := hideG (BX.out.below HB4.out)
            have p0 := FV.out.c0
            have p1 := FV.out.c1
            have p2 := FV.out.c2
            have p3 := FV.out.c3
            have p4 := FV.out.c4
            have plt := FV.out.lt
            obtain ⟨X4, hX4⟩ : ∃ X, w4.alloc (.cells #[.slice aB0 V.tree.length cB0, .slice aB1 V.op.length cB1, .slice aB2 V.modal.length cB2, .slice aB3 V.pops.length cB3, .slice aB4 V.top.length cB4] 27) = X := ⟨_, rfl⟩
            have hzX4 : Below w4.heap.size w4 X4 := by rw [← hX4]; exact alB _ _
            have BX4 := hideG ((HB9.out).trans ((hbw4.trans (hzX4.mono hbw4.size)).mono (HB9.out).size))
            have BXB := hideG (show BoxV X4 w4.heap.size (.slice aB0 V.tree.length cB0) (.slice aB1 V.op.length cB1) (.slice aB2 V.modal.length cB2) (.slice aB3 V.pops.length cB3) (.slice aB4 V.top.length cB4) by rw [← hX4]; exact BoxV.new _ _ _ _ _ _ _)
            have HVB := hideG (hvB.below hzX4)
            have HEX4 := hideG hX4
            clear hX4 hvB
            go_wp2_with fail
            rw [HEX4.out]
            clear p0 p1 p2 p3 p4 plt FV
            refine (sameYes _ _ _ _ _ _ _ _ _ _ V X4 HVB.out (HV0.out.below BX4.out) HS.out (by have := HLS.out; have := HTL.out; omega)).mono ?_
            rintro ex w9 ⟨rfl, hb9⟩
            have HBF := hideG (BX4.out.trans (hb9.mono BX4.out.size))
            clear hb9
            go_wp2_with fail
            go_meet
            case rel => exact HBF.out
        · have hE' : (eA == 0) = false := by simpa using hE
          go_wp2_with fail
          go_meet
          case rel => exact BX3.out
      case rest =>
        have HBC := hideG hcut
        clear hcut HTR HAF HAM HAL HVA BXA BX3
        have FV := hideG (BX.out.below HBC.out)
        have p0 := FV.out.c0
        have p1 := FV.out.c1
        have p2 := FV.out.c2
        have p3 := FV.out.c3
        have p4 := FV.out.c4
        have plt := FV.out.lt
        have FX := hideG (XN.out.below HBC.out)
        have x0 := FX.out.node
        have x1 := FX.out.inv
        have xlt := below_of_cell x0
        go_upto_if 90 with fail
        clear FV p0 p1 p2 p3 p4 plt FX x0 x1 xlt
        have HDG := hideG (shaped (pop_any _ _ _ _ _ V wc (HV0.out.below HBC.out) HS.out HL.out (by have := HTL.out; omega) x) _ _ _ _ _ rfl rfl rfl rfl rfl)
        have HTR := hideG (pop_tree (x := x) HCK.out)
        have HAF := hideG (fun h => pop_may (x := x) HCK.out h)
        have HAL := hideG (show (popW V x).op.length ≤ 41 ∧ (popW V x).modal.length ≤ 41 ∧ (popW V x).pops.length ≤ 41 ∧ (popW V x).top.length ≤ 81 from pop_len HCK.out HLS.out)
        generalize popE V x = eA at *
        generalize popW V x = C at *
        refine HDG.out.mono ?_
        rintro ex w5 ⟨aC0, cC0, aC1, cC1, aC2, cC2, aC3, cC3, aC4, cC4, rfl, hvC, hbw5⟩
        obtain ⟨X5, hX5⟩ : ∃ X, w5.alloc (.cells #[.slice aC0 C.tree.length cC0, .slice aC1 C.op.length cC1, .slice aC2 C.modal.length cC2, .slice aC3 C.pops.length cC3, .slice aC4 C.top.length cC4] 27) = X := ⟨_, rfl⟩
        have hzX5 : Below w5.heap.size w5 X5 := by rw [← hX5]; exact alB _ _
        have BX5 := hideG ((HBC.out).trans ((hbw5.trans (hzX5.mono hbw5.size)).mono (HBC.out).size))
        have BXC := hideG (show BoxV X5 w5.heap.size (.slice aC0 C.tree.length cC0) (.slice aC1 C.op.length cC1) (.slice aC2 C.modal.length cC2) (.slice aC3 C.pops.length cC3) (.slice aC4 C.top.length cC4) by rw [← hX5]; exact BoxV.new _ _ _ _ _ _ _)
        have HVC := hideG (hvC.below hzX5)
        have HEX5 := hideG hX5
        clear hX5 hvC
        clear HDG hbw5 hzX5
        go_upto_if 90 with fail
        rw [HEX5.out]
        go_cut [] (fun wx => Below W0.heap.size W0 wx)
        case first =>
          by_cases hE : eA = 0
          · subst hE
            obtain ⟨hCe, hcC, hceC, hcwC, hhi⟩ := HAF.out rfl
            have HSC := hideG (show Sane C.tree by rw [HTR.out]; exact HS.out)
            have HLC := hideG (show smallL C by have := HAL.out; exact ⟨by omega, by omega, by omega, by omega⟩)
            have HCC := hideG hcC
            have HMC := hideG (show mayB C.tree = true from check_may hcC)
            have HMV := hideG (show mayV C = true from may_iff.mpr (check_iff.mp hcC).2)
            have HCE := hideG hceC
            have HCW := hideG hcwC
            have HHC := hideG hhi
            have HTOP := hideG (show C.top = V.top ++ [x.node] by rw [hCe])
            have HD35 := hideG (show ∀ U, Below X5.heap.size X5 U → Calls Tryz.prog 35 #[.agg #[.slice aC0 C.tree.length cC0, .slice aC1 C.op.length cC1, .slice aC2 C.modal.length cC2, .slice aC3 C.pops.length cC3, .slice aC4 C.top.length cC4]] U (fun e w' => e = .returned (.bool true) ∧ Below X5.heap.size X5 w') from fun U hU => by
              refine (refMay10_any _ _ _ _ _ C U (HVC.out.below hU) HSC.out HMC.out (by have := HAL.out; omega)).mono ?_
              rintro e w' ⟨rfl, hb⟩
              rw [HMV.out]
              exact ⟨rfl, hU.trans (hb.mono hU.size)⟩)
            have HD25 := hideG (show ∀ v U, (v = .agg #[.slice aC0 C.tree.length cC0, .slice aC1 C.op.length cC1, .slice aC2 C.modal.length cC2, .slice aC3 C.pops.length cC3, .slice aC4 C.top.length cC4] ∨ v = .agg #[.slice ta V.tree.length tc, .slice oa V.op.length oc, .slice ma V.modal.length mc, .slice pa V.pops.length pc, .slice qa V.top.length qc]) → Below X5.heap.size X5 U → Calls Tryz.prog 25 #[v] U (fun e w' => e = .returned (.int .i64 (highV V)) ∧ Below X5.heap.size X5 w') from fun v U hv hU => by
              rcases hv with rfl | rfl
              · refine (callsIn_wide.1 (highOk_in _ _ _ _ _ C U (HVC.out.below hU) HSC.out HLC.out HCC.out)).mono ?_
                rintro e w' ⟨rfl, hb⟩
                rw [HHC.out]
                exact ⟨rfl, hU.trans (hb.mono hU.size)⟩
              · refine (callsIn_wide.1 (highOk_in _ _ _ _ _ V U ((HV0.out.below BX5.out).below hU) HS.out HL.out HCK.out)).mono ?_
                rintro e w' ⟨rfl, hb⟩
                exact ⟨rfl, hU.trans (hb.mono hU.size)⟩)
            generalize highV V = hh at *
            obtain ⟨k, hk⟩ : ∃ k : Nat, k = V.top.length := ⟨_, rfl⟩
            have hAk : C.top.length = k + 1 := by rw [HTOP.out, hk]; simp
            have HGET := hideG (show C.top.getD k 0 = x.node by rw [HTOP.out, hk]; exact getD_snoc)
            obtain ⟨a', c', hv, hc⟩ := HVC.out.top
            injection hv with y1 y2 y3
            obtain ⟨b, off, he1, hd⟩ := hc (by omega)
            have e0 := hd k (by omega)
            rw [HGET.out] at e0
            have hbl : b < X5.heap.size := below_of_cell e0
            have he2 : aC4 = some ⟨b, off, none⟩ := y1.trans he1
            have hcc : ∀ (d : Calm X5) (b o : Nat), b < X5.heap.size → d.to.cell? ⟨b, o, none⟩ = X5.cell? ⟨b, o, none⟩ := calmCell
            clear hd hc he1 y1 y2 y3 HGET hcC hceC hcwC hhi hCe
            subst he2
            have hN0 : ¬ (C.top.length : Int) = 0 := by omega
            have hNb : ((C.top.length : Int) == 0) = false := by rw [beq_eq_false_iff_ne]; omega
            have hN1 : ((C.top.length : Int) - 1) = (k : Int) := by omega
            have hk0 : (0 : Int) ≤ (k : Int) := by omega
            have hkN : (k : Int) < (C.top.length : Int) := by omega
            have hkl : (k : Int) ≤ 81 := by have := HAL.out; omega
            clear hAk hk
            generalize C.top.length = N at *
            have FX := hideG (XN.out.below BX5.out)
            have x0 := FX.out.node
            have x1 := FX.out.inv
            have xlt := below_of_cell x0
            have p0 := BXC.out.c0
            have p1 := BXC.out.c1
            have p2 := BXC.out.c2
            have p3 := BXC.out.c3
            have p4 := BXC.out.c4
            have plt := BXC.out.lt
            have FV := hideG (BX.out.below BX5.out)
            have v0 := FV.out.c0
            have v1 := FV.out.c1
            have v2 := FV.out.c2
            have v3 := FV.out.c3
            have v4 := FV.out.c4
            have vlt := FV.out.lt
            go_wp2_with fail
            refine wp_region_calm (by kernel_rfl) (by kernel_rfl) ?_
            repeat (go_big_quiet_step (first | (go_at_call 35; refine Calls.mono (HD35.out _ (Calm.below _)) ?_; rintro ex wx ⟨rfl, hbx⟩; exact ⟨rfl, ⟨wx, hbx⟩, rfl⟩) | (go_at_call 25; refine Calls.mono (HD25.out _ _ (by first | exact .inl rfl | exact .inr rfl) (Calm.below _)) ?_; rintro ex wx ⟨rfl, hbx⟩; exact ⟨rfl, ⟨wx, hbx⟩, rfl⟩)))
            refine wpQuiet_nil ?_
            intro _ hw'
            obtain ⟨dq, hw''⟩ := hw'
            subst hw''
            clear v0 v1 v2 v3 v4 vlt FV
            have HB9 := hideG (BX5.out.trans (dq.below.mono BX5.out.size))
            have BX9 := hideG (BXC.out.below dq.below)
            have HV9 := hideG (HVC.out.below dq.below)
            generalize dq.to = wd at *
            clear hcc p0 p1 p2 p3 p4 plt x0 x1 xlt FX
            have p0 := BX9.out.c0
            have p1 := BX9.out.c1
            have p2 := BX9.out.c2
            have p3 := BX9.out.c3
            have p4 := BX9.out.c4
            have plt := BX9.out.lt
            have FX := hideG (XN.out.below HB9.out)
            have x0 := FX.out.node
            have x1 := FX.out.inv
            have xlt := below_of_cell x0
            go_wp2_with fail
            clear p0 p1 p2 p3 p4 plt x0 x1 xlt FX
            have HCL := hideG (shaped (by have := close_any _ _ _ _ _ C wd HV9.out HSC.out HLC.out (by rw [HTR.out]; have := HTL.out; omega) x.node; rw [HCE.out, HCW.out] at this; exact this) _ _ _ _ _ rfl rfl rfl rfl rfl)
            refine HCL.out.mono ?_
            rintro ex w6 ⟨aB0, cB0, aB1, cB1, aB2, cB2, aB3, cB3, aB4, cB4, rfl, hvB, hbw6⟩
            have HB4 := hideG (HB9.out.trans (hbw6.mono HB9.out.size))
            have FV := hideG (BX.out.below HB4.out)
            have p0 := FV.out.c0
            have p1 := FV.out.c1
            have p2 := FV.out.c2
            have p3 := FV.out.c3
            have p4 := FV.out.c4
            have plt := FV.out.lt
            obtain ⟨X6, hX6⟩ : ∃ X, w6.alloc (.cells #[.slice aB0 V.tree.length cB0, .slice aB1 V.op.length cB1, .slice aB2 V.modal.length cB2, .slice aB3 V.pops.length cB3, .slice aB4 V.top.length cB4] 27) = X := ⟨_, rfl⟩
            have hzX6 : Below w6.heap.size w6 X6 := by rw [← hX6]; exact alB _ _
            have BX6 := hideG ((HB9.out).trans ((hbw6.trans (hzX6.mono hbw6.size)).mono (HB9.out).size))
            have BXB := hideG (show BoxV X6 w6.heap.size (.slice aB0 V.tree.length cB0) (.slice aB1 V.op.length cB1) (.slice aB2 V.modal.length cB2) (.slice aB3 V.pops.length cB3) (.slice aB4 V.top.length cB4) by rw [← hX6]; exact BoxV.new _ _ _ _ _ _ _)
            have HVB := hideG (hvB.below hzX6)
            have HEX6 := hideG hX6
            clear hX6 hvB
            go_wp2_with fail
            rw [HEX6.out]
            clear p0 p1 p2 p3 p4 plt FV
            refine (sameYes _ _ _ _ _ _ _ _ _ _ V X6 HVB.out (HV0.out.below BX6.out) HS.out (by have := HLS.out; have := HTL.out; omega)).mono ?_
            rintro ex w9 ⟨rfl, hb9⟩
            have HBF := hideG (BX6.out.trans (hb9.mono BX6.out.size))
            clear hb9
            go_wp2_with fail
            go_meet
            case rel => exact HBF.out
          · have hE' : (eA == 0) = false := by simpa using hE
            go_wp2_with fail
            go_meet
            case rel => exact BX5.out
        case rest =>
          have HBD := hideG hcut
          clear hcut HTR HAF HAL HVC BXC BX5
          have FV := hideG (BX.out.below HBD.out)
          have p0 := FV.out.c0
          have p1 := FV.out.c1
          have p2 := FV.out.c2
          have p3 := FV.out.c3
          have p4 := FV.out.c4
          have plt := FV.out.lt
          have FX := hideG (XN.out.below HBD.out)
          have x0 := FX.out.node
          have x1 := FX.out.inv
          have xlt := below_of_cell x0
          go_wp2_with fail
          clear FV p0 p1 p2 p3 p4 plt FX x0 x1 xlt
          have HDG := hideG (shaped (close_any _ _ _ _ _ V wc (HV0.out.below HBD.out) HS.out HL.out (by have := HTL.out; omega) x.node) _ _ _ _ _ rfl rfl rfl rfl rfl)
          have HTR := hideG (close_tree (n := x.node) HCK.out)
          have HAF := hideG (fun h => close_may (n := x.node) HCK.out h)
          have HAL := hideG (show (closeW V x.node).op.length ≤ 40 ∧ (closeW V x.node).modal.length ≤ 40 ∧ (closeW V x.node).pops.length ≤ 40 ∧ (closeW V x.node).top.length ≤ 80 from close_len HCK.out HLS.out)
          generalize closeE V x.node = eA at *
          generalize closeW V x.node = K at *
          refine HDG.out.mono ?_
          rintro ex w7 ⟨aK0, cK0, aK1, cK1, aK2, cK2, aK3, cK3, aK4, cK4, rfl, hvK, hbw7⟩
          obtain ⟨X7, hX7⟩ : ∃ X, w7.alloc (.cells #[.slice aK0 K.tree.length cK0, .slice aK1 K.op.length cK1, .slice aK2 K.modal.length cK2, .slice aK3 K.pops.length cK3, .slice aK4 K.top.length cK4] 27) = X := ⟨_, rfl⟩
          have hzX7 : Below w7.heap.size w7 X7 := by rw [← hX7]; exact alB _ _
          have BX7 := hideG ((HBD.out).trans ((hbw7.trans (hzX7.mono hbw7.size)).mono (HBD.out).size))
          have BXK := hideG (show BoxV X7 w7.heap.size (.slice aK0 K.tree.length cK0) (.slice aK1 K.op.length cK1) (.slice aK2 K.modal.length cK2) (.slice aK3 K.pops.length cK3) (.slice aK4 K.top.length cK4) by rw [← hX7]; exact BoxV.new _ _ _ _ _ _ _)
          have HVK := hideG (hvK.below hzX7)
          have HEX7 := hideG hX7
          clear hX7 hvK

          have XO := hideG (XN.out.below (HBD.out.trans (hbw7.mono HBD.out.size)))
          clear HDG hbw7 hzX7
          by_cases hE : eA = 0
          · subst hE
            obtain ⟨hKe, hcK, hoK, htK⟩ := HAF.out rfl
            have HSK := hideG (show Sane K.tree by rw [HTR.out]; exact HS.out)
            have HMK := hideG (show mayB K.tree = true from check_may hcK)
            have HMV := hideG (show mayV K = true from may_iff.mpr (check_iff.mp hcK).2)
            have HOK := hideG hoK
            have HTK := hideG htK
            clear hKe hcK hoK htK
            have x0 := XO.out.node
            have x1 := XO.out.inv
            have xlt := below_of_cell x0
            go_wp2_with fail
            rw [HEX7.out]
            clear x0 x1 xlt
            refine (refMay10_any _ _ _ _ _ K X7 HVK.out HSK.out HMK.out (by have := HAL.out; omega)).mono ?_
            rintro ex w8 ⟨rfl, hb8⟩
            rw [HMV.out]
            have HB8 := hideG (BX7.out.trans (hb8.mono BX7.out.size))
            have BK8 := hideG (BXK.out.below hb8)
            have HVK8 := hideG (HVK.out.below hb8)
            clear hb8
            have p0 := BK8.out.c0
            have p1 := BK8.out.c1
            have p2 := BK8.out.c2
            have p3 := BK8.out.c3
            have p4 := BK8.out.c4
            have plt := BK8.out.lt
            have FX := hideG (XN.out.below HB8.out)
            have x0 := FX.out.node
            have x1 := FX.out.inv
            have xlt := below_of_cell x0
            go_wp2_with fail
            clear p0 p1 p2 p3 p4 plt x0 x1 xlt FX
            refine (refIsOpen_any _ _ _ _ _ K w8 HVK8.out x.node (by have := HAL.out; omega)).mono ?_
            rintro ex w9 ⟨rfl, hb9⟩
            rw [HOK.out]
            have HB9 := hideG (HB8.out.trans (hb9.mono HB8.out.size))
            have BK9 := hideG (BK8.out.below hb9)
            have HVK9 := hideG (HVK8.out.below hb9)
            clear hb9
            have p0 := BK9.out.c0
            have p1 := BK9.out.c1
            have p2 := BK9.out.c2
            have p3 := BK9.out.c3
            have p4 := BK9.out.c4
            have plt := BK9.out.lt
            have FX := hideG (XN.out.below HB9.out)
            have x0 := FX.out.node
            have x1 := FX.out.inv
            have xlt := below_of_cell x0
            go_wp2_with fail
            clear p0 p1 p2 p3 p4 plt x0 x1 xlt FX
            refine (refIn_any K.top _ x.node w9 HVK9.out.top (by have := HAL.out; omega)).mono ?_
            rintro ex wz ⟨rfl, hwz⟩
            obtain rfl : _ = wz := hwz.symm
            rw [HTK.out]
            go_wp2_with fail
            refine (live10_any _).mono ?_
            rintro ex wl ⟨rfl, hbl⟩
            have HBL := hideG (HB0.out.trans (((HB9.out).trans (hbl.mono (HB9.out).size)).mono HB0.out.size))
            clear hbl
            go_wp2_with fail
            go_ret
            exact ⟨rfl, HBL.out⟩
          · have hE' : (eA == 0) = false := by simpa using hE
            go_wp2_with fail
            rw [HEX7.out]
            refine (live10_any _).mono ?_
            rintro ex wl ⟨rfl, hbl⟩
            have HBL := hideG (HB0.out.trans (((BX7.out).trans (hbl.mono (BX7.out).size)).mono HB0.out.size))
            clear hbl
            go_wp2_with fail
            go_ret
            exact ⟨rfl, HBL.out⟩
    · have hcd := check_bad hck
      generalize checkV V = c at *
      clear hck
      rcases hcd with rfl | rfl
      · refine HC.out.mono ?_
        rintro ex w2 ⟨rfl, hb2⟩
        have HBX2 := hideG (HBX1.out.trans (hb2.mono HBX1.out.size))
        clear hb2 HC
        go_wp2_with fail
        refine (live10_any _).mono ?_
        rintro ex wl ⟨rfl, hbl⟩
        have HBL := hideG (HB0.out.trans (((HBX2.out).trans (hbl.mono (HBX2.out).size)).mono HB0.out.size))
        clear hbl
        go_wp2_with fail
        go_ret
        exact ⟨rfl, HBL.out⟩
      · refine HC.out.mono ?_
        rintro ex w2 ⟨rfl, hb2⟩
        have HBX2 := hideG (HBX1.out.trans (hb2.mono HBX1.out.size))
        clear hb2 HC
        go_wp2_with fail
        refine (live10_any _).mono ?_
        rintro ex wl ⟨rfl, hbl⟩
        have HBL := hideG (HB0.out.trans (((HBX2.out).trans (hbl.mono (HBX2.out).size)).mono HB0.out.size))
        clear hbl
        go_wp2_with fail
        go_ret
        exact ⟨rfl, HBL.out⟩
end Go.Proofs.YtclhimodopgeoaaGreat

