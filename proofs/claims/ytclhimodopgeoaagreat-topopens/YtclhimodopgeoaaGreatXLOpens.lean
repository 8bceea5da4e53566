/- The law on who is opened, and closed. -/
import Derived.Test.YtclhimodopgeoaaGreatXLStays
import Derived.Test.YtclhimodopgeoaaGreatXTopRPop
import Derived.Test.YtclhimodopgeoaaGreatXTopRClose
namespace Go.Proofs.YtclhimodopgeoaaGreat
open Go.RowKit

theorem dlg_ok {V : Vw} {n : Int} {m : Bool} (hS : Sane V.tree) (h : V.op.length ≤ 40 ∧ V.modal.length ≤ 40 ∧ V.pops.length ≤ 40 ∧ V.top.length ≤ 80) (ht : V.tree.length ≤ 16) : Sane (dlgW V n m).tree ∧ (dlgW V n m).tree.length ≤ 1000000 ∧ (dlgW V n m).op.length ≤ 1000000 ∧ (dlgW V n m).modal.length ≤ 1000000 ∧ (dlgW V n m).top.length ≤ 1000000 ∧ (dlgW V n m).pops.length ≤ 1000000 := by
  by_cases hck : checkV V = 0
  · have h1 := dlg_tree (n := n) (m := m) hck
    have h2 := dlg_len (n := n) (m := m) hck h
    rw [h1]
    exact ⟨hS, by omega, by omega, by omega, by omega, by omega⟩
  · have e : dlgW V n m = emptyV := by unfold dlgW; rw [if_neg hck]
    rw [e]
    exact ⟨sane_of (T := []) (by decide), by decide, by decide, by decide, by decide, by decide⟩
theorem pop_ok {V : Vw} {x : Sh} (hS : Sane V.tree) (h : V.op.length ≤ 40 ∧ V.modal.length ≤ 40 ∧ V.pops.length ≤ 40 ∧ V.top.length ≤ 80) (ht : V.tree.length ≤ 16) : Sane (popW V x).tree ∧ (popW V x).tree.length ≤ 1000000 ∧ (popW V x).op.length ≤ 1000000 ∧ (popW V x).modal.length ≤ 1000000 ∧ (popW V x).top.length ≤ 1000000 ∧ (popW V x).pops.length ≤ 1000000 := by
  by_cases hck : checkV V = 0
  · have h1 := pop_tree (x := x) hck
    have h2 := pop_len (x := x) hck h
    rw [h1]
    exact ⟨hS, by omega, by omega, by omega, by omega, by omega⟩
  · have e : popW V x = emptyV := by unfold popW; rw [if_neg hck]
    rw [e]
    exact ⟨sane_of (T := []) (by decide), by decide, by decide, by decide, by decide, by decide⟩
theorem close_ok {V : Vw} {n : Int} (hS : Sane V.tree) (h : V.op.length ≤ 40 ∧ V.modal.length ≤ 40 ∧ V.pops.length ≤ 40 ∧ V.top.length ≤ 80) (ht : V.tree.length ≤ 16) : Sane (closeW V n).tree ∧ (closeW V n).tree.length ≤ 1000000 ∧ (closeW V n).op.length ≤ 1000000 ∧ (closeW V n).modal.length ≤ 1000000 ∧ (closeW V n).top.length ≤ 1000000 ∧ (closeW V n).pops.length ≤ 1000000 := by
  by_cases hck : checkV V = 0
  · have h1 := close_tree (n := n) hck
    have h2 := close_len (n := n) hck h
    rw [h1]
    exact ⟨hS, by omega, by omega, by omega, by omega, by omega⟩
  · have e : closeW V n = emptyV := by unfold closeW; rw [if_neg hck]
    rw [e]
    exact ⟨sane_of (T := []) (by decide), by decide, by decide, by decide, by decide, by decide⟩
set_option maxRecDepth 100000 in
set_option maxHeartbeats 16000000 in
theorem topOpens_walk (tv ov mv pv qv : Value) (V : Vw) (x : Sh) (m : Bool) (w : World) (hV : ViewAt w tv ov mv pv qv V) :
    Calls Tryz.prog 4 #[.agg #[tv, ov, mv, pv, qv], .agg #[.int .i64 x.node, .int .i64 x.inv], .bool m] w fun e w' => e = .returned (.bool true) ∧ Below w.heap.size w w' := by
  obtain ⟨hT, hO, hM, hP, hQ⟩ := hV
  obtain ⟨ta, tc, rfl⟩ := hT.shape
  obtain ⟨oa, oc, rfl⟩ := hO.shape
  obtain ⟨ma, mc, rfl⟩ := hM.shape
  obtain ⟨pa, pc, rfl⟩ := hP.shape
  obtain ⟨qa, qc, rfl⟩ := hQ.shape
  obtain ⟨W0, hW0⟩ : ∃ W0, (w.alloc (.cells #[.slice ta V.tree.length tc, .slice oa V.op.length oc, .slice ma V.modal.length mc, .slice pa V.pops.length pc, .slice qa V.top.length qc] 27)).alloc (.cells #[.int .i64 x.node, .int .i64 x.inv] 39) = W0 := ⟨_, rfl⟩
  have HB0 := hideG (show Below w.heap.size w W0 by rw [← hW0]; exact (alB _ _).trans ((alB _ _).mono (alB _ _).size))
  have BX := hideG (show BoxV W0 w.heap.size _ _ _ _ _ by rw [← hW0]; exact (BoxV.new w _ _ _ _ _ 27).below (alB _ _))
  have XN := hideG (show ShAt W0 (w.heap.size + 1) 0 x by rw [← hW0]; exact ⟨by simp, by simp⟩)
  have HV := hideG (show ViewAt w _ _ _ _ _ V from ⟨hT, hO, hM, hP, hQ⟩)
  have HV0 := hideG (HV.out.below HB0.out)
  have HW0 := hideG hW0
  clear hW0 hT hO hM hP hQ
  have HSM := hideG (refSmall10_any _ _ _ _ _ V W0 HV0.out)
  have p0 := BX.out.c0
  have p1 := BX.out.c1
  have p2 := BX.out.c2
  have p3 := BX.out.c3
  have p4 := BX.out.c4
  have plt := BX.out.lt
  cases hs : smallV V
  · rw [hs] at HSM
    clear hs
    go_enter Tryz.func4, Tryz.ntmps4
    go_wp2_with fail
    rw [HW0.out]
    refine HSM.out.mono ?_
    rintro ex w1 ⟨rfl, hb1⟩
    have HBX1 := hideG hb1
    clear hb1 p0 p1 p2 p3 p4 plt
    go_wp2_with fail
    refine (live10_any _).mono ?_
    rintro ex wl ⟨rfl, hbl⟩
    have HBL := hideG (HB0.out.trans (((HBX1.out).trans (hbl.mono (HBX1.out).size)).mono HB0.out.size))
    clear hbl
    go_wp2_with fail
    go_ret
    exact ⟨rfl, HBL.out⟩
  · rw [hs] at HSM
    obtain ⟨hS, hl, htl, hls⟩ := small_facts hs
    have HS := hideG hS
    have HL := hideG hl
    have HLS := hideG hls
    have HTL := hideG htl
    clear hs hS hl hls htl
    go_enter Tryz.func4, Tryz.ntmps4
    go_wp2_with fail
    rw [HW0.out]
    refine HSM.out.mono ?_
    rintro ex w1 ⟨rfl, hb1⟩
    have HBX1 := hideG hb1
    clear hb1 HSM p0 p1 p2 p3 p4 plt
    go_upto_region 3 with fail
    have FV := hideG (BX.out.below HBX1.out)
    have p0 := FV.out.c0
    have p1 := FV.out.c1
    have p2 := FV.out.c2
    have p3 := FV.out.c3
    have p4 := FV.out.c4
    have plt := FV.out.lt
    have FX := hideG (XN.out.below HBX1.out)
    have x0 := FX.out.node
    have x1 := FX.out.inv
    have xlt := below_of_cell x0
    go_wp2_with fail
    clear FV p0 p1 p2 p3 p4 plt FX x0 x1 xlt
    refine (shaped (dlg_any _ _ _ _ _ V w1 (HV0.out.below HBX1.out) HS.out HL.out (by have := HTL.out; omega) x.node m) _ _ _ _ _ rfl rfl rfl rfl rfl).mono ?_
    rintro ex uAw ⟨aA0, cA0, aA1, cA1, aA2, cA2, aA3, cA3, aA4, cA4, rfl, hvA, hbA⟩
    obtain ⟨XA, hXA⟩ : ∃ X, uAw.alloc (.cells #[.slice aA0 (dlgW V x.node m).tree.length cA0, .slice aA1 (dlgW V x.node m).op.length cA1, .slice aA2 (dlgW V x.node m).modal.length cA2, .slice aA3 (dlgW V x.node m).pops.length cA3, .slice aA4 (dlgW V x.node m).top.length cA4] 27) = X := ⟨_, rfl⟩
    have hzXA : Below uAw.heap.size uAw XA := by rw [← hXA]; exact alB _ _
    have hstXA := hbA.trans (hzXA.mono hbA.size)
    have HBXA := hideG (HBX1.out.trans (hstXA.mono HBX1.out.size))
    have BXA := hideG (show BoxV XA uAw.heap.size (.slice aA0 (dlgW V x.node m).tree.length cA0) (.slice aA1 (dlgW V x.node m).op.length cA1) (.slice aA2 (dlgW V x.node m).modal.length cA2) (.slice aA3 (dlgW V x.node m).pops.length cA3) (.slice aA4 (dlgW V x.node m).top.length cA4) by rw [← hXA]; exact BoxV.new _ _ _ _ _ _ _)
    have HVA := hideG (hvA.below hzXA)
    have HEXA := hideG hXA
    clear hXA hvA hzXA hstXA hbA
    go_upto_region 4 with fail
    rw [HEXA.out]
    refine wp_slots (fun zA => { tmps := #[zA 0, zA 1, .bool m, .pointer (some ⟨w.heap.size, 0, none⟩), .pointer (some ⟨w.heap.size + 1, 0, none⟩), zA 5, zA 6, .pointer (some ⟨uAw.heap.size, 0, none⟩), .int .i64 (dlgE V x.node), zA 9, zA 10, zA 11, zA 12, zA 13, zA 14, zA 15, zA 16, zA 17, zA 18, zA 19, zA 20, zA 21, zA 22, zA 23, zA 24, zA 25, zA 26, zA 27, zA 28, zA 29, zA 30, zA 31, zA 32, zA 33, zA 34, zA 35, zA 36, zA 37, zA 38, zA 39, zA 40, zA 41, zA 42, zA 43, zA 44, zA 45, zA 46, zA 47, zA 48, zA 49, zA 50, zA 51, zA 52, zA 53, zA 54, zA 55, zA 56, zA 57, zA 58, zA 59, zA 60, zA 61, zA 62, zA 63, zA 64, zA 65, zA 66, zA 67, zA 68, zA 69, zA 70, zA 71, zA 72, zA 73, zA 74, zA 75, zA 76, zA 77, zA 78, zA 79, zA 80, zA 81, zA 82, zA 83, zA 84, zA 85, zA 86, zA 87, zA 88, zA 89, zA 90, zA 91, zA 92, zA 93, zA 94, zA 95], defers := [] }) (by rfl) (fun zA => ?_)
    have FV := hideG (BX.out.below HBXA.out)
    have p0 := FV.out.c0
    have p1 := FV.out.c1
    have p2 := FV.out.c2
    have p3 := FV.out.c3
    have p4 := FV.out.c4
    have plt := FV.out.lt
    have FX := hideG (XN.out.below HBXA.out)
    have x0 := FX.out.node
    have x1 := FX.out.inv
    have xlt := below_of_cell x0
    go_wp2_with fail
    clear FV p0 p1 p2 p3 p4 plt FX x0 x1 xlt
    refine (shaped (rdlg_any _ _ _ _ _ V XA (HV0.out.below HBXA.out) HS.out HL.out (by have := HTL.out; omega) x.node m) _ _ _ _ _ rfl rfl rfl rfl rfl).mono ?_
    rintro ex uBw ⟨aB0, cB0, aB1, cB1, aB2, cB2, aB3, cB3, aB4, cB4, rfl, hvB, hbB⟩
    obtain ⟨XB, hXB⟩ : ∃ X, uBw.alloc (.cells #[.slice aB0 (dlgW V x.node m).tree.length cB0, .slice aB1 (dlgW V x.node m).op.length cB1, .slice aB2 (dlgW V x.node m).modal.length cB2, .slice aB3 (dlgW V x.node m).pops.length cB3, .slice aB4 (dlgW V x.node m).top.length cB4] 27) = X := ⟨_, rfl⟩
    have hzXB : Below uBw.heap.size uBw XB := by rw [← hXB]; exact alB _ _
    have hstXB := hbB.trans (hzXB.mono hbB.size)
    have HBXB := hideG (HBXA.out.trans (hstXB.mono HBXA.out.size))
    have BXAn := hideG (BXA.out.below hstXB)
    clear BXA
    have BXA := BXAn
    clear BXAn
    have HVAn := hideG (HVA.out.below hstXB)
    clear HVA
    have HVA := HVAn
    clear HVAn
    have BXB := hideG (show BoxV XB uBw.heap.size (.slice aB0 (dlgW V x.node m).tree.length cB0) (.slice aB1 (dlgW V x.node m).op.length cB1) (.slice aB2 (dlgW V x.node m).modal.length cB2) (.slice aB3 (dlgW V x.node m).pops.length cB3) (.slice aB4 (dlgW V x.node m).top.length cB4) by rw [← hXB]; exact BoxV.new _ _ _ _ _ _ _)
    have HVB := hideG (hvB.below hzXB)
    have HEXB := hideG hXB
    clear hXB hvB hzXB hstXB hbB
    go_upto_region 5 with fail
    rw [HEXB.out]
    refine wp_slots (fun zB => { tmps := #[zB 0, zB 1, .bool m, .pointer (some ⟨w.heap.size, 0, none⟩), .pointer (some ⟨w.heap.size + 1, 0, none⟩), zB 5, zB 6, .pointer (some ⟨uAw.heap.size, 0, none⟩), .int .i64 (dlgE V x.node), .pointer (some ⟨uBw.heap.size, 0, none⟩), .int .i64 (dlgE V x.node), zB 11, zB 12, zB 13, zB 14, zB 15, zB 16, zB 17, zB 18, zB 19, zB 20, zB 21, zB 22, zB 23, zB 24, zB 25, zB 26, zB 27, zB 28, zB 29, zB 30, zB 31, zB 32, zB 33, zB 34, zB 35, zB 36, zB 37, zB 38, zB 39, zB 40, zB 41, zB 42, zB 43, zB 44, zB 45, zB 46, zB 47, zB 48, zB 49, zB 50, zB 51, zB 52, zB 53, zB 54, zB 55, zB 56, zB 57, zB 58, zB 59, zB 60, zB 61, zB 62, zB 63, zB 64, zB 65, zB 66, zB 67, zB 68, zB 69, zB 70, zB 71, zB 72, zB 73, zB 74, zB 75, zB 76, zB 77, zB 78, zB 79, zB 80, zB 81, zB 82, zB 83, zB 84, zB 85, zB 86, zB 87, zB 88, zB 89, zB 90, zB 91, zB 92, zB 93, zB 94, zB 95], defers := [] }) (by rfl) (fun zB => ?_)
    have FV := hideG (BX.out.below HBXB.out)
    have p0 := FV.out.c0
    have p1 := FV.out.c1
    have p2 := FV.out.c2
    have p3 := FV.out.c3
    have p4 := FV.out.c4
    have plt := FV.out.lt
    have FX := hideG (XN.out.below HBXB.out)
    have x0 := FX.out.node
    have x1 := FX.out.inv
    have xlt := below_of_cell x0
    go_wp2_with fail
    clear FV p0 p1 p2 p3 p4 plt FX x0 x1 xlt
    refine (shaped (pop_any _ _ _ _ _ V XB (HV0.out.below HBXB.out) HS.out HL.out (by have := HTL.out; omega) x) _ _ _ _ _ rfl rfl rfl rfl rfl).mono ?_
    rintro ex uCw ⟨aC0, cC0, aC1, cC1, aC2, cC2, aC3, cC3, aC4, cC4, rfl, hvC, hbC⟩
    obtain ⟨XC, hXC⟩ : ∃ X, uCw.alloc (.cells #[.slice aC0 (popW V x).tree.length cC0, .slice aC1 (popW V x).op.length cC1, .slice aC2 (popW V x).modal.length cC2, .slice aC3 (popW V x).pops.length cC3, .slice aC4 (popW V x).top.length cC4] 27) = X := ⟨_, rfl⟩
    have hzXC : Below uCw.heap.size uCw XC := by rw [← hXC]; exact alB _ _
    have hstXC := hbC.trans (hzXC.mono hbC.size)
    have HBXC := hideG (HBXB.out.trans (hstXC.mono HBXB.out.size))
    have BXAn := hideG (BXA.out.below hstXC)
    clear BXA
    have BXA := BXAn
    clear BXAn
    have HVAn := hideG (HVA.out.below hstXC)
    clear HVA
    have HVA := HVAn
    clear HVAn
    have BXBn := hideG (BXB.out.below hstXC)
    clear BXB
    have BXB := BXBn
    clear BXBn
    have HVBn := hideG (HVB.out.below hstXC)
    clear HVB
    have HVB := HVBn
    clear HVBn
    have BXC := hideG (show BoxV XC uCw.heap.size (.slice aC0 (popW V x).tree.length cC0) (.slice aC1 (popW V x).op.length cC1) (.slice aC2 (popW V x).modal.length cC2) (.slice aC3 (popW V x).pops.length cC3) (.slice aC4 (popW V x).top.length cC4) by rw [← hXC]; exact BoxV.new _ _ _ _ _ _ _)
    have HVC := hideG (hvC.below hzXC)
    have HEXC := hideG hXC
    clear hXC hvC hzXC hstXC hbC
    go_upto_region 6 with fail
    rw [HEXC.out]
    refine wp_slots (fun zC => { tmps := #[zC 0, zC 1, .bool m, .pointer (some ⟨w.heap.size, 0, none⟩), .pointer (some ⟨w.heap.size + 1, 0, none⟩), zC 5, zC 6, .pointer (some ⟨uAw.heap.size, 0, none⟩), .int .i64 (dlgE V x.node), .pointer (some ⟨uBw.heap.size, 0, none⟩), .int .i64 (dlgE V x.node), .pointer (some ⟨uCw.heap.size, 0, none⟩), .int .i64 (popE V x), zC 13, zC 14, zC 15, zC 16, zC 17, zC 18, zC 19, zC 20, zC 21, zC 22, zC 23, zC 24, zC 25, zC 26, zC 27, zC 28, zC 29, zC 30, zC 31, zC 32, zC 33, zC 34, zC 35, zC 36, zC 37, zC 38, zC 39, zC 40, zC 41, zC 42, zC 43, zC 44, zC 45, zC 46, zC 47, zC 48, zC 49, zC 50, zC 51, zC 52, zC 53, zC 54, zC 55, zC 56, zC 57, zC 58, zC 59, zC 60, zC 61, zC 62, zC 63, zC 64, zC 65, zC 66, zC 67, zC 68, zC 69, zC 70, zC 71, zC 72, zC 73, zC 74, zC 75, zC 76, zC 77, zC 78, zC 79, zC 80, zC 81, zC 82, zC 83, zC 84, zC 85, zC 86, zC 87, zC 88, zC 89, zC 90, zC 91, zC 92, zC 93, zC 94, zC 95], defers := [] }) (by rfl) (fun zC => ?_)
    have FV := hideG (BX.out.below HBXC.out)
    have p0 := FV.out.c0
    have p1 := FV.out.c1
    have p2 := FV.out.c2
    have p3 := FV.out.c3
    have p4 := FV.out.c4
    have plt := FV.out.lt
    have FX := hideG (XN.out.below HBXC.out)
    have x0 := FX.out.node
    have x1 := FX.out.inv
    have xlt := below_of_cell x0
    go_wp2_with fail
    clear FV p0 p1 p2 p3 p4 plt FX x0 x1 xlt
    refine (shaped (rpop_any _ _ _ _ _ V XC (HV0.out.below HBXC.out) HS.out HL.out (by have := HTL.out; omega) x) _ _ _ _ _ rfl rfl rfl rfl rfl).mono ?_
    rintro ex uDw ⟨aD0, cD0, aD1, cD1, aD2, cD2, aD3, cD3, aD4, cD4, rfl, hvD, hbD⟩
    obtain ⟨XD, hXD⟩ : ∃ X, uDw.alloc (.cells #[.slice aD0 (popW V x).tree.length cD0, .slice aD1 (popW V x).op.length cD1, .slice aD2 (popW V x).modal.length cD2, .slice aD3 (popW V x).pops.length cD3, .slice aD4 (popW V x).top.length cD4] 27) = X := ⟨_, rfl⟩
    have hzXD : Below uDw.heap.size uDw XD := by rw [← hXD]; exact alB _ _
    have hstXD := hbD.trans (hzXD.mono hbD.size)
    have HBXD := hideG (HBXC.out.trans (hstXD.mono HBXC.out.size))
    have BXAn := hideG (BXA.out.below hstXD)
    clear BXA
    have BXA := BXAn
    clear BXAn
    have HVAn := hideG (HVA.out.below hstXD)
    clear HVA
    have HVA := HVAn
    clear HVAn
    have BXBn := hideG (BXB.out.below hstXD)
    clear BXB
    have BXB := BXBn
    clear BXBn
    have HVBn := hideG (HVB.out.below hstXD)
    clear HVB
    have HVB := HVBn
    clear HVBn
    have BXCn := hideG (BXC.out.below hstXD)
    clear BXC
    have BXC := BXCn
    clear BXCn
    have HVCn := hideG (HVC.out.below hstXD)
    clear HVC
    have HVC := HVCn
    clear HVCn
    have BXD := hideG (show BoxV XD uDw.heap.size (.slice aD0 (popW V x).tree.length cD0) (.slice aD1 (popW V x).op.length cD1) (.slice aD2 (popW V x).modal.length cD2) (.slice aD3 (popW V x).pops.length cD3) (.slice aD4 (popW V x).top.length cD4) by rw [← hXD]; exact BoxV.new _ _ _ _ _ _ _)
    have HVD := hideG (hvD.below hzXD)
    have HEXD := hideG hXD
    clear hXD hvD hzXD hstXD hbD
    go_upto_region 7 with fail
    rw [HEXD.out]
    refine wp_slots (fun zD => { tmps := #[zD 0, zD 1, .bool m, .pointer (some ⟨w.heap.size, 0, none⟩), .pointer (some ⟨w.heap.size + 1, 0, none⟩), zD 5, zD 6, .pointer (some ⟨uAw.heap.size, 0, none⟩), .int .i64 (dlgE V x.node), .pointer (some ⟨uBw.heap.size, 0, none⟩), .int .i64 (dlgE V x.node), .pointer (some ⟨uCw.heap.size, 0, none⟩), .int .i64 (popE V x), .pointer (some ⟨uDw.heap.size, 0, none⟩), .int .i64 (popE V x), zD 15, zD 16, zD 17, zD 18, zD 19, zD 20, zD 21, zD 22, zD 23, zD 24, zD 25, zD 26, zD 27, zD 28, zD 29, zD 30, zD 31, zD 32, zD 33, zD 34, zD 35, zD 36, zD 37, zD 38, zD 39, zD 40, zD 41, zD 42, zD 43, zD 44, zD 45, zD 46, zD 47, zD 48, zD 49, zD 50, zD 51, zD 52, zD 53, zD 54, zD 55, zD 56, zD 57, zD 58, zD 59, zD 60, zD 61, zD 62, zD 63, zD 64, zD 65, zD 66, zD 67, zD 68, zD 69, zD 70, zD 71, zD 72, zD 73, zD 74, zD 75, zD 76, zD 77, zD 78, zD 79, zD 80, zD 81, zD 82, zD 83, zD 84, zD 85, zD 86, zD 87, zD 88, zD 89, zD 90, zD 91, zD 92, zD 93, zD 94, zD 95], defers := [] }) (by rfl) (fun zD => ?_)
    have FV := hideG (BX.out.below HBXD.out)
    have p0 := FV.out.c0
    have p1 := FV.out.c1
    have p2 := FV.out.c2
    have p3 := FV.out.c3
    have p4 := FV.out.c4
    have plt := FV.out.lt
    have FX := hideG (XN.out.below HBXD.out)
    have x0 := FX.out.node
    have x1 := FX.out.inv
    have xlt := below_of_cell x0
    go_wp2_with fail
    clear FV p0 p1 p2 p3 p4 plt FX x0 x1 xlt
    refine (shaped (close_any _ _ _ _ _ V XD (HV0.out.below HBXD.out) HS.out HL.out (by have := HTL.out; omega) x.node) _ _ _ _ _ rfl rfl rfl rfl rfl).mono ?_
    rintro ex uKw ⟨aK0, cK0, aK1, cK1, aK2, cK2, aK3, cK3, aK4, cK4, rfl, hvK, hbK⟩
    obtain ⟨XK, hXK⟩ : ∃ X, uKw.alloc (.cells #[.slice aK0 (closeW V x.node).tree.length cK0, .slice aK1 (closeW V x.node).op.length cK1, .slice aK2 (closeW V x.node).modal.length cK2, .slice aK3 (closeW V x.node).pops.length cK3, .slice aK4 (closeW V x.node).top.length cK4] 27) = X := ⟨_, rfl⟩
    have hzXK : Below uKw.heap.size uKw XK := by rw [← hXK]; exact alB _ _
    have hstXK := hbK.trans (hzXK.mono hbK.size)
    have HBXK := hideG (HBXD.out.trans (hstXK.mono HBXD.out.size))
    have BXAn := hideG (BXA.out.below hstXK)
    clear BXA
    have BXA := BXAn
    clear BXAn
    have HVAn := hideG (HVA.out.below hstXK)
    clear HVA
    have HVA := HVAn
    clear HVAn
    have BXBn := hideG (BXB.out.below hstXK)
    clear BXB
    have BXB := BXBn
    clear BXBn
    have HVBn := hideG (HVB.out.below hstXK)
    clear HVB
    have HVB := HVBn
    clear HVBn
    have BXCn := hideG (BXC.out.below hstXK)
    clear BXC
    have BXC := BXCn
    clear BXCn
    have HVCn := hideG (HVC.out.below hstXK)
    clear HVC
    have HVC := HVCn
    clear HVCn
    have BXDn := hideG (BXD.out.below hstXK)
    clear BXD
    have BXD := BXDn
    clear BXDn
    have HVDn := hideG (HVD.out.below hstXK)
    clear HVD
    have HVD := HVDn
    clear HVDn
    have BXK := hideG (show BoxV XK uKw.heap.size (.slice aK0 (closeW V x.node).tree.length cK0) (.slice aK1 (closeW V x.node).op.length cK1) (.slice aK2 (closeW V x.node).modal.length cK2) (.slice aK3 (closeW V x.node).pops.length cK3) (.slice aK4 (closeW V x.node).top.length cK4) by rw [← hXK]; exact BoxV.new _ _ _ _ _ _ _)
    have HVK := hideG (hvK.below hzXK)
    have HEXK := hideG hXK
    clear hXK hvK hzXK hstXK hbK
    go_upto_region 8 with fail
    rw [HEXK.out]
    refine wp_slots (fun zK => { tmps := #[zK 0, zK 1, .bool m, .pointer (some ⟨w.heap.size, 0, none⟩), .pointer (some ⟨w.heap.size + 1, 0, none⟩), zK 5, zK 6, .pointer (some ⟨uAw.heap.size, 0, none⟩), .int .i64 (dlgE V x.node), .pointer (some ⟨uBw.heap.size, 0, none⟩), .int .i64 (dlgE V x.node), .pointer (some ⟨uCw.heap.size, 0, none⟩), .int .i64 (popE V x), .pointer (some ⟨uDw.heap.size, 0, none⟩), .int .i64 (popE V x), .pointer (some ⟨uKw.heap.size, 0, none⟩), .int .i64 (closeE V x.node), zK 17, zK 18, zK 19, zK 20, zK 21, zK 22, zK 23, zK 24, zK 25, zK 26, zK 27, zK 28, zK 29, zK 30, zK 31, zK 32, zK 33, zK 34, zK 35, zK 36, zK 37, zK 38, zK 39, zK 40, zK 41, zK 42, zK 43, zK 44, zK 45, zK 46, zK 47, zK 48, zK 49, zK 50, zK 51, zK 52, zK 53, zK 54, zK 55, zK 56, zK 57, zK 58, zK 59, zK 60, zK 61, zK 62, zK 63, zK 64, zK 65, zK 66, zK 67, zK 68, zK 69, zK 70, zK 71, zK 72, zK 73, zK 74, zK 75, zK 76, zK 77, zK 78, zK 79, zK 80, zK 81, zK 82, zK 83, zK 84, zK 85, zK 86, zK 87, zK 88, zK 89, zK 90, zK 91, zK 92, zK 93, zK 94, zK 95], defers := [] }) (by rfl) (fun zK => ?_)
    have FV := hideG (BX.out.below HBXK.out)
    have p0 := FV.out.c0
    have p1 := FV.out.c1
    have p2 := FV.out.c2
    have p3 := FV.out.c3
    have p4 := FV.out.c4
    have plt := FV.out.lt
    have FX := hideG (XN.out.below HBXK.out)
    have x0 := FX.out.node
    have x1 := FX.out.inv
    have xlt := below_of_cell x0
    go_wp2_with fail
    clear FV p0 p1 p2 p3 p4 plt FX x0 x1 xlt
    refine (shaped (rclose_any _ _ _ _ _ V XK (HV0.out.below HBXK.out) HS.out HL.out (by have := HTL.out; omega) x.node) _ _ _ _ _ rfl rfl rfl rfl rfl).mono ?_
    rintro ex uLw ⟨aL0, cL0, aL1, cL1, aL2, cL2, aL3, cL3, aL4, cL4, rfl, hvL, hbL⟩
    obtain ⟨XL, hXL⟩ : ∃ X, uLw.alloc (.cells #[.slice aL0 (closeW V x.node).tree.length cL0, .slice aL1 (closeW V x.node).op.length cL1, .slice aL2 (closeW V x.node).modal.length cL2, .slice aL3 (closeW V x.node).pops.length cL3, .slice aL4 (closeW V x.node).top.length cL4] 27) = X := ⟨_, rfl⟩
    have hzXL : Below uLw.heap.size uLw XL := by rw [← hXL]; exact alB _ _
    have hstXL := hbL.trans (hzXL.mono hbL.size)
    have HBXL := hideG (HBXK.out.trans (hstXL.mono HBXK.out.size))
    have BXAn := hideG (BXA.out.below hstXL)
    clear BXA
    have BXA := BXAn
    clear BXAn
    have HVAn := hideG (HVA.out.below hstXL)
    clear HVA
    have HVA := HVAn
    clear HVAn
    have BXBn := hideG (BXB.out.below hstXL)
    clear BXB
    have BXB := BXBn
    clear BXBn
    have HVBn := hideG (HVB.out.below hstXL)
    clear HVB
    have HVB := HVBn
    clear HVBn
    have BXCn := hideG (BXC.out.below hstXL)
    clear BXC
    have BXC := BXCn
    clear BXCn
    have HVCn := hideG (HVC.out.below hstXL)
    clear HVC
    have HVC := HVCn
    clear HVCn
    have BXDn := hideG (BXD.out.below hstXL)
    clear BXD
    have BXD := BXDn
    clear BXDn
    have HVDn := hideG (HVD.out.below hstXL)
    clear HVD
    have HVD := HVDn
    clear HVDn
    have BXKn := hideG (BXK.out.below hstXL)
    clear BXK
    have BXK := BXKn
    clear BXKn
    have HVKn := hideG (HVK.out.below hstXL)
    clear HVK
    have HVK := HVKn
    clear HVKn
    have BXL := hideG (show BoxV XL uLw.heap.size (.slice aL0 (closeW V x.node).tree.length cL0) (.slice aL1 (closeW V x.node).op.length cL1) (.slice aL2 (closeW V x.node).modal.length cL2) (.slice aL3 (closeW V x.node).pops.length cL3) (.slice aL4 (closeW V x.node).top.length cL4) by rw [← hXL]; exact BoxV.new _ _ _ _ _ _ _)
    have HVL := hideG (hvL.below hzXL)
    have HEXL := hideG hXL
    clear hXL hvL hzXL hstXL hbL
    go_upto_region 9 with fail
    rw [HEXL.out]
    refine wp_slots (fun zL => { tmps := #[zL 0, zL 1, .bool m, .pointer (some ⟨w.heap.size, 0, none⟩), .pointer (some ⟨w.heap.size + 1, 0, none⟩), zL 5, zL 6, .pointer (some ⟨uAw.heap.size, 0, none⟩), .int .i64 (dlgE V x.node), .pointer (some ⟨uBw.heap.size, 0, none⟩), .int .i64 (dlgE V x.node), .pointer (some ⟨uCw.heap.size, 0, none⟩), .int .i64 (popE V x), .pointer (some ⟨uDw.heap.size, 0, none⟩), .int .i64 (popE V x), .pointer (some ⟨uKw.heap.size, 0, none⟩), .int .i64 (closeE V x.node), .pointer (some ⟨uLw.heap.size, 0, none⟩), .int .i64 (closeE V x.node), zL 19, zL 20, zL 21, zL 22, zL 23, zL 24, zL 25, zL 26, zL 27, zL 28, zL 29, zL 30, zL 31, zL 32, zL 33, zL 34, zL 35, zL 36, zL 37, zL 38, zL 39, zL 40, zL 41, zL 42, zL 43, zL 44, zL 45, zL 46, zL 47, zL 48, zL 49, zL 50, zL 51, zL 52, zL 53, zL 54, zL 55, zL 56, zL 57, zL 58, zL 59, zL 60, zL 61, zL 62, zL 63, zL 64, zL 65, zL 66, zL 67, zL 68, zL 69, zL 70, zL 71, zL 72, zL 73, zL 74, zL 75, zL 76, zL 77, zL 78, zL 79, zL 80, zL 81, zL 82, zL 83, zL 84, zL 85, zL 86, zL 87, zL 88, zL 89, zL 90, zL 91, zL 92, zL 93, zL 94, zL 95], defers := [] }) (by rfl) (fun zL => ?_)
    have p0 := BXA.out.c0
    have q0 := BXB.out.c0
    have p1 := BXA.out.c1
    have q1 := BXB.out.c1
    have p2 := BXA.out.c2
    have q2 := BXB.out.c2
    have p3 := BXA.out.c3
    have q3 := BXB.out.c3
    have p4 := BXA.out.c4
    have q4 := BXB.out.c4
    have plt := BXA.out.lt
    have qlt := BXB.out.lt
    go_wp2_with fail
    clear p0 p1 p2 p3 p4 plt q0 q1 q2 q3 q4 qlt
    refine (sameYes _ _ _ _ _ _ _ _ _ _ (dlgW V x.node m) XL HVA.out HVB.out (dlg_ok HS.out HLS.out HTL.out).1 (dlg_ok HS.out HLS.out HTL.out).2).mono ?_
    rintro ex s0 ⟨rfl, hs0⟩
    have HBs0 := hideG (HBXL.out.trans (hs0.mono HBXL.out.size))
    have BXAn := hideG (BXA.out.below hs0)
    clear BXA
    have BXA := BXAn
    clear BXAn
    have HVAn := hideG (HVA.out.below hs0)
    clear HVA
    have HVA := HVAn
    clear HVAn
    have BXBn := hideG (BXB.out.below hs0)
    clear BXB
    have BXB := BXBn
    clear BXBn
    have HVBn := hideG (HVB.out.below hs0)
    clear HVB
    have HVB := HVBn
    clear HVBn
    have BXCn := hideG (BXC.out.below hs0)
    clear BXC
    have BXC := BXCn
    clear BXCn
    have HVCn := hideG (HVC.out.below hs0)
    clear HVC
    have HVC := HVCn
    clear HVCn
    have BXDn := hideG (BXD.out.below hs0)
    clear BXD
    have BXD := BXDn
    clear BXDn
    have HVDn := hideG (HVD.out.below hs0)
    clear HVD
    have HVD := HVDn
    clear HVDn
    have BXKn := hideG (BXK.out.below hs0)
    clear BXK
    have BXK := BXKn
    clear BXKn
    have HVKn := hideG (HVK.out.below hs0)
    clear HVK
    have HVK := HVKn
    clear HVKn
    have BXLn := hideG (BXL.out.below hs0)
    clear BXL
    have BXL := BXLn
    clear BXLn
    have HVLn := hideG (HVL.out.below hs0)
    clear HVL
    have HVL := HVLn
    clear HVLn
    clear hs0
    have p0 := BXC.out.c0
    have q0 := BXD.out.c0
    have p1 := BXC.out.c1
    have q1 := BXD.out.c1
    have p2 := BXC.out.c2
    have q2 := BXD.out.c2
    have p3 := BXC.out.c3
    have q3 := BXD.out.c3
    have p4 := BXC.out.c4
    have q4 := BXD.out.c4
    have plt := BXC.out.lt
    have qlt := BXD.out.lt
    go_wp2_with fail
    clear p0 p1 p2 p3 p4 plt q0 q1 q2 q3 q4 qlt
    refine (sameYes _ _ _ _ _ _ _ _ _ _ (popW V x) s0 HVC.out HVD.out (pop_ok HS.out HLS.out HTL.out).1 (pop_ok HS.out HLS.out HTL.out).2).mono ?_
    rintro ex s1 ⟨rfl, hs1⟩
    have HBs1 := hideG (HBs0.out.trans (hs1.mono HBs0.out.size))
    have BXAn := hideG (BXA.out.below hs1)
    clear BXA
    have BXA := BXAn
    clear BXAn
    have HVAn := hideG (HVA.out.below hs1)
    clear HVA
    have HVA := HVAn
    clear HVAn
    have BXBn := hideG (BXB.out.below hs1)
    clear BXB
    have BXB := BXBn
    clear BXBn
    have HVBn := hideG (HVB.out.below hs1)
    clear HVB
    have HVB := HVBn
    clear HVBn
    have BXCn := hideG (BXC.out.below hs1)
    clear BXC
    have BXC := BXCn
    clear BXCn
    have HVCn := hideG (HVC.out.below hs1)
    clear HVC
    have HVC := HVCn
    clear HVCn
    have BXDn := hideG (BXD.out.below hs1)
    clear BXD
    have BXD := BXDn
    clear BXDn
    have HVDn := hideG (HVD.out.below hs1)
    clear HVD
    have HVD := HVDn
    clear HVDn
    have BXKn := hideG (BXK.out.below hs1)
    clear BXK
    have BXK := BXKn
    clear BXKn
    have HVKn := hideG (HVK.out.below hs1)
    clear HVK
    have HVK := HVKn
    clear HVKn
    have BXLn := hideG (BXL.out.below hs1)
    clear BXL
    have BXL := BXLn
    clear BXLn
    have HVLn := hideG (HVL.out.below hs1)
    clear HVL
    have HVL := HVLn
    clear HVLn
    clear hs1
    have p0 := BXK.out.c0
    have q0 := BXL.out.c0
    have p1 := BXK.out.c1
    have q1 := BXL.out.c1
    have p2 := BXK.out.c2
    have q2 := BXL.out.c2
    have p3 := BXK.out.c3
    have q3 := BXL.out.c3
    have p4 := BXK.out.c4
    have q4 := BXL.out.c4
    have plt := BXK.out.lt
    have qlt := BXL.out.lt
    go_wp2_with fail
    clear p0 p1 p2 p3 p4 plt q0 q1 q2 q3 q4 qlt
    refine (sameYes _ _ _ _ _ _ _ _ _ _ (closeW V x.node) s1 HVK.out HVL.out (close_ok HS.out HLS.out HTL.out).1 (close_ok HS.out HLS.out HTL.out).2).mono ?_
    rintro ex s2 ⟨rfl, hs2⟩
    have HBs2 := hideG (HBs1.out.trans (hs2.mono HBs1.out.size))
    have BXAn := hideG (BXA.out.below hs2)
    clear BXA
    have BXA := BXAn
    clear BXAn
    have HVAn := hideG (HVA.out.below hs2)
    clear HVA
    have HVA := HVAn
    clear HVAn
    have BXBn := hideG (BXB.out.below hs2)
    clear BXB
    have BXB := BXBn
    clear BXBn
    have HVBn := hideG (HVB.out.below hs2)
    clear HVB
    have HVB := HVBn
    clear HVBn
    have BXCn := hideG (BXC.out.below hs2)
    clear BXC
    have BXC := BXCn
    clear BXCn
    have HVCn := hideG (HVC.out.below hs2)
    clear HVC
    have HVC := HVCn
    clear HVCn
    have BXDn := hideG (BXD.out.below hs2)
    clear BXD
    have BXD := BXDn
    clear BXDn
    have HVDn := hideG (HVD.out.below hs2)
    clear HVD
    have HVD := HVDn
    clear HVDn
    have BXKn := hideG (BXK.out.below hs2)
    clear BXK
    have BXK := BXKn
    clear BXKn
    have HVKn := hideG (HVK.out.below hs2)
    clear HVK
    have HVK := HVKn
    clear HVKn
    have BXLn := hideG (BXL.out.below hs2)
    clear BXL
    have BXL := BXLn
    clear BXLn
    have HVLn := hideG (HVL.out.below hs2)
    clear HVL
    have HVL := HVLn
    clear HVLn
    clear hs2
    go_wp2_with fail
    refine (live10_any _).mono ?_
    rintro ex wl ⟨rfl, hbl⟩
    have HBL := hideG (HB0.out.trans (((HBs2.out).trans (hbl.mono (HBs2.out).size)).mono HB0.out.size))
    clear hbl
    go_wp2_with fail
    go_ret
    exact ⟨rfl, HBL.out⟩
end Go.Proofs.YtclhimodopgeoaaGreat

