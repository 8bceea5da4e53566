/- Part 7 of what the laws of layer 10 lean on. -/
import Derived.Test.YtclhimodopgeoaaGreatTB4
import Derived.Test.YtclhimodopgeoaaGreatTB6
namespace Go.Proofs.YtclhimodopgeoaaGreat
open Go.RowKit

set_option maxRecDepth 100000 in
set_option maxHeartbeats 16000000 in
theorem mayBeV_any (tv ov mv pv qv : Value) (V : Vw) (w : World) (hV : ViewAt w tv ov mv pv qv V) (hS : Sane V.tree) (hm : mayB V.tree = true) (hl : V.op.length ≤ 500 ∧ V.modal.length ≤ 500 ∧ V.pops.length ≤ 500 ∧ V.top.length ≤ 1000) :
    Calls Tryz.prog 78 #[.agg #[tv, ov, mv, pv, qv]] w fun x w' => x = .returned (.bool (mayP V)) ∧ Below w.heap.size w w' := by
  obtain ⟨hT, hO, hM, hP, hQ⟩ := hV
  obtain ⟨ta, tc, rfl⟩ := hT.shape
  obtain ⟨oa, oc, rfl⟩ := hO.shape
  obtain ⟨ma, mc, rfl⟩ := hM.shape
  obtain ⟨pa, pc, rfl⟩ := hP.shape
  obtain ⟨qa, qc, rfl⟩ := hQ.shape
  obtain ⟨W0, hW0⟩ : ∃ W0, w.alloc (.cells #[.slice ta V.tree.length tc, .slice oa V.op.length oc, .slice ma V.modal.length mc, .slice pa V.pops.length pc, .slice qa V.top.length qc] 27) = W0 := ⟨_, rfl⟩
  have HB0 := hideG (show Below w.heap.size w W0 by rw [← hW0]; exact (Below.refl _ w).alloc (Nat.le_refl _) _)
  have P0 := hideG (show W0.cell? ⟨w.heap.size, 0, none⟩ = some (.slice ta V.tree.length tc) by rw [← hW0]; simp)
  have P1 := hideG (show W0.cell? ⟨w.heap.size, 1, none⟩ = some (.slice oa V.op.length oc) by rw [← hW0]; simp)
  have P2 := hideG (show W0.cell? ⟨w.heap.size, 2, none⟩ = some (.slice ma V.modal.length mc) by rw [← hW0]; simp)
  have P3 := hideG (show W0.cell? ⟨w.heap.size, 3, none⟩ = some (.slice pa V.pops.length pc) by rw [← hW0]; simp)
  have P4 := hideG (show W0.cell? ⟨w.heap.size, 4, none⟩ = some (.slice qa V.top.length qc) by rw [← hW0]; simp)
  have HV0 := hideG (show ViewAt W0 _ _ _ _ _ V from ⟨hT.below HB0.out, hO.below HB0.out, hM.below HB0.out, hP.below HB0.out, hQ.below HB0.out⟩)
  have HW0 := hideG hW0
  have HJ := hideG (judgeOf_any V.tree hS _ W0 HV0.out.tree)
  have HS := hideG hS
  have HM := hideG hm
  have h1l := hl.1
  have h2l := hl.2.1
  have h3l := hl.2.2.1
  have h4l := hl.2.2.2
  have p0 := P0.out
  clear hW0 hT hO hM hP hQ hS hm hl
  go_enter Tryz.func78, Tryz.ntmps78
  go_wp2_with fail
  rw [HW0.out]
  refine HJ.out.mono ?_
  rintro ex w1 ⟨ca, cc, rfl, hI1, hb1⟩
  obtain ⟨W1, hW1⟩ : ∃ W1, w1.alloc (.cells #[.slice ta V.tree.length tc, .slice ca (slI V.tree 0).length cc] 65) = W1 := ⟨_, rfl⟩
  have hbA : Below w1.heap.size w1 W1 := by rw [← hW1]; exact (Below.refl _ w1).alloc (Nat.le_refl _) _
  have J0 := hideG (show W1.cell? ⟨w1.heap.size, 0, none⟩ = some (.slice ta V.tree.length tc) by rw [← hW1]; simp)
  have J1 := hideG (show W1.cell? ⟨w1.heap.size, 1, none⟩ = some (.slice ca (slI V.tree 0).length cc) by rw [← hW1]; simp)
  have hbB := hb1.trans (hbA.mono hb1.size)
  have Q0 := hideG (cell_below hbB P0.out)
  have Q1 := hideG (cell_below hbB P1.out)
  have Q2 := hideG (cell_below hbB P2.out)
  have Q3 := hideG (cell_below hbB P3.out)
  have Q4 := hideG (cell_below hbB P4.out)
  have HV1 := hideG (HV0.out.below hbB)
  have HI1 := hideG (hI1.below hbA)
  have HBW1 := hideG (HB0.out.trans (hbB.mono HB0.out.size))
  have pw0 := cell_below hb1 P0.out
  have pw1 := cell_below hb1 P1.out
  have hwb1 : w.heap.size < w1.heap.size := below_of_cell pw0
  have HW1 := hideG hW1
  clear hb1 hbA hbB hI1 hW1 p0
  go_wp2_with fail
  rw [HW1.out]
  clear pw0 pw1 hwb1
  refine (everyDlg_any V.tree HM.out _ _ V.op _ W1 HV1.out.tree HI1.out HV1.out.op (by omega)).mono ?_
  rintro ex w2 ⟨rfl, hb2⟩
  have HB2 := hideG hb2
  have HF := hideG (HBW1.out.trans (hb2.mono HBW1.out.size))
  have p0 := cell_below HB2.out Q0.out
  have p1 := cell_below HB2.out Q1.out
  have p2 := cell_below HB2.out Q2.out
  have p3 := cell_below HB2.out Q3.out
  have p4 := cell_below HB2.out Q4.out
  have j0 := cell_below HB2.out J0.out
  have j1 := cell_below HB2.out J1.out
  have hwb : w.heap.size < w2.heap.size := below_of_cell p0
  clear hb2
  cases a1 : V.op.all (dlgB V.tree)
  · have a1' := hideG a1
    clear a1
    go_wp2_with fail
    go_ret
    exact ⟨ret_bool (by simp [mayP, a1'.out]), HF.out⟩
  · have A1 := hideG a1
    clear a1
    go_wp2_with fail
    clear p0 p1 p2 p3 p4 j0 j1 hwb HF
    refine (everyDlg_any V.tree HM.out _ _ V.modal _ w2 (HV1.out.tree.below HB2.out) (HI1.out.below HB2.out) (HV1.out.modal.below HB2.out) (by omega)).mono ?_
    rintro ex w3 ⟨rfl, hb3⟩
    have HB3 := hideG (HB2.out.trans (hb3.mono HB2.out.size))
    have HF := hideG (HBW1.out.trans (HB3.out.mono HBW1.out.size))
    have p0 := cell_below HB3.out Q0.out
    have p1 := cell_below HB3.out Q1.out
    have p2 := cell_below HB3.out Q2.out
    have p3 := cell_below HB3.out Q3.out
    have p4 := cell_below HB3.out Q4.out
    have j0 := cell_below HB3.out J0.out
    have j1 := cell_below HB3.out J1.out
    have hwb : w.heap.size < w3.heap.size := below_of_cell p0
    clear hb3
    cases a2 : V.modal.all (dlgB V.tree)
    · have a2' := hideG a2
      clear a2
      go_wp2_with fail
      go_ret
      exact ⟨ret_bool (by simp [mayP, A1.out, a2'.out]), HF.out⟩
    · have A2 := hideG a2
      clear a2
      go_wp2_with fail
      clear p0 p1 p2 p3 p4 j0 j1 hwb HF
      refine (everyPop_any V.tree HS.out HM.out _ _ V.pops _ w3 (HV1.out.tree.below HB3.out) (HI1.out.below HB3.out) (HV1.out.pops.below HB3.out) (by omega)).mono ?_
      rintro ex w4 ⟨rfl, hb4⟩
      have HB4 := hideG (HB3.out.trans (hb4.mono HB3.out.size))
      have HF := hideG (HBW1.out.trans (HB4.out.mono HBW1.out.size))
      have p0 := cell_below HB4.out Q0.out
      have p1 := cell_below HB4.out Q1.out
      have p2 := cell_below HB4.out Q2.out
      have p3 := cell_below HB4.out Q3.out
      have p4 := cell_below HB4.out Q4.out
      have j0 := cell_below HB4.out J0.out
      have j1 := cell_below HB4.out J1.out
      have hwb : w.heap.size < w4.heap.size := below_of_cell p0
      clear hb4
      have P4x := hideG p0
      cases a3 : V.pops.all fun x => popB V.tree x.node
      · have a3' := hideG a3
        clear a3
        go_wp2_with fail
        go_ret
        exact ⟨ret_bool (by simp [mayP, A1.out, A2.out, a3'.out]), HF.out⟩
      · have A3 := hideG a3
        clear a3
        go_wp2_with fail
        clear p0 p1 p2 p3 p4 j0 j1 hwb HF
        refine (everyFits_any V.tree ta tc w.heap.size V.pops _ w4 P4x.out (HV1.out.pops.below HB4.out) (by omega)).mono ?_
        rintro ex w5 ⟨rfl, hb5⟩
        have HB5 := hideG (HB4.out.trans (hb5.mono HB4.out.size))
        have HF := hideG (HBW1.out.trans (HB5.out.mono HBW1.out.size))
        have p0 := cell_below HB5.out Q0.out
        have p1 := cell_below HB5.out Q1.out
        have p2 := cell_below HB5.out Q2.out
        have p3 := cell_below HB5.out Q3.out
        have p4 := cell_below HB5.out Q4.out
        have j0 := cell_below HB5.out J0.out
        have j1 := cell_below HB5.out J1.out
        have hwb : w.heap.size < w5.heap.size := below_of_cell p0
        clear hb5
        cases a4 : V.pops.all (fitsB V.tree)
        · have a4' := hideG a4
          clear a4
          go_wp2_with fail
          go_ret
          exact ⟨ret_bool (by simp [mayP, A1.out, A2.out, A3.out, a4'.out]), HF.out⟩
        · have A4 := hideG a4
          clear a4
          have HB5y := HB5
          have HB5 := HF
          have hS0 : BoxS w5 (w.heap.size) (.slice ta V.tree.length tc) (.slice oa V.op.length oc) (.slice ma V.modal.length mc) (.slice pa V.pops.length pc) (.slice qa V.top.length qc) w5.drew := BoxS.start p0 p1 p2 p3 p4
          have HV5 := hideG (HV1.out.below HB5y.out)
          have HOL := hideG (opened_len V)
          cases a5 : onceB (openedL V)
          · have A5 := hideG a5
            clear a5
            go_wp2_with fail
            clear p0 p1 p2 p3 p4 j0 j1 hwb HF
            refine wp_region_inv (fun l a U => ∃ (f : Nat → Nat × Nat) (s34 s35 s36 s37 s38 s39 s40 s41 s42 s43 s44 s2 : Value), a = { tmps := #[.agg #[.slice ta V.tree.length tc, .slice oa V.op.length oc, .slice ma V.modal.length mc, .slice pa V.pops.length pc, .slice qa V.top.length qc], .pointer (some ⟨w.heap.size, 0, none⟩), s2, .pointer (some ⟨w1.heap.size, 0, none⟩), .pointer (some ⟨w.heap.size, 0, none⟩), .slice ta V.tree.length tc, .agg #[.slice ta V.tree.length tc, .slice ca (slI V.tree 0).length cc], .pointer (some ⟨w.heap.size, 1, none⟩), .slice oa V.op.length oc, .agg #[.slice ta V.tree.length tc, .slice ca (slI V.tree 0).length cc], .func (.func 66) #[.agg #[.slice ta V.tree.length tc, .slice ca (slI V.tree 0).length cc]] #[], .bool true, .bool (!true), .bool (!true), .pointer (some ⟨w.heap.size, 2, none⟩), .slice ma V.modal.length mc, .agg #[.slice ta V.tree.length tc, .slice ca (slI V.tree 0).length cc], .func (.func 66) #[.agg #[.slice ta V.tree.length tc, .slice ca (slI V.tree 0).length cc]] #[], .bool true, .bool (!true), .bool (!true), .bool (!true), .pointer (some ⟨w.heap.size, 3, none⟩), .slice pa V.pops.length pc, .agg #[.slice ta V.tree.length tc, .slice ca (slI V.tree 0).length cc], .func (.func 68) #[.agg #[.slice ta V.tree.length tc, .slice ca (slI V.tree 0).length cc]] #[], .bool true, .bool (!true), .bool (!true), .pointer (some ⟨w.heap.size, 3, none⟩), .slice pa V.pops.length pc, .func (.func 120) #[] #[.pointer (some ⟨w.heap.size, 0, none⟩)], .bool true, .bool (!true), s34, s35, s36, s37, s38, s39, s40, s41, s42, s43, s44], defers := [] } ∧ BoxS w5 (w.heap.size) (.slice ta V.tree.length tc) (.slice oa V.op.length oc) (.slice ma V.modal.length mc) (.slice pa V.pops.length pc) (.slice qa V.top.length qc) U ∧ IvL l f 12 w5.heap.size U.heap.size ∧ (l.getD 0 true = true → s34 = .agg #[.slice ta V.tree.length tc, .slice oa V.op.length oc, .slice ma V.modal.length mc, .slice pa V.pops.length pc, .slice qa V.top.length qc]) ∧ (l.getD 1 true = true → RowIn U (f 1) 3 1 s35 (openedL V).length (intCells (openedL V))) ∧ (l.getD 2 true = true → s36 = .bool (!false)) ∧ (l.getD 3 true = true → s37 = .bool false) ∧ (l.getD 4 true = true → s38 = .bool false) ∧ (l.getD 5 true = true → s39 = undef) ∧ (l.getD 6 true = true → s40 = undef) ∧ (l.getD 7 true = true → s41 = undef) ∧ (l.getD 8 true = true → s42 = undef) ∧ (l.getD 9 true = true → s43 = undef) ∧ (l.getD 10 true = true → s44 = .bool false) ∧ (l.getD 11 true = true → s2 = .bool false)) (by kernel_rfl) (by kernel_rfl) ?_ ?_ ?_
            · exact ⟨fun _ => (0, 0), _, _, _, _, _, _, _, _, _, _, _, _, rfl, hS0, IvL.start 12 _ _ _, fun h => by simp at h, fun h => by simp at h, fun h => by simp at h, fun h => by simp at h, fun h => by simp at h, fun h => by simp at h, fun h => by simp at h, fun h => by simp at h, fun h => by simp at h, fun h => by simp at h, fun h => by simp at h, fun h => by simp at h⟩
            · rintro i l a U hi ⟨f, s34, s35, s36, s37, s38, s39, s40, s41, s42, s43, s44, s2, rfl, hS, hIv, h0, h1, h2, h3, h4, h5, h6, h7, h8, h9, h10, h11⟩
              obtain ⟨hun, o, ho, _⟩ := mem_ready.mp hi
              have hlt := (Array.getElem?_eq_some_iff.mp ho).1
              clear ho
              simp only [List.size_toArray, List.length_cons, List.length_nil, Nat.reduceAdd] at hlt
              obtain rfl | rfl | rfl | rfl | rfl | rfl | rfl | rfl | rfl | rfl | rfl | rfl : i = 0 ∨ i = 1 ∨ i = 2 ∨ i = 3 ∨ i = 4 ∨ i = 5 ∨ i = 6 ∨ i = 7 ∨ i = 8 ∨ i = 9 ∨ i = 10 ∨ i = 11 := by omega
              · have pc0 := hS.c0
                have pc1 := hS.c1
                have pc2 := hS.c2
                have pc3 := hS.c3
                have pc4 := hS.c4
                refine inv_step (by rfl) (fun K hK => ?_)
                go_simp
                exact hK.out _ _ ⟨upPart f 0 (U.heap.size, _), _, _, _, _, _, _, _, _, _, _, _, _, rfl, hS, hIv.step (i := 0) hun (by decide) (Nat.le_refl _), fun _ => rfl, fun h => h1 (set_getD (i := 0) (by decide) h), fun h => h2 (set_getD (i := 0) (by decide) h), fun h => h3 (set_getD (i := 0) (by decide) h), fun h => h4 (set_getD (i := 0) (by decide) h), fun h => h5 (set_getD (i := 0) (by decide) h), fun h => h6 (set_getD (i := 0) (by decide) h), fun h => h7 (set_getD (i := 0) (by decide) h), fun h => h8 (set_getD (i := 0) (by decide) h), fun h => h9 (set_getD (i := 0) (by decide) h), fun h => h10 (set_getD (i := 0) (by decide) h), fun h => h11 (set_getD (i := 0) (by decide) h)⟩
              · have e0 := h0 (dep_of hi (d := 0) (by kernel_rfl))
                subst e0
                refine inv_step (by rfl) (fun K hK => ?_)
                go_simp
                (go_at_call 84; refine Calls.mono (opened_any _ _ _ _ _ V U (HV5.out.below hS.bel) ⟨by omega, by omega, by omega⟩) ?_; rintro e w1' ⟨va, vc, rfl, hgot, hb⟩)
                go_wp2_with fail
                have hk : ∀ m, w5.heap.size ≤ m → m < U.heap.size → w1'.heap[m]? = U.heap[m]? := fun m _ h2 => hb.block m h2
                exact hK.out _ _ ⟨upPart f 1 (U.heap.size, _), _, _, _, _, _, _, _, _, _, _, _, _, rfl, hS.below hb, hIv.step (i := 1) hun (by decide) hb.size, fun _ => rfl, fun _ => rowIn_of hgot, fun h => h2 (set_getD (i := 1) (by decide) h), fun h => h3 (set_getD (i := 1) (by decide) h), fun h => h4 (set_getD (i := 1) (by decide) h), fun h => h5 (set_getD (i := 1) (by decide) h), fun h => h6 (set_getD (i := 1) (by decide) h), fun h => h7 (set_getD (i := 1) (by decide) h), fun h => h8 (set_getD (i := 1) (by decide) h), fun h => h9 (set_getD (i := 1) (by decide) h), fun h => h10 (set_getD (i := 1) (by decide) h), fun h => h11 (set_getD (i := 1) (by decide) h)⟩
              · have q1 := dep_of hi (d := 1) (by kernel_rfl)
                have r1 := h1 q1
                refine inv_step (by rfl) (fun K hK => ?_)
                go_simp
                (go_at_call 121; refine Calls.mono (hasTwice_any (openedL V) _ U (rowInts r1) (by have := HOL.out; omega) r1.cap) ?_; rintro e w1' ⟨rfl, hwz⟩)
                obtain rfl : _ = w1' := hwz.symm
                have hb := Below.refl U.heap.size U
                rw [A5.out]
                go_wp2_with fail
                have hk : ∀ m, w5.heap.size ≤ m → m < U.heap.size → U.heap[m]? = U.heap[m]? := fun m _ h2 => hb.block m h2
                exact hK.out _ _ ⟨upPart f 2 (U.heap.size, _), _, _, _, _, _, _, _, _, _, _, _, _, rfl, hS.below hb, hIv.step (i := 2) hun (by decide) hb.size, fun h => h0 (set_getD (i := 2) (by decide) h), fun h => (h1 (set_getD (i := 2) (by decide) h)).keep (hIv.old (set_getD (i := 2) (by decide) h) (by decide) hk), fun _ => rfl, fun h => h3 (set_getD (i := 2) (by decide) h), fun h => h4 (set_getD (i := 2) (by decide) h), fun h => h5 (set_getD (i := 2) (by decide) h), fun h => h6 (set_getD (i := 2) (by decide) h), fun h => h7 (set_getD (i := 2) (by decide) h), fun h => h8 (set_getD (i := 2) (by decide) h), fun h => h9 (set_getD (i := 2) (by decide) h), fun h => h10 (set_getD (i := 2) (by decide) h), fun h => h11 (set_getD (i := 2) (by decide) h)⟩
              · have e2 := h2 (dep_of hi (d := 2) (by kernel_rfl))
                subst e2
                refine inv_step (by rfl) (fun K hK => ?_)
                go_simp
                exact hK.out _ _ ⟨upPart f 3 (U.heap.size, _), _, _, _, _, _, _, _, _, _, _, _, _, rfl, hS, hIv.step (i := 3) hun (by decide) (Nat.le_refl _), fun h => h0 (set_getD (i := 3) (by decide) h), fun h => h1 (set_getD (i := 3) (by decide) h), fun _ => rfl, fun _ => rfl, fun h => h4 (set_getD (i := 3) (by decide) h), fun h => h5 (set_getD (i := 3) (by decide) h), fun h => h6 (set_getD (i := 3) (by decide) h), fun h => h7 (set_getD (i := 3) (by decide) h), fun h => h8 (set_getD (i := 3) (by decide) h), fun h => h9 (set_getD (i := 3) (by decide) h), fun h => h10 (set_getD (i := 3) (by decide) h), fun h => h11 (set_getD (i := 3) (by decide) h)⟩
              · have e3 := h3 (dep_of hi (d := 3) (by kernel_rfl))
                subst e3
                refine inv_step (by rfl) (fun K hK => ?_)
                go_simp
                exact hK.out _ _ ⟨upPart f 4 (U.heap.size, _), _, _, _, _, _, _, _, _, _, _, _, _, rfl, hS, hIv.step (i := 4) hun (by decide) (Nat.le_refl _), fun h => h0 (set_getD (i := 4) (by decide) h), fun h => h1 (set_getD (i := 4) (by decide) h), fun h => h2 (set_getD (i := 4) (by decide) h), fun _ => rfl, fun _ => rfl, fun h => h5 (set_getD (i := 4) (by decide) h), fun h => h6 (set_getD (i := 4) (by decide) h), fun h => h7 (set_getD (i := 4) (by decide) h), fun h => h8 (set_getD (i := 4) (by decide) h), fun h => h9 (set_getD (i := 4) (by decide) h), fun h => h10 (set_getD (i := 4) (by decide) h), fun h => h11 (set_getD (i := 4) (by decide) h)⟩
              · have e4 := h4 (dep_of hi (d := 4) (by kernel_rfl))
                subst e4
                refine inv_skip (by rfl) (by rfl) ?_
                simp only [Act.put, List.setIfInBounds_toArray]
                exact ⟨upPart f 5 (U.heap.size, _), _, _, _, _, _, _, _, _, _, _, _, _, rfl, hS, hIv.step (i := 5) hun (by decide) (Nat.le_refl _), fun h => h0 (set_getD (i := 5) (by decide) h), fun h => h1 (set_getD (i := 5) (by decide) h), fun h => h2 (set_getD (i := 5) (by decide) h), fun h => h3 (set_getD (i := 5) (by decide) h), fun _ => rfl, fun _ => rfl, fun h => h6 (set_getD (i := 5) (by decide) h), fun h => h7 (set_getD (i := 5) (by decide) h), fun h => h8 (set_getD (i := 5) (by decide) h), fun h => h9 (set_getD (i := 5) (by decide) h), fun h => h10 (set_getD (i := 5) (by decide) h), fun h => h11 (set_getD (i := 5) (by decide) h)⟩
              · have e4 := h4 (dep_of hi (d := 4) (by kernel_rfl))
                subst e4
                refine inv_skip (by rfl) (by rfl) ?_
                simp only [Act.put, List.setIfInBounds_toArray]
                exact ⟨upPart f 6 (U.heap.size, _), _, _, _, _, _, _, _, _, _, _, _, _, rfl, hS, hIv.step (i := 6) hun (by decide) (Nat.le_refl _), fun h => h0 (set_getD (i := 6) (by decide) h), fun h => h1 (set_getD (i := 6) (by decide) h), fun h => h2 (set_getD (i := 6) (by decide) h), fun h => h3 (set_getD (i := 6) (by decide) h), fun _ => rfl, fun h => h5 (set_getD (i := 6) (by decide) h), fun _ => rfl, fun h => h7 (set_getD (i := 6) (by decide) h), fun h => h8 (set_getD (i := 6) (by decide) h), fun h => h9 (set_getD (i := 6) (by decide) h), fun h => h10 (set_getD (i := 6) (by decide) h), fun h => h11 (set_getD (i := 6) (by decide) h)⟩
              · have e4 := h4 (dep_of hi (d := 4) (by kernel_rfl))
                subst e4
                refine inv_skip (by rfl) (by rfl) ?_
                simp only [Act.put, List.setIfInBounds_toArray]
                exact ⟨upPart f 7 (U.heap.size, _), _, _, _, _, _, _, _, _, _, _, _, _, rfl, hS, hIv.step (i := 7) hun (by decide) (Nat.le_refl _), fun h => h0 (set_getD (i := 7) (by decide) h), fun h => h1 (set_getD (i := 7) (by decide) h), fun h => h2 (set_getD (i := 7) (by decide) h), fun h => h3 (set_getD (i := 7) (by decide) h), fun _ => rfl, fun h => h5 (set_getD (i := 7) (by decide) h), fun h => h6 (set_getD (i := 7) (by decide) h), fun _ => rfl, fun h => h8 (set_getD (i := 7) (by decide) h), fun h => h9 (set_getD (i := 7) (by decide) h), fun h => h10 (set_getD (i := 7) (by decide) h), fun h => h11 (set_getD (i := 7) (by decide) h)⟩
              · have e4 := h4 (dep_of hi (d := 4) (by kernel_rfl))
                subst e4
                refine inv_skip (by rfl) (by rfl) ?_
                simp only [Act.put, List.setIfInBounds_toArray]
                exact ⟨upPart f 8 (U.heap.size, _), _, _, _, _, _, _, _, _, _, _, _, _, rfl, hS, hIv.step (i := 8) hun (by decide) (Nat.le_refl _), fun h => h0 (set_getD (i := 8) (by decide) h), fun h => h1 (set_getD (i := 8) (by decide) h), fun h => h2 (set_getD (i := 8) (by decide) h), fun h => h3 (set_getD (i := 8) (by decide) h), fun _ => rfl, fun h => h5 (set_getD (i := 8) (by decide) h), fun h => h6 (set_getD (i := 8) (by decide) h), fun h => h7 (set_getD (i := 8) (by decide) h), fun _ => rfl, fun h => h9 (set_getD (i := 8) (by decide) h), fun h => h10 (set_getD (i := 8) (by decide) h), fun h => h11 (set_getD (i := 8) (by decide) h)⟩
              · have e4 := h4 (dep_of hi (d := 4) (by kernel_rfl))
                subst e4
                refine inv_skip (by rfl) (by rfl) ?_
                simp only [Act.put, List.setIfInBounds_toArray]
                exact ⟨upPart f 9 (U.heap.size, _), _, _, _, _, _, _, _, _, _, _, _, _, rfl, hS, hIv.step (i := 9) hun (by decide) (Nat.le_refl _), fun h => h0 (set_getD (i := 9) (by decide) h), fun h => h1 (set_getD (i := 9) (by decide) h), fun h => h2 (set_getD (i := 9) (by decide) h), fun h => h3 (set_getD (i := 9) (by decide) h), fun _ => rfl, fun h => h5 (set_getD (i := 9) (by decide) h), fun h => h6 (set_getD (i := 9) (by decide) h), fun h => h7 (set_getD (i := 9) (by decide) h), fun h => h8 (set_getD (i := 9) (by decide) h), fun _ => rfl, fun h => h10 (set_getD (i := 9) (by decide) h), fun h => h11 (set_getD (i := 9) (by decide) h)⟩
              · have e4 := h4 (dep_of hi (d := 4) (by kernel_rfl))
                subst e4
                have e9 := h9 (dep_of hi (d := 9) (by kernel_rfl))
                subst e9
                refine inv_step (by rfl) (fun K hK => ?_)
                go_simp
                exact hK.out _ _ ⟨upPart f 10 (U.heap.size, _), _, _, _, _, _, _, _, _, _, _, _, _, rfl, hS, hIv.step (i := 10) hun (by decide) (Nat.le_refl _), fun h => h0 (set_getD (i := 10) (by decide) h), fun h => h1 (set_getD (i := 10) (by decide) h), fun h => h2 (set_getD (i := 10) (by decide) h), fun h => h3 (set_getD (i := 10) (by decide) h), fun _ => rfl, fun h => h5 (set_getD (i := 10) (by decide) h), fun h => h6 (set_getD (i := 10) (by decide) h), fun h => h7 (set_getD (i := 10) (by decide) h), fun h => h8 (set_getD (i := 10) (by decide) h), fun _ => rfl, fun _ => rfl, fun h => h11 (set_getD (i := 10) (by decide) h)⟩
              · have e10 := h10 (dep_of hi (d := 10) (by kernel_rfl))
                subst e10
                refine inv_step (by rfl) (fun K hK => ?_)
                go_simp
                exact hK.out _ _ ⟨upPart f 11 (U.heap.size, _), _, _, _, _, _, _, _, _, _, _, _, _, rfl, hS, hIv.step (i := 11) hun (by decide) (Nat.le_refl _), fun h => h0 (set_getD (i := 11) (by decide) h), fun h => h1 (set_getD (i := 11) (by decide) h), fun h => h2 (set_getD (i := 11) (by decide) h), fun h => h3 (set_getD (i := 11) (by decide) h), fun h => h4 (set_getD (i := 11) (by decide) h), fun h => h5 (set_getD (i := 11) (by decide) h), fun h => h6 (set_getD (i := 11) (by decide) h), fun h => h7 (set_getD (i := 11) (by decide) h), fun h => h8 (set_getD (i := 11) (by decide) h), fun h => h9 (set_getD (i := 11) (by decide) h), fun _ => rfl, fun _ => rfl⟩
            · rintro l a U hall ⟨f, s34, s35, s36, s37, s38, s39, s40, s41, s42, s43, s44, s2, rfl, hS, hIv, h0, h1, h2, h3, h4, h5, h6, h7, h8, h9, h10, h11⟩
              have e0 := h0 (hall 0 (by decide))
              have e1 := h1 (hall 1 (by decide))
              have e2 := h2 (hall 2 (by decide))
              have e3 := h3 (hall 3 (by decide))
              have e4 := h4 (hall 4 (by decide))
              have e5 := h5 (hall 5 (by decide))
              have e6 := h6 (hall 6 (by decide))
              have e7 := h7 (hall 7 (by decide))
              have e8 := h8 (hall 8 (by decide))
              have e9 := h9 (hall 9 (by decide))
              have e10 := h10 (hall 10 (by decide))
              have e11 := h11 (hall 11 (by decide))
              have HIV := hideG (hIv.all hall)
              clear hIv hall h0 h1 h2 h3 h4 h5 h6 h7 h8 h9 h10 h11
              subst e0
              subst e2
              subst e3
              subst e4
              subst e5
              subst e6
              subst e7
              subst e8
              subst e9
              subst e10
              subst e11
              have HFF := hideG (HB5.out.trans (hS.bel.mono HB5.out.size))
              go_wp2_with fail
              go_ret
              exact ⟨ret_bool (by simp [mayP, A1.out, A2.out, A3.out, A4.out, A5.out]), HFF.out⟩
          · have A5 := hideG a5
            clear a5
            go_wp2_with fail
            clear p0 p1 p2 p3 p4 j0 j1 hwb HF
            refine wp_region_inv (fun l a U => ∃ (f : Nat → Nat × Nat) (s34 s35 s36 s37 s38 s39 s40 s41 s42 s43 s44 s2 : Value), a = { tmps := #[.agg #[.slice ta V.tree.length tc, .slice oa V.op.length oc, .slice ma V.modal.length mc, .slice pa V.pops.length pc, .slice qa V.top.length qc], .pointer (some ⟨w.heap.size, 0, none⟩), s2, .pointer (some ⟨w1.heap.size, 0, none⟩), .pointer (some ⟨w.heap.size, 0, none⟩), .slice ta V.tree.length tc, .agg #[.slice ta V.tree.length tc, .slice ca (slI V.tree 0).length cc], .pointer (some ⟨w.heap.size, 1, none⟩), .slice oa V.op.length oc, .agg #[.slice ta V.tree.length tc, .slice ca (slI V.tree 0).length cc], .func (.func 66) #[.agg #[.slice ta V.tree.length tc, .slice ca (slI V.tree 0).length cc]] #[], .bool true, .bool (!true), .bool (!true), .pointer (some ⟨w.heap.size, 2, none⟩), .slice ma V.modal.length mc, .agg #[.slice ta V.tree.length tc, .slice ca (slI V.tree 0).length cc], .func (.func 66) #[.agg #[.slice ta V.tree.length tc, .slice ca (slI V.tree 0).length cc]] #[], .bool true, .bool (!true), .bool (!true), .bool (!true), .pointer (some ⟨w.heap.size, 3, none⟩), .slice pa V.pops.length pc, .agg #[.slice ta V.tree.length tc, .slice ca (slI V.tree 0).length cc], .func (.func 68) #[.agg #[.slice ta V.tree.length tc, .slice ca (slI V.tree 0).length cc]] #[], .bool true, .bool (!true), .bool (!true), .pointer (some ⟨w.heap.size, 3, none⟩), .slice pa V.pops.length pc, .func (.func 120) #[] #[.pointer (some ⟨w.heap.size, 0, none⟩)], .bool true, .bool (!true), s34, s35, s36, s37, s38, s39, s40, s41, s42, s43, s44], defers := [] } ∧ BoxS w5 (w.heap.size) (.slice ta V.tree.length tc) (.slice oa V.op.length oc) (.slice ma V.modal.length mc) (.slice pa V.pops.length pc) (.slice qa V.top.length qc) U ∧ IvL l f 12 w5.heap.size U.heap.size ∧ (l.getD 0 true = true → s34 = .agg #[.slice ta V.tree.length tc, .slice oa V.op.length oc, .slice ma V.modal.length mc, .slice pa V.pops.length pc, .slice qa V.top.length qc]) ∧ (l.getD 1 true = true → RowIn U (f 1) 3 1 s35 (openedL V).length (intCells (openedL V))) ∧ (l.getD 2 true = true → s36 = .bool (!true)) ∧ (l.getD 3 true = true → s37 = .bool true) ∧ (l.getD 4 true = true → s38 = .bool true) ∧ (l.getD 5 true = true → s39 = .pointer (some ⟨w.heap.size, 4, none⟩)) ∧ (l.getD 6 true = true → s40 = .slice qa V.top.length qc) ∧ (l.getD 7 true = true → s41 = .agg #[.slice ta V.tree.length tc, .slice oa V.op.length oc, .slice ma V.modal.length mc, .slice pa V.pops.length pc, .slice qa V.top.length qc]) ∧ (l.getD 8 true = true → RowIn U (f 8) 3 1 s42 (raisedL V).length (intCells (raisedL V))) ∧ (l.getD 9 true = true → s43 = .bool (sameB V.top (raisedL V))) ∧ (l.getD 10 true = true → s44 = .bool (sameB V.top (raisedL V))) ∧ (l.getD 11 true = true → s2 = .bool (sameB V.top (raisedL V)))) (by kernel_rfl) (by kernel_rfl) ?_ ?_ ?_
            · exact ⟨fun _ => (0, 0), _, _, _, _, _, _, _, _, _, _, _, _, rfl, hS0, IvL.start 12 _ _ _, fun h => by simp at h, fun h => by simp at h, fun h => by simp at h, fun h => by simp at h, fun h => by simp at h, fun h => by simp at h, fun h => by simp at h, fun h => by simp at h, fun h => by simp at h, fun h => by simp at h, fun h => by simp at h, fun h => by simp at h⟩
            · rintro i l a U hi ⟨f, s34, s35, s36, s37, s38, s39, s40, s41, s42, s43, s44, s2, rfl, hS, hIv, h0, h1, h2, h3, h4, h5, h6, h7, h8, h9, h10, h11⟩
              obtain ⟨hun, o, ho, _⟩ := mem_ready.mp hi
              have hlt := (Array.getElem?_eq_some_iff.mp ho).1
              clear ho
              simp only [List.size_toArray, List.length_cons, List.length_nil, Nat.reduceAdd] at hlt
              obtain rfl | rfl | rfl | rfl | rfl | rfl | rfl | rfl | rfl | rfl | rfl | rfl : i = 0 ∨ i = 1 ∨ i = 2 ∨ i = 3 ∨ i = 4 ∨ i = 5 ∨ i = 6 ∨ i = 7 ∨ i = 8 ∨ i = 9 ∨ i = 10 ∨ i = 11 := by omega
              · have pc0 := hS.c0
                have pc1 := hS.c1
                have pc2 := hS.c2
                have pc3 := hS.c3
                have pc4 := hS.c4
                refine inv_step (by rfl) (fun K hK => ?_)
                go_simp
                exact hK.out _ _ ⟨upPart f 0 (U.heap.size, _), _, _, _, _, _, _, _, _, _, _, _, _, rfl, hS, hIv.step (i := 0) hun (by decide) (Nat.le_refl _), fun _ => rfl, fun h => h1 (set_getD (i := 0) (by decide) h), fun h => h2 (set_getD (i := 0) (by decide) h), fun h => h3 (set_getD (i := 0) (by decide) h), fun h => h4 (set_getD (i := 0) (by decide) h), fun h => h5 (set_getD (i := 0) (by decide) h), fun h => h6 (set_getD (i := 0) (by decide) h), fun h => h7 (set_getD (i := 0) (by decide) h), fun h => h8 (set_getD (i := 0) (by decide) h), fun h => h9 (set_getD (i := 0) (by decide) h), fun h => h10 (set_getD (i := 0) (by decide) h), fun h => h11 (set_getD (i := 0) (by decide) h)⟩
              · have e0 := h0 (dep_of hi (d := 0) (by kernel_rfl))
                subst e0
                refine inv_step (by rfl) (fun K hK => ?_)
                go_simp
                (go_at_call 84; refine Calls.mono (opened_any _ _ _ _ _ V U (HV5.out.below hS.bel) ⟨by omega, by omega, by omega⟩) ?_; rintro e w1' ⟨va, vc, rfl, hgot, hb⟩)
                go_wp2_with fail
                have hk : ∀ m, w5.heap.size ≤ m → m < U.heap.size → w1'.heap[m]? = U.heap[m]? := fun m _ h2 => hb.block m h2
                exact hK.out _ _ ⟨upPart f 1 (U.heap.size, _), _, _, _, _, _, _, _, _, _, _, _, _, rfl, hS.below hb, hIv.step (i := 1) hun (by decide) hb.size, fun _ => rfl, fun _ => rowIn_of hgot, fun h => h2 (set_getD (i := 1) (by decide) h), fun h => h3 (set_getD (i := 1) (by decide) h), fun h => h4 (set_getD (i := 1) (by decide) h), fun h => h5 (set_getD (i := 1) (by decide) h), fun h => h6 (set_getD (i := 1) (by decide) h), fun h => h7 (set_getD (i := 1) (by decide) h), fun h => (h8 (set_getD (i := 1) (by decide) h)).keep (hIv.old (set_getD (i := 1) (by decide) h) (by decide) hk), fun h => h9 (set_getD (i := 1) (by decide) h), fun h => h10 (set_getD (i := 1) (by decide) h), fun h => h11 (set_getD (i := 1) (by decide) h)⟩
              · have q1 := dep_of hi (d := 1) (by kernel_rfl)
                have r1 := h1 q1
                refine inv_step (by rfl) (fun K hK => ?_)
                go_simp
                (go_at_call 121; refine Calls.mono (hasTwice_any (openedL V) _ U (rowInts r1) (by have := HOL.out; omega) r1.cap) ?_; rintro e w1' ⟨rfl, hwz⟩)
                obtain rfl : _ = w1' := hwz.symm
                have hb := Below.refl U.heap.size U
                rw [A5.out]
                go_wp2_with fail
                have hk : ∀ m, w5.heap.size ≤ m → m < U.heap.size → U.heap[m]? = U.heap[m]? := fun m _ h2 => hb.block m h2
                exact hK.out _ _ ⟨upPart f 2 (U.heap.size, _), _, _, _, _, _, _, _, _, _, _, _, _, rfl, hS.below hb, hIv.step (i := 2) hun (by decide) hb.size, fun h => h0 (set_getD (i := 2) (by decide) h), fun h => (h1 (set_getD (i := 2) (by decide) h)).keep (hIv.old (set_getD (i := 2) (by decide) h) (by decide) hk), fun _ => rfl, fun h => h3 (set_getD (i := 2) (by decide) h), fun h => h4 (set_getD (i := 2) (by decide) h), fun h => h5 (set_getD (i := 2) (by decide) h), fun h => h6 (set_getD (i := 2) (by decide) h), fun h => h7 (set_getD (i := 2) (by decide) h), fun h => (h8 (set_getD (i := 2) (by decide) h)).keep (hIv.old (set_getD (i := 2) (by decide) h) (by decide) hk), fun h => h9 (set_getD (i := 2) (by decide) h), fun h => h10 (set_getD (i := 2) (by decide) h), fun h => h11 (set_getD (i := 2) (by decide) h)⟩
              · have e2 := h2 (dep_of hi (d := 2) (by kernel_rfl))
                subst e2
                refine inv_step (by rfl) (fun K hK => ?_)
                go_simp
                exact hK.out _ _ ⟨upPart f 3 (U.heap.size, _), _, _, _, _, _, _, _, _, _, _, _, _, rfl, hS, hIv.step (i := 3) hun (by decide) (Nat.le_refl _), fun h => h0 (set_getD (i := 3) (by decide) h), fun h => h1 (set_getD (i := 3) (by decide) h), fun _ => rfl, fun _ => rfl, fun h => h4 (set_getD (i := 3) (by decide) h), fun h => h5 (set_getD (i := 3) (by decide) h), fun h => h6 (set_getD (i := 3) (by decide) h), fun h => h7 (set_getD (i := 3) (by decide) h), fun h => h8 (set_getD (i := 3) (by decide) h), fun h => h9 (set_getD (i := 3) (by decide) h), fun h => h10 (set_getD (i := 3) (by decide) h), fun h => h11 (set_getD (i := 3) (by decide) h)⟩
              · have e3 := h3 (dep_of hi (d := 3) (by kernel_rfl))
                subst e3
                refine inv_step (by rfl) (fun K hK => ?_)
                go_simp
                exact hK.out _ _ ⟨upPart f 4 (U.heap.size, _), _, _, _, _, _, _, _, _, _, _, _, _, rfl, hS, hIv.step (i := 4) hun (by decide) (Nat.le_refl _), fun h => h0 (set_getD (i := 4) (by decide) h), fun h => h1 (set_getD (i := 4) (by decide) h), fun h => h2 (set_getD (i := 4) (by decide) h), fun _ => rfl, fun _ => rfl, fun h => h5 (set_getD (i := 4) (by decide) h), fun h => h6 (set_getD (i := 4) (by decide) h), fun h => h7 (set_getD (i := 4) (by decide) h), fun h => h8 (set_getD (i := 4) (by decide) h), fun h => h9 (set_getD (i := 4) (by decide) h), fun h => h10 (set_getD (i := 4) (by decide) h), fun h => h11 (set_getD (i := 4) (by decide) h)⟩
              · have e4 := h4 (dep_of hi (d := 4) (by kernel_rfl))
                subst e4
                refine inv_step (by rfl) (fun K hK => ?_)
                go_simp
                exact hK.out _ _ ⟨upPart f 5 (U.heap.size, _), _, _, _, _, _, _, _, _, _, _, _, _, rfl, hS, hIv.step (i := 5) hun (by decide) (Nat.le_refl _), fun h => h0 (set_getD (i := 5) (by decide) h), fun h => h1 (set_getD (i := 5) (by decide) h), fun h => h2 (set_getD (i := 5) (by decide) h), fun h => h3 (set_getD (i := 5) (by decide) h), fun _ => rfl, fun _ => rfl, fun h => h6 (set_getD (i := 5) (by decide) h), fun h => h7 (set_getD (i := 5) (by decide) h), fun h => h8 (set_getD (i := 5) (by decide) h), fun h => h9 (set_getD (i := 5) (by decide) h), fun h => h10 (set_getD (i := 5) (by decide) h), fun h => h11 (set_getD (i := 5) (by decide) h)⟩
              · have e4 := h4 (dep_of hi (d := 4) (by kernel_rfl))
                subst e4
                have e5 := h5 (dep_of hi (d := 5) (by kernel_rfl))
                subst e5
                have pc4 := hS.c4
                refine inv_step (by rfl) (fun K hK => ?_)
                go_simp
                exact hK.out _ _ ⟨upPart f 6 (U.heap.size, _), _, _, _, _, _, _, _, _, _, _, _, _, rfl, hS, hIv.step (i := 6) hun (by decide) (Nat.le_refl _), fun h => h0 (set_getD (i := 6) (by decide) h), fun h => h1 (set_getD (i := 6) (by decide) h), fun h => h2 (set_getD (i := 6) (by decide) h), fun h => h3 (set_getD (i := 6) (by decide) h), fun _ => rfl, fun _ => rfl, fun _ => rfl, fun h => h7 (set_getD (i := 6) (by decide) h), fun h => h8 (set_getD (i := 6) (by decide) h), fun h => h9 (set_getD (i := 6) (by decide) h), fun h => h10 (set_getD (i := 6) (by decide) h), fun h => h11 (set_getD (i := 6) (by decide) h)⟩
              · have e4 := h4 (dep_of hi (d := 4) (by kernel_rfl))
                subst e4
                have pc0 := hS.c0
                have pc1 := hS.c1
                have pc2 := hS.c2
                have pc3 := hS.c3
                have pc4 := hS.c4
                refine inv_step (by rfl) (fun K hK => ?_)
                go_simp
                exact hK.out _ _ ⟨upPart f 7 (U.heap.size, _), _, _, _, _, _, _, _, _, _, _, _, _, rfl, hS, hIv.step (i := 7) hun (by decide) (Nat.le_refl _), fun h => h0 (set_getD (i := 7) (by decide) h), fun h => h1 (set_getD (i := 7) (by decide) h), fun h => h2 (set_getD (i := 7) (by decide) h), fun h => h3 (set_getD (i := 7) (by decide) h), fun _ => rfl, fun h => h5 (set_getD (i := 7) (by decide) h), fun h => h6 (set_getD (i := 7) (by decide) h), fun _ => rfl, fun h => h8 (set_getD (i := 7) (by decide) h), fun h => h9 (set_getD (i := 7) (by decide) h), fun h => h10 (set_getD (i := 7) (by decide) h), fun h => h11 (set_getD (i := 7) (by decide) h)⟩
              · have e4 := h4 (dep_of hi (d := 4) (by kernel_rfl))
                subst e4
                have e7 := h7 (dep_of hi (d := 7) (by kernel_rfl))
                subst e7
                refine inv_step (by rfl) (fun K hK => ?_)
                go_simp
                (go_at_call 71; refine Calls.mono (raised_any _ _ _ _ _ V U (HV5.out.below hS.bel) ⟨by omega, by omega⟩) ?_; rintro e w1' ⟨va, vc, rfl, hgot, hb⟩)
                go_wp2_with fail
                have hk : ∀ m, w5.heap.size ≤ m → m < U.heap.size → w1'.heap[m]? = U.heap[m]? := fun m _ h2 => hb.block m h2
                exact hK.out _ _ ⟨upPart f 8 (U.heap.size, _), _, _, _, _, _, _, _, _, _, _, _, _, rfl, hS.below hb, hIv.step (i := 8) hun (by decide) hb.size, fun h => h0 (set_getD (i := 8) (by decide) h), fun h => (h1 (set_getD (i := 8) (by decide) h)).keep (hIv.old (set_getD (i := 8) (by decide) h) (by decide) hk), fun h => h2 (set_getD (i := 8) (by decide) h), fun h => h3 (set_getD (i := 8) (by decide) h), fun _ => rfl, fun h => h5 (set_getD (i := 8) (by decide) h), fun h => h6 (set_getD (i := 8) (by decide) h), fun _ => rfl, fun _ => rowIn_of hgot, fun h => h9 (set_getD (i := 8) (by decide) h), fun h => h10 (set_getD (i := 8) (by decide) h), fun h => h11 (set_getD (i := 8) (by decide) h)⟩
              · have e4 := h4 (dep_of hi (d := 4) (by kernel_rfl))
                subst e4
                have e6 := h6 (dep_of hi (d := 6) (by kernel_rfl))
                subst e6
                have q8 := dep_of hi (d := 8) (by kernel_rfl)
                have r8 := h8 q8
                refine inv_step (by rfl) (fun K hK => ?_)
                go_simp
                (go_at_call 122; refine Calls.mono (sameOnes_any V.top (raisedL V) _ _ U (HV5.out.top.below hS.bel) (rowInts r8) (by omega) (by simp [raisedL, nodesL']; omega)) ?_; rintro e w1' ⟨rfl, hb⟩)
                go_wp2_with fail
                have hk : ∀ m, w5.heap.size ≤ m → m < U.heap.size → w1'.heap[m]? = U.heap[m]? := fun m _ h2 => hb.block m h2
                exact hK.out _ _ ⟨upPart f 9 (U.heap.size, _), _, _, _, _, _, _, _, _, _, _, _, _, rfl, hS.below hb, hIv.step (i := 9) hun (by decide) hb.size, fun h => h0 (set_getD (i := 9) (by decide) h), fun h => (h1 (set_getD (i := 9) (by decide) h)).keep (hIv.old (set_getD (i := 9) (by decide) h) (by decide) hk), fun h => h2 (set_getD (i := 9) (by decide) h), fun h => h3 (set_getD (i := 9) (by decide) h), fun _ => rfl, fun h => h5 (set_getD (i := 9) (by decide) h), fun _ => rfl, fun h => h7 (set_getD (i := 9) (by decide) h), fun h => (h8 (set_getD (i := 9) (by decide) h)).keep (hIv.old (set_getD (i := 9) (by decide) h) (by decide) hk), fun _ => rfl, fun h => h10 (set_getD (i := 9) (by decide) h), fun h => h11 (set_getD (i := 9) (by decide) h)⟩
              · have e4 := h4 (dep_of hi (d := 4) (by kernel_rfl))
                subst e4
                have e9 := h9 (dep_of hi (d := 9) (by kernel_rfl))
                subst e9
                refine inv_step (by rfl) (fun K hK => ?_)
                go_simp
                exact hK.out _ _ ⟨upPart f 10 (U.heap.size, _), _, _, _, _, _, _, _, _, _, _, _, _, rfl, hS, hIv.step (i := 10) hun (by decide) (Nat.le_refl _), fun h => h0 (set_getD (i := 10) (by decide) h), fun h => h1 (set_getD (i := 10) (by decide) h), fun h => h2 (set_getD (i := 10) (by decide) h), fun h => h3 (set_getD (i := 10) (by decide) h), fun _ => rfl, fun h => h5 (set_getD (i := 10) (by decide) h), fun h => h6 (set_getD (i := 10) (by decide) h), fun h => h7 (set_getD (i := 10) (by decide) h), fun h => h8 (set_getD (i := 10) (by decide) h), fun _ => rfl, fun _ => rfl, fun h => h11 (set_getD (i := 10) (by decide) h)⟩
              · have e10 := h10 (dep_of hi (d := 10) (by kernel_rfl))
                subst e10
                refine inv_step (by rfl) (fun K hK => ?_)
                go_simp
                exact hK.out _ _ ⟨upPart f 11 (U.heap.size, _), _, _, _, _, _, _, _, _, _, _, _, _, rfl, hS, hIv.step (i := 11) hun (by decide) (Nat.le_refl _), fun h => h0 (set_getD (i := 11) (by decide) h), fun h => h1 (set_getD (i := 11) (by decide) h), fun h => h2 (set_getD (i := 11) (by decide) h), fun h => h3 (set_getD (i := 11) (by decide) h), fun h => h4 (set_getD (i := 11) (by decide) h), fun h => h5 (set_getD (i := 11) (by decide) h), fun h => h6 (set_getD (i := 11) (by decide) h), fun h => h7 (set_getD (i := 11) (by decide) h), fun h => h8 (set_getD (i := 11) (by decide) h), fun h => h9 (set_getD (i := 11) (by decide) h), fun _ => rfl, fun _ => rfl⟩
            · rintro l a U hall ⟨f, s34, s35, s36, s37, s38, s39, s40, s41, s42, s43, s44, s2, rfl, hS, hIv, h0, h1, h2, h3, h4, h5, h6, h7, h8, h9, h10, h11⟩
              have e0 := h0 (hall 0 (by decide))
              have e1 := h1 (hall 1 (by decide))
              have e2 := h2 (hall 2 (by decide))
              have e3 := h3 (hall 3 (by decide))
              have e4 := h4 (hall 4 (by decide))
              have e5 := h5 (hall 5 (by decide))
              have e6 := h6 (hall 6 (by decide))
              have e7 := h7 (hall 7 (by decide))
              have e8 := h8 (hall 8 (by decide))
              have e9 := h9 (hall 9 (by decide))
              have e10 := h10 (hall 10 (by decide))
              have e11 := h11 (hall 11 (by decide))
              have HIV := hideG (hIv.all hall)
              clear hIv hall h0 h1 h2 h3 h4 h5 h6 h7 h8 h9 h10 h11
              subst e0
              subst e2
              subst e3
              subst e4
              subst e5
              subst e6
              subst e7
              subst e9
              subst e10
              subst e11
              have HFF := hideG (HB5.out.trans (hS.bel.mono HB5.out.size))
              go_wp2_with fail
              go_ret
              exact ⟨ret_bool (by simp [mayP, A1.out, A2.out, A3.out, A4.out, A5.out]), HFF.out⟩
end Go.Proofs.YtclhimodopgeoaaGreat

namespace Go.Proofs.YtclhimodopgeoaaGreat
open Go.RowKit

def smallL (V : Vw) : Prop := V.op.length ≤ 500 ∧ V.modal.length ≤ 500 ∧ V.pops.length ≤ 500 ∧ V.top.length ≤ 1000
theorem check_may {V : Vw} (h : checkV V = 0) : mayB V.tree = true := by
  unfold checkV at h
  cases e : mayB V.tree
  · rw [e] at h; simp at h
  · rfl
theorem check_bad {V : Vw} (h : checkV V ≠ 0) : checkV V = 1 ∨ checkV V = 9 := by
  unfold checkV at h ⊢
  by_cases a : mayB V.tree = true
  · by_cases b : mayV V = true
    · rw [if_pos a, if_pos b] at h; exact absurd rfl h
    · rw [if_pos a, if_neg b]; exact .inr rfl
  · rw [if_neg a]; exact .inl rfl
set_option maxRecDepth 100000 in
set_option maxHeartbeats 4000000 in
theorem checkV_any (tv ov mv pv qv : Value) (V : Vw) (w : World) (hV : ViewAt w tv ov mv pv qv V) (hS : Sane V.tree) (hl : smallL V) :
    Calls Tryz.prog 24 #[.agg #[tv, ov, mv, pv, qv]] w fun x w' => x = .returned (.int .i64 (checkV V)) ∧ Below w.heap.size w w' := by
  obtain ⟨hT, hO, hM, hP, hQ⟩ := hV
  obtain ⟨ta, tc, rfl⟩ := hT.shape
  obtain ⟨oa, oc, rfl⟩ := hO.shape
  obtain ⟨ma, mc, rfl⟩ := hM.shape
  obtain ⟨pa, pc, rfl⟩ := hP.shape
  obtain ⟨qa, qc, rfl⟩ := hQ.shape
  obtain ⟨W0, hW0⟩ : ∃ W0, w.alloc (.cells #[.slice ta V.tree.length tc, .slice oa V.op.length oc, .slice ma V.modal.length mc, .slice pa V.pops.length pc, .slice qa V.top.length qc] 27) = W0 := ⟨_, rfl⟩
  have HB0 := hideG (show Below w.heap.size w W0 by rw [← hW0]; exact (Below.refl _ w).alloc (Nat.le_refl _) _)
  have P0 := hideG (show W0.cell? ⟨w.heap.size, 0, none⟩ = some (.slice ta V.tree.length tc) by rw [← hW0]; simp)
  have P1 := hideG (show W0.cell? ⟨w.heap.size, 1, none⟩ = some (.slice oa V.op.length oc) by rw [← hW0]; simp)
  have P2 := hideG (show W0.cell? ⟨w.heap.size, 2, none⟩ = some (.slice ma V.modal.length mc) by rw [← hW0]; simp)
  have P3 := hideG (show W0.cell? ⟨w.heap.size, 3, none⟩ = some (.slice pa V.pops.length pc) by rw [← hW0]; simp)
  have P4 := hideG (show W0.cell? ⟨w.heap.size, 4, none⟩ = some (.slice qa V.top.length qc) by rw [← hW0]; simp)
  have HV0 := hideG (show ViewAt W0 _ _ _ _ _ V from ⟨hT.below HB0.out, hO.below HB0.out, hM.below HB0.out, hP.below HB0.out, hQ.below HB0.out⟩)
  have HW0 := hideG hW0
  have HC := hideG (check_any V.tree hS _ W0 HV0.out.tree)
  have HS := hideG hS
  have HL := hideG hl
  clear hW0 hT hO hM hP hQ hS hl
  have p0 := P0.out
  cases hm : mayB V.tree
  · have HE := hideG (show checkE V.tree = 1 by simp [checkE, hm])
    have HQ := hideG (show checkV V = 1 by simp [checkV, hm])
    rw [HE.out] at HC
    clear hm HE
    go_enter Tryz.func24, Tryz.ntmps24
    go_wp2_with fail
    rw [HW0.out]
    refine HC.out.mono ?_
    rintro ex w1 ⟨rfl, hb1⟩
    have HB1 := hideG (HB0.out.trans (hb1.mono HB0.out.size))
    clear hb1 p0
    go_wp2_with fail
    go_ret
    exact ⟨by rw [HQ.out]; rfl, HB1.out⟩
  · have HE := hideG (show checkE V.tree = 0 by simp [checkE, hm])
    have HM := hideG hm
    rw [HE.out] at HC
    clear hm HE
    have HP := hideG (fun U (hU : Below W0.heap.size W0 U) => mayBeV_any _ _ _ _ _ V U (HV0.out.below hU) HS.out HM.out HL.out)
    cases hv : mayV V
    · have HQ := hideG (show checkV V = 9 by simp [checkV, HM.out, hv])
      have HN := hideG (show mayP V = false by rw [mayP_eq, hv])
      clear hv
      go_enter Tryz.func24, Tryz.ntmps24
      go_wp2_with fail
      rw [HW0.out]
      refine HC.out.mono ?_
      rintro ex w1 ⟨rfl, hb1⟩
      have HB1 := hideG (HB0.out.trans (hb1.mono HB0.out.size))
      have HX1 := hideG hb1
      have p0 := cell_below hb1 P0.out
      have p1 := cell_below hb1 P1.out
      have p2 := cell_below hb1 P2.out
      have p3 := cell_below hb1 P3.out
      have p4 := cell_below hb1 P4.out
      clear hb1
      go_wp2_with fail
      refine (HP.out w1 HX1.out).mono ?_
      rintro ex w2 ⟨rfl, hb2⟩
      rw [HN.out]
      have HB2 := hideG (HB1.out.trans (hb2.mono HB1.out.size))
      clear hb2 p0 p1 p2 p3 p4
      go_wp2_with fail
      go_ret
      exact ⟨by rw [HQ.out]; rfl, HB2.out⟩
    · have HQ := hideG (show checkV V = 0 by simp [checkV, HM.out, hv])
      have HN := hideG (show mayP V = true by rw [mayP_eq, hv])
      clear hv
      go_enter Tryz.func24, Tryz.ntmps24
      go_wp2_with fail
      rw [HW0.out]
      refine HC.out.mono ?_
      rintro ex w1 ⟨rfl, hb1⟩
      have HB1 := hideG (HB0.out.trans (hb1.mono HB0.out.size))
      have HX1 := hideG hb1
      have p0 := cell_below hb1 P0.out
      have p1 := cell_below hb1 P1.out
      have p2 := cell_below hb1 P2.out
      have p3 := cell_below hb1 P3.out
      have p4 := cell_below hb1 P4.out
      clear hb1
      go_wp2_with fail
      refine (HP.out w1 HX1.out).mono ?_
      rintro ex w2 ⟨rfl, hb2⟩
      rw [HN.out]
      have HB2 := hideG (HB1.out.trans (hb2.mono HB1.out.size))
      clear hb2 p0 p1 p2 p3 p4
      go_wp2_with fail
      go_ret
      exact ⟨by rw [HQ.out]; rfl, HB2.out⟩
end Go.Proofs.YtclhimodopgeoaaGreat

namespace Go.Proofs.YtclhimodopgeoaaGreat
open Go.RowKit

set_option maxRecDepth 100000 in
set_option maxHeartbeats 8000000 in
theorem copyV_any (tv ov mv pv qv : Value) (V : Vw) (w : World) (hV : ViewAt w tv ov mv pv qv V) (hS : Sane V.tree) (hl : V.tree.length ≤ 1000 ∧ V.op.length ≤ 1000 ∧ V.modal.length ≤ 1000 ∧ V.pops.length ≤ 1000 ∧ V.top.length ≤ 1000) :
    Calls Tryz.prog 27 #[.agg #[tv, ov, mv, pv, qv]] w fun x w' => ∃ f tv' ov' mv' pv' qv', x = .returned (.agg #[tv', ov', mv', pv', qv']) ∧ OwnV w' w.heap.size f tv' ov' mv' pv' qv' V ∧ Below w.heap.size w w' := by
  obtain ⟨hT, hO, hM, hP, hQ⟩ := hV
  have HT := hideG hT
  have HO := hideG hO
  have HM := hideG hM
  have HP := hideG hP
  have HQ := hideG hQ
  have HS := hideG hS
  obtain ⟨ta, tc, rfl⟩ := hT.shape
  obtain ⟨oa, oc, rfl⟩ := hO.shape
  obtain ⟨ma, mc, rfl⟩ := hM.shape
  obtain ⟨pa, pc, rfl⟩ := hP.shape
  obtain ⟨qa, qc, rfl⟩ := hQ.shape
  obtain ⟨W0, hW0⟩ : ∃ W0, (w.alloc (.cells #[.slice ta V.tree.length tc, .slice oa V.op.length oc, .slice ma V.modal.length mc, .slice pa V.pops.length pc, .slice qa V.top.length qc] 27)).alloc (.cells #[.slice none 0 0, .slice none 0 0, .slice none 0 0, .slice none 0 0, .slice none 0 0] 27) = W0 := ⟨_, rfl⟩
  have P0 := hideG (show W0.cell? ⟨w.heap.size, 0, none⟩ = some (.slice ta V.tree.length tc) by rw [← hW0]; exact cell_alloc_l _ (by simp))
  have P1 := hideG (show W0.cell? ⟨w.heap.size, 1, none⟩ = some (.slice oa V.op.length oc) by rw [← hW0]; exact cell_alloc_l _ (by simp))
  have P2 := hideG (show W0.cell? ⟨w.heap.size, 2, none⟩ = some (.slice ma V.modal.length mc) by rw [← hW0]; exact cell_alloc_l _ (by simp))
  have P3 := hideG (show W0.cell? ⟨w.heap.size, 3, none⟩ = some (.slice pa V.pops.length pc) by rw [← hW0]; exact cell_alloc_l _ (by simp))
  have P4 := hideG (show W0.cell? ⟨w.heap.size, 4, none⟩ = some (.slice qa V.top.length qc) by rw [← hW0]; exact cell_alloc_l _ (by simp))
  have hsz : W0.heap.size = w.heap.size + 2 := by rw [← hW0]; simp
  have hS0 : CpS w W0 (w.heap.size + 1) W0.drew := ⟨below_drew' (by rw [← hW0]; exact ((Below.refl _ w).alloc (Nat.le_refl _) _).alloc (by simp) _), Nat.le_refl _, fun _ _ _ => rfl, fun j hj => ⟨.slice none 0 0, by
    have h1 := World.alloc_heap_new (w.alloc (.cells #[.slice ta V.tree.length tc, .slice oa V.op.length oc, .slice ma V.modal.length mc, .slice pa V.pops.length pc, .slice qa V.top.length qc] 27)) (.cells #[.slice none 0 0, .slice none 0 0, .slice none 0 0, .slice none 0 0, .slice none 0 0] 27)
    rw [World.size_alloc, hW0] at h1
    have h2 : W0.drew.heap[w.heap.size + 1]? = some (.cells #[.slice none 0 0, .slice none 0 0, .slice none 0 0, .slice none 0 0, .slice none 0 0] 27 (0, 0)) := h1
    obtain rfl | rfl | rfl | rfl | rfl : j = 0 ∨ j = 1 ∨ j = 2 ∨ j = 3 ∨ j = 4 := by omega
    all_goals exact ⟨by simp [World.cell?, h2], by simp [World.frozen?, h2]⟩⟩⟩
  have HW0 := hideG hW0
  have h0l := hl.1
  have h1l := hl.2.1
  have h2l := hl.2.2.1
  have h3l := hl.2.2.2.1
  have h4l := hl.2.2.2.2
  clear hW0 hT hO hM hP hQ hS hl
  go_enter Tryz.func27, Tryz.ntmps27
  go_wp2_with fail
  rw [HW0.out]
  refine wp_region_inv (fun l a U => ∃ (f : Nat → Nat × Nat) (s3 s4 s5 s6 s7 s8 s9 s10 s11 s12 s13 s14 s15 s16 s17 s18 : Value), a = { tmps := #[.agg #[.slice ta V.tree.length tc, .slice oa V.op.length oc, .slice ma V.modal.length mc, .slice pa V.pops.length pc, .slice qa V.top.length qc], .pointer (some ⟨w.heap.size, 0, none⟩), .pointer (some ⟨w.heap.size + 1, 0, none⟩), s3, s4, s5, s6, s7, s8, s9, s10, s11, s12, s13, s14, s15, s16, s17, s18], defers := [] } ∧ CpS w W0 (w.heap.size + 1) U ∧ IvL l f 17 W0.heap.size U.heap.size ∧ Hid (l.getD 0 true = true → s3 = .pointer (some ⟨w.heap.size, 0, none⟩)) ∧ Hid (l.getD 1 true = true → s4 = .slice ta V.tree.length tc) ∧ Hid (l.getD 2 true = true → TreeIn U (f 2) s5 V.tree) ∧ Hid (l.getD 3 true = true → s6 = .pointer (some ⟨w.heap.size, 1, none⟩)) ∧ Hid (l.getD 4 true = true → s7 = .slice oa V.op.length oc) ∧ Hid (l.getD 5 true = true → RowIn U (f 5) 3 1 s8 V.op.length (intCells V.op)) ∧ Hid (l.getD 6 true = true → s9 = .pointer (some ⟨w.heap.size, 2, none⟩)) ∧ Hid (l.getD 7 true = true → s10 = .slice ma V.modal.length mc) ∧ Hid (l.getD 8 true = true → RowIn U (f 8) 3 1 s11 V.modal.length (intCells V.modal)) ∧ Hid (l.getD 9 true = true → s12 = .pointer (some ⟨w.heap.size, 3, none⟩)) ∧ Hid (l.getD 10 true = true → s13 = .slice pa V.pops.length pc) ∧ Hid (l.getD 11 true = true → RowIn U (f 11) 39 2 s14 V.pops.length (shCells V.pops)) ∧ Hid (l.getD 12 true = true → s15 = .pointer (some ⟨w.heap.size, 4, none⟩)) ∧ Hid (l.getD 13 true = true → s16 = .slice qa V.top.length qc) ∧ Hid (l.getD 14 true = true → RowIn U (f 14) 3 1 s17 V.top.length (intCells V.top)) ∧ Hid (l.getD 15 true = true → l.getD 2 true = true ∧ l.getD 5 true = true ∧ l.getD 8 true = true ∧ l.getD 11 true = true ∧ l.getD 14 true = true ∧ s18 = .agg #[s5, s8, s11, s14, s17]) ∧ Hid (l.getD 16 true = true → l.getD 2 true = true ∧ l.getD 5 true = true ∧ l.getD 8 true = true ∧ l.getD 11 true = true ∧ l.getD 14 true = true ∧ U.cell? ⟨w.heap.size + 1, 0, none⟩ = some s5 ∧ U.cell? ⟨w.heap.size + 1, 1, none⟩ = some s8 ∧ U.cell? ⟨w.heap.size + 1, 2, none⟩ = some s11 ∧ U.cell? ⟨w.heap.size + 1, 3, none⟩ = some s14 ∧ U.cell? ⟨w.heap.size + 1, 4, none⟩ = some s17)) (by kernel_rfl) (by kernel_rfl) ?_ ?_ ?_
  · exact ⟨fun _ => (0, 0), _, _, _, _, _, _, _, _, _, _, _, _, _, _, _, _, rfl, hS0, IvL.start 17 _ _ _, fun h => by simp at h, fun h => by simp at h, fun h => by simp at h, fun h => by simp at h, fun h => by simp at h, fun h => by simp at h, fun h => by simp at h, fun h => by simp at h, fun h => by simp at h, fun h => by simp at h, fun h => by simp at h, fun h => by simp at h, fun h => by simp at h, fun h => by simp at h, fun h => by simp at h, fun h => by simp at h, fun h => by simp at h⟩
  · rintro i l a U hi ⟨f, s3, s4, s5, s6, s7, s8, s9, s10, s11, s12, s13, s14, s15, s16, s17, s18, rfl, hS, hIv, h0, h1, h2, h3, h4, h5, h6, h7, h8, h9, h10, h11, h12, h13, h14, h15, h16⟩
    obtain ⟨hun, o, ho, _⟩ := mem_ready.mp hi
    have hlt := (Array.getElem?_eq_some_iff.mp ho).1
    clear ho
    simp only [List.size_toArray, List.length_cons, List.length_nil, Nat.reduceAdd] at hlt
    obtain rfl | rfl | rfl | rfl | rfl | rfl | rfl | rfl | rfl | rfl | rfl | rfl | rfl | rfl | rfl | rfl | rfl : i = 0 ∨ i = 1 ∨ i = 2 ∨ i = 3 ∨ i = 4 ∨ i = 5 ∨ i = 6 ∨ i = 7 ∨ i = 8 ∨ i = 9 ∨ i = 10 ∨ i = 11 ∨ i = 12 ∨ i = 13 ∨ i = 14 ∨ i = 15 ∨ i = 16 := by omega
    · refine inv_step (by rfl) (fun K hK => ?_)
      go_simp
      exact hK.out _ _ ⟨upPart f 0 (U.heap.size, _), _, _, _, _, _, _, _, _, _, _, _, _, _, _, _, _, rfl, hS, hIv.step (i := 0) hun (by decide) (Nat.le_refl _), fun _ => rfl, fun h => h1 (set_getD (i := 0) (by decide) h), fun h => h2 (set_getD (i := 0) (by decide) h), fun h => h3 (set_getD (i := 0) (by decide) h), fun h => h4 (set_getD (i := 0) (by decide) h), fun h => h5 (set_getD (i := 0) (by decide) h), fun h => h6 (set_getD (i := 0) (by decide) h), fun h => h7 (set_getD (i := 0) (by decide) h), fun h => h8 (set_getD (i := 0) (by decide) h), fun h => h9 (set_getD (i := 0) (by decide) h), fun h => h10 (set_getD (i := 0) (by decide) h), fun h => h11 (set_getD (i := 0) (by decide) h), fun h => h12 (set_getD (i := 0) (by decide) h), fun h => h13 (set_getD (i := 0) (by decide) h), fun h => h14 (set_getD (i := 0) (by decide) h), fun h => (by obtain ⟨x2, x5, x8, x11, x14, x⟩ := h15 (set_getD (i := 0) (by decide) h); exact ⟨set_getD' x2, set_getD' x5, set_getD' x8, set_getD' x11, set_getD' x14, x⟩), fun h => (by obtain ⟨x2, x5, x8, x11, x14, x⟩ := h16 (set_getD (i := 0) (by decide) h); exact ⟨set_getD' x2, set_getD' x5, set_getD' x8, set_getD' x11, set_getD' x14, x⟩)⟩
    · have e0 := h0 (dep_of hi (d := 0) (by kernel_rfl))
      subst e0
      have pc : U.cell? ⟨w.heap.size, 0, none⟩ = some (.slice ta V.tree.length tc) := hS.cell P0.out (by omega)
      refine inv_step (by rfl) (fun K hK => ?_)
      go_simp
      exact hK.out _ _ ⟨upPart f 1 (U.heap.size, _), _, _, _, _, _, _, _, _, _, _, _, _, _, _, _, _, rfl, hS, hIv.step (i := 1) hun (by decide) (Nat.le_refl _), fun _ => rfl, fun _ => rfl, fun h => h2 (set_getD (i := 1) (by decide) h), fun h => h3 (set_getD (i := 1) (by decide) h), fun h => h4 (set_getD (i := 1) (by decide) h), fun h => h5 (set_getD (i := 1) (by decide) h), fun h => h6 (set_getD (i := 1) (by decide) h), fun h => h7 (set_getD (i := 1) (by decide) h), fun h => h8 (set_getD (i := 1) (by decide) h), fun h => h9 (set_getD (i := 1) (by decide) h), fun h => h10 (set_getD (i := 1) (by decide) h), fun h => h11 (set_getD (i := 1) (by decide) h), fun h => h12 (set_getD (i := 1) (by decide) h), fun h => h13 (set_getD (i := 1) (by decide) h), fun h => h14 (set_getD (i := 1) (by decide) h), fun h => (by obtain ⟨x2, x5, x8, x11, x14, x⟩ := h15 (set_getD (i := 1) (by decide) h); exact ⟨set_getD' x2, set_getD' x5, set_getD' x8, set_getD' x11, set_getD' x14, x⟩), fun h => (by obtain ⟨x2, x5, x8, x11, x14, x⟩ := h16 (set_getD (i := 1) (by decide) h); exact ⟨set_getD' x2, set_getD' x5, set_getD' x8, set_getD' x11, set_getD' x14, x⟩)⟩
    · have e1 := h1 (dep_of hi (d := 1) (by kernel_rfl))
      subst e1
      refine inv_step (by rfl) (fun K hK => ?_)
      go_simp
      (go_at_call 70; refine Calls.mono (treeCopy_any V.tree HS.out _ U (HT.out.below hS.bel) (by omega)) ?_; rintro e w1 ⟨v1, rfl, hgot, hb⟩)
      go_wp2_with fail
      have hk : ∀ m, W0.heap.size ≤ m → m < U.heap.size → w1.heap[m]? = U.heap[m]? := fun m _ h2 => hb.block m h2
      exact hK.out _ _ ⟨upPart f 2 (U.heap.size, _), _, _, _, _, _, _, _, _, _, _, _, _, _, _, _, _, rfl, hS.below hb, hIv.step (i := 2) hun (by decide) hb.size, fun h => h0 (set_getD (i := 2) (by decide) h), fun _ => rfl, fun _ => hgot, fun h => h3 (set_getD (i := 2) (by decide) h), fun h => h4 (set_getD (i := 2) (by decide) h), fun h => (h5 (set_getD (i := 2) (by decide) h)).keep (hIv.old (set_getD (i := 2) (by decide) h) (by decide) hk), fun h => h6 (set_getD (i := 2) (by decide) h), fun h => h7 (set_getD (i := 2) (by decide) h), fun h => (h8 (set_getD (i := 2) (by decide) h)).keep (hIv.old (set_getD (i := 2) (by decide) h) (by decide) hk), fun h => h9 (set_getD (i := 2) (by decide) h), fun h => h10 (set_getD (i := 2) (by decide) h), fun h => (h11 (set_getD (i := 2) (by decide) h)).keep (hIv.old (set_getD (i := 2) (by decide) h) (by decide) hk), fun h => h12 (set_getD (i := 2) (by decide) h), fun h => h13 (set_getD (i := 2) (by decide) h), fun h => (h14 (set_getD (i := 2) (by decide) h)).keep (hIv.old (set_getD (i := 2) (by decide) h) (by decide) hk), fun h => absurd ((h15 (set_getD (i := 2) (by decide) h)).1) (by rw [hun]; decide), fun h => absurd ((h16 (set_getD (i := 2) (by decide) h)).1) (by rw [hun]; decide)⟩
    · refine inv_step (by rfl) (fun K hK => ?_)
      go_simp
      exact hK.out _ _ ⟨upPart f 3 (U.heap.size, _), _, _, _, _, _, _, _, _, _, _, _, _, _, _, _, _, rfl, hS, hIv.step (i := 3) hun (by decide) (Nat.le_refl _), fun h => h0 (set_getD (i := 3) (by decide) h), fun h => h1 (set_getD (i := 3) (by decide) h), fun h => h2 (set_getD (i := 3) (by decide) h), fun _ => rfl, fun h => h4 (set_getD (i := 3) (by decide) h), fun h => h5 (set_getD (i := 3) (by decide) h), fun h => h6 (set_getD (i := 3) (by decide) h), fun h => h7 (set_getD (i := 3) (by decide) h), fun h => h8 (set_getD (i := 3) (by decide) h), fun h => h9 (set_getD (i := 3) (by decide) h), fun h => h10 (set_getD (i := 3) (by decide) h), fun h => h11 (set_getD (i := 3) (by decide) h), fun h => h12 (set_getD (i := 3) (by decide) h), fun h => h13 (set_getD (i := 3) (by decide) h), fun h => h14 (set_getD (i := 3) (by decide) h), fun h => (by obtain ⟨x2, x5, x8, x11, x14, x⟩ := h15 (set_getD (i := 3) (by decide) h); exact ⟨set_getD' x2, set_getD' x5, set_getD' x8, set_getD' x11, set_getD' x14, x⟩), fun h => (by obtain ⟨x2, x5, x8, x11, x14, x⟩ := h16 (set_getD (i := 3) (by decide) h); exact ⟨set_getD' x2, set_getD' x5, set_getD' x8, set_getD' x11, set_getD' x14, x⟩)⟩
    · have e3 := h3 (dep_of hi (d := 3) (by kernel_rfl))
      subst e3
      have pc : U.cell? ⟨w.heap.size, 1, none⟩ = some (.slice oa V.op.length oc) := hS.cell P1.out (by omega)
      refine inv_step (by rfl) (fun K hK => ?_)
      go_simp
      exact hK.out _ _ ⟨upPart f 4 (U.heap.size, _), _, _, _, _, _, _, _, _, _, _, _, _, _, _, _, _, rfl, hS, hIv.step (i := 4) hun (by decide) (Nat.le_refl _), fun h => h0 (set_getD (i := 4) (by decide) h), fun h => h1 (set_getD (i := 4) (by decide) h), fun h => h2 (set_getD (i := 4) (by decide) h), fun _ => rfl, fun _ => rfl, fun h => h5 (set_getD (i := 4) (by decide) h), fun h => h6 (set_getD (i := 4) (by decide) h), fun h => h7 (set_getD (i := 4) (by decide) h), fun h => h8 (set_getD (i := 4) (by decide) h), fun h => h9 (set_getD (i := 4) (by decide) h), fun h => h10 (set_getD (i := 4) (by decide) h), fun h => h11 (set_getD (i := 4) (by decide) h), fun h => h12 (set_getD (i := 4) (by decide) h), fun h => h13 (set_getD (i := 4) (by decide) h), fun h => h14 (set_getD (i := 4) (by decide) h), fun h => (by obtain ⟨x2, x5, x8, x11, x14, x⟩ := h15 (set_getD (i := 4) (by decide) h); exact ⟨set_getD' x2, set_getD' x5, set_getD' x8, set_getD' x11, set_getD' x14, x⟩), fun h => (by obtain ⟨x2, x5, x8, x11, x14, x⟩ := h16 (set_getD (i := 4) (by decide) h); exact ⟨set_getD' x2, set_getD' x5, set_getD' x8, set_getD' x11, set_getD' x14, x⟩)⟩
    · have e4 := h4 (dep_of hi (d := 4) (by kernel_rfl))
      subst e4
      refine inv_step (by rfl) (fun K hK => ?_)
      go_simp
      (go_at_call 81; refine Calls.mono (cloneInts _ V.op U (HO.out.below hS.bel) (by omega)) ?_; rintro e w1 ⟨v1, rfl, hgot, hb⟩)
      go_wp2_with fail
      have hk : ∀ m, W0.heap.size ≤ m → m < U.heap.size → w1.heap[m]? = U.heap[m]? := fun m _ h2 => hb.block m h2
      exact hK.out _ _ ⟨upPart f 5 (U.heap.size, _), _, _, _, _, _, _, _, _, _, _, _, _, _, _, _, _, rfl, hS.below hb, hIv.step (i := 5) hun (by decide) hb.size, fun h => h0 (set_getD (i := 5) (by decide) h), fun h => h1 (set_getD (i := 5) (by decide) h), fun h => (h2 (set_getD (i := 5) (by decide) h)).keep (hIv.old (set_getD (i := 5) (by decide) h) (by decide) hk), fun h => h3 (set_getD (i := 5) (by decide) h), fun _ => rfl, fun _ => rowIn_of hgot, fun h => h6 (set_getD (i := 5) (by decide) h), fun h => h7 (set_getD (i := 5) (by decide) h), fun h => (h8 (set_getD (i := 5) (by decide) h)).keep (hIv.old (set_getD (i := 5) (by decide) h) (by decide) hk), fun h => h9 (set_getD (i := 5) (by decide) h), fun h => h10 (set_getD (i := 5) (by decide) h), fun h => (h11 (set_getD (i := 5) (by decide) h)).keep (hIv.old (set_getD (i := 5) (by decide) h) (by decide) hk), fun h => h12 (set_getD (i := 5) (by decide) h), fun h => h13 (set_getD (i := 5) (by decide) h), fun h => (h14 (set_getD (i := 5) (by decide) h)).keep (hIv.old (set_getD (i := 5) (by decide) h) (by decide) hk), fun h => absurd ((h15 (set_getD (i := 5) (by decide) h)).2.1) (by rw [hun]; decide), fun h => absurd ((h16 (set_getD (i := 5) (by decide) h)).2.1) (by rw [hun]; decide)⟩
    · refine inv_step (by rfl) (fun K hK => ?_)
      go_simp
      exact hK.out _ _ ⟨upPart f 6 (U.heap.size, _), _, _, _, _, _, _, _, _, _, _, _, _, _, _, _, _, rfl, hS, hIv.step (i := 6) hun (by decide) (Nat.le_refl _), fun h => h0 (set_getD (i := 6) (by decide) h), fun h => h1 (set_getD (i := 6) (by decide) h), fun h => h2 (set_getD (i := 6) (by decide) h), fun h => h3 (set_getD (i := 6) (by decide) h), fun h => h4 (set_getD (i := 6) (by decide) h), fun h => h5 (set_getD (i := 6) (by decide) h), fun _ => rfl, fun h => h7 (set_getD (i := 6) (by decide) h), fun h => h8 (set_getD (i := 6) (by decide) h), fun h => h9 (set_getD (i := 6) (by decide) h), fun h => h10 (set_getD (i := 6) (by decide) h), fun h => h11 (set_getD (i := 6) (by decide) h), fun h => h12 (set_getD (i := 6) (by decide) h), fun h => h13 (set_getD (i := 6) (by decide) h), fun h => h14 (set_getD (i := 6) (by decide) h), fun h => (by obtain ⟨x2, x5, x8, x11, x14, x⟩ := h15 (set_getD (i := 6) (by decide) h); exact ⟨set_getD' x2, set_getD' x5, set_getD' x8, set_getD' x11, set_getD' x14, x⟩), fun h => (by obtain ⟨x2, x5, x8, x11, x14, x⟩ := h16 (set_getD (i := 6) (by decide) h); exact ⟨set_getD' x2, set_getD' x5, set_getD' x8, set_getD' x11, set_getD' x14, x⟩)⟩
    · have e6 := h6 (dep_of hi (d := 6) (by kernel_rfl))
      subst e6
      have pc : U.cell? ⟨w.heap.size, 2, none⟩ = some (.slice ma V.modal.length mc) := hS.cell P2.out (by omega)
      refine inv_step (by rfl) (fun K hK => ?_)
      go_simp
      exact hK.out _ _ ⟨upPart f 7 (U.heap.size, _), _, _, _, _, _, _, _, _, _, _, _, _, _, _, _, _, rfl, hS, hIv.step (i := 7) hun (by decide) (Nat.le_refl _), fun h => h0 (set_getD (i := 7) (by decide) h), fun h => h1 (set_getD (i := 7) (by decide) h), fun h => h2 (set_getD (i := 7) (by decide) h), fun h => h3 (set_getD (i := 7) (by decide) h), fun h => h4 (set_getD (i := 7) (by decide) h), fun h => h5 (set_getD (i := 7) (by decide) h), fun _ => rfl, fun _ => rfl, fun h => h8 (set_getD (i := 7) (by decide) h), fun h => h9 (set_getD (i := 7) (by decide) h), fun h => h10 (set_getD (i := 7) (by decide) h), fun h => h11 (set_getD (i := 7) (by decide) h), fun h => h12 (set_getD (i := 7) (by decide) h), fun h => h13 (set_getD (i := 7) (by decide) h), fun h => h14 (set_getD (i := 7) (by decide) h), fun h => (by obtain ⟨x2, x5, x8, x11, x14, x⟩ := h15 (set_getD (i := 7) (by decide) h); exact ⟨set_getD' x2, set_getD' x5, set_getD' x8, set_getD' x11, set_getD' x14, x⟩), fun h => (by obtain ⟨x2, x5, x8, x11, x14, x⟩ := h16 (set_getD (i := 7) (by decide) h); exact ⟨set_getD' x2, set_getD' x5, set_getD' x8, set_getD' x11, set_getD' x14, x⟩)⟩
    · have e7 := h7 (dep_of hi (d := 7) (by kernel_rfl))
      subst e7
      refine inv_step (by rfl) (fun K hK => ?_)
      go_simp
      (go_at_call 81; refine Calls.mono (cloneInts _ V.modal U (HM.out.below hS.bel) (by omega)) ?_; rintro e w1 ⟨v1, rfl, hgot, hb⟩)
      go_wp2_with fail
      have hk : ∀ m, W0.heap.size ≤ m → m < U.heap.size → w1.heap[m]? = U.heap[m]? := fun m _ h2 => hb.block m h2
      exact hK.out _ _ ⟨upPart f 8 (U.heap.size, _), _, _, _, _, _, _, _, _, _, _, _, _, _, _, _, _, rfl, hS.below hb, hIv.step (i := 8) hun (by decide) hb.size, fun h => h0 (set_getD (i := 8) (by decide) h), fun h => h1 (set_getD (i := 8) (by decide) h), fun h => (h2 (set_getD (i := 8) (by decide) h)).keep (hIv.old (set_getD (i := 8) (by decide) h) (by decide) hk), fun h => h3 (set_getD (i := 8) (by decide) h), fun h => h4 (set_getD (i := 8) (by decide) h), fun h => (h5 (set_getD (i := 8) (by decide) h)).keep (hIv.old (set_getD (i := 8) (by decide) h) (by decide) hk), fun h => h6 (set_getD (i := 8) (by decide) h), fun _ => rfl, fun _ => rowIn_of hgot, fun h => h9 (set_getD (i := 8) (by decide) h), fun h => h10 (set_getD (i := 8) (by decide) h), fun h => (h11 (set_getD (i := 8) (by decide) h)).keep (hIv.old (set_getD (i := 8) (by decide) h) (by decide) hk), fun h => h12 (set_getD (i := 8) (by decide) h), fun h => h13 (set_getD (i := 8) (by decide) h), fun h => (h14 (set_getD (i := 8) (by decide) h)).keep (hIv.old (set_getD (i := 8) (by decide) h) (by decide) hk), fun h => absurd ((h15 (set_getD (i := 8) (by decide) h)).2.2.1) (by rw [hun]; decide), fun h => absurd ((h16 (set_getD (i := 8) (by decide) h)).2.2.1) (by rw [hun]; decide)⟩
    · refine inv_step (by rfl) (fun K hK => ?_)
      go_simp
      exact hK.out _ _ ⟨upPart f 9 (U.heap.size, _), _, _, _, _, _, _, _, _, _, _, _, _, _, _, _, _, rfl, hS, hIv.step (i := 9) hun (by decide) (Nat.le_refl _), fun h => h0 (set_getD (i := 9) (by decide) h), fun h => h1 (set_getD (i := 9) (by decide) h), fun h => h2 (set_getD (i := 9) (by decide) h), fun h => h3 (set_getD (i := 9) (by decide) h), fun h => h4 (set_getD (i := 9) (by decide) h), fun h => h5 (set_getD (i := 9) (by decide) h), fun h => h6 (set_getD (i := 9) (by decide) h), fun h => h7 (set_getD (i := 9) (by decide) h), fun h => h8 (set_getD (i := 9) (by decide) h), fun _ => rfl, fun h => h10 (set_getD (i := 9) (by decide) h), fun h => h11 (set_getD (i := 9) (by decide) h), fun h => h12 (set_getD (i := 9) (by decide) h), fun h => h13 (set_getD (i := 9) (by decide) h), fun h => h14 (set_getD (i := 9) (by decide) h), fun h => (by obtain ⟨x2, x5, x8, x11, x14, x⟩ := h15 (set_getD (i := 9) (by decide) h); exact ⟨set_getD' x2, set_getD' x5, set_getD' x8, set_getD' x11, set_getD' x14, x⟩), fun h => (by obtain ⟨x2, x5, x8, x11, x14, x⟩ := h16 (set_getD (i := 9) (by decide) h); exact ⟨set_getD' x2, set_getD' x5, set_getD' x8, set_getD' x11, set_getD' x14, x⟩)⟩
    · have e9 := h9 (dep_of hi (d := 9) (by kernel_rfl))
      subst e9
      have pc : U.cell? ⟨w.heap.size, 3, none⟩ = some (.slice pa V.pops.length pc) := hS.cell P3.out (by omega)
      refine inv_step (by rfl) (fun K hK => ?_)
      go_simp
      exact hK.out _ _ ⟨upPart f 10 (U.heap.size, _), _, _, _, _, _, _, _, _, _, _, _, _, _, _, _, _, rfl, hS, hIv.step (i := 10) hun (by decide) (Nat.le_refl _), fun h => h0 (set_getD (i := 10) (by decide) h), fun h => h1 (set_getD (i := 10) (by decide) h), fun h => h2 (set_getD (i := 10) (by decide) h), fun h => h3 (set_getD (i := 10) (by decide) h), fun h => h4 (set_getD (i := 10) (by decide) h), fun h => h5 (set_getD (i := 10) (by decide) h), fun h => h6 (set_getD (i := 10) (by decide) h), fun h => h7 (set_getD (i := 10) (by decide) h), fun h => h8 (set_getD (i := 10) (by decide) h), fun _ => rfl, fun _ => rfl, fun h => h11 (set_getD (i := 10) (by decide) h), fun h => h12 (set_getD (i := 10) (by decide) h), fun h => h13 (set_getD (i := 10) (by decide) h), fun h => h14 (set_getD (i := 10) (by decide) h), fun h => (by obtain ⟨x2, x5, x8, x11, x14, x⟩ := h15 (set_getD (i := 10) (by decide) h); exact ⟨set_getD' x2, set_getD' x5, set_getD' x8, set_getD' x11, set_getD' x14, x⟩), fun h => (by obtain ⟨x2, x5, x8, x11, x14, x⟩ := h16 (set_getD (i := 10) (by decide) h); exact ⟨set_getD' x2, set_getD' x5, set_getD' x8, set_getD' x11, set_getD' x14, x⟩)⟩
    · have e10 := h10 (dep_of hi (d := 10) (by kernel_rfl))
      subst e10
      refine inv_step (by rfl) (fun K hK => ?_)
      go_simp
      (go_at_call 82; refine Calls.mono (cloneShs _ V.pops U (HP.out.below hS.bel) (by omega)) ?_; rintro e w1 ⟨v1, rfl, hgot, hb⟩)
      go_wp2_with fail
      have hk : ∀ m, W0.heap.size ≤ m → m < U.heap.size → w1.heap[m]? = U.heap[m]? := fun m _ h2 => hb.block m h2
      exact hK.out _ _ ⟨upPart f 11 (U.heap.size, _), _, _, _, _, _, _, _, _, _, _, _, _, _, _, _, _, rfl, hS.below hb, hIv.step (i := 11) hun (by decide) hb.size, fun h => h0 (set_getD (i := 11) (by decide) h), fun h => h1 (set_getD (i := 11) (by decide) h), fun h => (h2 (set_getD (i := 11) (by decide) h)).keep (hIv.old (set_getD (i := 11) (by decide) h) (by decide) hk), fun h => h3 (set_getD (i := 11) (by decide) h), fun h => h4 (set_getD (i := 11) (by decide) h), fun h => (h5 (set_getD (i := 11) (by decide) h)).keep (hIv.old (set_getD (i := 11) (by decide) h) (by decide) hk), fun h => h6 (set_getD (i := 11) (by decide) h), fun h => h7 (set_getD (i := 11) (by decide) h), fun h => (h8 (set_getD (i := 11) (by decide) h)).keep (hIv.old (set_getD (i := 11) (by decide) h) (by decide) hk), fun h => h9 (set_getD (i := 11) (by decide) h), fun _ => rfl, fun _ => rowIn_of hgot, fun h => h12 (set_getD (i := 11) (by decide) h), fun h => h13 (set_getD (i := 11) (by decide) h), fun h => (h14 (set_getD (i := 11) (by decide) h)).keep (hIv.old (set_getD (i := 11) (by decide) h) (by decide) hk), fun h => absurd ((h15 (set_getD (i := 11) (by decide) h)).2.2.2.1) (by rw [hun]; decide), fun h => absurd ((h16 (set_getD (i := 11) (by decide) h)).2.2.2.1) (by rw [hun]; decide)⟩
    · refine inv_step (by rfl) (fun K hK => ?_)
      go_simp
      exact hK.out _ _ ⟨upPart f 12 (U.heap.size, _), _, _, _, _, _, _, _, _, _, _, _, _, _, _, _, _, rfl, hS, hIv.step (i := 12) hun (by decide) (Nat.le_refl _), fun h => h0 (set_getD (i := 12) (by decide) h), fun h => h1 (set_getD (i := 12) (by decide) h), fun h => h2 (set_getD (i := 12) (by decide) h), fun h => h3 (set_getD (i := 12) (by decide) h), fun h => h4 (set_getD (i := 12) (by decide) h), fun h => h5 (set_getD (i := 12) (by decide) h), fun h => h6 (set_getD (i := 12) (by decide) h), fun h => h7 (set_getD (i := 12) (by decide) h), fun h => h8 (set_getD (i := 12) (by decide) h), fun h => h9 (set_getD (i := 12) (by decide) h), fun h => h10 (set_getD (i := 12) (by decide) h), fun h => h11 (set_getD (i := 12) (by decide) h), fun _ => rfl, fun h => h13 (set_getD (i := 12) (by decide) h), fun h => h14 (set_getD (i := 12) (by decide) h), fun h => (by obtain ⟨x2, x5, x8, x11, x14, x⟩ := h15 (set_getD (i := 12) (by decide) h); exact ⟨set_getD' x2, set_getD' x5, set_getD' x8, set_getD' x11, set_getD' x14, x⟩), fun h => (by obtain ⟨x2, x5, x8, x11, x14, x⟩ := h16 (set_getD (i := 12) (by decide) h); exact ⟨set_getD' x2, set_getD' x5, set_getD' x8, set_getD' x11, set_getD' x14, x⟩)⟩
    · have e12 := h12 (dep_of hi (d := 12) (by kernel_rfl))
      subst e12
      have pc : U.cell? ⟨w.heap.size, 4, none⟩ = some (.slice qa V.top.length qc) := hS.cell P4.out (by omega)
      refine inv_step (by rfl) (fun K hK => ?_)
      go_simp
      exact hK.out _ _ ⟨upPart f 13 (U.heap.size, _), _, _, _, _, _, _, _, _, _, _, _, _, _, _, _, _, rfl, hS, hIv.step (i := 13) hun (by decide) (Nat.le_refl _), fun h => h0 (set_getD (i := 13) (by decide) h), fun h => h1 (set_getD (i := 13) (by decide) h), fun h => h2 (set_getD (i := 13) (by decide) h), fun h => h3 (set_getD (i := 13) (by decide) h), fun h => h4 (set_getD (i := 13) (by decide) h), fun h => h5 (set_getD (i := 13) (by decide) h), fun h => h6 (set_getD (i := 13) (by decide) h), fun h => h7 (set_getD (i := 13) (by decide) h), fun h => h8 (set_getD (i := 13) (by decide) h), fun h => h9 (set_getD (i := 13) (by decide) h), fun h => h10 (set_getD (i := 13) (by decide) h), fun h => h11 (set_getD (i := 13) (by decide) h), fun _ => rfl, fun _ => rfl, fun h => h14 (set_getD (i := 13) (by decide) h), fun h => (by obtain ⟨x2, x5, x8, x11, x14, x⟩ := h15 (set_getD (i := 13) (by decide) h); exact ⟨set_getD' x2, set_getD' x5, set_getD' x8, set_getD' x11, set_getD' x14, x⟩), fun h => (by obtain ⟨x2, x5, x8, x11, x14, x⟩ := h16 (set_getD (i := 13) (by decide) h); exact ⟨set_getD' x2, set_getD' x5, set_getD' x8, set_getD' x11, set_getD' x14, x⟩)⟩
    · have e13 := h13 (dep_of hi (d := 13) (by kernel_rfl))
      subst e13
      refine inv_step (by rfl) (fun K hK => ?_)
      go_simp
      (go_at_call 81; refine Calls.mono (cloneInts _ V.top U (HQ.out.below hS.bel) (by omega)) ?_; rintro e w1 ⟨v1, rfl, hgot, hb⟩)
      go_wp2_with fail
      have hk : ∀ m, W0.heap.size ≤ m → m < U.heap.size → w1.heap[m]? = U.heap[m]? := fun m _ h2 => hb.block m h2
      exact hK.out _ _ ⟨upPart f 14 (U.heap.size, _), _, _, _, _, _, _, _, _, _, _, _, _, _, _, _, _, rfl, hS.below hb, hIv.step (i := 14) hun (by decide) hb.size, fun h => h0 (set_getD (i := 14) (by decide) h), fun h => h1 (set_getD (i := 14) (by decide) h), fun h => (h2 (set_getD (i := 14) (by decide) h)).keep (hIv.old (set_getD (i := 14) (by decide) h) (by decide) hk), fun h => h3 (set_getD (i := 14) (by decide) h), fun h => h4 (set_getD (i := 14) (by decide) h), fun h => (h5 (set_getD (i := 14) (by decide) h)).keep (hIv.old (set_getD (i := 14) (by decide) h) (by decide) hk), fun h => h6 (set_getD (i := 14) (by decide) h), fun h => h7 (set_getD (i := 14) (by decide) h), fun h => (h8 (set_getD (i := 14) (by decide) h)).keep (hIv.old (set_getD (i := 14) (by decide) h) (by decide) hk), fun h => h9 (set_getD (i := 14) (by decide) h), fun h => h10 (set_getD (i := 14) (by decide) h), fun h => (h11 (set_getD (i := 14) (by decide) h)).keep (hIv.old (set_getD (i := 14) (by decide) h) (by decide) hk), fun h => h12 (set_getD (i := 14) (by decide) h), fun _ => rfl, fun _ => rowIn_of hgot, fun h => absurd ((h15 (set_getD (i := 14) (by decide) h)).2.2.2.2.1) (by rw [hun]; decide), fun h => absurd ((h16 (set_getD (i := 14) (by decide) h)).2.2.2.2.1) (by rw [hun]; decide)⟩
    · have q2 := dep_of hi (d := 2) (by kernel_rfl)
      have q5 := dep_of hi (d := 5) (by kernel_rfl)
      have q8 := dep_of hi (d := 8) (by kernel_rfl)
      have q11 := dep_of hi (d := 11) (by kernel_rfl)
      have q14 := dep_of hi (d := 14) (by kernel_rfl)
      obtain ⟨a5, k5, rfl⟩ := (h2 q2).at.shape
      obtain ⟨a8, k8, rfl⟩ := ownsRow_shape (h5 q5).1
      obtain ⟨a11, k11, rfl⟩ := ownsRow_shape (h8 q8).1
      obtain ⟨a14, k14, rfl⟩ := ownsRow_shape (h11 q11).1
      obtain ⟨a17, k17, rfl⟩ := ownsRow_shape (h14 q14).1
      refine inv_step (by rfl) (fun K hK => ?_)
      go_simp
      exact hK.out _ _ ⟨upPart f 15 (U.heap.size, _), _, _, _, _, _, _, _, _, _, _, _, _, _, _, _, _, rfl, hS, hIv.step (i := 15) hun (by decide) (Nat.le_refl _), fun h => h0 (set_getD (i := 15) (by decide) h), fun h => h1 (set_getD (i := 15) (by decide) h), fun h => h2 (set_getD (i := 15) (by decide) h), fun h => h3 (set_getD (i := 15) (by decide) h), fun h => h4 (set_getD (i := 15) (by decide) h), fun h => h5 (set_getD (i := 15) (by decide) h), fun h => h6 (set_getD (i := 15) (by decide) h), fun h => h7 (set_getD (i := 15) (by decide) h), fun h => h8 (set_getD (i := 15) (by decide) h), fun h => h9 (set_getD (i := 15) (by decide) h), fun h => h10 (set_getD (i := 15) (by decide) h), fun h => h11 (set_getD (i := 15) (by decide) h), fun h => h12 (set_getD (i := 15) (by decide) h), fun h => h13 (set_getD (i := 15) (by decide) h), fun h => h14 (set_getD (i := 15) (by decide) h), fun _ => ⟨set_getD' q2, set_getD' q5, set_getD' q8, set_getD' q11, set_getD' q14, rfl⟩, fun h => (by obtain ⟨x2, x5, x8, x11, x14, x⟩ := h16 (set_getD (i := 15) (by decide) h); exact ⟨set_getD' x2, set_getD' x5, set_getD' x8, set_getD' x11, set_getD' x14, x⟩)⟩
    · have e15 := (h15 (dep_of hi (d := 15) (by kernel_rfl))).2.2.2.2.2
      subst e15
      have q2 := dep_of hi (d := 2) (by kernel_rfl)
      have q5 := dep_of hi (d := 5) (by kernel_rfl)
      have q8 := dep_of hi (d := 8) (by kernel_rfl)
      have q11 := dep_of hi (d := 11) (by kernel_rfl)
      have q14 := dep_of hi (d := 14) (by kernel_rfl)
      obtain ⟨a5, k5, rfl⟩ := (h2 q2).at.shape
      obtain ⟨a8, k8, rfl⟩ := ownsRow_shape (h5 q5).1
      obtain ⟨a11, k11, rfl⟩ := ownsRow_shape (h8 q8).1
      obtain ⟨a14, k14, rfl⟩ := ownsRow_shape (h11 q11).1
      obtain ⟨a17, k17, rfl⟩ := ownsRow_shape (h14 q14).1
      obtain ⟨u0, pc0, pf0⟩ := hS.c 0 (by decide)
      obtain ⟨u1, pc1, pf1⟩ := hS.c 1 (by decide)
      obtain ⟨u2, pc2, pf2⟩ := hS.c 2 (by decide)
      obtain ⟨u3, pc3, pf3⟩ := hS.c 3 (by decide)
      obtain ⟨u4, pc4, pf4⟩ := hS.c 4 (by decide)
      refine inv_step (by rfl) (fun K hK => ?_)
      go_simp
      have hk : ∀ m, W0.heap.size ≤ m → m < U.heap.size → (set5 U (w.heap.size + 1) (.slice a5 V.tree.length k5) (.slice a8 V.op.length k8) (.slice a11 V.modal.length k11) (.slice a14 V.pops.length k14) (.slice a17 V.top.length k17)).heap[m]? = U.heap[m]? := fun m h1 _ => set5_block (by omega)
      exact hK.out _ _ ⟨upPart f 16 (U.heap.size, _), _, _, _, _, _, _, _, _, _, _, _, _, _, _, _, _, rfl, hS.set (by omega) _ _ _ _ _, hIv.step (i := 16) hun (by decide) (Nat.le_of_eq (set5_size _ _ _ _ _ _ _).symm), fun h => h0 (set_getD (i := 16) (by decide) h), fun h => h1 (set_getD (i := 16) (by decide) h), fun h => (h2 (set_getD (i := 16) (by decide) h)).keep (hIv.old (set_getD (i := 16) (by decide) h) (by decide) hk), fun h => h3 (set_getD (i := 16) (by decide) h), fun h => h4 (set_getD (i := 16) (by decide) h), fun h => (h5 (set_getD (i := 16) (by decide) h)).keep (hIv.old (set_getD (i := 16) (by decide) h) (by decide) hk), fun h => h6 (set_getD (i := 16) (by decide) h), fun h => h7 (set_getD (i := 16) (by decide) h), fun h => (h8 (set_getD (i := 16) (by decide) h)).keep (hIv.old (set_getD (i := 16) (by decide) h) (by decide) hk), fun h => h9 (set_getD (i := 16) (by decide) h), fun h => h10 (set_getD (i := 16) (by decide) h), fun h => (h11 (set_getD (i := 16) (by decide) h)).keep (hIv.old (set_getD (i := 16) (by decide) h) (by decide) hk), fun h => h12 (set_getD (i := 16) (by decide) h), fun h => h13 (set_getD (i := 16) (by decide) h), fun h => (h14 (set_getD (i := 16) (by decide) h)).keep (hIv.old (set_getD (i := 16) (by decide) h) (by decide) hk), fun h => (by obtain ⟨x2, x5, x8, x11, x14, x⟩ := h15 (set_getD (i := 16) (by decide) h); exact ⟨set_getD' x2, set_getD' x5, set_getD' x8, set_getD' x11, set_getD' x14, x⟩), fun _ => ⟨set_getD' q2, set_getD' q5, set_getD' q8, set_getD' q11, set_getD' q14, set5_at hS.c⟩⟩
  · rintro l a U hall ⟨f, s3, s4, s5, s6, s7, s8, s9, s10, s11, s12, s13, s14, s15, s16, s17, s18, rfl, hS, hIv, h0, h1, h2, h3, h4, h5, h6, h7, h8, h9, h10, h11, h12, h13, h14, h15, h16⟩
    have e0 := h0 (hall 0 (by decide))
    have e1 := h1 (hall 1 (by decide))
    have e2 := h2 (hall 2 (by decide))
    have e3 := h3 (hall 3 (by decide))
    have e4 := h4 (hall 4 (by decide))
    have e5 := h5 (hall 5 (by decide))
    have e6 := h6 (hall 6 (by decide))
    have e7 := h7 (hall 7 (by decide))
    have e8 := h8 (hall 8 (by decide))
    have e9 := h9 (hall 9 (by decide))
    have e10 := h10 (hall 10 (by decide))
    have e11 := h11 (hall 11 (by decide))
    have e12 := h12 (hall 12 (by decide))
    have e13 := h13 (hall 13 (by decide))
    have e14 := h14 (hall 14 (by decide))
    have e15 := h15 (hall 15 (by decide))
    have e16 := h16 (hall 16 (by decide))
    have HIV := hideG (hIv.all hall)
    clear hIv hall h0 h1 h2 h3 h4 h5 h6 h7 h8 h9 h10 h11 h12 h13 h14 h15 h16
    subst e0
    subst e1
    subst e3
    subst e4
    subst e6
    subst e7
    subst e9
    subst e10
    subst e12
    subst e13
    have e15 := e15.2.2.2.2.2
    subst e15
    have e16 := e16.2.2.2.2.2
    obtain ⟨a5, k5, rfl⟩ := e2.at.shape
    obtain ⟨a8, k8, rfl⟩ := ownsRow_shape e5.1
    obtain ⟨a11, k11, rfl⟩ := ownsRow_shape e8.1
    obtain ⟨a14, k14, rfl⟩ := ownsRow_shape e11.1
    obtain ⟨a17, k17, rfl⟩ := ownsRow_shape e14.1
    have H2 := hideG e2
    have H5 := hideG e5
    have H8 := hideG e8
    have H11 := hideG e11
    have H14 := hideG e14
    have HB := hideG hS.bel
    obtain ⟨r0, r1, r2, r3, r4⟩ := e16
    clear e2 e5 e8 e11 e14 hS
    go_wp2_with fail
    refine bodyPost_ret (v := .agg #[.slice a5 V.tree.length k5, .slice a8 V.op.length k8, .slice a11 V.modal.length k11, .slice a14 V.pops.length k14, .slice a17 V.top.length k17]) (by simp [results, Tryz.f27, go_sem, r0, r1, r2, r3, r4]) rfl ?_
    refine ⟨fun i => f (3 * i + 2), _, _, _, _, _, rfl, ⟨⟨fun i hi => ?_, fun i j hi hj hne => HIV.out.dis (3 * i + 2) (3 * j + 2) (by omega) (by omega) (by omega)⟩, H2.out, H5.out, H8.out, H11.out, H14.out⟩, HB.out⟩
    have := HIV.out.le (3 * i + 2) (by omega)
    exact ⟨by omega, this.2.1, this.2.2⟩
end Go.Proofs.YtclhimodopgeoaaGreat

namespace Go.Proofs.YtclhimodopgeoaaGreat
open Go.RowKit

structure OwnB (w : World) (base : Nat) (Bad : Nat → Prop) (f : Nat → Nat × Nat) (tv ov mv pv qv : Value) (V : Vw) : Prop where
  own : OwnV w base f tv ov mv pv qv V
  off : ∀ i, i < 5 → ∀ j, (f i).1 ≤ j → j < (f i).2 → ¬ Bad j
  bad : ∀ j, Bad j → j < w.heap.size
section
variable {w w1 w4 W : World} {base : Nat} {Bad : Nat → Prop} {f : Nat → Nat × Nat} {tv ov mv pv qv : Value} {V : Vw}
theorem OwnV.keepP (h : OwnV w base f tv ov mv pv qv V) (hs : w.heap.size ≤ W.heap.size) (hk : ∀ i, i < 5 → ∀ j, (f i).1 ≤ j → j < (f i).2 → W.heap[j]? = w.heap[j]?) : OwnV W base f tv ov mv pv qv V :=
  ⟨⟨fun i hi => by have := h.parts.le i hi; omega, h.parts.dis⟩, h.tree.keep (hk 0 (by omega)), h.op.keep (hk 1 (by omega)), h.modal.keep (hk 2 (by omega)), h.pops.keep (hk 3 (by omega)), h.top.keep (hk 4 (by omega))⟩
theorem OwnB.keep (h : OwnB w base Bad f tv ov mv pv qv V) (hs : w.heap.size ≤ W.heap.size) (hk : ∀ j, j < w.heap.size → ¬ Bad j → W.heap[j]? = w.heap[j]?) : OwnB W base Bad f tv ov mv pv qv V :=
  ⟨h.own.keepP hs (fun i hi j h1 h2 => hk j (by have := h.own.parts.le i hi; omega) (h.off i hi j h1 h2)), h.off, fun j hj => by have := h.bad j hj; omega⟩
theorem OwnB.at (h : OwnB w base Bad f tv ov mv pv qv V) : ViewAt w tv ov mv pv qv V := h.own.at
theorem OwnV.offB (h : OwnV w base f tv ov mv pv qv V) (hb : Below w.heap.size w W) (hB : ∀ j, Bad j → j < W.heap.size ∧ (j < base ∨ w.heap.size ≤ j)) : OwnB W base Bad f tv ov mv pv qv V :=
  ⟨h.below hb, fun i hi j h1 h2 hbad => by have := h.parts.le i hi; have := (hB j hbad).2; omega, fun j hj => (hB j hj).1⟩
theorem app_off {i : Nat} (hi : i < 5) {p : Nat × Nat} (h : OwnB w base Bad f tv ov mv pv qv V) (hb : Below w.heap.size w w1)
    (hp : p = f i ∨ p = (w1.heap.size, w4.heap.size)) : ∀ k, k < 5 → ∀ j, (upPart f i p k).1 ≤ j → j < (upPart f i p k).2 → ¬ Bad j := by
  intro k hk j h1 h2 hbad
  have hlt := h.bad j hbad
  unfold upPart at h1 h2
  by_cases q : k = i
  · rw [if_pos q] at h1 h2
    rcases hp with rfl | rfl
    · exact h.off i hi j h1 h2 hbad
    · have := hb.size
      have h1' : w1.heap.size ≤ j := h1
      omega
  · rw [if_neg q] at h1 h2
    exact h.off k hk j h1 h2 hbad
/-- A list that has grown by append, with where it lies. -/
theorem app_part' {i : Nat} (hi : i < 5) {e : TypeId} {sz : Nat} {v v4 : Value} {n : Nat} {xs xs' : List Value} (hp : Parts f 5 base w.heap.size) (hr : RowIn w (f i) e sz v n xs)
    (hb : Below w.heap.size w w1) (ho4 : w4.ownsRow (f i).1 e sz v4 (n + 1) xs') (hg : w1.grownBy w4 v.ownBlock) (hf : ∀ k, v4.ownBlock = some k → v.ownBlock = some k ∨ w1.heap.size ≤ k) :
    ∃ p, (p = f i ∨ p = (w1.heap.size, w4.heap.size)) ∧ RowIn w4 p e sz v4 (n + 1) xs' ∧ Parts (upPart f i p) 5 base w4.heap.size ∧ (∀ k, k < 5 → k ≠ i → ∀ j, (f k).1 ≤ j → j < (f k).2 → w4.heap[j]? = w.heap[j]?) := by
  have hs := hb.size
  have hs4 := hg.size
  have hle := hp.le i hi
  have hkeep : ∀ k, k < 5 → k ≠ i → ∀ j, (f k).1 ≤ j → j < (f k).2 → w4.heap[j]? = w.heap[j]? := fun k hk hne j h1 h2 => by
    have hk' := hp.le k hk
    refine (hg.block j (by omega) (fun e => ?_)).trans (hb.block j (by omega))
    have h3 := (hr.1.lt j e.symm).1
    have h4 := hr.2 j e.symm
    rcases hp.dis k i hk hi hne with h | h <;> omega
  have hfin : ∀ p : Nat × Nat, base ≤ p.1 → p.1 ≤ p.2 → p.2 ≤ w4.heap.size → (∀ k, k < 5 → k ≠ i → DisI p (f k)) → Parts (upPart f i p) 5 base w4.heap.size := fun p h1 h2 h3 hd => ⟨fun k hk => by
    unfold upPart
    by_cases q : k = i
    · rw [if_pos q]; exact ⟨h1, h2, h3⟩
    · rw [if_neg q]; have := hp.le k hk; omega, fun k m hk hm hne => by
    unfold upPart
    by_cases q : k = i
    · rw [if_pos q, if_neg (by omega)]; exact hd m hm (by omega)
    · by_cases q2 : m = i
      · rw [if_neg q, if_pos q2]; exact (hd k hk q).symm
      · rw [if_neg q, if_neg q2]; exact hp.dis k m hk hm hne⟩
  cases hv : v4.ownBlock with
  | none => exact ⟨f i, .inl rfl, ⟨ho4, fun k h => by rw [hv] at h; cases h⟩, hfin _ hle.1 hle.2.1 (by omega) (fun k hk hne => hp.dis i k hi hk (by omega)), hkeep⟩
  | some k =>
    rcases hf k hv with h | h
    · exact ⟨f i, .inl rfl, ⟨ho4, fun m hm => by rw [hv] at hm; cases hm; exact hr.2 k h⟩, hfin _ hle.1 hle.2.1 (by omega) (fun k hk hne => hp.dis i k hi hk (by omega)), hkeep⟩
    · refine ⟨(w1.heap.size, w4.heap.size), .inr rfl, ⟨ownsRow_rebase ho4 (fun m hm => by rw [hv] at hm; cases hm; exact h), fun m hm => (ho4.lt m hm).2⟩, hfin (w1.heap.size, w4.heap.size) (by show base ≤ w1.heap.size; omega) hs4 (Nat.le_refl _) (fun k hk hne => ?_), hkeep⟩
      have := hp.le k hk
      exact .inr (by show (f k).2 ≤ w1.heap.size; omega)
theorem OwnB.appOp {v4 : Value} {n : Int} (h : OwnB w base Bad f tv ov mv pv qv V) (hb : Below w.heap.size w w1)
    (ho4 : w4.ownsRow (f 1).1 3 1 v4 (V.op.length + 1) (intCells (V.op ++ [n]))) (hg : w1.grownBy w4 ov.ownBlock) (hf : ∀ k, v4.ownBlock = some k → ov.ownBlock = some k ∨ w1.heap.size ≤ k) :
    ∃ g, OwnB w4 base Bad g tv v4 mv pv qv { V with op := V.op ++ [n] } := by
  obtain ⟨p, hp, hr, hP, hk⟩ := app_part' (i := 1) (by omega) h.own.parts h.own.op hb ho4 hg hf
  have hs := Nat.le_trans hb.size hg.size
  refine ⟨upPart f 1 p, ⟨hP, h.own.tree.keep (hk 0 (by omega) (by omega)), ?_, h.own.modal.keep (hk 2 (by omega) (by omega)), h.own.pops.keep (hk 3 (by omega) (by omega)), h.own.top.keep (hk 4 (by omega) (by omega))⟩, app_off (by omega) h hb hp, fun j hj => by have := h.bad j hj; omega⟩
  show RowIn w4 p 3 1 v4 (V.op ++ [n]).length _
  rw [List.length_append]; exact hr
theorem OwnB.appModal {v4 : Value} {n : Int} (h : OwnB w base Bad f tv ov mv pv qv V) (hb : Below w.heap.size w w1)
    (ho4 : w4.ownsRow (f 2).1 3 1 v4 (V.modal.length + 1) (intCells (V.modal ++ [n]))) (hg : w1.grownBy w4 mv.ownBlock) (hf : ∀ k, v4.ownBlock = some k → mv.ownBlock = some k ∨ w1.heap.size ≤ k) :
    ∃ g, OwnB w4 base Bad g tv ov v4 pv qv { V with modal := V.modal ++ [n] } := by
  obtain ⟨p, hp, hr, hP, hk⟩ := app_part' (i := 2) (by omega) h.own.parts h.own.modal hb ho4 hg hf
  have hs := Nat.le_trans hb.size hg.size
  refine ⟨upPart f 2 p, ⟨hP, h.own.tree.keep (hk 0 (by omega) (by omega)), h.own.op.keep (hk 1 (by omega) (by omega)), ?_, h.own.pops.keep (hk 3 (by omega) (by omega)), h.own.top.keep (hk 4 (by omega) (by omega))⟩, app_off (by omega) h hb hp, fun j hj => by have := h.bad j hj; omega⟩
  show RowIn w4 p 3 1 v4 (V.modal ++ [n]).length _
  rw [List.length_append]; exact hr
theorem OwnB.appPops {v4 : Value} {x : Sh} (h : OwnB w base Bad f tv ov mv pv qv V) (hb : Below w.heap.size w w1)
    (ho4 : w4.ownsRow (f 3).1 39 2 v4 (V.pops.length + 1) (shCells (V.pops ++ [x]))) (hg : w1.grownBy w4 pv.ownBlock) (hf : ∀ k, v4.ownBlock = some k → pv.ownBlock = some k ∨ w1.heap.size ≤ k) :
    ∃ g, OwnB w4 base Bad g tv ov mv v4 qv { V with pops := V.pops ++ [x] } := by
  obtain ⟨p, hp, hr, hP, hk⟩ := app_part' (i := 3) (by omega) h.own.parts h.own.pops hb ho4 hg hf
  have hs := Nat.le_trans hb.size hg.size
  refine ⟨upPart f 3 p, ⟨hP, h.own.tree.keep (hk 0 (by omega) (by omega)), h.own.op.keep (hk 1 (by omega) (by omega)), h.own.modal.keep (hk 2 (by omega) (by omega)), ?_, h.own.top.keep (hk 4 (by omega) (by omega))⟩, app_off (by omega) h hb hp, fun j hj => by have := h.bad j hj; omega⟩
  show RowIn w4 p 39 2 v4 (V.pops ++ [x]).length _
  rw [List.length_append]; exact hr
theorem OwnB.appTop {v4 : Value} {n : Int} (h : OwnB w base Bad f tv ov mv pv qv V) (hb : Below w.heap.size w w1)
    (ho4 : w4.ownsRow (f 4).1 3 1 v4 (V.top.length + 1) (intCells (V.top ++ [n]))) (hg : w1.grownBy w4 qv.ownBlock) (hf : ∀ k, v4.ownBlock = some k → qv.ownBlock = some k ∨ w1.heap.size ≤ k) :
    ∃ g, OwnB w4 base Bad g tv ov mv pv v4 { V with top := V.top ++ [n] } := by
  obtain ⟨p, hp, hr, hP, hk⟩ := app_part' (i := 4) (by omega) h.own.parts h.own.top hb ho4 hg hf
  have hs := Nat.le_trans hb.size hg.size
  refine ⟨upPart f 4 p, ⟨hP, h.own.tree.keep (hk 0 (by omega) (by omega)), h.own.op.keep (hk 1 (by omega) (by omega)), h.own.modal.keep (hk 2 (by omega) (by omega)), h.own.pops.keep (hk 3 (by omega) (by omega)), ?_⟩, app_off (by omega) h hb hp, fun j hj => by have := h.bad j hj; omega⟩
  show RowIn w4 p 3 1 v4 (V.top ++ [n]).length _
  rw [List.length_append]; exact hr
/-- The cells of a block that is bad for the view lie as they lay when a list of it grows. -/
theorem OwnB.badCell {v : Value} {e : TypeId} {sz : Nat} {xs : List Value} {i n : Nat} {b o : Nat} {u : Value} (h : OwnB w base Bad f tv ov mv pv qv V) (hi : i < 5) (hr : RowIn w (f i) e sz v n xs) (hb : Below w.heap.size w w1) (hg : w1.grownBy w4 v.ownBlock) (hB : Bad b) (hc : w.cell? ⟨b, o, none⟩ = some u) :
    w4.cell? ⟨b, o, none⟩ = some u := by
  have hlt := h.bad b hB
  have hs := hb.size
  refine (World.cell?_of_block (a := ⟨b, o, none⟩) (hg.block b (by omega) (fun e => ?_))).trans (cell_below hb hc)
  exact h.off i hi b (hr.1.lt b e.symm).1 (hr.2 b e.symm) hB
theorem OwnB.badFrozen {v : Value} {e : TypeId} {sz : Nat} {xs : List Value} {i n : Nat} {b o : Nat} {u : Value} (h : OwnB w base Bad f tv ov mv pv qv V) (hi : i < 5) (hr : RowIn w (f i) e sz v n xs) (hb : Below w.heap.size w w1) (hg : w1.grownBy w4 v.ownBlock) (hB : Bad b) (hc : w.cell? ⟨b, o, none⟩ = some u) (hf : w.frozen? ⟨b, o, none⟩ = false) :
    w4.frozen? ⟨b, o, none⟩ = false := by
  have hlt := h.bad b hB
  have hs := hb.size
  refine (World.frozen?_of_block (a := ⟨b, o, none⟩) (hg.block b (by omega) (fun e => ?_))).trans (frozen_below hb hc hf)
  exact h.off i hi b (hr.1.lt b e.symm).1 (hr.2 b e.symm) hB
end
end Go.Proofs.YtclhimodopgeoaaGreat

namespace Go.Proofs.YtclhimodopgeoaaGreat
open Go.RowKit

def emptyV : Vw := ⟨[], [], [], [], []⟩
theorem emptyV_at (w : World) : ViewAt w (.slice none 0 0) (.slice none 0 0) (.slice none 0 0) (.slice none 0 0) (.slice none 0 0) emptyV :=
  ⟨treeAt_nilS, ints_none w, ints_none w, shs_none w, ints_none w⟩
theorem set_otherB {w : World} {b b' i j : Nat} {u v : Value} (c : w.cell? ⟨b, i, none⟩ = some u) (h : b' ≠ b) : (w.setCell ⟨b', j, none⟩ v).cell? ⟨b, i, none⟩ = some u :=
  (World.cell?_of_block (a := ⟨b, i, none⟩) (heap_setCell_other w ⟨b', j, none⟩ b v (by first | exact h | exact h.symm))).trans c
theorem setc_block {X : World} {b o m : Nat} {v : Value} (h : m ≠ b) : (X.setCell ⟨b, o, none⟩ v).heap[m]? = X.heap[m]? := heap_setCell_other X ⟨b, o, none⟩ m v (by first | exact h | exact h.symm)

set_option maxRecDepth 100000 in
set_option maxHeartbeats 4000000 in
theorem dlgBad (tv ov mv pv qv : Value) (V : Vw) (w : World) (hV : ViewAt w tv ov mv pv qv V) (hS : Sane V.tree) (hl : smallL V) (n : Int) (m : Bool) (hne : checkV V ≠ 0) :
    Calls Tryz.prog 29 #[.agg #[tv, ov, mv, pv, qv], .int .i64 n, .bool m] w fun x w' => ∃ t o m p q, x = .returned (.tuple #[.agg #[t, o, m, p, q], .int .i64 (checkV V)]) ∧ ViewAt w' t o m p q emptyV ∧ Below w.heap.size w w' := by
  obtain ⟨hT, hO, hM, hP, hQ⟩ := hV
  obtain ⟨ta, tc, rfl⟩ := hT.shape
  obtain ⟨oa, oc, rfl⟩ := hO.shape
  obtain ⟨ma, mc, rfl⟩ := hM.shape
  obtain ⟨pa, pc, rfl⟩ := hP.shape
  obtain ⟨qa, qc, rfl⟩ := hQ.shape
  obtain ⟨W0, hW0⟩ : ∃ W0, (w.alloc (.cells #[.slice ta V.tree.length tc, .slice oa V.op.length oc, .slice ma V.modal.length mc, .slice pa V.pops.length pc, .slice qa V.top.length qc] 27)).alloc (.cells #[.slice none 0 0, .slice none 0 0, .slice none 0 0, .slice none 0 0, .slice none 0 0] 27) = W0 := ⟨_, rfl⟩
  have hbw : Below w.heap.size w W0 := by rw [← hW0]; exact ((Below.refl _ w).alloc (Nat.le_refl _) _).alloc (by simp) _
  have HB0 := hideG hbw
  have P0 := hideG (show W0.cell? ⟨w.heap.size, 0, none⟩ = some (.slice ta V.tree.length tc) by rw [← hW0]; exact cell_alloc_l _ (by simp))
  have P1 := hideG (show W0.cell? ⟨w.heap.size, 1, none⟩ = some (.slice oa V.op.length oc) by rw [← hW0]; exact cell_alloc_l _ (by simp))
  have P2 := hideG (show W0.cell? ⟨w.heap.size, 2, none⟩ = some (.slice ma V.modal.length mc) by rw [← hW0]; exact cell_alloc_l _ (by simp))
  have P3 := hideG (show W0.cell? ⟨w.heap.size, 3, none⟩ = some (.slice pa V.pops.length pc) by rw [← hW0]; exact cell_alloc_l _ (by simp))
  have P4 := hideG (show W0.cell? ⟨w.heap.size, 4, none⟩ = some (.slice qa V.top.length qc) by rw [← hW0]; exact cell_alloc_l _ (by simp))
  have HR := hideG (show ∀ j, j < 5 → ∃ u, W0.cell? ⟨w.heap.size + 1, j, none⟩ = some u ∧ W0.frozen? ⟨w.heap.size + 1, j, none⟩ = false from by
    have h1 := World.alloc_heap_new (w.alloc (.cells #[.slice ta V.tree.length tc, .slice oa V.op.length oc, .slice ma V.modal.length mc, .slice pa V.pops.length pc, .slice qa V.top.length qc] 27)) (.cells #[.slice none 0 0, .slice none 0 0, .slice none 0 0, .slice none 0 0, .slice none 0 0] 27)
    rw [World.size_alloc, hW0] at h1
    intro j hj
    obtain rfl | rfl | rfl | rfl | rfl : j = 0 ∨ j = 1 ∨ j = 2 ∨ j = 3 ∨ j = 4 := by omega
    all_goals exact ⟨.slice none 0 0, by simp [World.cell?, h1], by simp [World.frozen?, h1]⟩)
  have hs0 : W0.heap.size = w.heap.size + 2 := by rw [← hW0]; simp
  have HS0 := hideG hs0
  have HV := hideG (show ViewAt w _ _ _ _ _ V from ⟨hT, hO, hM, hP, hQ⟩)
  have HV0 := hideG (HV.out.below hbw)
  have HW0 := hideG hW0
  have HS := hideG hS
  have HL := hideG hl
  have HC := hideG (checkV_any _ _ _ _ _ V W0 HV0.out HS.out HL.out)
  have h1l : V.op.length ≤ 500 := hl.1
  have h2l : V.modal.length ≤ 500 := hl.2.1
  have h3l : V.pops.length ≤ 500 := hl.2.2.1
  have h4l : V.top.length ≤ 1000 := hl.2.2.2
  have p0 := P0.out
  have p1 := P1.out
  have p2 := P2.out
  have p3 := P3.out
  have p4 := P4.out
  clear hW0 hT hO hM hP hQ hS hl hbw hs0
  have hcd := check_bad hne
  generalize checkV V = c at *
  clear hne
  go_enter Tryz.func29, Tryz.ntmps29
  go_wp2_with fail
  rw [HW0.out]
  refine HC.out.mono ?_
  rintro ex w1 ⟨rfl, hb1⟩
  have HX1 := hideG hb1
  clear hb1 p0 p1 p2 p3 p4
  have p0 := cell_below HX1.out P0.out
  have p1 := cell_below HX1.out P1.out
  have p2 := cell_below HX1.out P2.out
  have p3 := cell_below HX1.out P3.out
  have p4 := cell_below HX1.out P4.out
  have hwb : w.heap.size < w1.heap.size := below_of_cell p0
  have HRk := hideG (show ∀ j, j < 5 → ∃ u, w1.cell? ⟨w.heap.size + 1, j, none⟩ = some u ∧ w1.frozen? ⟨w.heap.size + 1, j, none⟩ = false from fun j hj => let ⟨u, h1, h2⟩ := HR.out j hj; ⟨u, cell_below HX1.out h1, frozen_below HX1.out h1 h2⟩)
  obtain ⟨u0, rc0, rf0⟩ := HRk.out 0 (by decide)
  obtain ⟨u1, rc1, rf1⟩ := HRk.out 1 (by decide)
  obtain ⟨u2, rc2, rf2⟩ := HRk.out 2 (by decide)
  obtain ⟨u3, rc3, rf3⟩ := HRk.out 3 (by decide)
  obtain ⟨u4, rc4, rf4⟩ := HRk.out 4 (by decide)
  have HB := hideG (HB0.out.trans (HX1.out.mono HB0.out.size))
  rcases hcd with rfl | rfl
  · go_wp2_with fail
    have hat := set5_at (U := w1) (R := w.heap.size + 1) (v0 := .slice none 0 0) (v1 := .slice none 0 0) (v2 := .slice none 0 0) (v3 := .slice none 0 0) (v4 := .slice none 0 0) HRk.out
    unfold set5 at hat
    obtain ⟨t0, t1, t2, t3, t4⟩ := hat
    refine bodyPost_ret (v := .tuple #[.agg #[.slice none 0 0, .slice none 0 0, .slice none 0 0, .slice none 0 0, .slice none 0 0], .int .i64 (1)]) (by simp [results, Tryz.f29, go_sem, t0, t1, t2, t3, t4]) rfl ?_
    refine ⟨_, _, _, _, _, rfl, ?_, set5_below HB.out (by omega)⟩
    exact emptyV_at _
  · go_wp2_with fail
    have hat := set5_at (U := w1) (R := w.heap.size + 1) (v0 := .slice none 0 0) (v1 := .slice none 0 0) (v2 := .slice none 0 0) (v3 := .slice none 0 0) (v4 := .slice none 0 0) HRk.out
    unfold set5 at hat
    obtain ⟨t0, t1, t2, t3, t4⟩ := hat
    refine bodyPost_ret (v := .tuple #[.agg #[.slice none 0 0, .slice none 0 0, .slice none 0 0, .slice none 0 0, .slice none 0 0], .int .i64 (9)]) (by simp [results, Tryz.f29, go_sem, t0, t1, t2, t3, t4]) rfl ?_
    refine ⟨_, _, _, _, _, rfl, ?_, set5_below HB.out (by omega)⟩
    exact emptyV_at _

set_option maxRecDepth 100000 in
set_option maxHeartbeats 4000000 in
theorem dlgNode (tv ov mv pv qv : Value) (V : Vw) (w : World) (hV : ViewAt w tv ov mv pv qv V) (hS : Sane V.tree) (hl : smallL V) (n : Int) (m : Bool) (hck : checkV V = 0) (hn : isNodeB V.tree.length n = false) :
    Calls Tryz.prog 29 #[.agg #[tv, ov, mv, pv, qv], .int .i64 n, .bool m] w fun x w' => ∃ t o m p q, x = .returned (.tuple #[.agg #[t, o, m, p, q], .int .i64 (2)]) ∧ ViewAt w' t o m p q V ∧ Below w.heap.size w w' := by
  obtain ⟨hT, hO, hM, hP, hQ⟩ := hV
  obtain ⟨ta, tc, rfl⟩ := hT.shape
  obtain ⟨oa, oc, rfl⟩ := hO.shape
  obtain ⟨ma, mc, rfl⟩ := hM.shape
  obtain ⟨pa, pc, rfl⟩ := hP.shape
  obtain ⟨qa, qc, rfl⟩ := hQ.shape
  obtain ⟨W0, hW0⟩ : ∃ W0, (w.alloc (.cells #[.slice ta V.tree.length tc, .slice oa V.op.length oc, .slice ma V.modal.length mc, .slice pa V.pops.length pc, .slice qa V.top.length qc] 27)).alloc (.cells #[.slice none 0 0, .slice none 0 0, .slice none 0 0, .slice none 0 0, .slice none 0 0] 27) = W0 := ⟨_, rfl⟩
  have hbw : Below w.heap.size w W0 := by rw [← hW0]; exact ((Below.refl _ w).alloc (Nat.le_refl _) _).alloc (by simp) _
  have HB0 := hideG hbw
  have P0 := hideG (show W0.cell? ⟨w.heap.size, 0, none⟩ = some (.slice ta V.tree.length tc) by rw [← hW0]; exact cell_alloc_l _ (by simp))
  have P1 := hideG (show W0.cell? ⟨w.heap.size, 1, none⟩ = some (.slice oa V.op.length oc) by rw [← hW0]; exact cell_alloc_l _ (by simp))
  have P2 := hideG (show W0.cell? ⟨w.heap.size, 2, none⟩ = some (.slice ma V.modal.length mc) by rw [← hW0]; exact cell_alloc_l _ (by simp))
  have P3 := hideG (show W0.cell? ⟨w.heap.size, 3, none⟩ = some (.slice pa V.pops.length pc) by rw [← hW0]; exact cell_alloc_l _ (by simp))
  have P4 := hideG (show W0.cell? ⟨w.heap.size, 4, none⟩ = some (.slice qa V.top.length qc) by rw [← hW0]; exact cell_alloc_l _ (by simp))
  have HR := hideG (show ∀ j, j < 5 → ∃ u, W0.cell? ⟨w.heap.size + 1, j, none⟩ = some u ∧ W0.frozen? ⟨w.heap.size + 1, j, none⟩ = false from by
    have h1 := World.alloc_heap_new (w.alloc (.cells #[.slice ta V.tree.length tc, .slice oa V.op.length oc, .slice ma V.modal.length mc, .slice pa V.pops.length pc, .slice qa V.top.length qc] 27)) (.cells #[.slice none 0 0, .slice none 0 0, .slice none 0 0, .slice none 0 0, .slice none 0 0] 27)
    rw [World.size_alloc, hW0] at h1
    intro j hj
    obtain rfl | rfl | rfl | rfl | rfl : j = 0 ∨ j = 1 ∨ j = 2 ∨ j = 3 ∨ j = 4 := by omega
    all_goals exact ⟨.slice none 0 0, by simp [World.cell?, h1], by simp [World.frozen?, h1]⟩)
  have hs0 : W0.heap.size = w.heap.size + 2 := by rw [← hW0]; simp
  have HS0 := hideG hs0
  have HV := hideG (show ViewAt w _ _ _ _ _ V from ⟨hT, hO, hM, hP, hQ⟩)
  have HV0 := hideG (HV.out.below hbw)
  have HW0 := hideG hW0
  have HS := hideG hS
  have HL := hideG hl
  have HC := hideG (checkV_any _ _ _ _ _ V W0 HV0.out HS.out HL.out)
  have h1l : V.op.length ≤ 500 := hl.1
  have h2l : V.modal.length ≤ 500 := hl.2.1
  have h3l : V.pops.length ≤ 500 := hl.2.2.1
  have h4l : V.top.length ≤ 1000 := hl.2.2.2
  have p0 := P0.out
  have p1 := P1.out
  have p2 := P2.out
  have p3 := P3.out
  have p4 := P4.out
  have HM := hideG (show mayB V.tree = true from check_may hck)
  rw [hck] at HC
  clear hW0 hT hO hM hP hQ hS hl hbw hs0 hck
  have HN := hideG hn
  clear hn
  go_enter Tryz.func29, Tryz.ntmps29
  go_wp2_with fail
  rw [HW0.out]
  refine HC.out.mono ?_
  rintro ex w1 ⟨rfl, hb1⟩
  have HX1 := hideG hb1
  clear hb1 p0 p1 p2 p3 p4
  have p0 := cell_below HX1.out P0.out
  have p1 := cell_below HX1.out P1.out
  have p2 := cell_below HX1.out P2.out
  have p3 := cell_below HX1.out P3.out
  have p4 := cell_below HX1.out P4.out
  have hwb : w.heap.size < w1.heap.size := below_of_cell p0
  have HRk := hideG (show ∀ j, j < 5 → ∃ u, w1.cell? ⟨w.heap.size + 1, j, none⟩ = some u ∧ w1.frozen? ⟨w.heap.size + 1, j, none⟩ = false from fun j hj => let ⟨u, h1, h2⟩ := HR.out j hj; ⟨u, cell_below HX1.out h1, frozen_below HX1.out h1 h2⟩)
  obtain ⟨u0, rc0, rf0⟩ := HRk.out 0 (by decide)
  obtain ⟨u1, rc1, rf1⟩ := HRk.out 1 (by decide)
  obtain ⟨u2, rc2, rf2⟩ := HRk.out 2 (by decide)
  obtain ⟨u3, rc3, rf3⟩ := HRk.out 3 (by decide)
  obtain ⟨u4, rc4, rf4⟩ := HRk.out 4 (by decide)
  go_wp2_with (go_at_call 83; refine (isNode10_any _ _ _ _ _).mono ?_; rintro e wz ⟨rfl, hwz⟩; obtain rfl : _ = wz := hwz.symm; rw [HN.out])
  have HB := hideG (HB0.out.trans (HX1.out.mono HB0.out.size))
  have hat := set5_at (U := w1) (R := w.heap.size + 1) (v0 := .slice ta V.tree.length tc) (v1 := .slice oa V.op.length oc) (v2 := .slice ma V.modal.length mc) (v3 := .slice pa V.pops.length pc) (v4 := .slice qa V.top.length qc) HRk.out
  unfold set5 at hat
  obtain ⟨t0, t1, t2, t3, t4⟩ := hat
  refine bodyPost_ret (v := .tuple #[.agg #[.slice ta V.tree.length tc, .slice oa V.op.length oc, .slice ma V.modal.length mc, .slice pa V.pops.length pc, .slice qa V.top.length qc], .int .i64 (2)]) (by simp [results, Tryz.f29, go_sem, t0, t1, t2, t3, t4]) rfl ?_
  refine ⟨_, _, _, _, _, rfl, ?_, set5_below HB.out (by omega)⟩
  exact HV.out.below (set5_below HB.out (by omega))

set_option maxRecDepth 100000 in
set_option maxHeartbeats 4000000 in
theorem dlgKind (tv ov mv pv qv : Value) (V : Vw) (w : World) (hV : ViewAt w tv ov mv pv qv V) (hS : Sane V.tree) (hl : smallL V) (n : Int) (m : Bool) (hck : checkV V = 0) (hn : isNodeB V.tree.length n = true) (hd : dlgB V.tree n = false) :
    Calls Tryz.prog 29 #[.agg #[tv, ov, mv, pv, qv], .int .i64 n, .bool m] w fun x w' => ∃ t o m p q, x = .returned (.tuple #[.agg #[t, o, m, p, q], .int .i64 (3)]) ∧ ViewAt w' t o m p q V ∧ Below w.heap.size w w' := by
  obtain ⟨hT, hO, hM, hP, hQ⟩ := hV
  obtain ⟨ta, tc, rfl⟩ := hT.shape
  obtain ⟨oa, oc, rfl⟩ := hO.shape
  obtain ⟨ma, mc, rfl⟩ := hM.shape
  obtain ⟨pa, pc, rfl⟩ := hP.shape
  obtain ⟨qa, qc, rfl⟩ := hQ.shape
  obtain ⟨W0, hW0⟩ : ∃ W0, (w.alloc (.cells #[.slice ta V.tree.length tc, .slice oa V.op.length oc, .slice ma V.modal.length mc, .slice pa V.pops.length pc, .slice qa V.top.length qc] 27)).alloc (.cells #[.slice none 0 0, .slice none 0 0, .slice none 0 0, .slice none 0 0, .slice none 0 0] 27) = W0 := ⟨_, rfl⟩
  have hbw : Below w.heap.size w W0 := by rw [← hW0]; exact ((Below.refl _ w).alloc (Nat.le_refl _) _).alloc (by simp) _
  have HB0 := hideG hbw
  have P0 := hideG (show W0.cell? ⟨w.heap.size, 0, none⟩ = some (.slice ta V.tree.length tc) by rw [← hW0]; exact cell_alloc_l _ (by simp))
  have P1 := hideG (show W0.cell? ⟨w.heap.size, 1, none⟩ = some (.slice oa V.op.length oc) by rw [← hW0]; exact cell_alloc_l _ (by simp))
  have P2 := hideG (show W0.cell? ⟨w.heap.size, 2, none⟩ = some (.slice ma V.modal.length mc) by rw [← hW0]; exact cell_alloc_l _ (by simp))
  have P3 := hideG (show W0.cell? ⟨w.heap.size, 3, none⟩ = some (.slice pa V.pops.length pc) by rw [← hW0]; exact cell_alloc_l _ (by simp))
  have P4 := hideG (show W0.cell? ⟨w.heap.size, 4, none⟩ = some (.slice qa V.top.length qc) by rw [← hW0]; exact cell_alloc_l _ (by simp))
  have HR := hideG (show ∀ j, j < 5 → ∃ u, W0.cell? ⟨w.heap.size + 1, j, none⟩ = some u ∧ W0.frozen? ⟨w.heap.size + 1, j, none⟩ = false from by
    have h1 := World.alloc_heap_new (w.alloc (.cells #[.slice ta V.tree.length tc, .slice oa V.op.length oc, .slice ma V.modal.length mc, .slice pa V.pops.length pc, .slice qa V.top.length qc] 27)) (.cells #[.slice none 0 0, .slice none 0 0, .slice none 0 0, .slice none 0 0, .slice none 0 0] 27)
    rw [World.size_alloc, hW0] at h1
    intro j hj
    obtain rfl | rfl | rfl | rfl | rfl : j = 0 ∨ j = 1 ∨ j = 2 ∨ j = 3 ∨ j = 4 := by omega
    all_goals exact ⟨.slice none 0 0, by simp [World.cell?, h1], by simp [World.frozen?, h1]⟩)
  have hs0 : W0.heap.size = w.heap.size + 2 := by rw [← hW0]; simp
  have HS0 := hideG hs0
  have HV := hideG (show ViewAt w _ _ _ _ _ V from ⟨hT, hO, hM, hP, hQ⟩)
  have HV0 := hideG (HV.out.below hbw)
  have HW0 := hideG hW0
  have HS := hideG hS
  have HL := hideG hl
  have HC := hideG (checkV_any _ _ _ _ _ V W0 HV0.out HS.out HL.out)
  have h1l : V.op.length ≤ 500 := hl.1
  have h2l : V.modal.length ≤ 500 := hl.2.1
  have h3l : V.pops.length ≤ 500 := hl.2.2.1
  have h4l : V.top.length ≤ 1000 := hl.2.2.2
  have p0 := P0.out
  have p1 := P1.out
  have p2 := P2.out
  have p3 := P3.out
  have p4 := P4.out
  have HM := hideG (show mayB V.tree = true from check_may hck)
  rw [hck] at HC
  clear hW0 hT hO hM hP hQ hS hl hbw hs0 hck
  have HN := hideG hn
  have HD := hideG hd
  clear hn hd
  go_enter Tryz.func29, Tryz.ntmps29
  go_wp2_with fail
  rw [HW0.out]
  refine HC.out.mono ?_
  rintro ex w1 ⟨rfl, hb1⟩
  have HX1 := hideG hb1
  clear hb1 p0 p1 p2 p3 p4
  have p0 := cell_below HX1.out P0.out
  have p1 := cell_below HX1.out P1.out
  have p2 := cell_below HX1.out P2.out
  have p3 := cell_below HX1.out P3.out
  have p4 := cell_below HX1.out P4.out
  have hwb : w.heap.size < w1.heap.size := below_of_cell p0
  have HRk := hideG (show ∀ j, j < 5 → ∃ u, w1.cell? ⟨w.heap.size + 1, j, none⟩ = some u ∧ w1.frozen? ⟨w.heap.size + 1, j, none⟩ = false from fun j hj => let ⟨u, h1, h2⟩ := HR.out j hj; ⟨u, cell_below HX1.out h1, frozen_below HX1.out h1 h2⟩)
  obtain ⟨u0, rc0, rf0⟩ := HRk.out 0 (by decide)
  obtain ⟨u1, rc1, rf1⟩ := HRk.out 1 (by decide)
  obtain ⟨u2, rc2, rf2⟩ := HRk.out 2 (by decide)
  obtain ⟨u3, rc3, rf3⟩ := HRk.out 3 (by decide)
  obtain ⟨u4, rc4, rf4⟩ := HRk.out 4 (by decide)
  go_wp2_with (go_at_call 83; refine (isNode10_any _ _ _ _ _).mono ?_; rintro e wz ⟨rfl, hwz⟩; obtain rfl : _ = wz := hwz.symm; rw [HN.out])
  clear p0 p1 p2 p3 p4 hwb rc0 rc1 rc2 rc3 rc4 rf0 rf1 rf2 rf3 rf4 HRk
  refine (judgeOf_any V.tree HS.out _ w1 (HV0.out.tree.below HX1.out)).mono ?_
  rintro ex w2 ⟨ca, cc, rfl, hI2, hb2⟩
  have HI2 := hideG hI2
  clear hI2
  have HX2 := hideG (HX1.out.trans (hb2.mono HX1.out.size))
  clear hb2
  have p0 := cell_below HX2.out P0.out
  have p1 := cell_below HX2.out P1.out
  have p2 := cell_below HX2.out P2.out
  have p3 := cell_below HX2.out P3.out
  have p4 := cell_below HX2.out P4.out
  have hwb : w.heap.size < w2.heap.size := below_of_cell p0
  have HRk := hideG (show ∀ j, j < 5 → ∃ u, w2.cell? ⟨w.heap.size + 1, j, none⟩ = some u ∧ w2.frozen? ⟨w.heap.size + 1, j, none⟩ = false from fun j hj => let ⟨u, h1, h2⟩ := HR.out j hj; ⟨u, cell_below HX2.out h1, frozen_below HX2.out h1 h2⟩)
  obtain ⟨u0, rc0, rf0⟩ := HRk.out 0 (by decide)
  obtain ⟨u1, rc1, rf1⟩ := HRk.out 1 (by decide)
  obtain ⟨u2, rc2, rf2⟩ := HRk.out 2 (by decide)
  obtain ⟨u3, rc3, rf3⟩ := HRk.out 3 (by decide)
  obtain ⟨u4, rc4, rf4⟩ := HRk.out 4 (by decide)
  go_wp2_with fail
  clear p0 p1 p2 p3 p4 hwb rc0 rc1 rc2 rc3 rc4 rf0 rf1 rf2 rf3 rf4 HRk
  refine (dialog_any V.tree HM.out _ _ n w2 (HV0.out.tree.below HX2.out) HI2.out).mono ?_
  rintro ex w3 ⟨rfl, hb3⟩
  rw [HD.out]
  have HX3 := hideG (HX2.out.trans (hb3.mono HX2.out.size))
  clear hb3
  have p0 := cell_below HX3.out P0.out
  have p1 := cell_below HX3.out P1.out
  have p2 := cell_below HX3.out P2.out
  have p3 := cell_below HX3.out P3.out
  have p4 := cell_below HX3.out P4.out
  have hwb : w.heap.size < w3.heap.size := below_of_cell p0
  have HRk := hideG (show ∀ j, j < 5 → ∃ u, w3.cell? ⟨w.heap.size + 1, j, none⟩ = some u ∧ w3.frozen? ⟨w.heap.size + 1, j, none⟩ = false from fun j hj => let ⟨u, h1, h2⟩ := HR.out j hj; ⟨u, cell_below HX3.out h1, frozen_below HX3.out h1 h2⟩)
  obtain ⟨u0, rc0, rf0⟩ := HRk.out 0 (by decide)
  obtain ⟨u1, rc1, rf1⟩ := HRk.out 1 (by decide)
  obtain ⟨u2, rc2, rf2⟩ := HRk.out 2 (by decide)
  obtain ⟨u3, rc3, rf3⟩ := HRk.out 3 (by decide)
  obtain ⟨u4, rc4, rf4⟩ := HRk.out 4 (by decide)
  go_wp2_with fail
  have HB := hideG (HB0.out.trans (HX3.out.mono HB0.out.size))
  have hat := set5_at (U := w3) (R := w.heap.size + 1) (v0 := .slice ta V.tree.length tc) (v1 := .slice oa V.op.length oc) (v2 := .slice ma V.modal.length mc) (v3 := .slice pa V.pops.length pc) (v4 := .slice qa V.top.length qc) HRk.out
  unfold set5 at hat
  obtain ⟨t0, t1, t2, t3, t4⟩ := hat
  refine bodyPost_ret (v := .tuple #[.agg #[.slice ta V.tree.length tc, .slice oa V.op.length oc, .slice ma V.modal.length mc, .slice pa V.pops.length pc, .slice qa V.top.length qc], .int .i64 (3)]) (by simp [results, Tryz.f29, go_sem, t0, t1, t2, t3, t4]) rfl ?_
  refine ⟨_, _, _, _, _, rfl, ?_, set5_below HB.out (by omega)⟩
  exact HV.out.below (set5_below HB.out (by omega))

set_option maxRecDepth 100000 in
set_option maxHeartbeats 4000000 in
theorem dlgState (tv ov mv pv qv : Value) (V : Vw) (w : World) (hV : ViewAt w tv ov mv pv qv V) (hS : Sane V.tree) (hl : smallL V) (n : Int) (m : Bool) (hck : checkV V = 0) (hn : isNodeB V.tree.length n = true) (hd : dlgB V.tree n = true) (ho : containsB (openedL V) n = true) :
    Calls Tryz.prog 29 #[.agg #[tv, ov, mv, pv, qv], .int .i64 n, .bool m] w fun x w' => ∃ t o m p q, x = .returned (.tuple #[.agg #[t, o, m, p, q], .int .i64 (9)]) ∧ ViewAt w' t o m p q V ∧ Below w.heap.size w w' := by
  obtain ⟨hT, hO, hM, hP, hQ⟩ := hV
  obtain ⟨ta, tc, rfl⟩ := hT.shape
  obtain ⟨oa, oc, rfl⟩ := hO.shape
  obtain ⟨ma, mc, rfl⟩ := hM.shape
  obtain ⟨pa, pc, rfl⟩ := hP.shape
  obtain ⟨qa, qc, rfl⟩ := hQ.shape
  obtain ⟨W0, hW0⟩ : ∃ W0, (w.alloc (.cells #[.slice ta V.tree.length tc, .slice oa V.op.length oc, .slice ma V.modal.length mc, .slice pa V.pops.length pc, .slice qa V.top.length qc] 27)).alloc (.cells #[.slice none 0 0, .slice none 0 0, .slice none 0 0, .slice none 0 0, .slice none 0 0] 27) = W0 := ⟨_, rfl⟩
  have hbw : Below w.heap.size w W0 := by rw [← hW0]; exact ((Below.refl _ w).alloc (Nat.le_refl _) _).alloc (by simp) _
  have HB0 := hideG hbw
  have P0 := hideG (show W0.cell? ⟨w.heap.size, 0, none⟩ = some (.slice ta V.tree.length tc) by rw [← hW0]; exact cell_alloc_l _ (by simp))
  have P1 := hideG (show W0.cell? ⟨w.heap.size, 1, none⟩ = some (.slice oa V.op.length oc) by rw [← hW0]; exact cell_alloc_l _ (by simp))
  have P2 := hideG (show W0.cell? ⟨w.heap.size, 2, none⟩ = some (.slice ma V.modal.length mc) by rw [← hW0]; exact cell_alloc_l _ (by simp))
  have P3 := hideG (show W0.cell? ⟨w.heap.size, 3, none⟩ = some (.slice pa V.pops.length pc) by rw [← hW0]; exact cell_alloc_l _ (by simp))
  have P4 := hideG (show W0.cell? ⟨w.heap.size, 4, none⟩ = some (.slice qa V.top.length qc) by rw [← hW0]; exact cell_alloc_l _ (by simp))
  have HR := hideG (show ∀ j, j < 5 → ∃ u, W0.cell? ⟨w.heap.size + 1, j, none⟩ = some u ∧ W0.frozen? ⟨w.heap.size + 1, j, none⟩ = false from by
    have h1 := World.alloc_heap_new (w.alloc (.cells #[.slice ta V.tree.length tc, .slice oa V.op.length oc, .slice ma V.modal.length mc, .slice pa V.pops.length pc, .slice qa V.top.length qc] 27)) (.cells #[.slice none 0 0, .slice none 0 0, .slice none 0 0, .slice none 0 0, .slice none 0 0] 27)
    rw [World.size_alloc, hW0] at h1
    intro j hj
    obtain rfl | rfl | rfl | rfl | rfl : j = 0 ∨ j = 1 ∨ j = 2 ∨ j = 3 ∨ j = 4 := by omega
    all_goals exact ⟨.slice none 0 0, by simp [World.cell?, h1], by simp [World.frozen?, h1]⟩)
  have hs0 : W0.heap.size = w.heap.size + 2 := by rw [← hW0]; simp
  have HS0 := hideG hs0
  have HV := hideG (show ViewAt w _ _ _ _ _ V from ⟨hT, hO, hM, hP, hQ⟩)
  have HV0 := hideG (HV.out.below hbw)
  have HW0 := hideG hW0
  have HS := hideG hS
  have HL := hideG hl
  have HC := hideG (checkV_any _ _ _ _ _ V W0 HV0.out HS.out HL.out)
  have h1l : V.op.length ≤ 500 := hl.1
  have h2l : V.modal.length ≤ 500 := hl.2.1
  have h3l : V.pops.length ≤ 500 := hl.2.2.1
  have h4l : V.top.length ≤ 1000 := hl.2.2.2
  have p0 := P0.out
  have p1 := P1.out
  have p2 := P2.out
  have p3 := P3.out
  have p4 := P4.out
  have HM := hideG (show mayB V.tree = true from check_may hck)
  rw [hck] at HC
  clear hW0 hT hO hM hP hQ hS hl hbw hs0 hck
  have HN := hideG hn
  have HD := hideG hd
  have HO := hideG ho
  clear ho
  clear hn hd
  go_enter Tryz.func29, Tryz.ntmps29
  go_wp2_with fail
  rw [HW0.out]
  refine HC.out.mono ?_
  rintro ex w1 ⟨rfl, hb1⟩
  have HX1 := hideG hb1
  clear hb1 p0 p1 p2 p3 p4
  have p0 := cell_below HX1.out P0.out
  have p1 := cell_below HX1.out P1.out
  have p2 := cell_below HX1.out P2.out
  have p3 := cell_below HX1.out P3.out
  have p4 := cell_below HX1.out P4.out
  have hwb : w.heap.size < w1.heap.size := below_of_cell p0
  have HRk := hideG (show ∀ j, j < 5 → ∃ u, w1.cell? ⟨w.heap.size + 1, j, none⟩ = some u ∧ w1.frozen? ⟨w.heap.size + 1, j, none⟩ = false from fun j hj => let ⟨u, h1, h2⟩ := HR.out j hj; ⟨u, cell_below HX1.out h1, frozen_below HX1.out h1 h2⟩)
  obtain ⟨u0, rc0, rf0⟩ := HRk.out 0 (by decide)
  obtain ⟨u1, rc1, rf1⟩ := HRk.out 1 (by decide)
  obtain ⟨u2, rc2, rf2⟩ := HRk.out 2 (by decide)
  obtain ⟨u3, rc3, rf3⟩ := HRk.out 3 (by decide)
  obtain ⟨u4, rc4, rf4⟩ := HRk.out 4 (by decide)
  go_wp2_with (go_at_call 83; refine (isNode10_any _ _ _ _ _).mono ?_; rintro e wz ⟨rfl, hwz⟩; obtain rfl : _ = wz := hwz.symm; rw [HN.out])
  clear p0 p1 p2 p3 p4 hwb rc0 rc1 rc2 rc3 rc4 rf0 rf1 rf2 rf3 rf4 HRk
  refine (judgeOf_any V.tree HS.out _ w1 (HV0.out.tree.below HX1.out)).mono ?_
  rintro ex w2 ⟨ca, cc, rfl, hI2, hb2⟩
  have HI2 := hideG hI2
  clear hI2
  have HX2 := hideG (HX1.out.trans (hb2.mono HX1.out.size))
  clear hb2
  have p0 := cell_below HX2.out P0.out
  have p1 := cell_below HX2.out P1.out
  have p2 := cell_below HX2.out P2.out
  have p3 := cell_below HX2.out P3.out
  have p4 := cell_below HX2.out P4.out
  have hwb : w.heap.size < w2.heap.size := below_of_cell p0
  have HRk := hideG (show ∀ j, j < 5 → ∃ u, w2.cell? ⟨w.heap.size + 1, j, none⟩ = some u ∧ w2.frozen? ⟨w.heap.size + 1, j, none⟩ = false from fun j hj => let ⟨u, h1, h2⟩ := HR.out j hj; ⟨u, cell_below HX2.out h1, frozen_below HX2.out h1 h2⟩)
  obtain ⟨u0, rc0, rf0⟩ := HRk.out 0 (by decide)
  obtain ⟨u1, rc1, rf1⟩ := HRk.out 1 (by decide)
  obtain ⟨u2, rc2, rf2⟩ := HRk.out 2 (by decide)
  obtain ⟨u3, rc3, rf3⟩ := HRk.out 3 (by decide)
  obtain ⟨u4, rc4, rf4⟩ := HRk.out 4 (by decide)
  go_wp2_with fail
  clear p0 p1 p2 p3 p4 hwb rc0 rc1 rc2 rc3 rc4 rf0 rf1 rf2 rf3 rf4 HRk
  refine (dialog_any V.tree HM.out _ _ n w2 (HV0.out.tree.below HX2.out) HI2.out).mono ?_
  rintro ex w3 ⟨rfl, hb3⟩
  rw [HD.out]
  have HX3 := hideG (HX2.out.trans (hb3.mono HX2.out.size))
  clear hb3
  have p0 := cell_below HX3.out P0.out
  have p1 := cell_below HX3.out P1.out
  have p2 := cell_below HX3.out P2.out
  have p3 := cell_below HX3.out P3.out
  have p4 := cell_below HX3.out P4.out
  have hwb : w.heap.size < w3.heap.size := below_of_cell p0
  have HRk := hideG (show ∀ j, j < 5 → ∃ u, w3.cell? ⟨w.heap.size + 1, j, none⟩ = some u ∧ w3.frozen? ⟨w.heap.size + 1, j, none⟩ = false from fun j hj => let ⟨u, h1, h2⟩ := HR.out j hj; ⟨u, cell_below HX3.out h1, frozen_below HX3.out h1 h2⟩)
  obtain ⟨u0, rc0, rf0⟩ := HRk.out 0 (by decide)
  obtain ⟨u1, rc1, rf1⟩ := HRk.out 1 (by decide)
  obtain ⟨u2, rc2, rf2⟩ := HRk.out 2 (by decide)
  obtain ⟨u3, rc3, rf3⟩ := HRk.out 3 (by decide)
  obtain ⟨u4, rc4, rf4⟩ := HRk.out 4 (by decide)
  go_wp2_with fail
  clear p0 p1 p2 p3 p4 hwb rc0 rc1 rc2 rc3 rc4 rf0 rf1 rf2 rf3 rf4 HRk
  refine (opened_any _ _ _ _ _ V w3 (HV0.out.below HX3.out) ⟨by omega, by omega, by omega⟩).mono ?_
  rintro ex w4 ⟨oa', oc', rfl, ho4, hb4⟩
  have HI4 := hideG (ownsRow_ints ho4)
  clear ho4
  have HX4 := hideG (HX3.out.trans (hb4.mono HX3.out.size))
  clear hb4
  have p0 := cell_below HX4.out P0.out
  have p1 := cell_below HX4.out P1.out
  have p2 := cell_below HX4.out P2.out
  have p3 := cell_below HX4.out P3.out
  have p4 := cell_below HX4.out P4.out
  have hwb : w.heap.size < w4.heap.size := below_of_cell p0
  have HRk := hideG (show ∀ j, j < 5 → ∃ u, w4.cell? ⟨w.heap.size + 1, j, none⟩ = some u ∧ w4.frozen? ⟨w.heap.size + 1, j, none⟩ = false from fun j hj => let ⟨u, h1, h2⟩ := HR.out j hj; ⟨u, cell_below HX4.out h1, frozen_below HX4.out h1 h2⟩)
  obtain ⟨u0, rc0, rf0⟩ := HRk.out 0 (by decide)
  obtain ⟨u1, rc1, rf1⟩ := HRk.out 1 (by decide)
  obtain ⟨u2, rc2, rf2⟩ := HRk.out 2 (by decide)
  obtain ⟨u3, rc3, rf3⟩ := HRk.out 3 (by decide)
  obtain ⟨u4, rc4, rf4⟩ := HRk.out 4 (by decide)
  have HOL := hideG (opened_len V)
  go_wp2_with (go_at_call 73; refine (contains_any (openedL V) _ n w4 HI4.out (by have := HOL.out; omega)).mono ?_; rintro e wz ⟨rfl, hwz⟩; obtain rfl : _ = wz := hwz.symm; rw [HO.out])
  have HB := hideG (HB0.out.trans (HX4.out.mono HB0.out.size))
  have hat := set5_at (U := w4) (R := w.heap.size + 1) (v0 := .slice ta V.tree.length tc) (v1 := .slice oa V.op.length oc) (v2 := .slice ma V.modal.length mc) (v3 := .slice pa V.pops.length pc) (v4 := .slice qa V.top.length qc) HRk.out
  unfold set5 at hat
  obtain ⟨t0, t1, t2, t3, t4⟩ := hat
  refine bodyPost_ret (v := .tuple #[.agg #[.slice ta V.tree.length tc, .slice oa V.op.length oc, .slice ma V.modal.length mc, .slice pa V.pops.length pc, .slice qa V.top.length qc], .int .i64 (9)]) (by simp [results, Tryz.f29, go_sem, t0, t1, t2, t3, t4]) rfl ?_
  refine ⟨_, _, _, _, _, rfl, ?_, set5_below HB.out (by omega)⟩
  exact HV.out.below (set5_below HB.out (by omega))
end Go.Proofs.YtclhimodopgeoaaGreat

