/- Part 10 of what the laws of layer 10 lean on. -/
import Derived.Test.YtclhimodopgeoaaGreatTC7
import Derived.Test.YtclhimodopgeoaaGreatTC8
import Derived.Test.YtclhimodopgeoaaGreatTC9
namespace Go.Proofs.YtclhimodopgeoaaGreat
open Go.RowKit

set_option maxRecDepth 100000 in
set_option maxHeartbeats 4000000 in
theorem popOpen (tv ov mv pv qv : Value) (V : Vw) (w : World) (hV : ViewAt w tv ov mv pv qv V) (hS : Sane V.tree) (hl : smallL V) (x : Sh) (htl : V.tree.length ≤ 1000) (hck : checkV V = 0) (hn : isNodeB V.tree.length x.node = true) (hf : fitsB V.tree x = true) (hd : popB V.tree x.node = true) (ho : containsB (openedL V) x.node = false) :
    Calls Tryz.prog 31 #[.agg #[tv, ov, mv, pv, qv], .agg #[.int .i64 x.node, .int .i64 x.inv]] w fun r w' => ∃ t o m p q, r = .returned (.tuple #[.agg #[t, o, m, p, q], .int .i64 (0)]) ∧ ViewAt w' t o m p q { V with pops := V.pops ++ [x], top := V.top ++ [x.node] } ∧ Below w.heap.size w w' := by
  have HTL := hideG htl
  clear htl
  obtain ⟨i3, hi3, hz30, hz31, hz32⟩ := info_parts infoT3
  obtain ⟨i39, hi39, hz390, hz391, hz392⟩ := info_parts infoT39
  obtain ⟨hT, hO, hM, hP, hQ⟩ := hV
  obtain ⟨ta, tc, rfl⟩ := hT.shape
  obtain ⟨oa, oc, rfl⟩ := hO.shape
  obtain ⟨ma, mc, rfl⟩ := hM.shape
  obtain ⟨pa, pc, rfl⟩ := hP.shape
  obtain ⟨qa, qc, rfl⟩ := hQ.shape
  obtain ⟨W0, hW0⟩ : ∃ W0, ((w.alloc (.cells #[.slice ta V.tree.length tc, .slice oa V.op.length oc, .slice ma V.modal.length mc, .slice pa V.pops.length pc, .slice qa V.top.length qc] 27)).alloc (.cells #[.int .i64 x.node, .int .i64 x.inv] 39)).alloc (.cells #[.slice none 0 0, .slice none 0 0, .slice none 0 0, .slice none 0 0, .slice none 0 0] 27) = W0 := ⟨_, rfl⟩
  have hbw : Below w.heap.size w W0 := by rw [← hW0]; exact (((Below.refl _ w).alloc (Nat.le_refl _) _).alloc (by simp) _).alloc (by simp; omega) _
  have HB0 := hideG hbw
  have P0 := hideG (show W0.cell? ⟨w.heap.size, 0, none⟩ = some (.slice ta V.tree.length tc) by rw [← hW0]; exact cell_alloc_l _ (cell_alloc_l _ (by simp)))
  have P1 := hideG (show W0.cell? ⟨w.heap.size, 1, none⟩ = some (.slice oa V.op.length oc) by rw [← hW0]; exact cell_alloc_l _ (cell_alloc_l _ (by simp)))
  have P2 := hideG (show W0.cell? ⟨w.heap.size, 2, none⟩ = some (.slice ma V.modal.length mc) by rw [← hW0]; exact cell_alloc_l _ (cell_alloc_l _ (by simp)))
  have P3 := hideG (show W0.cell? ⟨w.heap.size, 3, none⟩ = some (.slice pa V.pops.length pc) by rw [← hW0]; exact cell_alloc_l _ (cell_alloc_l _ (by simp)))
  have P4 := hideG (show W0.cell? ⟨w.heap.size, 4, none⟩ = some (.slice qa V.top.length qc) by rw [← hW0]; exact cell_alloc_l _ (cell_alloc_l _ (by simp)))
  obtain ⟨Wx, hWx⟩ : ∃ Wx, (w.alloc (.cells #[.slice ta V.tree.length tc, .slice oa V.op.length oc, .slice ma V.modal.length mc, .slice pa V.pops.length pc, .slice qa V.top.length qc] 27)).alloc (.cells #[.int .i64 x.node, .int .i64 x.inv] 39) = Wx := ⟨_, rfl⟩
  have hx1 := World.alloc_heap_new (w.alloc (.cells #[.slice ta V.tree.length tc, .slice oa V.op.length oc, .slice ma V.modal.length mc, .slice pa V.pops.length pc, .slice qa V.top.length qc] 27)) (.cells #[.int .i64 x.node, .int .i64 x.inv] 39)
  rw [World.size_alloc, hWx] at hx1
  have S0 := hideG (show W0.cell? ⟨w.heap.size + 1, 0, none⟩ = some (.int .i64 x.node) by rw [← hW0, hWx]; exact cell_alloc_l _ (by simp [World.cell?, hx1]))
  have S1 := hideG (show W0.cell? ⟨w.heap.size + 1, 1, none⟩ = some (.int .i64 x.inv) by rw [← hW0, hWx]; exact cell_alloc_l _ (by simp [World.cell?, hx1]))
  clear hx1 hWx
  have HR := hideG (show ∀ j, j < 5 → ∃ u, W0.cell? ⟨w.heap.size + 2, j, none⟩ = some u ∧ W0.frozen? ⟨w.heap.size + 2, j, none⟩ = false from by
    have h1 := World.alloc_heap_new ((w.alloc (.cells #[.slice ta V.tree.length tc, .slice oa V.op.length oc, .slice ma V.modal.length mc, .slice pa V.pops.length pc, .slice qa V.top.length qc] 27)).alloc (.cells #[.int .i64 x.node, .int .i64 x.inv] 39)) (.cells #[.slice none 0 0, .slice none 0 0, .slice none 0 0, .slice none 0 0, .slice none 0 0] 27)
    rw [World.size_alloc, World.size_alloc, hW0] at h1
    intro j hj
    obtain rfl | rfl | rfl | rfl | rfl : j = 0 ∨ j = 1 ∨ j = 2 ∨ j = 3 ∨ j = 4 := by omega
    all_goals exact ⟨.slice none 0 0, by simp [World.cell?, h1], by simp [World.frozen?, h1]⟩)
  have hs0 : W0.heap.size = w.heap.size + 3 := by rw [← hW0]; simp
  have HS0 := hideG hs0
  have HV := hideG (show ViewAt w _ _ _ _ _ V from ⟨hT, hO, hM, hP, hQ⟩)
  have HV0 := hideG (HV.out.below hbw)
  have HW0 := hideG hW0
  have HS := hideG hS
  have HL := hideG hl
  have HC := hideG (checkV_any _ _ _ _ _ V W0 HV0.out HS.out HL.out)
  have h1l : V.op.length ≤ 500 := hl.1
  have h2l : V.modal.length ≤ 500 := hl.2.1
  have h3l : V.pops.length ≤ 500 := hl.2.2.1
  have h4l : V.top.length ≤ 1000 := hl.2.2.2
  have p0 := P0.out
  have p1 := P1.out
  have p2 := P2.out
  have p3 := P3.out
  have p4 := P4.out
  have HM := hideG (show mayB V.tree = true from check_may hck)
  rw [hck] at HC
  clear hW0 hT hO hM hP hQ hS hl hbw hs0 hck
  have HN := hideG hn
  have HF := hideG hf
  have HD := hideG hd
  clear hd
  have HO := hideG ho
  clear ho
  clear hn hf
  go_enter Tryz.func31, Tryz.ntmps31
  go_wp2_with fail
  rw [HW0.out]
  refine HC.out.mono ?_
  rintro ex w1 ⟨rfl, hb1⟩
  have HX1 := hideG hb1
  clear hb1 p0 p1 p2 p3 p4
  have p0 := cell_below HX1.out P0.out
  have p1 := cell_below HX1.out P1.out
  have p2 := cell_below HX1.out P2.out
  have p3 := cell_below HX1.out P3.out
  have p4 := cell_below HX1.out P4.out
  have hwb : w.heap.size < w1.heap.size := below_of_cell p0
  have HRk := hideG (show ∀ j, j < 5 → ∃ u, w1.cell? ⟨w.heap.size + 2, j, none⟩ = some u ∧ w1.frozen? ⟨w.heap.size + 2, j, none⟩ = false from fun j hj => let ⟨u, h1, h2⟩ := HR.out j hj; ⟨u, cell_below HX1.out h1, frozen_below HX1.out h1 h2⟩)
  obtain ⟨u0, rc0, rf0⟩ := HRk.out 0 (by decide)
  obtain ⟨u1, rc1, rf1⟩ := HRk.out 1 (by decide)
  obtain ⟨u2, rc2, rf2⟩ := HRk.out 2 (by decide)
  obtain ⟨u3, rc3, rf3⟩ := HRk.out 3 (by decide)
  obtain ⟨u4, rc4, rf4⟩ := HRk.out 4 (by decide)
  have x0 := cell_below HX1.out S0.out
  have x1 := cell_below HX1.out S1.out
  go_wp2_with (go_at_call 83; refine (isNode10_any _ _ _ _ _).mono ?_; rintro e wz ⟨rfl, hwz⟩; obtain rfl : _ = wz := hwz.symm; rw [HN.out])
  clear x0 x1 p0 p1 p2 p3 p4 hwb rc0 rc1 rc2 rc3 rc4 rf0 rf1 rf2 rf3 rf4 HRk
  refine (fits_any V.tree _ _ x w1).mono ?_
  rintro ex w2 ⟨rfl, hb2⟩
  rw [HF.out]
  have HX2 := hideG (HX1.out.trans (hb2.mono HX1.out.size))
  clear hb2
  have p0 := cell_below HX2.out P0.out
  have p1 := cell_below HX2.out P1.out
  have p2 := cell_below HX2.out P2.out
  have p3 := cell_below HX2.out P3.out
  have p4 := cell_below HX2.out P4.out
  have hwb : w.heap.size < w2.heap.size := below_of_cell p0
  have HRk := hideG (show ∀ j, j < 5 → ∃ u, w2.cell? ⟨w.heap.size + 2, j, none⟩ = some u ∧ w2.frozen? ⟨w.heap.size + 2, j, none⟩ = false from fun j hj => let ⟨u, h1, h2⟩ := HR.out j hj; ⟨u, cell_below HX2.out h1, frozen_below HX2.out h1 h2⟩)
  obtain ⟨u0, rc0, rf0⟩ := HRk.out 0 (by decide)
  obtain ⟨u1, rc1, rf1⟩ := HRk.out 1 (by decide)
  obtain ⟨u2, rc2, rf2⟩ := HRk.out 2 (by decide)
  obtain ⟨u3, rc3, rf3⟩ := HRk.out 3 (by decide)
  obtain ⟨u4, rc4, rf4⟩ := HRk.out 4 (by decide)
  have x0 := cell_below HX2.out S0.out
  have x1 := cell_below HX2.out S1.out
  have hS0 := PopS.start p0 p1 p2 p3 p4 x0 x1
  have HV2 := hideG (HV0.out.below HX2.out)
  go_wp2_with fail
  clear x0 x1 p0 p1 p2 p3 p4 hwb rc0 rc1 rc2 rc3 rc4 rf0 rf1 rf2 rf3 rf4 HRk
  refine wp_region_inv (fun l a U => ∃ (f : Nat → Nat × Nat) (s30 s31 s32 s33 s34 s35 s29 : Value), a = { tmps := #[.agg #[.slice ta V.tree.length tc, .slice oa V.op.length oc, .slice ma V.modal.length mc, .slice pa V.pops.length pc, .slice qa V.top.length qc], .agg #[.int .i64 x.node, .int .i64 x.inv], .pointer (some ⟨w.heap.size, 0, none⟩), .pointer (some ⟨w.heap.size + 1, 0, none⟩), .pointer (some ⟨w.heap.size + 2, 0, none⟩), .int .i64 0, .int .i64 0, undef, .agg #[.slice ta V.tree.length tc, .slice oa V.op.length oc, .slice ma V.modal.length mc, .slice pa V.pops.length pc, .slice qa V.top.length qc], .int .i64 0, .int .i64 0, .bool false, undef, undef, .bool (!true), .pointer (some ⟨w.heap.size, 0, none⟩), .slice ta V.tree.length tc, .pointer (some ⟨w.heap.size + 1, 0, none⟩), .int .i64 x.node, .bool true, .bool (!true), .bool (!true), .pointer (some ⟨w.heap.size, 0, none⟩), .slice ta V.tree.length tc, .agg #[.int .i64 x.node, .int .i64 x.inv], .bool true, .bool (!true), .bool (!true), undef, s29, s30, s31, s32, s33, s34, s35, undef, undef, undef, undef, undef, undef, undef, undef, undef, undef, undef, undef, undef, undef, undef, undef, undef, undef, undef, undef, undef, undef, undef, undef], defers := [] } ∧ PopS w2 (w.heap.size) (w.heap.size + 1) (.slice ta V.tree.length tc) (.slice oa V.op.length oc) (.slice ma V.modal.length mc) (.slice pa V.pops.length pc) (.slice qa V.top.length qc) x U ∧ IvL l f 7 w2.heap.size U.heap.size ∧ (l.getD 0 true = true → s30 = .pointer (some ⟨w.heap.size, 0, none⟩)) ∧ (l.getD 1 true = true → s31 = .slice ta V.tree.length tc) ∧ (l.getD 2 true = true → ConnAt U s32 (.slice ta V.tree.length tc) V.tree) ∧ (l.getD 3 true = true → s33 = .agg #[.int .i64 x.node, .int .i64 x.inv]) ∧ (l.getD 4 true = true → s34 = .bool true) ∧ (l.getD 5 true = true → s35 = .bool (!true)) ∧ (l.getD 6 true = true → s29 = .bool (!true))) (by kernel_rfl) (by kernel_rfl) ?_ ?_ ?_
  · exact ⟨fun _ => (0, 0), _, _, _, _, _, _, _, rfl, hS0, IvL.start 7 _ _ _, fun h => by simp at h, fun h => by simp at h, fun h => by simp at h, fun h => by simp at h, fun h => by simp at h, fun h => by simp at h, fun h => by simp at h⟩
  · rintro i l a U hi ⟨f, s30, s31, s32, s33, s34, s35, s29, rfl, hS, hIv, h0, h1, h2, h3, h4, h5, h6⟩
    obtain ⟨hun, o, ho, _⟩ := mem_ready.mp hi
    have hlt := (Array.getElem?_eq_some_iff.mp ho).1
    clear ho
    simp only [List.size_toArray, List.length_cons, List.length_nil, Nat.reduceAdd] at hlt
    obtain rfl | rfl | rfl | rfl | rfl | rfl | rfl : i = 0 ∨ i = 1 ∨ i = 2 ∨ i = 3 ∨ i = 4 ∨ i = 5 ∨ i = 6 := by omega
    · refine inv_step (by rfl) (fun K hK => ?_)
      go_simp
      exact hK.out _ _ ⟨upPart f 0 (U.heap.size, _), _, _, _, _, _, _, _, rfl, hS, hIv.step (i := 0) hun (by decide) (Nat.le_refl _), fun _ => rfl, fun h => h1 (set_getD (i := 0) (by decide) h), fun h => h2 (set_getD (i := 0) (by decide) h), fun h => h3 (set_getD (i := 0) (by decide) h), fun h => h4 (set_getD (i := 0) (by decide) h), fun h => h5 (set_getD (i := 0) (by decide) h), fun h => h6 (set_getD (i := 0) (by decide) h)⟩
    · have e0 := h0 (dep_of hi (d := 0) (by kernel_rfl))
      subst e0
      have pc0 := hS.c0
      refine inv_step (by rfl) (fun K hK => ?_)
      go_simp
      exact hK.out _ _ ⟨upPart f 1 (U.heap.size, _), _, _, _, _, _, _, _, rfl, hS, hIv.step (i := 1) hun (by decide) (Nat.le_refl _), fun _ => rfl, fun _ => rfl, fun h => h2 (set_getD (i := 1) (by decide) h), fun h => h3 (set_getD (i := 1) (by decide) h), fun h => h4 (set_getD (i := 1) (by decide) h), fun h => h5 (set_getD (i := 1) (by decide) h), fun h => h6 (set_getD (i := 1) (by decide) h)⟩
    · have e1 := h1 (dep_of hi (d := 1) (by kernel_rfl))
      subst e1
      refine inv_step (by rfl) (fun K hK => ?_)
      go_simp
      (go_at_call 64; refine Calls.mono (judgeOf_any V.tree HS.out _ U (HV2.out.tree.below hS.bel)) ?_; rintro e w1' ⟨ca, cc, rfl, hgot, hb⟩)
      go_wp2_with fail
      have hk : ∀ m, w2.heap.size ≤ m → m < U.heap.size → w1'.heap[m]? = U.heap[m]? := fun m _ h2 => hb.block m h2
      exact hK.out _ _ ⟨upPart f 2 (U.heap.size, _), _, _, _, _, _, _, _, rfl, hS.below hb, hIv.step (i := 2) hun (by decide) hb.size, fun h => h0 (set_getD (i := 2) (by decide) h), fun _ => rfl, fun _ => ⟨_, _, rfl, hgot⟩, fun h => h3 (set_getD (i := 2) (by decide) h), fun h => h4 (set_getD (i := 2) (by decide) h), fun h => h5 (set_getD (i := 2) (by decide) h), fun h => h6 (set_getD (i := 2) (by decide) h)⟩
    · have xc0 := hS.x0
      have xc1 := hS.x1
      refine inv_step (by rfl) (fun K hK => ?_)
      go_simp
      exact hK.out _ _ ⟨upPart f 3 (U.heap.size, _), _, _, _, _, _, _, _, rfl, hS, hIv.step (i := 3) hun (by decide) (Nat.le_refl _), fun h => h0 (set_getD (i := 3) (by decide) h), fun h => h1 (set_getD (i := 3) (by decide) h), fun h => h2 (set_getD (i := 3) (by decide) h), fun _ => rfl, fun h => h4 (set_getD (i := 3) (by decide) h), fun h => h5 (set_getD (i := 3) (by decide) h), fun h => h6 (set_getD (i := 3) (by decide) h)⟩
    · have e3 := h3 (dep_of hi (d := 3) (by kernel_rfl))
      subst e3
      have q2 := dep_of hi (d := 2) (by kernel_rfl)
      obtain ⟨ca, cc, rfl, hci⟩ := h2 q2
      have HCI := hideG hci
      clear hci
      refine inv_step (by rfl) (fun K hK => ?_)
      go_simp
      (go_at_call 68; refine Calls.mono (popup_any V.tree HS.out HM.out _ _ x U (HV2.out.tree.below hS.bel) HCI.out) ?_; rintro e w1' ⟨rfl, hb⟩)
      rw [HD.out]
      go_wp2_with fail
      have hk : ∀ m, w2.heap.size ≤ m → m < U.heap.size → w1'.heap[m]? = U.heap[m]? := fun m _ h2 => hb.block m h2
      exact hK.out _ _ ⟨upPart f 4 (U.heap.size, _), _, _, _, _, _, _, _, rfl, hS.below hb, hIv.step (i := 4) hun (by decide) hb.size, fun h => h0 (set_getD (i := 4) (by decide) h), fun h => h1 (set_getD (i := 4) (by decide) h), fun h => (h2 (set_getD (i := 4) (by decide) h)).below hb, fun _ => rfl, fun _ => rfl, fun h => h5 (set_getD (i := 4) (by decide) h), fun h => h6 (set_getD (i := 4) (by decide) h)⟩
    · have e4 := h4 (dep_of hi (d := 4) (by kernel_rfl))
      subst e4
      refine inv_step (by rfl) (fun K hK => ?_)
      go_simp
      exact hK.out _ _ ⟨upPart f 5 (U.heap.size, _), _, _, _, _, _, _, _, rfl, hS, hIv.step (i := 5) hun (by decide) (Nat.le_refl _), fun h => h0 (set_getD (i := 5) (by decide) h), fun h => h1 (set_getD (i := 5) (by decide) h), fun h => h2 (set_getD (i := 5) (by decide) h), fun h => h3 (set_getD (i := 5) (by decide) h), fun _ => rfl, fun _ => rfl, fun h => h6 (set_getD (i := 5) (by decide) h)⟩
    · have e5 := h5 (dep_of hi (d := 5) (by kernel_rfl))
      subst e5
      refine inv_step (by rfl) (fun K hK => ?_)
      go_simp
      exact hK.out _ _ ⟨upPart f 6 (U.heap.size, _), _, _, _, _, _, _, _, rfl, hS, hIv.step (i := 6) hun (by decide) (Nat.le_refl _), fun h => h0 (set_getD (i := 6) (by decide) h), fun h => h1 (set_getD (i := 6) (by decide) h), fun h => h2 (set_getD (i := 6) (by decide) h), fun h => h3 (set_getD (i := 6) (by decide) h), fun h => h4 (set_getD (i := 6) (by decide) h), fun _ => rfl, fun _ => rfl⟩
  · rintro l a w3 hall ⟨f, s30, s31, s32, s33, s34, s35, s29, rfl, hS, hIv, h0, h1, h2, h3, h4, h5, h6⟩
    have e0 := h0 (hall 0 (by decide))
    have e1 := h1 (hall 1 (by decide))
    have e2 := h2 (hall 2 (by decide))
    have e3 := h3 (hall 3 (by decide))
    have e4 := h4 (hall 4 (by decide))
    have e5 := h5 (hall 5 (by decide))
    have e6 := h6 (hall 6 (by decide))
    have HIV := hideG (hIv.all hall)
    clear hIv hall h0 h1 h2 h3 h4 h5 h6
    subst e0
    subst e1
    subst e3
    subst e4
    subst e5
    subst e6
    obtain ⟨ca, cc, rfl, _⟩ := e2
    have HX3 := hideG (HX2.out.trans (hS.bel.mono HX2.out.size))
    clear hS
    have p0 := cell_below HX3.out P0.out
    have p1 := cell_below HX3.out P1.out
    have p2 := cell_below HX3.out P2.out
    have p3 := cell_below HX3.out P3.out
    have p4 := cell_below HX3.out P4.out
    have hwb : w.heap.size < w3.heap.size := below_of_cell p0
    have HRk := hideG (show ∀ j, j < 5 → ∃ u, w3.cell? ⟨w.heap.size + 2, j, none⟩ = some u ∧ w3.frozen? ⟨w.heap.size + 2, j, none⟩ = false from fun j hj => let ⟨u, h1, h2⟩ := HR.out j hj; ⟨u, cell_below HX3.out h1, frozen_below HX3.out h1 h2⟩)
    obtain ⟨u0, rc0, rf0⟩ := HRk.out 0 (by decide)
    obtain ⟨u1, rc1, rf1⟩ := HRk.out 1 (by decide)
    obtain ⟨u2, rc2, rf2⟩ := HRk.out 2 (by decide)
    obtain ⟨u3, rc3, rf3⟩ := HRk.out 3 (by decide)
    obtain ⟨u4, rc4, rf4⟩ := HRk.out 4 (by decide)
    have x0 := cell_below HX3.out S0.out
    have x1 := cell_below HX3.out S1.out
    have hS0 := PopS.start p0 p1 p2 p3 p4 x0 x1
    have HV3 := hideG (HV0.out.below HX3.out)
    have HOL := hideG (opened_len V)
    go_wp2_with fail
    clear x0 x1 p0 p1 p2 p3 p4 hwb rc0 rc1 rc2 rc3 rc4 rf0 rf1 rf2 rf3 rf4 HRk
    refine wp_region_inv (fun l a U => ∃ (f : Nat → Nat × Nat) (s38 s39 s40 s41 s42 s37 : Value), a = { tmps := #[.agg #[.slice ta V.tree.length tc, .slice oa V.op.length oc, .slice ma V.modal.length mc, .slice pa V.pops.length pc, .slice qa V.top.length qc], .agg #[.int .i64 x.node, .int .i64 x.inv], .pointer (some ⟨w.heap.size, 0, none⟩), .pointer (some ⟨w.heap.size + 1, 0, none⟩), .pointer (some ⟨w.heap.size + 2, 0, none⟩), .int .i64 0, .int .i64 0, undef, .agg #[.slice ta V.tree.length tc, .slice oa V.op.length oc, .slice ma V.modal.length mc, .slice pa V.pops.length pc, .slice qa V.top.length qc], .int .i64 0, .int .i64 0, .bool false, undef, undef, .bool (!true), .pointer (some ⟨w.heap.size, 0, none⟩), .slice ta V.tree.length tc, .pointer (some ⟨w.heap.size + 1, 0, none⟩), .int .i64 x.node, .bool true, .bool (!true), .bool (!true), .pointer (some ⟨w.heap.size, 0, none⟩), .slice ta V.tree.length tc, .agg #[.int .i64 x.node, .int .i64 x.inv], .bool true, .bool (!true), .bool (!true), undef, .bool (!true), .pointer (some ⟨w.heap.size, 0, none⟩), .slice ta V.tree.length tc, .agg #[.slice ta V.tree.length tc, .slice ca (slI V.tree 0).length cc], .agg #[.int .i64 x.node, .int .i64 x.inv], .bool true, .bool (!true), undef, s37, s38, s39, s40, s41, s42, undef, undef, undef, undef, undef, undef, undef, undef, undef, undef, undef, undef, undef, undef, undef, undef, undef], defers := [] } ∧ PopS w3 (w.heap.size) (w.heap.size + 1) (.slice ta V.tree.length tc) (.slice oa V.op.length oc) (.slice ma V.modal.length mc) (.slice pa V.pops.length pc) (.slice qa V.top.length qc) x U ∧ IvL l f 6 w3.heap.size U.heap.size ∧ (l.getD 0 true = true → s38 = .agg #[.slice ta V.tree.length tc, .slice oa V.op.length oc, .slice ma V.modal.length mc, .slice pa V.pops.length pc, .slice qa V.top.length qc]) ∧ (l.getD 1 true = true → RowIn U (f 1) 3 1 s39 (openedL V).length (intCells (openedL V))) ∧ (l.getD 2 true = true → s40 = .pointer (some ⟨w.heap.size + 1, 0, none⟩)) ∧ (l.getD 3 true = true → s41 = .int .i64 x.node) ∧ (l.getD 4 true = true → s42 = .bool false) ∧ (l.getD 5 true = true → s37 = .bool false)) (by kernel_rfl) (by kernel_rfl) ?_ ?_ ?_
    · exact ⟨fun _ => (0, 0), _, _, _, _, _, _, rfl, hS0, IvL.start 6 _ _ _, fun h => by simp at h, fun h => by simp at h, fun h => by simp at h, fun h => by simp at h, fun h => by simp at h, fun h => by simp at h⟩
    · rintro i l a U hi ⟨f, s38, s39, s40, s41, s42, s37, rfl, hS, hIv, h0, h1, h2, h3, h4, h5⟩
      obtain ⟨hun, o, ho, _⟩ := mem_ready.mp hi
      have hlt := (Array.getElem?_eq_some_iff.mp ho).1
      clear ho
      simp only [List.size_toArray, List.length_cons, List.length_nil, Nat.reduceAdd] at hlt
      obtain rfl | rfl | rfl | rfl | rfl | rfl : i = 0 ∨ i = 1 ∨ i = 2 ∨ i = 3 ∨ i = 4 ∨ i = 5 := by omega
      · have pc0 := hS.c0
        have pc1 := hS.c1
        have pc2 := hS.c2
        have pc3 := hS.c3
        have pc4 := hS.c4
        refine inv_step (by rfl) (fun K hK => ?_)
        go_simp
        exact hK.out _ _ ⟨upPart f 0 (U.heap.size, _), _, _, _, _, _, _, rfl, hS, hIv.step (i := 0) hun (by decide) (Nat.le_refl _), fun _ => rfl, fun h => h1 (set_getD (i := 0) (by decide) h), fun h => h2 (set_getD (i := 0) (by decide) h), fun h => h3 (set_getD (i := 0) (by decide) h), fun h => h4 (set_getD (i := 0) (by decide) h), fun h => h5 (set_getD (i := 0) (by decide) h)⟩
      · have e0 := h0 (dep_of hi (d := 0) (by kernel_rfl))
        subst e0
        refine inv_step (by rfl) (fun K hK => ?_)
        go_simp
        (go_at_call 84; refine Calls.mono (opened_any _ _ _ _ _ V U (HV3.out.below hS.bel) ⟨by omega, by omega, by omega⟩) ?_; rintro e w1' ⟨va, vc, rfl, hgot, hb⟩)
        go_wp2_with fail
        have hk : ∀ m, w3.heap.size ≤ m → m < U.heap.size → w1'.heap[m]? = U.heap[m]? := fun m _ h2 => hb.block m h2
        exact hK.out _ _ ⟨upPart f 1 (U.heap.size, _), _, _, _, _, _, _, rfl, hS.below hb, hIv.step (i := 1) hun (by decide) hb.size, fun _ => rfl, fun _ => rowIn_of hgot, fun h => h2 (set_getD (i := 1) (by decide) h), fun h => h3 (set_getD (i := 1) (by decide) h), fun h => h4 (set_getD (i := 1) (by decide) h), fun h => h5 (set_getD (i := 1) (by decide) h)⟩
      · refine inv_step (by rfl) (fun K hK => ?_)
        go_simp
        exact hK.out _ _ ⟨upPart f 2 (U.heap.size, _), _, _, _, _, _, _, rfl, hS, hIv.step (i := 2) hun (by decide) (Nat.le_refl _), fun h => h0 (set_getD (i := 2) (by decide) h), fun h => h1 (set_getD (i := 2) (by decide) h), fun _ => rfl, fun h => h3 (set_getD (i := 2) (by decide) h), fun h => h4 (set_getD (i := 2) (by decide) h), fun h => h5 (set_getD (i := 2) (by decide) h)⟩
      · have e2 := h2 (dep_of hi (d := 2) (by kernel_rfl))
        subst e2
        have xc0 := hS.x0
        refine inv_step (by rfl) (fun K hK => ?_)
        go_simp
        exact hK.out _ _ ⟨upPart f 3 (U.heap.size, _), _, _, _, _, _, _, rfl, hS, hIv.step (i := 3) hun (by decide) (Nat.le_refl _), fun h => h0 (set_getD (i := 3) (by decide) h), fun h => h1 (set_getD (i := 3) (by decide) h), fun _ => rfl, fun _ => rfl, fun h => h4 (set_getD (i := 3) (by decide) h), fun h => h5 (set_getD (i := 3) (by decide) h)⟩
      · have e3 := h3 (dep_of hi (d := 3) (by kernel_rfl))
        subst e3
        have q1 := dep_of hi (d := 1) (by kernel_rfl)
        have r1 := h1 q1
        refine inv_step (by rfl) (fun K hK => ?_)
        go_simp
        (go_at_call 73; refine Calls.mono (contains_any (openedL V) _ x.node U (rowInts r1) (by have := HOL.out; omega)) ?_; rintro e w1' ⟨rfl, hwz⟩)
        obtain rfl : _ = w1' := hwz.symm
        have hb := Below.refl U.heap.size U
        rw [HO.out]
        go_wp2_with fail
        have hk : ∀ m, w3.heap.size ≤ m → m < U.heap.size → U.heap[m]? = U.heap[m]? := fun m _ h2 => hb.block m h2
        exact hK.out _ _ ⟨upPart f 4 (U.heap.size, _), _, _, _, _, _, _, rfl, hS.below hb, hIv.step (i := 4) hun (by decide) hb.size, fun h => h0 (set_getD (i := 4) (by decide) h), fun h => (h1 (set_getD (i := 4) (by decide) h)).keep (hIv.old (set_getD (i := 4) (by decide) h) (by decide) hk), fun h => h2 (set_getD (i := 4) (by decide) h), fun _ => rfl, fun _ => rfl, fun h => h5 (set_getD (i := 4) (by decide) h)⟩
      · have e4 := h4 (dep_of hi (d := 4) (by kernel_rfl))
        subst e4
        refine inv_step (by rfl) (fun K hK => ?_)
        go_simp
        exact hK.out _ _ ⟨upPart f 5 (U.heap.size, _), _, _, _, _, _, _, rfl, hS, hIv.step (i := 5) hun (by decide) (Nat.le_refl _), fun h => h0 (set_getD (i := 5) (by decide) h), fun h => h1 (set_getD (i := 5) (by decide) h), fun h => h2 (set_getD (i := 5) (by decide) h), fun h => h3 (set_getD (i := 5) (by decide) h), fun _ => rfl, fun _ => rfl⟩
    · rintro l a w4 hall ⟨f, s38, s39, s40, s41, s42, s37, rfl, hS, hIv, h0, h1, h2, h3, h4, h5⟩
      have e0 := h0 (hall 0 (by decide))
      have e1 := h1 (hall 1 (by decide))
      have e2 := h2 (hall 2 (by decide))
      have e3 := h3 (hall 3 (by decide))
      have e4 := h4 (hall 4 (by decide))
      have e5 := h5 (hall 5 (by decide))
      have HIV := hideG (hIv.all hall)
      clear hIv hall h0 h1 h2 h3 h4 h5
      subst e0
      subst e2
      subst e3
      subst e4
      subst e5
      obtain ⟨oa', oc', rfl, _⟩ := e1.cap
      have HX4 := hideG (HX3.out.trans (hS.bel.mono HX3.out.size))
      clear hS
      have p0 := cell_below HX4.out P0.out
      have p1 := cell_below HX4.out P1.out
      have p2 := cell_below HX4.out P2.out
      have p3 := cell_below HX4.out P3.out
      have p4 := cell_below HX4.out P4.out
      have hwb : w.heap.size < w4.heap.size := below_of_cell p0
      have HRk := hideG (show ∀ j, j < 5 → ∃ u, w4.cell? ⟨w.heap.size + 2, j, none⟩ = some u ∧ w4.frozen? ⟨w.heap.size + 2, j, none⟩ = false from fun j hj => let ⟨u, h1, h2⟩ := HR.out j hj; ⟨u, cell_below HX4.out h1, frozen_below HX4.out h1 h2⟩)
      obtain ⟨u0, rc0, rf0⟩ := HRk.out 0 (by decide)
      obtain ⟨u1, rc1, rf1⟩ := HRk.out 1 (by decide)
      obtain ⟨u2, rc2, rf2⟩ := HRk.out 2 (by decide)
      obtain ⟨u3, rc3, rf3⟩ := HRk.out 3 (by decide)
      obtain ⟨u4, rc4, rf4⟩ := HRk.out 4 (by decide)
      have x0 := cell_below HX4.out S0.out
      have x1 := cell_below HX4.out S1.out
      go_wp2_with fail
      clear x0 x1 p0 p1 p2 p3 p4 hwb rc0 rc1 rc2 rc3 rc4 rf0 rf1 rf2 rf3 rf4 HRk
      refine (copyV_any _ _ _ _ _ V w4 (HV0.out.below HX4.out) HS.out ⟨HTL.out, by omega, by omega, by omega, by omega⟩).mono ?_
      rintro ex w5 ⟨f, tv', ov', mv', pv', qv', rfl, hov, hb5⟩
      obtain ⟨a5, k5, rfl⟩ := hov.at.tree.shape
      obtain ⟨a8, k8, rfl⟩ := hov.at.op.shape
      obtain ⟨a11, k11, rfl⟩ := hov.at.modal.shape
      obtain ⟨a14, k14, rfl⟩ := hov.at.pops.shape
      obtain ⟨a17, k17, rfl⟩ := hov.at.top.shape
      have hs45 := hb5.size
      have hs4 := HX4.out.size
      have HX5 := hideG (HX4.out.trans (hb5.mono HX4.out.size))
      obtain ⟨W6, hW6⟩ : ∃ W6, w5.alloc (.cells #[.slice a5 V.tree.length k5, .slice a8 V.op.length k8, .slice a11 V.modal.length k11, .slice a14 V.pops.length k14, .slice a17 V.top.length k17] 27) = W6 := ⟨_, rfl⟩
      have hb6 : Below w5.heap.size w5 W6 := by rw [← hW6]; exact (Below.refl _ w5).alloc (Nat.le_refl _) _
      have hnew := World.alloc_heap_new w5 (.cells #[.slice a5 V.tree.length k5, .slice a8 V.op.length k8, .slice a11 V.modal.length k11, .slice a14 V.pops.length k14, .slice a17 V.top.length k17] 27)
      rw [hW6] at hnew
      have hs6 : W6.heap.size = w5.heap.size + 1 := by rw [← hW6]; simp
      have HOB := hideG (show OwnB W6 w4.heap.size (fun j => j = w.heap.size + 2 ∨ j = w5.heap.size) f _ _ _ _ _ V from hov.offB hb6 (fun j hj => by
        have h0 := HS0.out
        rcases hj with rfl | rfl
        · exact ⟨by omega, .inl (by omega)⟩
        · exact ⟨by omega, .inr (Nat.le_refl _)⟩))
      have HX6 := hideG (HX5.out.trans (hb6.mono HX5.out.size))
      have D0 := hideG (show W6.cell? ⟨w5.heap.size, 0, none⟩ = some (.slice a5 V.tree.length k5) ∧ W6.frozen? ⟨w5.heap.size, 0, none⟩ = false from ⟨by simp [World.cell?, hnew], by simp [World.frozen?, hnew]⟩)
      have D1 := hideG (show W6.cell? ⟨w5.heap.size, 1, none⟩ = some (.slice a8 V.op.length k8) ∧ W6.frozen? ⟨w5.heap.size, 1, none⟩ = false from ⟨by simp [World.cell?, hnew], by simp [World.frozen?, hnew]⟩)
      have D2 := hideG (show W6.cell? ⟨w5.heap.size, 2, none⟩ = some (.slice a11 V.modal.length k11) ∧ W6.frozen? ⟨w5.heap.size, 2, none⟩ = false from ⟨by simp [World.cell?, hnew], by simp [World.frozen?, hnew]⟩)
      have D3 := hideG (show W6.cell? ⟨w5.heap.size, 3, none⟩ = some (.slice a14 V.pops.length k14) ∧ W6.frozen? ⟨w5.heap.size, 3, none⟩ = false from ⟨by simp [World.cell?, hnew], by simp [World.frozen?, hnew]⟩)
      have D4 := hideG (show W6.cell? ⟨w5.heap.size, 4, none⟩ = some (.slice a17 V.top.length k17) ∧ W6.frozen? ⟨w5.heap.size, 4, none⟩ = false from ⟨by simp [World.cell?, hnew], by simp [World.frozen?, hnew]⟩)
      have hwb5 : w.heap.size + 2 < w5.heap.size := by have := HS0.out; omega
      have HW6 := hideG hW6
      have HS6 := hideG hs6
      have HZ := hideG (show w.heap.size + 3 ≤ w4.heap.size by have := HS0.out; omega)
      clear hov hb5 hb6 hW6 hnew hs45 hs4 hs6
      have HRX := hideG (show ∀ j, j < 5 → ∃ u, W6.cell? ⟨w.heap.size + 2, j, none⟩ = some u ∧ W6.frozen? ⟨w.heap.size + 2, j, none⟩ = false from fun j hj => let ⟨u, h1, h2⟩ := HR.out j hj; ⟨u, cell_below HX6.out h1, frozen_below HX6.out h1 h2⟩)
      have HBX := hideG (HB0.out.trans (HX6.out.mono HB0.out.size))
      have hz4 : w.heap.size + 3 ≤ w4.heap.size := HZ.out
      have hz5 : w.heap.size ≤ w5.heap.size := by omega
      have X0 := hideG (cell_below HX6.out S0.out)
      have x0 := cell_below HX5.out S0.out
      have x1 := cell_below HX5.out S1.out
      have hx15 : w.heap.size + 1 < w5.heap.size := by omega
      have HROW7 := hideG (show Holds (W6.alloc (.cells #[.int .i64 x.node, .int .i64 x.inv] 39)) (.slice (some ⟨w5.heap.size + 1, 0, none⟩) 1 1) 1 [.int .i64 x.node, .int .i64 x.inv] from by have := row_newS W6 x; rw [HS6.out] at this; exact this)
      have hpl := HOB.out.own.parts.le 3 (by omega)
      have hbt7 : Below W6.heap.size W6 (W6.alloc (.cells #[.int .i64 x.node, .int .i64 x.inv] 39)) := (Below.refl _ _).alloc (Nat.le_refl _) _
      go_wp2_with (at_builtin; rw [HW6.out]; refine wpList_append_any rfl (.tmp 47) (.tmp 49) 25 rfl (f 3).1 39 i39 _ 2 16 Tryz.underlying25 hi39 hz390 hz391 hz392 rfl (by decide) _ (V).pops.length (shCells (V).pops) rfl (HOB.out.own.pops.1.alloc _) _ 1 [.int .i64 x.node, .int .i64 x.inv] rfl HROW7.out rfl ?h2 ?h3 ?h4 ?h5 ?_)
      case h2 => intro y hy; simp at hy; rcases hy with rfl | rfl <;> rfl
      case h3 => simp only [maxLen]; omega
      case h4 => omega
      case h5 => simp; omega
      intro v7 w7 ho7 hg7 hf7
      obtain ⟨a7, c7, rfl⟩ := ownsRow_shape ho7
      rw [shCells_snoc] at ho7
      obtain ⟨g7, hob7⟩ := HOB.out.appPops (w1 := (W6.alloc (.cells #[.int .i64 x.node, .int .i64 x.inv] 39))) hbt7 ho7 hg7 (fun k hk => (hf7 k hk).imp id (fun h => by have h0 := HS6.out; rw [World.size_alloc]; (try simp only [World.size_alloc] at h); omega))
      have e70 := HOB.out.badCell (i := 3) (by omega) HOB.out.own.pops hbt7 hg7 (.inr rfl) D0.out.1
      have ef70 := HOB.out.badFrozen (i := 3) (by omega) HOB.out.own.pops hbt7 hg7 (.inr rfl) D0.out.1 D0.out.2
      have e71 := HOB.out.badCell (i := 3) (by omega) HOB.out.own.pops hbt7 hg7 (.inr rfl) D1.out.1
      have ef71 := HOB.out.badFrozen (i := 3) (by omega) HOB.out.own.pops hbt7 hg7 (.inr rfl) D1.out.1 D1.out.2
      have e72 := HOB.out.badCell (i := 3) (by omega) HOB.out.own.pops hbt7 hg7 (.inr rfl) D2.out.1
      have ef72 := HOB.out.badFrozen (i := 3) (by omega) HOB.out.own.pops hbt7 hg7 (.inr rfl) D2.out.1 D2.out.2
      have e73 := HOB.out.badCell (i := 3) (by omega) HOB.out.own.pops hbt7 hg7 (.inr rfl) D3.out.1
      have ef73 := HOB.out.badFrozen (i := 3) (by omega) HOB.out.own.pops hbt7 hg7 (.inr rfl) D3.out.1 D3.out.2
      have e74 := HOB.out.badCell (i := 3) (by omega) HOB.out.own.pops hbt7 hg7 (.inr rfl) D4.out.1
      have ef74 := HOB.out.badFrozen (i := 3) (by omega) HOB.out.own.pops hbt7 hg7 (.inr rfl) D4.out.1 D4.out.2
      have HR7 := hideG (show ∀ j, j < 5 → ∃ u, w7.cell? ⟨w.heap.size + 2, j, none⟩ = some u ∧ w7.frozen? ⟨w.heap.size + 2, j, none⟩ = false from fun j hj => let ⟨u, h1, h2⟩ := HRX.out j hj; ⟨u, HOB.out.badCell (i := 3) (by omega) HOB.out.own.pops hbt7 hg7 (.inl rfl) h1, HOB.out.badFrozen (i := 3) (by omega) HOB.out.own.pops hbt7 hg7 (.inl rfl) h1 h2⟩)
      have HRY := hideG (show ∀ j, j < 5 → ∃ u, (w7.setCell ⟨w5.heap.size, 3, none⟩ (.slice a7 ((V).pops.length + 1) c7)).cell? ⟨w.heap.size + 2, j, none⟩ = some u ∧ (w7.setCell ⟨w5.heap.size, 3, none⟩ (.slice a7 ((V).pops.length + 1) c7)).frozen? ⟨w.heap.size + 2, j, none⟩ = false from fun j hj => let ⟨u, h1, h2⟩ := HR7.out j hj; ⟨u, set_otherB h1 (by omega), by rw [World.frozen?_setCell]; exact h2⟩)
      have hsX : W6.heap.size ≤ w7.heap.size := by have := hg7.size; simp at this; omega
      have HBY := hideG (show Below w.heap.size w (w7.setCell ⟨w5.heap.size, 3, none⟩ (.slice a7 ((V).pops.length + 1) c7)) from (((HBX.out.alloc HBX.out.size (.cells #[.int .i64 x.node, .int .i64 x.inv] 39)).grown hg7 (by have := HBX.out.size; simp; omega) (fun j e => by have h0 := (HOB.out.own.pops.1.lt j e).1; have h9 := HZ.out; omega)).setCell (p := ⟨w5.heap.size, 3, none⟩) (by show w.heap.size ≤ w5.heap.size; omega) _))
      have HOBY := hideG (hob7.keep (W := (w7.setCell ⟨w5.heap.size, 3, none⟩ (.slice a7 ((V).pops.length + 1) c7))) (by simp) (fun j _ hbad => setc_block (fun e => hbad (.inr e))))
      have x7 := (World.cell?_of_block (a := ⟨w.heap.size + 1, 0, none⟩) (hg7.block (w.heap.size + 1) (by have := HS6.out; simp; omega) (fun e => by have h8 := (HOB.out.own.pops.1.lt _ e.symm).1; omega))).trans (cell_below hbt7 X0.out)
      have x7s : (w7.setCell ⟨w5.heap.size, 3, none⟩ (.slice a7 ((V).pops.length + 1) c7)).cell? ⟨w.heap.size + 1, 0, none⟩ = some (.int .i64 x.node) := set_otherB x7 (by omega)
      clear x0 x1
      have E0 := hideG (show (w7.setCell ⟨w5.heap.size, 3, none⟩ (.slice a7 ((V).pops.length + 1) c7)).cell? ⟨w5.heap.size, 0, none⟩ = some (.slice a5 V.tree.length k5) ∧ (w7.setCell ⟨w5.heap.size, 3, none⟩ (.slice a7 ((V).pops.length + 1) c7)).frozen? ⟨w5.heap.size, 0, none⟩ = false from ⟨set_other e70 (by decide), by rw [World.frozen?_setCell]; exact ef70⟩)
      have E1 := hideG (show (w7.setCell ⟨w5.heap.size, 3, none⟩ (.slice a7 ((V).pops.length + 1) c7)).cell? ⟨w5.heap.size, 1, none⟩ = some (.slice a8 V.op.length k8) ∧ (w7.setCell ⟨w5.heap.size, 3, none⟩ (.slice a7 ((V).pops.length + 1) c7)).frozen? ⟨w5.heap.size, 1, none⟩ = false from ⟨set_other e71 (by decide), by rw [World.frozen?_setCell]; exact ef71⟩)
      have E2 := hideG (show (w7.setCell ⟨w5.heap.size, 3, none⟩ (.slice a7 ((V).pops.length + 1) c7)).cell? ⟨w5.heap.size, 2, none⟩ = some (.slice a11 V.modal.length k11) ∧ (w7.setCell ⟨w5.heap.size, 3, none⟩ (.slice a7 ((V).pops.length + 1) c7)).frozen? ⟨w5.heap.size, 2, none⟩ = false from ⟨set_other e72 (by decide), by rw [World.frozen?_setCell]; exact ef72⟩)
      have E3 := hideG (show (w7.setCell ⟨w5.heap.size, 3, none⟩ (.slice a7 ((V).pops.length + 1) c7)).cell? ⟨w5.heap.size, 3, none⟩ = some (.slice a7 ((V).pops.length + 1) c7) ∧ (w7.setCell ⟨w5.heap.size, 3, none⟩ (.slice a7 ((V).pops.length + 1) c7)).frozen? ⟨w5.heap.size, 3, none⟩ = false from ⟨set_same e73, by rw [World.frozen?_setCell]; exact ef73⟩)
      have E4 := hideG (show (w7.setCell ⟨w5.heap.size, 3, none⟩ (.slice a7 ((V).pops.length + 1) c7)).cell? ⟨w5.heap.size, 4, none⟩ = some (.slice a17 V.top.length k17) ∧ (w7.setCell ⟨w5.heap.size, 3, none⟩ (.slice a7 ((V).pops.length + 1) c7)).frozen? ⟨w5.heap.size, 4, none⟩ = false from ⟨set_other e74 (by decide), by rw [World.frozen?_setCell]; exact ef74⟩)
      clear hbt7 ho7 hg7 hf7 hob7 hpl hsX
      obtain ⟨W8, hW8⟩ : ∃ W8, (w7.setCell ⟨w5.heap.size, 3, none⟩ (.slice a7 ((V).pops.length + 1) c7)) = W8 := ⟨_, rfl⟩
      have HW8 := hideG hW8
      have HS8 := hideG (show W8.heap.size = w7.heap.size by rw [← hW8]; simp)
      rw [hW8] at HRY HBY HOBY E0 E1 E2 E3 E4
      have HOB8 := HOBY
      have HRX := HRY
      have HBX := HBY
      have D0 := E0
      have D1 := E1
      have D2 := E2
      have D3 := E3
      have D4 := E4
      clear HOBY HRY HBY E0 E1 E2 E3 E4 hW8
      have HROW9 := hideG (show Holds (W8.alloc (.cells #[.int .i64 x.node] 3)) (.slice (some ⟨w7.heap.size, 0, none⟩) 1 1) 1 [.int .i64 x.node] from by have := row_new1 W8 x.node; rw [HS8.out] at this; exact this)
      have hpl := HOB8.out.own.parts.le 4 (by omega)
      have hbt9 : Below W8.heap.size W8 (W8.alloc (.cells #[.int .i64 x.node] 3)) := (Below.refl _ _).alloc (Nat.le_refl _) _
      go_wp2_with (at_builtin; rw [HW8.out]; refine wpList_append_any rfl (.tmp 53) (.tmp 56) 24 rfl (g7 4).1 3 i3 _ 1 8 Tryz.underlying24 hi3 hz30 hz31 hz32 rfl (by decide) _ ({ V with pops := V.pops ++ [x] } : Vw).top.length (intCells ({ V with pops := V.pops ++ [x] } : Vw).top) rfl (HOB8.out.own.top.1.alloc _) _ 1 [.int .i64 x.node] rfl HROW9.out rfl ?h2 ?h3 ?h4 ?h5 ?_)
      case h2 => intro y hy; simp at hy; subst hy; rfl
      case h3 => simp only [maxLen]; omega
      case h4 => omega
      case h5 => simp; omega
      intro v9 w9 ho9 hg9 hf9
      obtain ⟨a9, c9, rfl⟩ := ownsRow_shape ho9
      rw [intCells_snoc] at ho9
      obtain ⟨g9, hob9⟩ := HOB8.out.appTop (w1 := (W8.alloc (.cells #[.int .i64 x.node] 3))) hbt9 ho9 hg9 (fun k hk => (hf9 k hk).imp id (fun h => by have h0 := HS8.out; rw [World.size_alloc]; (try simp only [World.size_alloc] at h); omega))
      have e90 := HOB8.out.badCell (i := 4) (by omega) HOB8.out.own.top hbt9 hg9 (.inr rfl) D0.out.1
      have ef90 := HOB8.out.badFrozen (i := 4) (by omega) HOB8.out.own.top hbt9 hg9 (.inr rfl) D0.out.1 D0.out.2
      have e91 := HOB8.out.badCell (i := 4) (by omega) HOB8.out.own.top hbt9 hg9 (.inr rfl) D1.out.1
      have ef91 := HOB8.out.badFrozen (i := 4) (by omega) HOB8.out.own.top hbt9 hg9 (.inr rfl) D1.out.1 D1.out.2
      have e92 := HOB8.out.badCell (i := 4) (by omega) HOB8.out.own.top hbt9 hg9 (.inr rfl) D2.out.1
      have ef92 := HOB8.out.badFrozen (i := 4) (by omega) HOB8.out.own.top hbt9 hg9 (.inr rfl) D2.out.1 D2.out.2
      have e93 := HOB8.out.badCell (i := 4) (by omega) HOB8.out.own.top hbt9 hg9 (.inr rfl) D3.out.1
      have ef93 := HOB8.out.badFrozen (i := 4) (by omega) HOB8.out.own.top hbt9 hg9 (.inr rfl) D3.out.1 D3.out.2
      have e94 := HOB8.out.badCell (i := 4) (by omega) HOB8.out.own.top hbt9 hg9 (.inr rfl) D4.out.1
      have ef94 := HOB8.out.badFrozen (i := 4) (by omega) HOB8.out.own.top hbt9 hg9 (.inr rfl) D4.out.1 D4.out.2
      have HR9 := hideG (show ∀ j, j < 5 → ∃ u, w9.cell? ⟨w.heap.size + 2, j, none⟩ = some u ∧ w9.frozen? ⟨w.heap.size + 2, j, none⟩ = false from fun j hj => let ⟨u, h1, h2⟩ := HRX.out j hj; ⟨u, HOB8.out.badCell (i := 4) (by omega) HOB8.out.own.top hbt9 hg9 (.inl rfl) h1, HOB8.out.badFrozen (i := 4) (by omega) HOB8.out.own.top hbt9 hg9 (.inl rfl) h1 h2⟩)
      have HRY := hideG (show ∀ j, j < 5 → ∃ u, (w9.setCell ⟨w5.heap.size, 4, none⟩ (.slice a9 (({ V with pops := V.pops ++ [x] } : Vw).top.length + 1) c9)).cell? ⟨w.heap.size + 2, j, none⟩ = some u ∧ (w9.setCell ⟨w5.heap.size, 4, none⟩ (.slice a9 (({ V with pops := V.pops ++ [x] } : Vw).top.length + 1) c9)).frozen? ⟨w.heap.size + 2, j, none⟩ = false from fun j hj => let ⟨u, h1, h2⟩ := HR9.out j hj; ⟨u, set_otherB h1 (by omega), by rw [World.frozen?_setCell]; exact h2⟩)
      have hsX : W8.heap.size ≤ w9.heap.size := by have := hg9.size; simp at this; omega
      have HBY := hideG (show Below w.heap.size w (w9.setCell ⟨w5.heap.size, 4, none⟩ (.slice a9 (({ V with pops := V.pops ++ [x] } : Vw).top.length + 1) c9)) from (((HBX.out.alloc HBX.out.size (.cells #[.int .i64 x.node] 3)).grown hg9 (by have := HBX.out.size; simp; omega) (fun j e => by have h0 := (HOB8.out.own.top.1.lt j e).1; have h9 := HZ.out; omega)).setCell (p := ⟨w5.heap.size, 4, none⟩) (by show w.heap.size ≤ w5.heap.size; omega) _))
      have HOBY := hideG (hob9.keep (W := (w9.setCell ⟨w5.heap.size, 4, none⟩ (.slice a9 (({ V with pops := V.pops ++ [x] } : Vw).top.length + 1) c9))) (by simp) (fun j _ hbad => setc_block (fun e => hbad (.inr e))))
      have E0 := hideG (show (w9.setCell ⟨w5.heap.size, 4, none⟩ (.slice a9 (({ V with pops := V.pops ++ [x] } : Vw).top.length + 1) c9)).cell? ⟨w5.heap.size, 0, none⟩ = some (.slice a5 V.tree.length k5) ∧ (w9.setCell ⟨w5.heap.size, 4, none⟩ (.slice a9 (({ V with pops := V.pops ++ [x] } : Vw).top.length + 1) c9)).frozen? ⟨w5.heap.size, 0, none⟩ = false from ⟨set_other e90 (by decide), by rw [World.frozen?_setCell]; exact ef90⟩)
      have E1 := hideG (show (w9.setCell ⟨w5.heap.size, 4, none⟩ (.slice a9 (({ V with pops := V.pops ++ [x] } : Vw).top.length + 1) c9)).cell? ⟨w5.heap.size, 1, none⟩ = some (.slice a8 V.op.length k8) ∧ (w9.setCell ⟨w5.heap.size, 4, none⟩ (.slice a9 (({ V with pops := V.pops ++ [x] } : Vw).top.length + 1) c9)).frozen? ⟨w5.heap.size, 1, none⟩ = false from ⟨set_other e91 (by decide), by rw [World.frozen?_setCell]; exact ef91⟩)
      have E2 := hideG (show (w9.setCell ⟨w5.heap.size, 4, none⟩ (.slice a9 (({ V with pops := V.pops ++ [x] } : Vw).top.length + 1) c9)).cell? ⟨w5.heap.size, 2, none⟩ = some (.slice a11 V.modal.length k11) ∧ (w9.setCell ⟨w5.heap.size, 4, none⟩ (.slice a9 (({ V with pops := V.pops ++ [x] } : Vw).top.length + 1) c9)).frozen? ⟨w5.heap.size, 2, none⟩ = false from ⟨set_other e92 (by decide), by rw [World.frozen?_setCell]; exact ef92⟩)
      have E3 := hideG (show (w9.setCell ⟨w5.heap.size, 4, none⟩ (.slice a9 (({ V with pops := V.pops ++ [x] } : Vw).top.length + 1) c9)).cell? ⟨w5.heap.size, 3, none⟩ = some (.slice a7 ((V).pops.length + 1) c7) ∧ (w9.setCell ⟨w5.heap.size, 4, none⟩ (.slice a9 (({ V with pops := V.pops ++ [x] } : Vw).top.length + 1) c9)).frozen? ⟨w5.heap.size, 3, none⟩ = false from ⟨set_other e93 (by decide), by rw [World.frozen?_setCell]; exact ef93⟩)
      have E4 := hideG (show (w9.setCell ⟨w5.heap.size, 4, none⟩ (.slice a9 (({ V with pops := V.pops ++ [x] } : Vw).top.length + 1) c9)).cell? ⟨w5.heap.size, 4, none⟩ = some (.slice a9 (({ V with pops := V.pops ++ [x] } : Vw).top.length + 1) c9) ∧ (w9.setCell ⟨w5.heap.size, 4, none⟩ (.slice a9 (({ V with pops := V.pops ++ [x] } : Vw).top.length + 1) c9)).frozen? ⟨w5.heap.size, 4, none⟩ = false from ⟨set_same e94, by rw [World.frozen?_setCell]; exact ef94⟩)
      obtain ⟨u0, rc0, rf0⟩ := HR9.out 0 (by decide)
      obtain ⟨u1, rc1, rf1⟩ := HR9.out 1 (by decide)
      obtain ⟨u2, rc2, rf2⟩ := HR9.out 2 (by decide)
      obtain ⟨u3, rc3, rf3⟩ := HR9.out 3 (by decide)
      obtain ⟨u4, rc4, rf4⟩ := HR9.out 4 (by decide)
      clear hbt9 ho9 hg9 hf9 hob9 hpl hsX
      go_wp2_with fail
      have hat := set5_at (U := (w9.setCell ⟨w5.heap.size, 4, none⟩ (.slice a9 (({ V with pops := V.pops ++ [x] } : Vw).top.length + 1) c9))) (R := w.heap.size + 2) (v0 := .slice a5 V.tree.length k5) (v1 := .slice a8 V.op.length k8) (v2 := .slice a11 V.modal.length k11) (v3 := .slice a7 ((V).pops.length + 1) c7) (v4 := .slice a9 (({ V with pops := V.pops ++ [x] } : Vw).top.length + 1) c9) HRY.out
      unfold set5 at hat
      obtain ⟨t0, t1, t2, t3, t4⟩ := hat
      refine bodyPost_ret (v := .tuple #[.agg #[.slice a5 V.tree.length k5, .slice a8 V.op.length k8, .slice a11 V.modal.length k11, .slice a7 ((V).pops.length + 1) c7, .slice a9 (({ V with pops := V.pops ++ [x] } : Vw).top.length + 1) c9], .int .i64 (0)]) (by simp [results, Tryz.f31, go_sem, t0, t1, t2, t3, t4]) rfl ?_
      refine ⟨_, _, _, _, _, rfl, ?_, set5_below HBY.out (by omega)⟩
      exact (HOBY.out.keep (W := set5 (w9.setCell ⟨w5.heap.size, 4, none⟩ (.slice a9 (({ V with pops := V.pops ++ [x] } : Vw).top.length + 1) c9)) (w.heap.size + 2) (.slice a5 V.tree.length k5) (.slice a8 V.op.length k8) (.slice a11 V.modal.length k11) (.slice a7 ((V).pops.length + 1) c7) (.slice a9 (({ V with pops := V.pops ++ [x] } : Vw).top.length + 1) c9)) (by rw [set5_size]; exact Nat.le_refl _) (fun j _ hbad => set5_block (fun e => hbad (.inl e)))).at
end Go.Proofs.YtclhimodopgeoaaGreat

namespace Go.Proofs.YtclhimodopgeoaaGreat
open Go.RowKit

set_option maxRecDepth 100000 in
set_option maxHeartbeats 4000000 in
theorem closeOk (tv ov mv pv qv : Value) (V : Vw) (w : World) (hV : ViewAt w tv ov mv pv qv V) (hS : Sane V.tree) (hl : smallL V) (n : Int) (htl : V.tree.length ≤ 1000) (hck : checkV V = 0) (hn : isNodeB V.tree.length n = true) (ho : containsB (openedL V) n = true) :
    Calls Tryz.prog 33 #[.agg #[tv, ov, mv, pv, qv], .int .i64 n] w fun x w' => ∃ t o m p q, x = .returned (.tuple #[.agg #[t, o, m, p, q], .int .i64 (0)]) ∧ ViewAt w' t o m p q (closeL V n) ∧ Below w.heap.size w w' := by
  have HTLx := htl
  obtain ⟨hT, hO, hM, hP, hQ⟩ := hV
  obtain ⟨ta, tc, rfl⟩ := hT.shape
  obtain ⟨oa, oc, rfl⟩ := hO.shape
  obtain ⟨ma, mc, rfl⟩ := hM.shape
  obtain ⟨pa, pc, rfl⟩ := hP.shape
  obtain ⟨qa, qc, rfl⟩ := hQ.shape
  obtain ⟨W0, hW0⟩ : ∃ W0, ((w.alloc (.cells #[.slice ta V.tree.length tc, .slice oa V.op.length oc, .slice ma V.modal.length mc, .slice pa V.pops.length pc, .slice qa V.top.length qc] 27)).alloc (.cells #[.int .i64 n] 3)).alloc (.cells #[.slice none 0 0, .slice none 0 0, .slice none 0 0, .slice none 0 0, .slice none 0 0] 27) = W0 := ⟨_, rfl⟩
  have hbw : Below w.heap.size w W0 := by rw [← hW0]; exact (((Below.refl _ w).alloc (Nat.le_refl _) _).alloc (by simp) _).alloc (by simp; omega) _
  have HB0 := hideG hbw
  have P0 := hideG (show W0.cell? ⟨w.heap.size, 0, none⟩ = some (.slice ta V.tree.length tc) by rw [← hW0]; exact cell_alloc_l _ (cell_alloc_l _ (by simp)))
  have P1 := hideG (show W0.cell? ⟨w.heap.size, 1, none⟩ = some (.slice oa V.op.length oc) by rw [← hW0]; exact cell_alloc_l _ (cell_alloc_l _ (by simp)))
  have P2 := hideG (show W0.cell? ⟨w.heap.size, 2, none⟩ = some (.slice ma V.modal.length mc) by rw [← hW0]; exact cell_alloc_l _ (cell_alloc_l _ (by simp)))
  have P3 := hideG (show W0.cell? ⟨w.heap.size, 3, none⟩ = some (.slice pa V.pops.length pc) by rw [← hW0]; exact cell_alloc_l _ (cell_alloc_l _ (by simp)))
  have P4 := hideG (show W0.cell? ⟨w.heap.size, 4, none⟩ = some (.slice qa V.top.length qc) by rw [← hW0]; exact cell_alloc_l _ (cell_alloc_l _ (by simp)))
  obtain ⟨Wx, hWx⟩ : ∃ Wx, (w.alloc (.cells #[.slice ta V.tree.length tc, .slice oa V.op.length oc, .slice ma V.modal.length mc, .slice pa V.pops.length pc, .slice qa V.top.length qc] 27)).alloc (.cells #[.int .i64 n] 3) = Wx := ⟨_, rfl⟩
  have hx1 := World.alloc_heap_new (w.alloc (.cells #[.slice ta V.tree.length tc, .slice oa V.op.length oc, .slice ma V.modal.length mc, .slice pa V.pops.length pc, .slice qa V.top.length qc] 27)) (.cells #[.int .i64 n] 3)
  rw [World.size_alloc, hWx] at hx1
  have S0 := hideG (show W0.cell? ⟨w.heap.size + 1, 0, none⟩ = some (.int .i64 n) by rw [← hW0, hWx]; exact cell_alloc_l _ (by simp [World.cell?, hx1]))
  clear hx1 hWx
  have HR := hideG (show ∀ j, j < 5 → ∃ u, W0.cell? ⟨w.heap.size + 2, j, none⟩ = some u ∧ W0.frozen? ⟨w.heap.size + 2, j, none⟩ = false from by
    have h1 := World.alloc_heap_new ((w.alloc (.cells #[.slice ta V.tree.length tc, .slice oa V.op.length oc, .slice ma V.modal.length mc, .slice pa V.pops.length pc, .slice qa V.top.length qc] 27)).alloc (.cells #[.int .i64 n] 3)) (.cells #[.slice none 0 0, .slice none 0 0, .slice none 0 0, .slice none 0 0, .slice none 0 0] 27)
    rw [World.size_alloc, World.size_alloc, hW0] at h1
    intro j hj
    obtain rfl | rfl | rfl | rfl | rfl : j = 0 ∨ j = 1 ∨ j = 2 ∨ j = 3 ∨ j = 4 := by omega
    all_goals exact ⟨.slice none 0 0, by simp [World.cell?, h1], by simp [World.frozen?, h1]⟩)
  have hs0 : W0.heap.size = w.heap.size + 3 := by rw [← hW0]; simp
  have HS0 := hideG hs0
  have HV := hideG (show ViewAt w _ _ _ _ _ V from ⟨hT, hO, hM, hP, hQ⟩)
  have HV0 := hideG (HV.out.below hbw)
  have HW0 := hideG hW0
  have HS := hideG hS
  have HL := hideG hl
  have HC := hideG (checkV_any _ _ _ _ _ V W0 HV0.out HS.out HL.out)
  have h1l : V.op.length ≤ 500 := hl.1
  have h2l : V.modal.length ≤ 500 := hl.2.1
  have h3l : V.pops.length ≤ 500 := hl.2.2.1
  have h4l : V.top.length ≤ 1000 := hl.2.2.2
  have p0 := P0.out
  have p1 := P1.out
  have p2 := P2.out
  have p3 := P3.out
  have p4 := P4.out
  rw [hck] at HC
  clear hW0 hT hO hM hP hQ hS hl hbw hs0 hck
  have HN := hideG hn
  have HO := hideG ho
  clear hn ho
  go_enter Tryz.func33, Tryz.ntmps33
  go_wp2_with fail
  rw [HW0.out]
  refine HC.out.mono ?_
  rintro ex w1 ⟨rfl, hb1⟩
  have HX1 := hideG hb1
  clear hb1 p0 p1 p2 p3 p4
  have p0 := cell_below HX1.out P0.out
  have p1 := cell_below HX1.out P1.out
  have p2 := cell_below HX1.out P2.out
  have p3 := cell_below HX1.out P3.out
  have p4 := cell_below HX1.out P4.out
  have hwb : w.heap.size < w1.heap.size := below_of_cell p0
  have HRk := hideG (show ∀ j, j < 5 → ∃ u, w1.cell? ⟨w.heap.size + 2, j, none⟩ = some u ∧ w1.frozen? ⟨w.heap.size + 2, j, none⟩ = false from fun j hj => let ⟨u, h1, h2⟩ := HR.out j hj; ⟨u, cell_below HX1.out h1, frozen_below HX1.out h1 h2⟩)
  obtain ⟨u0, rc0, rf0⟩ := HRk.out 0 (by decide)
  obtain ⟨u1, rc1, rf1⟩ := HRk.out 1 (by decide)
  obtain ⟨u2, rc2, rf2⟩ := HRk.out 2 (by decide)
  obtain ⟨u3, rc3, rf3⟩ := HRk.out 3 (by decide)
  obtain ⟨u4, rc4, rf4⟩ := HRk.out 4 (by decide)
  have x0 := cell_below HX1.out S0.out
  have hS0 := NumS.start p0 p1 p2 p3 p4 x0
  have HV1 := hideG (HV0.out.below HX1.out)
  have HOL := hideG (opened_len V)
  go_wp2_with (go_at_call 83; refine (isNode10_any _ _ _ _ _).mono ?_; rintro e wz ⟨rfl, hwz⟩; obtain rfl : _ = wz := hwz.symm; rw [HN.out])
  clear x0 p0 p1 p2 p3 p4 hwb rc0 rc1 rc2 rc3 rc4 rf0 rf1 rf2 rf3 rf4 HRk
  refine wp_region_inv (fun l a U => ∃ (f : Nat → Nat × Nat) (s23 s24 s25 s26 s27 s22 : Value), a = { tmps := #[.agg #[.slice ta V.tree.length tc, .slice oa V.op.length oc, .slice ma V.modal.length mc, .slice pa V.pops.length pc, .slice qa V.top.length qc], .int .i64 n, .pointer (some ⟨w.heap.size, 0, none⟩), .pointer (some ⟨w.heap.size + 1, 0, none⟩), .pointer (some ⟨w.heap.size + 2, 0, none⟩), .int .i64 0, .int .i64 0, undef, undef, .agg #[.slice ta V.tree.length tc, .slice oa V.op.length oc, .slice ma V.modal.length mc, .slice pa V.pops.length pc, .slice qa V.top.length qc], .int .i64 0, .int .i64 0, .bool false, undef, undef, .bool (!true), .pointer (some ⟨w.heap.size, 0, none⟩), .slice ta V.tree.length tc, .int .i64 n, .bool true, .bool (!true), undef, s22, s23, s24, s25, s26, s27, undef, undef, undef, undef, undef, undef, undef, undef, undef, undef, undef, undef, undef, undef, undef, undef, undef, undef, undef, undef, undef, undef, undef, undef, undef, undef, undef, undef, undef, undef, undef, undef, undef, undef, undef, undef, undef, undef, undef], defers := [] } ∧ NumS w1 (w.heap.size) (w.heap.size + 1) (.slice ta V.tree.length tc) (.slice oa V.op.length oc) (.slice ma V.modal.length mc) (.slice pa V.pops.length pc) (.slice qa V.top.length qc) n U ∧ IvL l f 6 w1.heap.size U.heap.size ∧ (l.getD 0 true = true → s23 = .agg #[.slice ta V.tree.length tc, .slice oa V.op.length oc, .slice ma V.modal.length mc, .slice pa V.pops.length pc, .slice qa V.top.length qc]) ∧ (l.getD 1 true = true → RowIn U (f 1) 3 1 s24 (openedL V).length (intCells (openedL V))) ∧ (l.getD 2 true = true → s25 = .int .i64 n) ∧ (l.getD 3 true = true → s26 = .bool true) ∧ (l.getD 4 true = true → s27 = .bool (!true)) ∧ (l.getD 5 true = true → s22 = .bool (!true))) (by kernel_rfl) (by kernel_rfl) ?_ ?_ ?_
  · exact ⟨fun _ => (0, 0), _, _, _, _, _, _, rfl, hS0, IvL.start 6 _ _ _, fun h => by simp at h, fun h => by simp at h, fun h => by simp at h, fun h => by simp at h, fun h => by simp at h, fun h => by simp at h⟩
  · rintro i l a U hi ⟨f, s23, s24, s25, s26, s27, s22, rfl, hS, hIv, h0, h1, h2, h3, h4, h5⟩
    obtain ⟨hun, o, ho, _⟩ := mem_ready.mp hi
    have hlt := (Array.getElem?_eq_some_iff.mp ho).1
    clear ho
    simp only [List.size_toArray, List.length_cons, List.length_nil, Nat.reduceAdd] at hlt
    obtain rfl | rfl | rfl | rfl | rfl | rfl : i = 0 ∨ i = 1 ∨ i = 2 ∨ i = 3 ∨ i = 4 ∨ i = 5 := by omega
    · have pc0 := hS.c0
      have pc1 := hS.c1
      have pc2 := hS.c2
      have pc3 := hS.c3
      have pc4 := hS.c4
      refine inv_step (by rfl) (fun K hK => ?_)
      go_simp
      exact hK.out _ _ ⟨upPart f 0 (U.heap.size, _), _, _, _, _, _, _, rfl, hS, hIv.step (i := 0) hun (by decide) (Nat.le_refl _), fun _ => rfl, fun h => h1 (set_getD (i := 0) (by decide) h), fun h => h2 (set_getD (i := 0) (by decide) h), fun h => h3 (set_getD (i := 0) (by decide) h), fun h => h4 (set_getD (i := 0) (by decide) h), fun h => h5 (set_getD (i := 0) (by decide) h)⟩
    · have e0 := h0 (dep_of hi (d := 0) (by kernel_rfl))
      subst e0
      refine inv_step (by rfl) (fun K hK => ?_)
      go_simp
      (go_at_call 84; refine Calls.mono (opened_any _ _ _ _ _ V U (HV1.out.below hS.bel) ⟨by omega, by omega, by omega⟩) ?_; rintro e w1' ⟨va, vc, rfl, hgot, hb⟩)
      go_wp2_with fail
      have hk : ∀ m, w1.heap.size ≤ m → m < U.heap.size → w1'.heap[m]? = U.heap[m]? := fun m _ h2 => hb.block m h2
      exact hK.out _ _ ⟨upPart f 1 (U.heap.size, _), _, _, _, _, _, _, rfl, hS.below hb, hIv.step (i := 1) hun (by decide) hb.size, fun _ => rfl, fun _ => rowIn_of hgot, fun h => h2 (set_getD (i := 1) (by decide) h), fun h => h3 (set_getD (i := 1) (by decide) h), fun h => h4 (set_getD (i := 1) (by decide) h), fun h => h5 (set_getD (i := 1) (by decide) h)⟩
    · have xc0 := hS.x0
      refine inv_step (by rfl) (fun K hK => ?_)
      go_simp
      exact hK.out _ _ ⟨upPart f 2 (U.heap.size, _), _, _, _, _, _, _, rfl, hS, hIv.step (i := 2) hun (by decide) (Nat.le_refl _), fun h => h0 (set_getD (i := 2) (by decide) h), fun h => h1 (set_getD (i := 2) (by decide) h), fun _ => rfl, fun h => h3 (set_getD (i := 2) (by decide) h), fun h => h4 (set_getD (i := 2) (by decide) h), fun h => h5 (set_getD (i := 2) (by decide) h)⟩
    · have e2 := h2 (dep_of hi (d := 2) (by kernel_rfl))
      subst e2
      have q1 := dep_of hi (d := 1) (by kernel_rfl)
      have r1 := h1 q1
      refine inv_step (by rfl) (fun K hK => ?_)
      go_simp
      (go_at_call 73; refine Calls.mono (contains_any (openedL V) _ n U (rowInts r1) (by have := HOL.out; omega)) ?_; rintro e w1' ⟨rfl, hwz⟩)
      obtain rfl : _ = w1' := hwz.symm
      have hb := Below.refl U.heap.size U
      rw [HO.out]
      go_wp2_with fail
      have hk : ∀ m, w1.heap.size ≤ m → m < U.heap.size → U.heap[m]? = U.heap[m]? := fun m _ h2 => hb.block m h2
      exact hK.out _ _ ⟨upPart f 3 (U.heap.size, _), _, _, _, _, _, _, rfl, hS.below hb, hIv.step (i := 3) hun (by decide) hb.size, fun h => h0 (set_getD (i := 3) (by decide) h), fun h => (h1 (set_getD (i := 3) (by decide) h)).keep (hIv.old (set_getD (i := 3) (by decide) h) (by decide) hk), fun _ => rfl, fun _ => rfl, fun h => h4 (set_getD (i := 3) (by decide) h), fun h => h5 (set_getD (i := 3) (by decide) h)⟩
    · have e3 := h3 (dep_of hi (d := 3) (by kernel_rfl))
      subst e3
      refine inv_step (by rfl) (fun K hK => ?_)
      go_simp
      exact hK.out _ _ ⟨upPart f 4 (U.heap.size, _), _, _, _, _, _, _, rfl, hS, hIv.step (i := 4) hun (by decide) (Nat.le_refl _), fun h => h0 (set_getD (i := 4) (by decide) h), fun h => h1 (set_getD (i := 4) (by decide) h), fun h => h2 (set_getD (i := 4) (by decide) h), fun _ => rfl, fun _ => rfl, fun h => h5 (set_getD (i := 4) (by decide) h)⟩
    · have e4 := h4 (dep_of hi (d := 4) (by kernel_rfl))
      subst e4
      refine inv_step (by rfl) (fun K hK => ?_)
      go_simp
      exact hK.out _ _ ⟨upPart f 5 (U.heap.size, _), _, _, _, _, _, _, rfl, hS, hIv.step (i := 5) hun (by decide) (Nat.le_refl _), fun h => h0 (set_getD (i := 5) (by decide) h), fun h => h1 (set_getD (i := 5) (by decide) h), fun h => h2 (set_getD (i := 5) (by decide) h), fun h => h3 (set_getD (i := 5) (by decide) h), fun _ => rfl, fun _ => rfl⟩
  · rintro l a w2 hall ⟨f, s23, s24, s25, s26, s27, s22, rfl, hS, hIv, h0, h1, h2, h3, h4, h5⟩
    have e0 := h0 (hall 0 (by decide))
    have e1 := h1 (hall 1 (by decide))
    have e2 := h2 (hall 2 (by decide))
    have e3 := h3 (hall 3 (by decide))
    have e4 := h4 (hall 4 (by decide))
    have e5 := h5 (hall 5 (by decide))
    have HIV := hideG (hIv.all hall)
    clear hIv hall h0 h1 h2 h3 h4 h5
    subst e0
    subst e2
    subst e3
    subst e4
    subst e5
    obtain ⟨oa', oc', rfl, _⟩ := e1.cap
    have HX2 := hideG (HX1.out.trans (hS.bel.mono HX1.out.size))
    clear hS
    have p0 := cell_below HX2.out P0.out
    have p1 := cell_below HX2.out P1.out
    have p2 := cell_below HX2.out P2.out
    have p3 := cell_below HX2.out P3.out
    have p4 := cell_below HX2.out P4.out
    have hwb : w.heap.size < w2.heap.size := below_of_cell p0
    have HRk := hideG (show ∀ j, j < 5 → ∃ u, w2.cell? ⟨w.heap.size + 2, j, none⟩ = some u ∧ w2.frozen? ⟨w.heap.size + 2, j, none⟩ = false from fun j hj => let ⟨u, h1, h2⟩ := HR.out j hj; ⟨u, cell_below HX2.out h1, frozen_below HX2.out h1 h2⟩)
    obtain ⟨u0, rc0, rf0⟩ := HRk.out 0 (by decide)
    obtain ⟨u1, rc1, rf1⟩ := HRk.out 1 (by decide)
    obtain ⟨u2, rc2, rf2⟩ := HRk.out 2 (by decide)
    obtain ⟨u3, rc3, rf3⟩ := HRk.out 3 (by decide)
    obtain ⟨u4, rc4, rf4⟩ := HRk.out 4 (by decide)
    have x0 := cell_below HX2.out S0.out
    obtain ⟨W4, hW4⟩ : ∃ W4, w2.alloc (.cells #[.func (.func 86) #[] #[.pointer (some ⟨w.heap.size + 1, 0, none⟩)]] 69) = W4 := ⟨_, rfl⟩
    have hb4 : Below w2.heap.size w2 W4 := by rw [← hW4]; exact (Below.refl _ w2).alloc (Nat.le_refl _) _
    have hs4 : W4.heap.size = w2.heap.size + 1 := by rw [← hW4]; simp
    have F7 := hideG (show W4.cell? ⟨w2.heap.size, 0, none⟩ = some (.func (.func 86) #[] #[.pointer (some ⟨w.heap.size + 1, 0, none⟩)]) by rw [← hW4]; simp)
    have HX4 := hideG (HX2.out.trans (hb4.mono HX2.out.size))
    have HW4 := hideG hW4
    have hs2 : w.heap.size + 3 ≤ w2.heap.size := by have := HX2.out.size; have := HS0.out; omega
    clear hb4 hW4
    go_wp2_with fail
    rw [HW4.out]
    clear x0 p0 p1 p2 p3 p4 hwb rc0 rc1 rc2 rc3 rc4 rf0 rf1 rf2 rf3 rf4 HRk
    refine (treeCopy_any V.tree HS.out _ W4 (HV0.out.tree.below HX4.out) htl).mono ?_
    rintro ex w5 ⟨tv', rfl, hti, hb5⟩
    obtain ⟨a5, k5, rfl⟩ := hti.at.shape
    have hs5 : w2.heap.size + 1 ≤ w5.heap.size := by have := hb5.size; omega
    have HTI := hideG hti
    obtain ⟨X0, hX0⟩ : ∃ X0, w5.alloc (.cells #[.slice a5 V.tree.length k5, .slice none 0 0, .slice none 0 0, .slice none 0 0, .slice none 0 0] 27) = X0 := ⟨_, rfl⟩
    have hb6 : Below w5.heap.size w5 X0 := by rw [← hX0]; exact (Below.refl _ w5).alloc (Nat.le_refl _) _
    have hnew := World.alloc_heap_new w5 (.cells #[.slice a5 V.tree.length k5, .slice none 0 0, .slice none 0 0, .slice none 0 0, .slice none 0 0] 27)
    rw [hX0] at hnew
    have hs6 : X0.heap.size = w5.heap.size + 1 := by rw [← hX0]; simp
    have hb46 := hb5.trans (hb6.mono hb5.size)
    have HXX := hideG (HX4.out.trans (hb46.mono HX4.out.size))
    have HX5 := hideG (HX4.out.trans (hb5.mono HX4.out.size))
    have f75 := cell_below hb5 F7.out
    have F7 := hideG (cell_below hb46 F7.out)
    have HSB0 := hideG (show Sb (fun j => j = w5.heap.size ∨ j = w.heap.size + 2) w5 X0 from Sb.of_below hb6)
    have D0 := hideG (show X0.cell? ⟨w5.heap.size, 0, none⟩ = some (.slice a5 V.tree.length k5) ∧ X0.frozen? ⟨w5.heap.size, 0, none⟩ = false from ⟨by simp [World.cell?, hnew], by simp [World.frozen?, hnew]⟩)
    have D1 := hideG (show X0.cell? ⟨w5.heap.size, 1, none⟩ = some (.slice none 0 0) ∧ X0.frozen? ⟨w5.heap.size, 1, none⟩ = false from ⟨by simp [World.cell?, hnew], by simp [World.frozen?, hnew]⟩)
    have D2 := hideG (show X0.cell? ⟨w5.heap.size, 2, none⟩ = some (.slice none 0 0) ∧ X0.frozen? ⟨w5.heap.size, 2, none⟩ = false from ⟨by simp [World.cell?, hnew], by simp [World.frozen?, hnew]⟩)
    have D3 := hideG (show X0.cell? ⟨w5.heap.size, 3, none⟩ = some (.slice none 0 0) ∧ X0.frozen? ⟨w5.heap.size, 3, none⟩ = false from ⟨by simp [World.cell?, hnew], by simp [World.frozen?, hnew]⟩)
    have D4 := hideG (show X0.cell? ⟨w5.heap.size, 4, none⟩ = some (.slice none 0 0) ∧ X0.frozen? ⟨w5.heap.size, 4, none⟩ = false from ⟨by simp [World.cell?, hnew], by simp [World.frozen?, hnew]⟩)
    have p0 := cell_below HXX.out P0.out
    have p1 := cell_below HXX.out P1.out
    have p2 := cell_below HXX.out P2.out
    have p3 := cell_below HXX.out P3.out
    have p4 := cell_below HXX.out P4.out
    have x0 := cell_below HXX.out S0.out
    have HRX := hideG (show ∀ j, j < 5 → ∃ u, X0.cell? ⟨w.heap.size + 2, j, none⟩ = some u ∧ X0.frozen? ⟨w.heap.size + 2, j, none⟩ = false from fun j hj => let ⟨u, h1, h2⟩ := HR.out j hj; ⟨u, cell_below HXX.out h1, frozen_below HXX.out h1 h2⟩)
    have HBX := hideG (HB0.out.trans (HXX.out.mono HB0.out.size))
    have HREN := hideG hX0
    have QP0 := hideG p0
    have QP1 := hideG p1
    have QP2 := hideG p2
    have QP3 := hideG p3
    have QP4 := hideG p4
    have QX := hideG x0
    have hwb : w.heap.size < w5.heap.size := by omega
    have hwc : w.heap.size + 1 < w5.heap.size := by omega
    have hwd : w2.heap.size < w5.heap.size := by omega
    have hwe : w.heap.size + 2 < w5.heap.size := by omega
    clear hti hb5 hb6 hb46 hX0 hnew p0 p1 p2 p3 p4 x0
    have p50 := cell_below HX5.out P0.out
    have p51 := cell_below HX5.out P1.out
    have p52 := cell_below HX5.out P2.out
    have p53 := cell_below HX5.out P3.out
    have p54 := cell_below HX5.out P4.out
    have HPT := hideG (part86 (fun x => x != n) (.pointer (some ⟨w.heap.size + 1, 0, none⟩)) V.op _ X0 (hideG (fun x U hU => close1_any n x (w.heap.size + 1) U (cell_below hU QX.out))) (HV.out.op.below HBX.out) (by omega))
    go_wp2_with fail
    rw [HREN.out]
    clear p50 p51 p52 p53 p54 f75
    refine HPT.out.mono ?_
    rintro ex y0 ⟨a10, c10, a20, c20, rfl, hr0, _, _, hb⟩
    have RI0 := hideG (rowIn_of hr0)
    have d0 := cell_below hb D0.out.1
    have df0 := frozen_below hb D0.out.1 D0.out.2
    have d1 := cell_below hb D1.out.1
    have df1 := frozen_below hb D1.out.1 D1.out.2
    have d2 := cell_below hb D2.out.1
    have df2 := frozen_below hb D2.out.1 D2.out.2
    have d3 := cell_below hb D3.out.1
    have df3 := frozen_below hb D3.out.1 D3.out.2
    have d4 := cell_below hb D4.out.1
    have df4 := frozen_below hb D4.out.1 D4.out.2
    have E0 := hideG (show (y0.setCell ⟨w5.heap.size, 1, none⟩ (.slice a10 (V.op.filter (fun x => x != n)).length c10)).cell? ⟨w5.heap.size, 0, none⟩ = some (.slice a5 V.tree.length k5) ∧ (y0.setCell ⟨w5.heap.size, 1, none⟩ (.slice a10 (V.op.filter (fun x => x != n)).length c10)).frozen? ⟨w5.heap.size, 0, none⟩ = false from ⟨set_other d0 (by decide), by rw [World.frozen?_setCell]; exact df0⟩)
    have E1 := hideG (show (y0.setCell ⟨w5.heap.size, 1, none⟩ (.slice a10 (V.op.filter (fun x => x != n)).length c10)).cell? ⟨w5.heap.size, 1, none⟩ = some (.slice a10 (V.op.filter (fun x => x != n)).length c10) ∧ (y0.setCell ⟨w5.heap.size, 1, none⟩ (.slice a10 (V.op.filter (fun x => x != n)).length c10)).frozen? ⟨w5.heap.size, 1, none⟩ = false from ⟨set_same d1, by rw [World.frozen?_setCell]; exact df1⟩)
    have E2 := hideG (show (y0.setCell ⟨w5.heap.size, 1, none⟩ (.slice a10 (V.op.filter (fun x => x != n)).length c10)).cell? ⟨w5.heap.size, 2, none⟩ = some (.slice none 0 0) ∧ (y0.setCell ⟨w5.heap.size, 1, none⟩ (.slice a10 (V.op.filter (fun x => x != n)).length c10)).frozen? ⟨w5.heap.size, 2, none⟩ = false from ⟨set_other d2 (by decide), by rw [World.frozen?_setCell]; exact df2⟩)
    have E3 := hideG (show (y0.setCell ⟨w5.heap.size, 1, none⟩ (.slice a10 (V.op.filter (fun x => x != n)).length c10)).cell? ⟨w5.heap.size, 3, none⟩ = some (.slice none 0 0) ∧ (y0.setCell ⟨w5.heap.size, 1, none⟩ (.slice a10 (V.op.filter (fun x => x != n)).length c10)).frozen? ⟨w5.heap.size, 3, none⟩ = false from ⟨set_other d3 (by decide), by rw [World.frozen?_setCell]; exact df3⟩)
    have E4 := hideG (show (y0.setCell ⟨w5.heap.size, 1, none⟩ (.slice a10 (V.op.filter (fun x => x != n)).length c10)).cell? ⟨w5.heap.size, 4, none⟩ = some (.slice none 0 0) ∧ (y0.setCell ⟨w5.heap.size, 1, none⟩ (.slice a10 (V.op.filter (fun x => x != n)).length c10)).frozen? ⟨w5.heap.size, 4, none⟩ = false from ⟨set_other d4 (by decide), by rw [World.frozen?_setCell]; exact df4⟩)
    have p0 := cell_below hb QP0.out
    have r0 : (y0.setCell ⟨w5.heap.size, 1, none⟩ (.slice a10 (V.op.filter (fun x => x != n)).length c10)).cell? ⟨w.heap.size, 0, none⟩ = some (.slice ta V.tree.length tc) := set_otherB p0 (by omega)
    have p1 := cell_below hb QP1.out
    have r1 : (y0.setCell ⟨w5.heap.size, 1, none⟩ (.slice a10 (V.op.filter (fun x => x != n)).length c10)).cell? ⟨w.heap.size, 1, none⟩ = some (.slice oa V.op.length oc) := set_otherB p1 (by omega)
    have p2 := cell_below hb QP2.out
    have r2 : (y0.setCell ⟨w5.heap.size, 1, none⟩ (.slice a10 (V.op.filter (fun x => x != n)).length c10)).cell? ⟨w.heap.size, 2, none⟩ = some (.slice ma V.modal.length mc) := set_otherB p2 (by omega)
    have p3 := cell_below hb QP3.out
    have r3 : (y0.setCell ⟨w5.heap.size, 1, none⟩ (.slice a10 (V.op.filter (fun x => x != n)).length c10)).cell? ⟨w.heap.size, 3, none⟩ = some (.slice pa V.pops.length pc) := set_otherB p3 (by omega)
    have p4 := cell_below hb QP4.out
    have r4 : (y0.setCell ⟨w5.heap.size, 1, none⟩ (.slice a10 (V.op.filter (fun x => x != n)).length c10)).cell? ⟨w.heap.size, 4, none⟩ = some (.slice qa V.top.length qc) := set_otherB p4 (by omega)
    have x0 := cell_below hb QX.out
    have rx : (y0.setCell ⟨w5.heap.size, 1, none⟩ (.slice a10 (V.op.filter (fun x => x != n)).length c10)).cell? ⟨w.heap.size + 1, 0, none⟩ = some (.int .i64 n) := set_otherB x0 (by omega)
    have f7 := cell_below hb F7.out
    have rf : (y0.setCell ⟨w5.heap.size, 1, none⟩ (.slice a10 (V.op.filter (fun x => x != n)).length c10)).cell? ⟨w2.heap.size, 0, none⟩ = some (.func (.func 86) #[] #[.pointer (some ⟨w.heap.size + 1, 0, none⟩)]) := set_otherB f7 (by omega)
    have HRY := hideG (show ∀ j, j < 5 → ∃ u, (y0.setCell ⟨w5.heap.size, 1, none⟩ (.slice a10 (V.op.filter (fun x => x != n)).length c10)).cell? ⟨w.heap.size + 2, j, none⟩ = some u ∧ (y0.setCell ⟨w5.heap.size, 1, none⟩ (.slice a10 (V.op.filter (fun x => x != n)).length c10)).frozen? ⟨w.heap.size + 2, j, none⟩ = false from fun j hj => let ⟨u, h1, h2⟩ := HRX.out j hj; ⟨u, set_otherB (cell_below hb h1) (by omega), by rw [World.frozen?_setCell]; exact frozen_below hb h1 h2⟩)
    have HBY := hideG (show Below w.heap.size w (y0.setCell ⟨w5.heap.size, 1, none⟩ (.slice a10 (V.op.filter (fun x => x != n)).length c10)) from (HBX.out.trans (hb.mono HBX.out.size)).setCell (p := ⟨w5.heap.size, 1, none⟩) (by show w.heap.size ≤ w5.heap.size; omega) _)
    have hsz0 : X0.heap.size ≤ y0.heap.size := hb.size
    have SX := hideG (show Sb (fun j => j = w5.heap.size ∨ j = w.heap.size + 2) X0 (y0.setCell ⟨w5.heap.size, 1, none⟩ (.slice a10 (V.op.filter (fun x => x != n)).length c10)) from (Sb.of_below hb).trans (Sb.set (.inl rfl)))
    have SY0 := hideG (show Sb (fun j => j = w5.heap.size ∨ j = w.heap.size + 2) y0 (y0.setCell ⟨w5.heap.size, 1, none⟩ (.slice a10 (V.op.filter (fun x => x != n)).length c10)) from Sb.set (.inl rfl))
    obtain ⟨X1, hX1⟩ : ∃ X1, (y0.setCell ⟨w5.heap.size, 1, none⟩ (.slice a10 (V.op.filter (fun x => x != n)).length c10)) = X1 := ⟨_, rfl⟩
    have HREN := hideG hX1
    rw [hX1] at HRY HBY E0 E1 E2 E3 E4 r0 r1 r2 r3 r4 rx rf SX SY0
    have hzz0 : X1.heap.size = y0.heap.size := by rw [← hX1]; simp
    have HRX := HRY
    have HBX := HBY
    have D0 := E0
    have D1 := E1
    have D2 := E2
    have D3 := E3
    have D4 := E4
    have QP0 := hideG r0
    have QP1 := hideG r1
    have QP2 := hideG r2
    have QP3 := hideG r3
    have QP4 := hideG r4
    have QX := hideG rx
    have F7 := hideG rf
    have SX0 := SX
    clear hb hr0 hX1 HRY HBY E0 E1 E2 E3 E4 r0 r1 r2 r3 r4 rx rf SX HPT
    have HPT := hideG (part86 (fun x => x != n) (.pointer (some ⟨w.heap.size + 1, 0, none⟩)) V.modal _ X1 (hideG (fun x U hU => close1_any n x (w.heap.size + 1) U (cell_below hU QX.out))) (HV.out.modal.below HBX.out) (by omega))
    go_wp2_with fail
    rw [HREN.out]
    clear d0 d1 d2 d3 d4 df0 df1 df2 df3 df4 p0 p1 p2 p3 p4 x0 f7
    refine HPT.out.mono ?_
    rintro ex y1 ⟨a11, c11, a21, c21, rfl, hr1, _, _, hb⟩
    have RI1 := hideG (rowIn_of hr1)
    have d0 := cell_below hb D0.out.1
    have df0 := frozen_below hb D0.out.1 D0.out.2
    have d1 := cell_below hb D1.out.1
    have df1 := frozen_below hb D1.out.1 D1.out.2
    have d2 := cell_below hb D2.out.1
    have df2 := frozen_below hb D2.out.1 D2.out.2
    have d3 := cell_below hb D3.out.1
    have df3 := frozen_below hb D3.out.1 D3.out.2
    have d4 := cell_below hb D4.out.1
    have df4 := frozen_below hb D4.out.1 D4.out.2
    have E0 := hideG (show (y1.setCell ⟨w5.heap.size, 2, none⟩ (.slice a11 (V.modal.filter (fun x => x != n)).length c11)).cell? ⟨w5.heap.size, 0, none⟩ = some (.slice a5 V.tree.length k5) ∧ (y1.setCell ⟨w5.heap.size, 2, none⟩ (.slice a11 (V.modal.filter (fun x => x != n)).length c11)).frozen? ⟨w5.heap.size, 0, none⟩ = false from ⟨set_other d0 (by decide), by rw [World.frozen?_setCell]; exact df0⟩)
    have E1 := hideG (show (y1.setCell ⟨w5.heap.size, 2, none⟩ (.slice a11 (V.modal.filter (fun x => x != n)).length c11)).cell? ⟨w5.heap.size, 1, none⟩ = some (.slice a10 (V.op.filter (fun x => x != n)).length c10) ∧ (y1.setCell ⟨w5.heap.size, 2, none⟩ (.slice a11 (V.modal.filter (fun x => x != n)).length c11)).frozen? ⟨w5.heap.size, 1, none⟩ = false from ⟨set_other d1 (by decide), by rw [World.frozen?_setCell]; exact df1⟩)
    have E2 := hideG (show (y1.setCell ⟨w5.heap.size, 2, none⟩ (.slice a11 (V.modal.filter (fun x => x != n)).length c11)).cell? ⟨w5.heap.size, 2, none⟩ = some (.slice a11 (V.modal.filter (fun x => x != n)).length c11) ∧ (y1.setCell ⟨w5.heap.size, 2, none⟩ (.slice a11 (V.modal.filter (fun x => x != n)).length c11)).frozen? ⟨w5.heap.size, 2, none⟩ = false from ⟨set_same d2, by rw [World.frozen?_setCell]; exact df2⟩)
    have E3 := hideG (show (y1.setCell ⟨w5.heap.size, 2, none⟩ (.slice a11 (V.modal.filter (fun x => x != n)).length c11)).cell? ⟨w5.heap.size, 3, none⟩ = some (.slice none 0 0) ∧ (y1.setCell ⟨w5.heap.size, 2, none⟩ (.slice a11 (V.modal.filter (fun x => x != n)).length c11)).frozen? ⟨w5.heap.size, 3, none⟩ = false from ⟨set_other d3 (by decide), by rw [World.frozen?_setCell]; exact df3⟩)
    have E4 := hideG (show (y1.setCell ⟨w5.heap.size, 2, none⟩ (.slice a11 (V.modal.filter (fun x => x != n)).length c11)).cell? ⟨w5.heap.size, 4, none⟩ = some (.slice none 0 0) ∧ (y1.setCell ⟨w5.heap.size, 2, none⟩ (.slice a11 (V.modal.filter (fun x => x != n)).length c11)).frozen? ⟨w5.heap.size, 4, none⟩ = false from ⟨set_other d4 (by decide), by rw [World.frozen?_setCell]; exact df4⟩)
    have p0 := cell_below hb QP0.out
    have r0 : (y1.setCell ⟨w5.heap.size, 2, none⟩ (.slice a11 (V.modal.filter (fun x => x != n)).length c11)).cell? ⟨w.heap.size, 0, none⟩ = some (.slice ta V.tree.length tc) := set_otherB p0 (by omega)
    have p1 := cell_below hb QP1.out
    have r1 : (y1.setCell ⟨w5.heap.size, 2, none⟩ (.slice a11 (V.modal.filter (fun x => x != n)).length c11)).cell? ⟨w.heap.size, 1, none⟩ = some (.slice oa V.op.length oc) := set_otherB p1 (by omega)
    have p2 := cell_below hb QP2.out
    have r2 : (y1.setCell ⟨w5.heap.size, 2, none⟩ (.slice a11 (V.modal.filter (fun x => x != n)).length c11)).cell? ⟨w.heap.size, 2, none⟩ = some (.slice ma V.modal.length mc) := set_otherB p2 (by omega)
    have p3 := cell_below hb QP3.out
    have r3 : (y1.setCell ⟨w5.heap.size, 2, none⟩ (.slice a11 (V.modal.filter (fun x => x != n)).length c11)).cell? ⟨w.heap.size, 3, none⟩ = some (.slice pa V.pops.length pc) := set_otherB p3 (by omega)
    have p4 := cell_below hb QP4.out
    have r4 : (y1.setCell ⟨w5.heap.size, 2, none⟩ (.slice a11 (V.modal.filter (fun x => x != n)).length c11)).cell? ⟨w.heap.size, 4, none⟩ = some (.slice qa V.top.length qc) := set_otherB p4 (by omega)
    have x0 := cell_below hb QX.out
    have rx : (y1.setCell ⟨w5.heap.size, 2, none⟩ (.slice a11 (V.modal.filter (fun x => x != n)).length c11)).cell? ⟨w.heap.size + 1, 0, none⟩ = some (.int .i64 n) := set_otherB x0 (by omega)
    have f7 := cell_below hb F7.out
    have rf : (y1.setCell ⟨w5.heap.size, 2, none⟩ (.slice a11 (V.modal.filter (fun x => x != n)).length c11)).cell? ⟨w2.heap.size, 0, none⟩ = some (.func (.func 86) #[] #[.pointer (some ⟨w.heap.size + 1, 0, none⟩)]) := set_otherB f7 (by omega)
    have HRY := hideG (show ∀ j, j < 5 → ∃ u, (y1.setCell ⟨w5.heap.size, 2, none⟩ (.slice a11 (V.modal.filter (fun x => x != n)).length c11)).cell? ⟨w.heap.size + 2, j, none⟩ = some u ∧ (y1.setCell ⟨w5.heap.size, 2, none⟩ (.slice a11 (V.modal.filter (fun x => x != n)).length c11)).frozen? ⟨w.heap.size + 2, j, none⟩ = false from fun j hj => let ⟨u, h1, h2⟩ := HRX.out j hj; ⟨u, set_otherB (cell_below hb h1) (by omega), by rw [World.frozen?_setCell]; exact frozen_below hb h1 h2⟩)
    have HBY := hideG (show Below w.heap.size w (y1.setCell ⟨w5.heap.size, 2, none⟩ (.slice a11 (V.modal.filter (fun x => x != n)).length c11)) from (HBX.out.trans (hb.mono HBX.out.size)).setCell (p := ⟨w5.heap.size, 2, none⟩) (by show w.heap.size ≤ w5.heap.size; omega) _)
    have hsz1 : X1.heap.size ≤ y1.heap.size := hb.size
    have SX := hideG (show Sb (fun j => j = w5.heap.size ∨ j = w.heap.size + 2) X1 (y1.setCell ⟨w5.heap.size, 2, none⟩ (.slice a11 (V.modal.filter (fun x => x != n)).length c11)) from (Sb.of_below hb).trans (Sb.set (.inl rfl)))
    have SY1 := hideG (show Sb (fun j => j = w5.heap.size ∨ j = w.heap.size + 2) y1 (y1.setCell ⟨w5.heap.size, 2, none⟩ (.slice a11 (V.modal.filter (fun x => x != n)).length c11)) from Sb.set (.inl rfl))
    obtain ⟨X2, hX2⟩ : ∃ X2, (y1.setCell ⟨w5.heap.size, 2, none⟩ (.slice a11 (V.modal.filter (fun x => x != n)).length c11)) = X2 := ⟨_, rfl⟩
    have HREN := hideG hX2
    rw [hX2] at HRY HBY E0 E1 E2 E3 E4 r0 r1 r2 r3 r4 rx rf SX SY1
    have hzz1 : X2.heap.size = y1.heap.size := by rw [← hX2]; simp
    have HRX := HRY
    have HBX := HBY
    have D0 := E0
    have D1 := E1
    have D2 := E2
    have D3 := E3
    have D4 := E4
    have QP0 := hideG r0
    have QP1 := hideG r1
    have QP2 := hideG r2
    have QP3 := hideG r3
    have QP4 := hideG r4
    have QX := hideG rx
    have F7 := hideG rf
    have SX1 := SX
    clear hb hr1 hX2 HRY HBY E0 E1 E2 E3 E4 r0 r1 r2 r3 r4 rx rf SX HPT
    have HPT := hideG (part87 (fun x => x.node != n) (.pointer (some ⟨w2.heap.size, 0, none⟩)) V.pops _ X2 (hideG (fun x U hU => close2_any n x (w.heap.size + 1) (w2.heap.size) U (cell_below hU F7.out) (cell_below hU QX.out))) (HV.out.pops.below HBX.out) (by omega))
    go_wp2_with fail
    rw [HREN.out]
    clear d0 d1 d2 d3 d4 df0 df1 df2 df3 df4 p0 p1 p2 p3 p4 x0 f7
    refine HPT.out.mono ?_
    rintro ex y2 ⟨a12, c12, a22, c22, rfl, hr2, _, _, hb⟩
    have RI2 := hideG (rowIn_of hr2)
    have d0 := cell_below hb D0.out.1
    have df0 := frozen_below hb D0.out.1 D0.out.2
    have d1 := cell_below hb D1.out.1
    have df1 := frozen_below hb D1.out.1 D1.out.2
    have d2 := cell_below hb D2.out.1
    have df2 := frozen_below hb D2.out.1 D2.out.2
    have d3 := cell_below hb D3.out.1
    have df3 := frozen_below hb D3.out.1 D3.out.2
    have d4 := cell_below hb D4.out.1
    have df4 := frozen_below hb D4.out.1 D4.out.2
    have E0 := hideG (show (y2.setCell ⟨w5.heap.size, 3, none⟩ (.slice a12 (V.pops.filter (fun x => x.node != n)).length c12)).cell? ⟨w5.heap.size, 0, none⟩ = some (.slice a5 V.tree.length k5) ∧ (y2.setCell ⟨w5.heap.size, 3, none⟩ (.slice a12 (V.pops.filter (fun x => x.node != n)).length c12)).frozen? ⟨w5.heap.size, 0, none⟩ = false from ⟨set_other d0 (by decide), by rw [World.frozen?_setCell]; exact df0⟩)
    have E1 := hideG (show (y2.setCell ⟨w5.heap.size, 3, none⟩ (.slice a12 (V.pops.filter (fun x => x.node != n)).length c12)).cell? ⟨w5.heap.size, 1, none⟩ = some (.slice a10 (V.op.filter (fun x => x != n)).length c10) ∧ (y2.setCell ⟨w5.heap.size, 3, none⟩ (.slice a12 (V.pops.filter (fun x => x.node != n)).length c12)).frozen? ⟨w5.heap.size, 1, none⟩ = false from ⟨set_other d1 (by decide), by rw [World.frozen?_setCell]; exact df1⟩)
    have E2 := hideG (show (y2.setCell ⟨w5.heap.size, 3, none⟩ (.slice a12 (V.pops.filter (fun x => x.node != n)).length c12)).cell? ⟨w5.heap.size, 2, none⟩ = some (.slice a11 (V.modal.filter (fun x => x != n)).length c11) ∧ (y2.setCell ⟨w5.heap.size, 3, none⟩ (.slice a12 (V.pops.filter (fun x => x.node != n)).length c12)).frozen? ⟨w5.heap.size, 2, none⟩ = false from ⟨set_other d2 (by decide), by rw [World.frozen?_setCell]; exact df2⟩)
    have E3 := hideG (show (y2.setCell ⟨w5.heap.size, 3, none⟩ (.slice a12 (V.pops.filter (fun x => x.node != n)).length c12)).cell? ⟨w5.heap.size, 3, none⟩ = some (.slice a12 (V.pops.filter (fun x => x.node != n)).length c12) ∧ (y2.setCell ⟨w5.heap.size, 3, none⟩ (.slice a12 (V.pops.filter (fun x => x.node != n)).length c12)).frozen? ⟨w5.heap.size, 3, none⟩ = false from ⟨set_same d3, by rw [World.frozen?_setCell]; exact df3⟩)
    have E4 := hideG (show (y2.setCell ⟨w5.heap.size, 3, none⟩ (.slice a12 (V.pops.filter (fun x => x.node != n)).length c12)).cell? ⟨w5.heap.size, 4, none⟩ = some (.slice none 0 0) ∧ (y2.setCell ⟨w5.heap.size, 3, none⟩ (.slice a12 (V.pops.filter (fun x => x.node != n)).length c12)).frozen? ⟨w5.heap.size, 4, none⟩ = false from ⟨set_other d4 (by decide), by rw [World.frozen?_setCell]; exact df4⟩)
    have p0 := cell_below hb QP0.out
    have r0 : (y2.setCell ⟨w5.heap.size, 3, none⟩ (.slice a12 (V.pops.filter (fun x => x.node != n)).length c12)).cell? ⟨w.heap.size, 0, none⟩ = some (.slice ta V.tree.length tc) := set_otherB p0 (by omega)
    have p1 := cell_below hb QP1.out
    have r1 : (y2.setCell ⟨w5.heap.size, 3, none⟩ (.slice a12 (V.pops.filter (fun x => x.node != n)).length c12)).cell? ⟨w.heap.size, 1, none⟩ = some (.slice oa V.op.length oc) := set_otherB p1 (by omega)
    have p2 := cell_below hb QP2.out
    have r2 : (y2.setCell ⟨w5.heap.size, 3, none⟩ (.slice a12 (V.pops.filter (fun x => x.node != n)).length c12)).cell? ⟨w.heap.size, 2, none⟩ = some (.slice ma V.modal.length mc) := set_otherB p2 (by omega)
    have p3 := cell_below hb QP3.out
    have r3 : (y2.setCell ⟨w5.heap.size, 3, none⟩ (.slice a12 (V.pops.filter (fun x => x.node != n)).length c12)).cell? ⟨w.heap.size, 3, none⟩ = some (.slice pa V.pops.length pc) := set_otherB p3 (by omega)
    have p4 := cell_below hb QP4.out
    have r4 : (y2.setCell ⟨w5.heap.size, 3, none⟩ (.slice a12 (V.pops.filter (fun x => x.node != n)).length c12)).cell? ⟨w.heap.size, 4, none⟩ = some (.slice qa V.top.length qc) := set_otherB p4 (by omega)
    have x0 := cell_below hb QX.out
    have rx : (y2.setCell ⟨w5.heap.size, 3, none⟩ (.slice a12 (V.pops.filter (fun x => x.node != n)).length c12)).cell? ⟨w.heap.size + 1, 0, none⟩ = some (.int .i64 n) := set_otherB x0 (by omega)
    have f7 := cell_below hb F7.out
    have rf : (y2.setCell ⟨w5.heap.size, 3, none⟩ (.slice a12 (V.pops.filter (fun x => x.node != n)).length c12)).cell? ⟨w2.heap.size, 0, none⟩ = some (.func (.func 86) #[] #[.pointer (some ⟨w.heap.size + 1, 0, none⟩)]) := set_otherB f7 (by omega)
    have HRY := hideG (show ∀ j, j < 5 → ∃ u, (y2.setCell ⟨w5.heap.size, 3, none⟩ (.slice a12 (V.pops.filter (fun x => x.node != n)).length c12)).cell? ⟨w.heap.size + 2, j, none⟩ = some u ∧ (y2.setCell ⟨w5.heap.size, 3, none⟩ (.slice a12 (V.pops.filter (fun x => x.node != n)).length c12)).frozen? ⟨w.heap.size + 2, j, none⟩ = false from fun j hj => let ⟨u, h1, h2⟩ := HRX.out j hj; ⟨u, set_otherB (cell_below hb h1) (by omega), by rw [World.frozen?_setCell]; exact frozen_below hb h1 h2⟩)
    have HBY := hideG (show Below w.heap.size w (y2.setCell ⟨w5.heap.size, 3, none⟩ (.slice a12 (V.pops.filter (fun x => x.node != n)).length c12)) from (HBX.out.trans (hb.mono HBX.out.size)).setCell (p := ⟨w5.heap.size, 3, none⟩) (by show w.heap.size ≤ w5.heap.size; omega) _)
    have hsz2 : X2.heap.size ≤ y2.heap.size := hb.size
    have SX := hideG (show Sb (fun j => j = w5.heap.size ∨ j = w.heap.size + 2) X2 (y2.setCell ⟨w5.heap.size, 3, none⟩ (.slice a12 (V.pops.filter (fun x => x.node != n)).length c12)) from (Sb.of_below hb).trans (Sb.set (.inl rfl)))
    have SY2 := hideG (show Sb (fun j => j = w5.heap.size ∨ j = w.heap.size + 2) y2 (y2.setCell ⟨w5.heap.size, 3, none⟩ (.slice a12 (V.pops.filter (fun x => x.node != n)).length c12)) from Sb.set (.inl rfl))
    obtain ⟨X3, hX3⟩ : ∃ X3, (y2.setCell ⟨w5.heap.size, 3, none⟩ (.slice a12 (V.pops.filter (fun x => x.node != n)).length c12)) = X3 := ⟨_, rfl⟩
    have HREN := hideG hX3
    rw [hX3] at HRY HBY E0 E1 E2 E3 E4 r0 r1 r2 r3 r4 rx rf SX SY2
    have hzz2 : X3.heap.size = y2.heap.size := by rw [← hX3]; simp
    have HRX := HRY
    have HBX := HBY
    have D0 := E0
    have D1 := E1
    have D2 := E2
    have D3 := E3
    have D4 := E4
    have QP0 := hideG r0
    have QP1 := hideG r1
    have QP2 := hideG r2
    have QP3 := hideG r3
    have QP4 := hideG r4
    have QX := hideG rx
    have F7 := hideG rf
    have SX2 := SX
    clear hb hr2 hX3 HRY HBY E0 E1 E2 E3 E4 r0 r1 r2 r3 r4 rx rf SX HPT
    have HPT := hideG (part86 (fun x => x != n) (.pointer (some ⟨w.heap.size + 1, 0, none⟩)) V.top _ X3 (hideG (fun x U hU => close1_any n x (w.heap.size + 1) U (cell_below hU QX.out))) (HV.out.top.below HBX.out) (by omega))
    go_wp2_with fail
    rw [HREN.out]
    clear d0 d1 d2 d3 d4 df0 df1 df2 df3 df4 p0 p1 p2 p3 p4 x0 f7
    refine HPT.out.mono ?_
    rintro ex y3 ⟨a13, c13, a23, c23, rfl, hr3, _, _, hb⟩
    have RI3 := hideG (rowIn_of hr3)
    have d0 := cell_below hb D0.out.1
    have df0 := frozen_below hb D0.out.1 D0.out.2
    have d1 := cell_below hb D1.out.1
    have df1 := frozen_below hb D1.out.1 D1.out.2
    have d2 := cell_below hb D2.out.1
    have df2 := frozen_below hb D2.out.1 D2.out.2
    have d3 := cell_below hb D3.out.1
    have df3 := frozen_below hb D3.out.1 D3.out.2
    have d4 := cell_below hb D4.out.1
    have df4 := frozen_below hb D4.out.1 D4.out.2
    have E0 := hideG (show (y3.setCell ⟨w5.heap.size, 4, none⟩ (.slice a13 (V.top.filter (fun x => x != n)).length c13)).cell? ⟨w5.heap.size, 0, none⟩ = some (.slice a5 V.tree.length k5) ∧ (y3.setCell ⟨w5.heap.size, 4, none⟩ (.slice a13 (V.top.filter (fun x => x != n)).length c13)).frozen? ⟨w5.heap.size, 0, none⟩ = false from ⟨set_other d0 (by decide), by rw [World.frozen?_setCell]; exact df0⟩)
    have E1 := hideG (show (y3.setCell ⟨w5.heap.size, 4, none⟩ (.slice a13 (V.top.filter (fun x => x != n)).length c13)).cell? ⟨w5.heap.size, 1, none⟩ = some (.slice a10 (V.op.filter (fun x => x != n)).length c10) ∧ (y3.setCell ⟨w5.heap.size, 4, none⟩ (.slice a13 (V.top.filter (fun x => x != n)).length c13)).frozen? ⟨w5.heap.size, 1, none⟩ = false from ⟨set_other d1 (by decide), by rw [World.frozen?_setCell]; exact df1⟩)
    have E2 := hideG (show (y3.setCell ⟨w5.heap.size, 4, none⟩ (.slice a13 (V.top.filter (fun x => x != n)).length c13)).cell? ⟨w5.heap.size, 2, none⟩ = some (.slice a11 (V.modal.filter (fun x => x != n)).length c11) ∧ (y3.setCell ⟨w5.heap.size, 4, none⟩ (.slice a13 (V.top.filter (fun x => x != n)).length c13)).frozen? ⟨w5.heap.size, 2, none⟩ = false from ⟨set_other d2 (by decide), by rw [World.frozen?_setCell]; exact df2⟩)
    have E3 := hideG (show (y3.setCell ⟨w5.heap.size, 4, none⟩ (.slice a13 (V.top.filter (fun x => x != n)).length c13)).cell? ⟨w5.heap.size, 3, none⟩ = some (.slice a12 (V.pops.filter (fun x => x.node != n)).length c12) ∧ (y3.setCell ⟨w5.heap.size, 4, none⟩ (.slice a13 (V.top.filter (fun x => x != n)).length c13)).frozen? ⟨w5.heap.size, 3, none⟩ = false from ⟨set_other d3 (by decide), by rw [World.frozen?_setCell]; exact df3⟩)
    have E4 := hideG (show (y3.setCell ⟨w5.heap.size, 4, none⟩ (.slice a13 (V.top.filter (fun x => x != n)).length c13)).cell? ⟨w5.heap.size, 4, none⟩ = some (.slice a13 (V.top.filter (fun x => x != n)).length c13) ∧ (y3.setCell ⟨w5.heap.size, 4, none⟩ (.slice a13 (V.top.filter (fun x => x != n)).length c13)).frozen? ⟨w5.heap.size, 4, none⟩ = false from ⟨set_same d4, by rw [World.frozen?_setCell]; exact df4⟩)
    have p0 := cell_below hb QP0.out
    have r0 : (y3.setCell ⟨w5.heap.size, 4, none⟩ (.slice a13 (V.top.filter (fun x => x != n)).length c13)).cell? ⟨w.heap.size, 0, none⟩ = some (.slice ta V.tree.length tc) := set_otherB p0 (by omega)
    have p1 := cell_below hb QP1.out
    have r1 : (y3.setCell ⟨w5.heap.size, 4, none⟩ (.slice a13 (V.top.filter (fun x => x != n)).length c13)).cell? ⟨w.heap.size, 1, none⟩ = some (.slice oa V.op.length oc) := set_otherB p1 (by omega)
    have p2 := cell_below hb QP2.out
    have r2 : (y3.setCell ⟨w5.heap.size, 4, none⟩ (.slice a13 (V.top.filter (fun x => x != n)).length c13)).cell? ⟨w.heap.size, 2, none⟩ = some (.slice ma V.modal.length mc) := set_otherB p2 (by omega)
    have p3 := cell_below hb QP3.out
    have r3 : (y3.setCell ⟨w5.heap.size, 4, none⟩ (.slice a13 (V.top.filter (fun x => x != n)).length c13)).cell? ⟨w.heap.size, 3, none⟩ = some (.slice pa V.pops.length pc) := set_otherB p3 (by omega)
    have p4 := cell_below hb QP4.out
    have r4 : (y3.setCell ⟨w5.heap.size, 4, none⟩ (.slice a13 (V.top.filter (fun x => x != n)).length c13)).cell? ⟨w.heap.size, 4, none⟩ = some (.slice qa V.top.length qc) := set_otherB p4 (by omega)
    have x0 := cell_below hb QX.out
    have rx : (y3.setCell ⟨w5.heap.size, 4, none⟩ (.slice a13 (V.top.filter (fun x => x != n)).length c13)).cell? ⟨w.heap.size + 1, 0, none⟩ = some (.int .i64 n) := set_otherB x0 (by omega)
    have f7 := cell_below hb F7.out
    have rf : (y3.setCell ⟨w5.heap.size, 4, none⟩ (.slice a13 (V.top.filter (fun x => x != n)).length c13)).cell? ⟨w2.heap.size, 0, none⟩ = some (.func (.func 86) #[] #[.pointer (some ⟨w.heap.size + 1, 0, none⟩)]) := set_otherB f7 (by omega)
    have HRY := hideG (show ∀ j, j < 5 → ∃ u, (y3.setCell ⟨w5.heap.size, 4, none⟩ (.slice a13 (V.top.filter (fun x => x != n)).length c13)).cell? ⟨w.heap.size + 2, j, none⟩ = some u ∧ (y3.setCell ⟨w5.heap.size, 4, none⟩ (.slice a13 (V.top.filter (fun x => x != n)).length c13)).frozen? ⟨w.heap.size + 2, j, none⟩ = false from fun j hj => let ⟨u, h1, h2⟩ := HRX.out j hj; ⟨u, set_otherB (cell_below hb h1) (by omega), by rw [World.frozen?_setCell]; exact frozen_below hb h1 h2⟩)
    have HRL := hideG (show ∀ j, j < 5 → ∃ u, y3.cell? ⟨w.heap.size + 2, j, none⟩ = some u ∧ y3.frozen? ⟨w.heap.size + 2, j, none⟩ = false from fun j hj => let ⟨u, h1, h2⟩ := HRX.out j hj; ⟨u, cell_below hb h1, frozen_below hb h1 h2⟩)
    have HBY := hideG (show Below w.heap.size w (y3.setCell ⟨w5.heap.size, 4, none⟩ (.slice a13 (V.top.filter (fun x => x != n)).length c13)) from (HBX.out.trans (hb.mono HBX.out.size)).setCell (p := ⟨w5.heap.size, 4, none⟩) (by show w.heap.size ≤ w5.heap.size; omega) _)
    have hsz3 : X3.heap.size ≤ y3.heap.size := hb.size
    have SX := hideG (show Sb (fun j => j = w5.heap.size ∨ j = w.heap.size + 2) X3 (y3.setCell ⟨w5.heap.size, 4, none⟩ (.slice a13 (V.top.filter (fun x => x != n)).length c13)) from (Sb.of_below hb).trans (Sb.set (.inl rfl)))
    have SY3 := hideG (show Sb (fun j => j = w5.heap.size ∨ j = w.heap.size + 2) y3 (y3.setCell ⟨w5.heap.size, 4, none⟩ (.slice a13 (V.top.filter (fun x => x != n)).length c13)) from Sb.set (.inl rfl))
    obtain ⟨X4, hX4⟩ : ∃ X4, (y3.setCell ⟨w5.heap.size, 4, none⟩ (.slice a13 (V.top.filter (fun x => x != n)).length c13)) = X4 := ⟨_, rfl⟩
    have HREN := hideG hX4
    rw [hX4] at HRY HBY E0 E1 E2 E3 E4 r0 r1 r2 r3 r4 rx rf SX SY3
    have hzz3 : X4.heap.size = y3.heap.size := by rw [← hX4]; simp
    have HRX := HRY
    have HBX := HBY
    have D0 := E0
    have D1 := E1
    have D2 := E2
    have D3 := E3
    have D4 := E4
    have QP0 := hideG r0
    have QP1 := hideG r1
    have QP2 := hideG r2
    have QP3 := hideG r3
    have QP4 := hideG r4
    have QX := hideG rx
    have F7 := hideG rf
    have SX3 := SX
    clear hb hr3 hX4 HRY HBY E0 E1 E2 E3 E4 r0 r1 r2 r3 r4 rx rf SX HPT
    obtain ⟨u0, rc0, rfz0⟩ := HRL.out 0 (by decide)
    obtain ⟨u1, rc1, rfz1⟩ := HRL.out 1 (by decide)
    obtain ⟨u2, rc2, rfz2⟩ := HRL.out 2 (by decide)
    obtain ⟨u3, rc3, rfz3⟩ := HRL.out 3 (by decide)
    obtain ⟨u4, rc4, rfz4⟩ := HRL.out 4 (by decide)
    go_wp2_with fail
    rw [HREN.out]
    have hat := set5_at (U := X4) (R := w.heap.size + 2) (v0 := .slice a5 V.tree.length k5) (v1 := .slice a10 (V.op.filter (fun x => x != n)).length c10) (v2 := .slice a11 (V.modal.filter (fun x => x != n)).length c11) (v3 := .slice a12 (V.pops.filter (fun x => x.node != n)).length c12) (v4 := .slice a13 (V.top.filter (fun x => x != n)).length c13) HRX.out
    have hSF : Sb (fun j => j = w5.heap.size ∨ j = w.heap.size + 2) X4 (set5 X4 (w.heap.size + 2) (.slice a5 V.tree.length k5) (.slice a10 (V.op.filter (fun x => x != n)).length c10) (.slice a11 (V.modal.filter (fun x => x != n)).length c11) (.slice a12 (V.pops.filter (fun x => x.node != n)).length c12) (.slice a13 (V.top.filter (fun x => x != n)).length c13)) := Sb.set5 (.inr rfl)
    have s3 := SY3.out.trans hSF
    have s2 := SY2.out.trans (SX3.out.trans hSF)
    have s1 := SY1.out.trans (SX2.out.trans (SX3.out.trans hSF))
    have s0 := SY0.out.trans (SX1.out.trans (SX2.out.trans (SX3.out.trans hSF)))
    have st := HSB0.out.trans (SX0.out.trans (SX1.out.trans (SX2.out.trans (SX3.out.trans hSF))))
    have hvt := (HTI.out.sb (Nat.le_refl _) (fun j h1 h2 => by show ¬ (j = w5.heap.size ∨ j = w.heap.size + 2); have h1' : W4.heap.size ≤ j := h1; have h2' : j < w5.heap.size := h2; omega) st).at
    have hv0 := rowInts (RI0.out.sb (Nat.le_refl _) (fun j h1 h2 => by show ¬ (j = w5.heap.size ∨ j = w.heap.size + 2); have h1' : X0.heap.size ≤ j := h1; omega) s0)
    have hv1 := rowInts (RI1.out.sb (Nat.le_refl _) (fun j h1 h2 => by show ¬ (j = w5.heap.size ∨ j = w.heap.size + 2); have h1' : X1.heap.size ≤ j := h1; omega) s1)
    have hv2 := rowShs (RI2.out.sb (Nat.le_refl _) (fun j h1 h2 => by show ¬ (j = w5.heap.size ∨ j = w.heap.size + 2); have h1' : X2.heap.size ≤ j := h1; omega) s2)
    have hv3 := rowInts (RI3.out.sb (Nat.le_refl _) (fun j h1 h2 => by show ¬ (j = w5.heap.size ∨ j = w.heap.size + 2); have h1' : X3.heap.size ≤ j := h1; omega) s3)
    unfold set5 at hat
    obtain ⟨t0, t1, t2, t3, t4⟩ := hat
    refine bodyPost_ret (v := .tuple #[.agg #[.slice a5 V.tree.length k5, .slice a10 (V.op.filter (fun x => x != n)).length c10, .slice a11 (V.modal.filter (fun x => x != n)).length c11, .slice a12 (V.pops.filter (fun x => x.node != n)).length c12, .slice a13 (V.top.filter (fun x => x != n)).length c13], .int .i64 0]) (by simp [results, Tryz.f33, go_sem, t0, t1, t2, t3, t4]) rfl ?_
    exact ⟨_, _, _, _, _, rfl, ⟨hvt, hv0, hv1, hv2, hv3⟩, set5_below HBX.out (by omega)⟩
end Go.Proofs.YtclhimodopgeoaaGreat

namespace Go.Proofs.YtclhimodopgeoaaGreat
open Go.RowKit Go.Shelf

attribute [local go_sem] Oper.semAt_some

theorem high_none {modal top : List Int} : ∀ {n : Nat}, (∀ j, j < n → containsB modal (top.getD j 0) = false) → highF modal top n = -1
  | 0, _ => rfl
  | n + 1, h => by rw [highF, h n (by omega)]; exact high_none (fun j hj => h j (by omega))
theorem high_first {modal top : List Int} : ∀ {n : Nat} {pre : List Nat} {x : Nat}, pre ++ [x] <+: (List.range n).reverse → (∀ j ∈ pre, containsB modal (top.getD j 0) = false) → containsB modal (top.getD x 0) = true → highF modal top n = top.getD x 0
  | 0, pre, x, h, _, _ => by have := h.length_le; simp at this
  | n + 1, pre, x, h, h1, h2 => by
    rw [List.range_succ, List.reverse_append] at h
    simp only [List.reverse_cons, List.reverse_nil, List.nil_append, List.cons_append] at h
    cases pre with
    | nil =>
      have e : x = n := by
        have := List.cons_prefix_cons.mp h
        exact this.1
      subst e
      rw [highF, h2]; rfl
    | cons y pre =>
      obtain ⟨e, h'⟩ := List.cons_prefix_cons.mp h
      subst e
      rw [highF, h1 y (by simp)]
      exact high_first h' (fun j hj => h1 j (by simp [hj])) h2

set_option maxRecDepth 100000 in
set_option maxHeartbeats 4000000 in
theorem highBad_in (tv ov mv pv qv : Value) (V : Vw) (w : World) (hV : ViewAt w tv ov mv pv qv V) (hS : Sane V.tree) (hl : smallL V) (hne : checkV V ≠ 0) :
    CallsIn Fence.wide 6 Tryz.prog 25 #[.agg #[tv, ov, mv, pv, qv]] w fun x w' => x = .returned (.int .i64 (-1)) ∧ Below w.heap.size w w' := by
  obtain ⟨hT, hO, hM, hP, hQ⟩ := hV
  obtain ⟨ta, tc, rfl⟩ := hT.shape
  obtain ⟨oa, oc, rfl⟩ := hO.shape
  obtain ⟨ma, mc, rfl⟩ := hM.shape
  obtain ⟨pa, pc, rfl⟩ := hP.shape
  obtain ⟨qa, qc, rfl⟩ := hQ.shape
  obtain ⟨W0, hW0⟩ : ∃ W0, (w.alloc (.cells #[.slice ta V.tree.length tc, .slice oa V.op.length oc, .slice ma V.modal.length mc, .slice pa V.pops.length pc, .slice qa V.top.length qc] 27)).alloc (.cells #[.int .i64 0] 3) = W0 := ⟨_, rfl⟩
  have hbw : Below w.heap.size w W0 := by rw [← hW0]; exact ((Below.refl _ w).alloc (Nat.le_refl _) _).alloc (by simp) _
  have HB0 := hideG hbw
  have P0 := hideG (show W0.cell? ⟨w.heap.size, 0, none⟩ = some (.slice ta V.tree.length tc) by rw [← hW0]; exact cell_alloc_l _ (by simp))
  have P1 := hideG (show W0.cell? ⟨w.heap.size, 1, none⟩ = some (.slice oa V.op.length oc) by rw [← hW0]; exact cell_alloc_l _ (by simp))
  have P2 := hideG (show W0.cell? ⟨w.heap.size, 2, none⟩ = some (.slice ma V.modal.length mc) by rw [← hW0]; exact cell_alloc_l _ (by simp))
  have P3 := hideG (show W0.cell? ⟨w.heap.size, 3, none⟩ = some (.slice pa V.pops.length pc) by rw [← hW0]; exact cell_alloc_l _ (by simp))
  have P4 := hideG (show W0.cell? ⟨w.heap.size, 4, none⟩ = some (.slice qa V.top.length qc) by rw [← hW0]; exact cell_alloc_l _ (by simp))
  have PR := hideG (show W0.cell? ⟨w.heap.size + 1, 0, none⟩ = some (.int .i64 0) ∧ W0.frozen? ⟨w.heap.size + 1, 0, none⟩ = false by
    rw [← hW0]
    have := cell_new_l (w.alloc (.cells #[.slice ta V.tree.length tc, .slice oa V.op.length oc, .slice ma V.modal.length mc, .slice pa V.pops.length pc, .slice qa V.top.length qc] 27)) (.int .i64 0) 3
    rw [World.size_alloc] at this
    exact this)
  have HV := hideG (show ViewAt w _ _ _ _ _ V from ⟨hT, hO, hM, hP, hQ⟩)
  have HC := hideG (checkV_any _ _ _ _ _ V W0 (HV.out.below hbw) hS hl)
  have HW0 := hideG hW0
  have h4l : V.top.length ≤ 1000 := hl.2.2.2
  have h2l : V.modal.length ≤ 500 := hl.2.1
  have p0 := P0.out
  have p1 := P1.out
  have p2 := P2.out
  have p3 := P3.out
  have p4 := P4.out
  clear hW0 hT hO hM hP hQ hS hl hbw
  have HN := hideG hne
  have hcd := check_bad hne
  generalize checkV V = c at *
  clear hne
  refine callsIn_of_wp_marks Tryz.func25 rfl trivial ?_ rfl
  simp only [Tryz.ntmps25, List.size_toArray, List.length_cons, List.length_nil, Nat.reduceAdd, Nat.reduceSub, Array.replicate_succ, Array.replicate_zero, List.push_toArray, List.append_toArray, List.nil_append, List.cons_append]
  gi_wp2_with fail
  refine ⟨trivial, ?_⟩
  gi_at_call 24
  rw [HW0.out]
  refine CallsIn.mono (callsIn_wide.2 HC.out) ?_
  rintro ex w1 ⟨rfl, hb1⟩
  have HB1 := hideG (HB0.out.trans (hb1.mono HB0.out.size))
  have r0 := cell_below hb1 PR.out.1
  have r1 := frozen_below hb1 PR.out.1 PR.out.2
  clear hb1 p0 p1 p2 p3 p4
  rcases hcd with rfl | rfl
  all_goals
    gi_wp2_with fail
    have hc5 := World.cell?_setCell_same' w1 ⟨w.heap.size + 1, 0, none⟩ (.int .i64 (-1)) (by rw [r0]; rfl)
    refine ⟨.int .i64 (-1), ?_, rfl, HB1.out.setCell (p := ⟨w.heap.size + 1, 0, none⟩) (by simp) _⟩
    simp [results, Tryz.f25, go_sem, hc5]
set_option maxRecDepth 100000 in
set_option maxHeartbeats 4000000 in
theorem highOk_in (tv ov mv pv qv : Value) (V : Vw) (w : World) (hV : ViewAt w tv ov mv pv qv V) (hS : Sane V.tree) (hl : smallL V) (hck : checkV V = 0) :
    CallsIn Fence.wide 6 Tryz.prog 25 #[.agg #[tv, ov, mv, pv, qv]] w fun x w' => x = .returned (.int .i64 (highV V)) ∧ Below w.heap.size w w' := by
  obtain ⟨hT, hO, hM, hP, hQ⟩ := hV
  obtain ⟨ta, tc, rfl⟩ := hT.shape
  obtain ⟨oa, oc, rfl⟩ := hO.shape
  obtain ⟨ma, mc, rfl⟩ := hM.shape
  obtain ⟨pa, pc, rfl⟩ := hP.shape
  obtain ⟨qa, qc, rfl⟩ := hQ.shape
  obtain ⟨W0, hW0⟩ : ∃ W0, (w.alloc (.cells #[.slice ta V.tree.length tc, .slice oa V.op.length oc, .slice ma V.modal.length mc, .slice pa V.pops.length pc, .slice qa V.top.length qc] 27)).alloc (.cells #[.int .i64 0] 3) = W0 := ⟨_, rfl⟩
  have hbw : Below w.heap.size w W0 := by rw [← hW0]; exact ((Below.refl _ w).alloc (Nat.le_refl _) _).alloc (by simp) _
  have HB0 := hideG hbw
  have P0 := hideG (show W0.cell? ⟨w.heap.size, 0, none⟩ = some (.slice ta V.tree.length tc) by rw [← hW0]; exact cell_alloc_l _ (by simp))
  have P1 := hideG (show W0.cell? ⟨w.heap.size, 1, none⟩ = some (.slice oa V.op.length oc) by rw [← hW0]; exact cell_alloc_l _ (by simp))
  have P2 := hideG (show W0.cell? ⟨w.heap.size, 2, none⟩ = some (.slice ma V.modal.length mc) by rw [← hW0]; exact cell_alloc_l _ (by simp))
  have P3 := hideG (show W0.cell? ⟨w.heap.size, 3, none⟩ = some (.slice pa V.pops.length pc) by rw [← hW0]; exact cell_alloc_l _ (by simp))
  have P4 := hideG (show W0.cell? ⟨w.heap.size, 4, none⟩ = some (.slice qa V.top.length qc) by rw [← hW0]; exact cell_alloc_l _ (by simp))
  have PR := hideG (show W0.cell? ⟨w.heap.size + 1, 0, none⟩ = some (.int .i64 0) ∧ W0.frozen? ⟨w.heap.size + 1, 0, none⟩ = false by
    rw [← hW0]
    have := cell_new_l (w.alloc (.cells #[.slice ta V.tree.length tc, .slice oa V.op.length oc, .slice ma V.modal.length mc, .slice pa V.pops.length pc, .slice qa V.top.length qc] 27)) (.int .i64 0) 3
    rw [World.size_alloc] at this
    exact this)
  have HV := hideG (show ViewAt w _ _ _ _ _ V from ⟨hT, hO, hM, hP, hQ⟩)
  have HC := hideG (checkV_any _ _ _ _ _ V W0 (HV.out.below hbw) hS hl)
  have HW0 := hideG hW0
  have h4l : V.top.length ≤ 1000 := hl.2.2.2
  have h2l : V.modal.length ≤ 500 := hl.2.1
  have p0 := P0.out
  have p1 := P1.out
  have p2 := P2.out
  have p3 := P3.out
  have p4 := P4.out
  clear hW0 hT hO hM hP hQ hS hl hbw
  refine callsIn_of_wp_marks Tryz.func25 rfl trivial ?_ rfl
  simp only [Tryz.ntmps25, List.size_toArray, List.length_cons, List.length_nil, Nat.reduceAdd, Nat.reduceSub, Array.replicate_succ, Array.replicate_zero, List.push_toArray, List.append_toArray, List.nil_append, List.cons_append]
  gi_wp2_with fail
  refine ⟨trivial, ?_⟩
  gi_at_call 24
  rw [HW0.out]
  refine CallsIn.mono (callsIn_wide.2 (by have := HC.out; rw [hck] at this; exact this)) ?_
  rintro ex w1 ⟨rfl, hb1⟩
  have HB1 := hideG (HB0.out.trans (hb1.mono HB0.out.size))
  have HX1 := hideG hb1
  have hs1 := hb1.size
  have hs0 : W0.heap.size = w.heap.size + 2 := by rw [← HW0.out]; simp
  have p0 := cell_below hb1 P0.out
  have p1 := cell_below hb1 P1.out
  have p2 := cell_below hb1 P2.out
  have p3 := cell_below hb1 P3.out
  have p4 := cell_below hb1 P4.out
  have r0 := cell_below hb1 PR.out.1
  have r1 := frozen_below hb1 PR.out.1 PR.out.2
  have P2' := hideG p2
  have R0 := hideG r0
  have R1 := hideG r1
  clear hb1
  gi_wp2_with fail
  refine ⟨trivial, ?_⟩
  gi_at_call 79
  refine (backI0_in _ _ _ _ _).mono ?_
  rintro ex wz ⟨rfl, hwz⟩
  obtain rfl : _ = wz := hwz.symm
  clear p0 p1 p2 p3 p4 r0 r1
  gi_wp2_with fail
  obtain ⟨W2, hW2⟩ : ∃ W2, w1.alloc (.cells #[.slice qa V.top.length qc] 24) = W2 := ⟨_, rfl⟩
  have c2 := cell_new_l w1 (.slice qa V.top.length qc) 24
  rw [hW2] at c2
  have hb2 : Below w1.heap.size w1 W2 := by rw [← hW2]; exact (Below.refl _ w1).alloc (Nat.le_refl _) _
  have HB2 := HB1.out.trans (hb2.mono HB1.out.size)
  rw [hW2]
  refine wpIn_rangeFunc_ownF rfl (by omega) (gf := 123) (lb := #[.pointer (some ⟨w1.heap.size, 0, none⟩)]) rfl trivial (enters_of Tryz.func123 (by kernel_rfl) rfl)
    (back_ints V.top (by omega) qa qc w1.heap.size W2 (Below W2.heap.size) (fun h1 h2 => h1.trans h2) (fun _ h => h) (fun W hW => ⟨cell_below hW c2.1, (HV.out.top.below HB2).below hW⟩)) (fun h1 h2 => h1.trans h2) (belowK_b (Nat.le_refl _)) (Below.refl _ _) (fun _ => rfl)
    (fun pre W => ((∀ y ∈ pre, containsB V.modal (V.top.getD y 0) = false) ∧ W.cell? ⟨w.heap.size, 2, none⟩ = some (.slice ma V.modal.length mc) ∧ W.cell? ⟨w.heap.size + 1, 0, none⟩ = some (.int .i64 0) ∧ W.frozen? ⟨w.heap.size + 1, 0, none⟩ = false) ∧ Below w.heap.size w W)
    (fun c pre W => (c = .ret ∧ (∃ pre' x, pre = pre' ++ [x] ∧ (∀ y ∈ pre', containsB V.modal (V.top.getD y 0) = false) ∧ containsB V.modal (V.top.getD x 0) = true ∧ W.cell? ⟨w.heap.size + 1, 0, none⟩ = some (.int .i64 (V.top.getD x 0)))) ∧ Below w.heap.size w W)
    (OwnFrom.and (Own.from (fun s A B row hs hg hr => ⟨hs.1, cell_kept hs.2.1 hg hr, cell_kept hs.2.2.1 hg hr, (frozen_kept hs.2.2.1 hg hr).trans hs.2.2.2⟩) _) (ownFrom_below (Nat.le_refl _) HB2.size))
    (fun c => OwnFrom.and (Own.from (fun s A B row hs hg hr => by
      obtain ⟨h1, pre', x, h2, h3, h4, h5⟩ := hs
      exact ⟨h1, pre', x, h2, h3, h4, cell_kept h5 hg hr⟩) _) (ownFrom_below (Nat.le_refl _) HB2.size))
    ⟨⟨by simp, cell_below hb2 P2'.out, cell_below hb2 R0.out, frozen_below hb2 R0.out R1.out⟩, HB2⟩
    (fun x => { tmps := #[.agg #[.slice ta V.tree.length tc, .slice oa V.op.length oc, .slice ma V.modal.length mc, .slice pa V.pops.length pc, .slice qa V.top.length qc], .pointer (some ⟨w.heap.size, 0, none⟩), .pointer (some ⟨w.heap.size + 1, 0, none⟩), undef, .int .i64 (V.top.getD x 0), .agg #[.slice ta V.tree.length tc, .slice oa V.op.length oc, .slice ma V.modal.length mc, .slice pa V.pops.length pc, .slice qa V.top.length qc], .int .i64 0, .bool false, .pointer (some ⟨w.heap.size, 4, none⟩), .slice qa V.top.length qc, .func (.func 123) #[] #[.pointer (some ⟨w1.heap.size, 0, none⟩)], .int .i64 (x : Int), .int .i64 (V.top.getD x 0), undef, undef, undef, undef, undef], defers := [] }) ?assign ?body ?done ?stop
  case assign =>
    intro l x W K hK
    simp only [backEI]
    generalize V.top.getD x 0 = y at *
    gi_wp2
    exact hK
  case body =>
    rintro l pre x W ⟨⟨hp, hcm, hcr, hfr⟩, hB⟩ _
    have HP := hideG hp
    have HBB := hideG hB
    have HCT := hideG (contains_any V.modal _ (V.top.getD x 0) W (HV.out.modal.below hB) (by omega))
    clear hp hB
    cases hcn : containsB V.modal (V.top.getD x 0)
    · rw [hcn] at HCT
      have HN := hideG hcn
      clear hcn
      have HGEN := hideG (show ∀ y ∈ pre ++ [x], containsB V.modal (V.top.getD y 0) = false from fun y hy => (List.mem_append.1 hy).elim (HP.out y) (fun e => by simp at e; subst e; exact HN.out))
      generalize hy : V.top.getD x 0 = y at HCT HN ⊢
      clear hy
      gi_wp2_with fail
      refine ⟨trivial, ?_⟩
      gi_at_call 73
      refine CallsIn.mono (CallsIn.inRound l (callsIn_wide.2 HCT.out)) ?_
      rintro ex w3 ⟨rfl, hw3⟩
      obtain rfl : _ = w3 := hw3.symm
      gi_wp2_with fail
      exact ⟨KeepsOthers.refl _, Below.refl _ _, ⟨HGEN.out, hcm, hcr, hfr⟩, HBB.out⟩
    · rw [hcn] at HCT
      have HN := hideG hcn
      clear hcn
      have HY := hideG (show ∃ y, y = V.top.getD x 0 from ⟨_, rfl⟩)
      obtain ⟨y, hy⟩ := HY.out
      rw [← hy] at HCT ⊢
      have HYY := hideG hy
      clear hy HY
      gi_wp2_with fail
      refine ⟨trivial, ?_⟩
      gi_at_call 73
      refine CallsIn.mono (CallsIn.inRound l (callsIn_wide.2 HCT.out)) ?_
      rintro ex w3 ⟨rfl, hw3⟩
      obtain rfl : _ = w3 := hw3.symm
      gi_wp2_with fail
      exact ⟨KeepsOthers.setCell _ _ _, ⟨rfl, pre, x, rfl, HP.out, HN.out, by rw [← HYY.out]; exact World.cell?_setCell_same' _ _ _ (by rw [hcr]; rfl)⟩, HBB.out.setCell (p := ⟨w.heap.size + 1, 0, none⟩) (by simp) _⟩
  case done =>
    rintro D ys W hD rfl ⟨⟨hne, _, hcr, hfr⟩, hB⟩ hK
    have HQ := hideG (show highV V = -1 from high_none (fun j hj => hne j (by simpa using hj)))
    clear hne
    gi_wp2
    have hK' := (KeepsOthers.setCell W ⟨w.heap.size + 1, 0, none⟩ (.int .i64 (-1))).same D _ hK rfl
    refine ⟨by simp, .inl ⟨_, _, rfl, run_takeDeferred hK', ?_⟩⟩
    have hc5 := cell_kept (World.cell?_setCell_same' W ⟨w.heap.size + 1, 0, none⟩ (.int .i64 (-1)) (by rw [hcr]; rfl)) (grownBy_putObj' _ D (.deferred none)) (fun r e => by cases e; exact ⟨_, hK', rfl⟩)
    refine ⟨.int .i64 (-1), ?_, by rw [HQ.out], (hB.setCell (p := ⟨w.heap.size + 1, 0, none⟩) (by simp) _).trans (belowK_b (w := w) (Nat.le_refl _) _ D _ _ (by have := HB2.size; (try simp at hD); omega) hK' rfl rfl)⟩
    simp [results, Tryz.f25, go_sem, hc5]
  case stop =>
    rintro D c pre W hD hpre ⟨⟨rfl, pre', x, rfl, hno, hyes, hcr⟩, hB⟩ hK
    have HQ := hideG (show highV V = V.top.getD x 0 from high_first hpre hno hyes)
    clear hno hyes
    gi_wp2
    refine ⟨by simp, .inl ⟨_, _, rfl, run_takeDeferred hK, ?_⟩⟩
    have hc5 := cell_kept hcr (grownBy_putObj' _ D (.deferred none)) (fun r e => by cases e; exact ⟨_, hK, rfl⟩)
    refine ⟨.int .i64 (V.top.getD x 0), ?_, by rw [HQ.out], hB.trans (belowK_b (w := w) (Nat.le_refl _) W D _ _ (by have := HB2.size; (try simp at hD); omega) hK rfl rfl)⟩
    simp [results, Tryz.f25, go_sem, hc5]
end Go.Proofs.YtclhimodopgeoaaGreat

