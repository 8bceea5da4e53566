/- Fix of package top, and of the document's, of any view. -/
import Derived.Test.YtclhimodopgeoaaGreatTB9
import Derived.Test.YtclhimodopgeoaaGreatXTopRFix
namespace Go.Proofs.YtclhimodopgeoaaGreat
open Go.RowKit
def fixGW (V : Vw) : List Int := if mayB V.tree then fixG V else []
def fixW (V : Vw) : Vw := if mayB V.tree then fixL V else emptyV
set_option maxRecDepth 100000 in
set_option maxHeartbeats 4000000 in
theorem fixBad (tv ov mv pv qv : Value) (V : Vw) (w : World) (hV : ViewAt w tv ov mv pv qv V) (hS : Sane V.tree) (hl : smallL V) (hm : mayB V.tree = false) :
    Calls Tryz.prog 22 #[.agg #[tv, ov, mv, pv, qv]] w fun x w' => ∃ t o m p q a c, x = .returned (.tuple #[.agg #[t, o, m, p, q], .slice a ([] : List Int).length c, .int .i64 1]) ∧ ViewAt w' t o m p q emptyV ∧ IntsAt w' (.slice a ([] : List Int).length c) [] ∧ Below w.heap.size w w' := by
  obtain ⟨hT, hO, hM, hP, hQ⟩ := hV
  obtain ⟨ta, tc, rfl⟩ := hT.shape
  obtain ⟨oa, oc, rfl⟩ := hO.shape
  obtain ⟨ma, mc, rfl⟩ := hM.shape
  obtain ⟨pa, pc, rfl⟩ := hP.shape
  obtain ⟨qa, qc, rfl⟩ := hQ.shape
  obtain ⟨W0, hW0⟩ : ∃ W0, (w.alloc (.cells #[.slice ta V.tree.length tc, .slice oa V.op.length oc, .slice ma V.modal.length mc, .slice pa V.pops.length pc, .slice qa V.top.length qc] 27)).alloc (.cells #[.slice none 0 0, .slice none 0 0, .slice none 0 0, .slice none 0 0, .slice none 0 0] 27) = W0 := ⟨_, rfl⟩
  have hbw : Below w.heap.size w W0 := by rw [← hW0]; exact ((Below.refl _ w).alloc (Nat.le_refl _) _).alloc (by simp) _
  have HB0 := hideG hbw
  have P0 := hideG (show W0.cell? ⟨w.heap.size, 0, none⟩ = some (.slice ta V.tree.length tc) by rw [← hW0]; exact cell_alloc_l _ (by simp))
  have P1 := hideG (show W0.cell? ⟨w.heap.size, 1, none⟩ = some (.slice oa V.op.length oc) by rw [← hW0]; exact cell_alloc_l _ (by simp))
  have P2 := hideG (show W0.cell? ⟨w.heap.size, 2, none⟩ = some (.slice ma V.modal.length mc) by rw [← hW0]; exact cell_alloc_l _ (by simp))
  have P3 := hideG (show W0.cell? ⟨w.heap.size, 3, none⟩ = some (.slice pa V.pops.length pc) by rw [← hW0]; exact cell_alloc_l _ (by simp))
  have P4 := hideG (show W0.cell? ⟨w.heap.size, 4, none⟩ = some (.slice qa V.top.length qc) by rw [← hW0]; exact cell_alloc_l _ (by simp))
  have HR := hideG (show ∀ j, j < 5 → ∃ u, W0.cell? ⟨w.heap.size + 1, j, none⟩ = some u ∧ W0.frozen? ⟨w.heap.size + 1, j, none⟩ = false from by
    have h1 := World.alloc_heap_new (w.alloc (.cells #[.slice ta V.tree.length tc, .slice oa V.op.length oc, .slice ma V.modal.length mc, .slice pa V.pops.length pc, .slice qa V.top.length qc] 27)) (.cells #[.slice none 0 0, .slice none 0 0, .slice none 0 0, .slice none 0 0, .slice none 0 0] 27)
    rw [World.size_alloc, hW0] at h1
    intro j hj
    obtain rfl | rfl | rfl | rfl | rfl : j = 0 ∨ j = 1 ∨ j = 2 ∨ j = 3 ∨ j = 4 := by omega
    all_goals exact ⟨.slice none 0 0, by simp [World.cell?, h1], by simp [World.frozen?, h1]⟩)
  have hs0 : W0.heap.size = w.heap.size + 2 := by rw [← hW0]; simp
  have HS0 := hideG hs0
  have HV := hideG (show ViewAt w _ _ _ _ _ V from ⟨hT, hO, hM, hP, hQ⟩)
  have HV0 := hideG (HV.out.below hbw)
  have HW0 := hideG hW0
  have HS := hideG hS
  have HL := hideG hl
  have HMF := hideG hm
  have HC := hideG (check_any V.tree HS.out _ W0 HV0.out.tree)
  rw [show checkE V.tree = 1 by simp [checkE, hm]] at HC
  have p0 := P0.out
  clear hW0 hT hO hM hP hQ hS hl hbw hs0 hm
  go_enter Tryz.func22, Tryz.ntmps22
  go_wp2_with fail
  rw [HW0.out]
  refine HC.out.mono ?_
  rintro ex w1 ⟨rfl, hb1⟩
  have HX1 := hideG hb1
  clear hb1 p0
  have p0 := cell_below HX1.out P0.out
  have p1 := cell_below HX1.out P1.out
  have p2 := cell_below HX1.out P2.out
  have p3 := cell_below HX1.out P3.out
  have p4 := cell_below HX1.out P4.out
  have hwb : w.heap.size < w1.heap.size := below_of_cell p0
  have HRk := hideG (show ∀ j, j < 5 → ∃ u, w1.cell? ⟨w.heap.size + 1, j, none⟩ = some u ∧ w1.frozen? ⟨w.heap.size + 1, j, none⟩ = false from fun j hj => let ⟨u, h1, h2⟩ := HR.out j hj; ⟨u, cell_below HX1.out h1, frozen_below HX1.out h1 h2⟩)
  obtain ⟨u0, rc0, rf0⟩ := HRk.out 0 (by decide)
  obtain ⟨u1, rc1, rf1⟩ := HRk.out 1 (by decide)
  obtain ⟨u2, rc2, rf2⟩ := HRk.out 2 (by decide)
  obtain ⟨u3, rc3, rf3⟩ := HRk.out 3 (by decide)
  obtain ⟨u4, rc4, rf4⟩ := HRk.out 4 (by decide)
  have HB := hideG (HB0.out.trans (HX1.out.mono HB0.out.size))
  go_wp2_with fail
  have hat := set5_at (U := w1) (R := w.heap.size + 1) (v0 := .slice none 0 0) (v1 := .slice none 0 0) (v2 := .slice none 0 0) (v3 := .slice none 0 0) (v4 := .slice none 0 0) HRk.out
  unfold set5 at hat
  obtain ⟨t0, t1, t2, t3, t4⟩ := hat
  refine bodyPost_ret (v := .tuple #[.agg #[.slice none 0 0, .slice none 0 0, .slice none 0 0, .slice none 0 0, .slice none 0 0], .slice none 0 0, .int .i64 1]) (by simp [results, Tryz.f22, go_sem, t0, t1, t2, t3, t4]) rfl ?_
  exact ⟨_, _, _, _, _, _, _, rfl, emptyV_at _, ints_none _, set5_below HB.out (by omega)⟩
set_option maxRecDepth 100000 in
set_option maxHeartbeats 4000000 in
theorem rfixBad (tv ov mv pv qv : Value) (V : Vw) (w : World) (hV : ViewAt w tv ov mv pv qv V) (hS : Sane V.tree) (hl : smallL V) (hm : mayB V.tree = false) :
    Calls Tryz.prog 23 #[.agg #[tv, ov, mv, pv, qv]] w fun x w' => ∃ t o m p q a c, x = .returned (.tuple #[.agg #[t, o, m, p, q], .slice a ([] : List Int).length c, .int .i64 1]) ∧ ViewAt w' t o m p q emptyV ∧ IntsAt w' (.slice a ([] : List Int).length c) [] ∧ Below w.heap.size w w' := by
  obtain ⟨hT, hO, hM, hP, hQ⟩ := hV
  obtain ⟨ta, tc, rfl⟩ := hT.shape
  obtain ⟨oa, oc, rfl⟩ := hO.shape
  obtain ⟨ma, mc, rfl⟩ := hM.shape
  obtain ⟨pa, pc, rfl⟩ := hP.shape
  obtain ⟨qa, qc, rfl⟩ := hQ.shape
  obtain ⟨W0, hW0⟩ : ∃ W0, (w.alloc (.cells #[.slice ta V.tree.length tc, .slice oa V.op.length oc, .slice ma V.modal.length mc, .slice pa V.pops.length pc, .slice qa V.top.length qc] 27)).alloc (.cells #[.slice none 0 0, .slice none 0 0, .slice none 0 0, .slice none 0 0, .slice none 0 0] 27) = W0 := ⟨_, rfl⟩
  have hbw : Below w.heap.size w W0 := by rw [← hW0]; exact ((Below.refl _ w).alloc (Nat.le_refl _) _).alloc (by simp) _
  have HB0 := hideG hbw
  have P0 := hideG (show W0.cell? ⟨w.heap.size, 0, none⟩ = some (.slice ta V.tree.length tc) by rw [← hW0]; exact cell_alloc_l _ (by simp))
  have P1 := hideG (show W0.cell? ⟨w.heap.size, 1, none⟩ = some (.slice oa V.op.length oc) by rw [← hW0]; exact cell_alloc_l _ (by simp))
  have P2 := hideG (show W0.cell? ⟨w.heap.size, 2, none⟩ = some (.slice ma V.modal.length mc) by rw [← hW0]; exact cell_alloc_l _ (by simp))
  have P3 := hideG (show W0.cell? ⟨w.heap.size, 3, none⟩ = some (.slice pa V.pops.length pc) by rw [← hW0]; exact cell_alloc_l _ (by simp))
  have P4 := hideG (show W0.cell? ⟨w.heap.size, 4, none⟩ = some (.slice qa V.top.length qc) by rw [← hW0]; exact cell_alloc_l _ (by simp))
  have HR := hideG (show ∀ j, j < 5 → ∃ u, W0.cell? ⟨w.heap.size + 1, j, none⟩ = some u ∧ W0.frozen? ⟨w.heap.size + 1, j, none⟩ = false from by
    have h1 := World.alloc_heap_new (w.alloc (.cells #[.slice ta V.tree.length tc, .slice oa V.op.length oc, .slice ma V.modal.length mc, .slice pa V.pops.length pc, .slice qa V.top.length qc] 27)) (.cells #[.slice none 0 0, .slice none 0 0, .slice none 0 0, .slice none 0 0, .slice none 0 0] 27)
    rw [World.size_alloc, hW0] at h1
    intro j hj
    obtain rfl | rfl | rfl | rfl | rfl : j = 0 ∨ j = 1 ∨ j = 2 ∨ j = 3 ∨ j = 4 := by omega
    all_goals exact ⟨.slice none 0 0, by simp [World.cell?, h1], by simp [World.frozen?, h1]⟩)
  have hs0 : W0.heap.size = w.heap.size + 2 := by rw [← hW0]; simp
  have HS0 := hideG hs0
  have HV := hideG (show ViewAt w _ _ _ _ _ V from ⟨hT, hO, hM, hP, hQ⟩)
  have HV0 := hideG (HV.out.below hbw)
  have HW0 := hideG hW0
  have HS := hideG hS
  have HL := hideG hl
  have HMF := hideG hm
  have HC := hideG (refMay_walk V.tree HS.out _ W0 HV0.out.tree)
  rw [hm] at HC
  have p0 := P0.out
  clear hW0 hT hO hM hP hQ hS hl hbw hs0 hm
  go_enter Tryz.func23, Tryz.ntmps23
  go_wp2_with fail
  rw [HW0.out]
  refine HC.out.mono ?_
  rintro ex w1 ⟨rfl, hb1⟩
  have HX1 := hideG hb1
  clear hb1 p0
  have p0 := cell_below HX1.out P0.out
  have p1 := cell_below HX1.out P1.out
  have p2 := cell_below HX1.out P2.out
  have p3 := cell_below HX1.out P3.out
  have p4 := cell_below HX1.out P4.out
  have hwb : w.heap.size < w1.heap.size := below_of_cell p0
  have HRk := hideG (show ∀ j, j < 5 → ∃ u, w1.cell? ⟨w.heap.size + 1, j, none⟩ = some u ∧ w1.frozen? ⟨w.heap.size + 1, j, none⟩ = false from fun j hj => let ⟨u, h1, h2⟩ := HR.out j hj; ⟨u, cell_below HX1.out h1, frozen_below HX1.out h1 h2⟩)
  obtain ⟨u0, rc0, rf0⟩ := HRk.out 0 (by decide)
  obtain ⟨u1, rc1, rf1⟩ := HRk.out 1 (by decide)
  obtain ⟨u2, rc2, rf2⟩ := HRk.out 2 (by decide)
  obtain ⟨u3, rc3, rf3⟩ := HRk.out 3 (by decide)
  obtain ⟨u4, rc4, rf4⟩ := HRk.out 4 (by decide)
  have HB := hideG (HB0.out.trans (HX1.out.mono HB0.out.size))
  go_wp2_with fail
  have hat := set5_at (U := w1) (R := w.heap.size + 1) (v0 := .slice none 0 0) (v1 := .slice none 0 0) (v2 := .slice none 0 0) (v3 := .slice none 0 0) (v4 := .slice none 0 0) HRk.out
  unfold set5 at hat
  obtain ⟨t0, t1, t2, t3, t4⟩ := hat
  refine bodyPost_ret (v := .tuple #[.agg #[.slice none 0 0, .slice none 0 0, .slice none 0 0, .slice none 0 0, .slice none 0 0], .slice none 0 0, .int .i64 1]) (by simp [results, Tryz.f23, go_sem, t0, t1, t2, t3, t4]) rfl ?_
  exact ⟨_, _, _, _, _, _, _, rfl, emptyV_at _, ints_none _, set5_below HB.out (by omega)⟩
theorem fix_any (tv ov mv pv qv : Value) (V : Vw) (w : World) (hV : ViewAt w tv ov mv pv qv V) (hS : Sane V.tree) (hl : smallL V) (htl : V.tree.length ≤ 1000) :
    Calls Tryz.prog 22 #[.agg #[tv, ov, mv, pv, qv]] w fun x w' => ∃ t o m p q a c, x = .returned (.tuple #[.agg #[t, o, m, p, q], .slice a (fixGW V).length c, .int .i64 (checkE V.tree)]) ∧ ViewAt w' t o m p q (fixW V) ∧ IntsAt w' (.slice a (fixGW V).length c) (fixGW V) ∧ Below w.heap.size w w' := by
  cases hm : mayB V.tree
  · rw [show fixGW V = [] by simp [fixGW, hm], show fixW V = emptyV by simp [fixW, hm], show checkE V.tree = 1 by simp [checkE, hm]]
    exact fixBad tv ov mv pv qv V w hV hS hl hm
  · rw [show fixGW V = fixG V by simp [fixGW, hm], show fixW V = fixL V by simp [fixW, hm], show checkE V.tree = 0 by simp [checkE, hm]]
    exact fixOk tv ov mv pv qv V w hV hS hl hm htl
theorem rfix_any (tv ov mv pv qv : Value) (V : Vw) (w : World) (hV : ViewAt w tv ov mv pv qv V) (hS : Sane V.tree) (hl : smallL V) (_ : V.tree.length ≤ 1000) :
    Calls Tryz.prog 23 #[.agg #[tv, ov, mv, pv, qv]] w fun x w' => ∃ t o m p q a c, x = .returned (.tuple #[.agg #[t, o, m, p, q], .slice a (fixGW V).length c, .int .i64 (checkE V.tree)]) ∧ ViewAt w' t o m p q (fixW V) ∧ IntsAt w' (.slice a (fixGW V).length c) (fixGW V) ∧ Below w.heap.size w w' := by
  cases hm : mayB V.tree
  · rw [show fixGW V = [] by simp [fixGW, hm], show fixW V = emptyV by simp [fixW, hm], show checkE V.tree = 1 by simp [checkE, hm]]
    exact rfixBad tv ov mv pv qv V w hV hS hl hm
  · rw [show fixGW V = fixG V by simp [fixGW, hm], show fixW V = fixL V by simp [fixW, hm], show checkE V.tree = 0 by simp [checkE, hm]]
    exact rfixOk tv ov mv pv qv V w hV hS hl hm
end Go.Proofs.YtclhimodopgeoaaGreat

