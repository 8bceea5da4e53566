/- Close of the document's package of layer 10. -/
import Derived.Test.YtclhimodopgeoaaGreatXTopAny
import Derived.Test.YtclhimodopgeoaaGreatXTopRCopy
import Derived.Test.YtclhimodopgeoaaGreatXStepApp
namespace Go.Proofs.YtclhimodopgeoaaGreat
open Go.RowKit

set_option maxRecDepth 100000 in
set_option maxHeartbeats 4000000 in
theorem rcloseBad (tv ov mv pv qv : Value) (V : Vw) (w : World) (hV : ViewAt w tv ov mv pv qv V) (hS : Sane V.tree) (hl : smallL V) (n : Int) (hne : checkV V ≠ 0) :
    Calls Tryz.prog 34 #[.agg #[tv, ov, mv, pv, qv], .int .i64 n] w fun x w' => ∃ t o m p q, x = .returned (.tuple #[.agg #[t, o, m, p, q], .int .i64 (checkV V)]) ∧ ViewAt w' t o m p q emptyV ∧ Below w.heap.size w w' := by
  obtain ⟨hT, hO, hM, hP, hQ⟩ := hV
  obtain ⟨ta, tc, rfl⟩ := hT.shape
  obtain ⟨oa, oc, rfl⟩ := hO.shape
  obtain ⟨ma, mc, rfl⟩ := hM.shape
  obtain ⟨pa, pc, rfl⟩ := hP.shape
  obtain ⟨qa, qc, rfl⟩ := hQ.shape
  obtain ⟨W0, hW0⟩ : ∃ W0, (w.alloc (.cells #[.slice ta V.tree.length tc, .slice oa V.op.length oc, .slice ma V.modal.length mc, .slice pa V.pops.length pc, .slice qa V.top.length qc] 27)).alloc (.cells #[.slice none 0 0, .slice none 0 0, .slice none 0 0, .slice none 0 0, .slice none 0 0] 27) = W0 := ⟨_, rfl⟩
  have hbw : Below w.heap.size w W0 := by rw [← hW0]; exact ((Below.refl _ w).alloc (Nat.le_refl _) _).alloc (by simp) _
  have HB0 := hideG hbw
  have P0 := hideG (show W0.cell? ⟨w.heap.size, 0, none⟩ = some (.slice ta V.tree.length tc) by rw [← hW0]; exact cell_alloc_l _ (by simp))
  have P1 := hideG (show W0.cell? ⟨w.heap.size, 1, none⟩ = some (.slice oa V.op.length oc) by rw [← hW0]; exact cell_alloc_l _ (by simp))
  have P2 := hideG (show W0.cell? ⟨w.heap.size, 2, none⟩ = some (.slice ma V.modal.length mc) by rw [← hW0]; exact cell_alloc_l _ (by simp))
  have P3 := hideG (show W0.cell? ⟨w.heap.size, 3, none⟩ = some (.slice pa V.pops.length pc) by rw [← hW0]; exact cell_alloc_l _ (by simp))
  have P4 := hideG (show W0.cell? ⟨w.heap.size, 4, none⟩ = some (.slice qa V.top.length qc) by rw [← hW0]; exact cell_alloc_l _ (by simp))
  have HR := hideG (show ∀ j, j < 5 → ∃ u, W0.cell? ⟨w.heap.size + 1, j, none⟩ = some u ∧ W0.frozen? ⟨w.heap.size + 1, j, none⟩ = false from by
    have h1 := World.alloc_heap_new (w.alloc (.cells #[.slice ta V.tree.length tc, .slice oa V.op.length oc, .slice ma V.modal.length mc, .slice pa V.pops.length pc, .slice qa V.top.length qc] 27)) (.cells #[.slice none 0 0, .slice none 0 0, .slice none 0 0, .slice none 0 0, .slice none 0 0] 27)
    rw [World.size_alloc, hW0] at h1
    intro j hj
    obtain rfl | rfl | rfl | rfl | rfl : j = 0 ∨ j = 1 ∨ j = 2 ∨ j = 3 ∨ j = 4 := by omega
    all_goals exact ⟨.slice none 0 0, by simp [World.cell?, h1], by simp [World.frozen?, h1]⟩)
  have hs0 : W0.heap.size = w.heap.size + 2 := by rw [← hW0]; simp
  have HS0 := hideG hs0
  have HV := hideG (show ViewAt w _ _ _ _ _ V from ⟨hT, hO, hM, hP, hQ⟩)
  have HV0 := hideG (HV.out.below hbw)
  have HW0 := hideG hW0
  have HS := hideG hS
  have HL := hideG hl
  have HC := hideG (refCheck10_any _ _ _ _ _ V W0 HV0.out HS.out (by have h := HL.out; unfold smallL at h; omega))
  have h1l : V.op.length ≤ 500 := hl.1
  have h2l : V.modal.length ≤ 500 := hl.2.1
  have h3l : V.pops.length ≤ 500 := hl.2.2.1
  have h4l : V.top.length ≤ 1000 := hl.2.2.2
  have p0 := P0.out
  have p1 := P1.out
  have p2 := P2.out
  have p3 := P3.out
  have p4 := P4.out
  clear hW0 hT hO hM hP hQ hS hl hbw hs0
  have hcd := check_bad hne
  generalize checkV V = c at *
  clear hne
  go_enter Tryz.func34, Tryz.ntmps34
  go_wp2_with fail
  rw [HW0.out]
  refine HC.out.mono ?_
  rintro ex w1 ⟨rfl, hb1⟩
  have HX1 := hideG hb1
  clear hb1 p0 p1 p2 p3 p4
  have p0 := cell_below HX1.out P0.out
  have p1 := cell_below HX1.out P1.out
  have p2 := cell_below HX1.out P2.out
  have p3 := cell_below HX1.out P3.out
  have p4 := cell_below HX1.out P4.out
  have hwb : w.heap.size < w1.heap.size := below_of_cell p0
  have HRk := hideG (show ∀ j, j < 5 → ∃ u, w1.cell? ⟨w.heap.size + 1, j, none⟩ = some u ∧ w1.frozen? ⟨w.heap.size + 1, j, none⟩ = false from fun j hj => let ⟨u, h1, h2⟩ := HR.out j hj; ⟨u, cell_below HX1.out h1, frozen_below HX1.out h1 h2⟩)
  obtain ⟨u0, rc0, rf0⟩ := HRk.out 0 (by decide)
  obtain ⟨u1, rc1, rf1⟩ := HRk.out 1 (by decide)
  obtain ⟨u2, rc2, rf2⟩ := HRk.out 2 (by decide)
  obtain ⟨u3, rc3, rf3⟩ := HRk.out 3 (by decide)
  obtain ⟨u4, rc4, rf4⟩ := HRk.out 4 (by decide)
  have HB := hideG (HB0.out.trans (HX1.out.mono HB0.out.size))
  rcases hcd with rfl | rfl
  · go_wp2_with fail
    have hat := set5_at (U := w1) (R := w.heap.size + 1) (v0 := .slice none 0 0) (v1 := .slice none 0 0) (v2 := .slice none 0 0) (v3 := .slice none 0 0) (v4 := .slice none 0 0) HRk.out
    unfold set5 at hat
    obtain ⟨t0, t1, t2, t3, t4⟩ := hat
    refine bodyPost_ret (v := .tuple #[.agg #[.slice none 0 0, .slice none 0 0, .slice none 0 0, .slice none 0 0, .slice none 0 0], .int .i64 (1)]) (by simp [results, Tryz.f34, go_sem, t0, t1, t2, t3, t4]) rfl ?_
    refine ⟨_, _, _, _, _, rfl, ?_, set5_below HB.out (by omega)⟩
    exact emptyV_at _
  · go_wp2_with fail
    have hat := set5_at (U := w1) (R := w.heap.size + 1) (v0 := .slice none 0 0) (v1 := .slice none 0 0) (v2 := .slice none 0 0) (v3 := .slice none 0 0) (v4 := .slice none 0 0) HRk.out
    unfold set5 at hat
    obtain ⟨t0, t1, t2, t3, t4⟩ := hat
    refine bodyPost_ret (v := .tuple #[.agg #[.slice none 0 0, .slice none 0 0, .slice none 0 0, .slice none 0 0, .slice none 0 0], .int .i64 (9)]) (by simp [results, Tryz.f34, go_sem, t0, t1, t2, t3, t4]) rfl ?_
    refine ⟨_, _, _, _, _, rfl, ?_, set5_below HB.out (by omega)⟩
    exact emptyV_at _

set_option maxRecDepth 100000 in
set_option maxHeartbeats 4000000 in
theorem rcloseNode (tv ov mv pv qv : Value) (V : Vw) (w : World) (hV : ViewAt w tv ov mv pv qv V) (hS : Sane V.tree) (hl : smallL V) (n : Int) (hck : checkV V = 0) (hn : isNodeB V.tree.length n = false) :
    Calls Tryz.prog 34 #[.agg #[tv, ov, mv, pv, qv], .int .i64 n] w fun x w' => ∃ t o m p q, x = .returned (.tuple #[.agg #[t, o, m, p, q], .int .i64 (2)]) ∧ ViewAt w' t o m p q V ∧ Below w.heap.size w w' := by
  obtain ⟨hT, hO, hM, hP, hQ⟩ := hV
  obtain ⟨ta, tc, rfl⟩ := hT.shape
  obtain ⟨oa, oc, rfl⟩ := hO.shape
  obtain ⟨ma, mc, rfl⟩ := hM.shape
  obtain ⟨pa, pc, rfl⟩ := hP.shape
  obtain ⟨qa, qc, rfl⟩ := hQ.shape
  obtain ⟨W0, hW0⟩ : ∃ W0, (w.alloc (.cells #[.slice ta V.tree.length tc, .slice oa V.op.length oc, .slice ma V.modal.length mc, .slice pa V.pops.length pc, .slice qa V.top.length qc] 27)).alloc (.cells #[.slice none 0 0, .slice none 0 0, .slice none 0 0, .slice none 0 0, .slice none 0 0] 27) = W0 := ⟨_, rfl⟩
  have hbw : Below w.heap.size w W0 := by rw [← hW0]; exact ((Below.refl _ w).alloc (Nat.le_refl _) _).alloc (by simp) _
  have HB0 := hideG hbw
  have P0 := hideG (show W0.cell? ⟨w.heap.size, 0, none⟩ = some (.slice ta V.tree.length tc) by rw [← hW0]; exact cell_alloc_l _ (by simp))
  have P1 := hideG (show W0.cell? ⟨w.heap.size, 1, none⟩ = some (.slice oa V.op.length oc) by rw [← hW0]; exact cell_alloc_l _ (by simp))
  have P2 := hideG (show W0.cell? ⟨w.heap.size, 2, none⟩ = some (.slice ma V.modal.length mc) by rw [← hW0]; exact cell_alloc_l _ (by simp))
  have P3 := hideG (show W0.cell? ⟨w.heap.size, 3, none⟩ = some (.slice pa V.pops.length pc) by rw [← hW0]; exact cell_alloc_l _ (by simp))
  have P4 := hideG (show W0.cell? ⟨w.heap.size, 4, none⟩ = some (.slice qa V.top.length qc) by rw [← hW0]; exact cell_alloc_l _ (by simp))
  have HR := hideG (show ∀ j, j < 5 → ∃ u, W0.cell? ⟨w.heap.size + 1, j, none⟩ = some u ∧ W0.frozen? ⟨w.heap.size + 1, j, none⟩ = false from by
    have h1 := World.alloc_heap_new (w.alloc (.cells #[.slice ta V.tree.length tc, .slice oa V.op.length oc, .slice ma V.modal.length mc, .slice pa V.pops.length pc, .slice qa V.top.length qc] 27)) (.cells #[.slice none 0 0, .slice none 0 0, .slice none 0 0, .slice none 0 0, .slice none 0 0] 27)
    rw [World.size_alloc, hW0] at h1
    intro j hj
    obtain rfl | rfl | rfl | rfl | rfl : j = 0 ∨ j = 1 ∨ j = 2 ∨ j = 3 ∨ j = 4 := by omega
    all_goals exact ⟨.slice none 0 0, by simp [World.cell?, h1], by simp [World.frozen?, h1]⟩)
  have hs0 : W0.heap.size = w.heap.size + 2 := by rw [← hW0]; simp
  have HS0 := hideG hs0
  have HV := hideG (show ViewAt w _ _ _ _ _ V from ⟨hT, hO, hM, hP, hQ⟩)
  have HV0 := hideG (HV.out.below hbw)
  have HW0 := hideG hW0
  have HS := hideG hS
  have HL := hideG hl
  have HC := hideG (refCheck10_any _ _ _ _ _ V W0 HV0.out HS.out (by have h := HL.out; unfold smallL at h; omega))
  have h1l : V.op.length ≤ 500 := hl.1
  have h2l : V.modal.length ≤ 500 := hl.2.1
  have h3l : V.pops.length ≤ 500 := hl.2.2.1
  have h4l : V.top.length ≤ 1000 := hl.2.2.2
  have p0 := P0.out
  have p1 := P1.out
  have p2 := P2.out
  have p3 := P3.out
  have p4 := P4.out
  have HM := hideG (show mayB V.tree = true from check_may hck)
  rw [hck] at HC
  clear hW0 hT hO hM hP hQ hS hl hbw hs0 hck
  have HN := hideG hn
  clear hn
  go_enter Tryz.func34, Tryz.ntmps34
  go_wp2_with fail
  rw [HW0.out]
  refine HC.out.mono ?_
  rintro ex w1 ⟨rfl, hb1⟩
  have HX1 := hideG hb1
  clear hb1 p0 p1 p2 p3 p4
  have p0 := cell_below HX1.out P0.out
  have p1 := cell_below HX1.out P1.out
  have p2 := cell_below HX1.out P2.out
  have p3 := cell_below HX1.out P3.out
  have p4 := cell_below HX1.out P4.out
  have hwb : w.heap.size < w1.heap.size := below_of_cell p0
  have HRk := hideG (show ∀ j, j < 5 → ∃ u, w1.cell? ⟨w.heap.size + 1, j, none⟩ = some u ∧ w1.frozen? ⟨w.heap.size + 1, j, none⟩ = false from fun j hj => let ⟨u, h1, h2⟩ := HR.out j hj; ⟨u, cell_below HX1.out h1, frozen_below HX1.out h1 h2⟩)
  obtain ⟨u0, rc0, rf0⟩ := HRk.out 0 (by decide)
  obtain ⟨u1, rc1, rf1⟩ := HRk.out 1 (by decide)
  obtain ⟨u2, rc2, rf2⟩ := HRk.out 2 (by decide)
  obtain ⟨u3, rc3, rf3⟩ := HRk.out 3 (by decide)
  obtain ⟨u4, rc4, rf4⟩ := HRk.out 4 (by decide)
  go_wp2_with (go_at_call 47; refine (refIs_any _ _ _ _ _).mono ?_; rintro e wz ⟨rfl, hwz⟩; obtain rfl : _ = wz := hwz.symm; rw [HN.out])
  have HB := hideG (HB0.out.trans (HX1.out.mono HB0.out.size))
  have hat := set5_at (U := w1) (R := w.heap.size + 1) (v0 := .slice ta V.tree.length tc) (v1 := .slice oa V.op.length oc) (v2 := .slice ma V.modal.length mc) (v3 := .slice pa V.pops.length pc) (v4 := .slice qa V.top.length qc) HRk.out
  unfold set5 at hat
  obtain ⟨t0, t1, t2, t3, t4⟩ := hat
  refine bodyPost_ret (v := .tuple #[.agg #[.slice ta V.tree.length tc, .slice oa V.op.length oc, .slice ma V.modal.length mc, .slice pa V.pops.length pc, .slice qa V.top.length qc], .int .i64 (2)]) (by simp [results, Tryz.f34, go_sem, t0, t1, t2, t3, t4]) rfl ?_
  refine ⟨_, _, _, _, _, rfl, ?_, set5_below HB.out (by omega)⟩
  exact HV.out.below (set5_below HB.out (by omega))

set_option maxRecDepth 100000 in
set_option maxHeartbeats 4000000 in
theorem rcloseState (tv ov mv pv qv : Value) (V : Vw) (w : World) (hV : ViewAt w tv ov mv pv qv V) (hS : Sane V.tree) (hl : smallL V) (n : Int) (hck : checkV V = 0) (hn : isNodeB V.tree.length n = true) (ho : containsB (openedL V) n = false) :
    Calls Tryz.prog 34 #[.agg #[tv, ov, mv, pv, qv], .int .i64 n] w fun x w' => ∃ t o m p q, x = .returned (.tuple #[.agg #[t, o, m, p, q], .int .i64 (9)]) ∧ ViewAt w' t o m p q V ∧ Below w.heap.size w w' := by
  obtain ⟨hT, hO, hM, hP, hQ⟩ := hV
  obtain ⟨ta, tc, rfl⟩ := hT.shape
  obtain ⟨oa, oc, rfl⟩ := hO.shape
  obtain ⟨ma, mc, rfl⟩ := hM.shape
  obtain ⟨pa, pc, rfl⟩ := hP.shape
  obtain ⟨qa, qc, rfl⟩ := hQ.shape
  obtain ⟨W0, hW0⟩ : ∃ W0, (w.alloc (.cells #[.slice ta V.tree.length tc, .slice oa V.op.length oc, .slice ma V.modal.length mc, .slice pa V.pops.length pc, .slice qa V.top.length qc] 27)).alloc (.cells #[.slice none 0 0, .slice none 0 0, .slice none 0 0, .slice none 0 0, .slice none 0 0] 27) = W0 := ⟨_, rfl⟩
  have hbw : Below w.heap.size w W0 := by rw [← hW0]; exact ((Below.refl _ w).alloc (Nat.le_refl _) _).alloc (by simp) _
  have HB0 := hideG hbw
  have P0 := hideG (show W0.cell? ⟨w.heap.size, 0, none⟩ = some (.slice ta V.tree.length tc) by rw [← hW0]; exact cell_alloc_l _ (by simp))
  have P1 := hideG (show W0.cell? ⟨w.heap.size, 1, none⟩ = some (.slice oa V.op.length oc) by rw [← hW0]; exact cell_alloc_l _ (by simp))
  have P2 := hideG (show W0.cell? ⟨w.heap.size, 2, none⟩ = some (.slice ma V.modal.length mc) by rw [← hW0]; exact cell_alloc_l _ (by simp))
  have P3 := hideG (show W0.cell? ⟨w.heap.size, 3, none⟩ = some (.slice pa V.pops.length pc) by rw [← hW0]; exact cell_alloc_l _ (by simp))
  have P4 := hideG (show W0.cell? ⟨w.heap.size, 4, none⟩ = some (.slice qa V.top.length qc) by rw [← hW0]; exact cell_alloc_l _ (by simp))
  have HR := hideG (show ∀ j, j < 5 → ∃ u, W0.cell? ⟨w.heap.size + 1, j, none⟩ = some u ∧ W0.frozen? ⟨w.heap.size + 1, j, none⟩ = false from by
    have h1 := World.alloc_heap_new (w.alloc (.cells #[.slice ta V.tree.length tc, .slice oa V.op.length oc, .slice ma V.modal.length mc, .slice pa V.pops.length pc, .slice qa V.top.length qc] 27)) (.cells #[.slice none 0 0, .slice none 0 0, .slice none 0 0, .slice none 0 0, .slice none 0 0] 27)
    rw [World.size_alloc, hW0] at h1
    intro j hj
    obtain rfl | rfl | rfl | rfl | rfl : j = 0 ∨ j = 1 ∨ j = 2 ∨ j = 3 ∨ j = 4 := by omega
    all_goals exact ⟨.slice none 0 0, by simp [World.cell?, h1], by simp [World.frozen?, h1]⟩)
  have hs0 : W0.heap.size = w.heap.size + 2 := by rw [← hW0]; simp
  have HS0 := hideG hs0
  have HV := hideG (show ViewAt w _ _ _ _ _ V from ⟨hT, hO, hM, hP, hQ⟩)
  have HV0 := hideG (HV.out.below hbw)
  have HW0 := hideG hW0
  have HS := hideG hS
  have HL := hideG hl
  have HC := hideG (refCheck10_any _ _ _ _ _ V W0 HV0.out HS.out (by have h := HL.out; unfold smallL at h; omega))
  have h1l : V.op.length ≤ 500 := hl.1
  have h2l : V.modal.length ≤ 500 := hl.2.1
  have h3l : V.pops.length ≤ 500 := hl.2.2.1
  have h4l : V.top.length ≤ 1000 := hl.2.2.2
  have p0 := P0.out
  have p1 := P1.out
  have p2 := P2.out
  have p3 := P3.out
  have p4 := P4.out
  have HM := hideG (show mayB V.tree = true from check_may hck)
  rw [hck] at HC
  clear hW0 hT hO hM hP hQ hS hl hbw hs0 hck
  have HN := hideG hn
  have HO := hideG ho
  clear hn ho
  go_enter Tryz.func34, Tryz.ntmps34
  go_wp2_with fail
  rw [HW0.out]
  refine HC.out.mono ?_
  rintro ex w1 ⟨rfl, hb1⟩
  have HX1 := hideG hb1
  clear hb1 p0 p1 p2 p3 p4
  have p0 := cell_below HX1.out P0.out
  have p1 := cell_below HX1.out P1.out
  have p2 := cell_below HX1.out P2.out
  have p3 := cell_below HX1.out P3.out
  have p4 := cell_below HX1.out P4.out
  have hwb : w.heap.size < w1.heap.size := below_of_cell p0
  have HRk := hideG (show ∀ j, j < 5 → ∃ u, w1.cell? ⟨w.heap.size + 1, j, none⟩ = some u ∧ w1.frozen? ⟨w.heap.size + 1, j, none⟩ = false from fun j hj => let ⟨u, h1, h2⟩ := HR.out j hj; ⟨u, cell_below HX1.out h1, frozen_below HX1.out h1 h2⟩)
  obtain ⟨u0, rc0, rf0⟩ := HRk.out 0 (by decide)
  obtain ⟨u1, rc1, rf1⟩ := HRk.out 1 (by decide)
  obtain ⟨u2, rc2, rf2⟩ := HRk.out 2 (by decide)
  obtain ⟨u3, rc3, rf3⟩ := HRk.out 3 (by decide)
  obtain ⟨u4, rc4, rf4⟩ := HRk.out 4 (by decide)
  go_wp2_with (go_at_call 47; refine (refIs_any _ _ _ _ _).mono ?_; rintro e wz ⟨rfl, hwz⟩; obtain rfl : _ = wz := hwz.symm; rw [HN.out])
  clear p0 p1 p2 p3 p4 hwb rc0 rc1 rc2 rc3 rc4 rf0 rf1 rf2 rf3 rf4 HRk
  refine (refIsOpen_any _ _ _ _ _ V w1 (HV0.out.below HX1.out) n ⟨by omega, by omega, by omega⟩).mono ?_
  rintro ex w3 ⟨rfl, hb3⟩
  rw [HO.out]
  have HX3 := hideG (HX1.out.trans (hb3.mono HX1.out.size))
  clear hb3
  have p0 := cell_below HX3.out P0.out
  have p1 := cell_below HX3.out P1.out
  have p2 := cell_below HX3.out P2.out
  have p3 := cell_below HX3.out P3.out
  have p4 := cell_below HX3.out P4.out
  have hwb : w.heap.size < w3.heap.size := below_of_cell p0
  have HRk := hideG (show ∀ j, j < 5 → ∃ u, w3.cell? ⟨w.heap.size + 1, j, none⟩ = some u ∧ w3.frozen? ⟨w.heap.size + 1, j, none⟩ = false from fun j hj => let ⟨u, h1, h2⟩ := HR.out j hj; ⟨u, cell_below HX3.out h1, frozen_below HX3.out h1 h2⟩)
  obtain ⟨u0, rc0, rf0⟩ := HRk.out 0 (by decide)
  obtain ⟨u1, rc1, rf1⟩ := HRk.out 1 (by decide)
  obtain ⟨u2, rc2, rf2⟩ := HRk.out 2 (by decide)
  obtain ⟨u3, rc3, rf3⟩ := HRk.out 3 (by decide)
  obtain ⟨u4, rc4, rf4⟩ := HRk.out 4 (by decide)
  go_wp2_with fail
  have HB := hideG (HB0.out.trans (HX3.out.mono HB0.out.size))
  have hat := set5_at (U := w3) (R := w.heap.size + 1) (v0 := .slice ta V.tree.length tc) (v1 := .slice oa V.op.length oc) (v2 := .slice ma V.modal.length mc) (v3 := .slice pa V.pops.length pc) (v4 := .slice qa V.top.length qc) HRk.out
  unfold set5 at hat
  obtain ⟨t0, t1, t2, t3, t4⟩ := hat
  refine bodyPost_ret (v := .tuple #[.agg #[.slice ta V.tree.length tc, .slice oa V.op.length oc, .slice ma V.modal.length mc, .slice pa V.pops.length pc, .slice qa V.top.length qc], .int .i64 (9)]) (by simp [results, Tryz.f34, go_sem, t0, t1, t2, t3, t4]) rfl ?_
  refine ⟨_, _, _, _, _, rfl, ?_, set5_below HB.out (by omega)⟩
  exact HV.out.below (set5_below HB.out (by omega))

set_option maxRecDepth 100000 in
set_option maxHeartbeats 4000000 in
theorem rcloseOk (tv ov mv pv qv : Value) (V : Vw) (w : World) (hV : ViewAt w tv ov mv pv qv V) (hS : Sane V.tree) (hl : smallL V) (n : Int) (htl : V.tree.length ≤ 1000) (hck : checkV V = 0) (hn : isNodeB V.tree.length n = true) (ho : containsB (openedL V) n = true) :
    Calls Tryz.prog 34 #[.agg #[tv, ov, mv, pv, qv], .int .i64 n] w fun x w' => ∃ t o m p q, x = .returned (.tuple #[.agg #[t, o, m, p, q], .int .i64 (0)]) ∧ ViewAt w' t o m p q (closeL V n) ∧ Below w.heap.size w w' := by
  obtain ⟨i39, hi39, hz390, hz391, hz392⟩ := info_parts infoT39
  have HTL := hideG htl
  clear htl
  obtain ⟨hT, hO, hM, hP, hQ⟩ := hV
  obtain ⟨ta, tc, rfl⟩ := hT.shape
  obtain ⟨oa, oc, rfl⟩ := hO.shape
  obtain ⟨ma, mc, rfl⟩ := hM.shape
  obtain ⟨pa, pc, rfl⟩ := hP.shape
  obtain ⟨qa, qc, rfl⟩ := hQ.shape
  obtain ⟨W0, hW0⟩ : ∃ W0, (w.alloc (.cells #[.slice ta V.tree.length tc, .slice oa V.op.length oc, .slice ma V.modal.length mc, .slice pa V.pops.length pc, .slice qa V.top.length qc] 27)).alloc (.cells #[.slice none 0 0, .slice none 0 0, .slice none 0 0, .slice none 0 0, .slice none 0 0] 27) = W0 := ⟨_, rfl⟩
  have hbw : Below w.heap.size w W0 := by rw [← hW0]; exact ((Below.refl _ w).alloc (Nat.le_refl _) _).alloc (by simp) _
  have HB0 := hideG hbw
  have P0 := hideG (show W0.cell? ⟨w.heap.size, 0, none⟩ = some (.slice ta V.tree.length tc) by rw [← hW0]; exact cell_alloc_l _ (by simp))
  have P1 := hideG (show W0.cell? ⟨w.heap.size, 1, none⟩ = some (.slice oa V.op.length oc) by rw [← hW0]; exact cell_alloc_l _ (by simp))
  have P2 := hideG (show W0.cell? ⟨w.heap.size, 2, none⟩ = some (.slice ma V.modal.length mc) by rw [← hW0]; exact cell_alloc_l _ (by simp))
  have P3 := hideG (show W0.cell? ⟨w.heap.size, 3, none⟩ = some (.slice pa V.pops.length pc) by rw [← hW0]; exact cell_alloc_l _ (by simp))
  have P4 := hideG (show W0.cell? ⟨w.heap.size, 4, none⟩ = some (.slice qa V.top.length qc) by rw [← hW0]; exact cell_alloc_l _ (by simp))
  have HR := hideG (show ∀ j, j < 5 → ∃ u, W0.cell? ⟨w.heap.size + 1, j, none⟩ = some u ∧ W0.frozen? ⟨w.heap.size + 1, j, none⟩ = false from by
    have h1 := World.alloc_heap_new (w.alloc (.cells #[.slice ta V.tree.length tc, .slice oa V.op.length oc, .slice ma V.modal.length mc, .slice pa V.pops.length pc, .slice qa V.top.length qc] 27)) (.cells #[.slice none 0 0, .slice none 0 0, .slice none 0 0, .slice none 0 0, .slice none 0 0] 27)
    rw [World.size_alloc, hW0] at h1
    intro j hj
    obtain rfl | rfl | rfl | rfl | rfl : j = 0 ∨ j = 1 ∨ j = 2 ∨ j = 3 ∨ j = 4 := by omega
    all_goals exact ⟨.slice none 0 0, by simp [World.cell?, h1], by simp [World.frozen?, h1]⟩)
  have hs0 : W0.heap.size = w.heap.size + 2 := by rw [← hW0]; simp
  have HS0 := hideG hs0
  have HV := hideG (show ViewAt w _ _ _ _ _ V from ⟨hT, hO, hM, hP, hQ⟩)
  have HV0 := hideG (HV.out.below hbw)
  have HW0 := hideG hW0
  have HS := hideG hS
  have HL := hideG hl
  have HC := hideG (refCheck10_any _ _ _ _ _ V W0 HV0.out HS.out (by have h := HL.out; unfold smallL at h; omega))
  have h1l : V.op.length ≤ 500 := hl.1
  have h2l : V.modal.length ≤ 500 := hl.2.1
  have h3l : V.pops.length ≤ 500 := hl.2.2.1
  have h4l : V.top.length ≤ 1000 := hl.2.2.2
  have p0 := P0.out
  have p1 := P1.out
  have p2 := P2.out
  have p3 := P3.out
  have p4 := P4.out
  have HM := hideG (show mayB V.tree = true from check_may hck)
  rw [hck] at HC
  clear hW0 hT hO hM hP hQ hS hl hbw hs0 hck
  have HN := hideG hn
  have HO := hideG ho
  clear hn ho
  go_enter Tryz.func34, Tryz.ntmps34
  go_wp2_with fail
  rw [HW0.out]
  refine HC.out.mono ?_
  rintro ex w1 ⟨rfl, hb1⟩
  have HX1 := hideG hb1
  clear hb1 p0 p1 p2 p3 p4
  have p0 := cell_below HX1.out P0.out
  have p1 := cell_below HX1.out P1.out
  have p2 := cell_below HX1.out P2.out
  have p3 := cell_below HX1.out P3.out
  have p4 := cell_below HX1.out P4.out
  have hwb : w.heap.size < w1.heap.size := below_of_cell p0
  have HRk := hideG (show ∀ j, j < 5 → ∃ u, w1.cell? ⟨w.heap.size + 1, j, none⟩ = some u ∧ w1.frozen? ⟨w.heap.size + 1, j, none⟩ = false from fun j hj => let ⟨u, h1, h2⟩ := HR.out j hj; ⟨u, cell_below HX1.out h1, frozen_below HX1.out h1 h2⟩)
  obtain ⟨u0, rc0, rf0⟩ := HRk.out 0 (by decide)
  obtain ⟨u1, rc1, rf1⟩ := HRk.out 1 (by decide)
  obtain ⟨u2, rc2, rf2⟩ := HRk.out 2 (by decide)
  obtain ⟨u3, rc3, rf3⟩ := HRk.out 3 (by decide)
  obtain ⟨u4, rc4, rf4⟩ := HRk.out 4 (by decide)
  go_wp2_with (go_at_call 47; refine (refIs_any _ _ _ _ _).mono ?_; rintro e wz ⟨rfl, hwz⟩; obtain rfl : _ = wz := hwz.symm; rw [HN.out])
  clear p0 p1 p2 p3 p4 hwb rc0 rc1 rc2 rc3 rc4 rf0 rf1 rf2 rf3 rf4 HRk
  refine (refIsOpen_any _ _ _ _ _ V w1 (HV0.out.below HX1.out) n ⟨by omega, by omega, by omega⟩).mono ?_
  rintro ex w3 ⟨rfl, hb3⟩
  rw [HO.out]
  have HX3 := hideG (HX1.out.trans (hb3.mono HX1.out.size))
  clear hb3
  have p0 := cell_below HX3.out P0.out
  have p1 := cell_below HX3.out P1.out
  have p2 := cell_below HX3.out P2.out
  have p3 := cell_below HX3.out P3.out
  have p4 := cell_below HX3.out P4.out
  have hwb : w.heap.size < w3.heap.size := below_of_cell p0
  have HRk := hideG (show ∀ j, j < 5 → ∃ u, w3.cell? ⟨w.heap.size + 1, j, none⟩ = some u ∧ w3.frozen? ⟨w.heap.size + 1, j, none⟩ = false from fun j hj => let ⟨u, h1, h2⟩ := HR.out j hj; ⟨u, cell_below HX3.out h1, frozen_below HX3.out h1 h2⟩)
  obtain ⟨u0, rc0, rf0⟩ := HRk.out 0 (by decide)
  obtain ⟨u1, rc1, rf1⟩ := HRk.out 1 (by decide)
  obtain ⟨u2, rc2, rf2⟩ := HRk.out 2 (by decide)
  obtain ⟨u3, rc3, rf3⟩ := HRk.out 3 (by decide)
  obtain ⟨u4, rc4, rf4⟩ := HRk.out 4 (by decide)
  go_wp2_with fail
  clear p0 p1 p2 p3 p4 hwb rc0 rc1 rc2 rc3 rc4 rf0 rf1 rf2 rf3 rf4 HRk
  refine (refCopyV_any _ _ _ _ _ V w3 (HV0.out.below HX3.out) HS.out ⟨HTL.out, by omega, by omega, by omega, by omega⟩).mono ?_
  rintro ex w4 ⟨f, tv', ov', mv', pv', qv', rfl, hov, hb4⟩
  obtain ⟨a5, k5, rfl⟩ := hov.at.tree.shape
  obtain ⟨a8, k8, rfl⟩ := hov.at.op.shape
  obtain ⟨a11, k11, rfl⟩ := hov.at.modal.shape
  obtain ⟨a14, k14, rfl⟩ := hov.at.pops.shape
  obtain ⟨a17, k17, rfl⟩ := hov.at.top.shape
  have hs3 := HX3.out.size
  have hs4 := hb4.size
  obtain ⟨X0, hX0⟩ : ∃ X, w4.alloc (.cells #[.slice a5 V.tree.length k5, .slice a8 V.op.length k8, .slice a11 V.modal.length k11, .slice a14 V.pops.length k14, .slice a17 V.top.length k17] 27) = X := ⟨_, rfl⟩
  have hnew := World.alloc_heap_new w4 (.cells #[.slice a5 V.tree.length k5, .slice a8 V.op.length k8, .slice a11 V.modal.length k11, .slice a14 V.pops.length k14, .slice a17 V.top.length k17] 27)
  rw [hX0] at hnew
  have hbx : Below w4.heap.size w4 X0 := by rw [← hX0]; exact alB' _ _
  have hp0 := hov.parts.le 0 (by omega)
  have hp01 : W0.heap.size ≤ (f 0).1 := Nat.le_trans hs3 hp0.1
  have TI := hideG (hov.tree.keep (W := X0) (fun j _ h2 => hbx.block j (by omega)))
  have HF0 := hideG (show ∀ j, (f 0).1 ≤ j → j < (f 0).2 → j < X0.heap.size ∧ j ≠ w4.heap.size ∧ j ≠ w.heap.size + 1 from fun j h1 h2 => by have := hbx.size; have := HS0.out; omega)
  have HX4 := hideG (HX3.out.trans (hb4.mono HX3.out.size))
  have HY0 := hideG (HX4.out.trans (hbx.mono HX4.out.size))
  have hsX0 : w4.heap.size + 1 ≤ X0.heap.size := by rw [← hX0]; simp
  have HE0 := hideG hX0
  have D0 := hideG (show X0.cell? ⟨w4.heap.size, 0, none⟩ = some (.slice a5 V.tree.length k5) ∧ X0.frozen? ⟨w4.heap.size, 0, none⟩ = false from ⟨by simp [World.cell?, hnew], by simp [World.frozen?, hnew]⟩)
  have D1 := hideG (show X0.cell? ⟨w4.heap.size, 1, none⟩ = some (.slice a8 V.op.length k8) ∧ X0.frozen? ⟨w4.heap.size, 1, none⟩ = false from ⟨by simp [World.cell?, hnew], by simp [World.frozen?, hnew]⟩)
  have D2 := hideG (show X0.cell? ⟨w4.heap.size, 2, none⟩ = some (.slice a11 V.modal.length k11) ∧ X0.frozen? ⟨w4.heap.size, 2, none⟩ = false from ⟨by simp [World.cell?, hnew], by simp [World.frozen?, hnew]⟩)
  have D3 := hideG (show X0.cell? ⟨w4.heap.size, 3, none⟩ = some (.slice a14 V.pops.length k14) ∧ X0.frozen? ⟨w4.heap.size, 3, none⟩ = false from ⟨by simp [World.cell?, hnew], by simp [World.frozen?, hnew]⟩)
  have D4 := hideG (show X0.cell? ⟨w4.heap.size, 4, none⟩ = some (.slice a17 V.top.length k17) ∧ X0.frozen? ⟨w4.heap.size, 4, none⟩ = false from ⟨by simp [World.cell?, hnew], by simp [World.frozen?, hnew]⟩)
  have HR0 := hideG (show w.heap.size + 1 < W0.heap.size by have := HS0.out; omega)
  have hwb0 : w.heap.size < w4.heap.size := by have := HS0.out; omega
  clear hov hb4 hbx hnew hX0 hp0 hp01
  go_upto_region 9 with fail
  rw [HE0.out]
  have p1 := cell_below HY0.out P1.out
  go_wp2_with fail
  clear p1
  refine (refWithout_any V.op n _ X0 (HV0.out.op.below HY0.out) (by omega)).mono ?_
  rintro ex y1 ⟨b1, d1, rfl, ho1, hby1⟩
  have e0 := cell_below hby1 D0.out.1
  have ef0 := frozen_below hby1 D0.out.1 D0.out.2
  have e1 := cell_below hby1 D1.out.1
  have ef1 := frozen_below hby1 D1.out.1 D1.out.2
  have e2 := cell_below hby1 D2.out.1
  have ef2 := frozen_below hby1 D2.out.1 D2.out.2
  have e3 := cell_below hby1 D3.out.1
  have ef3 := frozen_below hby1 D3.out.1 D3.out.2
  have e4 := cell_below hby1 D4.out.1
  have ef4 := frozen_below hby1 D4.out.1 D4.out.2
  go_upto_region 10 with fail
  obtain ⟨X1, hX1⟩ : ∃ X, y1.setCell ⟨w4.heap.size, 1, none⟩ (.slice b1 (withoutL V.op n).length d1) = X := ⟨_, rfl⟩
  have hsy1 := hby1.size
  have hsX1 : y1.heap.size ≤ X1.heap.size := by rw [← hX1]; simp
  have SB1 := hideG (show Sb (fun j => j = w4.heap.size ∨ j = w.heap.size + 1) y1 X1 by rw [← hX1]; exact Sb.set (.inl rfl))
  have HY1 := hideG (show Below W0.heap.size W0 X1 by rw [← hX1]; exact (HY0.out.trans (hby1.mono HY0.out.size)).setCell (p := ⟨w4.heap.size, 1, none⟩) (by show W0.heap.size ≤ w4.heap.size; omega) _)
  rw [hX1]
  clear D0 D1 D2 D3 D4
  have D0 := hideG (show X1.cell? ⟨w4.heap.size, 0, none⟩ = some (.slice a5 V.tree.length k5) ∧ X1.frozen? ⟨w4.heap.size, 0, none⟩ = false from by rw [← hX1]; exact ⟨set_other e0 (by decide), by rw [World.frozen?_setCell]; exact ef0⟩)
  have D1 := hideG (show X1.cell? ⟨w4.heap.size, 1, none⟩ = some (.slice b1 (withoutL V.op n).length d1) ∧ X1.frozen? ⟨w4.heap.size, 1, none⟩ = false from by rw [← hX1]; exact ⟨set_same e1, by rw [World.frozen?_setCell]; exact ef1⟩)
  have D2 := hideG (show X1.cell? ⟨w4.heap.size, 2, none⟩ = some (.slice a11 V.modal.length k11) ∧ X1.frozen? ⟨w4.heap.size, 2, none⟩ = false from by rw [← hX1]; exact ⟨set_other e2 (by decide), by rw [World.frozen?_setCell]; exact ef2⟩)
  have D3 := hideG (show X1.cell? ⟨w4.heap.size, 3, none⟩ = some (.slice a14 V.pops.length k14) ∧ X1.frozen? ⟨w4.heap.size, 3, none⟩ = false from by rw [← hX1]; exact ⟨set_other e3 (by decide), by rw [World.frozen?_setCell]; exact ef3⟩)
  have D4 := hideG (show X1.cell? ⟨w4.heap.size, 4, none⟩ = some (.slice a17 V.top.length k17) ∧ X1.frozen? ⟨w4.heap.size, 4, none⟩ = false from by rw [← hX1]; exact ⟨set_other e4 (by decide), by rw [World.frozen?_setCell]; exact ef4⟩)
  have step1 : Sb (fun j => j = w4.heap.size ∨ j = w.heap.size + 1) X0 X1 := (Sb.of_below hby1).trans SB1.out
  have TIn := hideG (TI.out.keep (W := X1) (fun j h1 h2 => step1.old j (by have := HF0.out j h1 h2; omega) (fun hb => by have := HF0.out j h1 h2; rcases hb with h | h <;> omega)))
  clear TI
  have TI := TIn
  clear TIn
  have R1 := hideG ((rowIn_of ho1).sb (Nat.le_refl _) (fun j h1 h2 => by have h1' : X0.heap.size ≤ j := h1; have := HR0.out; show ¬ (j = w4.heap.size ∨ j = w.heap.size + 1); omega) SB1.out)
  clear e0 e1 e2 e3 e4 ef0 ef1 ef2 ef3 ef4 hX1 step1 ho1 hby1
  have p2 := cell_below HY1.out P2.out
  go_wp2_with fail
  clear p2
  refine (refWithout_any V.modal n _ X1 (HV0.out.modal.below HY1.out) (by omega)).mono ?_
  rintro ex y2 ⟨b2, d2, rfl, ho2, hby2⟩
  have e0 := cell_below hby2 D0.out.1
  have ef0 := frozen_below hby2 D0.out.1 D0.out.2
  have e1 := cell_below hby2 D1.out.1
  have ef1 := frozen_below hby2 D1.out.1 D1.out.2
  have e2 := cell_below hby2 D2.out.1
  have ef2 := frozen_below hby2 D2.out.1 D2.out.2
  have e3 := cell_below hby2 D3.out.1
  have ef3 := frozen_below hby2 D3.out.1 D3.out.2
  have e4 := cell_below hby2 D4.out.1
  have ef4 := frozen_below hby2 D4.out.1 D4.out.2
  go_upto_region 11 with fail
  obtain ⟨X2, hX2⟩ : ∃ X, y2.setCell ⟨w4.heap.size, 2, none⟩ (.slice b2 (withoutL V.modal n).length d2) = X := ⟨_, rfl⟩
  have hsy2 := hby2.size
  have hsX2 : y2.heap.size ≤ X2.heap.size := by rw [← hX2]; simp
  have SB2 := hideG (show Sb (fun j => j = w4.heap.size ∨ j = w.heap.size + 1) y2 X2 by rw [← hX2]; exact Sb.set (.inl rfl))
  have HY2 := hideG (show Below W0.heap.size W0 X2 by rw [← hX2]; exact (HY1.out.trans (hby2.mono HY1.out.size)).setCell (p := ⟨w4.heap.size, 2, none⟩) (by show W0.heap.size ≤ w4.heap.size; omega) _)
  rw [hX2]
  clear D0 D1 D2 D3 D4
  have D0 := hideG (show X2.cell? ⟨w4.heap.size, 0, none⟩ = some (.slice a5 V.tree.length k5) ∧ X2.frozen? ⟨w4.heap.size, 0, none⟩ = false from by rw [← hX2]; exact ⟨set_other e0 (by decide), by rw [World.frozen?_setCell]; exact ef0⟩)
  have D1 := hideG (show X2.cell? ⟨w4.heap.size, 1, none⟩ = some (.slice b1 (withoutL V.op n).length d1) ∧ X2.frozen? ⟨w4.heap.size, 1, none⟩ = false from by rw [← hX2]; exact ⟨set_other e1 (by decide), by rw [World.frozen?_setCell]; exact ef1⟩)
  have D2 := hideG (show X2.cell? ⟨w4.heap.size, 2, none⟩ = some (.slice b2 (withoutL V.modal n).length d2) ∧ X2.frozen? ⟨w4.heap.size, 2, none⟩ = false from by rw [← hX2]; exact ⟨set_same e2, by rw [World.frozen?_setCell]; exact ef2⟩)
  have D3 := hideG (show X2.cell? ⟨w4.heap.size, 3, none⟩ = some (.slice a14 V.pops.length k14) ∧ X2.frozen? ⟨w4.heap.size, 3, none⟩ = false from by rw [← hX2]; exact ⟨set_other e3 (by decide), by rw [World.frozen?_setCell]; exact ef3⟩)
  have D4 := hideG (show X2.cell? ⟨w4.heap.size, 4, none⟩ = some (.slice a17 V.top.length k17) ∧ X2.frozen? ⟨w4.heap.size, 4, none⟩ = false from by rw [← hX2]; exact ⟨set_other e4 (by decide), by rw [World.frozen?_setCell]; exact ef4⟩)
  have step2 : Sb (fun j => j = w4.heap.size ∨ j = w.heap.size + 1) X1 X2 := (Sb.of_below hby2).trans SB2.out
  have TIn := hideG (TI.out.keep (W := X2) (fun j h1 h2 => step2.old j (by have := HF0.out j h1 h2; omega) (fun hb => by have := HF0.out j h1 h2; rcases hb with h | h <;> omega)))
  clear TI
  have TI := TIn
  clear TIn
  have R1n := hideG (R1.out.sb (by show y1.heap.size ≤ X1.heap.size; omega) (fun j h1 h2 => by have h1' : X0.heap.size ≤ j := h1; have := HR0.out; show ¬ (j = w4.heap.size ∨ j = w.heap.size + 1); omega) step2)
  clear R1
  have R1 := R1n
  clear R1n
  have R2 := hideG ((rowIn_of ho2).sb (Nat.le_refl _) (fun j h1 h2 => by have h1' : X1.heap.size ≤ j := h1; have := HR0.out; show ¬ (j = w4.heap.size ∨ j = w.heap.size + 1); omega) SB2.out)
  clear e0 e1 e2 e3 e4 ef0 ef1 ef2 ef3 ef4 hX2 step2 ho2 hby2
  have p4 := cell_below HY2.out P4.out
  go_wp2_with fail
  clear p4
  refine (refWithout_any V.top n _ X2 (HV0.out.top.below HY2.out) (by omega)).mono ?_
  rintro ex y3 ⟨b4, d4, rfl, ho4, hby4⟩
  have e0 := cell_below hby4 D0.out.1
  have ef0 := frozen_below hby4 D0.out.1 D0.out.2
  have e1 := cell_below hby4 D1.out.1
  have ef1 := frozen_below hby4 D1.out.1 D1.out.2
  have e2 := cell_below hby4 D2.out.1
  have ef2 := frozen_below hby4 D2.out.1 D2.out.2
  have e3 := cell_below hby4 D3.out.1
  have ef3 := frozen_below hby4 D3.out.1 D3.out.2
  have e4 := cell_below hby4 D4.out.1
  have ef4 := frozen_below hby4 D4.out.1 D4.out.2
  go_upto_region 12 with fail
  obtain ⟨X3, hX3⟩ : ∃ X, y3.setCell ⟨w4.heap.size, 4, none⟩ (.slice b4 (withoutL V.top n).length d4) = X := ⟨_, rfl⟩
  have hsy4 := hby4.size
  have hsX3 : y3.heap.size ≤ X3.heap.size := by rw [← hX3]; simp
  have SB4 := hideG (show Sb (fun j => j = w4.heap.size ∨ j = w.heap.size + 1) y3 X3 by rw [← hX3]; exact Sb.set (.inl rfl))
  have HY3 := hideG (show Below W0.heap.size W0 X3 by rw [← hX3]; exact (HY2.out.trans (hby4.mono HY2.out.size)).setCell (p := ⟨w4.heap.size, 4, none⟩) (by show W0.heap.size ≤ w4.heap.size; omega) _)
  rw [hX3]
  clear D0 D1 D2 D3 D4
  have D0 := hideG (show X3.cell? ⟨w4.heap.size, 0, none⟩ = some (.slice a5 V.tree.length k5) ∧ X3.frozen? ⟨w4.heap.size, 0, none⟩ = false from by rw [← hX3]; exact ⟨set_other e0 (by decide), by rw [World.frozen?_setCell]; exact ef0⟩)
  have D1 := hideG (show X3.cell? ⟨w4.heap.size, 1, none⟩ = some (.slice b1 (withoutL V.op n).length d1) ∧ X3.frozen? ⟨w4.heap.size, 1, none⟩ = false from by rw [← hX3]; exact ⟨set_other e1 (by decide), by rw [World.frozen?_setCell]; exact ef1⟩)
  have D2 := hideG (show X3.cell? ⟨w4.heap.size, 2, none⟩ = some (.slice b2 (withoutL V.modal n).length d2) ∧ X3.frozen? ⟨w4.heap.size, 2, none⟩ = false from by rw [← hX3]; exact ⟨set_other e2 (by decide), by rw [World.frozen?_setCell]; exact ef2⟩)
  have D3 := hideG (show X3.cell? ⟨w4.heap.size, 3, none⟩ = some (.slice a14 V.pops.length k14) ∧ X3.frozen? ⟨w4.heap.size, 3, none⟩ = false from by rw [← hX3]; exact ⟨set_other e3 (by decide), by rw [World.frozen?_setCell]; exact ef3⟩)
  have D4 := hideG (show X3.cell? ⟨w4.heap.size, 4, none⟩ = some (.slice b4 (withoutL V.top n).length d4) ∧ X3.frozen? ⟨w4.heap.size, 4, none⟩ = false from by rw [← hX3]; exact ⟨set_same e4, by rw [World.frozen?_setCell]; exact ef4⟩)
  have step4 : Sb (fun j => j = w4.heap.size ∨ j = w.heap.size + 1) X2 X3 := (Sb.of_below hby4).trans SB4.out
  have TIn := hideG (TI.out.keep (W := X3) (fun j h1 h2 => step4.old j (by have := HF0.out j h1 h2; omega) (fun hb => by have := HF0.out j h1 h2; rcases hb with h | h <;> omega)))
  clear TI
  have TI := TIn
  clear TIn
  have R1n := hideG (R1.out.sb (by show y1.heap.size ≤ X2.heap.size; omega) (fun j h1 h2 => by have h1' : X0.heap.size ≤ j := h1; have := HR0.out; show ¬ (j = w4.heap.size ∨ j = w.heap.size + 1); omega) step4)
  clear R1
  have R1 := R1n
  clear R1n
  have R2n := hideG (R2.out.sb (by show y2.heap.size ≤ X2.heap.size; omega) (fun j h1 h2 => by have h1' : X1.heap.size ≤ j := h1; have := HR0.out; show ¬ (j = w4.heap.size ∨ j = w.heap.size + 1); omega) step4)
  clear R2
  have R2 := R2n
  clear R2n
  have R4 := hideG ((rowIn_of ho4).sb (Nat.le_refl _) (fun j h1 h2 => by have h1' : X2.heap.size ≤ j := h1; have := HR0.out; show ¬ (j = w4.heap.size ∨ j = w.heap.size + 1); omega) SB4.out)
  clear e0 e1 e2 e3 e4 ef0 ef1 ef2 ef3 ef4 hX3 step4 ho4 hby4
  have q3 := D3.out.1
  have qf3 := D3.out.2
  go_upto_region 13 with fail
  obtain ⟨X4, hX4⟩ : ∃ X, X3.setCell ⟨w4.heap.size, 3, none⟩ (.slice none 0 0) = X := ⟨_, rfl⟩
  have hsX4 : X3.heap.size ≤ X4.heap.size := by rw [← hX4]; simp
  rw [hX4]
  clear q3 qf3
  have step3 : Sb (fun j => j = w4.heap.size ∨ j = w.heap.size + 1) X3 X4 := by rw [← hX4]; exact Sb.set (.inl rfl)
  have HY4 := hideG (show Below W0.heap.size W0 X4 by rw [← hX4]; exact HY3.out.setCell (p := ⟨w4.heap.size, 3, none⟩) (by show W0.heap.size ≤ w4.heap.size; omega) _)
  have E0 := hideG (show X4.cell? ⟨w4.heap.size, 0, none⟩ = some (.slice a5 V.tree.length k5) ∧ X4.frozen? ⟨w4.heap.size, 0, none⟩ = false from by rw [← hX4]; exact ⟨set_other D0.out.1 (by decide), by rw [World.frozen?_setCell]; exact D0.out.2⟩)
  have E1 := hideG (show X4.cell? ⟨w4.heap.size, 1, none⟩ = some (.slice b1 (withoutL V.op n).length d1) ∧ X4.frozen? ⟨w4.heap.size, 1, none⟩ = false from by rw [← hX4]; exact ⟨set_other D1.out.1 (by decide), by rw [World.frozen?_setCell]; exact D1.out.2⟩)
  have E2 := hideG (show X4.cell? ⟨w4.heap.size, 2, none⟩ = some (.slice b2 (withoutL V.modal n).length d2) ∧ X4.frozen? ⟨w4.heap.size, 2, none⟩ = false from by rw [← hX4]; exact ⟨set_other D2.out.1 (by decide), by rw [World.frozen?_setCell]; exact D2.out.2⟩)
  have E3 := hideG (show X4.cell? ⟨w4.heap.size, 3, none⟩ = some (.slice none 0 0) ∧ X4.frozen? ⟨w4.heap.size, 3, none⟩ = false from by rw [← hX4]; exact ⟨set_same D3.out.1, by rw [World.frozen?_setCell]; exact D3.out.2⟩)
  have E4 := hideG (show X4.cell? ⟨w4.heap.size, 4, none⟩ = some (.slice b4 (withoutL V.top n).length d4) ∧ X4.frozen? ⟨w4.heap.size, 4, none⟩ = false from by rw [← hX4]; exact ⟨set_other D4.out.1 (by decide), by rw [World.frozen?_setCell]; exact D4.out.2⟩)
  clear D0 D1 D2 D3 D4
  have TIn := hideG (TI.out.keep (W := X4) (fun j h1 h2 => step3.old j (by have := HF0.out j h1 h2; omega) (fun hb => by have := HF0.out j h1 h2; rcases hb with h | h <;> omega)))
  clear TI
  have TI := TIn
  clear TIn
  have R1n := hideG (R1.out.sb (by show y1.heap.size ≤ X3.heap.size; omega) (fun j h1 h2 => by have h1' : X0.heap.size ≤ j := h1; have := HR0.out; show ¬ (j = w4.heap.size ∨ j = w.heap.size + 1); omega) step3)
  clear R1
  have R1 := R1n
  clear R1n
  have R2n := hideG (R2.out.sb (by show y2.heap.size ≤ X3.heap.size; omega) (fun j h1 h2 => by have h1' : X1.heap.size ≤ j := h1; have := HR0.out; show ¬ (j = w4.heap.size ∨ j = w.heap.size + 1); omega) step3)
  clear R2
  have R2 := R2n
  clear R2n
  have R4n := hideG (R4.out.sb (by show y3.heap.size ≤ X3.heap.size; omega) (fun j h1 h2 => by have h1' : X2.heap.size ≤ j := h1; have := HR0.out; show ¬ (j = w4.heap.size ∨ j = w.heap.size + 1); omega) step3)
  clear R4
  have R4 := R4n
  clear R4n
  clear hX4 step3
  go_wp2_with fail
  go_loopw [8] (fun i wr => ∃ (k : Nat) (S : List Sh) (sa : Option Addr) (sc : Nat), k ≤ V.pops.length ∧ i = .int .i64 (k : Int) ∧ S = (V.pops.take k).filter (fun x => x.node != n) ∧ wr.cell? ⟨w4.heap.size, 3, none⟩ = some (.slice sa S.length sc) ∧ (wr.cell? ⟨w4.heap.size, 0, none⟩ = some (.slice a5 V.tree.length k5) ∧ wr.cell? ⟨w4.heap.size, 1, none⟩ = some (.slice b1 (withoutL V.op n).length d1) ∧ wr.cell? ⟨w4.heap.size, 2, none⟩ = some (.slice b2 (withoutL V.modal n).length d2) ∧ wr.cell? ⟨w4.heap.size, 4, none⟩ = some (.slice b4 (withoutL V.top n).length d4) ∧ ∀ j, j < 5 → wr.frozen? ⟨w4.heap.size, j, none⟩ = false) ∧ wr.ownsRow X4.heap.size 39 2 (.slice sa S.length sc) S.length (shCells S) ∧ Below W0.heap.size W0 wr ∧ Sb (fun j => j = w4.heap.size ∨ j = w.heap.size + 1) X4 wr) (fun i _ => V.pops.length - (intOf i).toNat)
  case atStart => exact ⟨0, [], none, 0, Nat.zero_le _, rfl, rfl, E3.out.1, ⟨E0.out.1, E1.out.1, E2.out.1, E4.out.1, fun j hj => by
      obtain rfl | rfl | rfl | rfl | rfl : j = 0 ∨ j = 1 ∨ j = 2 ∨ j = 3 ∨ j = 4 := by omega
      · exact E0.out.2
      · exact E1.out.2
      · exact E2.out.2
      · exact E3.out.2
      · exact E4.out.2⟩, World.ownsRow_nil _ _ _ _, HY4.out, ⟨Nat.le_refl _, fun _ _ _ => rfl⟩⟩
  case round =>
    obtain ⟨k, S, sa, sc, hk, rfl, hSe, hc3, ⟨hc0, hc1, hc2, hc4, hfz⟩, hrow, hB, hsb⟩ := hrel
    have HSE := hideG hSe
    have HROWS := hideG hrow
    have HB := hideG hB
    have HSB := hideG hsb
    have HFZ := hideG hfz
    have hSl : S.length ≤ 500 := by
      have h1 := List.length_filter_le (fun x : Sh => x.node != n) (V.pops.take k)
      rw [← hSe, List.length_take] at h1
      omega
    have p3 := cell_below hB P3.out
    have hwb : w.heap.size < wr.heap.size := below_of_cell p3
    have hbow : w4.heap.size < wr.heap.size := below_of_cell hc3
    have hX4w : X4.heap.size ≤ wr.heap.size := hsb.size
    clear hSe hrow hB hsb hfz E0 E1 E2 E3 E4
    by_cases hlt : k < V.pops.length
    · obtain ⟨a', c', hv, _, hc⟩ := HV0.out.pops
      injection hv with y1 y2 y3
      subst y1
      clear y2 y3
      obtain ⟨b, off, rfl, hd⟩ := hc (by omega)
      have HT := hideG (show V.pops.take (k + 1) = V.pops.take k ++ [V.pops.getD k shD] by
        rw [List.take_succ_eq_append_getElem hlt, List.getD_eq_getElem?_getD, List.getElem?_eq_getElem hlt]; rfl)
      have hH := (hd k hlt).below HB.out
      generalize V.pops.getD k shD = x at *
      have s0 := hH.node
      have s1 := hH.inv
      have hbl : b < wr.heap.size := below_of_cell s0
      have hk0 : (0 : Int) ≤ (k : Int) := by omega
      have hkl : (k : Int) < (V.pops.length : Int) := by omega
      clear hd hc hH
      cases hne : (x.node != n)
      · have HN1 := hideG hne
        go_wp2_with fail
        go_roundw
        case rel => exact ⟨k + 1, S, sa, sc, by omega, by go_num, by rw [HT.out, List.filter_append, ← HSE.out]; simp [HN1.out], hc3, ⟨hc0, hc1, hc2, hc4, HFZ.out⟩, HROWS.out, HB.out, HSB.out⟩
        case measure => simp [intOf]; omega
      · have HN1 := hideG hne
        have hf3 := HFZ.out 3 (by omega)
        have hx4 : X4.heap.size ≤ wr.heap.size := HSB.out.size
        have HRW := hideG ((HROWS.out.drew).alloc (.cells #[.int .i64 x.node, .int .i64 x.inv] 39))
        have HNW := hideG (show Holds (wr.drew.alloc (.cells #[.int .i64 x.node, .int .i64 x.inv] 39)) (.slice (some ⟨wr.heap.size, 0, none⟩) 1 1) 1 [.int .i64 x.node, .int .i64 x.inv] from row_newS wr.drew x)
        have HONE := hideG (show ∀ u ∈ ([.int .i64 x.node, .int .i64 x.inv] : List Value), u.oneCell' = true from by intro y hy; simp at hy; rcases hy with rfl | rfl <;> rfl)
        have HMX := hideG (show S.length + 1 ≤ maxLen by simp only [maxLen]; omega)
        have HBY := hideG (show (S.length + 1) * 16 ≤ 140737488355328 by omega)
        have HBS := hideG (show X4.heap.size ≤ (wr.drew.alloc (.cells #[.int .i64 x.node, .int .i64 x.inv] 39)).heap.size by rw [World.size_alloc]; show X4.heap.size ≤ wr.heap.size + 1; omega)
        have HPOS := hideG (show 0 < 2 by decide)
        have hbt4 : Below wr.heap.size wr (wr.drew.alloc (.cells #[.int .i64 x.node, .int .i64 x.inv] 39)) := (below_drew' (Below.refl wr.heap.size wr)).alloc (Nat.le_refl _) _
        have HFIN := hideG (show ∀ v4 ww, ww.ownsRow X4.heap.size 39 2 v4 (S.length + 1) (shCells S ++ [.int .i64 x.node, .int .i64 x.inv]) → (wr.drew.alloc (.cells #[.int .i64 x.node, .int .i64 x.inv] 39)).grownBy ww (Value.slice sa S.length sc).ownBlock → ∃ a4 c4, v4 = .slice a4 (S.length + 1) c4 ∧ ww.cell? ⟨w4.heap.size, 3, none⟩ = some (.slice sa S.length sc) ∧ ww.frozen? ⟨w4.heap.size, 3, none⟩ = false ∧
            Hid ((ww.setCell ⟨w4.heap.size, 3, none⟩ (.slice a4 (S.length + 1) c4)).cell? ⟨w4.heap.size, 3, none⟩ = some (.slice a4 (S.length + 1) c4) ∧ ((ww.setCell ⟨w4.heap.size, 3, none⟩ (.slice a4 (S.length + 1) c4)).cell? ⟨w4.heap.size, 0, none⟩ = some (.slice a5 V.tree.length k5) ∧ (ww.setCell ⟨w4.heap.size, 3, none⟩ (.slice a4 (S.length + 1) c4)).cell? ⟨w4.heap.size, 1, none⟩ = some (.slice b1 (withoutL V.op n).length d1) ∧ (ww.setCell ⟨w4.heap.size, 3, none⟩ (.slice a4 (S.length + 1) c4)).cell? ⟨w4.heap.size, 2, none⟩ = some (.slice b2 (withoutL V.modal n).length d2) ∧ (ww.setCell ⟨w4.heap.size, 3, none⟩ (.slice a4 (S.length + 1) c4)).cell? ⟨w4.heap.size, 4, none⟩ = some (.slice b4 (withoutL V.top n).length d4) ∧ ∀ j, j < 5 → (ww.setCell ⟨w4.heap.size, 3, none⟩ (.slice a4 (S.length + 1) c4)).frozen? ⟨w4.heap.size, j, none⟩ = false) ∧ (ww.setCell ⟨w4.heap.size, 3, none⟩ (.slice a4 (S.length + 1) c4)).ownsRow X4.heap.size 39 2 (.slice a4 (S.length + 1) c4) (S.length + 1) (shCells (S ++ [x])) ∧ Below W0.heap.size W0 (ww.setCell ⟨w4.heap.size, 3, none⟩ (.slice a4 (S.length + 1) c4)) ∧ Sb (fun j => j = w4.heap.size ∨ j = w.heap.size + 1) X4 (ww.setCell ⟨w4.heap.size, 3, none⟩ (.slice a4 (S.length + 1) c4))) from by
          intro v4 ww ho4 hg4
          obtain ⟨a4, c4, rfl⟩ := ownsRow_shape ho4
          rw [shCells_snoc] at ho4
          have hnb4 : ∀ q, (Value.slice sa S.length sc).ownBlock = some q → X4.heap.size ≤ q := fun q e => (HROWS.out.lt q e).1
          have hwa : (wr.drew.alloc (.cells #[.int .i64 x.node, .int .i64 x.inv] 39)).heap.size = wr.heap.size + 1 := World.size_alloc _ _
          have hold4 : ∀ j, j < X4.heap.size → ww.heap[j]? = wr.heap[j]? := fun j hj => (hg4.block j (by omega) (fun e => by have := hnb4 j e.symm; omega)).trans (hbt4.block j (by omega))
          have hbo4 : w4.heap.size < X4.heap.size := by omega
          have hcl4 : ∀ o u, wr.cell? ⟨w4.heap.size, o, none⟩ = some u → ww.cell? ⟨w4.heap.size, o, none⟩ = some u := fun o u h => (World.cell?_of_block (a := ⟨w4.heap.size, o, none⟩) (hold4 _ hbo4)).trans h
          have hfr4 : ∀ o, ww.frozen? ⟨w4.heap.size, o, none⟩ = wr.frozen? ⟨w4.heap.size, o, none⟩ := fun o => World.frozen?_of_block (a := ⟨w4.heap.size, o, none⟩) (hold4 _ hbo4)
          have hsz4 : wr.heap.size ≤ ww.heap.size := by have h1 := hg4.size; omega
          have hB4 : Below W0.heap.size W0 ww := (HB.out.trans (hbt4.mono HB.out.size)).grown hg4 (by have := HB.out.size; omega) (fun j e => by have h1 := hnb4 j e; have h2 := HY4.out.size; omega)
          exact ⟨a4, c4, rfl, hcl4 3 _ hc3, (hfr4 3).trans hf3, hideG ⟨set_same (hcl4 3 _ hc3), ⟨set_other (hcl4 0 _ hc0) (by decide), set_other (hcl4 1 _ hc1) (by decide), set_other (hcl4 2 _ hc2) (by decide), set_other (hcl4 4 _ hc4) (by decide), fun j hj => by rw [World.frozen?_setCell, hfr4]; exact HFZ.out j hj⟩, ownsRow_kept_set ho4 (fun e => by have := (ho4.lt _ e).1; omega), hB4.setCell (p := ⟨w4.heap.size, 3, none⟩) (by show W0.heap.size ≤ w4.heap.size; omega) _, (show Sb (fun j => j = w4.heap.size ∨ j = w.heap.size + 1) X4 ww from ⟨by omega, fun j hj hb => (hold4 j hj).trans (HSB.out.old j hj hb)⟩).trans (Sb.set (.inl rfl))⟩⟩)
        clear hbt4
        go_wp2_with fail
        go_region_law (refine step_append_any rfl (.tmp 60) (.tmp 66) 25 rfl X4.heap.size 39 i39 _ 2 16 Tryz.underlying25 hi39 hz390 hz391 hz392 rfl HPOS.out _ S.length (shCells S) rfl HRW.out _ 1 _ rfl HNW.out rfl HONE.out HMX.out HBY.out HBS.out ?_; intro v4 ww ho4 hg4 hf4; obtain ⟨a4, c4, rfl, hd3, hdf3, hfin⟩ := HFIN.out v4 ww ho4 hg4; clear ho4 hg4 hf4)
        all_goals
          obtain ⟨f1, f2, f3, f4, f5⟩ := hfin.out
          go_wp2_with fail
          go_roundw
          case rel => exact ⟨k + 1, S ++ [x], a4, c4, by omega, by go_num, by rw [HT.out, List.filter_append, ← HSE.out]; simp [HN1.out], by rw [List.length_append]; exact f1, f2, by rw [List.length_append]; exact f3, f4, f5⟩
          case measure => simp [intOf]; omega
    · have hkl : ¬ (k : Int) < (V.pops.length : Int) := by omega
      have hke : k = V.pops.length := by omega
      subst hke
      rw [List.take_length] at HSE
      have HRk := hideG (show ∀ j, j < 5 → ∃ u, wr.cell? ⟨w.heap.size + 1, j, none⟩ = some u ∧ wr.frozen? ⟨w.heap.size + 1, j, none⟩ = false from fun j hj => let ⟨u, h1, h2⟩ := HR.out j hj; ⟨u, cell_below HB.out h1, frozen_below HB.out h1 h2⟩)
      obtain ⟨u0, rc0, rf0⟩ := HRk.out 0 (by decide)
      obtain ⟨u1, rc1, rf1⟩ := HRk.out 1 (by decide)
      obtain ⟨u2, rc2, rf2⟩ := HRk.out 2 (by decide)
      obtain ⟨u3, rc3, rf3⟩ := HRk.out 3 (by decide)
      obtain ⟨u4, rc4, rf4⟩ := HRk.out 4 (by decide)
      have hrb : w.heap.size + 1 < w4.heap.size := by have := HR0.out; omega
      go_wp2_with fail
      have hat := set5_at (U := wr) (R := w.heap.size + 1) (v0 := .slice a5 V.tree.length k5) (v1 := .slice b1 (withoutL V.op n).length d1) (v2 := .slice b2 (withoutL V.modal n).length d2) (v3 := .slice sa S.length sc) (v4 := .slice b4 (withoutL V.top n).length d4) HRk.out
      have hK : Sb (fun j => j = w4.heap.size ∨ j = w.heap.size + 1) wr (set5 wr (w.heap.size + 1) (.slice a5 V.tree.length k5) (.slice b1 (withoutL V.op n).length d1) (.slice b2 (withoutL V.modal n).length d2) (.slice sa S.length sc) (.slice b4 (withoutL V.top n).length d4)) := Sb.set5 (.inr rfl)
      have hsF := HSB.out.trans hK
      have hT5 := (TI.out.keep (W := set5 wr (w.heap.size + 1) (.slice a5 V.tree.length k5) (.slice b1 (withoutL V.op n).length d1) (.slice b2 (withoutL V.modal n).length d2) (.slice sa S.length sc) (.slice b4 (withoutL V.top n).length d4)) (fun j h1 h2 => hsF.old j (by have := HF0.out j h1 h2; omega) (fun hb => by have := HF0.out j h1 h2; rcases hb with h | h <;> omega))).at
      have hBL := set5_below (v0 := .slice a5 V.tree.length k5) (v1 := .slice b1 (withoutL V.op n).length d1) (v2 := .slice b2 (withoutL V.modal n).length d2) (v3 := .slice sa S.length sc) (v4 := .slice b4 (withoutL V.top n).length d4) (HB0.out.trans (HB.out.mono HB0.out.size)) (show w.heap.size ≤ w.heap.size + 1 by omega)
      have hr1 := rowInts (R1.out.sb (by show y1.heap.size ≤ X4.heap.size; omega) (fun j h1 h2 => by have h1' : X0.heap.size ≤ j := h1; have := HR0.out; show ¬ (j = w4.heap.size ∨ j = w.heap.size + 1); omega) hsF)
      have hr2 := rowInts (R2.out.sb (by show y2.heap.size ≤ X4.heap.size; omega) (fun j h1 h2 => by have h1' : X1.heap.size ≤ j := h1; have := HR0.out; show ¬ (j = w4.heap.size ∨ j = w.heap.size + 1); omega) hsF)
      have hr4 := rowInts (R4.out.sb (by show y3.heap.size ≤ X4.heap.size; omega) (fun j h1 h2 => by have h1' : X2.heap.size ≤ j := h1; have := HR0.out; show ¬ (j = w4.heap.size ∨ j = w.heap.size + 1); omega) hsF)
      have hr3 := rowShs ((show RowIn wr (X4.heap.size, wr.heap.size) 39 2 (.slice sa S.length sc) S.length (shCells S) from ⟨HROWS.out, fun q e => (HROWS.out.lt q e).2⟩).sb (Nat.le_refl _) (fun j h1 h2 => by have h1' : X4.heap.size ≤ j := h1; have := HR0.out; show ¬ (j = w4.heap.size ∨ j = w.heap.size + 1); omega) hK)
      have hSE := HSE.out
      clear hK hsF
      unfold set5 at hat hBL hT5 hr1 hr2 hr3 hr4
      obtain ⟨t0, t1, t2, t3, t4⟩ := hat
      refine bodyPost_ret (v := .tuple #[.agg #[.slice a5 V.tree.length k5, .slice b1 (withoutL V.op n).length d1, .slice b2 (withoutL V.modal n).length d2, .slice sa S.length sc, .slice b4 (withoutL V.top n).length d4], .int .i64 0]) (by simp [results, Tryz.f34, go_sem, t0, t1, t2, t3, t4]) rfl ?_
      subst hSE
      exact ⟨_, _, _, _, _, rfl, ⟨hT5, hr1, hr2, hr3, hr4⟩, hBL⟩
theorem rclose_any (tv ov mv pv qv : Value) (V : Vw) (w : World) (hV : ViewAt w tv ov mv pv qv V) (hS : Sane V.tree) (hl : smallL V) (htl : V.tree.length ≤ 1000) (n : Int) :
    Calls Tryz.prog 34 #[.agg #[tv, ov, mv, pv, qv], .int .i64 n] w fun x w' => ∃ t o m p q, x = .returned (.tuple #[.agg #[t, o, m, p, q], .int .i64 (closeE V n)]) ∧ ViewAt w' t o m p q (closeW V n) ∧ Below w.heap.size w w' := by
  by_cases hck : checkV V = 0
  · cases hn : isNodeB V.tree.length n
    · have e : closeE V n = 2 := by simp [closeE, hck, hn]
      have v : closeW V n = V := by simp [closeW, hck, e]
      rw [e, v]; exact rcloseNode tv ov mv pv qv V w hV hS hl n hck hn
    · cases ho : containsB (openedL V) n
      · have e : closeE V n = 9 := by simp [closeE, hck, hn, ho]
        have v : closeW V n = V := by simp [closeW, hck, e]
        rw [e, v]; exact rcloseState tv ov mv pv qv V w hV hS hl n hck hn ho
      · have e : closeE V n = 0 := by simp [closeE, hck, hn, ho]
        have v : closeW V n = closeL V n := by simp [closeW, hck, e]
        rw [e, v]; exact rcloseOk tv ov mv pv qv V w hV hS hl n htl hck hn ho
  · have e : closeE V n = checkV V := by simp [closeE, hck]
    have v : closeW V n = emptyV := by simp [closeW, hck]
    rw [e, v]; exact rcloseBad tv ov mv pv qv V w hV hS hl n hck
end Go.Proofs.YtclhimodopgeoaaGreat

