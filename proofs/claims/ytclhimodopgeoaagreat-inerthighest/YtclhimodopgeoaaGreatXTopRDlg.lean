/- Dialog of the document's package of layer 10. -/
import Derived.Test.YtclhimodopgeoaaGreatXTopAny
import Derived.Test.YtclhimodopgeoaaGreatXTopRCopy
namespace Go.Proofs.YtclhimodopgeoaaGreat
open Go.RowKit

set_option maxRecDepth 100000 in
set_option maxHeartbeats 4000000 in
theorem rdlgBad (tv ov mv pv qv : Value) (V : Vw) (w : World) (hV : ViewAt w tv ov mv pv qv V) (hS : Sane V.tree) (hl : smallL V) (n : Int) (m : Bool) (hne : checkV V ≠ 0) :
    Calls Tryz.prog 30 #[.agg #[tv, ov, mv, pv, qv], .int .i64 n, .bool m] w fun x w' => ∃ t o m p q, x = .returned (.tuple #[.agg #[t, o, m, p, q], .int .i64 (checkV V)]) ∧ ViewAt w' t o m p q emptyV ∧ Below w.heap.size w w' := by
  obtain ⟨hT, hO, hM, hP, hQ⟩ := hV
  obtain ⟨ta, tc, rfl⟩ := hT.shape
  obtain ⟨oa, oc, rfl⟩ := hO.shape
  obtain ⟨ma, mc, rfl⟩ := hM.shape
  obtain ⟨pa, pc, rfl⟩ := hP.shape
  obtain ⟨qa, qc, rfl⟩ := hQ.shape
  obtain ⟨W0, hW0⟩ : ∃ W0, (w.alloc (.cells #[.slice ta V.tree.length tc, .slice oa V.op.length oc, .slice ma V.modal.length mc, .slice pa V.pops.length pc, .slice qa V.top.length qc] 27)).alloc (.cells #[.slice none 0 0, .slice none 0 0, .slice none 0 0, .slice none 0 0, .slice none 0 0] 27) = W0 := ⟨_, rfl⟩
  have hbw : Below w.heap.size w W0 := by rw [← hW0]; exact ((Below.refl _ w).alloc (Nat.le_refl _) _).alloc (by simp) _
  have HB0 := hideG hbw
  have P0 := hideG (show W0.cell? ⟨w.heap.size, 0, none⟩ = some (.slice ta V.tree.length tc) by rw [← hW0]; exact cell_alloc_l _ (by simp))
  have P1 := hideG (show W0.cell? ⟨w.heap.size, 1, none⟩ = some (.slice oa V.op.length oc) by rw [← hW0]; exact cell_alloc_l _ (by simp))
  have P2 := hideG (show W0.cell? ⟨w.heap.size, 2, none⟩ = some (.slice ma V.modal.length mc) by rw [← hW0]; exact cell_alloc_l _ (by simp))
  have P3 := hideG (show W0.cell? ⟨w.heap.size, 3, none⟩ = some (.slice pa V.pops.length pc) by rw [← hW0]; exact cell_alloc_l _ (by simp))
  have P4 := hideG (show W0.cell? ⟨w.heap.size, 4, none⟩ = some (.slice qa V.top.length qc) by rw [← hW0]; exact cell_alloc_l _ (by simp))
  have HR := hideG (show ∀ j, j < 5 → ∃ u, W0.cell? ⟨w.heap.size + 1, j, none⟩ = some u ∧ W0.frozen? ⟨w.heap.size + 1, j, none⟩ = false from by
    have h1 := World.alloc_heap_new (w.alloc (.cells #[.slice ta V.tree.length tc, .slice oa V.op.length oc, .slice ma V.modal.length mc, .slice pa V.pops.length pc, .slice qa V.top.length qc] 27)) (.cells #[.slice none 0 0, .slice none 0 0, .slice none 0 0, .slice none 0 0, .slice none 0 0] 27)
    rw [World.size_alloc, hW0] at h1
    intro j hj
    obtain rfl | rfl | rfl | rfl | rfl : j = 0 ∨ j = 1 ∨ j = 2 ∨ j = 3 ∨ j = 4 := by omega
    all_goals exact ⟨.slice none 0 0, by simp [World.cell?, h1], by simp [World.frozen?, h1]⟩)
  have hs0 : W0.heap.size = w.heap.size + 2 := by rw [← hW0]; simp
  have HS0 := hideG hs0
  have HV := hideG (show ViewAt w _ _ _ _ _ V from ⟨hT, hO, hM, hP, hQ⟩)
  have HV0 := hideG (HV.out.below hbw)
  have HW0 := hideG hW0
  have HS := hideG hS
  have HL := hideG hl
  have HC := hideG (refCheck10_any _ _ _ _ _ V W0 HV0.out HS.out (by have h := HL.out; unfold smallL at h; omega))
  have h1l : V.op.length ≤ 500 := hl.1
  have h2l : V.modal.length ≤ 500 := hl.2.1
  have h3l : V.pops.length ≤ 500 := hl.2.2.1
  have h4l : V.top.length ≤ 1000 := hl.2.2.2
  have p0 := P0.out
  have p1 := P1.out
  have p2 := P2.out
  have p3 := P3.out
  have p4 := P4.out
  clear hW0 hT hO hM hP hQ hS hl hbw hs0
  have hcd := check_bad hne
  generalize checkV V = c at *
  clear hne
  go_enter Tryz.func30, Tryz.ntmps30
  go_wp2_with fail
  rw [HW0.out]
  refine HC.out.mono ?_
  rintro ex w1 ⟨rfl, hb1⟩
  have HX1 := hideG hb1
  clear hb1 p0 p1 p2 p3 p4
  have p0 := cell_below HX1.out P0.out
  have p1 := cell_below HX1.out P1.out
  have p2 := cell_below HX1.out P2.out
  have p3 := cell_below HX1.out P3.out
  have p4 := cell_below HX1.out P4.out
  have hwb : w.heap.size < w1.heap.size := below_of_cell p0
  have HRk := hideG (show ∀ j, j < 5 → ∃ u, w1.cell? ⟨w.heap.size + 1, j, none⟩ = some u ∧ w1.frozen? ⟨w.heap.size + 1, j, none⟩ = false from fun j hj => let ⟨u, h1, h2⟩ := HR.out j hj; ⟨u, cell_below HX1.out h1, frozen_below HX1.out h1 h2⟩)
  obtain ⟨u0, rc0, rf0⟩ := HRk.out 0 (by decide)
  obtain ⟨u1, rc1, rf1⟩ := HRk.out 1 (by decide)
  obtain ⟨u2, rc2, rf2⟩ := HRk.out 2 (by decide)
  obtain ⟨u3, rc3, rf3⟩ := HRk.out 3 (by decide)
  obtain ⟨u4, rc4, rf4⟩ := HRk.out 4 (by decide)
  have HB := hideG (HB0.out.trans (HX1.out.mono HB0.out.size))
  rcases hcd with rfl | rfl
  · go_wp2_with fail
    have hat := set5_at (U := w1) (R := w.heap.size + 1) (v0 := .slice none 0 0) (v1 := .slice none 0 0) (v2 := .slice none 0 0) (v3 := .slice none 0 0) (v4 := .slice none 0 0) HRk.out
    unfold set5 at hat
    obtain ⟨t0, t1, t2, t3, t4⟩ := hat
    refine bodyPost_ret (v := .tuple #[.agg #[.slice none 0 0, .slice none 0 0, .slice none 0 0, .slice none 0 0, .slice none 0 0], .int .i64 (1)]) (by simp [results, Tryz.f30, go_sem, t0, t1, t2, t3, t4]) rfl ?_
    refine ⟨_, _, _, _, _, rfl, ?_, set5_below HB.out (by omega)⟩
    exact emptyV_at _
  · go_wp2_with fail
    have hat := set5_at (U := w1) (R := w.heap.size + 1) (v0 := .slice none 0 0) (v1 := .slice none 0 0) (v2 := .slice none 0 0) (v3 := .slice none 0 0) (v4 := .slice none 0 0) HRk.out
    unfold set5 at hat
    obtain ⟨t0, t1, t2, t3, t4⟩ := hat
    refine bodyPost_ret (v := .tuple #[.agg #[.slice none 0 0, .slice none 0 0, .slice none 0 0, .slice none 0 0, .slice none 0 0], .int .i64 (9)]) (by simp [results, Tryz.f30, go_sem, t0, t1, t2, t3, t4]) rfl ?_
    refine ⟨_, _, _, _, _, rfl, ?_, set5_below HB.out (by omega)⟩
    exact emptyV_at _

set_option maxRecDepth 100000 in
set_option maxHeartbeats 4000000 in
theorem rdlgNode (tv ov mv pv qv : Value) (V : Vw) (w : World) (hV : ViewAt w tv ov mv pv qv V) (hS : Sane V.tree) (hl : smallL V) (n : Int) (m : Bool) (hck : checkV V = 0) (hn : isNodeB V.tree.length n = false) :
    Calls Tryz.prog 30 #[.agg #[tv, ov, mv, pv, qv], .int .i64 n, .bool m] w fun x w' => ∃ t o m p q, x = .returned (.tuple #[.agg #[t, o, m, p, q], .int .i64 (2)]) ∧ ViewAt w' t o m p q V ∧ Below w.heap.size w w' := by
  obtain ⟨hT, hO, hM, hP, hQ⟩ := hV
  obtain ⟨ta, tc, rfl⟩ := hT.shape
  obtain ⟨oa, oc, rfl⟩ := hO.shape
  obtain ⟨ma, mc, rfl⟩ := hM.shape
  obtain ⟨pa, pc, rfl⟩ := hP.shape
  obtain ⟨qa, qc, rfl⟩ := hQ.shape
  obtain ⟨W0, hW0⟩ : ∃ W0, (w.alloc (.cells #[.slice ta V.tree.length tc, .slice oa V.op.length oc, .slice ma V.modal.length mc, .slice pa V.pops.length pc, .slice qa V.top.length qc] 27)).alloc (.cells #[.slice none 0 0, .slice none 0 0, .slice none 0 0, .slice none 0 0, .slice none 0 0] 27) = W0 := ⟨_, rfl⟩
  have hbw : Below w.heap.size w W0 := by rw [← hW0]; exact ((Below.refl _ w).alloc (Nat.le_refl _) _).alloc (by simp) _
  have HB0 := hideG hbw
  have P0 := hideG (show W0.cell? ⟨w.heap.size, 0, none⟩ = some (.slice ta V.tree.length tc) by rw [← hW0]; exact cell_alloc_l _ (by simp))
  have P1 := hideG (show W0.cell? ⟨w.heap.size, 1, none⟩ = some (.slice oa V.op.length oc) by rw [← hW0]; exact cell_alloc_l _ (by simp))
  have P2 := hideG (show W0.cell? ⟨w.heap.size, 2, none⟩ = some (.slice ma V.modal.length mc) by rw [← hW0]; exact cell_alloc_l _ (by simp))
  have P3 := hideG (show W0.cell? ⟨w.heap.size, 3, none⟩ = some (.slice pa V.pops.length pc) by rw [← hW0]; exact cell_alloc_l _ (by simp))
  have P4 := hideG (show W0.cell? ⟨w.heap.size, 4, none⟩ = some (.slice qa V.top.length qc) by rw [← hW0]; exact cell_alloc_l _ (by simp))
  have HR := hideG (show ∀ j, j < 5 → ∃ u, W0.cell? ⟨w.heap.size + 1, j, none⟩ = some u ∧ W0.frozen? ⟨w.heap.size + 1, j, none⟩ = false from by
    have h1 := World.alloc_heap_new (w.alloc (.cells #[.slice ta V.tree.length tc, .slice oa V.op.length oc, .slice ma V.modal.length mc, .slice pa V.pops.length pc, .slice qa V.top.length qc] 27)) (.cells #[.slice none 0 0, .slice none 0 0, .slice none 0 0, .slice none 0 0, .slice none 0 0] 27)
    rw [World.size_alloc, hW0] at h1
    intro j hj
    obtain rfl | rfl | rfl | rfl | rfl : j = 0 ∨ j = 1 ∨ j = 2 ∨ j = 3 ∨ j = 4 := by omega
    all_goals exact ⟨.slice none 0 0, by simp [World.cell?, h1], by simp [World.frozen?, h1]⟩)
  have hs0 : W0.heap.size = w.heap.size + 2 := by rw [← hW0]; simp
  have HS0 := hideG hs0
  have HV := hideG (show ViewAt w _ _ _ _ _ V from ⟨hT, hO, hM, hP, hQ⟩)
  have HV0 := hideG (HV.out.below hbw)
  have HW0 := hideG hW0
  have HS := hideG hS
  have HL := hideG hl
  have HC := hideG (refCheck10_any _ _ _ _ _ V W0 HV0.out HS.out (by have h := HL.out; unfold smallL at h; omega))
  have h1l : V.op.length ≤ 500 := hl.1
  have h2l : V.modal.length ≤ 500 := hl.2.1
  have h3l : V.pops.length ≤ 500 := hl.2.2.1
  have h4l : V.top.length ≤ 1000 := hl.2.2.2
  have p0 := P0.out
  have p1 := P1.out
  have p2 := P2.out
  have p3 := P3.out
  have p4 := P4.out
  have HM := hideG (show mayB V.tree = true from check_may hck)
  rw [hck] at HC
  clear hW0 hT hO hM hP hQ hS hl hbw hs0 hck
  have HN := hideG hn
  clear hn
  go_enter Tryz.func30, Tryz.ntmps30
  go_wp2_with fail
  rw [HW0.out]
  refine HC.out.mono ?_
  rintro ex w1 ⟨rfl, hb1⟩
  have HX1 := hideG hb1
  clear hb1 p0 p1 p2 p3 p4
  have p0 := cell_below HX1.out P0.out
  have p1 := cell_below HX1.out P1.out
  have p2 := cell_below HX1.out P2.out
  have p3 := cell_below HX1.out P3.out
  have p4 := cell_below HX1.out P4.out
  have hwb : w.heap.size < w1.heap.size := below_of_cell p0
  have HRk := hideG (show ∀ j, j < 5 → ∃ u, w1.cell? ⟨w.heap.size + 1, j, none⟩ = some u ∧ w1.frozen? ⟨w.heap.size + 1, j, none⟩ = false from fun j hj => let ⟨u, h1, h2⟩ := HR.out j hj; ⟨u, cell_below HX1.out h1, frozen_below HX1.out h1 h2⟩)
  obtain ⟨u0, rc0, rf0⟩ := HRk.out 0 (by decide)
  obtain ⟨u1, rc1, rf1⟩ := HRk.out 1 (by decide)
  obtain ⟨u2, rc2, rf2⟩ := HRk.out 2 (by decide)
  obtain ⟨u3, rc3, rf3⟩ := HRk.out 3 (by decide)
  obtain ⟨u4, rc4, rf4⟩ := HRk.out 4 (by decide)
  go_wp2_with (go_at_call 47; refine (refIs_any _ _ _ _ _).mono ?_; rintro e wz ⟨rfl, hwz⟩; obtain rfl : _ = wz := hwz.symm; rw [HN.out])
  have HB := hideG (HB0.out.trans (HX1.out.mono HB0.out.size))
  have hat := set5_at (U := w1) (R := w.heap.size + 1) (v0 := .slice ta V.tree.length tc) (v1 := .slice oa V.op.length oc) (v2 := .slice ma V.modal.length mc) (v3 := .slice pa V.pops.length pc) (v4 := .slice qa V.top.length qc) HRk.out
  unfold set5 at hat
  obtain ⟨t0, t1, t2, t3, t4⟩ := hat
  refine bodyPost_ret (v := .tuple #[.agg #[.slice ta V.tree.length tc, .slice oa V.op.length oc, .slice ma V.modal.length mc, .slice pa V.pops.length pc, .slice qa V.top.length qc], .int .i64 (2)]) (by simp [results, Tryz.f30, go_sem, t0, t1, t2, t3, t4]) rfl ?_
  refine ⟨_, _, _, _, _, rfl, ?_, set5_below HB.out (by omega)⟩
  exact HV.out.below (set5_below HB.out (by omega))

set_option maxRecDepth 100000 in
set_option maxHeartbeats 4000000 in
theorem rdlgKind (tv ov mv pv qv : Value) (V : Vw) (w : World) (hV : ViewAt w tv ov mv pv qv V) (hS : Sane V.tree) (hl : smallL V) (n : Int) (m : Bool) (hck : checkV V = 0) (hn : isNodeB V.tree.length n = true) (hd : dlgB V.tree n = false) :
    Calls Tryz.prog 30 #[.agg #[tv, ov, mv, pv, qv], .int .i64 n, .bool m] w fun x w' => ∃ t o m p q, x = .returned (.tuple #[.agg #[t, o, m, p, q], .int .i64 (3)]) ∧ ViewAt w' t o m p q V ∧ Below w.heap.size w w' := by
  obtain ⟨hT, hO, hM, hP, hQ⟩ := hV
  obtain ⟨ta, tc, rfl⟩ := hT.shape
  obtain ⟨oa, oc, rfl⟩ := hO.shape
  obtain ⟨ma, mc, rfl⟩ := hM.shape
  obtain ⟨pa, pc, rfl⟩ := hP.shape
  obtain ⟨qa, qc, rfl⟩ := hQ.shape
  obtain ⟨W0, hW0⟩ : ∃ W0, (w.alloc (.cells #[.slice ta V.tree.length tc, .slice oa V.op.length oc, .slice ma V.modal.length mc, .slice pa V.pops.length pc, .slice qa V.top.length qc] 27)).alloc (.cells #[.slice none 0 0, .slice none 0 0, .slice none 0 0, .slice none 0 0, .slice none 0 0] 27) = W0 := ⟨_, rfl⟩
  have hbw : Below w.heap.size w W0 := by rw [← hW0]; exact ((Below.refl _ w).alloc (Nat.le_refl _) _).alloc (by simp) _
  have HB0 := hideG hbw
  have P0 := hideG (show W0.cell? ⟨w.heap.size, 0, none⟩ = some (.slice ta V.tree.length tc) by rw [← hW0]; exact cell_alloc_l _ (by simp))
  have P1 := hideG (show W0.cell? ⟨w.heap.size, 1, none⟩ = some (.slice oa V.op.length oc) by rw [← hW0]; exact cell_alloc_l _ (by simp))
  have P2 := hideG (show W0.cell? ⟨w.heap.size, 2, none⟩ = some (.slice ma V.modal.length mc) by rw [← hW0]; exact cell_alloc_l _ (by simp))
  have P3 := hideG (show W0.cell? ⟨w.heap.size, 3, none⟩ = some (.slice pa V.pops.length pc) by rw [← hW0]; exact cell_alloc_l _ (by simp))
  have P4 := hideG (show W0.cell? ⟨w.heap.size, 4, none⟩ = some (.slice qa V.top.length qc) by rw [← hW0]; exact cell_alloc_l _ (by simp))
  have HR := hideG (show ∀ j, j < 5 → ∃ u, W0.cell? ⟨w.heap.size + 1, j, none⟩ = some u ∧ W0.frozen? ⟨w.heap.size + 1, j, none⟩ = false from by
    have h1 := World.alloc_heap_new (w.alloc (.cells #[.slice ta V.tree.length tc, .slice oa V.op.length oc, .slice ma V.modal.length mc, .slice pa V.pops.length pc, .slice qa V.top.length qc] 27)) (.cells #[.slice none 0 0, .slice none 0 0, .slice none 0 0, .slice none 0 0, .slice none 0 0] 27)
    rw [World.size_alloc, hW0] at h1
    intro j hj
    obtain rfl | rfl | rfl | rfl | rfl : j = 0 ∨ j = 1 ∨ j = 2 ∨ j = 3 ∨ j = 4 := by omega
    all_goals exact ⟨.slice none 0 0, by simp [World.cell?, h1], by simp [World.frozen?, h1]⟩)
  have hs0 : W0.heap.size = w.heap.size + 2 := by rw [← hW0]; simp
  have HS0 := hideG hs0
  have HV := hideG (show ViewAt w _ _ _ _ _ V from ⟨hT, hO, hM, hP, hQ⟩)
  have HV0 := hideG (HV.out.below hbw)
  have HW0 := hideG hW0
  have HS := hideG hS
  have HL := hideG hl
  have HC := hideG (refCheck10_any _ _ _ _ _ V W0 HV0.out HS.out (by have h := HL.out; unfold smallL at h; omega))
  have h1l : V.op.length ≤ 500 := hl.1
  have h2l : V.modal.length ≤ 500 := hl.2.1
  have h3l : V.pops.length ≤ 500 := hl.2.2.1
  have h4l : V.top.length ≤ 1000 := hl.2.2.2
  have p0 := P0.out
  have p1 := P1.out
  have p2 := P2.out
  have p3 := P3.out
  have p4 := P4.out
  have HM := hideG (show mayB V.tree = true from check_may hck)
  rw [hck] at HC
  clear hW0 hT hO hM hP hQ hS hl hbw hs0 hck
  have HN := hideG hn
  have HD := hideG hd
  clear hn hd
  go_enter Tryz.func30, Tryz.ntmps30
  go_wp2_with fail
  rw [HW0.out]
  refine HC.out.mono ?_
  rintro ex w1 ⟨rfl, hb1⟩
  have HX1 := hideG hb1
  clear hb1 p0 p1 p2 p3 p4
  have p0 := cell_below HX1.out P0.out
  have p1 := cell_below HX1.out P1.out
  have p2 := cell_below HX1.out P2.out
  have p3 := cell_below HX1.out P3.out
  have p4 := cell_below HX1.out P4.out
  have hwb : w.heap.size < w1.heap.size := below_of_cell p0
  have HRk := hideG (show ∀ j, j < 5 → ∃ u, w1.cell? ⟨w.heap.size + 1, j, none⟩ = some u ∧ w1.frozen? ⟨w.heap.size + 1, j, none⟩ = false from fun j hj => let ⟨u, h1, h2⟩ := HR.out j hj; ⟨u, cell_below HX1.out h1, frozen_below HX1.out h1 h2⟩)
  obtain ⟨u0, rc0, rf0⟩ := HRk.out 0 (by decide)
  obtain ⟨u1, rc1, rf1⟩ := HRk.out 1 (by decide)
  obtain ⟨u2, rc2, rf2⟩ := HRk.out 2 (by decide)
  obtain ⟨u3, rc3, rf3⟩ := HRk.out 3 (by decide)
  obtain ⟨u4, rc4, rf4⟩ := HRk.out 4 (by decide)
  go_wp2_with (go_at_call 47; refine (refIs_any _ _ _ _ _).mono ?_; rintro e wz ⟨rfl, hwz⟩; obtain rfl : _ = wz := hwz.symm; rw [HN.out])
  clear p0 p1 p2 p3 p4 hwb rc0 rc1 rc2 rc3 rc4 rf0 rf1 rf2 rf3 rf4 HRk
  refine (refDialogs_any V.tree HM.out _ n w1 (HV0.out.tree.below HX1.out)).mono ?_
  rintro ex w3 ⟨rfl, hb3⟩
  rw [HD.out]
  have HX3 := hideG (HX1.out.trans (hb3.mono HX1.out.size))
  clear hb3
  have p0 := cell_below HX3.out P0.out
  have p1 := cell_below HX3.out P1.out
  have p2 := cell_below HX3.out P2.out
  have p3 := cell_below HX3.out P3.out
  have p4 := cell_below HX3.out P4.out
  have hwb : w.heap.size < w3.heap.size := below_of_cell p0
  have HRk := hideG (show ∀ j, j < 5 → ∃ u, w3.cell? ⟨w.heap.size + 1, j, none⟩ = some u ∧ w3.frozen? ⟨w.heap.size + 1, j, none⟩ = false from fun j hj => let ⟨u, h1, h2⟩ := HR.out j hj; ⟨u, cell_below HX3.out h1, frozen_below HX3.out h1 h2⟩)
  obtain ⟨u0, rc0, rf0⟩ := HRk.out 0 (by decide)
  obtain ⟨u1, rc1, rf1⟩ := HRk.out 1 (by decide)
  obtain ⟨u2, rc2, rf2⟩ := HRk.out 2 (by decide)
  obtain ⟨u3, rc3, rf3⟩ := HRk.out 3 (by decide)
  obtain ⟨u4, rc4, rf4⟩ := HRk.out 4 (by decide)
  go_wp2_with fail
  have HB := hideG (HB0.out.trans (HX3.out.mono HB0.out.size))
  have hat := set5_at (U := w3) (R := w.heap.size + 1) (v0 := .slice ta V.tree.length tc) (v1 := .slice oa V.op.length oc) (v2 := .slice ma V.modal.length mc) (v3 := .slice pa V.pops.length pc) (v4 := .slice qa V.top.length qc) HRk.out
  unfold set5 at hat
  obtain ⟨t0, t1, t2, t3, t4⟩ := hat
  refine bodyPost_ret (v := .tuple #[.agg #[.slice ta V.tree.length tc, .slice oa V.op.length oc, .slice ma V.modal.length mc, .slice pa V.pops.length pc, .slice qa V.top.length qc], .int .i64 (3)]) (by simp [results, Tryz.f30, go_sem, t0, t1, t2, t3, t4]) rfl ?_
  refine ⟨_, _, _, _, _, rfl, ?_, set5_below HB.out (by omega)⟩
  exact HV.out.below (set5_below HB.out (by omega))

set_option maxRecDepth 100000 in
set_option maxHeartbeats 4000000 in
theorem rdlgState (tv ov mv pv qv : Value) (V : Vw) (w : World) (hV : ViewAt w tv ov mv pv qv V) (hS : Sane V.tree) (hl : smallL V) (n : Int) (m : Bool) (hck : checkV V = 0) (hn : isNodeB V.tree.length n = true) (hd : dlgB V.tree n = true) (ho : containsB (openedL V) n = true) :
    Calls Tryz.prog 30 #[.agg #[tv, ov, mv, pv, qv], .int .i64 n, .bool m] w fun x w' => ∃ t o m p q, x = .returned (.tuple #[.agg #[t, o, m, p, q], .int .i64 (9)]) ∧ ViewAt w' t o m p q V ∧ Below w.heap.size w w' := by
  obtain ⟨hT, hO, hM, hP, hQ⟩ := hV
  obtain ⟨ta, tc, rfl⟩ := hT.shape
  obtain ⟨oa, oc, rfl⟩ := hO.shape
  obtain ⟨ma, mc, rfl⟩ := hM.shape
  obtain ⟨pa, pc, rfl⟩ := hP.shape
  obtain ⟨qa, qc, rfl⟩ := hQ.shape
  obtain ⟨W0, hW0⟩ : ∃ W0, (w.alloc (.cells #[.slice ta V.tree.length tc, .slice oa V.op.length oc, .slice ma V.modal.length mc, .slice pa V.pops.length pc, .slice qa V.top.length qc] 27)).alloc (.cells #[.slice none 0 0, .slice none 0 0, .slice none 0 0, .slice none 0 0, .slice none 0 0] 27) = W0 := ⟨_, rfl⟩
  have hbw : Below w.heap.size w W0 := by rw [← hW0]; exact ((Below.refl _ w).alloc (Nat.le_refl _) _).alloc (by simp) _
  have HB0 := hideG hbw
  have P0 := hideG (show W0.cell? ⟨w.heap.size, 0, none⟩ = some (.slice ta V.tree.length tc) by rw [← hW0]; exact cell_alloc_l _ (by simp))
  have P1 := hideG (show W0.cell? ⟨w.heap.size, 1, none⟩ = some (.slice oa V.op.length oc) by rw [← hW0]; exact cell_alloc_l _ (by simp))
  have P2 := hideG (show W0.cell? ⟨w.heap.size, 2, none⟩ = some (.slice ma V.modal.length mc) by rw [← hW0]; exact cell_alloc_l _ (by simp))
  have P3 := hideG (show W0.cell? ⟨w.heap.size, 3, none⟩ = some (.slice pa V.pops.length pc) by rw [← hW0]; exact cell_alloc_l _ (by simp))
  have P4 := hideG (show W0.cell? ⟨w.heap.size, 4, none⟩ = some (.slice qa V.top.length qc) by rw [← hW0]; exact cell_alloc_l _ (by simp))
  have HR := hideG (show ∀ j, j < 5 → ∃ u, W0.cell? ⟨w.heap.size + 1, j, none⟩ = some u ∧ W0.frozen? ⟨w.heap.size + 1, j, none⟩ = false from by
    have h1 := World.alloc_heap_new (w.alloc (.cells #[.slice ta V.tree.length tc, .slice oa V.op.length oc, .slice ma V.modal.length mc, .slice pa V.pops.length pc, .slice qa V.top.length qc] 27)) (.cells #[.slice none 0 0, .slice none 0 0, .slice none 0 0, .slice none 0 0, .slice none 0 0] 27)
    rw [World.size_alloc, hW0] at h1
    intro j hj
    obtain rfl | rfl | rfl | rfl | rfl : j = 0 ∨ j = 1 ∨ j = 2 ∨ j = 3 ∨ j = 4 := by omega
    all_goals exact ⟨.slice none 0 0, by simp [World.cell?, h1], by simp [World.frozen?, h1]⟩)
  have hs0 : W0.heap.size = w.heap.size + 2 := by rw [← hW0]; simp
  have HS0 := hideG hs0
  have HV := hideG (show ViewAt w _ _ _ _ _ V from ⟨hT, hO, hM, hP, hQ⟩)
  have HV0 := hideG (HV.out.below hbw)
  have HW0 := hideG hW0
  have HS := hideG hS
  have HL := hideG hl
  have HC := hideG (refCheck10_any _ _ _ _ _ V W0 HV0.out HS.out (by have h := HL.out; unfold smallL at h; omega))
  have h1l : V.op.length ≤ 500 := hl.1
  have h2l : V.modal.length ≤ 500 := hl.2.1
  have h3l : V.pops.length ≤ 500 := hl.2.2.1
  have h4l : V.top.length ≤ 1000 := hl.2.2.2
  have p0 := P0.out
  have p1 := P1.out
  have p2 := P2.out
  have p3 := P3.out
  have p4 := P4.out
  have HM := hideG (show mayB V.tree = true from check_may hck)
  rw [hck] at HC
  clear hW0 hT hO hM hP hQ hS hl hbw hs0 hck
  have HN := hideG hn
  have HD := hideG hd
  have HO := hideG ho
  clear ho
  clear hn hd
  go_enter Tryz.func30, Tryz.ntmps30
  go_wp2_with fail
  rw [HW0.out]
  refine HC.out.mono ?_
  rintro ex w1 ⟨rfl, hb1⟩
  have HX1 := hideG hb1
  clear hb1 p0 p1 p2 p3 p4
  have p0 := cell_below HX1.out P0.out
  have p1 := cell_below HX1.out P1.out
  have p2 := cell_below HX1.out P2.out
  have p3 := cell_below HX1.out P3.out
  have p4 := cell_below HX1.out P4.out
  have hwb : w.heap.size < w1.heap.size := below_of_cell p0
  have HRk := hideG (show ∀ j, j < 5 → ∃ u, w1.cell? ⟨w.heap.size + 1, j, none⟩ = some u ∧ w1.frozen? ⟨w.heap.size + 1, j, none⟩ = false from fun j hj => let ⟨u, h1, h2⟩ := HR.out j hj; ⟨u, cell_below HX1.out h1, frozen_below HX1.out h1 h2⟩)
  obtain ⟨u0, rc0, rf0⟩ := HRk.out 0 (by decide)
  obtain ⟨u1, rc1, rf1⟩ := HRk.out 1 (by decide)
  obtain ⟨u2, rc2, rf2⟩ := HRk.out 2 (by decide)
  obtain ⟨u3, rc3, rf3⟩ := HRk.out 3 (by decide)
  obtain ⟨u4, rc4, rf4⟩ := HRk.out 4 (by decide)
  go_wp2_with (go_at_call 47; refine (refIs_any _ _ _ _ _).mono ?_; rintro e wz ⟨rfl, hwz⟩; obtain rfl : _ = wz := hwz.symm; rw [HN.out])
  clear p0 p1 p2 p3 p4 hwb rc0 rc1 rc2 rc3 rc4 rf0 rf1 rf2 rf3 rf4 HRk
  refine (refDialogs_any V.tree HM.out _ n w1 (HV0.out.tree.below HX1.out)).mono ?_
  rintro ex w3 ⟨rfl, hb3⟩
  rw [HD.out]
  have HX3 := hideG (HX1.out.trans (hb3.mono HX1.out.size))
  clear hb3
  have p0 := cell_below HX3.out P0.out
  have p1 := cell_below HX3.out P1.out
  have p2 := cell_below HX3.out P2.out
  have p3 := cell_below HX3.out P3.out
  have p4 := cell_below HX3.out P4.out
  have hwb : w.heap.size < w3.heap.size := below_of_cell p0
  have HRk := hideG (show ∀ j, j < 5 → ∃ u, w3.cell? ⟨w.heap.size + 1, j, none⟩ = some u ∧ w3.frozen? ⟨w.heap.size + 1, j, none⟩ = false from fun j hj => let ⟨u, h1, h2⟩ := HR.out j hj; ⟨u, cell_below HX3.out h1, frozen_below HX3.out h1 h2⟩)
  obtain ⟨u0, rc0, rf0⟩ := HRk.out 0 (by decide)
  obtain ⟨u1, rc1, rf1⟩ := HRk.out 1 (by decide)
  obtain ⟨u2, rc2, rf2⟩ := HRk.out 2 (by decide)
  obtain ⟨u3, rc3, rf3⟩ := HRk.out 3 (by decide)
  obtain ⟨u4, rc4, rf4⟩ := HRk.out 4 (by decide)
  go_wp2_with fail
  clear p0 p1 p2 p3 p4 hwb rc0 rc1 rc2 rc3 rc4 rf0 rf1 rf2 rf3 rf4 HRk
  refine (refIsOpen_any _ _ _ _ _ V w3 (HV0.out.below HX3.out) n ⟨by omega, by omega, by omega⟩).mono ?_
  rintro ex w4 ⟨rfl, hb4⟩
  rw [HO.out]
  have HX4 := hideG (HX3.out.trans (hb4.mono HX3.out.size))
  clear hb4
  have p0 := cell_below HX4.out P0.out
  have p1 := cell_below HX4.out P1.out
  have p2 := cell_below HX4.out P2.out
  have p3 := cell_below HX4.out P3.out
  have p4 := cell_below HX4.out P4.out
  have hwb : w.heap.size < w4.heap.size := below_of_cell p0
  have HRk := hideG (show ∀ j, j < 5 → ∃ u, w4.cell? ⟨w.heap.size + 1, j, none⟩ = some u ∧ w4.frozen? ⟨w.heap.size + 1, j, none⟩ = false from fun j hj => let ⟨u, h1, h2⟩ := HR.out j hj; ⟨u, cell_below HX4.out h1, frozen_below HX4.out h1 h2⟩)
  obtain ⟨u0, rc0, rf0⟩ := HRk.out 0 (by decide)
  obtain ⟨u1, rc1, rf1⟩ := HRk.out 1 (by decide)
  obtain ⟨u2, rc2, rf2⟩ := HRk.out 2 (by decide)
  obtain ⟨u3, rc3, rf3⟩ := HRk.out 3 (by decide)
  obtain ⟨u4, rc4, rf4⟩ := HRk.out 4 (by decide)
  go_wp2_with fail
  have HB := hideG (HB0.out.trans (HX4.out.mono HB0.out.size))
  have hat := set5_at (U := w4) (R := w.heap.size + 1) (v0 := .slice ta V.tree.length tc) (v1 := .slice oa V.op.length oc) (v2 := .slice ma V.modal.length mc) (v3 := .slice pa V.pops.length pc) (v4 := .slice qa V.top.length qc) HRk.out
  unfold set5 at hat
  obtain ⟨t0, t1, t2, t3, t4⟩ := hat
  refine bodyPost_ret (v := .tuple #[.agg #[.slice ta V.tree.length tc, .slice oa V.op.length oc, .slice ma V.modal.length mc, .slice pa V.pops.length pc, .slice qa V.top.length qc], .int .i64 (9)]) (by simp [results, Tryz.f30, go_sem, t0, t1, t2, t3, t4]) rfl ?_
  refine ⟨_, _, _, _, _, rfl, ?_, set5_below HB.out (by omega)⟩
  exact HV.out.below (set5_below HB.out (by omega))

set_option maxRecDepth 100000 in
set_option maxHeartbeats 4000000 in
theorem rdlgOpen (tv ov mv pv qv : Value) (V : Vw) (w : World) (hV : ViewAt w tv ov mv pv qv V) (hS : Sane V.tree) (hl : smallL V) (n : Int) (m : Bool) (hmd : m = false) (htl : V.tree.length ≤ 1000) (hck : checkV V = 0) (hn : isNodeB V.tree.length n = true) (hd : dlgB V.tree n = true) (ho : containsB (openedL V) n = false) :
    Calls Tryz.prog 30 #[.agg #[tv, ov, mv, pv, qv], .int .i64 n, .bool m] w fun x w' => ∃ t o m p q, x = .returned (.tuple #[.agg #[t, o, m, p, q], .int .i64 (0)]) ∧ ViewAt w' t o m p q { V with op := V.op ++ [n] } ∧ Below w.heap.size w w' := by
  subst hmd
  obtain ⟨i3, hi3, hz30, hz31, hz32⟩ := info_parts infoT3
  have HTL := hideG htl
  clear htl
  obtain ⟨hT, hO, hM, hP, hQ⟩ := hV
  obtain ⟨ta, tc, rfl⟩ := hT.shape
  obtain ⟨oa, oc, rfl⟩ := hO.shape
  obtain ⟨ma, mc, rfl⟩ := hM.shape
  obtain ⟨pa, pc, rfl⟩ := hP.shape
  obtain ⟨qa, qc, rfl⟩ := hQ.shape
  obtain ⟨W0, hW0⟩ : ∃ W0, (w.alloc (.cells #[.slice ta V.tree.length tc, .slice oa V.op.length oc, .slice ma V.modal.length mc, .slice pa V.pops.length pc, .slice qa V.top.length qc] 27)).alloc (.cells #[.slice none 0 0, .slice none 0 0, .slice none 0 0, .slice none 0 0, .slice none 0 0] 27) = W0 := ⟨_, rfl⟩
  have hbw : Below w.heap.size w W0 := by rw [← hW0]; exact ((Below.refl _ w).alloc (Nat.le_refl _) _).alloc (by simp) _
  have HB0 := hideG hbw
  have P0 := hideG (show W0.cell? ⟨w.heap.size, 0, none⟩ = some (.slice ta V.tree.length tc) by rw [← hW0]; exact cell_alloc_l _ (by simp))
  have P1 := hideG (show W0.cell? ⟨w.heap.size, 1, none⟩ = some (.slice oa V.op.length oc) by rw [← hW0]; exact cell_alloc_l _ (by simp))
  have P2 := hideG (show W0.cell? ⟨w.heap.size, 2, none⟩ = some (.slice ma V.modal.length mc) by rw [← hW0]; exact cell_alloc_l _ (by simp))
  have P3 := hideG (show W0.cell? ⟨w.heap.size, 3, none⟩ = some (.slice pa V.pops.length pc) by rw [← hW0]; exact cell_alloc_l _ (by simp))
  have P4 := hideG (show W0.cell? ⟨w.heap.size, 4, none⟩ = some (.slice qa V.top.length qc) by rw [← hW0]; exact cell_alloc_l _ (by simp))
  have HR := hideG (show ∀ j, j < 5 → ∃ u, W0.cell? ⟨w.heap.size + 1, j, none⟩ = some u ∧ W0.frozen? ⟨w.heap.size + 1, j, none⟩ = false from by
    have h1 := World.alloc_heap_new (w.alloc (.cells #[.slice ta V.tree.length tc, .slice oa V.op.length oc, .slice ma V.modal.length mc, .slice pa V.pops.length pc, .slice qa V.top.length qc] 27)) (.cells #[.slice none 0 0, .slice none 0 0, .slice none 0 0, .slice none 0 0, .slice none 0 0] 27)
    rw [World.size_alloc, hW0] at h1
    intro j hj
    obtain rfl | rfl | rfl | rfl | rfl : j = 0 ∨ j = 1 ∨ j = 2 ∨ j = 3 ∨ j = 4 := by omega
    all_goals exact ⟨.slice none 0 0, by simp [World.cell?, h1], by simp [World.frozen?, h1]⟩)
  have hs0 : W0.heap.size = w.heap.size + 2 := by rw [← hW0]; simp
  have HS0 := hideG hs0
  have HV := hideG (show ViewAt w _ _ _ _ _ V from ⟨hT, hO, hM, hP, hQ⟩)
  have HV0 := hideG (HV.out.below hbw)
  have HW0 := hideG hW0
  have HS := hideG hS
  have HL := hideG hl
  have HC := hideG (refCheck10_any _ _ _ _ _ V W0 HV0.out HS.out (by have h := HL.out; unfold smallL at h; omega))
  have h1l : V.op.length ≤ 500 := hl.1
  have h2l : V.modal.length ≤ 500 := hl.2.1
  have h3l : V.pops.length ≤ 500 := hl.2.2.1
  have h4l : V.top.length ≤ 1000 := hl.2.2.2
  have p0 := P0.out
  have p1 := P1.out
  have p2 := P2.out
  have p3 := P3.out
  have p4 := P4.out
  have HM := hideG (show mayB V.tree = true from check_may hck)
  rw [hck] at HC
  clear hW0 hT hO hM hP hQ hS hl hbw hs0 hck
  have HN := hideG hn
  have HD := hideG hd
  have HO := hideG ho
  clear ho
  clear hn hd
  go_enter Tryz.func30, Tryz.ntmps30
  go_wp2_with fail
  rw [HW0.out]
  refine HC.out.mono ?_
  rintro ex w1 ⟨rfl, hb1⟩
  have HX1 := hideG hb1
  clear hb1 p0 p1 p2 p3 p4
  have p0 := cell_below HX1.out P0.out
  have p1 := cell_below HX1.out P1.out
  have p2 := cell_below HX1.out P2.out
  have p3 := cell_below HX1.out P3.out
  have p4 := cell_below HX1.out P4.out
  have hwb : w.heap.size < w1.heap.size := below_of_cell p0
  have HRk := hideG (show ∀ j, j < 5 → ∃ u, w1.cell? ⟨w.heap.size + 1, j, none⟩ = some u ∧ w1.frozen? ⟨w.heap.size + 1, j, none⟩ = false from fun j hj => let ⟨u, h1, h2⟩ := HR.out j hj; ⟨u, cell_below HX1.out h1, frozen_below HX1.out h1 h2⟩)
  obtain ⟨u0, rc0, rf0⟩ := HRk.out 0 (by decide)
  obtain ⟨u1, rc1, rf1⟩ := HRk.out 1 (by decide)
  obtain ⟨u2, rc2, rf2⟩ := HRk.out 2 (by decide)
  obtain ⟨u3, rc3, rf3⟩ := HRk.out 3 (by decide)
  obtain ⟨u4, rc4, rf4⟩ := HRk.out 4 (by decide)
  go_wp2_with (go_at_call 47; refine (refIs_any _ _ _ _ _).mono ?_; rintro e wz ⟨rfl, hwz⟩; obtain rfl : _ = wz := hwz.symm; rw [HN.out])
  clear p0 p1 p2 p3 p4 hwb rc0 rc1 rc2 rc3 rc4 rf0 rf1 rf2 rf3 rf4 HRk
  refine (refDialogs_any V.tree HM.out _ n w1 (HV0.out.tree.below HX1.out)).mono ?_
  rintro ex w3 ⟨rfl, hb3⟩
  rw [HD.out]
  have HX3 := hideG (HX1.out.trans (hb3.mono HX1.out.size))
  clear hb3
  have p0 := cell_below HX3.out P0.out
  have p1 := cell_below HX3.out P1.out
  have p2 := cell_below HX3.out P2.out
  have p3 := cell_below HX3.out P3.out
  have p4 := cell_below HX3.out P4.out
  have hwb : w.heap.size < w3.heap.size := below_of_cell p0
  have HRk := hideG (show ∀ j, j < 5 → ∃ u, w3.cell? ⟨w.heap.size + 1, j, none⟩ = some u ∧ w3.frozen? ⟨w.heap.size + 1, j, none⟩ = false from fun j hj => let ⟨u, h1, h2⟩ := HR.out j hj; ⟨u, cell_below HX3.out h1, frozen_below HX3.out h1 h2⟩)
  obtain ⟨u0, rc0, rf0⟩ := HRk.out 0 (by decide)
  obtain ⟨u1, rc1, rf1⟩ := HRk.out 1 (by decide)
  obtain ⟨u2, rc2, rf2⟩ := HRk.out 2 (by decide)
  obtain ⟨u3, rc3, rf3⟩ := HRk.out 3 (by decide)
  obtain ⟨u4, rc4, rf4⟩ := HRk.out 4 (by decide)
  go_wp2_with fail
  clear p0 p1 p2 p3 p4 hwb rc0 rc1 rc2 rc3 rc4 rf0 rf1 rf2 rf3 rf4 HRk
  refine (refIsOpen_any _ _ _ _ _ V w3 (HV0.out.below HX3.out) n ⟨by omega, by omega, by omega⟩).mono ?_
  rintro ex w4 ⟨rfl, hb4⟩
  rw [HO.out]
  have HX4 := hideG (HX3.out.trans (hb4.mono HX3.out.size))
  clear hb4
  have p0 := cell_below HX4.out P0.out
  have p1 := cell_below HX4.out P1.out
  have p2 := cell_below HX4.out P2.out
  have p3 := cell_below HX4.out P3.out
  have p4 := cell_below HX4.out P4.out
  have hwb : w.heap.size < w4.heap.size := below_of_cell p0
  have HRk := hideG (show ∀ j, j < 5 → ∃ u, w4.cell? ⟨w.heap.size + 1, j, none⟩ = some u ∧ w4.frozen? ⟨w.heap.size + 1, j, none⟩ = false from fun j hj => let ⟨u, h1, h2⟩ := HR.out j hj; ⟨u, cell_below HX4.out h1, frozen_below HX4.out h1 h2⟩)
  obtain ⟨u0, rc0, rf0⟩ := HRk.out 0 (by decide)
  obtain ⟨u1, rc1, rf1⟩ := HRk.out 1 (by decide)
  obtain ⟨u2, rc2, rf2⟩ := HRk.out 2 (by decide)
  obtain ⟨u3, rc3, rf3⟩ := HRk.out 3 (by decide)
  obtain ⟨u4, rc4, rf4⟩ := HRk.out 4 (by decide)
  go_wp2_with fail
  clear p0 p1 p2 p3 p4 hwb rc0 rc1 rc2 rc3 rc4 rf0 rf1 rf2 rf3 rf4 HRk
  refine (refCopyV_any _ _ _ _ _ V w4 (HV0.out.below HX4.out) HS.out ⟨HTL.out, by omega, by omega, by omega, by omega⟩).mono ?_
  rintro ex w5 ⟨f, tv', ov', mv', pv', qv', rfl, hov, hb5⟩
  obtain ⟨a5, k5, rfl⟩ := hov.at.tree.shape
  obtain ⟨a8, k8, rfl⟩ := hov.at.op.shape
  obtain ⟨a11, k11, rfl⟩ := hov.at.modal.shape
  obtain ⟨a14, k14, rfl⟩ := hov.at.pops.shape
  obtain ⟨a17, k17, rfl⟩ := hov.at.top.shape
  have hs45 := hb5.size
  have hs4 := HX4.out.size
  have HX5 := hideG (HX4.out.trans (hb5.mono HX4.out.size))
  obtain ⟨W6, hW6⟩ : ∃ W6, w5.alloc (.cells #[.slice a5 V.tree.length k5, .slice a8 V.op.length k8, .slice a11 V.modal.length k11, .slice a14 V.pops.length k14, .slice a17 V.top.length k17] 27) = W6 := ⟨_, rfl⟩
  have hb6 : Below w5.heap.size w5 W6 := by rw [← hW6]; exact (Below.refl _ w5).alloc (Nat.le_refl _) _
  have hnew := World.alloc_heap_new w5 (.cells #[.slice a5 V.tree.length k5, .slice a8 V.op.length k8, .slice a11 V.modal.length k11, .slice a14 V.pops.length k14, .slice a17 V.top.length k17] 27)
  rw [hW6] at hnew
  have hs6 : W6.heap.size = w5.heap.size + 1 := by rw [← hW6]; simp
  have HOB := hideG (show OwnB W6 w4.heap.size (fun j => j = w.heap.size + 1 ∨ j = w5.heap.size) f _ _ _ _ _ V from hov.offB hb6 (fun j hj => by
    have h0 := HS0.out
    rcases hj with rfl | rfl
    · exact ⟨by omega, .inl (by omega)⟩
    · exact ⟨by omega, .inr (Nat.le_refl _)⟩))
  have HX6 := hideG (HX5.out.trans (hb6.mono HX5.out.size))
  have D0 := hideG (show W6.cell? ⟨w5.heap.size, 0, none⟩ = some (.slice a5 V.tree.length k5) ∧ W6.frozen? ⟨w5.heap.size, 0, none⟩ = false from ⟨by simp [World.cell?, hnew], by simp [World.frozen?, hnew]⟩)
  have D1 := hideG (show W6.cell? ⟨w5.heap.size, 1, none⟩ = some (.slice a8 V.op.length k8) ∧ W6.frozen? ⟨w5.heap.size, 1, none⟩ = false from ⟨by simp [World.cell?, hnew], by simp [World.frozen?, hnew]⟩)
  have D2 := hideG (show W6.cell? ⟨w5.heap.size, 2, none⟩ = some (.slice a11 V.modal.length k11) ∧ W6.frozen? ⟨w5.heap.size, 2, none⟩ = false from ⟨by simp [World.cell?, hnew], by simp [World.frozen?, hnew]⟩)
  have D3 := hideG (show W6.cell? ⟨w5.heap.size, 3, none⟩ = some (.slice a14 V.pops.length k14) ∧ W6.frozen? ⟨w5.heap.size, 3, none⟩ = false from ⟨by simp [World.cell?, hnew], by simp [World.frozen?, hnew]⟩)
  have D4 := hideG (show W6.cell? ⟨w5.heap.size, 4, none⟩ = some (.slice a17 V.top.length k17) ∧ W6.frozen? ⟨w5.heap.size, 4, none⟩ = false from ⟨by simp [World.cell?, hnew], by simp [World.frozen?, hnew]⟩)
  have hwb5 : w.heap.size + 1 < w5.heap.size := by have := HS0.out; omega
  have HW6 := hideG hW6
  have HS6 := hideG hs6
  have HZ := hideG (show w.heap.size + 2 ≤ w4.heap.size by have := HS0.out; omega)
  clear hov hb5 hb6 hW6 hnew hs45 hs4 hs6
  have HRX := hideG (show ∀ j, j < 5 → ∃ u, W6.cell? ⟨w.heap.size + 1, j, none⟩ = some u ∧ W6.frozen? ⟨w.heap.size + 1, j, none⟩ = false from fun j hj => let ⟨u, h1, h2⟩ := HR.out j hj; ⟨u, cell_below HX6.out h1, frozen_below HX6.out h1 h2⟩)
  have HBX := hideG (HB0.out.trans (HX6.out.mono HB0.out.size))
  have hz4 : w.heap.size + 2 ≤ w4.heap.size := HZ.out
  have hz5 : w.heap.size ≤ w5.heap.size := by omega
  have HROW7 := hideG (show Holds (W6.alloc (.cells #[.int .i64 n] 3)) (.slice (some ⟨w5.heap.size + 1, 0, none⟩) 1 1) 1 [.int .i64 n] from by have := row_new1 W6 n; rw [HS6.out] at this; exact this)
  have hpl := HOB.out.own.parts.le 1 (by omega)
  have hbt7 : Below W6.heap.size W6 (W6.alloc (.cells #[.int .i64 n] 3)) := (Below.refl _ _).alloc (Nat.le_refl _) _
  go_wp2_with (at_builtin; rw [HW6.out]; refine wpList_append_any rfl (.tmp 48) (.tmp 50) 24 rfl (f 1).1 3 i3 _ 1 8 Tryz.underlying24 hi3 hz30 hz31 hz32 rfl (by decide) _ (V).op.length (intCells (V).op) rfl (HOB.out.own.op.1.alloc _) _ 1 [.int .i64 n] rfl HROW7.out rfl ?h2 ?h3 ?h4 ?h5 ?_)
  case h2 => intro y hy; simp at hy; subst hy; rfl
  case h3 => simp only [maxLen]; omega
  case h4 => omega
  case h5 => simp; omega
  intro v7 w7 ho7 hg7 hf7
  obtain ⟨a7, c7, rfl⟩ := ownsRow_shape ho7
  rw [intCells_snoc] at ho7
  obtain ⟨g7, hob7⟩ := HOB.out.appOp (w1 := (W6.alloc (.cells #[.int .i64 n] 3))) hbt7 ho7 hg7 (fun k hk => (hf7 k hk).imp id (fun h => by have h0 := HS6.out; rw [World.size_alloc]; (try simp only [World.size_alloc] at h); omega))
  have e70 := HOB.out.badCell (i := 1) (by omega) HOB.out.own.op hbt7 hg7 (.inr rfl) D0.out.1
  have ef70 := HOB.out.badFrozen (i := 1) (by omega) HOB.out.own.op hbt7 hg7 (.inr rfl) D0.out.1 D0.out.2
  have e71 := HOB.out.badCell (i := 1) (by omega) HOB.out.own.op hbt7 hg7 (.inr rfl) D1.out.1
  have ef71 := HOB.out.badFrozen (i := 1) (by omega) HOB.out.own.op hbt7 hg7 (.inr rfl) D1.out.1 D1.out.2
  have e72 := HOB.out.badCell (i := 1) (by omega) HOB.out.own.op hbt7 hg7 (.inr rfl) D2.out.1
  have ef72 := HOB.out.badFrozen (i := 1) (by omega) HOB.out.own.op hbt7 hg7 (.inr rfl) D2.out.1 D2.out.2
  have e73 := HOB.out.badCell (i := 1) (by omega) HOB.out.own.op hbt7 hg7 (.inr rfl) D3.out.1
  have ef73 := HOB.out.badFrozen (i := 1) (by omega) HOB.out.own.op hbt7 hg7 (.inr rfl) D3.out.1 D3.out.2
  have e74 := HOB.out.badCell (i := 1) (by omega) HOB.out.own.op hbt7 hg7 (.inr rfl) D4.out.1
  have ef74 := HOB.out.badFrozen (i := 1) (by omega) HOB.out.own.op hbt7 hg7 (.inr rfl) D4.out.1 D4.out.2
  have HR7 := hideG (show ∀ j, j < 5 → ∃ u, w7.cell? ⟨w.heap.size + 1, j, none⟩ = some u ∧ w7.frozen? ⟨w.heap.size + 1, j, none⟩ = false from fun j hj => let ⟨u, h1, h2⟩ := HRX.out j hj; ⟨u, HOB.out.badCell (i := 1) (by omega) HOB.out.own.op hbt7 hg7 (.inl rfl) h1, HOB.out.badFrozen (i := 1) (by omega) HOB.out.own.op hbt7 hg7 (.inl rfl) h1 h2⟩)
  have HRY := hideG (show ∀ j, j < 5 → ∃ u, (w7.setCell ⟨w5.heap.size, 1, none⟩ (.slice a7 ((V).op.length + 1) c7)).cell? ⟨w.heap.size + 1, j, none⟩ = some u ∧ (w7.setCell ⟨w5.heap.size, 1, none⟩ (.slice a7 ((V).op.length + 1) c7)).frozen? ⟨w.heap.size + 1, j, none⟩ = false from fun j hj => let ⟨u, h1, h2⟩ := HR7.out j hj; ⟨u, set_otherB h1 (by omega), by rw [World.frozen?_setCell]; exact h2⟩)
  have hsX : W6.heap.size ≤ w7.heap.size := by have := hg7.size; simp at this; omega
  have HBY := hideG (show Below w.heap.size w (w7.setCell ⟨w5.heap.size, 1, none⟩ (.slice a7 ((V).op.length + 1) c7)) from (((HBX.out.alloc HBX.out.size (.cells #[.int .i64 n] 3)).grown hg7 (by have := HBX.out.size; simp; omega) (fun j e => by have h0 := (HOB.out.own.op.1.lt j e).1; have h9 := HZ.out; omega)).setCell (p := ⟨w5.heap.size, 1, none⟩) (by show w.heap.size ≤ w5.heap.size; omega) _))
  have HOBY := hideG (hob7.keep (W := (w7.setCell ⟨w5.heap.size, 1, none⟩ (.slice a7 ((V).op.length + 1) c7))) (by simp) (fun j _ hbad => setc_block (fun e => hbad (.inr e))))
  have E0 := hideG (show (w7.setCell ⟨w5.heap.size, 1, none⟩ (.slice a7 ((V).op.length + 1) c7)).cell? ⟨w5.heap.size, 0, none⟩ = some (.slice a5 V.tree.length k5) ∧ (w7.setCell ⟨w5.heap.size, 1, none⟩ (.slice a7 ((V).op.length + 1) c7)).frozen? ⟨w5.heap.size, 0, none⟩ = false from ⟨set_other e70 (by decide), by rw [World.frozen?_setCell]; exact ef70⟩)
  have E1 := hideG (show (w7.setCell ⟨w5.heap.size, 1, none⟩ (.slice a7 ((V).op.length + 1) c7)).cell? ⟨w5.heap.size, 1, none⟩ = some (.slice a7 ((V).op.length + 1) c7) ∧ (w7.setCell ⟨w5.heap.size, 1, none⟩ (.slice a7 ((V).op.length + 1) c7)).frozen? ⟨w5.heap.size, 1, none⟩ = false from ⟨set_same e71, by rw [World.frozen?_setCell]; exact ef71⟩)
  have E2 := hideG (show (w7.setCell ⟨w5.heap.size, 1, none⟩ (.slice a7 ((V).op.length + 1) c7)).cell? ⟨w5.heap.size, 2, none⟩ = some (.slice a11 V.modal.length k11) ∧ (w7.setCell ⟨w5.heap.size, 1, none⟩ (.slice a7 ((V).op.length + 1) c7)).frozen? ⟨w5.heap.size, 2, none⟩ = false from ⟨set_other e72 (by decide), by rw [World.frozen?_setCell]; exact ef72⟩)
  have E3 := hideG (show (w7.setCell ⟨w5.heap.size, 1, none⟩ (.slice a7 ((V).op.length + 1) c7)).cell? ⟨w5.heap.size, 3, none⟩ = some (.slice a14 V.pops.length k14) ∧ (w7.setCell ⟨w5.heap.size, 1, none⟩ (.slice a7 ((V).op.length + 1) c7)).frozen? ⟨w5.heap.size, 3, none⟩ = false from ⟨set_other e73 (by decide), by rw [World.frozen?_setCell]; exact ef73⟩)
  have E4 := hideG (show (w7.setCell ⟨w5.heap.size, 1, none⟩ (.slice a7 ((V).op.length + 1) c7)).cell? ⟨w5.heap.size, 4, none⟩ = some (.slice a17 V.top.length k17) ∧ (w7.setCell ⟨w5.heap.size, 1, none⟩ (.slice a7 ((V).op.length + 1) c7)).frozen? ⟨w5.heap.size, 4, none⟩ = false from ⟨set_other e74 (by decide), by rw [World.frozen?_setCell]; exact ef74⟩)
  obtain ⟨u0, rc0, rf0⟩ := HR7.out 0 (by decide)
  obtain ⟨u1, rc1, rf1⟩ := HR7.out 1 (by decide)
  obtain ⟨u2, rc2, rf2⟩ := HR7.out 2 (by decide)
  obtain ⟨u3, rc3, rf3⟩ := HR7.out 3 (by decide)
  obtain ⟨u4, rc4, rf4⟩ := HR7.out 4 (by decide)
  clear hbt7 ho7 hg7 hf7 hob7 hpl hsX
  go_wp2_with fail
  have hat := set5_at (U := (w7.setCell ⟨w5.heap.size, 1, none⟩ (.slice a7 ((V).op.length + 1) c7))) (R := w.heap.size + 1) (v0 := .slice a5 V.tree.length k5) (v1 := .slice a7 ((V).op.length + 1) c7) (v2 := .slice a11 V.modal.length k11) (v3 := .slice a14 V.pops.length k14) (v4 := .slice a17 V.top.length k17) HRY.out
  unfold set5 at hat
  obtain ⟨t0, t1, t2, t3, t4⟩ := hat
  refine bodyPost_ret (v := .tuple #[.agg #[.slice a5 V.tree.length k5, .slice a7 ((V).op.length + 1) c7, .slice a11 V.modal.length k11, .slice a14 V.pops.length k14, .slice a17 V.top.length k17], .int .i64 (0)]) (by simp [results, Tryz.f30, go_sem, t0, t1, t2, t3, t4]) rfl ?_
  refine ⟨_, _, _, _, _, rfl, ?_, set5_below HBY.out (by omega)⟩
  exact (HOBY.out.keep (W := set5 (w7.setCell ⟨w5.heap.size, 1, none⟩ (.slice a7 ((V).op.length + 1) c7)) (w.heap.size + 1) (.slice a5 V.tree.length k5) (.slice a7 ((V).op.length + 1) c7) (.slice a11 V.modal.length k11) (.slice a14 V.pops.length k14) (.slice a17 V.top.length k17)) (by rw [set5_size]; exact Nat.le_refl _) (fun j _ hbad => set5_block (fun e => hbad (.inl e)))).at

set_option maxRecDepth 100000 in
set_option maxHeartbeats 4000000 in
theorem rdlgModal (tv ov mv pv qv : Value) (V : Vw) (w : World) (hV : ViewAt w tv ov mv pv qv V) (hS : Sane V.tree) (hl : smallL V) (n : Int) (m : Bool) (hmd : m = true) (htl : V.tree.length ≤ 1000) (hck : checkV V = 0) (hn : isNodeB V.tree.length n = true) (hd : dlgB V.tree n = true) (ho : containsB (openedL V) n = false) :
    Calls Tryz.prog 30 #[.agg #[tv, ov, mv, pv, qv], .int .i64 n, .bool m] w fun x w' => ∃ t o m p q, x = .returned (.tuple #[.agg #[t, o, m, p, q], .int .i64 (0)]) ∧ ViewAt w' t o m p q { V with modal := V.modal ++ [n], top := V.top ++ [n] } ∧ Below w.heap.size w w' := by
  subst hmd
  obtain ⟨i3, hi3, hz30, hz31, hz32⟩ := info_parts infoT3
  have HTL := hideG htl
  clear htl
  obtain ⟨hT, hO, hM, hP, hQ⟩ := hV
  obtain ⟨ta, tc, rfl⟩ := hT.shape
  obtain ⟨oa, oc, rfl⟩ := hO.shape
  obtain ⟨ma, mc, rfl⟩ := hM.shape
  obtain ⟨pa, pc, rfl⟩ := hP.shape
  obtain ⟨qa, qc, rfl⟩ := hQ.shape
  obtain ⟨W0, hW0⟩ : ∃ W0, (w.alloc (.cells #[.slice ta V.tree.length tc, .slice oa V.op.length oc, .slice ma V.modal.length mc, .slice pa V.pops.length pc, .slice qa V.top.length qc] 27)).alloc (.cells #[.slice none 0 0, .slice none 0 0, .slice none 0 0, .slice none 0 0, .slice none 0 0] 27) = W0 := ⟨_, rfl⟩
  have hbw : Below w.heap.size w W0 := by rw [← hW0]; exact ((Below.refl _ w).alloc (Nat.le_refl _) _).alloc (by simp) _
  have HB0 := hideG hbw
  have P0 := hideG (show W0.cell? ⟨w.heap.size, 0, none⟩ = some (.slice ta V.tree.length tc) by rw [← hW0]; exact cell_alloc_l _ (by simp))
  have P1 := hideG (show W0.cell? ⟨w.heap.size, 1, none⟩ = some (.slice oa V.op.length oc) by rw [← hW0]; exact cell_alloc_l _ (by simp))
  have P2 := hideG (show W0.cell? ⟨w.heap.size, 2, none⟩ = some (.slice ma V.modal.length mc) by rw [← hW0]; exact cell_alloc_l _ (by simp))
  have P3 := hideG (show W0.cell? ⟨w.heap.size, 3, none⟩ = some (.slice pa V.pops.length pc) by rw [← hW0]; exact cell_alloc_l _ (by simp))
  have P4 := hideG (show W0.cell? ⟨w.heap.size, 4, none⟩ = some (.slice qa V.top.length qc) by rw [← hW0]; exact cell_alloc_l _ (by simp))
  have HR := hideG (show ∀ j, j < 5 → ∃ u, W0.cell? ⟨w.heap.size + 1, j, none⟩ = some u ∧ W0.frozen? ⟨w.heap.size + 1, j, none⟩ = false from by
    have h1 := World.alloc_heap_new (w.alloc (.cells #[.slice ta V.tree.length tc, .slice oa V.op.length oc, .slice ma V.modal.length mc, .slice pa V.pops.length pc, .slice qa V.top.length qc] 27)) (.cells #[.slice none 0 0, .slice none 0 0, .slice none 0 0, .slice none 0 0, .slice none 0 0] 27)
    rw [World.size_alloc, hW0] at h1
    intro j hj
    obtain rfl | rfl | rfl | rfl | rfl : j = 0 ∨ j = 1 ∨ j = 2 ∨ j = 3 ∨ j = 4 := by omega
    all_goals exact ⟨.slice none 0 0, by simp [World.cell?, h1], by simp [World.frozen?, h1]⟩)
  have hs0 : W0.heap.size = w.heap.size + 2 := by rw [← hW0]; simp
  have HS0 := hideG hs0
  have HV := hideG (show ViewAt w _ _ _ _ _ V from ⟨hT, hO, hM, hP, hQ⟩)
  have HV0 := hideG (HV.out.below hbw)
  have HW0 := hideG hW0
  have HS := hideG hS
  have HL := hideG hl
  have HC := hideG (refCheck10_any _ _ _ _ _ V W0 HV0.out HS.out (by have h := HL.out; unfold smallL at h; omega))
  have h1l : V.op.length ≤ 500 := hl.1
  have h2l : V.modal.length ≤ 500 := hl.2.1
  have h3l : V.pops.length ≤ 500 := hl.2.2.1
  have h4l : V.top.length ≤ 1000 := hl.2.2.2
  have p0 := P0.out
  have p1 := P1.out
  have p2 := P2.out
  have p3 := P3.out
  have p4 := P4.out
  have HM := hideG (show mayB V.tree = true from check_may hck)
  rw [hck] at HC
  clear hW0 hT hO hM hP hQ hS hl hbw hs0 hck
  have HN := hideG hn
  have HD := hideG hd
  have HO := hideG ho
  clear ho
  clear hn hd
  go_enter Tryz.func30, Tryz.ntmps30
  go_wp2_with fail
  rw [HW0.out]
  refine HC.out.mono ?_
  rintro ex w1 ⟨rfl, hb1⟩
  have HX1 := hideG hb1
  clear hb1 p0 p1 p2 p3 p4
  have p0 := cell_below HX1.out P0.out
  have p1 := cell_below HX1.out P1.out
  have p2 := cell_below HX1.out P2.out
  have p3 := cell_below HX1.out P3.out
  have p4 := cell_below HX1.out P4.out
  have hwb : w.heap.size < w1.heap.size := below_of_cell p0
  have HRk := hideG (show ∀ j, j < 5 → ∃ u, w1.cell? ⟨w.heap.size + 1, j, none⟩ = some u ∧ w1.frozen? ⟨w.heap.size + 1, j, none⟩ = false from fun j hj => let ⟨u, h1, h2⟩ := HR.out j hj; ⟨u, cell_below HX1.out h1, frozen_below HX1.out h1 h2⟩)
  obtain ⟨u0, rc0, rf0⟩ := HRk.out 0 (by decide)
  obtain ⟨u1, rc1, rf1⟩ := HRk.out 1 (by decide)
  obtain ⟨u2, rc2, rf2⟩ := HRk.out 2 (by decide)
  obtain ⟨u3, rc3, rf3⟩ := HRk.out 3 (by decide)
  obtain ⟨u4, rc4, rf4⟩ := HRk.out 4 (by decide)
  go_wp2_with (go_at_call 47; refine (refIs_any _ _ _ _ _).mono ?_; rintro e wz ⟨rfl, hwz⟩; obtain rfl : _ = wz := hwz.symm; rw [HN.out])
  clear p0 p1 p2 p3 p4 hwb rc0 rc1 rc2 rc3 rc4 rf0 rf1 rf2 rf3 rf4 HRk
  refine (refDialogs_any V.tree HM.out _ n w1 (HV0.out.tree.below HX1.out)).mono ?_
  rintro ex w3 ⟨rfl, hb3⟩
  rw [HD.out]
  have HX3 := hideG (HX1.out.trans (hb3.mono HX1.out.size))
  clear hb3
  have p0 := cell_below HX3.out P0.out
  have p1 := cell_below HX3.out P1.out
  have p2 := cell_below HX3.out P2.out
  have p3 := cell_below HX3.out P3.out
  have p4 := cell_below HX3.out P4.out
  have hwb : w.heap.size < w3.heap.size := below_of_cell p0
  have HRk := hideG (show ∀ j, j < 5 → ∃ u, w3.cell? ⟨w.heap.size + 1, j, none⟩ = some u ∧ w3.frozen? ⟨w.heap.size + 1, j, none⟩ = false from fun j hj => let ⟨u, h1, h2⟩ := HR.out j hj; ⟨u, cell_below HX3.out h1, frozen_below HX3.out h1 h2⟩)
  obtain ⟨u0, rc0, rf0⟩ := HRk.out 0 (by decide)
  obtain ⟨u1, rc1, rf1⟩ := HRk.out 1 (by decide)
  obtain ⟨u2, rc2, rf2⟩ := HRk.out 2 (by decide)
  obtain ⟨u3, rc3, rf3⟩ := HRk.out 3 (by decide)
  obtain ⟨u4, rc4, rf4⟩ := HRk.out 4 (by decide)
  go_wp2_with fail
  clear p0 p1 p2 p3 p4 hwb rc0 rc1 rc2 rc3 rc4 rf0 rf1 rf2 rf3 rf4 HRk
  refine (refIsOpen_any _ _ _ _ _ V w3 (HV0.out.below HX3.out) n ⟨by omega, by omega, by omega⟩).mono ?_
  rintro ex w4 ⟨rfl, hb4⟩
  rw [HO.out]
  have HX4 := hideG (HX3.out.trans (hb4.mono HX3.out.size))
  clear hb4
  have p0 := cell_below HX4.out P0.out
  have p1 := cell_below HX4.out P1.out
  have p2 := cell_below HX4.out P2.out
  have p3 := cell_below HX4.out P3.out
  have p4 := cell_below HX4.out P4.out
  have hwb : w.heap.size < w4.heap.size := below_of_cell p0
  have HRk := hideG (show ∀ j, j < 5 → ∃ u, w4.cell? ⟨w.heap.size + 1, j, none⟩ = some u ∧ w4.frozen? ⟨w.heap.size + 1, j, none⟩ = false from fun j hj => let ⟨u, h1, h2⟩ := HR.out j hj; ⟨u, cell_below HX4.out h1, frozen_below HX4.out h1 h2⟩)
  obtain ⟨u0, rc0, rf0⟩ := HRk.out 0 (by decide)
  obtain ⟨u1, rc1, rf1⟩ := HRk.out 1 (by decide)
  obtain ⟨u2, rc2, rf2⟩ := HRk.out 2 (by decide)
  obtain ⟨u3, rc3, rf3⟩ := HRk.out 3 (by decide)
  obtain ⟨u4, rc4, rf4⟩ := HRk.out 4 (by decide)
  go_wp2_with fail
  clear p0 p1 p2 p3 p4 hwb rc0 rc1 rc2 rc3 rc4 rf0 rf1 rf2 rf3 rf4 HRk
  refine (refCopyV_any _ _ _ _ _ V w4 (HV0.out.below HX4.out) HS.out ⟨HTL.out, by omega, by omega, by omega, by omega⟩).mono ?_
  rintro ex w5 ⟨f, tv', ov', mv', pv', qv', rfl, hov, hb5⟩
  obtain ⟨a5, k5, rfl⟩ := hov.at.tree.shape
  obtain ⟨a8, k8, rfl⟩ := hov.at.op.shape
  obtain ⟨a11, k11, rfl⟩ := hov.at.modal.shape
  obtain ⟨a14, k14, rfl⟩ := hov.at.pops.shape
  obtain ⟨a17, k17, rfl⟩ := hov.at.top.shape
  have hs45 := hb5.size
  have hs4 := HX4.out.size
  have HX5 := hideG (HX4.out.trans (hb5.mono HX4.out.size))
  obtain ⟨W6, hW6⟩ : ∃ W6, w5.alloc (.cells #[.slice a5 V.tree.length k5, .slice a8 V.op.length k8, .slice a11 V.modal.length k11, .slice a14 V.pops.length k14, .slice a17 V.top.length k17] 27) = W6 := ⟨_, rfl⟩
  have hb6 : Below w5.heap.size w5 W6 := by rw [← hW6]; exact (Below.refl _ w5).alloc (Nat.le_refl _) _
  have hnew := World.alloc_heap_new w5 (.cells #[.slice a5 V.tree.length k5, .slice a8 V.op.length k8, .slice a11 V.modal.length k11, .slice a14 V.pops.length k14, .slice a17 V.top.length k17] 27)
  rw [hW6] at hnew
  have hs6 : W6.heap.size = w5.heap.size + 1 := by rw [← hW6]; simp
  have HOB := hideG (show OwnB W6 w4.heap.size (fun j => j = w.heap.size + 1 ∨ j = w5.heap.size) f _ _ _ _ _ V from hov.offB hb6 (fun j hj => by
    have h0 := HS0.out
    rcases hj with rfl | rfl
    · exact ⟨by omega, .inl (by omega)⟩
    · exact ⟨by omega, .inr (Nat.le_refl _)⟩))
  have HX6 := hideG (HX5.out.trans (hb6.mono HX5.out.size))
  have D0 := hideG (show W6.cell? ⟨w5.heap.size, 0, none⟩ = some (.slice a5 V.tree.length k5) ∧ W6.frozen? ⟨w5.heap.size, 0, none⟩ = false from ⟨by simp [World.cell?, hnew], by simp [World.frozen?, hnew]⟩)
  have D1 := hideG (show W6.cell? ⟨w5.heap.size, 1, none⟩ = some (.slice a8 V.op.length k8) ∧ W6.frozen? ⟨w5.heap.size, 1, none⟩ = false from ⟨by simp [World.cell?, hnew], by simp [World.frozen?, hnew]⟩)
  have D2 := hideG (show W6.cell? ⟨w5.heap.size, 2, none⟩ = some (.slice a11 V.modal.length k11) ∧ W6.frozen? ⟨w5.heap.size, 2, none⟩ = false from ⟨by simp [World.cell?, hnew], by simp [World.frozen?, hnew]⟩)
  have D3 := hideG (show W6.cell? ⟨w5.heap.size, 3, none⟩ = some (.slice a14 V.pops.length k14) ∧ W6.frozen? ⟨w5.heap.size, 3, none⟩ = false from ⟨by simp [World.cell?, hnew], by simp [World.frozen?, hnew]⟩)
  have D4 := hideG (show W6.cell? ⟨w5.heap.size, 4, none⟩ = some (.slice a17 V.top.length k17) ∧ W6.frozen? ⟨w5.heap.size, 4, none⟩ = false from ⟨by simp [World.cell?, hnew], by simp [World.frozen?, hnew]⟩)
  have hwb5 : w.heap.size + 1 < w5.heap.size := by have := HS0.out; omega
  have HW6 := hideG hW6
  have HS6 := hideG hs6
  have HZ := hideG (show w.heap.size + 2 ≤ w4.heap.size by have := HS0.out; omega)
  clear hov hb5 hb6 hW6 hnew hs45 hs4 hs6
  have HRX := hideG (show ∀ j, j < 5 → ∃ u, W6.cell? ⟨w.heap.size + 1, j, none⟩ = some u ∧ W6.frozen? ⟨w.heap.size + 1, j, none⟩ = false from fun j hj => let ⟨u, h1, h2⟩ := HR.out j hj; ⟨u, cell_below HX6.out h1, frozen_below HX6.out h1 h2⟩)
  have HBX := hideG (HB0.out.trans (HX6.out.mono HB0.out.size))
  have hz4 : w.heap.size + 2 ≤ w4.heap.size := HZ.out
  have hz5 : w.heap.size ≤ w5.heap.size := by omega
  have HROW7 := hideG (show Holds (W6.alloc (.cells #[.int .i64 n] 3)) (.slice (some ⟨w5.heap.size + 1, 0, none⟩) 1 1) 1 [.int .i64 n] from by have := row_new1 W6 n; rw [HS6.out] at this; exact this)
  have hpl := HOB.out.own.parts.le 2 (by omega)
  have hbt7 : Below W6.heap.size W6 (W6.alloc (.cells #[.int .i64 n] 3)) := (Below.refl _ _).alloc (Nat.le_refl _) _
  go_wp2_with (at_builtin; rw [HW6.out]; refine wpList_append_any rfl (.tmp 36) (.tmp 38) 24 rfl (f 2).1 3 i3 _ 1 8 Tryz.underlying24 hi3 hz30 hz31 hz32 rfl (by decide) _ (V).modal.length (intCells (V).modal) rfl (HOB.out.own.modal.1.alloc _) _ 1 [.int .i64 n] rfl HROW7.out rfl ?h2 ?h3 ?h4 ?h5 ?_)
  case h2 => intro y hy; simp at hy; subst hy; rfl
  case h3 => simp only [maxLen]; omega
  case h4 => omega
  case h5 => simp; omega
  intro v7 w7 ho7 hg7 hf7
  obtain ⟨a7, c7, rfl⟩ := ownsRow_shape ho7
  rw [intCells_snoc] at ho7
  obtain ⟨g7, hob7⟩ := HOB.out.appModal (w1 := (W6.alloc (.cells #[.int .i64 n] 3))) hbt7 ho7 hg7 (fun k hk => (hf7 k hk).imp id (fun h => by have h0 := HS6.out; rw [World.size_alloc]; (try simp only [World.size_alloc] at h); omega))
  have e70 := HOB.out.badCell (i := 2) (by omega) HOB.out.own.modal hbt7 hg7 (.inr rfl) D0.out.1
  have ef70 := HOB.out.badFrozen (i := 2) (by omega) HOB.out.own.modal hbt7 hg7 (.inr rfl) D0.out.1 D0.out.2
  have e71 := HOB.out.badCell (i := 2) (by omega) HOB.out.own.modal hbt7 hg7 (.inr rfl) D1.out.1
  have ef71 := HOB.out.badFrozen (i := 2) (by omega) HOB.out.own.modal hbt7 hg7 (.inr rfl) D1.out.1 D1.out.2
  have e72 := HOB.out.badCell (i := 2) (by omega) HOB.out.own.modal hbt7 hg7 (.inr rfl) D2.out.1
  have ef72 := HOB.out.badFrozen (i := 2) (by omega) HOB.out.own.modal hbt7 hg7 (.inr rfl) D2.out.1 D2.out.2
  have e73 := HOB.out.badCell (i := 2) (by omega) HOB.out.own.modal hbt7 hg7 (.inr rfl) D3.out.1
  have ef73 := HOB.out.badFrozen (i := 2) (by omega) HOB.out.own.modal hbt7 hg7 (.inr rfl) D3.out.1 D3.out.2
  have e74 := HOB.out.badCell (i := 2) (by omega) HOB.out.own.modal hbt7 hg7 (.inr rfl) D4.out.1
  have ef74 := HOB.out.badFrozen (i := 2) (by omega) HOB.out.own.modal hbt7 hg7 (.inr rfl) D4.out.1 D4.out.2
  have HR7 := hideG (show ∀ j, j < 5 → ∃ u, w7.cell? ⟨w.heap.size + 1, j, none⟩ = some u ∧ w7.frozen? ⟨w.heap.size + 1, j, none⟩ = false from fun j hj => let ⟨u, h1, h2⟩ := HRX.out j hj; ⟨u, HOB.out.badCell (i := 2) (by omega) HOB.out.own.modal hbt7 hg7 (.inl rfl) h1, HOB.out.badFrozen (i := 2) (by omega) HOB.out.own.modal hbt7 hg7 (.inl rfl) h1 h2⟩)
  have HRY := hideG (show ∀ j, j < 5 → ∃ u, (w7.setCell ⟨w5.heap.size, 2, none⟩ (.slice a7 ((V).modal.length + 1) c7)).cell? ⟨w.heap.size + 1, j, none⟩ = some u ∧ (w7.setCell ⟨w5.heap.size, 2, none⟩ (.slice a7 ((V).modal.length + 1) c7)).frozen? ⟨w.heap.size + 1, j, none⟩ = false from fun j hj => let ⟨u, h1, h2⟩ := HR7.out j hj; ⟨u, set_otherB h1 (by omega), by rw [World.frozen?_setCell]; exact h2⟩)
  have hsX : W6.heap.size ≤ w7.heap.size := by have := hg7.size; simp at this; omega
  have HBY := hideG (show Below w.heap.size w (w7.setCell ⟨w5.heap.size, 2, none⟩ (.slice a7 ((V).modal.length + 1) c7)) from (((HBX.out.alloc HBX.out.size (.cells #[.int .i64 n] 3)).grown hg7 (by have := HBX.out.size; simp; omega) (fun j e => by have h0 := (HOB.out.own.modal.1.lt j e).1; have h9 := HZ.out; omega)).setCell (p := ⟨w5.heap.size, 2, none⟩) (by show w.heap.size ≤ w5.heap.size; omega) _))
  have HOBY := hideG (hob7.keep (W := (w7.setCell ⟨w5.heap.size, 2, none⟩ (.slice a7 ((V).modal.length + 1) c7))) (by simp) (fun j _ hbad => setc_block (fun e => hbad (.inr e))))
  have E0 := hideG (show (w7.setCell ⟨w5.heap.size, 2, none⟩ (.slice a7 ((V).modal.length + 1) c7)).cell? ⟨w5.heap.size, 0, none⟩ = some (.slice a5 V.tree.length k5) ∧ (w7.setCell ⟨w5.heap.size, 2, none⟩ (.slice a7 ((V).modal.length + 1) c7)).frozen? ⟨w5.heap.size, 0, none⟩ = false from ⟨set_other e70 (by decide), by rw [World.frozen?_setCell]; exact ef70⟩)
  have E1 := hideG (show (w7.setCell ⟨w5.heap.size, 2, none⟩ (.slice a7 ((V).modal.length + 1) c7)).cell? ⟨w5.heap.size, 1, none⟩ = some (.slice a8 V.op.length k8) ∧ (w7.setCell ⟨w5.heap.size, 2, none⟩ (.slice a7 ((V).modal.length + 1) c7)).frozen? ⟨w5.heap.size, 1, none⟩ = false from ⟨set_other e71 (by decide), by rw [World.frozen?_setCell]; exact ef71⟩)
  have E2 := hideG (show (w7.setCell ⟨w5.heap.size, 2, none⟩ (.slice a7 ((V).modal.length + 1) c7)).cell? ⟨w5.heap.size, 2, none⟩ = some (.slice a7 ((V).modal.length + 1) c7) ∧ (w7.setCell ⟨w5.heap.size, 2, none⟩ (.slice a7 ((V).modal.length + 1) c7)).frozen? ⟨w5.heap.size, 2, none⟩ = false from ⟨set_same e72, by rw [World.frozen?_setCell]; exact ef72⟩)
  have E3 := hideG (show (w7.setCell ⟨w5.heap.size, 2, none⟩ (.slice a7 ((V).modal.length + 1) c7)).cell? ⟨w5.heap.size, 3, none⟩ = some (.slice a14 V.pops.length k14) ∧ (w7.setCell ⟨w5.heap.size, 2, none⟩ (.slice a7 ((V).modal.length + 1) c7)).frozen? ⟨w5.heap.size, 3, none⟩ = false from ⟨set_other e73 (by decide), by rw [World.frozen?_setCell]; exact ef73⟩)
  have E4 := hideG (show (w7.setCell ⟨w5.heap.size, 2, none⟩ (.slice a7 ((V).modal.length + 1) c7)).cell? ⟨w5.heap.size, 4, none⟩ = some (.slice a17 V.top.length k17) ∧ (w7.setCell ⟨w5.heap.size, 2, none⟩ (.slice a7 ((V).modal.length + 1) c7)).frozen? ⟨w5.heap.size, 4, none⟩ = false from ⟨set_other e74 (by decide), by rw [World.frozen?_setCell]; exact ef74⟩)
  clear hbt7 ho7 hg7 hf7 hob7 hpl hsX
  obtain ⟨W8, hW8⟩ : ∃ W8, (w7.setCell ⟨w5.heap.size, 2, none⟩ (.slice a7 ((V).modal.length + 1) c7)) = W8 := ⟨_, rfl⟩
  have HW8 := hideG hW8
  have HS8 := hideG (show W8.heap.size = w7.heap.size by rw [← hW8]; simp)
  rw [hW8] at HRY HBY HOBY E0 E1 E2 E3 E4
  have HOB8 := HOBY
  have HRX := HRY
  have HBX := HBY
  have D0 := E0
  have D1 := E1
  have D2 := E2
  have D3 := E3
  have D4 := E4
  clear HOBY HRY HBY E0 E1 E2 E3 E4 hW8
  have HROW9 := hideG (show Holds (W8.alloc (.cells #[.int .i64 n] 3)) (.slice (some ⟨w7.heap.size, 0, none⟩) 1 1) 1 [.int .i64 n] from by have := row_new1 W8 n; rw [HS8.out] at this; exact this)
  have hpl := HOB8.out.own.parts.le 4 (by omega)
  have hbt9 : Below W8.heap.size W8 (W8.alloc (.cells #[.int .i64 n] 3)) := (Below.refl _ _).alloc (Nat.le_refl _) _
  go_wp2_with (at_builtin; rw [HW8.out]; refine wpList_append_any rfl (.tmp 42) (.tmp 44) 24 rfl (g7 4).1 3 i3 _ 1 8 Tryz.underlying24 hi3 hz30 hz31 hz32 rfl (by decide) _ ({ V with modal := V.modal ++ [n] } : Vw).top.length (intCells ({ V with modal := V.modal ++ [n] } : Vw).top) rfl (HOB8.out.own.top.1.alloc _) _ 1 [.int .i64 n] rfl HROW9.out rfl ?h2 ?h3 ?h4 ?h5 ?_)
  case h2 => intro y hy; simp at hy; subst hy; rfl
  case h3 => simp only [maxLen]; omega
  case h4 => omega
  case h5 => simp; omega
  intro v9 w9 ho9 hg9 hf9
  obtain ⟨a9, c9, rfl⟩ := ownsRow_shape ho9
  rw [intCells_snoc] at ho9
  obtain ⟨g9, hob9⟩ := HOB8.out.appTop (w1 := (W8.alloc (.cells #[.int .i64 n] 3))) hbt9 ho9 hg9 (fun k hk => (hf9 k hk).imp id (fun h => by have h0 := HS8.out; rw [World.size_alloc]; (try simp only [World.size_alloc] at h); omega))
  have e90 := HOB8.out.badCell (i := 4) (by omega) HOB8.out.own.top hbt9 hg9 (.inr rfl) D0.out.1
  have ef90 := HOB8.out.badFrozen (i := 4) (by omega) HOB8.out.own.top hbt9 hg9 (.inr rfl) D0.out.1 D0.out.2
  have e91 := HOB8.out.badCell (i := 4) (by omega) HOB8.out.own.top hbt9 hg9 (.inr rfl) D1.out.1
  have ef91 := HOB8.out.badFrozen (i := 4) (by omega) HOB8.out.own.top hbt9 hg9 (.inr rfl) D1.out.1 D1.out.2
  have e92 := HOB8.out.badCell (i := 4) (by omega) HOB8.out.own.top hbt9 hg9 (.inr rfl) D2.out.1
  have ef92 := HOB8.out.badFrozen (i := 4) (by omega) HOB8.out.own.top hbt9 hg9 (.inr rfl) D2.out.1 D2.out.2
  have e93 := HOB8.out.badCell (i := 4) (by omega) HOB8.out.own.top hbt9 hg9 (.inr rfl) D3.out.1
  have ef93 := HOB8.out.badFrozen (i := 4) (by omega) HOB8.out.own.top hbt9 hg9 (.inr rfl) D3.out.1 D3.out.2
  have e94 := HOB8.out.badCell (i := 4) (by omega) HOB8.out.own.top hbt9 hg9 (.inr rfl) D4.out.1
  have ef94 := HOB8.out.badFrozen (i := 4) (by omega) HOB8.out.own.top hbt9 hg9 (.inr rfl) D4.out.1 D4.out.2
  have HR9 := hideG (show ∀ j, j < 5 → ∃ u, w9.cell? ⟨w.heap.size + 1, j, none⟩ = some u ∧ w9.frozen? ⟨w.heap.size + 1, j, none⟩ = false from fun j hj => let ⟨u, h1, h2⟩ := HRX.out j hj; ⟨u, HOB8.out.badCell (i := 4) (by omega) HOB8.out.own.top hbt9 hg9 (.inl rfl) h1, HOB8.out.badFrozen (i := 4) (by omega) HOB8.out.own.top hbt9 hg9 (.inl rfl) h1 h2⟩)
  have HRY := hideG (show ∀ j, j < 5 → ∃ u, (w9.setCell ⟨w5.heap.size, 4, none⟩ (.slice a9 (({ V with modal := V.modal ++ [n] } : Vw).top.length + 1) c9)).cell? ⟨w.heap.size + 1, j, none⟩ = some u ∧ (w9.setCell ⟨w5.heap.size, 4, none⟩ (.slice a9 (({ V with modal := V.modal ++ [n] } : Vw).top.length + 1) c9)).frozen? ⟨w.heap.size + 1, j, none⟩ = false from fun j hj => let ⟨u, h1, h2⟩ := HR9.out j hj; ⟨u, set_otherB h1 (by omega), by rw [World.frozen?_setCell]; exact h2⟩)
  have hsX : W8.heap.size ≤ w9.heap.size := by have := hg9.size; simp at this; omega
  have HBY := hideG (show Below w.heap.size w (w9.setCell ⟨w5.heap.size, 4, none⟩ (.slice a9 (({ V with modal := V.modal ++ [n] } : Vw).top.length + 1) c9)) from (((HBX.out.alloc HBX.out.size (.cells #[.int .i64 n] 3)).grown hg9 (by have := HBX.out.size; simp; omega) (fun j e => by have h0 := (HOB8.out.own.top.1.lt j e).1; have h9 := HZ.out; omega)).setCell (p := ⟨w5.heap.size, 4, none⟩) (by show w.heap.size ≤ w5.heap.size; omega) _))
  have HOBY := hideG (hob9.keep (W := (w9.setCell ⟨w5.heap.size, 4, none⟩ (.slice a9 (({ V with modal := V.modal ++ [n] } : Vw).top.length + 1) c9))) (by simp) (fun j _ hbad => setc_block (fun e => hbad (.inr e))))
  have E0 := hideG (show (w9.setCell ⟨w5.heap.size, 4, none⟩ (.slice a9 (({ V with modal := V.modal ++ [n] } : Vw).top.length + 1) c9)).cell? ⟨w5.heap.size, 0, none⟩ = some (.slice a5 V.tree.length k5) ∧ (w9.setCell ⟨w5.heap.size, 4, none⟩ (.slice a9 (({ V with modal := V.modal ++ [n] } : Vw).top.length + 1) c9)).frozen? ⟨w5.heap.size, 0, none⟩ = false from ⟨set_other e90 (by decide), by rw [World.frozen?_setCell]; exact ef90⟩)
  have E1 := hideG (show (w9.setCell ⟨w5.heap.size, 4, none⟩ (.slice a9 (({ V with modal := V.modal ++ [n] } : Vw).top.length + 1) c9)).cell? ⟨w5.heap.size, 1, none⟩ = some (.slice a8 V.op.length k8) ∧ (w9.setCell ⟨w5.heap.size, 4, none⟩ (.slice a9 (({ V with modal := V.modal ++ [n] } : Vw).top.length + 1) c9)).frozen? ⟨w5.heap.size, 1, none⟩ = false from ⟨set_other e91 (by decide), by rw [World.frozen?_setCell]; exact ef91⟩)
  have E2 := hideG (show (w9.setCell ⟨w5.heap.size, 4, none⟩ (.slice a9 (({ V with modal := V.modal ++ [n] } : Vw).top.length + 1) c9)).cell? ⟨w5.heap.size, 2, none⟩ = some (.slice a7 ((V).modal.length + 1) c7) ∧ (w9.setCell ⟨w5.heap.size, 4, none⟩ (.slice a9 (({ V with modal := V.modal ++ [n] } : Vw).top.length + 1) c9)).frozen? ⟨w5.heap.size, 2, none⟩ = false from ⟨set_other e92 (by decide), by rw [World.frozen?_setCell]; exact ef92⟩)
  have E3 := hideG (show (w9.setCell ⟨w5.heap.size, 4, none⟩ (.slice a9 (({ V with modal := V.modal ++ [n] } : Vw).top.length + 1) c9)).cell? ⟨w5.heap.size, 3, none⟩ = some (.slice a14 V.pops.length k14) ∧ (w9.setCell ⟨w5.heap.size, 4, none⟩ (.slice a9 (({ V with modal := V.modal ++ [n] } : Vw).top.length + 1) c9)).frozen? ⟨w5.heap.size, 3, none⟩ = false from ⟨set_other e93 (by decide), by rw [World.frozen?_setCell]; exact ef93⟩)
  have E4 := hideG (show (w9.setCell ⟨w5.heap.size, 4, none⟩ (.slice a9 (({ V with modal := V.modal ++ [n] } : Vw).top.length + 1) c9)).cell? ⟨w5.heap.size, 4, none⟩ = some (.slice a9 (({ V with modal := V.modal ++ [n] } : Vw).top.length + 1) c9) ∧ (w9.setCell ⟨w5.heap.size, 4, none⟩ (.slice a9 (({ V with modal := V.modal ++ [n] } : Vw).top.length + 1) c9)).frozen? ⟨w5.heap.size, 4, none⟩ = false from ⟨set_same e94, by rw [World.frozen?_setCell]; exact ef94⟩)
  obtain ⟨u0, rc0, rf0⟩ := HR9.out 0 (by decide)
  obtain ⟨u1, rc1, rf1⟩ := HR9.out 1 (by decide)
  obtain ⟨u2, rc2, rf2⟩ := HR9.out 2 (by decide)
  obtain ⟨u3, rc3, rf3⟩ := HR9.out 3 (by decide)
  obtain ⟨u4, rc4, rf4⟩ := HR9.out 4 (by decide)
  clear hbt9 ho9 hg9 hf9 hob9 hpl hsX
  go_wp2_with fail
  have hat := set5_at (U := (w9.setCell ⟨w5.heap.size, 4, none⟩ (.slice a9 (({ V with modal := V.modal ++ [n] } : Vw).top.length + 1) c9))) (R := w.heap.size + 1) (v0 := .slice a5 V.tree.length k5) (v1 := .slice a8 V.op.length k8) (v2 := .slice a7 ((V).modal.length + 1) c7) (v3 := .slice a14 V.pops.length k14) (v4 := .slice a9 (({ V with modal := V.modal ++ [n] } : Vw).top.length + 1) c9) HRY.out
  unfold set5 at hat
  obtain ⟨t0, t1, t2, t3, t4⟩ := hat
  refine bodyPost_ret (v := .tuple #[.agg #[.slice a5 V.tree.length k5, .slice a8 V.op.length k8, .slice a7 ((V).modal.length + 1) c7, .slice a14 V.pops.length k14, .slice a9 (({ V with modal := V.modal ++ [n] } : Vw).top.length + 1) c9], .int .i64 (0)]) (by simp [results, Tryz.f30, go_sem, t0, t1, t2, t3, t4]) rfl ?_
  refine ⟨_, _, _, _, _, rfl, ?_, set5_below HBY.out (by omega)⟩
  exact (HOBY.out.keep (W := set5 (w9.setCell ⟨w5.heap.size, 4, none⟩ (.slice a9 (({ V with modal := V.modal ++ [n] } : Vw).top.length + 1) c9)) (w.heap.size + 1) (.slice a5 V.tree.length k5) (.slice a8 V.op.length k8) (.slice a7 ((V).modal.length + 1) c7) (.slice a14 V.pops.length k14) (.slice a9 (({ V with modal := V.modal ++ [n] } : Vw).top.length + 1) c9)) (by rw [set5_size]; exact Nat.le_refl _) (fun j _ hbad => set5_block (fun e => hbad (.inl e)))).at
theorem rdlg_any (tv ov mv pv qv : Value) (V : Vw) (w : World) (hV : ViewAt w tv ov mv pv qv V) (hS : Sane V.tree) (hl : smallL V) (htl : V.tree.length ≤ 1000) (n : Int) (m : Bool) :
    Calls Tryz.prog 30 #[.agg #[tv, ov, mv, pv, qv], .int .i64 n, .bool m] w fun x w' => ∃ t o m' p q, x = .returned (.tuple #[.agg #[t, o, m', p, q], .int .i64 (dlgE V n)]) ∧ ViewAt w' t o m' p q (dlgW V n m) ∧ Below w.heap.size w w' := by
  by_cases hck : checkV V = 0
  · cases hn : isNodeB V.tree.length n
    · have e : dlgE V n = 2 := by simp [dlgE, hck, hn]
      have v : dlgW V n m = V := by simp [dlgW, hck, e]
      rw [e, v]; exact rdlgNode tv ov mv pv qv V w hV hS hl n m hck hn
    · cases hd : dlgB V.tree n
      · have e : dlgE V n = 3 := by simp [dlgE, hck, hn, hd]
        have v : dlgW V n m = V := by simp [dlgW, hck, e]
        rw [e, v]; exact rdlgKind tv ov mv pv qv V w hV hS hl n m hck hn hd
      · cases ho : containsB (openedL V) n
        · have e : dlgE V n = 0 := by simp [dlgE, hck, hn, hd, ho]
          cases m
          · have v : dlgW V n false = { V with op := V.op ++ [n] } := by simp [dlgW, hck, e]
            rw [e, v]; exact rdlgOpen tv ov mv pv qv V w hV hS hl n false rfl htl hck hn hd ho
          · have v : dlgW V n true = { V with modal := V.modal ++ [n], top := V.top ++ [n] } := by simp [dlgW, hck, e]
            rw [e, v]; exact rdlgModal tv ov mv pv qv V w hV hS hl n true rfl htl hck hn hd ho
        · have e : dlgE V n = 9 := by simp [dlgE, hck, hn, hd, ho]
          have v : dlgW V n m = V := by simp [dlgW, hck, e]
          rw [e, v]; exact rdlgState tv ov mv pv qv V w hV hS hl n m hck hn hd ho
  · have e : dlgE V n = checkV V := by simp [dlgE, hck]
    have v : dlgW V n m = emptyV := by simp [dlgW, hck]
    rw [e, v]; exact rdlgBad tv ov mv pv qv V w hV hS hl n m hck
end Go.Proofs.YtclhimodopgeoaaGreat

