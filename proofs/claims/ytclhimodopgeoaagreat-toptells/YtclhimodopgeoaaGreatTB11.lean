/- Part 11 of what the laws of layer 10 lean on. -/
import Derived.Test.YtclhimodopgeoaaGreatTB7
import Derived.Test.YtclhimodopgeoaaGreatTB8
import Derived.Test.YtclhimodopgeoaaGreatTB9
import Derived.Test.YtclhimodopgeoaaGreatTB10
namespace Go.Proofs.YtclhimodopgeoaaGreat
open Go.RowKit

set_option maxRecDepth 100000 in
set_option maxHeartbeats 4000000 in
theorem closeOk (tv ov mv pv qv : Value) (V : Vw) (w : World) (hV : ViewAt w tv ov mv pv qv V) (hS : Sane V.tree) (hl : smallL V) (n : Int) (htl : V.tree.length ≤ 1000) (hck : checkV V = 0) (hn : isNodeB V.tree.length n = true) (ho : containsB (openedL V) n = true) :
    Calls Tryz.prog 33 #[.agg #[tv, ov, mv, pv, qv], .int .i64 n] w fun x w' => ∃ t o m p q, x = .returned (.tuple #[.agg #[t, o, m, p, q], .int .i64 (0)]) ∧ ViewAt w' t o m p q (closeL V n) ∧ Below w.heap.size w w' := by
  have HTLx := htl
  obtain ⟨hT, hO, hM, hP, hQ⟩ := hV
  obtain ⟨ta, tc, rfl⟩ := hT.shape
  obtain ⟨oa, oc, rfl⟩ := hO.shape
  obtain ⟨ma, mc, rfl⟩ := hM.shape
  obtain ⟨pa, pc, rfl⟩ := hP.shape
  obtain ⟨qa, qc, rfl⟩ := hQ.shape
  obtain ⟨W0, hW0⟩ : ∃ W0, ((w.alloc (.cells #[.slice ta V.tree.length tc, .slice oa V.op.length oc, .slice ma V.modal.length mc, .slice pa V.pops.length pc, .slice qa V.top.length qc] 27)).alloc (.cells #[.int .i64 n] 3)).alloc (.cells #[.slice none 0 0, .slice none 0 0, .slice none 0 0, .slice none 0 0, .slice none 0 0] 27) = W0 := ⟨_, rfl⟩
  have hbw : Below w.heap.size w W0 := by rw [← hW0]; exact (((Below.refl _ w).alloc (Nat.le_refl _) _).alloc (by simp) _).alloc (by simp; omega) _
  have HB0 := hideG hbw
  have P0 := hideG (show W0.cell? ⟨w.heap.size, 0, none⟩ = some (.slice ta V.tree.length tc) by rw [← hW0]; exact cell_alloc_l _ (cell_alloc_l _ (by simp)))
  have P1 := hideG (show W0.cell? ⟨w.heap.size, 1, none⟩ = some (.slice oa V.op.length oc) by rw [← hW0]; exact cell_alloc_l _ (cell_alloc_l _ (by simp)))
  have P2 := hideG (show W0.cell? ⟨w.heap.size, 2, none⟩ = some (.slice ma V.modal.length mc) by rw [← hW0]; exact cell_alloc_l _ (cell_alloc_l _ (by simp)))
  have P3 := hideG (show W0.cell? ⟨w.heap.size, 3, none⟩ = some (.slice pa V.pops.length pc) by rw [← hW0]; exact cell_alloc_l _ (cell_alloc_l _ (by simp)))
  have P4 := hideG (show W0.cell? ⟨w.heap.size, 4, none⟩ = some (.slice qa V.top.length qc) by rw [← hW0]; exact cell_alloc_l _ (cell_alloc_l _ (by simp)))
  obtain ⟨Wx, hWx⟩ : ∃ Wx, (w.alloc (.cells #[.slice ta V.tree.length tc, .slice oa V.op.length oc, .slice ma V.modal.length mc, .slice pa V.pops.length pc, .slice qa V.top.length qc] 27)).alloc (.cells #[.int .i64 n] 3) = Wx := ⟨_, rfl⟩
  have hx1 := World.alloc_heap_new (w.alloc (.cells #[.slice ta V.tree.length tc, .slice oa V.op.length oc, .slice ma V.modal.length mc, .slice pa V.pops.length pc, .slice qa V.top.length qc] 27)) (.cells #[.int .i64 n] 3)
  rw [World.size_alloc, hWx] at hx1
  have S0 := hideG (show W0.cell? ⟨w.heap.size + 1, 0, none⟩ = some (.int .i64 n) by rw [← hW0, hWx]; exact cell_alloc_l _ (by simp [World.cell?, hx1]))
  clear hx1 hWx
  have HR := hideG (show ∀ j, j < 5 → ∃ u, W0.cell? ⟨w.heap.size + 2, j, none⟩ = some u ∧ W0.frozen? ⟨w.heap.size + 2, j, none⟩ = false from by
    have h1 := World.alloc_heap_new ((w.alloc (.cells #[.slice ta V.tree.length tc, .slice oa V.op.length oc, .slice ma V.modal.length mc, .slice pa V.pops.length pc, .slice qa V.top.length qc] 27)).alloc (.cells #[.int .i64 n] 3)) (.cells #[.slice none 0 0, .slice none 0 0, .slice none 0 0, .slice none 0 0, .slice none 0 0] 27)
    rw [World.size_alloc, World.size_alloc, hW0] at h1
    intro j hj
    obtain rfl | rfl | rfl | rfl | rfl : j = 0 ∨ j = 1 ∨ j = 2 ∨ j = 3 ∨ j = 4 := by omega
    all_goals exact ⟨.slice none 0 0, by simp [World.cell?, h1], by simp [World.frozen?, h1]⟩)
  have hs0 : W0.heap.size = w.heap.size + 3 := by rw [← hW0]; simp
  have HS0 := hideG hs0
  have HV := hideG (show ViewAt w _ _ _ _ _ V from ⟨hT, hO, hM, hP, hQ⟩)
  have HV0 := hideG (HV.out.below hbw)
  have HW0 := hideG hW0
  have HS := hideG hS
  have HL := hideG hl
  have HC := hideG (checkV_any _ _ _ _ _ V W0 HV0.out HS.out HL.out)
  have h1l : V.op.length ≤ 500 := hl.1
  have h2l : V.modal.length ≤ 500 := hl.2.1
  have h3l : V.pops.length ≤ 500 := hl.2.2.1
  have h4l : V.top.length ≤ 1000 := hl.2.2.2
  have p0 := P0.out
  have p1 := P1.out
  have p2 := P2.out
  have p3 := P3.out
  have p4 := P4.out
  rw [hck] at HC
  clear hW0 hT hO hM hP hQ hS hl hbw hs0 hck
  have HN := hideG hn
  have HO := hideG ho
  clear hn ho
  go_enter Tryz.func33, Tryz.ntmps33
  go_wp2_with fail
  rw [HW0.out]
  refine HC.out.mono ?_
  rintro ex w1 ⟨rfl, hb1⟩
  have HX1 := hideG hb1
  clear hb1 p0 p1 p2 p3 p4
  have p0 := cell_below HX1.out P0.out
  have p1 := cell_below HX1.out P1.out
  have p2 := cell_below HX1.out P2.out
  have p3 := cell_below HX1.out P3.out
  have p4 := cell_below HX1.out P4.out
  have hwb : w.heap.size < w1.heap.size := below_of_cell p0
  have HRk := hideG (show ∀ j, j < 5 → ∃ u, w1.cell? ⟨w.heap.size + 2, j, none⟩ = some u ∧ w1.frozen? ⟨w.heap.size + 2, j, none⟩ = false from fun j hj => let ⟨u, h1, h2⟩ := HR.out j hj; ⟨u, cell_below HX1.out h1, frozen_below HX1.out h1 h2⟩)
  obtain ⟨u0, rc0, rf0⟩ := HRk.out 0 (by decide)
  obtain ⟨u1, rc1, rf1⟩ := HRk.out 1 (by decide)
  obtain ⟨u2, rc2, rf2⟩ := HRk.out 2 (by decide)
  obtain ⟨u3, rc3, rf3⟩ := HRk.out 3 (by decide)
  obtain ⟨u4, rc4, rf4⟩ := HRk.out 4 (by decide)
  have x0 := cell_below HX1.out S0.out
  have hS0 := NumS.start p0 p1 p2 p3 p4 x0
  have HV1 := hideG (HV0.out.below HX1.out)
  have HOL := hideG (opened_len V)
  go_wp2_with (go_at_call 83; refine (isNode10_any _ _ _ _ _).mono ?_; rintro e wz ⟨rfl, hwz⟩; obtain rfl : _ = wz := hwz.symm; rw [HN.out])
  clear x0 p0 p1 p2 p3 p4 hwb rc0 rc1 rc2 rc3 rc4 rf0 rf1 rf2 rf3 rf4 HRk
  refine wp_region_inv (fun l a U => ∃ (f : Nat → Nat × Nat) (s23 s24 s25 s26 s27 s22 : Value), a = { tmps := #[.agg #[.slice ta V.tree.length tc, .slice oa V.op.length oc, .slice ma V.modal.length mc, .slice pa V.pops.length pc, .slice qa V.top.length qc], .int .i64 n, .pointer (some ⟨w.heap.size, 0, none⟩), .pointer (some ⟨w.heap.size + 1, 0, none⟩), .pointer (some ⟨w.heap.size + 2, 0, none⟩), .int .i64 0, .int .i64 0, undef, undef, .agg #[.slice ta V.tree.length tc, .slice oa V.op.length oc, .slice ma V.modal.length mc, .slice pa V.pops.length pc, .slice qa V.top.length qc], .int .i64 0, .int .i64 0, .bool false, undef, undef, .bool (!true), .pointer (some ⟨w.heap.size, 0, none⟩), .slice ta V.tree.length tc, .int .i64 n, .bool true, .bool (!true), undef, s22, s23, s24, s25, s26, s27, undef, undef, undef, undef, undef, undef, undef, undef, undef, undef, undef, undef, undef, undef, undef, undef, undef, undef, undef, undef, undef, undef, undef, undef, undef, undef, undef, undef, undef, undef, undef, undef, undef, undef, undef, undef, undef, undef, undef], defers := [] } ∧ NumS w1 (w.heap.size) (w.heap.size + 1) (.slice ta V.tree.length tc) (.slice oa V.op.length oc) (.slice ma V.modal.length mc) (.slice pa V.pops.length pc) (.slice qa V.top.length qc) n U ∧ IvL l f 6 w1.heap.size U.heap.size ∧ (l.getD 0 true = true → s23 = .agg #[.slice ta V.tree.length tc, .slice oa V.op.length oc, .slice ma V.modal.length mc, .slice pa V.pops.length pc, .slice qa V.top.length qc]) ∧ (l.getD 1 true = true → RowIn U (f 1) 3 1 s24 (openedL V).length (intCells (openedL V))) ∧ (l.getD 2 true = true → s25 = .int .i64 n) ∧ (l.getD 3 true = true → s26 = .bool true) ∧ (l.getD 4 true = true → s27 = .bool (!true)) ∧ (l.getD 5 true = true → s22 = .bool (!true))) (by kernel_rfl) (by kernel_rfl) ?_ ?_ ?_
  · exact ⟨fun _ => (0, 0), _, _, _, _, _, _, rfl, hS0, IvL.start 6 _ _ _, fun h => by simp at h, fun h => by simp at h, fun h => by simp at h, fun h => by simp at h, fun h => by simp at h, fun h => by simp at h⟩
  · rintro i l a U hi ⟨f, s23, s24, s25, s26, s27, s22, rfl, hS, hIv, h0, h1, h2, h3, h4, h5⟩
    obtain ⟨hun, o, ho, _⟩ := mem_ready.mp hi
    have hlt := (Array.getElem?_eq_some_iff.mp ho).1
    clear ho
    simp only [List.size_toArray, List.length_cons, List.length_nil, Nat.reduceAdd] at hlt
    obtain rfl | rfl | rfl | rfl | rfl | rfl : i = 0 ∨ i = 1 ∨ i = 2 ∨ i = 3 ∨ i = 4 ∨ i = 5 := by omega
    · have pc0 := hS.c0
      have pc1 := hS.c1
      have pc2 := hS.c2
      have pc3 := hS.c3
      have pc4 := hS.c4
      refine inv_step (by rfl) (fun K hK => ?_)
      go_simp
      exact hK.out _ _ ⟨upPart f 0 (U.heap.size, _), _, _, _, _, _, _, rfl, hS, hIv.step (i := 0) hun (by decide) (Nat.le_refl _), fun _ => rfl, fun h => h1 (set_getD (i := 0) (by decide) h), fun h => h2 (set_getD (i := 0) (by decide) h), fun h => h3 (set_getD (i := 0) (by decide) h), fun h => h4 (set_getD (i := 0) (by decide) h), fun h => h5 (set_getD (i := 0) (by decide) h)⟩
    · have e0 := h0 (dep_of hi (d := 0) (by kernel_rfl))
      subst e0
      refine inv_step (by rfl) (fun K hK => ?_)
      go_simp
      (go_at_call 84; refine Calls.mono (opened_any _ _ _ _ _ V U (HV1.out.below hS.bel) ⟨by omega, by omega, by omega⟩) ?_; rintro e w1' ⟨va, vc, rfl, hgot, hb⟩)
      go_wp2_with fail
      have hk : ∀ m, w1.heap.size ≤ m → m < U.heap.size → w1'.heap[m]? = U.heap[m]? := fun m _ h2 => hb.block m h2
      exact hK.out _ _ ⟨upPart f 1 (U.heap.size, _), _, _, _, _, _, _, rfl, hS.below hb, hIv.step (i := 1) hun (by decide) hb.size, fun _ => rfl, fun _ => rowIn_of hgot, fun h => h2 (set_getD (i := 1) (by decide) h), fun h => h3 (set_getD (i := 1) (by decide) h), fun h => h4 (set_getD (i := 1) (by decide) h), fun h => h5 (set_getD (i := 1) (by decide) h)⟩
    · have xc0 := hS.x0
      refine inv_step (by rfl) (fun K hK => ?_)
      go_simp
      exact hK.out _ _ ⟨upPart f 2 (U.heap.size, _), _, _, _, _, _, _, rfl, hS, hIv.step (i := 2) hun (by decide) (Nat.le_refl _), fun h => h0 (set_getD (i := 2) (by decide) h), fun h => h1 (set_getD (i := 2) (by decide) h), fun _ => rfl, fun h => h3 (set_getD (i := 2) (by decide) h), fun h => h4 (set_getD (i := 2) (by decide) h), fun h => h5 (set_getD (i := 2) (by decide) h)⟩
    · have e2 := h2 (dep_of hi (d := 2) (by kernel_rfl))
      subst e2
      have q1 := dep_of hi (d := 1) (by kernel_rfl)
      have r1 := h1 q1
      refine inv_step (by rfl) (fun K hK => ?_)
      go_simp
      (go_at_call 73; refine Calls.mono (contains_any (openedL V) _ n U (rowInts r1) (by have := HOL.out; omega)) ?_; rintro e w1' ⟨rfl, hwz⟩)
      obtain rfl : _ = w1' := hwz.symm
      have hb := Below.refl U.heap.size U
      rw [HO.out]
      go_wp2_with fail
      have hk : ∀ m, w1.heap.size ≤ m → m < U.heap.size → U.heap[m]? = U.heap[m]? := fun m _ h2 => hb.block m h2
      exact hK.out _ _ ⟨upPart f 3 (U.heap.size, _), _, _, _, _, _, _, rfl, hS.below hb, hIv.step (i := 3) hun (by decide) hb.size, fun h => h0 (set_getD (i := 3) (by decide) h), fun h => (h1 (set_getD (i := 3) (by decide) h)).keep (hIv.old (set_getD (i := 3) (by decide) h) (by decide) hk), fun _ => rfl, fun _ => rfl, fun h => h4 (set_getD (i := 3) (by decide) h), fun h => h5 (set_getD (i := 3) (by decide) h)⟩
    · have e3 := h3 (dep_of hi (d := 3) (by kernel_rfl))
      subst e3
      refine inv_step (by rfl) (fun K hK => ?_)
      go_simp
      exact hK.out _ _ ⟨upPart f 4 (U.heap.size, _), _, _, _, _, _, _, rfl, hS, hIv.step (i := 4) hun (by decide) (Nat.le_refl _), fun h => h0 (set_getD (i := 4) (by decide) h), fun h => h1 (set_getD (i := 4) (by decide) h), fun h => h2 (set_getD (i := 4) (by decide) h), fun _ => rfl, fun _ => rfl, fun h => h5 (set_getD (i := 4) (by decide) h)⟩
    · have e4 := h4 (dep_of hi (d := 4) (by kernel_rfl))
      subst e4
      refine inv_step (by rfl) (fun K hK => ?_)
      go_simp
      exact hK.out _ _ ⟨upPart f 5 (U.heap.size, _), _, _, _, _, _, _, rfl, hS, hIv.step (i := 5) hun (by decide) (Nat.le_refl _), fun h => h0 (set_getD (i := 5) (by decide) h), fun h => h1 (set_getD (i := 5) (by decide) h), fun h => h2 (set_getD (i := 5) (by decide) h), fun h => h3 (set_getD (i := 5) (by decide) h), fun _ => rfl, fun _ => rfl⟩
  · rintro l a w2 hall ⟨f, s23, s24, s25, s26, s27, s22, rfl, hS, hIv, h0, h1, h2, h3, h4, h5⟩
    have e0 := h0 (hall 0 (by decide))
    have e1 := h1 (hall 1 (by decide))
    have e2 := h2 (hall 2 (by decide))
    have e3 := h3 (hall 3 (by decide))
    have e4 := h4 (hall 4 (by decide))
    have e5 := h5 (hall 5 (by decide))
    have HIV := hideG (hIv.all hall)
    clear hIv hall h0 h1 h2 h3 h4 h5
    subst e0
    subst e2
    subst e3
    subst e4
    subst e5
    obtain ⟨oa', oc', rfl, _⟩ := e1.cap
    have HX2 := hideG (HX1.out.trans (hS.bel.mono HX1.out.size))
    clear hS
    have p0 := cell_below HX2.out P0.out
    have p1 := cell_below HX2.out P1.out
    have p2 := cell_below HX2.out P2.out
    have p3 := cell_below HX2.out P3.out
    have p4 := cell_below HX2.out P4.out
    have hwb : w.heap.size < w2.heap.size := below_of_cell p0
    have HRk := hideG (show ∀ j, j < 5 → ∃ u, w2.cell? ⟨w.heap.size + 2, j, none⟩ = some u ∧ w2.frozen? ⟨w.heap.size + 2, j, none⟩ = false from fun j hj => let ⟨u, h1, h2⟩ := HR.out j hj; ⟨u, cell_below HX2.out h1, frozen_below HX2.out h1 h2⟩)
    obtain ⟨u0, rc0, rf0⟩ := HRk.out 0 (by decide)
    obtain ⟨u1, rc1, rf1⟩ := HRk.out 1 (by decide)
    obtain ⟨u2, rc2, rf2⟩ := HRk.out 2 (by decide)
    obtain ⟨u3, rc3, rf3⟩ := HRk.out 3 (by decide)
    obtain ⟨u4, rc4, rf4⟩ := HRk.out 4 (by decide)
    have x0 := cell_below HX2.out S0.out
    obtain ⟨W4, hW4⟩ : ∃ W4, w2.alloc (.cells #[.func (.func 86) #[] #[.pointer (some ⟨w.heap.size + 1, 0, none⟩)]] 69) = W4 := ⟨_, rfl⟩
    have hb4 : Below w2.heap.size w2 W4 := by rw [← hW4]; exact (Below.refl _ w2).alloc (Nat.le_refl _) _
    have hs4 : W4.heap.size = w2.heap.size + 1 := by rw [← hW4]; simp
    have F7 := hideG (show W4.cell? ⟨w2.heap.size, 0, none⟩ = some (.func (.func 86) #[] #[.pointer (some ⟨w.heap.size + 1, 0, none⟩)]) by rw [← hW4]; simp)
    have HX4 := hideG (HX2.out.trans (hb4.mono HX2.out.size))
    have HW4 := hideG hW4
    have hs2 : w.heap.size + 3 ≤ w2.heap.size := by have := HX2.out.size; have := HS0.out; omega
    clear hb4 hW4
    go_wp2_with fail
    rw [HW4.out]
    clear x0 p0 p1 p2 p3 p4 hwb rc0 rc1 rc2 rc3 rc4 rf0 rf1 rf2 rf3 rf4 HRk
    refine (treeCopy_any V.tree HS.out _ W4 (HV0.out.tree.below HX4.out) htl).mono ?_
    rintro ex w5 ⟨tv', rfl, hti, hb5⟩
    obtain ⟨a5, k5, rfl⟩ := hti.at.shape
    have hs5 : w2.heap.size + 1 ≤ w5.heap.size := by have := hb5.size; omega
    have HTI := hideG hti
    obtain ⟨X0, hX0⟩ : ∃ X0, w5.alloc (.cells #[.slice a5 V.tree.length k5, .slice none 0 0, .slice none 0 0, .slice none 0 0, .slice none 0 0] 27) = X0 := ⟨_, rfl⟩
    have hb6 : Below w5.heap.size w5 X0 := by rw [← hX0]; exact (Below.refl _ w5).alloc (Nat.le_refl _) _
    have hnew := World.alloc_heap_new w5 (.cells #[.slice a5 V.tree.length k5, .slice none 0 0, .slice none 0 0, .slice none 0 0, .slice none 0 0] 27)
    rw [hX0] at hnew
    have hs6 : X0.heap.size = w5.heap.size + 1 := by rw [← hX0]; simp
    have hb46 := hb5.trans (hb6.mono hb5.size)
    have HXX := hideG (HX4.out.trans (hb46.mono HX4.out.size))
    have HX5 := hideG (HX4.out.trans (hb5.mono HX4.out.size))
    have f75 := cell_below hb5 F7.out
    have F7 := hideG (cell_below hb46 F7.out)
    have HSB0 := hideG (show Sb (fun j => j = w5.heap.size ∨ j = w.heap.size + 2) w5 X0 from Sb.of_below hb6)
    have D0 := hideG (show X0.cell? ⟨w5.heap.size, 0, none⟩ = some (.slice a5 V.tree.length k5) ∧ X0.frozen? ⟨w5.heap.size, 0, none⟩ = false from ⟨by simp [World.cell?, hnew], by simp [World.frozen?, hnew]⟩)
    have D1 := hideG (show X0.cell? ⟨w5.heap.size, 1, none⟩ = some (.slice none 0 0) ∧ X0.frozen? ⟨w5.heap.size, 1, none⟩ = false from ⟨by simp [World.cell?, hnew], by simp [World.frozen?, hnew]⟩)
    have D2 := hideG (show X0.cell? ⟨w5.heap.size, 2, none⟩ = some (.slice none 0 0) ∧ X0.frozen? ⟨w5.heap.size, 2, none⟩ = false from ⟨by simp [World.cell?, hnew], by simp [World.frozen?, hnew]⟩)
    have D3 := hideG (show X0.cell? ⟨w5.heap.size, 3, none⟩ = some (.slice none 0 0) ∧ X0.frozen? ⟨w5.heap.size, 3, none⟩ = false from ⟨by simp [World.cell?, hnew], by simp [World.frozen?, hnew]⟩)
    have D4 := hideG (show X0.cell? ⟨w5.heap.size, 4, none⟩ = some (.slice none 0 0) ∧ X0.frozen? ⟨w5.heap.size, 4, none⟩ = false from ⟨by simp [World.cell?, hnew], by simp [World.frozen?, hnew]⟩)
    have p0 := cell_below HXX.out P0.out
    have p1 := cell_below HXX.out P1.out
    have p2 := cell_below HXX.out P2.out
    have p3 := cell_below HXX.out P3.out
    have p4 := cell_below HXX.out P4.out
    have x0 := cell_below HXX.out S0.out
    have HRX := hideG (show ∀ j, j < 5 → ∃ u, X0.cell? ⟨w.heap.size + 2, j, none⟩ = some u ∧ X0.frozen? ⟨w.heap.size + 2, j, none⟩ = false from fun j hj => let ⟨u, h1, h2⟩ := HR.out j hj; ⟨u, cell_below HXX.out h1, frozen_below HXX.out h1 h2⟩)
    have HBX := hideG (HB0.out.trans (HXX.out.mono HB0.out.size))
    have HREN := hideG hX0
    have QP0 := hideG p0
    have QP1 := hideG p1
    have QP2 := hideG p2
    have QP3 := hideG p3
    have QP4 := hideG p4
    have QX := hideG x0
    have hwb : w.heap.size < w5.heap.size := by omega
    have hwc : w.heap.size + 1 < w5.heap.size := by omega
    have hwd : w2.heap.size < w5.heap.size := by omega
    have hwe : w.heap.size + 2 < w5.heap.size := by omega
    clear hti hb5 hb6 hb46 hX0 hnew p0 p1 p2 p3 p4 x0
    have p50 := cell_below HX5.out P0.out
    have p51 := cell_below HX5.out P1.out
    have p52 := cell_below HX5.out P2.out
    have p53 := cell_below HX5.out P3.out
    have p54 := cell_below HX5.out P4.out
    have HPT := hideG (part86 (fun x => x != n) (.pointer (some ⟨w.heap.size + 1, 0, none⟩)) V.op _ X0 (hideG (fun x U hU => close1_any n x (w.heap.size + 1) U (cell_below hU QX.out))) (HV.out.op.below HBX.out) (by omega))
    go_wp2_with fail
    rw [HREN.out]
    clear p50 p51 p52 p53 p54 f75
    refine HPT.out.mono ?_
    rintro ex y0 ⟨a10, c10, a20, c20, rfl, hr0, _, _, hb⟩
    have RI0 := hideG (rowIn_of hr0)
    have d0 := cell_below hb D0.out.1
    have df0 := frozen_below hb D0.out.1 D0.out.2
    have d1 := cell_below hb D1.out.1
    have df1 := frozen_below hb D1.out.1 D1.out.2
    have d2 := cell_below hb D2.out.1
    have df2 := frozen_below hb D2.out.1 D2.out.2
    have d3 := cell_below hb D3.out.1
    have df3 := frozen_below hb D3.out.1 D3.out.2
    have d4 := cell_below hb D4.out.1
    have df4 := frozen_below hb D4.out.1 D4.out.2
    have E0 := hideG (show (y0.setCell ⟨w5.heap.size, 1, none⟩ (.slice a10 (V.op.filter (fun x => x != n)).length c10)).cell? ⟨w5.heap.size, 0, none⟩ = some (.slice a5 V.tree.length k5) ∧ (y0.setCell ⟨w5.heap.size, 1, none⟩ (.slice a10 (V.op.filter (fun x => x != n)).length c10)).frozen? ⟨w5.heap.size, 0, none⟩ = false from ⟨set_other d0 (by decide), by rw [World.frozen?_setCell]; exact df0⟩)
    have E1 := hideG (show (y0.setCell ⟨w5.heap.size, 1, none⟩ (.slice a10 (V.op.filter (fun x => x != n)).length c10)).cell? ⟨w5.heap.size, 1, none⟩ = some (.slice a10 (V.op.filter (fun x => x != n)).length c10) ∧ (y0.setCell ⟨w5.heap.size, 1, none⟩ (.slice a10 (V.op.filter (fun x => x != n)).length c10)).frozen? ⟨w5.heap.size, 1, none⟩ = false from ⟨set_same d1, by rw [World.frozen?_setCell]; exact df1⟩)
    have E2 := hideG (show (y0.setCell ⟨w5.heap.size, 1, none⟩ (.slice a10 (V.op.filter (fun x => x != n)).length c10)).cell? ⟨w5.heap.size, 2, none⟩ = some (.slice none 0 0) ∧ (y0.setCell ⟨w5.heap.size, 1, none⟩ (.slice a10 (V.op.filter (fun x => x != n)).length c10)).frozen? ⟨w5.heap.size, 2, none⟩ = false from ⟨set_other d2 (by decide), by rw [World.frozen?_setCell]; exact df2⟩)
    have E3 := hideG (show (y0.setCell ⟨w5.heap.size, 1, none⟩ (.slice a10 (V.op.filter (fun x => x != n)).length c10)).cell? ⟨w5.heap.size, 3, none⟩ = some (.slice none 0 0) ∧ (y0.setCell ⟨w5.heap.size, 1, none⟩ (.slice a10 (V.op.filter (fun x => x != n)).length c10)).frozen? ⟨w5.heap.size, 3, none⟩ = false from ⟨set_other d3 (by decide), by rw [World.frozen?_setCell]; exact df3⟩)
    have E4 := hideG (show (y0.setCell ⟨w5.heap.size, 1, none⟩ (.slice a10 (V.op.filter (fun x => x != n)).length c10)).cell? ⟨w5.heap.size, 4, none⟩ = some (.slice none 0 0) ∧ (y0.setCell ⟨w5.heap.size, 1, none⟩ (.slice a10 (V.op.filter (fun x => x != n)).length c10)).frozen? ⟨w5.heap.size, 4, none⟩ = false from ⟨set_other d4 (by decide), by rw [World.frozen?_setCell]; exact df4⟩)
    have p0 := cell_below hb QP0.out
    have r0 : (y0.setCell ⟨w5.heap.size, 1, none⟩ (.slice a10 (V.op.filter (fun x => x != n)).length c10)).cell? ⟨w.heap.size, 0, none⟩ = some (.slice ta V.tree.length tc) := set_otherB p0 (by omega)
    have p1 := cell_below hb QP1.out
    have r1 : (y0.setCell ⟨w5.heap.size, 1, none⟩ (.slice a10 (V.op.filter (fun x => x != n)).length c10)).cell? ⟨w.heap.size, 1, none⟩ = some (.slice oa V.op.length oc) := set_otherB p1 (by omega)
    have p2 := cell_below hb QP2.out
    have r2 : (y0.setCell ⟨w5.heap.size, 1, none⟩ (.slice a10 (V.op.filter (fun x => x != n)).length c10)).cell? ⟨w.heap.size, 2, none⟩ = some (.slice ma V.modal.length mc) := set_otherB p2 (by omega)
    have p3 := cell_below hb QP3.out
    have r3 : (y0.setCell ⟨w5.heap.size, 1, none⟩ (.slice a10 (V.op.filter (fun x => x != n)).length c10)).cell? ⟨w.heap.size, 3, none⟩ = some (.slice pa V.pops.length pc) := set_otherB p3 (by omega)
    have p4 := cell_below hb QP4.out
    have r4 : (y0.setCell ⟨w5.heap.size, 1, none⟩ (.slice a10 (V.op.filter (fun x => x != n)).length c10)).cell? ⟨w.heap.size, 4, none⟩ = some (.slice qa V.top.length qc) := set_otherB p4 (by omega)
    have x0 := cell_below hb QX.out
    have rx : (y0.setCell ⟨w5.heap.size, 1, none⟩ (.slice a10 (V.op.filter (fun x => x != n)).length c10)).cell? ⟨w.heap.size + 1, 0, none⟩ = some (.int .i64 n) := set_otherB x0 (by omega)
    have f7 := cell_below hb F7.out
    have rf : (y0.setCell ⟨w5.heap.size, 1, none⟩ (.slice a10 (V.op.filter (fun x => x != n)).length c10)).cell? ⟨w2.heap.size, 0, none⟩ = some (.func (.func 86) #[] #[.pointer (some ⟨w.heap.size + 1, 0, none⟩)]) := set_otherB f7 (by omega)
    have HRY := hideG (show ∀ j, j < 5 → ∃ u, (y0.setCell ⟨w5.heap.size, 1, none⟩ (.slice a10 (V.op.filter (fun x => x != n)).length c10)).cell? ⟨w.heap.size + 2, j, none⟩ = some u ∧ (y0.setCell ⟨w5.heap.size, 1, none⟩ (.slice a10 (V.op.filter (fun x => x != n)).length c10)).frozen? ⟨w.heap.size + 2, j, none⟩ = false from fun j hj => let ⟨u, h1, h2⟩ := HRX.out j hj; ⟨u, set_otherB (cell_below hb h1) (by omega), by rw [World.frozen?_setCell]; exact frozen_below hb h1 h2⟩)
    have HBY := hideG (show Below w.heap.size w (y0.setCell ⟨w5.heap.size, 1, none⟩ (.slice a10 (V.op.filter (fun x => x != n)).length c10)) from (HBX.out.trans (hb.mono HBX.out.size)).setCell (p := ⟨w5.heap.size, 1, none⟩) (by show w.heap.size ≤ w5.heap.size; omega) _)
    have hsz0 : X0.heap.size ≤ y0.heap.size := hb.size
    have SX := hideG (show Sb (fun j => j = w5.heap.size ∨ j = w.heap.size + 2) X0 (y0.setCell ⟨w5.heap.size, 1, none⟩ (.slice a10 (V.op.filter (fun x => x != n)).length c10)) from (Sb.of_below hb).trans (Sb.set (.inl rfl)))
    have SY0 := hideG (show Sb (fun j => j = w5.heap.size ∨ j = w.heap.size + 2) y0 (y0.setCell ⟨w5.heap.size, 1, none⟩ (.slice a10 (V.op.filter (fun x => x != n)).length c10)) from Sb.set (.inl rfl))
    obtain ⟨X1, hX1⟩ : ∃ X1, (y0.setCell ⟨w5.heap.size, 1, none⟩ (.slice a10 (V.op.filter (fun x => x != n)).length c10)) = X1 := ⟨_, rfl⟩
    have HREN := hideG hX1
    rw [hX1] at HRY HBY E0 E1 E2 E3 E4 r0 r1 r2 r3 r4 rx rf SX SY0
    have hzz0 : X1.heap.size = y0.heap.size := by rw [← hX1]; simp
    have HRX := HRY
    have HBX := HBY
    have D0 := E0
    have D1 := E1
    have D2 := E2
    have D3 := E3
    have D4 := E4
    have QP0 := hideG r0
    have QP1 := hideG r1
    have QP2 := hideG r2
    have QP3 := hideG r3
    have QP4 := hideG r4
    have QX := hideG rx
    have F7 := hideG rf
    have SX0 := SX
    clear hb hr0 hX1 HRY HBY E0 E1 E2 E3 E4 r0 r1 r2 r3 r4 rx rf SX HPT
    have HPT := hideG (part86 (fun x => x != n) (.pointer (some ⟨w.heap.size + 1, 0, none⟩)) V.modal _ X1 (hideG (fun x U hU => close1_any n x (w.heap.size + 1) U (cell_below hU QX.out))) (HV.out.modal.below HBX.out) (by omega))
    go_wp2_with fail
    rw [HREN.out]
    clear d0 d1 d2 d3 d4 df0 df1 df2 df3 df4 p0 p1 p2 p3 p4 x0 f7
    refine HPT.out.mono ?_
    rintro ex y1 ⟨a11, c11, a21, c21, rfl, hr1, _, _, hb⟩
    have RI1 := hideG (rowIn_of hr1)
    have d0 := cell_below hb D0.out.1
    have df0 := frozen_below hb D0.out.1 D0.out.2
    have d1 := cell_below hb D1.out.1
    have df1 := frozen_below hb D1.out.1 D1.out.2
    have d2 := cell_below hb D2.out.1
    have df2 := frozen_below hb D2.out.1 D2.out.2
    have d3 := cell_below hb D3.out.1
    have df3 := frozen_below hb D3.out.1 D3.out.2
    have d4 := cell_below hb D4.out.1
    have df4 := frozen_below hb D4.out.1 D4.out.2
    have E0 := hideG (show (y1.setCell ⟨w5.heap.size, 2, none⟩ (.slice a11 (V.modal.filter (fun x => x != n)).length c11)).cell? ⟨w5.heap.size, 0, none⟩ = some (.slice a5 V.tree.length k5) ∧ (y1.setCell ⟨w5.heap.size, 2, none⟩ (.slice a11 (V.modal.filter (fun x => x != n)).length c11)).frozen? ⟨w5.heap.size, 0, none⟩ = false from ⟨set_other d0 (by decide), by rw [World.frozen?_setCell]; exact df0⟩)
    have E1 := hideG (show (y1.setCell ⟨w5.heap.size, 2, none⟩ (.slice a11 (V.modal.filter (fun x => x != n)).length c11)).cell? ⟨w5.heap.size, 1, none⟩ = some (.slice a10 (V.op.filter (fun x => x != n)).length c10) ∧ (y1.setCell ⟨w5.heap.size, 2, none⟩ (.slice a11 (V.modal.filter (fun x => x != n)).length c11)).frozen? ⟨w5.heap.size, 1, none⟩ = false from ⟨set_other d1 (by decide), by rw [World.frozen?_setCell]; exact df1⟩)
    have E2 := hideG (show (y1.setCell ⟨w5.heap.size, 2, none⟩ (.slice a11 (V.modal.filter (fun x => x != n)).length c11)).cell? ⟨w5.heap.size, 2, none⟩ = some (.slice a11 (V.modal.filter (fun x => x != n)).length c11) ∧ (y1.setCell ⟨w5.heap.size, 2, none⟩ (.slice a11 (V.modal.filter (fun x => x != n)).length c11)).frozen? ⟨w5.heap.size, 2, none⟩ = false from ⟨set_same d2, by rw [World.frozen?_setCell]; exact df2⟩)
    have E3 := hideG (show (y1.setCell ⟨w5.heap.size, 2, none⟩ (.slice a11 (V.modal.filter (fun x => x != n)).length c11)).cell? ⟨w5.heap.size, 3, none⟩ = some (.slice none 0 0) ∧ (y1.setCell ⟨w5.heap.size, 2, none⟩ (.slice a11 (V.modal.filter (fun x => x != n)).length c11)).frozen? ⟨w5.heap.size, 3, none⟩ = false from ⟨set_other d3 (by decide), by rw [World.frozen?_setCell]; exact df3⟩)
    have E4 := hideG (show (y1.setCell ⟨w5.heap.size, 2, none⟩ (.slice a11 (V.modal.filter (fun x => x != n)).length c11)).cell? ⟨w5.heap.size, 4, none⟩ = some (.slice none 0 0) ∧ (y1.setCell ⟨w5.heap.size, 2, none⟩ (.slice a11 (V.modal.filter (fun x => x != n)).length c11)).frozen? ⟨w5.heap.size, 4, none⟩ = false from ⟨set_other d4 (by decide), by rw [World.frozen?_setCell]; exact df4⟩)
    have p0 := cell_below hb QP0.out
    have r0 : (y1.setCell ⟨w5.heap.size, 2, none⟩ (.slice a11 (V.modal.filter (fun x => x != n)).length c11)).cell? ⟨w.heap.size, 0, none⟩ = some (.slice ta V.tree.length tc) := set_otherB p0 (by omega)
    have p1 := cell_below hb QP1.out
    have r1 : (y1.setCell ⟨w5.heap.size, 2, none⟩ (.slice a11 (V.modal.filter (fun x => x != n)).length c11)).cell? ⟨w.heap.size, 1, none⟩ = some (.slice oa V.op.length oc) := set_otherB p1 (by omega)
    have p2 := cell_below hb QP2.out
    have r2 : (y1.setCell ⟨w5.heap.size, 2, none⟩ (.slice a11 (V.modal.filter (fun x => x != n)).length c11)).cell? ⟨w.heap.size, 2, none⟩ = some (.slice ma V.modal.length mc) := set_otherB p2 (by omega)
    have p3 := cell_below hb QP3.out
    have r3 : (y1.setCell ⟨w5.heap.size, 2, none⟩ (.slice a11 (V.modal.filter (fun x => x != n)).length c11)).cell? ⟨w.heap.size, 3, none⟩ = some (.slice pa V.pops.length pc) := set_otherB p3 (by omega)
    have p4 := cell_below hb QP4.out
    have r4 : (y1.setCell ⟨w5.heap.size, 2, none⟩ (.slice a11 (V.modal.filter (fun x => x != n)).length c11)).cell? ⟨w.heap.size, 4, none⟩ = some (.slice qa V.top.length qc) := set_otherB p4 (by omega)
    have x0 := cell_below hb QX.out
    have rx : (y1.setCell ⟨w5.heap.size, 2, none⟩ (.slice a11 (V.modal.filter (fun x => x != n)).length c11)).cell? ⟨w.heap.size + 1, 0, none⟩ = some (.int .i64 n) := set_otherB x0 (by omega)
    have f7 := cell_below hb F7.out
    have rf : (y1.setCell ⟨w5.heap.size, 2, none⟩ (.slice a11 (V.modal.filter (fun x => x != n)).length c11)).cell? ⟨w2.heap.size, 0, none⟩ = some (.func (.func 86) #[] #[.pointer (some ⟨w.heap.size + 1, 0, none⟩)]) := set_otherB f7 (by omega)
    have HRY := hideG (show ∀ j, j < 5 → ∃ u, (y1.setCell ⟨w5.heap.size, 2, none⟩ (.slice a11 (V.modal.filter (fun x => x != n)).length c11)).cell? ⟨w.heap.size + 2, j, none⟩ = some u ∧ (y1.setCell ⟨w5.heap.size, 2, none⟩ (.slice a11 (V.modal.filter (fun x => x != n)).length c11)).frozen? ⟨w.heap.size + 2, j, none⟩ = false from fun j hj => let ⟨u, h1, h2⟩ := HRX.out j hj; ⟨u, set_otherB (cell_below hb h1) (by omega), by rw [World.frozen?_setCell]; exact frozen_below hb h1 h2⟩)
    have HBY := hideG (show Below w.heap.size w (y1.setCell ⟨w5.heap.size, 2, none⟩ (.slice a11 (V.modal.filter (fun x => x != n)).length c11)) from (HBX.out.trans (hb.mono HBX.out.size)).setCell (p := ⟨w5.heap.size, 2, none⟩) (by show w.heap.size ≤ w5.heap.size; omega) _)
    have hsz1 : X1.heap.size ≤ y1.heap.size := hb.size
    have SX := hideG (show Sb (fun j => j = w5.heap.size ∨ j = w.heap.size + 2) X1 (y1.setCell ⟨w5.heap.size, 2, none⟩ (.slice a11 (V.modal.filter (fun x => x != n)).length c11)) from (Sb.of_below hb).trans (Sb.set (.inl rfl)))
    have SY1 := hideG (show Sb (fun j => j = w5.heap.size ∨ j = w.heap.size + 2) y1 (y1.setCell ⟨w5.heap.size, 2, none⟩ (.slice a11 (V.modal.filter (fun x => x != n)).length c11)) from Sb.set (.inl rfl))
    obtain ⟨X2, hX2⟩ : ∃ X2, (y1.setCell ⟨w5.heap.size, 2, none⟩ (.slice a11 (V.modal.filter (fun x => x != n)).length c11)) = X2 := ⟨_, rfl⟩
    have HREN := hideG hX2
    rw [hX2] at HRY HBY E0 E1 E2 E3 E4 r0 r1 r2 r3 r4 rx rf SX SY1
    have hzz1 : X2.heap.size = y1.heap.size := by rw [← hX2]; simp
    have HRX := HRY
    have HBX := HBY
    have D0 := E0
    have D1 := E1
    have D2 := E2
    have D3 := E3
    have D4 := E4
    have QP0 := hideG r0
    have QP1 := hideG r1
    have QP2 := hideG r2
    have QP3 := hideG r3
    have QP4 := hideG r4
    have QX := hideG rx
    have F7 := hideG rf
    have SX1 := SX
    clear hb hr1 hX2 HRY HBY E0 E1 E2 E3 E4 r0 r1 r2 r3 r4 rx rf SX HPT
    have HPT := hideG (part87 (fun x => x.node != n) (.pointer (some ⟨w2.heap.size, 0, none⟩)) V.pops _ X2 (hideG (fun x U hU => close2_any n x (w.heap.size + 1) (w2.heap.size) U (cell_below hU F7.out) (cell_below hU QX.out))) (HV.out.pops.below HBX.out) (by omega))
    go_wp2_with fail
    rw [HREN.out]
    clear d0 d1 d2 d3 d4 df0 df1 df2 df3 df4 p0 p1 p2 p3 p4 x0 f7
    refine HPT.out.mono ?_
    rintro ex y2 ⟨a12, c12, a22, c22, rfl, hr2, _, _, hb⟩
    have RI2 := hideG (rowIn_of hr2)
    have d0 := cell_below hb D0.out.1
    have df0 := frozen_below hb D0.out.1 D0.out.2
    have d1 := cell_below hb D1.out.1
    have df1 := frozen_below hb D1.out.1 D1.out.2
    have d2 := cell_below hb D2.out.1
    have df2 := frozen_below hb D2.out.1 D2.out.2
    have d3 := cell_below hb D3.out.1
    have df3 := frozen_below hb D3.out.1 D3.out.2
    have d4 := cell_below hb D4.out.1
    have df4 := frozen_below hb D4.out.1 D4.out.2
    have E0 := hideG (show (y2.setCell ⟨w5.heap.size, 3, none⟩ (.slice a12 (V.pops.filter (fun x => x.node != n)).length c12)).cell? ⟨w5.heap.size, 0, none⟩ = some (.slice a5 V.tree.length k5) ∧ (y2.setCell ⟨w5.heap.size, 3, none⟩ (.slice a12 (V.pops.filter (fun x => x.node != n)).length c12)).frozen? ⟨w5.heap.size, 0, none⟩ = false from ⟨set_other d0 (by decide), by rw [World.frozen?_setCell]; exact df0⟩)
    have E1 := hideG (show (y2.setCell ⟨w5.heap.size, 3, none⟩ (.slice a12 (V.pops.filter (fun x => x.node != n)).length c12)).cell? ⟨w5.heap.size, 1, none⟩ = some (.slice a10 (V.op.filter (fun x => x != n)).length c10) ∧ (y2.setCell ⟨w5.heap.size, 3, none⟩ (.slice a12 (V.pops.filter (fun x => x.node != n)).length c12)).frozen? ⟨w5.heap.size, 1, none⟩ = false from ⟨set_other d1 (by decide), by rw [World.frozen?_setCell]; exact df1⟩)
    have E2 := hideG (show (y2.setCell ⟨w5.heap.size, 3, none⟩ (.slice a12 (V.pops.filter (fun x => x.node != n)).length c12)).cell? ⟨w5.heap.size, 2, none⟩ = some (.slice a11 (V.modal.filter (fun x => x != n)).length c11) ∧ (y2.setCell ⟨w5.heap.size, 3, none⟩ (.slice a12 (V.pops.filter (fun x => x.node != n)).length c12)).frozen? ⟨w5.heap.size, 2, none⟩ = false from ⟨set_other d2 (by decide), by rw [World.frozen?_setCell]; exact df2⟩)
    have E3 := hideG (show (y2.setCell ⟨w5.heap.size, 3, none⟩ (.slice a12 (V.pops.filter (fun x => x.node != n)).length c12)).cell? ⟨w5.heap.size, 3, none⟩ = some (.slice a12 (V.pops.filter (fun x => x.node != n)).length c12) ∧ (y2.setCell ⟨w5.heap.size, 3, none⟩ (.slice a12 (V.pops.filter (fun x => x.node != n)).length c12)).frozen? ⟨w5.heap.size, 3, none⟩ = false from ⟨set_same d3, by rw [World.frozen?_setCell]; exact df3⟩)
    have E4 := hideG (show (y2.setCell ⟨w5.heap.size, 3, none⟩ (.slice a12 (V.pops.filter (fun x => x.node != n)).length c12)).cell? ⟨w5.heap.size, 4, none⟩ = some (.slice none 0 0) ∧ (y2.setCell ⟨w5.heap.size, 3, none⟩ (.slice a12 (V.pops.filter (fun x => x.node != n)).length c12)).frozen? ⟨w5.heap.size, 4, none⟩ = false from ⟨set_other d4 (by decide), by rw [World.frozen?_setCell]; exact df4⟩)
    have p0 := cell_below hb QP0.out
    have r0 : (y2.setCell ⟨w5.heap.size, 3, none⟩ (.slice a12 (V.pops.filter (fun x => x.node != n)).length c12)).cell? ⟨w.heap.size, 0, none⟩ = some (.slice ta V.tree.length tc) := set_otherB p0 (by omega)
    have p1 := cell_below hb QP1.out
    have r1 : (y2.setCell ⟨w5.heap.size, 3, none⟩ (.slice a12 (V.pops.filter (fun x => x.node != n)).length c12)).cell? ⟨w.heap.size, 1, none⟩ = some (.slice oa V.op.length oc) := set_otherB p1 (by omega)
    have p2 := cell_below hb QP2.out
    have r2 : (y2.setCell ⟨w5.heap.size, 3, none⟩ (.slice a12 (V.pops.filter (fun x => x.node != n)).length c12)).cell? ⟨w.heap.size, 2, none⟩ = some (.slice ma V.modal.length mc) := set_otherB p2 (by omega)
    have p3 := cell_below hb QP3.out
    have r3 : (y2.setCell ⟨w5.heap.size, 3, none⟩ (.slice a12 (V.pops.filter (fun x => x.node != n)).length c12)).cell? ⟨w.heap.size, 3, none⟩ = some (.slice pa V.pops.length pc) := set_otherB p3 (by omega)
    have p4 := cell_below hb QP4.out
    have r4 : (y2.setCell ⟨w5.heap.size, 3, none⟩ (.slice a12 (V.pops.filter (fun x => x.node != n)).length c12)).cell? ⟨w.heap.size, 4, none⟩ = some (.slice qa V.top.length qc) := set_otherB p4 (by omega)
    have x0 := cell_below hb QX.out
    have rx : (y2.setCell ⟨w5.heap.size, 3, none⟩ (.slice a12 (V.pops.filter (fun x => x.node != n)).length c12)).cell? ⟨w.heap.size + 1, 0, none⟩ = some (.int .i64 n) := set_otherB x0 (by omega)
    have f7 := cell_below hb F7.out
    have rf : (y2.setCell ⟨w5.heap.size, 3, none⟩ (.slice a12 (V.pops.filter (fun x => x.node != n)).length c12)).cell? ⟨w2.heap.size, 0, none⟩ = some (.func (.func 86) #[] #[.pointer (some ⟨w.heap.size + 1, 0, none⟩)]) := set_otherB f7 (by omega)
    have HRY := hideG (show ∀ j, j < 5 → ∃ u, (y2.setCell ⟨w5.heap.size, 3, none⟩ (.slice a12 (V.pops.filter (fun x => x.node != n)).length c12)).cell? ⟨w.heap.size + 2, j, none⟩ = some u ∧ (y2.setCell ⟨w5.heap.size, 3, none⟩ (.slice a12 (V.pops.filter (fun x => x.node != n)).length c12)).frozen? ⟨w.heap.size + 2, j, none⟩ = false from fun j hj => let ⟨u, h1, h2⟩ := HRX.out j hj; ⟨u, set_otherB (cell_below hb h1) (by omega), by rw [World.frozen?_setCell]; exact frozen_below hb h1 h2⟩)
    have HBY := hideG (show Below w.heap.size w (y2.setCell ⟨w5.heap.size, 3, none⟩ (.slice a12 (V.pops.filter (fun x => x.node != n)).length c12)) from (HBX.out.trans (hb.mono HBX.out.size)).setCell (p := ⟨w5.heap.size, 3, none⟩) (by show w.heap.size ≤ w5.heap.size; omega) _)
    have hsz2 : X2.heap.size ≤ y2.heap.size := hb.size
    have SX := hideG (show Sb (fun j => j = w5.heap.size ∨ j = w.heap.size + 2) X2 (y2.setCell ⟨w5.heap.size, 3, none⟩ (.slice a12 (V.pops.filter (fun x => x.node != n)).length c12)) from (Sb.of_below hb).trans (Sb.set (.inl rfl)))
    have SY2 := hideG (show Sb (fun j => j = w5.heap.size ∨ j = w.heap.size + 2) y2 (y2.setCell ⟨w5.heap.size, 3, none⟩ (.slice a12 (V.pops.filter (fun x => x.node != n)).length c12)) from Sb.set (.inl rfl))
    obtain ⟨X3, hX3⟩ : ∃ X3, (y2.setCell ⟨w5.heap.size, 3, none⟩ (.slice a12 (V.pops.filter (fun x => x.node != n)).length c12)) = X3 := ⟨_, rfl⟩
    have HREN := hideG hX3
    rw [hX3] at HRY HBY E0 E1 E2 E3 E4 r0 r1 r2 r3 r4 rx rf SX SY2
    have hzz2 : X3.heap.size = y2.heap.size := by rw [← hX3]; simp
    have HRX := HRY
    have HBX := HBY
    have D0 := E0
    have D1 := E1
    have D2 := E2
    have D3 := E3
    have D4 := E4
    have QP0 := hideG r0
    have QP1 := hideG r1
    have QP2 := hideG r2
    have QP3 := hideG r3
    have QP4 := hideG r4
    have QX := hideG rx
    have F7 := hideG rf
    have SX2 := SX
    clear hb hr2 hX3 HRY HBY E0 E1 E2 E3 E4 r0 r1 r2 r3 r4 rx rf SX HPT
    have HPT := hideG (part86 (fun x => x != n) (.pointer (some ⟨w.heap.size + 1, 0, none⟩)) V.top _ X3 (hideG (fun x U hU => close1_any n x (w.heap.size + 1) U (cell_below hU QX.out))) (HV.out.top.below HBX.out) (by omega))
    go_wp2_with fail
    rw [HREN.out]
    clear d0 d1 d2 d3 d4 df0 df1 df2 df3 df4 p0 p1 p2 p3 p4 x0 f7
    refine HPT.out.mono ?_
    rintro ex y3 ⟨a13, c13, a23, c23, rfl, hr3, _, _, hb⟩
    have RI3 := hideG (rowIn_of hr3)
    have d0 := cell_below hb D0.out.1
    have df0 := frozen_below hb D0.out.1 D0.out.2
    have d1 := cell_below hb D1.out.1
    have df1 := frozen_below hb D1.out.1 D1.out.2
    have d2 := cell_below hb D2.out.1
    have df2 := frozen_below hb D2.out.1 D2.out.2
    have d3 := cell_below hb D3.out.1
    have df3 := frozen_below hb D3.out.1 D3.out.2
    have d4 := cell_below hb D4.out.1
    have df4 := frozen_below hb D4.out.1 D4.out.2
    have E0 := hideG (show (y3.setCell ⟨w5.heap.size, 4, none⟩ (.slice a13 (V.top.filter (fun x => x != n)).length c13)).cell? ⟨w5.heap.size, 0, none⟩ = some (.slice a5 V.tree.length k5) ∧ (y3.setCell ⟨w5.heap.size, 4, none⟩ (.slice a13 (V.top.filter (fun x => x != n)).length c13)).frozen? ⟨w5.heap.size, 0, none⟩ = false from ⟨set_other d0 (by decide), by rw [World.frozen?_setCell]; exact df0⟩)
    have E1 := hideG (show (y3.setCell ⟨w5.heap.size, 4, none⟩ (.slice a13 (V.top.filter (fun x => x != n)).length c13)).cell? ⟨w5.heap.size, 1, none⟩ = some (.slice a10 (V.op.filter (fun x => x != n)).length c10) ∧ (y3.setCell ⟨w5.heap.size, 4, none⟩ (.slice a13 (V.top.filter (fun x => x != n)).length c13)).frozen? ⟨w5.heap.size, 1, none⟩ = false from ⟨set_other d1 (by decide), by rw [World.frozen?_setCell]; exact df1⟩)
    have E2 := hideG (show (y3.setCell ⟨w5.heap.size, 4, none⟩ (.slice a13 (V.top.filter (fun x => x != n)).length c13)).cell? ⟨w5.heap.size, 2, none⟩ = some (.slice a11 (V.modal.filter (fun x => x != n)).length c11) ∧ (y3.setCell ⟨w5.heap.size, 4, none⟩ (.slice a13 (V.top.filter (fun x => x != n)).length c13)).frozen? ⟨w5.heap.size, 2, none⟩ = false from ⟨set_other d2 (by decide), by rw [World.frozen?_setCell]; exact df2⟩)
    have E3 := hideG (show (y3.setCell ⟨w5.heap.size, 4, none⟩ (.slice a13 (V.top.filter (fun x => x != n)).length c13)).cell? ⟨w5.heap.size, 3, none⟩ = some (.slice a12 (V.pops.filter (fun x => x.node != n)).length c12) ∧ (y3.setCell ⟨w5.heap.size, 4, none⟩ (.slice a13 (V.top.filter (fun x => x != n)).length c13)).frozen? ⟨w5.heap.size, 3, none⟩ = false from ⟨set_other d3 (by decide), by rw [World.frozen?_setCell]; exact df3⟩)
    have E4 := hideG (show (y3.setCell ⟨w5.heap.size, 4, none⟩ (.slice a13 (V.top.filter (fun x => x != n)).length c13)).cell? ⟨w5.heap.size, 4, none⟩ = some (.slice a13 (V.top.filter (fun x => x != n)).length c13) ∧ (y3.setCell ⟨w5.heap.size, 4, none⟩ (.slice a13 (V.top.filter (fun x => x != n)).length c13)).frozen? ⟨w5.heap.size, 4, none⟩ = false from ⟨set_same d4, by rw [World.frozen?_setCell]; exact df4⟩)
    have p0 := cell_below hb QP0.out
    have r0 : (y3.setCell ⟨w5.heap.size, 4, none⟩ (.slice a13 (V.top.filter (fun x => x != n)).length c13)).cell? ⟨w.heap.size, 0, none⟩ = some (.slice ta V.tree.length tc) := set_otherB p0 (by omega)
    have p1 := cell_below hb QP1.out
    have r1 : (y3.setCell ⟨w5.heap.size, 4, none⟩ (.slice a13 (V.top.filter (fun x => x != n)).length c13)).cell? ⟨w.heap.size, 1, none⟩ = some (.slice oa V.op.length oc) := set_otherB p1 (by omega)
    have p2 := cell_below hb QP2.out
    have r2 : (y3.setCell ⟨w5.heap.size, 4, none⟩ (.slice a13 (V.top.filter (fun x => x != n)).length c13)).cell? ⟨w.heap.size, 2, none⟩ = some (.slice ma V.modal.length mc) := set_otherB p2 (by omega)
    have p3 := cell_below hb QP3.out
    have r3 : (y3.setCell ⟨w5.heap.size, 4, none⟩ (.slice a13 (V.top.filter (fun x => x != n)).length c13)).cell? ⟨w.heap.size, 3, none⟩ = some (.slice pa V.pops.length pc) := set_otherB p3 (by omega)
    have p4 := cell_below hb QP4.out
    have r4 : (y3.setCell ⟨w5.heap.size, 4, none⟩ (.slice a13 (V.top.filter (fun x => x != n)).length c13)).cell? ⟨w.heap.size, 4, none⟩ = some (.slice qa V.top.length qc) := set_otherB p4 (by omega)
    have x0 := cell_below hb QX.out
    have rx : (y3.setCell ⟨w5.heap.size, 4, none⟩ (.slice a13 (V.top.filter (fun x => x != n)).length c13)).cell? ⟨w.heap.size + 1, 0, none⟩ = some (.int .i64 n) := set_otherB x0 (by omega)
    have f7 := cell_below hb F7.out
    have rf : (y3.setCell ⟨w5.heap.size, 4, none⟩ (.slice a13 (V.top.filter (fun x => x != n)).length c13)).cell? ⟨w2.heap.size, 0, none⟩ = some (.func (.func 86) #[] #[.pointer (some ⟨w.heap.size + 1, 0, none⟩)]) := set_otherB f7 (by omega)
    have HRY := hideG (show ∀ j, j < 5 → ∃ u, (y3.setCell ⟨w5.heap.size, 4, none⟩ (.slice a13 (V.top.filter (fun x => x != n)).length c13)).cell? ⟨w.heap.size + 2, j, none⟩ = some u ∧ (y3.setCell ⟨w5.heap.size, 4, none⟩ (.slice a13 (V.top.filter (fun x => x != n)).length c13)).frozen? ⟨w.heap.size + 2, j, none⟩ = false from fun j hj => let ⟨u, h1, h2⟩ := HRX.out j hj; ⟨u, set_otherB (cell_below hb h1) (by omega), by rw [World.frozen?_setCell]; exact frozen_below hb h1 h2⟩)
    have HRL := hideG (show ∀ j, j < 5 → ∃ u, y3.cell? ⟨w.heap.size + 2, j, none⟩ = some u ∧ y3.frozen? ⟨w.heap.size + 2, j, none⟩ = false from fun j hj => let ⟨u, h1, h2⟩ := HRX.out j hj; ⟨u, cell_below hb h1, frozen_below hb h1 h2⟩)
    have HBY := hideG (show Below w.heap.size w (y3.setCell ⟨w5.heap.size, 4, none⟩ (.slice a13 (V.top.filter (fun x => x != n)).length c13)) from (HBX.out.trans (hb.mono HBX.out.size)).setCell (p := ⟨w5.heap.size, 4, none⟩) (by show w.heap.size ≤ w5.heap.size; omega) _)
    have hsz3 : X3.heap.size ≤ y3.heap.size := hb.size
    have SX := hideG (show Sb (fun j => j = w5.heap.size ∨ j = w.heap.size + 2) X3 (y3.setCell ⟨w5.heap.size, 4, none⟩ (.slice a13 (V.top.filter (fun x => x != n)).length c13)) from (Sb.of_below hb).trans (Sb.set (.inl rfl)))
    have SY3 := hideG (show Sb (fun j => j = w5.heap.size ∨ j = w.heap.size + 2) y3 (y3.setCell ⟨w5.heap.size, 4, none⟩ (.slice a13 (V.top.filter (fun x => x != n)).length c13)) from Sb.set (.inl rfl))
    obtain ⟨X4, hX4⟩ : ∃ X4, (y3.setCell ⟨w5.heap.size, 4, none⟩ (.slice a13 (V.top.filter (fun x => x != n)).length c13)) = X4 := ⟨_, rfl⟩
    have HREN := hideG hX4
    rw [hX4] at HRY HBY E0 E1 E2 E3 E4 r0 r1 r2 r3 r4 rx rf SX SY3
    have hzz3 : X4.heap.size = y3.heap.size := by rw [← hX4]; simp
    have HRX := HRY
    have HBX := HBY
    have D0 := E0
    have D1 := E1
    have D2 := E2
    have D3 := E3
    have D4 := E4
    have QP0 := hideG r0
    have QP1 := hideG r1
    have QP2 := hideG r2
    have QP3 := hideG r3
    have QP4 := hideG r4
    have QX := hideG rx
    have F7 := hideG rf
    have SX3 := SX
    clear hb hr3 hX4 HRY HBY E0 E1 E2 E3 E4 r0 r1 r2 r3 r4 rx rf SX HPT
    obtain ⟨u0, rc0, rfz0⟩ := HRL.out 0 (by decide)
    obtain ⟨u1, rc1, rfz1⟩ := HRL.out 1 (by decide)
    obtain ⟨u2, rc2, rfz2⟩ := HRL.out 2 (by decide)
    obtain ⟨u3, rc3, rfz3⟩ := HRL.out 3 (by decide)
    obtain ⟨u4, rc4, rfz4⟩ := HRL.out 4 (by decide)
    go_wp2_with fail
    rw [HREN.out]
    have hat := set5_at (U := X4) (R := w.heap.size + 2) (v0 := .slice a5 V.tree.length k5) (v1 := .slice a10 (V.op.filter (fun x => x != n)).length c10) (v2 := .slice a11 (V.modal.filter (fun x => x != n)).length c11) (v3 := .slice a12 (V.pops.filter (fun x => x.node != n)).length c12) (v4 := .slice a13 (V.top.filter (fun x => x != n)).length c13) HRX.out
    have hSF : Sb (fun j => j = w5.heap.size ∨ j = w.heap.size + 2) X4 (set5 X4 (w.heap.size + 2) (.slice a5 V.tree.length k5) (.slice a10 (V.op.filter (fun x => x != n)).length c10) (.slice a11 (V.modal.filter (fun x => x != n)).length c11) (.slice a12 (V.pops.filter (fun x => x.node != n)).length c12) (.slice a13 (V.top.filter (fun x => x != n)).length c13)) := Sb.set5 (.inr rfl)
    have s3 := SY3.out.trans hSF
    have s2 := SY2.out.trans (SX3.out.trans hSF)
    have s1 := SY1.out.trans (SX2.out.trans (SX3.out.trans hSF))
    have s0 := SY0.out.trans (SX1.out.trans (SX2.out.trans (SX3.out.trans hSF)))
    have st := HSB0.out.trans (SX0.out.trans (SX1.out.trans (SX2.out.trans (SX3.out.trans hSF))))
    have hvt := (HTI.out.sb (Nat.le_refl _) (fun j h1 h2 => by show ¬ (j = w5.heap.size ∨ j = w.heap.size + 2); have h1' : W4.heap.size ≤ j := h1; have h2' : j < w5.heap.size := h2; omega) st).at
    have hv0 := rowInts (RI0.out.sb (Nat.le_refl _) (fun j h1 h2 => by show ¬ (j = w5.heap.size ∨ j = w.heap.size + 2); have h1' : X0.heap.size ≤ j := h1; omega) s0)
    have hv1 := rowInts (RI1.out.sb (Nat.le_refl _) (fun j h1 h2 => by show ¬ (j = w5.heap.size ∨ j = w.heap.size + 2); have h1' : X1.heap.size ≤ j := h1; omega) s1)
    have hv2 := rowShs (RI2.out.sb (Nat.le_refl _) (fun j h1 h2 => by show ¬ (j = w5.heap.size ∨ j = w.heap.size + 2); have h1' : X2.heap.size ≤ j := h1; omega) s2)
    have hv3 := rowInts (RI3.out.sb (Nat.le_refl _) (fun j h1 h2 => by show ¬ (j = w5.heap.size ∨ j = w.heap.size + 2); have h1' : X3.heap.size ≤ j := h1; omega) s3)
    unfold set5 at hat
    obtain ⟨t0, t1, t2, t3, t4⟩ := hat
    refine bodyPost_ret (v := .tuple #[.agg #[.slice a5 V.tree.length k5, .slice a10 (V.op.filter (fun x => x != n)).length c10, .slice a11 (V.modal.filter (fun x => x != n)).length c11, .slice a12 (V.pops.filter (fun x => x.node != n)).length c12, .slice a13 (V.top.filter (fun x => x != n)).length c13], .int .i64 0]) (by simp [results, Tryz.f33, go_sem, t0, t1, t2, t3, t4]) rfl ?_
    exact ⟨_, _, _, _, _, rfl, ⟨hvt, hv0, hv1, hv2, hv3⟩, set5_below HBX.out (by omega)⟩
end Go.Proofs.YtclhimodopgeoaaGreat

namespace Go.Proofs.YtclhimodopgeoaaGreat
open Go.RowKit Go.Shelf

attribute [local go_sem] Oper.semAt_some

theorem high_none {modal top : List Int} : ∀ {n : Nat}, (∀ j, j < n → containsB modal (top.getD j 0) = false) → highF modal top n = -1
  | 0, _ => rfl
  | n + 1, h => by rw [highF, h n (by omega)]; exact high_none (fun j hj => h j (by omega))
theorem high_first {modal top : List Int} : ∀ {n : Nat} {pre : List Nat} {x : Nat}, pre ++ [x] <+: (List.range n).reverse → (∀ j ∈ pre, containsB modal (top.getD j 0) = false) → containsB modal (top.getD x 0) = true → highF modal top n = top.getD x 0
  | 0, pre, x, h, _, _ => by have := h.length_le; simp at this
  | n + 1, pre, x, h, h1, h2 => by
    rw [List.range_succ, List.reverse_append] at h
    simp only [List.reverse_cons, List.reverse_nil, List.nil_append, List.cons_append] at h
    cases pre with
    | nil =>
      have e : x = n := by
        have := List.cons_prefix_cons.mp h
        exact this.1
      subst e
      rw [highF, h2]; rfl
    | cons y pre =>
      obtain ⟨e, h'⟩ := List.cons_prefix_cons.mp h
      subst e
      rw [highF, h1 y (by simp)]
      exact high_first h' (fun j hj => h1 j (by simp [hj])) h2

set_option maxRecDepth 100000 in
set_option maxHeartbeats 4000000 in
theorem highBad_in (tv ov mv pv qv : Value) (V : Vw) (w : World) (hV : ViewAt w tv ov mv pv qv V) (hS : Sane V.tree) (hl : smallL V) (hne : checkV V ≠ 0) :
    CallsIn Fence.wide 6 Tryz.prog 25 #[.agg #[tv, ov, mv, pv, qv]] w fun x w' => x = .returned (.int .i64 (-1)) ∧ Below w.heap.size w w' := by
  obtain ⟨hT, hO, hM, hP, hQ⟩ := hV
  obtain ⟨ta, tc, rfl⟩ := hT.shape
  obtain ⟨oa, oc, rfl⟩ := hO.shape
  obtain ⟨ma, mc, rfl⟩ := hM.shape
  obtain ⟨pa, pc, rfl⟩ := hP.shape
  obtain ⟨qa, qc, rfl⟩ := hQ.shape
  obtain ⟨W0, hW0⟩ : ∃ W0, (w.alloc (.cells #[.slice ta V.tree.length tc, .slice oa V.op.length oc, .slice ma V.modal.length mc, .slice pa V.pops.length pc, .slice qa V.top.length qc] 27)).alloc (.cells #[.int .i64 0] 3) = W0 := ⟨_, rfl⟩
  have hbw : Below w.heap.size w W0 := by rw [← hW0]; exact ((Below.refl _ w).alloc (Nat.le_refl _) _).alloc (by simp) _
  have HB0 := hideG hbw
  have P0 := hideG (show W0.cell? ⟨w.heap.size, 0, none⟩ = some (.slice ta V.tree.length tc) by rw [← hW0]; exact cell_alloc_l _ (by simp))
  have P1 := hideG (show W0.cell? ⟨w.heap.size, 1, none⟩ = some (.slice oa V.op.length oc) by rw [← hW0]; exact cell_alloc_l _ (by simp))
  have P2 := hideG (show W0.cell? ⟨w.heap.size, 2, none⟩ = some (.slice ma V.modal.length mc) by rw [← hW0]; exact cell_alloc_l _ (by simp))
  have P3 := hideG (show W0.cell? ⟨w.heap.size, 3, none⟩ = some (.slice pa V.pops.length pc) by rw [← hW0]; exact cell_alloc_l _ (by simp))
  have P4 := hideG (show W0.cell? ⟨w.heap.size, 4, none⟩ = some (.slice qa V.top.length qc) by rw [← hW0]; exact cell_alloc_l _ (by simp))
  have PR := hideG (show W0.cell? ⟨w.heap.size + 1, 0, none⟩ = some (.int .i64 0) ∧ W0.frozen? ⟨w.heap.size + 1, 0, none⟩ = false by
    rw [← hW0]
    have := cell_new_l (w.alloc (.cells #[.slice ta V.tree.length tc, .slice oa V.op.length oc, .slice ma V.modal.length mc, .slice pa V.pops.length pc, .slice qa V.top.length qc] 27)) (.int .i64 0) 3
    rw [World.size_alloc] at this
    exact this)
  have HV := hideG (show ViewAt w _ _ _ _ _ V from ⟨hT, hO, hM, hP, hQ⟩)
  have HC := hideG (checkV_any _ _ _ _ _ V W0 (HV.out.below hbw) hS hl)
  have HW0 := hideG hW0
  have h4l : V.top.length ≤ 1000 := hl.2.2.2
  have h2l : V.modal.length ≤ 500 := hl.2.1
  have p0 := P0.out
  have p1 := P1.out
  have p2 := P2.out
  have p3 := P3.out
  have p4 := P4.out
  clear hW0 hT hO hM hP hQ hS hl hbw
  have HN := hideG hne
  have hcd := check_bad hne
  generalize checkV V = c at *
  clear hne
  refine callsIn_of_wp_marks Tryz.func25 rfl trivial ?_ rfl
  simp only [Tryz.ntmps25, List.size_toArray, List.length_cons, List.length_nil, Nat.reduceAdd, Nat.reduceSub, Array.replicate_succ, Array.replicate_zero, List.push_toArray, List.append_toArray, List.nil_append, List.cons_append]
  gi_wp2_with fail
  refine ⟨trivial, ?_⟩
  gi_at_call 24
  rw [HW0.out]
  refine CallsIn.mono (callsIn_wide.2 HC.out) ?_
  rintro ex w1 ⟨rfl, hb1⟩
  have HB1 := hideG (HB0.out.trans (hb1.mono HB0.out.size))
  have r0 := cell_below hb1 PR.out.1
  have r1 := frozen_below hb1 PR.out.1 PR.out.2
  clear hb1 p0 p1 p2 p3 p4
  rcases hcd with rfl | rfl
  all_goals
    gi_wp2_with fail
    have hc5 := World.cell?_setCell_same' w1 ⟨w.heap.size + 1, 0, none⟩ (.int .i64 (-1)) (by rw [r0]; rfl)
    refine ⟨.int .i64 (-1), ?_, rfl, HB1.out.setCell (p := ⟨w.heap.size + 1, 0, none⟩) (by simp) _⟩
    simp [results, Tryz.f25, go_sem, hc5]
set_option maxRecDepth 100000 in
set_option maxHeartbeats 4000000 in
theorem highOk_in (tv ov mv pv qv : Value) (V : Vw) (w : World) (hV : ViewAt w tv ov mv pv qv V) (hS : Sane V.tree) (hl : smallL V) (hck : checkV V = 0) :
    CallsIn Fence.wide 6 Tryz.prog 25 #[.agg #[tv, ov, mv, pv, qv]] w fun x w' => x = .returned (.int .i64 (highV V)) ∧ Below w.heap.size w w' := by
  obtain ⟨hT, hO, hM, hP, hQ⟩ := hV
  obtain ⟨ta, tc, rfl⟩ := hT.shape
  obtain ⟨oa, oc, rfl⟩ := hO.shape
  obtain ⟨ma, mc, rfl⟩ := hM.shape
  obtain ⟨pa, pc, rfl⟩ := hP.shape
  obtain ⟨qa, qc, rfl⟩ := hQ.shape
  obtain ⟨W0, hW0⟩ : ∃ W0, (w.alloc (.cells #[.slice ta V.tree.length tc, .slice oa V.op.length oc, .slice ma V.modal.length mc, .slice pa V.pops.length pc, .slice qa V.top.length qc] 27)).alloc (.cells #[.int .i64 0] 3) = W0 := ⟨_, rfl⟩
  have hbw : Below w.heap.size w W0 := by rw [← hW0]; exact ((Below.refl _ w).alloc (Nat.le_refl _) _).alloc (by simp) _
  have HB0 := hideG hbw
  have P0 := hideG (show W0.cell? ⟨w.heap.size, 0, none⟩ = some (.slice ta V.tree.length tc) by rw [← hW0]; exact cell_alloc_l _ (by simp))
  have P1 := hideG (show W0.cell? ⟨w.heap.size, 1, none⟩ = some (.slice oa V.op.length oc) by rw [← hW0]; exact cell_alloc_l _ (by simp))
  have P2 := hideG (show W0.cell? ⟨w.heap.size, 2, none⟩ = some (.slice ma V.modal.length mc) by rw [← hW0]; exact cell_alloc_l _ (by simp))
  have P3 := hideG (show W0.cell? ⟨w.heap.size, 3, none⟩ = some (.slice pa V.pops.length pc) by rw [← hW0]; exact cell_alloc_l _ (by simp))
  have P4 := hideG (show W0.cell? ⟨w.heap.size, 4, none⟩ = some (.slice qa V.top.length qc) by rw [← hW0]; exact cell_alloc_l _ (by simp))
  have PR := hideG (show W0.cell? ⟨w.heap.size + 1, 0, none⟩ = some (.int .i64 0) ∧ W0.frozen? ⟨w.heap.size + 1, 0, none⟩ = false by
    rw [← hW0]
    have := cell_new_l (w.alloc (.cells #[.slice ta V.tree.length tc, .slice oa V.op.length oc, .slice ma V.modal.length mc, .slice pa V.pops.length pc, .slice qa V.top.length qc] 27)) (.int .i64 0) 3
    rw [World.size_alloc] at this
    exact this)
  have HV := hideG (show ViewAt w _ _ _ _ _ V from ⟨hT, hO, hM, hP, hQ⟩)
  have HC := hideG (checkV_any _ _ _ _ _ V W0 (HV.out.below hbw) hS hl)
  have HW0 := hideG hW0
  have h4l : V.top.length ≤ 1000 := hl.2.2.2
  have h2l : V.modal.length ≤ 500 := hl.2.1
  have p0 := P0.out
  have p1 := P1.out
  have p2 := P2.out
  have p3 := P3.out
  have p4 := P4.out
  clear hW0 hT hO hM hP hQ hS hl hbw
  refine callsIn_of_wp_marks Tryz.func25 rfl trivial ?_ rfl
  simp only [Tryz.ntmps25, List.size_toArray, List.length_cons, List.length_nil, Nat.reduceAdd, Nat.reduceSub, Array.replicate_succ, Array.replicate_zero, List.push_toArray, List.append_toArray, List.nil_append, List.cons_append]
  gi_wp2_with fail
  refine ⟨trivial, ?_⟩
  gi_at_call 24
  rw [HW0.out]
  refine CallsIn.mono (callsIn_wide.2 (by have := HC.out; rw [hck] at this; exact this)) ?_
  rintro ex w1 ⟨rfl, hb1⟩
  have HB1 := hideG (HB0.out.trans (hb1.mono HB0.out.size))
  have HX1 := hideG hb1
  have hs1 := hb1.size
  have hs0 : W0.heap.size = w.heap.size + 2 := by rw [← HW0.out]; simp
  have p0 := cell_below hb1 P0.out
  have p1 := cell_below hb1 P1.out
  have p2 := cell_below hb1 P2.out
  have p3 := cell_below hb1 P3.out
  have p4 := cell_below hb1 P4.out
  have r0 := cell_below hb1 PR.out.1
  have r1 := frozen_below hb1 PR.out.1 PR.out.2
  have P2' := hideG p2
  have R0 := hideG r0
  have R1 := hideG r1
  clear hb1
  gi_wp2_with fail
  refine ⟨trivial, ?_⟩
  gi_at_call 79
  refine (backI0_in _ _ _ _ _).mono ?_
  rintro ex wz ⟨rfl, hwz⟩
  obtain rfl : _ = wz := hwz.symm
  clear p0 p1 p2 p3 p4 r0 r1
  gi_wp2_with fail
  obtain ⟨W2, hW2⟩ : ∃ W2, w1.alloc (.cells #[.slice qa V.top.length qc] 24) = W2 := ⟨_, rfl⟩
  have c2 := cell_new_l w1 (.slice qa V.top.length qc) 24
  rw [hW2] at c2
  have hb2 : Below w1.heap.size w1 W2 := by rw [← hW2]; exact (Below.refl _ w1).alloc (Nat.le_refl _) _
  have HB2 := HB1.out.trans (hb2.mono HB1.out.size)
  rw [hW2]
  refine wpIn_rangeFunc_ownF rfl (by omega) (gf := 123) (lb := #[.pointer (some ⟨w1.heap.size, 0, none⟩)]) rfl trivial (enters_of Tryz.func123 (by kernel_rfl) rfl)
    (back_ints V.top (by omega) qa qc w1.heap.size W2 (Below W2.heap.size) (fun h1 h2 => h1.trans h2) (fun _ h => h) (fun W hW => ⟨cell_below hW c2.1, (HV.out.top.below HB2).below hW⟩)) (fun h1 h2 => h1.trans h2) (belowK_b (Nat.le_refl _)) (Below.refl _ _) (fun _ => rfl)
    (fun pre W => ((∀ y ∈ pre, containsB V.modal (V.top.getD y 0) = false) ∧ W.cell? ⟨w.heap.size, 2, none⟩ = some (.slice ma V.modal.length mc) ∧ W.cell? ⟨w.heap.size + 1, 0, none⟩ = some (.int .i64 0) ∧ W.frozen? ⟨w.heap.size + 1, 0, none⟩ = false) ∧ Below w.heap.size w W)
    (fun c pre W => (c = .ret ∧ (∃ pre' x, pre = pre' ++ [x] ∧ (∀ y ∈ pre', containsB V.modal (V.top.getD y 0) = false) ∧ containsB V.modal (V.top.getD x 0) = true ∧ W.cell? ⟨w.heap.size + 1, 0, none⟩ = some (.int .i64 (V.top.getD x 0)))) ∧ Below w.heap.size w W)
    (OwnFrom.and (Own.from (fun s A B row hs hg hr => ⟨hs.1, cell_kept hs.2.1 hg hr, cell_kept hs.2.2.1 hg hr, (frozen_kept hs.2.2.1 hg hr).trans hs.2.2.2⟩) _) (ownFrom_below (Nat.le_refl _) HB2.size))
    (fun c => OwnFrom.and (Own.from (fun s A B row hs hg hr => by
      obtain ⟨h1, pre', x, h2, h3, h4, h5⟩ := hs
      exact ⟨h1, pre', x, h2, h3, h4, cell_kept h5 hg hr⟩) _) (ownFrom_below (Nat.le_refl _) HB2.size))
    ⟨⟨by simp, cell_below hb2 P2'.out, cell_below hb2 R0.out, frozen_below hb2 R0.out R1.out⟩, HB2⟩
    (fun x => { tmps := #[.agg #[.slice ta V.tree.length tc, .slice oa V.op.length oc, .slice ma V.modal.length mc, .slice pa V.pops.length pc, .slice qa V.top.length qc], .pointer (some ⟨w.heap.size, 0, none⟩), .pointer (some ⟨w.heap.size + 1, 0, none⟩), undef, .int .i64 (V.top.getD x 0), .agg #[.slice ta V.tree.length tc, .slice oa V.op.length oc, .slice ma V.modal.length mc, .slice pa V.pops.length pc, .slice qa V.top.length qc], .int .i64 0, .bool false, .pointer (some ⟨w.heap.size, 4, none⟩), .slice qa V.top.length qc, .func (.func 123) #[] #[.pointer (some ⟨w1.heap.size, 0, none⟩)], .int .i64 (x : Int), .int .i64 (V.top.getD x 0), undef, undef, undef, undef, undef], defers := [] }) ?assign ?body ?done ?stop
  case assign =>
    intro l x W K hK
    simp only [backEI]
    generalize V.top.getD x 0 = y at *
    gi_wp2
    exact hK
  case body =>
    rintro l pre x W ⟨⟨hp, hcm, hcr, hfr⟩, hB⟩ _
    have HP := hideG hp
    have HBB := hideG hB
    have HCT := hideG (contains_any V.modal _ (V.top.getD x 0) W (HV.out.modal.below hB) (by omega))
    clear hp hB
    cases hcn : containsB V.modal (V.top.getD x 0)
    · rw [hcn] at HCT
      have HN := hideG hcn
      clear hcn
      have HGEN := hideG (show ∀ y ∈ pre ++ [x], containsB V.modal (V.top.getD y 0) = false from fun y hy => (List.mem_append.1 hy).elim (HP.out y) (fun e => by simp at e; subst e; exact HN.out))
      generalize hy : V.top.getD x 0 = y at HCT HN ⊢
      clear hy
      gi_wp2_with fail
      refine ⟨trivial, ?_⟩
      gi_at_call 73
      refine CallsIn.mono (CallsIn.inRound l (callsIn_wide.2 HCT.out)) ?_
      rintro ex w3 ⟨rfl, hw3⟩
      obtain rfl : _ = w3 := hw3.symm
      gi_wp2_with fail
      exact ⟨KeepsOthers.refl _, Below.refl _ _, ⟨HGEN.out, hcm, hcr, hfr⟩, HBB.out⟩
    · rw [hcn] at HCT
      have HN := hideG hcn
      clear hcn
      have HY := hideG (show ∃ y, y = V.top.getD x 0 from ⟨_, rfl⟩)
      obtain ⟨y, hy⟩ := HY.out
      rw [← hy] at HCT ⊢
      have HYY := hideG hy
      clear hy HY
      gi_wp2_with fail
      refine ⟨trivial, ?_⟩
      gi_at_call 73
      refine CallsIn.mono (CallsIn.inRound l (callsIn_wide.2 HCT.out)) ?_
      rintro ex w3 ⟨rfl, hw3⟩
      obtain rfl : _ = w3 := hw3.symm
      gi_wp2_with fail
      exact ⟨KeepsOthers.setCell _ _ _, ⟨rfl, pre, x, rfl, HP.out, HN.out, by rw [← HYY.out]; exact World.cell?_setCell_same' _ _ _ (by rw [hcr]; rfl)⟩, HBB.out.setCell (p := ⟨w.heap.size + 1, 0, none⟩) (by simp) _⟩
  case done =>
    rintro D ys W hD rfl ⟨⟨hne, _, hcr, hfr⟩, hB⟩ hK
    have HQ := hideG (show highV V = -1 from high_none (fun j hj => hne j (by simpa using hj)))
    clear hne
    gi_wp2
    have hK' := (KeepsOthers.setCell W ⟨w.heap.size + 1, 0, none⟩ (.int .i64 (-1))).same D _ hK rfl
    refine ⟨by simp, .inl ⟨_, _, rfl, run_takeDeferred hK', ?_⟩⟩
    have hc5 := cell_kept (World.cell?_setCell_same' W ⟨w.heap.size + 1, 0, none⟩ (.int .i64 (-1)) (by rw [hcr]; rfl)) (grownBy_putObj' _ D (.deferred none)) (fun r e => by cases e; exact ⟨_, hK', rfl⟩)
    refine ⟨.int .i64 (-1), ?_, by rw [HQ.out], (hB.setCell (p := ⟨w.heap.size + 1, 0, none⟩) (by simp) _).trans (belowK_b (w := w) (Nat.le_refl _) _ D _ _ (by have := HB2.size; (try simp at hD); omega) hK' rfl rfl)⟩
    simp [results, Tryz.f25, go_sem, hc5]
  case stop =>
    rintro D c pre W hD hpre ⟨⟨rfl, pre', x, rfl, hno, hyes, hcr⟩, hB⟩ hK
    have HQ := hideG (show highV V = V.top.getD x 0 from high_first hpre hno hyes)
    clear hno hyes
    gi_wp2
    refine ⟨by simp, .inl ⟨_, _, rfl, run_takeDeferred hK, ?_⟩⟩
    have hc5 := cell_kept hcr (grownBy_putObj' _ D (.deferred none)) (fun r e => by cases e; exact ⟨_, hK, rfl⟩)
    refine ⟨.int .i64 (V.top.getD x 0), ?_, by rw [HQ.out], hB.trans (belowK_b (w := w) (Nat.le_refl _) W D _ _ (by have := HB2.size; (try simp at hD); omega) hK rfl rfl)⟩
    simp [results, Tryz.f25, go_sem, hc5]
end Go.Proofs.YtclhimodopgeoaaGreat

namespace Go.Proofs.YtclhimodopgeoaaGreat
open Go.RowKit

def ls10 : List Nd := [⟨0, 0, -1, [1, 2], -1, -1, []⟩, ⟨1, 2, 0, [], -1, -1, []⟩, ⟨1, 0, 0, [], -1, -1, [(6, 1)]⟩, ⟨1, 2, -1, [], -1, -1, []⟩]
def ls10rows (s : Nat) : List (Nd × Value × Value) := [(⟨0, 0, -1, [1, 2], -1, -1, []⟩, .slice (some ⟨s + 0, 0, none⟩) 2 2, .slice none 0 0), (⟨1, 2, 0, [], -1, -1, []⟩, .slice none 0 0, .slice none 0 0), (⟨1, 0, 0, [], -1, -1, [(6, 1)]⟩, .slice none 0 0, .slice (some ⟨s + 1, 0, none⟩) 1 1), (⟨1, 2, -1, [], -1, -1, []⟩, .slice none 0 0, .slice none 0 0)]
def ls10objs (s : Nat) : List Obj := [.cells (intCells [1, 2]).toArray 3, .cells (attrCells [(6, 1)]).toArray 60, .cells (nodesL (ls10rows s)).toArray 57]
theorem ls10_tree (w : World) : TreeAt (allocs w (ls10objs w.heap.size)) (.slice (some ⟨w.heap.size + 2, 0, none⟩) 4 4) ls10 :=
  tree_lit (ls10rows w.heap.size) (allocs_at w _ 2 _ rfl) rfl (List.forall_mem_cons.mpr ⟨⟨ints_lit [1, 2] (allocs_at w _ 0 _ rfl) rfl, attrs_none _⟩, List.forall_mem_cons.mpr ⟨⟨ints_none _, attrs_none _⟩, List.forall_mem_cons.mpr ⟨⟨ints_none _, attrs_lit [(6, 1)] (allocs_at w _ 1 _ rfl) rfl⟩, List.forall_mem_cons.mpr ⟨⟨ints_none _, attrs_none _⟩, fun p h => by cases h⟩⟩⟩⟩)

def lsT : Vw := ⟨ls10, [], [], [], []⟩
def lsA : Vw := { lsT with modal := lsT.modal ++ [1], top := lsT.top ++ [1] }
def lsB : Vw := { lsA with pops := lsA.pops ++ [(⟨2, 1⟩ : Sh)], top := lsA.top ++ [(⟨2, 1⟩ : Sh).node] }
def lsC : Vw := closeL lsB 1
def lsF : Vw := ⟨ls10, [], [3, 1], [], [3, 1]⟩
def lsE : Vw := ⟨ls10, [2], [], [], []⟩

set_option maxRecDepth 100000 in
set_option maxHeartbeats 8000000 in
theorem live10_any (w : World) : Calls Tryz.prog 19 #[] w fun e w' => e = .returned (.bool true) ∧ Below w.heap.size w w' := by
  have HSN := hideG (sane_of (T := ls10) (by decide))
  have HT := hideG (ls10_tree w)
  have HB := hideG (allocs_below w (ls10objs w.heap.size))
  have hz : Below (allocs w (ls10objs w.heap.size)).heap.size (allocs w (ls10objs w.heap.size)) ((allocs w (ls10objs w.heap.size)).alloc (.cells #[(.slice (some ⟨w.heap.size + 2, 0, none⟩) 4 4), (.slice none 0 0), (.slice none 0 0), (.slice none 0 0), (.slice none 0 0)] 27)) := alB _ _
  have HTn := hideG (HT.out.below hz)
  have HBn := hideG (HB.out.trans ((hz).mono HB.out.size))
  clear HT HB
  have HT := HTn
  clear HTn
  have HB := HBn
  clear HBn
  have HVT := hideG (show ViewAt _ (.slice (some ⟨w.heap.size + 2, 0, none⟩) 4 4) (.slice none 0 0) (.slice none 0 0) (.slice none 0 0) (.slice none 0 0) lsT from ⟨HT.out, ints_none _, ints_none _, shs_none _, ints_none _⟩)
  clear hz
  have HC1 := hideG (shaped (dlgModal _ _ _ _ _ lsT _ HVT.out HSN.out ⟨by decide, by decide, by decide, by decide⟩ 1 true rfl (by decide) (by decide +kernel) (by decide +kernel) (by decide +kernel) (by decide +kernel)) 4 0 1 0 1 rfl rfl rfl rfl rfl)
  clear HVT
  go_enter Tryz.func19, Tryz.ntmps19
  go_wp2_with fail
  refine HC1.out.mono ?_
  rintro ex w1 ⟨a10, c10, a11, c11, a12, c12, a13, c13, a14, c14, rfl, hv1, hb1⟩
  clear HC1
  have HTn := hideG (HT.out.below hb1)
  have HBn := hideG (HB.out.trans ((hb1).mono HB.out.size))
  clear HT HB
  have HT := HTn
  clear HTn
  have HB := HBn
  clear HBn
  obtain ⟨X1, hX1⟩ : ∃ X, w1.alloc (.cells #[.slice a10 4 c10, .slice a11 0 c11, .slice a12 1 c12, .slice a13 0 c13, .slice a14 1 c14] 27) = X := ⟨_, rfl⟩
  have hz1 : Below w1.heap.size w1 X1 := by rw [← hX1]; exact alB _ _
  have HTn := hideG (HT.out.below hz1)
  have HBn := hideG (HB.out.trans ((hz1).mono HB.out.size))
  clear HT HB
  have HT := HTn
  clear HTn
  have HB := HBn
  clear HBn
  have HX1 := hideG hX1
  have Ba := hideG (show BoxV X1 w1.heap.size (.slice a10 4 c10) (.slice a11 0 c11) (.slice a12 1 c12) (.slice a13 0 c13) (.slice a14 1 c14) by rw [← hX1]; exact BoxV.new _ _ _ _ _ _ _)
  have Va := hideG (hv1.below hz1)
  clear hX1 hz1 hv1 hb1
  go_upto_region 4 with fail
  rw [HX1.out]
  refine wp_slots (fun z1 => { tmps := #[z1 0, .slice (some ⟨w.heap.size + 1 + 1, 0, none⟩) 4 4, z1 2, .pointer (some ⟨w1.heap.size, 0, none⟩), .int .i64 0, z1 5, z1 6, z1 7, z1 8, z1 9, z1 10, z1 11, z1 12, z1 13, z1 14, z1 15, z1 16, z1 17, z1 18, z1 19, z1 20, z1 21, z1 22, z1 23, z1 24, z1 25, z1 26, z1 27, z1 28, z1 29, z1 30, z1 31, z1 32, z1 33, z1 34, z1 35, z1 36, z1 37, z1 38, z1 39, z1 40, z1 41, z1 42, z1 43, z1 44, z1 45, z1 46, z1 47, z1 48, z1 49, z1 50, z1 51, z1 52, z1 53, z1 54, z1 55, z1 56, z1 57, z1 58, z1 59, z1 60, z1 61, z1 62, z1 63, z1 64, z1 65, z1 66, z1 67, z1 68, z1 69, z1 70, z1 71, z1 72, z1 73, z1 74, z1 75, z1 76, z1 77, z1 78, z1 79, z1 80, z1 81, z1 82, z1 83, z1 84, z1 85, z1 86, z1 87, z1 88, z1 89, z1 90, z1 91, z1 92, z1 93, z1 94, z1 95, z1 96, z1 97, z1 98, z1 99, z1 100, z1 101, z1 102, z1 103, z1 104, z1 105, z1 106, z1 107, z1 108, z1 109, z1 110, z1 111, z1 112, z1 113, z1 114, z1 115, z1 116, z1 117, z1 118, z1 119, z1 120, z1 121, z1 122, z1 123, z1 124, z1 125, z1 126, z1 127, z1 128, z1 129, z1 130, z1 131, z1 132], defers := [] }) (by rfl) (fun z1 => ?_)
  have p0 := Ba.out.c0
  have p1 := Ba.out.c1
  have p2 := Ba.out.c2
  have p3 := Ba.out.c3
  have p4 := Ba.out.c4
  have plt := Ba.out.lt
  go_wp2_with fail
  clear p0 p1 p2 p3 p4 plt
  refine (shaped (popOpen _ _ _ _ _ lsA _ Va.out HSN.out ⟨by decide, by decide, by decide, by decide⟩ ⟨2, 1⟩ (by decide) (by decide +kernel) (by decide +kernel) (by decide +kernel) (by decide +kernel) (by decide +kernel)) 4 0 1 1 2 rfl rfl rfl rfl rfl).mono ?_
  rintro ex w2 ⟨a20, c20, a21, c21, a22, c22, a23, c23, a24, c24, rfl, hv2, hb2⟩
  have HTn := hideG (HT.out.below hb2)
  have Ban := hideG (Ba.out.below hb2)
  have Van := hideG (Va.out.below hb2)
  have HBn := hideG (HB.out.trans ((hb2).mono HB.out.size))
  clear HT Ba Va HB
  have HT := HTn
  clear HTn
  have Ba := Ban
  clear Ban
  have Va := Van
  clear Van
  have HB := HBn
  clear HBn
  obtain ⟨X2, hX2⟩ : ∃ X, w2.alloc (.cells #[.slice a20 4 c20, .slice a21 0 c21, .slice a22 1 c22, .slice a23 1 c23, .slice a24 2 c24] 27) = X := ⟨_, rfl⟩
  have hz2 : Below w2.heap.size w2 X2 := by rw [← hX2]; exact alB _ _
  have HTn := hideG (HT.out.below hz2)
  have Ban := hideG (Ba.out.below hz2)
  have Van := hideG (Va.out.below hz2)
  have HBn := hideG (HB.out.trans ((hz2).mono HB.out.size))
  clear HT Ba Va HB
  have HT := HTn
  clear HTn
  have Ba := Ban
  clear Ban
  have Va := Van
  clear Van
  have HB := HBn
  clear HBn
  have HX2 := hideG hX2
  have Bb := hideG (show BoxV X2 w2.heap.size (.slice a20 4 c20) (.slice a21 0 c21) (.slice a22 1 c22) (.slice a23 1 c23) (.slice a24 2 c24) by rw [← hX2]; exact BoxV.new _ _ _ _ _ _ _)
  have Vb := hideG (hv2.below hz2)
  clear hX2 hz2 hv2 hb2
  clear Ba Va
  go_upto_region 5 with fail
  rw [HX2.out]
  refine wp_slots (fun z2 => { tmps := #[z2 0, .slice (some ⟨w.heap.size + 1 + 1, 0, none⟩) 4 4, z2 2, z2 3, .int .i64 0, .pointer (some ⟨w2.heap.size, 0, none⟩), .int .i64 0, z2 7, z2 8, z2 9, z2 10, z2 11, z2 12, z2 13, z2 14, z2 15, z2 16, z2 17, z2 18, z2 19, z2 20, z2 21, z2 22, z2 23, z2 24, z2 25, z2 26, z2 27, z2 28, z2 29, z2 30, z2 31, z2 32, z2 33, z2 34, z2 35, z2 36, z2 37, z2 38, z2 39, z2 40, z2 41, z2 42, z2 43, z2 44, z2 45, z2 46, z2 47, z2 48, z2 49, z2 50, z2 51, z2 52, z2 53, z2 54, z2 55, z2 56, z2 57, z2 58, z2 59, z2 60, z2 61, z2 62, z2 63, z2 64, z2 65, z2 66, z2 67, z2 68, z2 69, z2 70, z2 71, z2 72, z2 73, z2 74, z2 75, z2 76, z2 77, z2 78, z2 79, z2 80, z2 81, z2 82, z2 83, z2 84, z2 85, z2 86, z2 87, z2 88, z2 89, z2 90, z2 91, z2 92, z2 93, z2 94, z2 95, z2 96, z2 97, z2 98, z2 99, z2 100, z2 101, z2 102, z2 103, z2 104, z2 105, z2 106, z2 107, z2 108, z2 109, z2 110, z2 111, z2 112, z2 113, z2 114, z2 115, z2 116, z2 117, z2 118, z2 119, z2 120, z2 121, z2 122, z2 123, z2 124, z2 125, z2 126, z2 127, z2 128, z2 129, z2 130, z2 131, z2 132], defers := [] }) (by rfl) (fun z2 => ?_)
  have p0 := Bb.out.c0
  have p1 := Bb.out.c1
  have p2 := Bb.out.c2
  have p3 := Bb.out.c3
  have p4 := Bb.out.c4
  have plt := Bb.out.lt
  go_wp2_with fail
  clear p0 p1 p2 p3 p4 plt
  refine (shaped (dlgState _ _ _ _ _ lsB _ Vb.out HSN.out ⟨by decide, by decide, by decide, by decide⟩ 1 false (by decide +kernel) (by decide +kernel) (by decide +kernel) (by decide +kernel)) 4 0 1 1 2 rfl rfl rfl rfl rfl).mono ?_
  rintro ex w3 ⟨a30, c30, a31, c31, a32, c32, a33, c33, a34, c34, rfl, hv3, hb3⟩
  have HTn := hideG (HT.out.below hb3)
  have Bbn := hideG (Bb.out.below hb3)
  have Vbn := hideG (Vb.out.below hb3)
  have HBn := hideG (HB.out.trans ((hb3).mono HB.out.size))
  clear HT Bb Vb HB
  have HT := HTn
  clear HTn
  have Bb := Bbn
  clear Bbn
  have Vb := Vbn
  clear Vbn
  have HB := HBn
  clear HBn
  obtain ⟨X3, hX3⟩ : ∃ X, w3.alloc (.cells #[.slice a30 4 c30, .slice a31 0 c31, .slice a32 1 c32, .slice a33 1 c33, .slice a34 2 c34] 27) = X := ⟨_, rfl⟩
  have hz3 : Below w3.heap.size w3 X3 := by rw [← hX3]; exact alB _ _
  have HTn := hideG (HT.out.below hz3)
  have Bbn := hideG (Bb.out.below hz3)
  have Vbn := hideG (Vb.out.below hz3)
  have HBn := hideG (HB.out.trans ((hz3).mono HB.out.size))
  clear HT Bb Vb HB
  have HT := HTn
  clear HTn
  have Bb := Bbn
  clear Bbn
  have Vb := Vbn
  clear Vbn
  have HB := HBn
  clear HBn
  have HX3 := hideG hX3
  clear hX3 hz3 hv3 hb3
  go_upto_region 6 with fail
  rw [HX3.out]
  refine wp_slots (fun z3 => { tmps := #[z3 0, .slice (some ⟨w.heap.size + 1 + 1, 0, none⟩) 4 4, z3 2, z3 3, .int .i64 0, .pointer (some ⟨w2.heap.size, 0, none⟩), .int .i64 0, z3 7, .int .i64 9, z3 9, z3 10, z3 11, z3 12, z3 13, z3 14, z3 15, z3 16, z3 17, z3 18, z3 19, z3 20, z3 21, z3 22, z3 23, z3 24, z3 25, z3 26, z3 27, z3 28, z3 29, z3 30, z3 31, z3 32, z3 33, z3 34, z3 35, z3 36, z3 37, z3 38, z3 39, z3 40, z3 41, z3 42, z3 43, z3 44, z3 45, z3 46, z3 47, z3 48, z3 49, z3 50, z3 51, z3 52, z3 53, z3 54, z3 55, z3 56, z3 57, z3 58, z3 59, z3 60, z3 61, z3 62, z3 63, z3 64, z3 65, z3 66, z3 67, z3 68, z3 69, z3 70, z3 71, z3 72, z3 73, z3 74, z3 75, z3 76, z3 77, z3 78, z3 79, z3 80, z3 81, z3 82, z3 83, z3 84, z3 85, z3 86, z3 87, z3 88, z3 89, z3 90, z3 91, z3 92, z3 93, z3 94, z3 95, z3 96, z3 97, z3 98, z3 99, z3 100, z3 101, z3 102, z3 103, z3 104, z3 105, z3 106, z3 107, z3 108, z3 109, z3 110, z3 111, z3 112, z3 113, z3 114, z3 115, z3 116, z3 117, z3 118, z3 119, z3 120, z3 121, z3 122, z3 123, z3 124, z3 125, z3 126, z3 127, z3 128, z3 129, z3 130, z3 131, z3 132], defers := [] }) (by rfl) (fun z3 => ?_)
  have p0 := Bb.out.c0
  have p1 := Bb.out.c1
  have p2 := Bb.out.c2
  have p3 := Bb.out.c3
  have p4 := Bb.out.c4
  have plt := Bb.out.lt
  go_wp2_with fail
  clear p0 p1 p2 p3 p4 plt
  refine (shaped (dlgKind _ _ _ _ _ lsB _ Vb.out HSN.out ⟨by decide, by decide, by decide, by decide⟩ 3 false (by decide +kernel) (by decide +kernel) (by decide +kernel)) 4 0 1 1 2 rfl rfl rfl rfl rfl).mono ?_
  rintro ex w4 ⟨a40, c40, a41, c41, a42, c42, a43, c43, a44, c44, rfl, hv4, hb4⟩
  have HTn := hideG (HT.out.below hb4)
  have Bbn := hideG (Bb.out.below hb4)
  have Vbn := hideG (Vb.out.below hb4)
  have HBn := hideG (HB.out.trans ((hb4).mono HB.out.size))
  clear HT Bb Vb HB
  have HT := HTn
  clear HTn
  have Bb := Bbn
  clear Bbn
  have Vb := Vbn
  clear Vbn
  have HB := HBn
  clear HBn
  obtain ⟨X4, hX4⟩ : ∃ X, w4.alloc (.cells #[.slice a40 4 c40, .slice a41 0 c41, .slice a42 1 c42, .slice a43 1 c43, .slice a44 2 c44] 27) = X := ⟨_, rfl⟩
  have hz4 : Below w4.heap.size w4 X4 := by rw [← hX4]; exact alB _ _
  have HTn := hideG (HT.out.below hz4)
  have Bbn := hideG (Bb.out.below hz4)
  have Vbn := hideG (Vb.out.below hz4)
  have HBn := hideG (HB.out.trans ((hz4).mono HB.out.size))
  clear HT Bb Vb HB
  have HT := HTn
  clear HTn
  have Bb := Bbn
  clear Bbn
  have Vb := Vbn
  clear Vbn
  have HB := HBn
  clear HBn
  have HX4 := hideG hX4
  clear hX4 hz4 hv4 hb4
  go_upto_region 7 with fail
  rw [HX4.out]
  refine wp_slots (fun z4 => { tmps := #[z4 0, .slice (some ⟨w.heap.size + 1 + 1, 0, none⟩) 4 4, z4 2, z4 3, .int .i64 0, .pointer (some ⟨w2.heap.size, 0, none⟩), .int .i64 0, z4 7, .int .i64 9, z4 9, .int .i64 3, z4 11, z4 12, z4 13, z4 14, z4 15, z4 16, z4 17, z4 18, z4 19, z4 20, z4 21, z4 22, z4 23, z4 24, z4 25, z4 26, z4 27, z4 28, z4 29, z4 30, z4 31, z4 32, z4 33, z4 34, z4 35, z4 36, z4 37, z4 38, z4 39, z4 40, z4 41, z4 42, z4 43, z4 44, z4 45, z4 46, z4 47, z4 48, z4 49, z4 50, z4 51, z4 52, z4 53, z4 54, z4 55, z4 56, z4 57, z4 58, z4 59, z4 60, z4 61, z4 62, z4 63, z4 64, z4 65, z4 66, z4 67, z4 68, z4 69, z4 70, z4 71, z4 72, z4 73, z4 74, z4 75, z4 76, z4 77, z4 78, z4 79, z4 80, z4 81, z4 82, z4 83, z4 84, z4 85, z4 86, z4 87, z4 88, z4 89, z4 90, z4 91, z4 92, z4 93, z4 94, z4 95, z4 96, z4 97, z4 98, z4 99, z4 100, z4 101, z4 102, z4 103, z4 104, z4 105, z4 106, z4 107, z4 108, z4 109, z4 110, z4 111, z4 112, z4 113, z4 114, z4 115, z4 116, z4 117, z4 118, z4 119, z4 120, z4 121, z4 122, z4 123, z4 124, z4 125, z4 126, z4 127, z4 128, z4 129, z4 130, z4 131, z4 132], defers := [] }) (by rfl) (fun z4 => ?_)
  have p0 := Bb.out.c0
  have p1 := Bb.out.c1
  have p2 := Bb.out.c2
  have p3 := Bb.out.c3
  have p4 := Bb.out.c4
  have plt := Bb.out.lt
  go_wp2_with fail
  clear p0 p1 p2 p3 p4 plt
  refine (shaped (closeOk _ _ _ _ _ lsB _ Vb.out HSN.out ⟨by decide, by decide, by decide, by decide⟩ 1 (by decide) (by decide +kernel) (by decide +kernel) (by decide +kernel)) 4 0 0 1 1 rfl rfl rfl rfl rfl).mono ?_
  rintro ex w5 ⟨a50, c50, a51, c51, a52, c52, a53, c53, a54, c54, rfl, hv5, hb5⟩
  have HTn := hideG (HT.out.below hb5)
  have Bbn := hideG (Bb.out.below hb5)
  have Vbn := hideG (Vb.out.below hb5)
  have HBn := hideG (HB.out.trans ((hb5).mono HB.out.size))
  clear HT Bb Vb HB
  have HT := HTn
  clear HTn
  have Bb := Bbn
  clear Bbn
  have Vb := Vbn
  clear Vbn
  have HB := HBn
  clear HBn
  obtain ⟨X5, hX5⟩ : ∃ X, w5.alloc (.cells #[.slice a50 4 c50, .slice a51 0 c51, .slice a52 0 c52, .slice a53 1 c53, .slice a54 1 c54] 27) = X := ⟨_, rfl⟩
  have hz5 : Below w5.heap.size w5 X5 := by rw [← hX5]; exact alB _ _
  have HTn := hideG (HT.out.below hz5)
  have Bbn := hideG (Bb.out.below hz5)
  have Vbn := hideG (Vb.out.below hz5)
  have HBn := hideG (HB.out.trans ((hz5).mono HB.out.size))
  clear HT Bb Vb HB
  have HT := HTn
  clear HTn
  have Bb := Bbn
  clear Bbn
  have Vb := Vbn
  clear Vbn
  have HB := HBn
  clear HBn
  have HX5 := hideG hX5
  have Bc := hideG (show BoxV X5 w5.heap.size (.slice a50 4 c50) (.slice a51 0 c51) (.slice a52 0 c52) (.slice a53 1 c53) (.slice a54 1 c54) by rw [← hX5]; exact BoxV.new _ _ _ _ _ _ _)
  have Vc := hideG (hv5.below hz5)
  clear hX5 hz5 hv5 hb5
  go_upto_region 8 with fail
  rw [HX5.out]
  refine wp_slots (fun z5 => { tmps := #[z5 0, .slice (some ⟨w.heap.size + 1 + 1, 0, none⟩) 4 4, z5 2, z5 3, .int .i64 0, .pointer (some ⟨w2.heap.size, 0, none⟩), .int .i64 0, z5 7, .int .i64 9, z5 9, .int .i64 3, .pointer (some ⟨w5.heap.size, 0, none⟩), .int .i64 0, z5 13, z5 14, z5 15, z5 16, z5 17, z5 18, z5 19, z5 20, z5 21, z5 22, z5 23, z5 24, z5 25, z5 26, z5 27, z5 28, z5 29, z5 30, z5 31, z5 32, z5 33, z5 34, z5 35, z5 36, z5 37, z5 38, z5 39, z5 40, z5 41, z5 42, z5 43, z5 44, z5 45, z5 46, z5 47, z5 48, z5 49, z5 50, z5 51, z5 52, z5 53, z5 54, z5 55, z5 56, z5 57, z5 58, z5 59, z5 60, z5 61, z5 62, z5 63, z5 64, z5 65, z5 66, z5 67, z5 68, z5 69, z5 70, z5 71, z5 72, z5 73, z5 74, z5 75, z5 76, z5 77, z5 78, z5 79, z5 80, z5 81, z5 82, z5 83, z5 84, z5 85, z5 86, z5 87, z5 88, z5 89, z5 90, z5 91, z5 92, z5 93, z5 94, z5 95, z5 96, z5 97, z5 98, z5 99, z5 100, z5 101, z5 102, z5 103, z5 104, z5 105, z5 106, z5 107, z5 108, z5 109, z5 110, z5 111, z5 112, z5 113, z5 114, z5 115, z5 116, z5 117, z5 118, z5 119, z5 120, z5 121, z5 122, z5 123, z5 124, z5 125, z5 126, z5 127, z5 128, z5 129, z5 130, z5 131, z5 132], defers := [] }) (by rfl) (fun z5 => ?_)
  go_wp2_with fail
  have HY5 := hideG ((alB X5 (.cells #[.int .i64 3, .int .i64 1] 3)).trans ((alB (X5.alloc (.cells #[.int .i64 3, .int .i64 1] 3)) (.cells #[.int .i64 3, .int .i64 1] 3)).mono (by simp)))
  have HVF := hideG (show ViewAt ((X5.alloc (.cells #[.int .i64 3, .int .i64 1] 3)).alloc (.cells #[.int .i64 3, .int .i64 1] 3)) (.slice (some ⟨w.heap.size + 2, 0, none⟩) 4 4) (.slice none 0 0) (.slice (some ⟨X5.heap.size, 0, none⟩) 2 2) (.slice none 0 0) (.slice (some ⟨(X5.alloc (.cells #[.int .i64 3, .int .i64 1] 3)).heap.size, 0, none⟩) 2 2) lsF from ⟨HT.out.below HY5.out, ints_none _, (ints_lit [3, 1] (World.alloc_heap_new X5 _) rfl).below (alB _ _), shs_none _, ints_lit [3, 1] (World.alloc_heap_new _ _) rfl⟩)
  have HC6 := hideG (shapedF (fixOk _ _ _ _ _ lsF _ HVF.out HSN.out ⟨by decide, by decide, by decide, by decide⟩ (by decide +kernel) (by decide)) 4 0 1 0 1 1 rfl (by decide +kernel) (by decide +kernel) (by decide +kernel) (by decide +kernel) (by decide +kernel))
  simp only [World.size_alloc] at HC6
  clear HVF
  refine HC6.out.mono ?_
  rintro ex w6 ⟨a60, c60, a61, c61, a62, c62, a63, c63, a64, c64, ga, gc, rfl, hv6, hg6, hb6⟩
  replace hb6 := HY5.out.trans (hb6.mono (by omega))
  have HG := hideG (show IntsAt w6 (.slice ga 1 gc) [3] by rw [show fixG lsF = [3] by decide +kernel] at hg6; exact hg6)
  clear HC6 HY5 hg6
  have HTn := hideG (HT.out.below hb6)
  have Bbn := hideG (Bb.out.below hb6)
  have Vbn := hideG (Vb.out.below hb6)
  have Bcn := hideG (Bc.out.below hb6)
  have Vcn := hideG (Vc.out.below hb6)
  have HBn := hideG (HB.out.trans ((hb6).mono HB.out.size))
  clear HT Bb Vb Bc Vc HB
  have HT := HTn
  clear HTn
  have Bb := Bbn
  clear Bbn
  have Vb := Vbn
  clear Vbn
  have Bc := Bcn
  clear Bcn
  have Vc := Vcn
  clear Vcn
  have HB := HBn
  clear HBn
  have Ob := Bb
  obtain ⟨X6, hX6⟩ : ∃ X, w6.alloc (.cells #[.slice a60 4 c60, .slice a61 0 c61, .slice a62 1 c62, .slice a63 0 c63, .slice a64 1 c64] 27) = X := ⟨_, rfl⟩
  have hz6 : Below w6.heap.size w6 X6 := by rw [← hX6]; exact alB _ _
  have HTn := hideG (HT.out.below hz6)
  have Bbn := hideG (Bb.out.below hz6)
  have Vbn := hideG (Vb.out.below hz6)
  have Bcn := hideG (Bc.out.below hz6)
  have Vcn := hideG (Vc.out.below hz6)
  have HGn := hideG (HG.out.below hz6)
  have HBn := hideG (HB.out.trans ((hz6).mono HB.out.size))
  clear HT Bb Vb Bc Vc HG HB
  have HT := HTn
  clear HTn
  have Bb := Bbn
  clear Bbn
  have Vb := Vbn
  clear Vbn
  have Bc := Bcn
  clear Bcn
  have Vc := Vcn
  clear Vcn
  have HG := HGn
  clear HGn
  have HB := HBn
  clear HBn
  have HX6 := hideG hX6
  have Bk := hideG (show BoxV X6 w6.heap.size (.slice a60 4 c60) (.slice a61 0 c61) (.slice a62 1 c62) (.slice a63 0 c63) (.slice a64 1 c64) by rw [← hX6]; exact BoxV.new _ _ _ _ _ _ _)
  have Vk := hideG (hv6.below hz6)
  clear hX6 hz6 hv6 hb6
  have HSX := hideG (show X6.heap.size = w6.heap.size + 1 by rw [← HX6.out]; simp)
  have p0 := Ob.out.c0
  have p1 := Ob.out.c1
  have p2 := Ob.out.c2
  have p3 := Ob.out.c3
  have p4 := Ob.out.c4
  have plt := Ob.out.lt
  go_wp2_with fail
  rw [HX6.out]
  clear p0 p1 p2 p3 p4 plt
  have HLIT := hideG (show IntsAt (X6.alloc (.cells #[.int .i64 1, .int .i64 2] 3)) (.slice (some ⟨w6.heap.size + 1, 0, none⟩) 2 2) [1, 2] by have := ints_lit [1, 2] (World.alloc_heap_new X6 (.cells #[.int .i64 1, .int .i64 2] 3)) rfl; rw [HSX.out] at this; exact this)
  refine (lints [1, 2] [1, 2] true (by decide) (by decide) _ _ _ ((show IntsAt X6 _ [1, 2] from Vb.out.top).below (alB _ _)) HLIT.out).mono ?_
  rintro ex w7 ⟨rfl, hb7⟩
  have hz7 := (alB X6 (.cells #[.int .i64 1, .int .i64 2] 3)).trans (hb7.mono (by simp))
  clear hb7
  have HTn := hideG (HT.out.below hz7)
  have Bbn := hideG (Bb.out.below hz7)
  have Vbn := hideG (Vb.out.below hz7)
  have Bcn := hideG (Bc.out.below hz7)
  have Vcn := hideG (Vc.out.below hz7)
  have HGn := hideG (HG.out.below hz7)
  have Bkn := hideG (Bk.out.below hz7)
  have Vkn := hideG (Vk.out.below hz7)
  have HBn := hideG (HB.out.trans ((hz7).mono HB.out.size))
  clear HT Bb Vb Bc Vc HG Bk Vk HB
  have HT := HTn
  clear HTn
  have Bb := Bbn
  clear Bbn
  have Vb := Vbn
  clear Vbn
  have Bc := Bcn
  clear Bcn
  have Vc := Vcn
  clear Vcn
  have HG := HGn
  clear HGn
  have Bk := Bkn
  clear Bkn
  have Vk := Vkn
  clear Vkn
  have HB := HBn
  clear HBn
  clear hz7
  have p0 := Bb.out.c0
  have p1 := Bb.out.c1
  have p2 := Bb.out.c2
  have p3 := Bb.out.c3
  have p4 := Bb.out.c4
  have plt := Bb.out.lt
  go_wp2_with fail
  clear p0 p1 p2 p3 p4 plt
  refine (Calls.mono (callsIn_wide.1 (highOk_in _ _ _ _ _ lsB _ Vb.out HSN.out ⟨by decide, by decide, by decide, by decide⟩ (by decide +kernel))) (fun _ _ h => (⟨h.1.trans (by rw [show highV lsB = 1 by decide +kernel]), h.2⟩ : _ = Ending.returned (.int .i64 1) ∧ _))).mono ?_
  rintro ex w8 ⟨rfl, hb8⟩
  have HTn := hideG (HT.out.below hb8)
  have Bbn := hideG (Bb.out.below hb8)
  have Vbn := hideG (Vb.out.below hb8)
  have Bcn := hideG (Bc.out.below hb8)
  have Vcn := hideG (Vc.out.below hb8)
  have HGn := hideG (HG.out.below hb8)
  have Bkn := hideG (Bk.out.below hb8)
  have Vkn := hideG (Vk.out.below hb8)
  have HBn := hideG (HB.out.trans ((hb8).mono HB.out.size))
  clear HT Bb Vb Bc Vc HG Bk Vk HB
  have HT := HTn
  clear HTn
  have Bb := Bbn
  clear Bbn
  have Vb := Vbn
  clear Vbn
  have Bc := Bcn
  clear Bcn
  have Vc := Vcn
  clear Vcn
  have HG := HGn
  clear HGn
  have Bk := Bkn
  clear Bkn
  have Vk := Vkn
  clear Vkn
  have HB := HBn
  clear HBn
  clear hb8
  have p0 := Bc.out.c0
  have p1 := Bc.out.c1
  have p2 := Bc.out.c2
  have p3 := Bc.out.c3
  have p4 := Bc.out.c4
  have plt := Bc.out.lt
  go_wp2_with fail
  clear p0 p1 p2 p3 p4 plt
  refine (lints [2] [2] true (by decide) (by decide) _ _ _ ((show IntsAt w8 _ [2] from Vc.out.top).below (alB _ _)) (ints_lit [2] (World.alloc_heap_new w8 (.cells #[.int .i64 2] 3)) rfl)).mono ?_
  rintro ex w9 ⟨rfl, hb9⟩
  have hz9 := (alB w8 (.cells #[.int .i64 2] 3)).trans (hb9.mono (by simp))
  clear hb9
  have HTn := hideG (HT.out.below hz9)
  have Bbn := hideG (Bb.out.below hz9)
  have Vbn := hideG (Vb.out.below hz9)
  have Bcn := hideG (Bc.out.below hz9)
  have Vcn := hideG (Vc.out.below hz9)
  have HGn := hideG (HG.out.below hz9)
  have Bkn := hideG (Bk.out.below hz9)
  have Vkn := hideG (Vk.out.below hz9)
  have HBn := hideG (HB.out.trans ((hz9).mono HB.out.size))
  clear HT Bb Vb Bc Vc HG Bk Vk HB
  have HT := HTn
  clear HTn
  have Bb := Bbn
  clear Bbn
  have Vb := Vbn
  clear Vbn
  have Bc := Bcn
  clear Bcn
  have Vc := Vcn
  clear Vcn
  have HG := HGn
  clear HGn
  have Bk := Bkn
  clear Bkn
  have Vk := Vkn
  clear Vkn
  have HB := HBn
  clear HBn
  clear hz9
  have p0 := Bc.out.c0
  have p1 := Bc.out.c1
  have p2 := Bc.out.c2
  have p3 := Bc.out.c3
  have p4 := Bc.out.c4
  have plt := Bc.out.lt
  go_wp2_with fail
  clear p0 p1 p2 p3 p4 plt
  refine (Calls.mono (callsIn_wide.1 (highOk_in _ _ _ _ _ lsC _ Vc.out HSN.out ⟨by decide, by decide, by decide, by decide⟩ (by decide +kernel))) (fun _ _ h => (⟨h.1.trans (by rw [show highV lsC = -1 by decide +kernel]), h.2⟩ : _ = Ending.returned (.int .i64 (-1)) ∧ _))).mono ?_
  rintro ex w10 ⟨rfl, hb10⟩
  have HTn := hideG (HT.out.below hb10)
  have Bbn := hideG (Bb.out.below hb10)
  have Vbn := hideG (Vb.out.below hb10)
  have Bcn := hideG (Bc.out.below hb10)
  have Vcn := hideG (Vc.out.below hb10)
  have HGn := hideG (HG.out.below hb10)
  have Bkn := hideG (Bk.out.below hb10)
  have Vkn := hideG (Vk.out.below hb10)
  have HBn := hideG (HB.out.trans ((hb10).mono HB.out.size))
  clear HT Bb Vb Bc Vc HG Bk Vk HB
  have HT := HTn
  clear HTn
  have Bb := Bbn
  clear Bbn
  have Vb := Vbn
  clear Vbn
  have Bc := Bcn
  clear Bcn
  have Vc := Vcn
  clear Vcn
  have HG := HGn
  clear HGn
  have Bk := Bkn
  clear Bkn
  have Vk := Vkn
  clear Vkn
  have HB := HBn
  clear HBn
  clear hb10
  clear Bc Vc
  go_wp2_with fail
  refine (lints [3] [3] true (by decide) (by decide) _ _ _ ((HG.out).below (alB _ _)) (ints_lit [3] (World.alloc_heap_new w10 (.cells #[.int .i64 3] 3)) rfl)).mono ?_
  rintro ex w11 ⟨rfl, hb11⟩
  have hz11 := (alB w10 (.cells #[.int .i64 3] 3)).trans (hb11.mono (by simp))
  clear hb11
  have HTn := hideG (HT.out.below hz11)
  have Bbn := hideG (Bb.out.below hz11)
  have Vbn := hideG (Vb.out.below hz11)
  have HGn := hideG (HG.out.below hz11)
  have Bkn := hideG (Bk.out.below hz11)
  have Vkn := hideG (Vk.out.below hz11)
  have HBn := hideG (HB.out.trans ((hz11).mono HB.out.size))
  clear HT Bb Vb HG Bk Vk HB
  have HT := HTn
  clear HTn
  have Bb := Bbn
  clear Bbn
  have Vb := Vbn
  clear Vbn
  have HG := HGn
  clear HGn
  have Bk := Bkn
  clear Bkn
  have Vk := Vkn
  clear Vkn
  have HB := HBn
  clear HBn
  clear hz11
  clear HG
  have p0 := Bk.out.c0
  have p1 := Bk.out.c1
  have p2 := Bk.out.c2
  have p3 := Bk.out.c3
  have p4 := Bk.out.c4
  have plt := Bk.out.lt
  go_wp2_with fail
  clear p0 p1 p2 p3 p4 plt
  refine (lints [1] [1] true (by decide) (by decide) _ _ _ ((show IntsAt w11 _ [1] by have := Vk.out.top; rw [show (fixL lsF).top = [1] by decide +kernel] at this; exact this).below (alB _ _)) (ints_lit [1] (World.alloc_heap_new w11 (.cells #[.int .i64 1] 3)) rfl)).mono ?_
  rintro ex w12 ⟨rfl, hb12⟩
  have hz12 := (alB w11 (.cells #[.int .i64 1] 3)).trans (hb12.mono (by simp))
  clear hb12
  have HTn := hideG (HT.out.below hz12)
  have Bbn := hideG (Bb.out.below hz12)
  have Vbn := hideG (Vb.out.below hz12)
  have Bkn := hideG (Bk.out.below hz12)
  have Vkn := hideG (Vk.out.below hz12)
  have HBn := hideG (HB.out.trans ((hz12).mono HB.out.size))
  clear HT Bb Vb Bk Vk HB
  have HT := HTn
  clear HTn
  have Bb := Bbn
  clear Bbn
  have Vb := Vbn
  clear Vbn
  have Bk := Bkn
  clear Bkn
  have Vk := Vkn
  clear Vkn
  have HB := HBn
  clear HBn
  clear hz12
  clear Bk Vk
  have p0 := Bb.out.c0
  have p1 := Bb.out.c1
  have p2 := Bb.out.c2
  have p3 := Bb.out.c3
  have p4 := Bb.out.c4
  have plt := Bb.out.lt
  go_wp2_with fail
  clear p0 p1 p2 p3 p4 plt
  refine (Calls.mono (checkV_any _ _ _ _ _ lsB _ Vb.out HSN.out ⟨by decide, by decide, by decide, by decide⟩) (fun _ _ h => (⟨h.1.trans (by rw [show checkV lsB = 0 by decide +kernel]), h.2⟩ : _ = Ending.returned (.int .i64 0) ∧ _))).mono ?_
  rintro ex w13 ⟨rfl, hb13⟩
  have HTn := hideG (HT.out.below hb13)
  have Bbn := hideG (Bb.out.below hb13)
  have Vbn := hideG (Vb.out.below hb13)
  have HBn := hideG (HB.out.trans ((hb13).mono HB.out.size))
  clear HT Bb Vb HB
  have HT := HTn
  clear HTn
  have Bb := Bbn
  clear Bbn
  have Vb := Vbn
  clear Vbn
  have HB := HBn
  clear HBn
  clear hb13
  clear Bb Vb
  have HVE := hideG (show ViewAt (w13.alloc (.cells #[.int .i64 2] 3)) (.slice (some ⟨w.heap.size + 2, 0, none⟩) 4 4) (.slice (some ⟨w13.heap.size, 0, none⟩) 1 1) (.slice none 0 0) (.slice none 0 0) (.slice none 0 0) lsE from ⟨HT.out.below (alB _ _), ints_lit [2] (World.alloc_heap_new w13 _) rfl, ints_none _, shs_none _, ints_none _⟩)
  go_wp2_with fail
  refine (Calls.mono (checkV_any _ _ _ _ _ lsE _ HVE.out HSN.out ⟨by decide, by decide, by decide, by decide⟩) (fun _ _ h => (⟨h.1.trans (by rw [show checkV lsE = 9 by decide +kernel]), h.2⟩ : _ = Ending.returned (.int .i64 9) ∧ _))).mono ?_
  rintro ex w14 ⟨rfl, hb14⟩
  have hz14 := (alB w13 (.cells #[.int .i64 2] 3)).trans (hb14.mono (by simp))
  clear hb14 HVE
  have HTn := hideG (HT.out.below hz14)
  have HBn := hideG (HB.out.trans ((hz14).mono HB.out.size))
  clear HT HB
  have HT := HTn
  clear HTn
  have HB := HBn
  clear HBn
  clear hz14
  go_wp2_with fail
  refine (Calls.mono (checkV_any _ _ _ _ _ emptyV _ (emptyV_at w14) (sane_of (T := []) (by decide)) ⟨by decide, by decide, by decide, by decide⟩) (fun _ _ h => (⟨h.1.trans (by rw [show checkV emptyV = 1 by decide +kernel]), h.2⟩ : _ = Ending.returned (.int .i64 1) ∧ _))).mono ?_
  rintro ex w15 ⟨rfl, hb15⟩
  have HTn := hideG (HT.out.below hb15)
  have HBn := hideG (HB.out.trans ((hb15).mono HB.out.size))
  clear HT HB
  have HT := HTn
  clear HTn
  have HB := HBn
  clear HBn
  go_wp2_with fail
  go_ret
  exact ⟨rfl, HB.out⟩
end Go.Proofs.YtclhimodopgeoaaGreat

