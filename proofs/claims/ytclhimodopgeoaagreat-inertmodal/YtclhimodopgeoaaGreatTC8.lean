/- Part 8 of what the laws of layer 10 lean on. -/
import Derived.Laws.EntriesVeiled
import Derived.Test.YtclhimodopgeoaaGreatTC5
import Derived.Test.YtclhimodopgeoaaGreatTC7
namespace Go.Proofs.YtclhimodopgeoaaGreat
open Go.RowKit

set_option maxRecDepth 100000 in
set_option maxHeartbeats 8000000 in
theorem copyV_any (tv ov mv pv qv : Value) (V : Vw) (w : World) (hV : ViewAt w tv ov mv pv qv V) (hS : Sane V.tree) (hl : V.tree.length ≤ 1000 ∧ V.op.length ≤ 1000 ∧ V.modal.length ≤ 1000 ∧ V.pops.length ≤ 1000 ∧ V.top.length ≤ 1000) :
    Calls Tryz.prog 27 #[.agg #[tv, ov, mv, pv, qv]] w fun x w' => ∃ f tv' ov' mv' pv' qv', x = .returned (.agg #[tv', ov', mv', pv', qv']) ∧ OwnV w' w.heap.size f tv' ov' mv' pv' qv' V ∧ Below w.heap.size w w' := by
  obtain ⟨hT, hO, hM, hP, hQ⟩ := hV
  have HT := hideG hT
  have HO := hideG hO
  have HM := hideG hM
  have HP := hideG hP
  have HQ := hideG hQ
  have HS := hideG hS
  obtain ⟨ta, tc, rfl⟩ := hT.shape
  obtain ⟨oa, oc, rfl⟩ := hO.shape
  obtain ⟨ma, mc, rfl⟩ := hM.shape
  obtain ⟨pa, pc, rfl⟩ := hP.shape
  obtain ⟨qa, qc, rfl⟩ := hQ.shape
  obtain ⟨W0, hW0⟩ : ∃ W0, (w.alloc (.cells #[.slice ta V.tree.length tc, .slice oa V.op.length oc, .slice ma V.modal.length mc, .slice pa V.pops.length pc, .slice qa V.top.length qc] 27)).alloc (.cells #[.slice none 0 0, .slice none 0 0, .slice none 0 0, .slice none 0 0, .slice none 0 0] 27) = W0 := ⟨_, rfl⟩
  have P0 := hideG (show W0.cell? ⟨w.heap.size, 0, none⟩ = some (.slice ta V.tree.length tc) by rw [← hW0]; exact cell_alloc_l _ (by simp))
  have P1 := hideG (show W0.cell? ⟨w.heap.size, 1, none⟩ = some (.slice oa V.op.length oc) by rw [← hW0]; exact cell_alloc_l _ (by simp))
  have P2 := hideG (show W0.cell? ⟨w.heap.size, 2, none⟩ = some (.slice ma V.modal.length mc) by rw [← hW0]; exact cell_alloc_l _ (by simp))
  have P3 := hideG (show W0.cell? ⟨w.heap.size, 3, none⟩ = some (.slice pa V.pops.length pc) by rw [← hW0]; exact cell_alloc_l _ (by simp))
  have P4 := hideG (show W0.cell? ⟨w.heap.size, 4, none⟩ = some (.slice qa V.top.length qc) by rw [← hW0]; exact cell_alloc_l _ (by simp))
  have hsz : W0.heap.size = w.heap.size + 2 := by rw [← hW0]; simp
  have hS0 : CpS w W0 (w.heap.size + 1) W0.drew := ⟨below_drew' (by rw [← hW0]; exact ((Below.refl _ w).alloc (Nat.le_refl _) _).alloc (by simp) _), Nat.le_refl _, fun _ _ _ => rfl, fun j hj => ⟨.slice none 0 0, by
    have h1 := World.alloc_heap_new (w.alloc (.cells #[.slice ta V.tree.length tc, .slice oa V.op.length oc, .slice ma V.modal.length mc, .slice pa V.pops.length pc, .slice qa V.top.length qc] 27)) (.cells #[.slice none 0 0, .slice none 0 0, .slice none 0 0, .slice none 0 0, .slice none 0 0] 27)
    rw [World.size_alloc, hW0] at h1
    have h2 : W0.drew.heap[w.heap.size + 1]? = some (.cells #[.slice none 0 0, .slice none 0 0, .slice none 0 0, .slice none 0 0, .slice none 0 0] 27 (0, 0)) := h1
    obtain rfl | rfl | rfl | rfl | rfl : j = 0 ∨ j = 1 ∨ j = 2 ∨ j = 3 ∨ j = 4 := by omega
    all_goals exact ⟨by simp [World.cell?, h2], by simp [World.frozen?, h2]⟩⟩⟩
  have HW0 := hideG hW0
  have h0l := hl.1
  have h1l := hl.2.1
  have h2l := hl.2.2.1
  have h3l := hl.2.2.2.1
  have h4l := hl.2.2.2.2
  clear hW0 hT hO hM hP hQ hS hl
  go_enter Tryz.func27, Tryz.ntmps27
  go_wp2_with fail
  rw [HW0.out]
  refine wp_region_inv (fun l a U => ∃ (f : Nat → Nat × Nat) (s3 s4 s5 s6 s7 s8 s9 s10 s11 s12 s13 s14 s15 s16 s17 s18 : Value), a = { tmps := #[.agg #[.slice ta V.tree.length tc, .slice oa V.op.length oc, .slice ma V.modal.length mc, .slice pa V.pops.length pc, .slice qa V.top.length qc], .pointer (some ⟨w.heap.size, 0, none⟩), .pointer (some ⟨w.heap.size + 1, 0, none⟩), s3, s4, s5, s6, s7, s8, s9, s10, s11, s12, s13, s14, s15, s16, s17, s18], defers := [] } ∧ CpS w W0 (w.heap.size + 1) U ∧ IvL l f 17 W0.heap.size U.heap.size ∧ Hid (l.getD 0 true = true → s3 = .pointer (some ⟨w.heap.size, 0, none⟩)) ∧ Hid (l.getD 1 true = true → s4 = .slice ta V.tree.length tc) ∧ Hid (l.getD 2 true = true → TreeIn U (f 2) s5 V.tree) ∧ Hid (l.getD 3 true = true → s6 = .pointer (some ⟨w.heap.size, 1, none⟩)) ∧ Hid (l.getD 4 true = true → s7 = .slice oa V.op.length oc) ∧ Hid (l.getD 5 true = true → RowIn U (f 5) 3 1 s8 V.op.length (intCells V.op)) ∧ Hid (l.getD 6 true = true → s9 = .pointer (some ⟨w.heap.size, 2, none⟩)) ∧ Hid (l.getD 7 true = true → s10 = .slice ma V.modal.length mc) ∧ Hid (l.getD 8 true = true → RowIn U (f 8) 3 1 s11 V.modal.length (intCells V.modal)) ∧ Hid (l.getD 9 true = true → s12 = .pointer (some ⟨w.heap.size, 3, none⟩)) ∧ Hid (l.getD 10 true = true → s13 = .slice pa V.pops.length pc) ∧ Hid (l.getD 11 true = true → RowIn U (f 11) 39 2 s14 V.pops.length (shCells V.pops)) ∧ Hid (l.getD 12 true = true → s15 = .pointer (some ⟨w.heap.size, 4, none⟩)) ∧ Hid (l.getD 13 true = true → s16 = .slice qa V.top.length qc) ∧ Hid (l.getD 14 true = true → RowIn U (f 14) 3 1 s17 V.top.length (intCells V.top)) ∧ Hid (l.getD 15 true = true → l.getD 2 true = true ∧ l.getD 5 true = true ∧ l.getD 8 true = true ∧ l.getD 11 true = true ∧ l.getD 14 true = true ∧ s18 = .agg #[s5, s8, s11, s14, s17]) ∧ Hid (l.getD 16 true = true → l.getD 2 true = true ∧ l.getD 5 true = true ∧ l.getD 8 true = true ∧ l.getD 11 true = true ∧ l.getD 14 true = true ∧ U.cell? ⟨w.heap.size + 1, 0, none⟩ = some s5 ∧ U.cell? ⟨w.heap.size + 1, 1, none⟩ = some s8 ∧ U.cell? ⟨w.heap.size + 1, 2, none⟩ = some s11 ∧ U.cell? ⟨w.heap.size + 1, 3, none⟩ = some s14 ∧ U.cell? ⟨w.heap.size + 1, 4, none⟩ = some s17)) (by kernel_rfl) (by kernel_rfl) ?_ ?_ ?_
  · exact ⟨fun _ => (0, 0), _, _, _, _, _, _, _, _, _, _, _, _, _, _, _, _, rfl, hS0, IvL.start 17 _ _ _, fun h => by simp at h, fun h => by simp at h, fun h => by simp at h, fun h => by simp at h, fun h => by simp at h, fun h => by simp at h, fun h => by simp at h, fun h => by simp at h, fun h => by simp at h, fun h => by simp at h, fun h => by simp at h, fun h => by simp at h, fun h => by simp at h, fun h => by simp at h, fun h => by simp at h, fun h => by simp at h, fun h => by simp at h⟩
  · rintro i l a U hi ⟨f, s3, s4, s5, s6, s7, s8, s9, s10, s11, s12, s13, s14, s15, s16, s17, s18, rfl, hS, hIv, h0, h1, h2, h3, h4, h5, h6, h7, h8, h9, h10, h11, h12, h13, h14, h15, h16⟩
    obtain ⟨hun, o, ho, _⟩ := mem_ready.mp hi
    have hlt := (Array.getElem?_eq_some_iff.mp ho).1
    clear ho
    simp only [List.size_toArray, List.length_cons, List.length_nil, Nat.reduceAdd] at hlt
    obtain rfl | rfl | rfl | rfl | rfl | rfl | rfl | rfl | rfl | rfl | rfl | rfl | rfl | rfl | rfl | rfl | rfl : i = 0 ∨ i = 1 ∨ i = 2 ∨ i = 3 ∨ i = 4 ∨ i = 5 ∨ i = 6 ∨ i = 7 ∨ i = 8 ∨ i = 9 ∨ i = 10 ∨ i = 11 ∨ i = 12 ∨ i = 13 ∨ i = 14 ∨ i = 15 ∨ i = 16 := by omega
    · refine inv_step (by rfl) (fun K hK => ?_)
      go_simp
      exact hK.out _ _ ⟨upPart f 0 (U.heap.size, _), _, _, _, _, _, _, _, _, _, _, _, _, _, _, _, _, rfl, hS, hIv.step (i := 0) hun (by decide) (Nat.le_refl _), fun _ => rfl, fun h => h1 (set_getD (i := 0) (by decide) h), fun h => h2 (set_getD (i := 0) (by decide) h), fun h => h3 (set_getD (i := 0) (by decide) h), fun h => h4 (set_getD (i := 0) (by decide) h), fun h => h5 (set_getD (i := 0) (by decide) h), fun h => h6 (set_getD (i := 0) (by decide) h), fun h => h7 (set_getD (i := 0) (by decide) h), fun h => h8 (set_getD (i := 0) (by decide) h), fun h => h9 (set_getD (i := 0) (by decide) h), fun h => h10 (set_getD (i := 0) (by decide) h), fun h => h11 (set_getD (i := 0) (by decide) h), fun h => h12 (set_getD (i := 0) (by decide) h), fun h => h13 (set_getD (i := 0) (by decide) h), fun h => h14 (set_getD (i := 0) (by decide) h), fun h => (by obtain ⟨x2, x5, x8, x11, x14, x⟩ := h15 (set_getD (i := 0) (by decide) h); exact ⟨set_getD' x2, set_getD' x5, set_getD' x8, set_getD' x11, set_getD' x14, x⟩), fun h => (by obtain ⟨x2, x5, x8, x11, x14, x⟩ := h16 (set_getD (i := 0) (by decide) h); exact ⟨set_getD' x2, set_getD' x5, set_getD' x8, set_getD' x11, set_getD' x14, x⟩)⟩
    · have e0 := h0 (dep_of hi (d := 0) (by kernel_rfl))
      subst e0
      have pc : U.cell? ⟨w.heap.size, 0, none⟩ = some (.slice ta V.tree.length tc) := hS.cell P0.out (by omega)
      refine inv_step (by rfl) (fun K hK => ?_)
      go_simp
      exact hK.out _ _ ⟨upPart f 1 (U.heap.size, _), _, _, _, _, _, _, _, _, _, _, _, _, _, _, _, _, rfl, hS, hIv.step (i := 1) hun (by decide) (Nat.le_refl _), fun _ => rfl, fun _ => rfl, fun h => h2 (set_getD (i := 1) (by decide) h), fun h => h3 (set_getD (i := 1) (by decide) h), fun h => h4 (set_getD (i := 1) (by decide) h), fun h => h5 (set_getD (i := 1) (by decide) h), fun h => h6 (set_getD (i := 1) (by decide) h), fun h => h7 (set_getD (i := 1) (by decide) h), fun h => h8 (set_getD (i := 1) (by decide) h), fun h => h9 (set_getD (i := 1) (by decide) h), fun h => h10 (set_getD (i := 1) (by decide) h), fun h => h11 (set_getD (i := 1) (by decide) h), fun h => h12 (set_getD (i := 1) (by decide) h), fun h => h13 (set_getD (i := 1) (by decide) h), fun h => h14 (set_getD (i := 1) (by decide) h), fun h => (by obtain ⟨x2, x5, x8, x11, x14, x⟩ := h15 (set_getD (i := 1) (by decide) h); exact ⟨set_getD' x2, set_getD' x5, set_getD' x8, set_getD' x11, set_getD' x14, x⟩), fun h => (by obtain ⟨x2, x5, x8, x11, x14, x⟩ := h16 (set_getD (i := 1) (by decide) h); exact ⟨set_getD' x2, set_getD' x5, set_getD' x8, set_getD' x11, set_getD' x14, x⟩)⟩
    · have e1 := h1 (dep_of hi (d := 1) (by kernel_rfl))
      subst e1
      refine inv_step (by rfl) (fun K hK => ?_)
      go_simp
      (go_at_call 70; refine Calls.mono (treeCopy_any V.tree HS.out _ U (HT.out.below hS.bel) (by omega)) ?_; rintro e w1 ⟨v1, rfl, hgot, hb⟩)
      go_wp2_with fail
      have hk : ∀ m, W0.heap.size ≤ m → m < U.heap.size → w1.heap[m]? = U.heap[m]? := fun m _ h2 => hb.block m h2
      exact hK.out _ _ ⟨upPart f 2 (U.heap.size, _), _, _, _, _, _, _, _, _, _, _, _, _, _, _, _, _, rfl, hS.below hb, hIv.step (i := 2) hun (by decide) hb.size, fun h => h0 (set_getD (i := 2) (by decide) h), fun _ => rfl, fun _ => hgot, fun h => h3 (set_getD (i := 2) (by decide) h), fun h => h4 (set_getD (i := 2) (by decide) h), fun h => (h5 (set_getD (i := 2) (by decide) h)).keep (hIv.old (set_getD (i := 2) (by decide) h) (by decide) hk), fun h => h6 (set_getD (i := 2) (by decide) h), fun h => h7 (set_getD (i := 2) (by decide) h), fun h => (h8 (set_getD (i := 2) (by decide) h)).keep (hIv.old (set_getD (i := 2) (by decide) h) (by decide) hk), fun h => h9 (set_getD (i := 2) (by decide) h), fun h => h10 (set_getD (i := 2) (by decide) h), fun h => (h11 (set_getD (i := 2) (by decide) h)).keep (hIv.old (set_getD (i := 2) (by decide) h) (by decide) hk), fun h => h12 (set_getD (i := 2) (by decide) h), fun h => h13 (set_getD (i := 2) (by decide) h), fun h => (h14 (set_getD (i := 2) (by decide) h)).keep (hIv.old (set_getD (i := 2) (by decide) h) (by decide) hk), fun h => absurd ((h15 (set_getD (i := 2) (by decide) h)).1) (by rw [hun]; decide), fun h => absurd ((h16 (set_getD (i := 2) (by decide) h)).1) (by rw [hun]; decide)⟩
    · refine inv_step (by rfl) (fun K hK => ?_)
      go_simp
      exact hK.out _ _ ⟨upPart f 3 (U.heap.size, _), _, _, _, _, _, _, _, _, _, _, _, _, _, _, _, _, rfl, hS, hIv.step (i := 3) hun (by decide) (Nat.le_refl _), fun h => h0 (set_getD (i := 3) (by decide) h), fun h => h1 (set_getD (i := 3) (by decide) h), fun h => h2 (set_getD (i := 3) (by decide) h), fun _ => rfl, fun h => h4 (set_getD (i := 3) (by decide) h), fun h => h5 (set_getD (i := 3) (by decide) h), fun h => h6 (set_getD (i := 3) (by decide) h), fun h => h7 (set_getD (i := 3) (by decide) h), fun h => h8 (set_getD (i := 3) (by decide) h), fun h => h9 (set_getD (i := 3) (by decide) h), fun h => h10 (set_getD (i := 3) (by decide) h), fun h => h11 (set_getD (i := 3) (by decide) h), fun h => h12 (set_getD (i := 3) (by decide) h), fun h => h13 (set_getD (i := 3) (by decide) h), fun h => h14 (set_getD (i := 3) (by decide) h), fun h => (by obtain ⟨x2, x5, x8, x11, x14, x⟩ := h15 (set_getD (i := 3) (by decide) h); exact ⟨set_getD' x2, set_getD' x5, set_getD' x8, set_getD' x11, set_getD' x14, x⟩), fun h => (by obtain ⟨x2, x5, x8, x11, x14, x⟩ := h16 (set_getD (i := 3) (by decide) h); exact ⟨set_getD' x2, set_getD' x5, set_getD' x8, set_getD' x11, set_getD' x14, x⟩)⟩
    · have e3 := h3 (dep_of hi (d := 3) (by kernel_rfl))
      subst e3
      have pc : U.cell? ⟨w.heap.size, 1, none⟩ = some (.slice oa V.op.length oc) := hS.cell P1.out (by omega)
      refine inv_step (by rfl) (fun K hK => ?_)
      go_simp
      exact hK.out _ _ ⟨upPart f 4 (U.heap.size, _), _, _, _, _, _, _, _, _, _, _, _, _, _, _, _, _, rfl, hS, hIv.step (i := 4) hun (by decide) (Nat.le_refl _), fun h => h0 (set_getD (i := 4) (by decide) h), fun h => h1 (set_getD (i := 4) (by decide) h), fun h => h2 (set_getD (i := 4) (by decide) h), fun _ => rfl, fun _ => rfl, fun h => h5 (set_getD (i := 4) (by decide) h), fun h => h6 (set_getD (i := 4) (by decide) h), fun h => h7 (set_getD (i := 4) (by decide) h), fun h => h8 (set_getD (i := 4) (by decide) h), fun h => h9 (set_getD (i := 4) (by decide) h), fun h => h10 (set_getD (i := 4) (by decide) h), fun h => h11 (set_getD (i := 4) (by decide) h), fun h => h12 (set_getD (i := 4) (by decide) h), fun h => h13 (set_getD (i := 4) (by decide) h), fun h => h14 (set_getD (i := 4) (by decide) h), fun h => (by obtain ⟨x2, x5, x8, x11, x14, x⟩ := h15 (set_getD (i := 4) (by decide) h); exact ⟨set_getD' x2, set_getD' x5, set_getD' x8, set_getD' x11, set_getD' x14, x⟩), fun h => (by obtain ⟨x2, x5, x8, x11, x14, x⟩ := h16 (set_getD (i := 4) (by decide) h); exact ⟨set_getD' x2, set_getD' x5, set_getD' x8, set_getD' x11, set_getD' x14, x⟩)⟩
    · have e4 := h4 (dep_of hi (d := 4) (by kernel_rfl))
      subst e4
      refine inv_step (by rfl) (fun K hK => ?_)
      go_simp
      (go_at_call 81; refine Calls.mono (cloneInts _ V.op U (HO.out.below hS.bel) (by omega)) ?_; rintro e w1 ⟨v1, rfl, hgot, hb⟩)
      go_wp2_with fail
      have hk : ∀ m, W0.heap.size ≤ m → m < U.heap.size → w1.heap[m]? = U.heap[m]? := fun m _ h2 => hb.block m h2
      exact hK.out _ _ ⟨upPart f 5 (U.heap.size, _), _, _, _, _, _, _, _, _, _, _, _, _, _, _, _, _, rfl, hS.below hb, hIv.step (i := 5) hun (by decide) hb.size, fun h => h0 (set_getD (i := 5) (by decide) h), fun h => h1 (set_getD (i := 5) (by decide) h), fun h => (h2 (set_getD (i := 5) (by decide) h)).keep (hIv.old (set_getD (i := 5) (by decide) h) (by decide) hk), fun h => h3 (set_getD (i := 5) (by decide) h), fun _ => rfl, fun _ => rowIn_of hgot, fun h => h6 (set_getD (i := 5) (by decide) h), fun h => h7 (set_getD (i := 5) (by decide) h), fun h => (h8 (set_getD (i := 5) (by decide) h)).keep (hIv.old (set_getD (i := 5) (by decide) h) (by decide) hk), fun h => h9 (set_getD (i := 5) (by decide) h), fun h => h10 (set_getD (i := 5) (by decide) h), fun h => (h11 (set_getD (i := 5) (by decide) h)).keep (hIv.old (set_getD (i := 5) (by decide) h) (by decide) hk), fun h => h12 (set_getD (i := 5) (by decide) h), fun h => h13 (set_getD (i := 5) (by decide) h), fun h => (h14 (set_getD (i := 5) (by decide) h)).keep (hIv.old (set_getD (i := 5) (by decide) h) (by decide) hk), fun h => absurd ((h15 (set_getD (i := 5) (by decide) h)).2.1) (by rw [hun]; decide), fun h => absurd ((h16 (set_getD (i := 5) (by decide) h)).2.1) (by rw [hun]; decide)⟩
    · refine inv_step (by rfl) (fun K hK => ?_)
      go_simp
      exact hK.out _ _ ⟨upPart f 6 (U.heap.size, _), _, _, _, _, _, _, _, _, _, _, _, _, _, _, _, _, rfl, hS, hIv.step (i := 6) hun (by decide) (Nat.le_refl _), fun h => h0 (set_getD (i := 6) (by decide) h), fun h => h1 (set_getD (i := 6) (by decide) h), fun h => h2 (set_getD (i := 6) (by decide) h), fun h => h3 (set_getD (i := 6) (by decide) h), fun h => h4 (set_getD (i := 6) (by decide) h), fun h => h5 (set_getD (i := 6) (by decide) h), fun _ => rfl, fun h => h7 (set_getD (i := 6) (by decide) h), fun h => h8 (set_getD (i := 6) (by decide) h), fun h => h9 (set_getD (i := 6) (by decide) h), fun h => h10 (set_getD (i := 6) (by decide) h), fun h => h11 (set_getD (i := 6) (by decide) h), fun h => h12 (set_getD (i := 6) (by decide) h), fun h => h13 (set_getD (i := 6) (by decide) h), fun h => h14 (set_getD (i := 6) (by decide) h), fun h => (by obtain ⟨x2, x5, x8, x11, x14, x⟩ := h15 (set_getD (i := 6) (by decide) h); exact ⟨set_getD' x2, set_getD' x5, set_getD' x8, set_getD' x11, set_getD' x14, x⟩), fun h => (by obtain ⟨x2, x5, x8, x11, x14, x⟩ := h16 (set_getD (i := 6) (by decide) h); exact ⟨set_getD' x2, set_getD' x5, set_getD' x8, set_getD' x11, set_getD' x14, x⟩)⟩
    · have e6 := h6 (dep_of hi (d := 6) (by kernel_rfl))
      subst e6
      have pc : U.cell? ⟨w.heap.size, 2, none⟩ = some (.slice ma V.modal.length mc) := hS.cell P2.out (by omega)
      refine inv_step (by rfl) (fun K hK => ?_)
      go_simp
      exact hK.out _ _ ⟨upPart f 7 (U.heap.size, _), _, _, _, _, _, _, _, _, _, _, _, _, _, _, _, _, rfl, hS, hIv.step (i := 7) hun (by decide) (Nat.le_refl _), fun h => h0 (set_getD (i := 7) (by decide) h), fun h => h1 (set_getD (i := 7) (by decide) h), fun h => h2 (set_getD (i := 7) (by decide) h), fun h => h3 (set_getD (i := 7) (by decide) h), fun h => h4 (set_getD (i := 7) (by decide) h), fun h => h5 (set_getD (i := 7) (by decide) h), fun _ => rfl, fun _ => rfl, fun h => h8 (set_getD (i := 7) (by decide) h), fun h => h9 (set_getD (i := 7) (by decide) h), fun h => h10 (set_getD (i := 7) (by decide) h), fun h => h11 (set_getD (i := 7) (by decide) h), fun h => h12 (set_getD (i := 7) (by decide) h), fun h => h13 (set_getD (i := 7) (by decide) h), fun h => h14 (set_getD (i := 7) (by decide) h), fun h => (by obtain ⟨x2, x5, x8, x11, x14, x⟩ := h15 (set_getD (i := 7) (by decide) h); exact ⟨set_getD' x2, set_getD' x5, set_getD' x8, set_getD' x11, set_getD' x14, x⟩), fun h => (by obtain ⟨x2, x5, x8, x11, x14, x⟩ := h16 (set_getD (i := 7) (by decide) h); exact ⟨set_getD' x2, set_getD' x5, set_getD' x8, set_getD' x11, set_getD' x14, x⟩)⟩
    · have e7 := h7 (dep_of hi (d := 7) (by kernel_rfl))
      subst e7
      refine inv_step (by rfl) (fun K hK => ?_)
      go_simp
      (go_at_call 81; refine Calls.mono (cloneInts _ V.modal U (HM.out.below hS.bel) (by omega)) ?_; rintro e w1 ⟨v1, rfl, hgot, hb⟩)
      go_wp2_with fail
      have hk : ∀ m, W0.heap.size ≤ m → m < U.heap.size → w1.heap[m]? = U.heap[m]? := fun m _ h2 => hb.block m h2
      exact hK.out _ _ ⟨upPart f 8 (U.heap.size, _), _, _, _, _, _, _, _, _, _, _, _, _, _, _, _, _, rfl, hS.below hb, hIv.step (i := 8) hun (by decide) hb.size, fun h => h0 (set_getD (i := 8) (by decide) h), fun h => h1 (set_getD (i := 8) (by decide) h), fun h => (h2 (set_getD (i := 8) (by decide) h)).keep (hIv.old (set_getD (i := 8) (by decide) h) (by decide) hk), fun h => h3 (set_getD (i := 8) (by decide) h), fun h => h4 (set_getD (i := 8) (by decide) h), fun h => (h5 (set_getD (i := 8) (by decide) h)).keep (hIv.old (set_getD (i := 8) (by decide) h) (by decide) hk), fun h => h6 (set_getD (i := 8) (by decide) h), fun _ => rfl, fun _ => rowIn_of hgot, fun h => h9 (set_getD (i := 8) (by decide) h), fun h => h10 (set_getD (i := 8) (by decide) h), fun h => (h11 (set_getD (i := 8) (by decide) h)).keep (hIv.old (set_getD (i := 8) (by decide) h) (by decide) hk), fun h => h12 (set_getD (i := 8) (by decide) h), fun h => h13 (set_getD (i := 8) (by decide) h), fun h => (h14 (set_getD (i := 8) (by decide) h)).keep (hIv.old (set_getD (i := 8) (by decide) h) (by decide) hk), fun h => absurd ((h15 (set_getD (i := 8) (by decide) h)).2.2.1) (by rw [hun]; decide), fun h => absurd ((h16 (set_getD (i := 8) (by decide) h)).2.2.1) (by rw [hun]; decide)⟩
    · refine inv_step (by rfl) (fun K hK => ?_)
      go_simp
      exact hK.out _ _ ⟨upPart f 9 (U.heap.size, _), _, _, _, _, _, _, _, _, _, _, _, _, _, _, _, _, rfl, hS, hIv.step (i := 9) hun (by decide) (Nat.le_refl _), fun h => h0 (set_getD (i := 9) (by decide) h), fun h => h1 (set_getD (i := 9) (by decide) h), fun h => h2 (set_getD (i := 9) (by decide) h), fun h => h3 (set_getD (i := 9) (by decide) h), fun h => h4 (set_getD (i := 9) (by decide) h), fun h => h5 (set_getD (i := 9) (by decide) h), fun h => h6 (set_getD (i := 9) (by decide) h), fun h => h7 (set_getD (i := 9) (by decide) h), fun h => h8 (set_getD (i := 9) (by decide) h), fun _ => rfl, fun h => h10 (set_getD (i := 9) (by decide) h), fun h => h11 (set_getD (i := 9) (by decide) h), fun h => h12 (set_getD (i := 9) (by decide) h), fun h => h13 (set_getD (i := 9) (by decide) h), fun h => h14 (set_getD (i := 9) (by decide) h), fun h => (by obtain ⟨x2, x5, x8, x11, x14, x⟩ := h15 (set_getD (i := 9) (by decide) h); exact ⟨set_getD' x2, set_getD' x5, set_getD' x8, set_getD' x11, set_getD' x14, x⟩), fun h => (by obtain ⟨x2, x5, x8, x11, x14, x⟩ := h16 (set_getD (i := 9) (by decide) h); exact ⟨set_getD' x2, set_getD' x5, set_getD' x8, set_getD' x11, set_getD' x14, x⟩)⟩
    · have e9 := h9 (dep_of hi (d := 9) (by kernel_rfl))
      subst e9
      have pc : U.cell? ⟨w.heap.size, 3, none⟩ = some (.slice pa V.pops.length pc) := hS.cell P3.out (by omega)
      refine inv_step (by rfl) (fun K hK => ?_)
      go_simp
      exact hK.out _ _ ⟨upPart f 10 (U.heap.size, _), _, _, _, _, _, _, _, _, _, _, _, _, _, _, _, _, rfl, hS, hIv.step (i := 10) hun (by decide) (Nat.le_refl _), fun h => h0 (set_getD (i := 10) (by decide) h), fun h => h1 (set_getD (i := 10) (by decide) h), fun h => h2 (set_getD (i := 10) (by decide) h), fun h => h3 (set_getD (i := 10) (by decide) h), fun h => h4 (set_getD (i := 10) (by decide) h), fun h => h5 (set_getD (i := 10) (by decide) h), fun h => h6 (set_getD (i := 10) (by decide) h), fun h => h7 (set_getD (i := 10) (by decide) h), fun h => h8 (set_getD (i := 10) (by decide) h), fun _ => rfl, fun _ => rfl, fun h => h11 (set_getD (i := 10) (by decide) h), fun h => h12 (set_getD (i := 10) (by decide) h), fun h => h13 (set_getD (i := 10) (by decide) h), fun h => h14 (set_getD (i := 10) (by decide) h), fun h => (by obtain ⟨x2, x5, x8, x11, x14, x⟩ := h15 (set_getD (i := 10) (by decide) h); exact ⟨set_getD' x2, set_getD' x5, set_getD' x8, set_getD' x11, set_getD' x14, x⟩), fun h => (by obtain ⟨x2, x5, x8, x11, x14, x⟩ := h16 (set_getD (i := 10) (by decide) h); exact ⟨set_getD' x2, set_getD' x5, set_getD' x8, set_getD' x11, set_getD' x14, x⟩)⟩
    · have e10 := h10 (dep_of hi (d := 10) (by kernel_rfl))
      subst e10
      refine inv_step (by rfl) (fun K hK => ?_)
      go_simp
      (go_at_call 82; refine Calls.mono (cloneShs _ V.pops U (HP.out.below hS.bel) (by omega)) ?_; rintro e w1 ⟨v1, rfl, hgot, hb⟩)
      go_wp2_with fail
      have hk : ∀ m, W0.heap.size ≤ m → m < U.heap.size → w1.heap[m]? = U.heap[m]? := fun m _ h2 => hb.block m h2
      exact hK.out _ _ ⟨upPart f 11 (U.heap.size, _), _, _, _, _, _, _, _, _, _, _, _, _, _, _, _, _, rfl, hS.below hb, hIv.step (i := 11) hun (by decide) hb.size, fun h => h0 (set_getD (i := 11) (by decide) h), fun h => h1 (set_getD (i := 11) (by decide) h), fun h => (h2 (set_getD (i := 11) (by decide) h)).keep (hIv.old (set_getD (i := 11) (by decide) h) (by decide) hk), fun h => h3 (set_getD (i := 11) (by decide) h), fun h => h4 (set_getD (i := 11) (by decide) h), fun h => (h5 (set_getD (i := 11) (by decide) h)).keep (hIv.old (set_getD (i := 11) (by decide) h) (by decide) hk), fun h => h6 (set_getD (i := 11) (by decide) h), fun h => h7 (set_getD (i := 11) (by decide) h), fun h => (h8 (set_getD (i := 11) (by decide) h)).keep (hIv.old (set_getD (i := 11) (by decide) h) (by decide) hk), fun h => h9 (set_getD (i := 11) (by decide) h), fun _ => rfl, fun _ => rowIn_of hgot, fun h => h12 (set_getD (i := 11) (by decide) h), fun h => h13 (set_getD (i := 11) (by decide) h), fun h => (h14 (set_getD (i := 11) (by decide) h)).keep (hIv.old (set_getD (i := 11) (by decide) h) (by decide) hk), fun h => absurd ((h15 (set_getD (i := 11) (by decide) h)).2.2.2.1) (by rw [hun]; decide), fun h => absurd ((h16 (set_getD (i := 11) (by decide) h)).2.2.2.1) (by rw [hun]; decide)⟩
    · refine inv_step (by rfl) (fun K hK => ?_)
      go_simp
      exact hK.out _ _ ⟨upPart f 12 (U.heap.size, _), _, _, _, _, _, _, _, _, _, _, _, _, _, _, _, _, rfl, hS, hIv.step (i := 12) hun (by decide) (Nat.le_refl _), fun h => h0 (set_getD (i := 12) (by decide) h), fun h => h1 (set_getD (i := 12) (by decide) h), fun h => h2 (set_getD (i := 12) (by decide) h), fun h => h3 (set_getD (i := 12) (by decide) h), fun h => h4 (set_getD (i := 12) (by decide) h), fun h => h5 (set_getD (i := 12) (by decide) h), fun h => h6 (set_getD (i := 12) (by decide) h), fun h => h7 (set_getD (i := 12) (by decide) h), fun h => h8 (set_getD (i := 12) (by decide) h), fun h => h9 (set_getD (i := 12) (by decide) h), fun h => h10 (set_getD (i := 12) (by decide) h), fun h => h11 (set_getD (i := 12) (by decide) h), fun _ => rfl, fun h => h13 (set_getD (i := 12) (by decide) h), fun h => h14 (set_getD (i := 12) (by decide) h), fun h => (by obtain ⟨x2, x5, x8, x11, x14, x⟩ := h15 (set_getD (i := 12) (by decide) h); exact ⟨set_getD' x2, set_getD' x5, set_getD' x8, set_getD' x11, set_getD' x14, x⟩), fun h => (by obtain ⟨x2, x5, x8, x11, x14, x⟩ := h16 (set_getD (i := 12) (by decide) h); exact ⟨set_getD' x2, set_getD' x5, set_getD' x8, set_getD' x11, set_getD' x14, x⟩)⟩
    · have e12 := h12 (dep_of hi (d := 12) (by kernel_rfl))
      subst e12
      have pc : U.cell? ⟨w.heap.size, 4, none⟩ = some (.slice qa V.top.length qc) := hS.cell P4.out (by omega)
      refine inv_step (by rfl) (fun K hK => ?_)
      go_simp
      exact hK.out _ _ ⟨upPart f 13 (U.heap.size, _), _, _, _, _, _, _, _, _, _, _, _, _, _, _, _, _, rfl, hS, hIv.step (i := 13) hun (by decide) (Nat.le_refl _), fun h => h0 (set_getD (i := 13) (by decide) h), fun h => h1 (set_getD (i := 13) (by decide) h), fun h => h2 (set_getD (i := 13) (by decide) h), fun h => h3 (set_getD (i := 13) (by decide) h), fun h => h4 (set_getD (i := 13) (by decide) h), fun h => h5 (set_getD (i := 13) (by decide) h), fun h => h6 (set_getD (i := 13) (by decide) h), fun h => h7 (set_getD (i := 13) (by decide) h), fun h => h8 (set_getD (i := 13) (by decide) h), fun h => h9 (set_getD (i := 13) (by decide) h), fun h => h10 (set_getD (i := 13) (by decide) h), fun h => h11 (set_getD (i := 13) (by decide) h), fun _ => rfl, fun _ => rfl, fun h => h14 (set_getD (i := 13) (by decide) h), fun h => (by obtain ⟨x2, x5, x8, x11, x14, x⟩ := h15 (set_getD (i := 13) (by decide) h); exact ⟨set_getD' x2, set_getD' x5, set_getD' x8, set_getD' x11, set_getD' x14, x⟩), fun h => (by obtain ⟨x2, x5, x8, x11, x14, x⟩ := h16 (set_getD (i := 13) (by decide) h); exact ⟨set_getD' x2, set_getD' x5, set_getD' x8, set_getD' x11, set_getD' x14, x⟩)⟩
    · have e13 := h13 (dep_of hi (d := 13) (by kernel_rfl))
      subst e13
      refine inv_step (by rfl) (fun K hK => ?_)
      go_simp
      (go_at_call 81; refine Calls.mono (cloneInts _ V.top U (HQ.out.below hS.bel) (by omega)) ?_; rintro e w1 ⟨v1, rfl, hgot, hb⟩)
      go_wp2_with fail
      have hk : ∀ m, W0.heap.size ≤ m → m < U.heap.size → w1.heap[m]? = U.heap[m]? := fun m _ h2 => hb.block m h2
      exact hK.out _ _ ⟨upPart f 14 (U.heap.size, _), _, _, _, _, _, _, _, _, _, _, _, _, _, _, _, _, rfl, hS.below hb, hIv.step (i := 14) hun (by decide) hb.size, fun h => h0 (set_getD (i := 14) (by decide) h), fun h => h1 (set_getD (i := 14) (by decide) h), fun h => (h2 (set_getD (i := 14) (by decide) h)).keep (hIv.old (set_getD (i := 14) (by decide) h) (by decide) hk), fun h => h3 (set_getD (i := 14) (by decide) h), fun h => h4 (set_getD (i := 14) (by decide) h), fun h => (h5 (set_getD (i := 14) (by decide) h)).keep (hIv.old (set_getD (i := 14) (by decide) h) (by decide) hk), fun h => h6 (set_getD (i := 14) (by decide) h), fun h => h7 (set_getD (i := 14) (by decide) h), fun h => (h8 (set_getD (i := 14) (by decide) h)).keep (hIv.old (set_getD (i := 14) (by decide) h) (by decide) hk), fun h => h9 (set_getD (i := 14) (by decide) h), fun h => h10 (set_getD (i := 14) (by decide) h), fun h => (h11 (set_getD (i := 14) (by decide) h)).keep (hIv.old (set_getD (i := 14) (by decide) h) (by decide) hk), fun h => h12 (set_getD (i := 14) (by decide) h), fun _ => rfl, fun _ => rowIn_of hgot, fun h => absurd ((h15 (set_getD (i := 14) (by decide) h)).2.2.2.2.1) (by rw [hun]; decide), fun h => absurd ((h16 (set_getD (i := 14) (by decide) h)).2.2.2.2.1) (by rw [hun]; decide)⟩
    · have q2 := dep_of hi (d := 2) (by kernel_rfl)
      have q5 := dep_of hi (d := 5) (by kernel_rfl)
      have q8 := dep_of hi (d := 8) (by kernel_rfl)
      have q11 := dep_of hi (d := 11) (by kernel_rfl)
      have q14 := dep_of hi (d := 14) (by kernel_rfl)
      obtain ⟨a5, k5, rfl⟩ := (h2 q2).at.shape
      obtain ⟨a8, k8, rfl⟩ := ownsRow_shape (h5 q5).1
      obtain ⟨a11, k11, rfl⟩ := ownsRow_shape (h8 q8).1
      obtain ⟨a14, k14, rfl⟩ := ownsRow_shape (h11 q11).1
      obtain ⟨a17, k17, rfl⟩ := ownsRow_shape (h14 q14).1
      refine inv_step (by rfl) (fun K hK => ?_)
      go_simp
      exact hK.out _ _ ⟨upPart f 15 (U.heap.size, _), _, _, _, _, _, _, _, _, _, _, _, _, _, _, _, _, rfl, hS, hIv.step (i := 15) hun (by decide) (Nat.le_refl _), fun h => h0 (set_getD (i := 15) (by decide) h), fun h => h1 (set_getD (i := 15) (by decide) h), fun h => h2 (set_getD (i := 15) (by decide) h), fun h => h3 (set_getD (i := 15) (by decide) h), fun h => h4 (set_getD (i := 15) (by decide) h), fun h => h5 (set_getD (i := 15) (by decide) h), fun h => h6 (set_getD (i := 15) (by decide) h), fun h => h7 (set_getD (i := 15) (by decide) h), fun h => h8 (set_getD (i := 15) (by decide) h), fun h => h9 (set_getD (i := 15) (by decide) h), fun h => h10 (set_getD (i := 15) (by decide) h), fun h => h11 (set_getD (i := 15) (by decide) h), fun h => h12 (set_getD (i := 15) (by decide) h), fun h => h13 (set_getD (i := 15) (by decide) h), fun h => h14 (set_getD (i := 15) (by decide) h), fun _ => ⟨set_getD' q2, set_getD' q5, set_getD' q8, set_getD' q11, set_getD' q14, rfl⟩, fun h => (by obtain ⟨x2, x5, x8, x11, x14, x⟩ := h16 (set_getD (i := 15) (by decide) h); exact ⟨set_getD' x2, set_getD' x5, set_getD' x8, set_getD' x11, set_getD' x14, x⟩)⟩
    · have e15 := (h15 (dep_of hi (d := 15) (by kernel_rfl))).2.2.2.2.2
      subst e15
      have q2 := dep_of hi (d := 2) (by kernel_rfl)
      have q5 := dep_of hi (d := 5) (by kernel_rfl)
      have q8 := dep_of hi (d := 8) (by kernel_rfl)
      have q11 := dep_of hi (d := 11) (by kernel_rfl)
      have q14 := dep_of hi (d := 14) (by kernel_rfl)
      obtain ⟨a5, k5, rfl⟩ := (h2 q2).at.shape
      obtain ⟨a8, k8, rfl⟩ := ownsRow_shape (h5 q5).1
      obtain ⟨a11, k11, rfl⟩ := ownsRow_shape (h8 q8).1
      obtain ⟨a14, k14, rfl⟩ := ownsRow_shape (h11 q11).1
      obtain ⟨a17, k17, rfl⟩ := ownsRow_shape (h14 q14).1
      obtain ⟨u0, pc0, pf0⟩ := hS.c 0 (by decide)
      obtain ⟨u1, pc1, pf1⟩ := hS.c 1 (by decide)
      obtain ⟨u2, pc2, pf2⟩ := hS.c 2 (by decide)
      obtain ⟨u3, pc3, pf3⟩ := hS.c 3 (by decide)
      obtain ⟨u4, pc4, pf4⟩ := hS.c 4 (by decide)
      refine inv_step (by rfl) (fun K hK => ?_)
      go_simp
      have hk : ∀ m, W0.heap.size ≤ m → m < U.heap.size → (set5 U (w.heap.size + 1) (.slice a5 V.tree.length k5) (.slice a8 V.op.length k8) (.slice a11 V.modal.length k11) (.slice a14 V.pops.length k14) (.slice a17 V.top.length k17)).heap[m]? = U.heap[m]? := fun m h1 _ => set5_block (by omega)
      exact hK.out _ _ ⟨upPart f 16 (U.heap.size, _), _, _, _, _, _, _, _, _, _, _, _, _, _, _, _, _, rfl, hS.set (by omega) _ _ _ _ _, hIv.step (i := 16) hun (by decide) (Nat.le_of_eq (set5_size _ _ _ _ _ _ _).symm), fun h => h0 (set_getD (i := 16) (by decide) h), fun h => h1 (set_getD (i := 16) (by decide) h), fun h => (h2 (set_getD (i := 16) (by decide) h)).keep (hIv.old (set_getD (i := 16) (by decide) h) (by decide) hk), fun h => h3 (set_getD (i := 16) (by decide) h), fun h => h4 (set_getD (i := 16) (by decide) h), fun h => (h5 (set_getD (i := 16) (by decide) h)).keep (hIv.old (set_getD (i := 16) (by decide) h) (by decide) hk), fun h => h6 (set_getD (i := 16) (by decide) h), fun h => h7 (set_getD (i := 16) (by decide) h), fun h => (h8 (set_getD (i := 16) (by decide) h)).keep (hIv.old (set_getD (i := 16) (by decide) h) (by decide) hk), fun h => h9 (set_getD (i := 16) (by decide) h), fun h => h10 (set_getD (i := 16) (by decide) h), fun h => (h11 (set_getD (i := 16) (by decide) h)).keep (hIv.old (set_getD (i := 16) (by decide) h) (by decide) hk), fun h => h12 (set_getD (i := 16) (by decide) h), fun h => h13 (set_getD (i := 16) (by decide) h), fun h => (h14 (set_getD (i := 16) (by decide) h)).keep (hIv.old (set_getD (i := 16) (by decide) h) (by decide) hk), fun h => (by obtain ⟨x2, x5, x8, x11, x14, x⟩ := h15 (set_getD (i := 16) (by decide) h); exact ⟨set_getD' x2, set_getD' x5, set_getD' x8, set_getD' x11, set_getD' x14, x⟩), fun _ => ⟨set_getD' q2, set_getD' q5, set_getD' q8, set_getD' q11, set_getD' q14, set5_at hS.c⟩⟩
  · rintro l a U hall ⟨f, s3, s4, s5, s6, s7, s8, s9, s10, s11, s12, s13, s14, s15, s16, s17, s18, rfl, hS, hIv, h0, h1, h2, h3, h4, h5, h6, h7, h8, h9, h10, h11, h12, h13, h14, h15, h16⟩
    have e0 := h0 (hall 0 (by decide))
    have e1 := h1 (hall 1 (by decide))
    have e2 := h2 (hall 2 (by decide))
    have e3 := h3 (hall 3 (by decide))
    have e4 := h4 (hall 4 (by decide))
    have e5 := h5 (hall 5 (by decide))
    have e6 := h6 (hall 6 (by decide))
    have e7 := h7 (hall 7 (by decide))
    have e8 := h8 (hall 8 (by decide))
    have e9 := h9 (hall 9 (by decide))
    have e10 := h10 (hall 10 (by decide))
    have e11 := h11 (hall 11 (by decide))
    have e12 := h12 (hall 12 (by decide))
    have e13 := h13 (hall 13 (by decide))
    have e14 := h14 (hall 14 (by decide))
    have e15 := h15 (hall 15 (by decide))
    have e16 := h16 (hall 16 (by decide))
    have HIV := hideG (hIv.all hall)
    clear hIv hall h0 h1 h2 h3 h4 h5 h6 h7 h8 h9 h10 h11 h12 h13 h14 h15 h16
    subst e0
    subst e1
    subst e3
    subst e4
    subst e6
    subst e7
    subst e9
    subst e10
    subst e12
    subst e13
    have e15 := e15.2.2.2.2.2
    subst e15
    have e16 := e16.2.2.2.2.2
    obtain ⟨a5, k5, rfl⟩ := e2.at.shape
    obtain ⟨a8, k8, rfl⟩ := ownsRow_shape e5.1
    obtain ⟨a11, k11, rfl⟩ := ownsRow_shape e8.1
    obtain ⟨a14, k14, rfl⟩ := ownsRow_shape e11.1
    obtain ⟨a17, k17, rfl⟩ := ownsRow_shape e14.1
    have H2 := hideG e2
    have H5 := hideG e5
    have H8 := hideG e8
    have H11 := hideG e11
    have H14 := hideG e14
    have HB := hideG hS.bel
    obtain ⟨r0, r1, r2, r3, r4⟩ := e16
    clear e2 e5 e8 e11 e14 hS
    go_wp2_with fail
    refine bodyPost_ret (v := .agg #[.slice a5 V.tree.length k5, .slice a8 V.op.length k8, .slice a11 V.modal.length k11, .slice a14 V.pops.length k14, .slice a17 V.top.length k17]) (by simp [results, Tryz.f27, go_sem, r0, r1, r2, r3, r4]) rfl ?_
    refine ⟨fun i => f (3 * i + 2), _, _, _, _, _, rfl, ⟨⟨fun i hi => ?_, fun i j hi hj hne => HIV.out.dis (3 * i + 2) (3 * j + 2) (by omega) (by omega) (by omega)⟩, H2.out, H5.out, H8.out, H11.out, H14.out⟩, HB.out⟩
    have := HIV.out.le (3 * i + 2) (by omega)
    exact ⟨by omega, this.2.1, this.2.2⟩
end Go.Proofs.YtclhimodopgeoaaGreat

namespace Go.Proofs.YtclhimodopgeoaaGreat
open Go.RowKit

structure OwnB (w : World) (base : Nat) (Bad : Nat → Prop) (f : Nat → Nat × Nat) (tv ov mv pv qv : Value) (V : Vw) : Prop where
  own : OwnV w base f tv ov mv pv qv V
  off : ∀ i, i < 5 → ∀ j, (f i).1 ≤ j → j < (f i).2 → ¬ Bad j
  bad : ∀ j, Bad j → j < w.heap.size
section
variable {w w1 w4 W : World} {base : Nat} {Bad : Nat → Prop} {f : Nat → Nat × Nat} {tv ov mv pv qv : Value} {V : Vw}
theorem OwnV.keepP (h : OwnV w base f tv ov mv pv qv V) (hs : w.heap.size ≤ W.heap.size) (hk : ∀ i, i < 5 → ∀ j, (f i).1 ≤ j → j < (f i).2 → W.heap[j]? = w.heap[j]?) : OwnV W base f tv ov mv pv qv V :=
  ⟨⟨fun i hi => by have := h.parts.le i hi; omega, h.parts.dis⟩, h.tree.keep (hk 0 (by omega)), h.op.keep (hk 1 (by omega)), h.modal.keep (hk 2 (by omega)), h.pops.keep (hk 3 (by omega)), h.top.keep (hk 4 (by omega))⟩
theorem OwnB.keep (h : OwnB w base Bad f tv ov mv pv qv V) (hs : w.heap.size ≤ W.heap.size) (hk : ∀ j, j < w.heap.size → ¬ Bad j → W.heap[j]? = w.heap[j]?) : OwnB W base Bad f tv ov mv pv qv V :=
  ⟨h.own.keepP hs (fun i hi j h1 h2 => hk j (by have := h.own.parts.le i hi; omega) (h.off i hi j h1 h2)), h.off, fun j hj => by have := h.bad j hj; omega⟩
theorem OwnB.at (h : OwnB w base Bad f tv ov mv pv qv V) : ViewAt w tv ov mv pv qv V := h.own.at
theorem OwnV.offB (h : OwnV w base f tv ov mv pv qv V) (hb : Below w.heap.size w W) (hB : ∀ j, Bad j → j < W.heap.size ∧ (j < base ∨ w.heap.size ≤ j)) : OwnB W base Bad f tv ov mv pv qv V :=
  ⟨h.below hb, fun i hi j h1 h2 hbad => by have := h.parts.le i hi; have := (hB j hbad).2; omega, fun j hj => (hB j hj).1⟩
theorem app_off {i : Nat} (hi : i < 5) {p : Nat × Nat} (h : OwnB w base Bad f tv ov mv pv qv V) (hb : Below w.heap.size w w1)
    (hp : p = f i ∨ p = (w1.heap.size, w4.heap.size)) : ∀ k, k < 5 → ∀ j, (upPart f i p k).1 ≤ j → j < (upPart f i p k).2 → ¬ Bad j := by
  intro k hk j h1 h2 hbad
  have hlt := h.bad j hbad
  unfold upPart at h1 h2
  by_cases q : k = i
  · rw [if_pos q] at h1 h2
    rcases hp with rfl | rfl
    · exact h.off i hi j h1 h2 hbad
    · have := hb.size
      have h1' : w1.heap.size ≤ j := h1
      omega
  · rw [if_neg q] at h1 h2
    exact h.off k hk j h1 h2 hbad
/-- A list that has grown by append, with where it lies. -/
theorem app_part' {i : Nat} (hi : i < 5) {e : TypeId} {sz : Nat} {v v4 : Value} {n : Nat} {xs xs' : List Value} (hp : Parts f 5 base w.heap.size) (hr : RowIn w (f i) e sz v n xs)
    (hb : Below w.heap.size w w1) (ho4 : w4.ownsRow (f i).1 e sz v4 (n + 1) xs') (hg : w1.grownBy w4 v.ownBlock) (hf : ∀ k, v4.ownBlock = some k → v.ownBlock = some k ∨ w1.heap.size ≤ k) :
    ∃ p, (p = f i ∨ p = (w1.heap.size, w4.heap.size)) ∧ RowIn w4 p e sz v4 (n + 1) xs' ∧ Parts (upPart f i p) 5 base w4.heap.size ∧ (∀ k, k < 5 → k ≠ i → ∀ j, (f k).1 ≤ j → j < (f k).2 → w4.heap[j]? = w.heap[j]?) := by
  have hs := hb.size
  have hs4 := hg.size
  have hle := hp.le i hi
  have hkeep : ∀ k, k < 5 → k ≠ i → ∀ j, (f k).1 ≤ j → j < (f k).2 → w4.heap[j]? = w.heap[j]? := fun k hk hne j h1 h2 => by
    have hk' := hp.le k hk
    refine (hg.block j (by omega) (fun e => ?_)).trans (hb.block j (by omega))
    have h3 := (hr.1.lt j e.symm).1
    have h4 := hr.2 j e.symm
    rcases hp.dis k i hk hi hne with h | h <;> omega
  have hfin : ∀ p : Nat × Nat, base ≤ p.1 → p.1 ≤ p.2 → p.2 ≤ w4.heap.size → (∀ k, k < 5 → k ≠ i → DisI p (f k)) → Parts (upPart f i p) 5 base w4.heap.size := fun p h1 h2 h3 hd => ⟨fun k hk => by
    unfold upPart
    by_cases q : k = i
    · rw [if_pos q]; exact ⟨h1, h2, h3⟩
    · rw [if_neg q]; have := hp.le k hk; omega, fun k m hk hm hne => by
    unfold upPart
    by_cases q : k = i
    · rw [if_pos q, if_neg (by omega)]; exact hd m hm (by omega)
    · by_cases q2 : m = i
      · rw [if_neg q, if_pos q2]; exact (hd k hk q).symm
      · rw [if_neg q, if_neg q2]; exact hp.dis k m hk hm hne⟩
  cases hv : v4.ownBlock with
  | none => exact ⟨f i, .inl rfl, ⟨ho4, fun k h => by rw [hv] at h; cases h⟩, hfin _ hle.1 hle.2.1 (by omega) (fun k hk hne => hp.dis i k hi hk (by omega)), hkeep⟩
  | some k =>
    rcases hf k hv with h | h
    · exact ⟨f i, .inl rfl, ⟨ho4, fun m hm => by rw [hv] at hm; cases hm; exact hr.2 k h⟩, hfin _ hle.1 hle.2.1 (by omega) (fun k hk hne => hp.dis i k hi hk (by omega)), hkeep⟩
    · refine ⟨(w1.heap.size, w4.heap.size), .inr rfl, ⟨ownsRow_rebase ho4 (fun m hm => by rw [hv] at hm; cases hm; exact h), fun m hm => (ho4.lt m hm).2⟩, hfin (w1.heap.size, w4.heap.size) (by show base ≤ w1.heap.size; omega) hs4 (Nat.le_refl _) (fun k hk hne => ?_), hkeep⟩
      have := hp.le k hk
      exact .inr (by show (f k).2 ≤ w1.heap.size; omega)
theorem OwnB.appModal {v4 : Value} {n : Int} (h : OwnB w base Bad f tv ov mv pv qv V) (hb : Below w.heap.size w w1)
    (ho4 : w4.ownsRow (f 2).1 3 1 v4 (V.modal.length + 1) (intCells (V.modal ++ [n]))) (hg : w1.grownBy w4 mv.ownBlock) (hf : ∀ k, v4.ownBlock = some k → mv.ownBlock = some k ∨ w1.heap.size ≤ k) :
    ∃ g, OwnB w4 base Bad g tv ov v4 pv qv { V with modal := V.modal ++ [n] } := by
  obtain ⟨p, hp, hr, hP, hk⟩ := app_part' (i := 2) (by omega) h.own.parts h.own.modal hb ho4 hg hf
  have hs := Nat.le_trans hb.size hg.size
  refine ⟨upPart f 2 p, ⟨hP, h.own.tree.keep (hk 0 (by omega) (by omega)), h.own.op.keep (hk 1 (by omega) (by omega)), ?_, h.own.pops.keep (hk 3 (by omega) (by omega)), h.own.top.keep (hk 4 (by omega) (by omega))⟩, app_off (by omega) h hb hp, fun j hj => by have := h.bad j hj; omega⟩
  show RowIn w4 p 3 1 v4 (V.modal ++ [n]).length _
  rw [List.length_append]; exact hr
theorem OwnB.appPops {v4 : Value} {x : Sh} (h : OwnB w base Bad f tv ov mv pv qv V) (hb : Below w.heap.size w w1)
    (ho4 : w4.ownsRow (f 3).1 39 2 v4 (V.pops.length + 1) (shCells (V.pops ++ [x]))) (hg : w1.grownBy w4 pv.ownBlock) (hf : ∀ k, v4.ownBlock = some k → pv.ownBlock = some k ∨ w1.heap.size ≤ k) :
    ∃ g, OwnB w4 base Bad g tv ov mv v4 qv { V with pops := V.pops ++ [x] } := by
  obtain ⟨p, hp, hr, hP, hk⟩ := app_part' (i := 3) (by omega) h.own.parts h.own.pops hb ho4 hg hf
  have hs := Nat.le_trans hb.size hg.size
  refine ⟨upPart f 3 p, ⟨hP, h.own.tree.keep (hk 0 (by omega) (by omega)), h.own.op.keep (hk 1 (by omega) (by omega)), h.own.modal.keep (hk 2 (by omega) (by omega)), ?_, h.own.top.keep (hk 4 (by omega) (by omega))⟩, app_off (by omega) h hb hp, fun j hj => by have := h.bad j hj; omega⟩
  show RowIn w4 p 39 2 v4 (V.pops ++ [x]).length _
  rw [List.length_append]; exact hr
theorem OwnB.appTop {v4 : Value} {n : Int} (h : OwnB w base Bad f tv ov mv pv qv V) (hb : Below w.heap.size w w1)
    (ho4 : w4.ownsRow (f 4).1 3 1 v4 (V.top.length + 1) (intCells (V.top ++ [n]))) (hg : w1.grownBy w4 qv.ownBlock) (hf : ∀ k, v4.ownBlock = some k → qv.ownBlock = some k ∨ w1.heap.size ≤ k) :
    ∃ g, OwnB w4 base Bad g tv ov mv pv v4 { V with top := V.top ++ [n] } := by
  obtain ⟨p, hp, hr, hP, hk⟩ := app_part' (i := 4) (by omega) h.own.parts h.own.top hb ho4 hg hf
  have hs := Nat.le_trans hb.size hg.size
  refine ⟨upPart f 4 p, ⟨hP, h.own.tree.keep (hk 0 (by omega) (by omega)), h.own.op.keep (hk 1 (by omega) (by omega)), h.own.modal.keep (hk 2 (by omega) (by omega)), h.own.pops.keep (hk 3 (by omega) (by omega)), ?_⟩, app_off (by omega) h hb hp, fun j hj => by have := h.bad j hj; omega⟩
  show RowIn w4 p 3 1 v4 (V.top ++ [n]).length _
  rw [List.length_append]; exact hr
/-- The cells of a block that is bad for the view lie as they lay when a list of it grows. -/
theorem OwnB.badCell {v : Value} {e : TypeId} {sz : Nat} {xs : List Value} {i n : Nat} {b o : Nat} {u : Value} (h : OwnB w base Bad f tv ov mv pv qv V) (hi : i < 5) (hr : RowIn w (f i) e sz v n xs) (hb : Below w.heap.size w w1) (hg : w1.grownBy w4 v.ownBlock) (hB : Bad b) (hc : w.cell? ⟨b, o, none⟩ = some u) :
    w4.cell? ⟨b, o, none⟩ = some u := by
  have hlt := h.bad b hB
  have hs := hb.size
  refine (World.cell?_of_block (a := ⟨b, o, none⟩) (hg.block b (by omega) (fun e => ?_))).trans (cell_below hb hc)
  exact h.off i hi b (hr.1.lt b e.symm).1 (hr.2 b e.symm) hB
theorem OwnB.badFrozen {v : Value} {e : TypeId} {sz : Nat} {xs : List Value} {i n : Nat} {b o : Nat} {u : Value} (h : OwnB w base Bad f tv ov mv pv qv V) (hi : i < 5) (hr : RowIn w (f i) e sz v n xs) (hb : Below w.heap.size w w1) (hg : w1.grownBy w4 v.ownBlock) (hB : Bad b) (hc : w.cell? ⟨b, o, none⟩ = some u) (hf : w.frozen? ⟨b, o, none⟩ = false) :
    w4.frozen? ⟨b, o, none⟩ = false := by
  have hlt := h.bad b hB
  have hs := hb.size
  refine (World.frozen?_of_block (a := ⟨b, o, none⟩) (hg.block b (by omega) (fun e => ?_))).trans (frozen_below hb hc hf)
  exact h.off i hi b (hr.1.lt b e.symm).1 (hr.2 b e.symm) hB
end
end Go.Proofs.YtclhimodopgeoaaGreat

namespace Go.Proofs.YtclhimodopgeoaaGreat
open Go.RowKit

def emptyV : Vw := ⟨[], [], [], [], []⟩
theorem emptyV_at (w : World) : ViewAt w (.slice none 0 0) (.slice none 0 0) (.slice none 0 0) (.slice none 0 0) (.slice none 0 0) emptyV :=
  ⟨treeAt_nilS, ints_none w, ints_none w, shs_none w, ints_none w⟩
theorem set_otherB {w : World} {b b' i j : Nat} {u v : Value} (c : w.cell? ⟨b, i, none⟩ = some u) (h : b' ≠ b) : (w.setCell ⟨b', j, none⟩ v).cell? ⟨b, i, none⟩ = some u :=
  (World.cell?_of_block (a := ⟨b, i, none⟩) (heap_setCell_other w ⟨b', j, none⟩ b v (by first | exact h | exact h.symm))).trans c
theorem setc_block {X : World} {b o m : Nat} {v : Value} (h : m ≠ b) : (X.setCell ⟨b, o, none⟩ v).heap[m]? = X.heap[m]? := heap_setCell_other X ⟨b, o, none⟩ m v (by first | exact h | exact h.symm)

set_option maxRecDepth 100000 in
set_option maxHeartbeats 4000000 in
theorem dlgKind (tv ov mv pv qv : Value) (V : Vw) (w : World) (hV : ViewAt w tv ov mv pv qv V) (hS : Sane V.tree) (hl : smallL V) (n : Int) (m : Bool) (hck : checkV V = 0) (hn : isNodeB V.tree.length n = true) (hd : dlgB V.tree n = false) :
    Calls Tryz.prog 29 #[.agg #[tv, ov, mv, pv, qv], .int .i64 n, .bool m] w fun x w' => ∃ t o m p q, x = .returned (.tuple #[.agg #[t, o, m, p, q], .int .i64 (3)]) ∧ ViewAt w' t o m p q V ∧ Below w.heap.size w w' := by
  obtain ⟨hT, hO, hM, hP, hQ⟩ := hV
  obtain ⟨ta, tc, rfl⟩ := hT.shape
  obtain ⟨oa, oc, rfl⟩ := hO.shape
  obtain ⟨ma, mc, rfl⟩ := hM.shape
  obtain ⟨pa, pc, rfl⟩ := hP.shape
  obtain ⟨qa, qc, rfl⟩ := hQ.shape
  obtain ⟨W0, hW0⟩ : ∃ W0, (w.alloc (.cells #[.slice ta V.tree.length tc, .slice oa V.op.length oc, .slice ma V.modal.length mc, .slice pa V.pops.length pc, .slice qa V.top.length qc] 27)).alloc (.cells #[.slice none 0 0, .slice none 0 0, .slice none 0 0, .slice none 0 0, .slice none 0 0] 27) = W0 := ⟨_, rfl⟩
  have hbw : Below w.heap.size w W0 := by rw [← hW0]; exact ((Below.refl _ w).alloc (Nat.le_refl _) _).alloc (by simp) _
  have HB0 := hideG hbw
  have P0 := hideG (show W0.cell? ⟨w.heap.size, 0, none⟩ = some (.slice ta V.tree.length tc) by rw [← hW0]; exact cell_alloc_l _ (by simp))
  have P1 := hideG (show W0.cell? ⟨w.heap.size, 1, none⟩ = some (.slice oa V.op.length oc) by rw [← hW0]; exact cell_alloc_l _ (by simp))
  have P2 := hideG (show W0.cell? ⟨w.heap.size, 2, none⟩ = some (.slice ma V.modal.length mc) by rw [← hW0]; exact cell_alloc_l _ (by simp))
  have P3 := hideG (show W0.cell? ⟨w.heap.size, 3, none⟩ = some (.slice pa V.pops.length pc) by rw [← hW0]; exact cell_alloc_l _ (by simp))
  have P4 := hideG (show W0.cell? ⟨w.heap.size, 4, none⟩ = some (.slice qa V.top.length qc) by rw [← hW0]; exact cell_alloc_l _ (by simp))
  have HR := hideG (show ∀ j, j < 5 → ∃ u, W0.cell? ⟨w.heap.size + 1, j, none⟩ = some u ∧ W0.frozen? ⟨w.heap.size + 1, j, none⟩ = false from by
    have h1 := World.alloc_heap_new (w.alloc (.cells #[.slice ta V.tree.length tc, .slice oa V.op.length oc, .slice ma V.modal.length mc, .slice pa V.pops.length pc, .slice qa V.top.length qc] 27)) (.cells #[.slice none 0 0, .slice none 0 0, .slice none 0 0, .slice none 0 0, .slice none 0 0] 27)
    rw [World.size_alloc, hW0] at h1
    intro j hj
    obtain rfl | rfl | rfl | rfl | rfl : j = 0 ∨ j = 1 ∨ j = 2 ∨ j = 3 ∨ j = 4 := by omega
    all_goals exact ⟨.slice none 0 0, by simp [World.cell?, h1], by simp [World.frozen?, h1]⟩)
  have hs0 : W0.heap.size = w.heap.size + 2 := by rw [← hW0]; simp
  have HS0 := hideG hs0
  have HV := hideG (show ViewAt w _ _ _ _ _ V from ⟨hT, hO, hM, hP, hQ⟩)
  have HV0 := hideG (HV.out.below hbw)
  have HW0 := hideG hW0
  have HS := hideG hS
  have HL := hideG hl
  have HC := hideG (checkV_any _ _ _ _ _ V W0 HV0.out HS.out HL.out)
  have h1l : V.op.length ≤ 500 := hl.1
  have h2l : V.modal.length ≤ 500 := hl.2.1
  have h3l : V.pops.length ≤ 500 := hl.2.2.1
  have h4l : V.top.length ≤ 1000 := hl.2.2.2
  have p0 := P0.out
  have p1 := P1.out
  have p2 := P2.out
  have p3 := P3.out
  have p4 := P4.out
  have HM := hideG (show mayB V.tree = true from check_may hck)
  rw [hck] at HC
  clear hW0 hT hO hM hP hQ hS hl hbw hs0 hck
  have HN := hideG hn
  have HD := hideG hd
  clear hn hd
  go_enter Tryz.func29, Tryz.ntmps29
  go_wp2_with fail
  rw [HW0.out]
  refine HC.out.mono ?_
  rintro ex w1 ⟨rfl, hb1⟩
  have HX1 := hideG hb1
  clear hb1 p0 p1 p2 p3 p4
  have p0 := cell_below HX1.out P0.out
  have p1 := cell_below HX1.out P1.out
  have p2 := cell_below HX1.out P2.out
  have p3 := cell_below HX1.out P3.out
  have p4 := cell_below HX1.out P4.out
  have hwb : w.heap.size < w1.heap.size := below_of_cell p0
  have HRk := hideG (show ∀ j, j < 5 → ∃ u, w1.cell? ⟨w.heap.size + 1, j, none⟩ = some u ∧ w1.frozen? ⟨w.heap.size + 1, j, none⟩ = false from fun j hj => let ⟨u, h1, h2⟩ := HR.out j hj; ⟨u, cell_below HX1.out h1, frozen_below HX1.out h1 h2⟩)
  obtain ⟨u0, rc0, rf0⟩ := HRk.out 0 (by decide)
  obtain ⟨u1, rc1, rf1⟩ := HRk.out 1 (by decide)
  obtain ⟨u2, rc2, rf2⟩ := HRk.out 2 (by decide)
  obtain ⟨u3, rc3, rf3⟩ := HRk.out 3 (by decide)
  obtain ⟨u4, rc4, rf4⟩ := HRk.out 4 (by decide)
  go_wp2_with (go_at_call 83; refine (isNode10_any _ _ _ _ _).mono ?_; rintro e wz ⟨rfl, hwz⟩; obtain rfl : _ = wz := hwz.symm; rw [HN.out])
  clear p0 p1 p2 p3 p4 hwb rc0 rc1 rc2 rc3 rc4 rf0 rf1 rf2 rf3 rf4 HRk
  refine (judgeOf_any V.tree HS.out _ w1 (HV0.out.tree.below HX1.out)).mono ?_
  rintro ex w2 ⟨ca, cc, rfl, hI2, hb2⟩
  have HI2 := hideG hI2
  clear hI2
  have HX2 := hideG (HX1.out.trans (hb2.mono HX1.out.size))
  clear hb2
  have p0 := cell_below HX2.out P0.out
  have p1 := cell_below HX2.out P1.out
  have p2 := cell_below HX2.out P2.out
  have p3 := cell_below HX2.out P3.out
  have p4 := cell_below HX2.out P4.out
  have hwb : w.heap.size < w2.heap.size := below_of_cell p0
  have HRk := hideG (show ∀ j, j < 5 → ∃ u, w2.cell? ⟨w.heap.size + 1, j, none⟩ = some u ∧ w2.frozen? ⟨w.heap.size + 1, j, none⟩ = false from fun j hj => let ⟨u, h1, h2⟩ := HR.out j hj; ⟨u, cell_below HX2.out h1, frozen_below HX2.out h1 h2⟩)
  obtain ⟨u0, rc0, rf0⟩ := HRk.out 0 (by decide)
  obtain ⟨u1, rc1, rf1⟩ := HRk.out 1 (by decide)
  obtain ⟨u2, rc2, rf2⟩ := HRk.out 2 (by decide)
  obtain ⟨u3, rc3, rf3⟩ := HRk.out 3 (by decide)
  obtain ⟨u4, rc4, rf4⟩ := HRk.out 4 (by decide)
  go_wp2_with fail
  clear p0 p1 p2 p3 p4 hwb rc0 rc1 rc2 rc3 rc4 rf0 rf1 rf2 rf3 rf4 HRk
  refine (dialog_any V.tree HM.out _ _ n w2 (HV0.out.tree.below HX2.out) HI2.out).mono ?_
  rintro ex w3 ⟨rfl, hb3⟩
  rw [HD.out]
  have HX3 := hideG (HX2.out.trans (hb3.mono HX2.out.size))
  clear hb3
  have p0 := cell_below HX3.out P0.out
  have p1 := cell_below HX3.out P1.out
  have p2 := cell_below HX3.out P2.out
  have p3 := cell_below HX3.out P3.out
  have p4 := cell_below HX3.out P4.out
  have hwb : w.heap.size < w3.heap.size := below_of_cell p0
  have HRk := hideG (show ∀ j, j < 5 → ∃ u, w3.cell? ⟨w.heap.size + 1, j, none⟩ = some u ∧ w3.frozen? ⟨w.heap.size + 1, j, none⟩ = false from fun j hj => let ⟨u, h1, h2⟩ := HR.out j hj; ⟨u, cell_below HX3.out h1, frozen_below HX3.out h1 h2⟩)
  obtain ⟨u0, rc0, rf0⟩ := HRk.out 0 (by decide)
  obtain ⟨u1, rc1, rf1⟩ := HRk.out 1 (by decide)
  obtain ⟨u2, rc2, rf2⟩ := HRk.out 2 (by decide)
  obtain ⟨u3, rc3, rf3⟩ := HRk.out 3 (by decide)
  obtain ⟨u4, rc4, rf4⟩ := HRk.out 4 (by decide)
  go_wp2_with fail
  have HB := hideG (HB0.out.trans (HX3.out.mono HB0.out.size))
  have hat := set5_at (U := w3) (R := w.heap.size + 1) (v0 := .slice ta V.tree.length tc) (v1 := .slice oa V.op.length oc) (v2 := .slice ma V.modal.length mc) (v3 := .slice pa V.pops.length pc) (v4 := .slice qa V.top.length qc) HRk.out
  unfold set5 at hat
  obtain ⟨t0, t1, t2, t3, t4⟩ := hat
  refine bodyPost_ret (v := .tuple #[.agg #[.slice ta V.tree.length tc, .slice oa V.op.length oc, .slice ma V.modal.length mc, .slice pa V.pops.length pc, .slice qa V.top.length qc], .int .i64 (3)]) (by simp [results, Tryz.f29, go_sem, t0, t1, t2, t3, t4]) rfl ?_
  refine ⟨_, _, _, _, _, rfl, ?_, set5_below HB.out (by omega)⟩
  exact HV.out.below (set5_below HB.out (by omega))

set_option maxRecDepth 100000 in
set_option maxHeartbeats 4000000 in
theorem dlgState (tv ov mv pv qv : Value) (V : Vw) (w : World) (hV : ViewAt w tv ov mv pv qv V) (hS : Sane V.tree) (hl : smallL V) (n : Int) (m : Bool) (hck : checkV V = 0) (hn : isNodeB V.tree.length n = true) (hd : dlgB V.tree n = true) (ho : containsB (openedL V) n = true) :
    Calls Tryz.prog 29 #[.agg #[tv, ov, mv, pv, qv], .int .i64 n, .bool m] w fun x w' => ∃ t o m p q, x = .returned (.tuple #[.agg #[t, o, m, p, q], .int .i64 (9)]) ∧ ViewAt w' t o m p q V ∧ Below w.heap.size w w' := by
  obtain ⟨hT, hO, hM, hP, hQ⟩ := hV
  obtain ⟨ta, tc, rfl⟩ := hT.shape
  obtain ⟨oa, oc, rfl⟩ := hO.shape
  obtain ⟨ma, mc, rfl⟩ := hM.shape
  obtain ⟨pa, pc, rfl⟩ := hP.shape
  obtain ⟨qa, qc, rfl⟩ := hQ.shape
  obtain ⟨W0, hW0⟩ : ∃ W0, (w.alloc (.cells #[.slice ta V.tree.length tc, .slice oa V.op.length oc, .slice ma V.modal.length mc, .slice pa V.pops.length pc, .slice qa V.top.length qc] 27)).alloc (.cells #[.slice none 0 0, .slice none 0 0, .slice none 0 0, .slice none 0 0, .slice none 0 0] 27) = W0 := ⟨_, rfl⟩
  have hbw : Below w.heap.size w W0 := by rw [← hW0]; exact ((Below.refl _ w).alloc (Nat.le_refl _) _).alloc (by simp) _
  have HB0 := hideG hbw
  have P0 := hideG (show W0.cell? ⟨w.heap.size, 0, none⟩ = some (.slice ta V.tree.length tc) by rw [← hW0]; exact cell_alloc_l _ (by simp))
  have P1 := hideG (show W0.cell? ⟨w.heap.size, 1, none⟩ = some (.slice oa V.op.length oc) by rw [← hW0]; exact cell_alloc_l _ (by simp))
  have P2 := hideG (show W0.cell? ⟨w.heap.size, 2, none⟩ = some (.slice ma V.modal.length mc) by rw [← hW0]; exact cell_alloc_l _ (by simp))
  have P3 := hideG (show W0.cell? ⟨w.heap.size, 3, none⟩ = some (.slice pa V.pops.length pc) by rw [← hW0]; exact cell_alloc_l _ (by simp))
  have P4 := hideG (show W0.cell? ⟨w.heap.size, 4, none⟩ = some (.slice qa V.top.length qc) by rw [← hW0]; exact cell_alloc_l _ (by simp))
  have HR := hideG (show ∀ j, j < 5 → ∃ u, W0.cell? ⟨w.heap.size + 1, j, none⟩ = some u ∧ W0.frozen? ⟨w.heap.size + 1, j, none⟩ = false from by
    have h1 := World.alloc_heap_new (w.alloc (.cells #[.slice ta V.tree.length tc, .slice oa V.op.length oc, .slice ma V.modal.length mc, .slice pa V.pops.length pc, .slice qa V.top.length qc] 27)) (.cells #[.slice none 0 0, .slice none 0 0, .slice none 0 0, .slice none 0 0, .slice none 0 0] 27)
    rw [World.size_alloc, hW0] at h1
    intro j hj
    obtain rfl | rfl | rfl | rfl | rfl : j = 0 ∨ j = 1 ∨ j = 2 ∨ j = 3 ∨ j = 4 := by omega
    all_goals exact ⟨.slice none 0 0, by simp [World.cell?, h1], by simp [World.frozen?, h1]⟩)
  have hs0 : W0.heap.size = w.heap.size + 2 := by rw [← hW0]; simp
  have HS0 := hideG hs0
  have HV := hideG (show ViewAt w _ _ _ _ _ V from ⟨hT, hO, hM, hP, hQ⟩)
  have HV0 := hideG (HV.out.below hbw)
  have HW0 := hideG hW0
  have HS := hideG hS
  have HL := hideG hl
  have HC := hideG (checkV_any _ _ _ _ _ V W0 HV0.out HS.out HL.out)
  have h1l : V.op.length ≤ 500 := hl.1
  have h2l : V.modal.length ≤ 500 := hl.2.1
  have h3l : V.pops.length ≤ 500 := hl.2.2.1
  have h4l : V.top.length ≤ 1000 := hl.2.2.2
  have p0 := P0.out
  have p1 := P1.out
  have p2 := P2.out
  have p3 := P3.out
  have p4 := P4.out
  have HM := hideG (show mayB V.tree = true from check_may hck)
  rw [hck] at HC
  clear hW0 hT hO hM hP hQ hS hl hbw hs0 hck
  have HN := hideG hn
  have HD := hideG hd
  have HO := hideG ho
  clear ho
  clear hn hd
  go_enter Tryz.func29, Tryz.ntmps29
  go_wp2_with fail
  rw [HW0.out]
  refine HC.out.mono ?_
  rintro ex w1 ⟨rfl, hb1⟩
  have HX1 := hideG hb1
  clear hb1 p0 p1 p2 p3 p4
  have p0 := cell_below HX1.out P0.out
  have p1 := cell_below HX1.out P1.out
  have p2 := cell_below HX1.out P2.out
  have p3 := cell_below HX1.out P3.out
  have p4 := cell_below HX1.out P4.out
  have hwb : w.heap.size < w1.heap.size := below_of_cell p0
  have HRk := hideG (show ∀ j, j < 5 → ∃ u, w1.cell? ⟨w.heap.size + 1, j, none⟩ = some u ∧ w1.frozen? ⟨w.heap.size + 1, j, none⟩ = false from fun j hj => let ⟨u, h1, h2⟩ := HR.out j hj; ⟨u, cell_below HX1.out h1, frozen_below HX1.out h1 h2⟩)
  obtain ⟨u0, rc0, rf0⟩ := HRk.out 0 (by decide)
  obtain ⟨u1, rc1, rf1⟩ := HRk.out 1 (by decide)
  obtain ⟨u2, rc2, rf2⟩ := HRk.out 2 (by decide)
  obtain ⟨u3, rc3, rf3⟩ := HRk.out 3 (by decide)
  obtain ⟨u4, rc4, rf4⟩ := HRk.out 4 (by decide)
  go_wp2_with (go_at_call 83; refine (isNode10_any _ _ _ _ _).mono ?_; rintro e wz ⟨rfl, hwz⟩; obtain rfl : _ = wz := hwz.symm; rw [HN.out])
  clear p0 p1 p2 p3 p4 hwb rc0 rc1 rc2 rc3 rc4 rf0 rf1 rf2 rf3 rf4 HRk
  refine (judgeOf_any V.tree HS.out _ w1 (HV0.out.tree.below HX1.out)).mono ?_
  rintro ex w2 ⟨ca, cc, rfl, hI2, hb2⟩
  have HI2 := hideG hI2
  clear hI2
  have HX2 := hideG (HX1.out.trans (hb2.mono HX1.out.size))
  clear hb2
  have p0 := cell_below HX2.out P0.out
  have p1 := cell_below HX2.out P1.out
  have p2 := cell_below HX2.out P2.out
  have p3 := cell_below HX2.out P3.out
  have p4 := cell_below HX2.out P4.out
  have hwb : w.heap.size < w2.heap.size := below_of_cell p0
  have HRk := hideG (show ∀ j, j < 5 → ∃ u, w2.cell? ⟨w.heap.size + 1, j, none⟩ = some u ∧ w2.frozen? ⟨w.heap.size + 1, j, none⟩ = false from fun j hj => let ⟨u, h1, h2⟩ := HR.out j hj; ⟨u, cell_below HX2.out h1, frozen_below HX2.out h1 h2⟩)
  obtain ⟨u0, rc0, rf0⟩ := HRk.out 0 (by decide)
  obtain ⟨u1, rc1, rf1⟩ := HRk.out 1 (by decide)
  obtain ⟨u2, rc2, rf2⟩ := HRk.out 2 (by decide)
  obtain ⟨u3, rc3, rf3⟩ := HRk.out 3 (by decide)
  obtain ⟨u4, rc4, rf4⟩ := HRk.out 4 (by decide)
  go_wp2_with fail
  clear p0 p1 p2 p3 p4 hwb rc0 rc1 rc2 rc3 rc4 rf0 rf1 rf2 rf3 rf4 HRk
  refine (dialog_any V.tree HM.out _ _ n w2 (HV0.out.tree.below HX2.out) HI2.out).mono ?_
  rintro ex w3 ⟨rfl, hb3⟩
  rw [HD.out]
  have HX3 := hideG (HX2.out.trans (hb3.mono HX2.out.size))
  clear hb3
  have p0 := cell_below HX3.out P0.out
  have p1 := cell_below HX3.out P1.out
  have p2 := cell_below HX3.out P2.out
  have p3 := cell_below HX3.out P3.out
  have p4 := cell_below HX3.out P4.out
  have hwb : w.heap.size < w3.heap.size := below_of_cell p0
  have HRk := hideG (show ∀ j, j < 5 → ∃ u, w3.cell? ⟨w.heap.size + 1, j, none⟩ = some u ∧ w3.frozen? ⟨w.heap.size + 1, j, none⟩ = false from fun j hj => let ⟨u, h1, h2⟩ := HR.out j hj; ⟨u, cell_below HX3.out h1, frozen_below HX3.out h1 h2⟩)
  obtain ⟨u0, rc0, rf0⟩ := HRk.out 0 (by decide)
  obtain ⟨u1, rc1, rf1⟩ := HRk.out 1 (by decide)
  obtain ⟨u2, rc2, rf2⟩ := HRk.out 2 (by decide)
  obtain ⟨u3, rc3, rf3⟩ := HRk.out 3 (by decide)
  obtain ⟨u4, rc4, rf4⟩ := HRk.out 4 (by decide)
  go_wp2_with fail
  clear p0 p1 p2 p3 p4 hwb rc0 rc1 rc2 rc3 rc4 rf0 rf1 rf2 rf3 rf4 HRk
  refine (opened_any _ _ _ _ _ V w3 (HV0.out.below HX3.out) ⟨by omega, by omega, by omega⟩).mono ?_
  rintro ex w4 ⟨oa', oc', rfl, ho4, hb4⟩
  have HI4 := hideG (ownsRow_ints ho4)
  clear ho4
  have HX4 := hideG (HX3.out.trans (hb4.mono HX3.out.size))
  clear hb4
  have p0 := cell_below HX4.out P0.out
  have p1 := cell_below HX4.out P1.out
  have p2 := cell_below HX4.out P2.out
  have p3 := cell_below HX4.out P3.out
  have p4 := cell_below HX4.out P4.out
  have hwb : w.heap.size < w4.heap.size := below_of_cell p0
  have HRk := hideG (show ∀ j, j < 5 → ∃ u, w4.cell? ⟨w.heap.size + 1, j, none⟩ = some u ∧ w4.frozen? ⟨w.heap.size + 1, j, none⟩ = false from fun j hj => let ⟨u, h1, h2⟩ := HR.out j hj; ⟨u, cell_below HX4.out h1, frozen_below HX4.out h1 h2⟩)
  obtain ⟨u0, rc0, rf0⟩ := HRk.out 0 (by decide)
  obtain ⟨u1, rc1, rf1⟩ := HRk.out 1 (by decide)
  obtain ⟨u2, rc2, rf2⟩ := HRk.out 2 (by decide)
  obtain ⟨u3, rc3, rf3⟩ := HRk.out 3 (by decide)
  obtain ⟨u4, rc4, rf4⟩ := HRk.out 4 (by decide)
  have HOL := hideG (opened_len V)
  go_wp2_with (go_at_call 73; refine (contains_any (openedL V) _ n w4 HI4.out (by have := HOL.out; omega)).mono ?_; rintro e wz ⟨rfl, hwz⟩; obtain rfl : _ = wz := hwz.symm; rw [HO.out])
  have HB := hideG (HB0.out.trans (HX4.out.mono HB0.out.size))
  have hat := set5_at (U := w4) (R := w.heap.size + 1) (v0 := .slice ta V.tree.length tc) (v1 := .slice oa V.op.length oc) (v2 := .slice ma V.modal.length mc) (v3 := .slice pa V.pops.length pc) (v4 := .slice qa V.top.length qc) HRk.out
  unfold set5 at hat
  obtain ⟨t0, t1, t2, t3, t4⟩ := hat
  refine bodyPost_ret (v := .tuple #[.agg #[.slice ta V.tree.length tc, .slice oa V.op.length oc, .slice ma V.modal.length mc, .slice pa V.pops.length pc, .slice qa V.top.length qc], .int .i64 (9)]) (by simp [results, Tryz.f29, go_sem, t0, t1, t2, t3, t4]) rfl ?_
  refine ⟨_, _, _, _, _, rfl, ?_, set5_below HB.out (by omega)⟩
  exact HV.out.below (set5_below HB.out (by omega))
end Go.Proofs.YtclhimodopgeoaaGreat

namespace Go.Proofs.YtclhimodopgeoaaGreat
open Go.RowKit
structure PopS (W0 : World) (B X : Nat) (tv ov mv pv qv : Value) (x : Sh) (U : World) : Prop where
  bel : Below W0.heap.size W0 U
  c0 : U.cell? ⟨B, 0, none⟩ = some tv
  c1 : U.cell? ⟨B, 1, none⟩ = some ov
  c2 : U.cell? ⟨B, 2, none⟩ = some mv
  c3 : U.cell? ⟨B, 3, none⟩ = some pv
  c4 : U.cell? ⟨B, 4, none⟩ = some qv
  x0 : U.cell? ⟨X, 0, none⟩ = some (.int .i64 x.node)
  x1 : U.cell? ⟨X, 1, none⟩ = some (.int .i64 x.inv)
theorem PopS.below {W0 U U' : World} {B X : Nat} {tv ov mv pv qv : Value} {x : Sh} (h : PopS W0 B X tv ov mv pv qv x U) (hb : Below U.heap.size U U') : PopS W0 B X tv ov mv pv qv x U' :=
  ⟨h.bel.trans (hb.mono h.bel.size), cell_below hb h.c0, cell_below hb h.c1, cell_below hb h.c2, cell_below hb h.c3, cell_below hb h.c4, cell_below hb h.x0, cell_below hb h.x1⟩
theorem PopS.start {W0 : World} {B X : Nat} {tv ov mv pv qv : Value} {x : Sh} (h0 : W0.cell? ⟨B, 0, none⟩ = some tv) (h1 : W0.cell? ⟨B, 1, none⟩ = some ov) (h2 : W0.cell? ⟨B, 2, none⟩ = some mv) (h3 : W0.cell? ⟨B, 3, none⟩ = some pv) (h4 : W0.cell? ⟨B, 4, none⟩ = some qv) (h5 : W0.cell? ⟨X, 0, none⟩ = some (.int .i64 x.node)) (h6 : W0.cell? ⟨X, 1, none⟩ = some (.int .i64 x.inv)) : PopS W0 B X tv ov mv pv qv x W0.drew :=
  ⟨below_drewS _, h0, h1, h2, h3, h4, h5, h6⟩
structure NumS (W0 : World) (B X : Nat) (tv ov mv pv qv : Value) (n : Int) (U : World) : Prop where
  bel : Below W0.heap.size W0 U
  c0 : U.cell? ⟨B, 0, none⟩ = some tv
  c1 : U.cell? ⟨B, 1, none⟩ = some ov
  c2 : U.cell? ⟨B, 2, none⟩ = some mv
  c3 : U.cell? ⟨B, 3, none⟩ = some pv
  c4 : U.cell? ⟨B, 4, none⟩ = some qv
  x0 : U.cell? ⟨X, 0, none⟩ = some (.int .i64 n)
theorem NumS.below {W0 U U' : World} {B X : Nat} {tv ov mv pv qv : Value} {n : Int} (h : NumS W0 B X tv ov mv pv qv n U) (hb : Below U.heap.size U U') : NumS W0 B X tv ov mv pv qv n U' :=
  ⟨h.bel.trans (hb.mono h.bel.size), cell_below hb h.c0, cell_below hb h.c1, cell_below hb h.c2, cell_below hb h.c3, cell_below hb h.c4, cell_below hb h.x0⟩
theorem NumS.start {W0 : World} {B X : Nat} {tv ov mv pv qv : Value} {n : Int} (h0 : W0.cell? ⟨B, 0, none⟩ = some tv) (h1 : W0.cell? ⟨B, 1, none⟩ = some ov) (h2 : W0.cell? ⟨B, 2, none⟩ = some mv) (h3 : W0.cell? ⟨B, 3, none⟩ = some pv) (h4 : W0.cell? ⟨B, 4, none⟩ = some qv) (h5 : W0.cell? ⟨X, 0, none⟩ = some (.int .i64 n)) : NumS W0 B X tv ov mv pv qv n W0.drew :=
  ⟨below_drewS _, h0, h1, h2, h3, h4, h5⟩
def ConnAt (U : World) (s tv : Value) (T : List Nd) : Prop := ∃ ca cc, s = .agg #[tv, .slice ca (slI T 0).length cc] ∧ IntsAt U (.slice ca (slI T 0).length cc) (slI T 0)
theorem ConnAt.below {U U' : World} {s tv : Value} {T : List Nd} (h : ConnAt U s tv T) (hb : Below U.heap.size U U') : ConnAt U' s tv T := by
  obtain ⟨ca, cc, e, h⟩ := h
  exact ⟨ca, cc, e, h.below hb⟩
/-- All but some blocks lie as they lay. -/
structure Sb (Bad : Nat → Prop) (A B : World) : Prop where
  size : A.heap.size ≤ B.heap.size
  old : ∀ j, j < A.heap.size → ¬ Bad j → B.heap[j]? = A.heap[j]?
theorem Sb.of_below {Bad : Nat → Prop} {A B : World} (h : Below A.heap.size A B) : Sb Bad A B := ⟨h.size, fun j hj _ => h.block j hj⟩
theorem Sb.trans {Bad : Nat → Prop} {A B C : World} (h : Sb Bad A B) (h2 : Sb Bad B C) : Sb Bad A C := ⟨Nat.le_trans h.size h2.size, fun j hj hb => (h2.old j (by have := h.size; omega) hb).trans (h.old j hj hb)⟩
theorem Sb.set {Bad : Nat → Prop} {A : World} {b o : Nat} {v : Value} (hb : Bad b) : Sb Bad A (A.setCell ⟨b, o, none⟩ v) := ⟨by simp, fun j _ hn => setc_block (fun e => hn (e ▸ hb))⟩
theorem Sb.set5 {Bad : Nat → Prop} {A : World} {b : Nat} {v0 v1 v2 v3 v4 : Value} (hb : Bad b) : Sb Bad A (set5 A b v0 v1 v2 v3 v4) := ⟨by rw [set5_size]; exact Nat.le_refl _, fun j _ hn => set5_block (fun e => hn (e ▸ hb))⟩
theorem RowIn.sb {Bad : Nat → Prop} {A B : World} {I : Nat × Nat} {e : TypeId} {sz : Nat} {v : Value} {n : Nat} {xs : List Value} (h : RowIn A I e sz v n xs) (hI : I.2 ≤ A.heap.size) (hoff : ∀ j, I.1 ≤ j → j < I.2 → ¬ Bad j) (hs : Sb Bad A B) : RowIn B I e sz v n xs :=
  h.keep (fun j h1 h2 => hs.old j (by omega) (hoff j h1 h2))
theorem TreeIn.sb {Bad : Nat → Prop} {A B : World} {I : Nat × Nat} {v : Value} {T : List Nd} (h : TreeIn A I v T) (hI : I.2 ≤ A.heap.size) (hoff : ∀ j, I.1 ≤ j → j < I.2 → ¬ Bad j) (hs : Sb Bad A B) : TreeIn B I v T :=
  h.keep (fun j h1 h2 => hs.old j (by omega) (hoff j h1 h2))
end Go.Proofs.YtclhimodopgeoaaGreat

namespace Go.Proofs.YtclhimodopgeoaaGreat
open Go.RowKit

set_option maxRecDepth 100000 in
set_option maxHeartbeats 4000000 in
theorem part72 (p : Int → Bool) (bv : Value) (l : List Int) (v : Value) (w : World) (HD : Hid (∀ (x : Int) U, Below w.heap.size w U → Calls Tryz.prog 72 #[.int .i64 x, bv] U (fun e w' => e = .returned (.bool (p x)) ∧ Below U.heap.size U w'))) (hL : IntsAt w v l) (hl : l.length ≤ 1000000) :
    Calls Tryz.prog 65 #[v, .func (.func 72) #[] #[bv]] w fun e w' => ∃ a1 c1 a2 c2, e = .returned (.tuple #[.slice a1 (l.filter p).length c1, .slice a2 (l.filter (notB p)).length c2]) ∧
      w'.ownsRow w.heap.size 3 1 (.slice a1 (l.filter p).length c1) (l.filter p).length (intCells (l.filter p)) ∧ w'.ownsRow w.heap.size 3 1 (.slice a2 (l.filter (notB p)).length c2) (l.filter (notB p)).length (intCells (l.filter (notB p))) ∧
      Apart (.slice a1 (l.filter p).length c1) (.slice a2 (l.filter (notB p)).length c2) ∧ Below w.heap.size w w' := by
  obtain ⟨i3, hi3, hz30, hz31, hz32⟩ := info_parts infoT3
  obtain ⟨a, cap, rfl, hc⟩ := hL
  have HC := hideG hc
  clear hc
  go_enter Tryz.func65, Tryz.ntmps65
  go_wp2_with fail
  go_loopw [4, 5, 10] (fun s g i wr => ∃ (k : Nat) (S G : List Int) (sa ga : Option Addr) (sc gc : Nat), k ≤ l.length ∧ i = .int .i64 (k : Int) ∧ s = .slice sa S.length sc ∧ g = .slice ga G.length gc ∧ S = (l.take k).filter p ∧ G = (l.take k).filter (notB p) ∧
      wr.ownsRow w.heap.size 3 1 (.slice sa S.length sc) S.length (intCells S) ∧ wr.ownsRow w.heap.size 3 1 (.slice ga G.length gc) G.length (intCells G) ∧ Apart (.slice sa S.length sc) (.slice ga G.length gc) ∧ Below w.heap.size w wr) (fun _ _ i _ => l.length - (intOf i).toNat)
  case atStart => exact ⟨0, [], [], none, none, 0, 0, Nat.zero_le _, rfl, rfl, rfl, rfl, rfl, World.ownsRow_nil _ _ _ _, World.ownsRow_nil _ _ _ _, fun k h => by simp [Value.ownBlock] at h, Below.refl _ _⟩
  case round =>
    obtain ⟨k, S, G, sa, ga, sc, gc, hk, rfl, rfl, rfl, hSe, hGe, hoS, hoG, hap, hB⟩ := hrel
    have HOS := hideG hoS
    have HOG := hideG hoG
    have HAP := hideG hap
    have HB := hideG hB
    have HSE := hideG hSe
    have HGE := hideG hGe
    have hSl : S.length ≤ 1000000 := by
      have h1 := List.length_filter_le p (l.take k)
      rw [← hSe, List.length_take] at h1
      omega
    have hGl : G.length ≤ 1000000 := by
      have h1 := List.length_filter_le (notB p) (l.take k)
      rw [← hGe, List.length_take] at h1
      omega
    clear hoS hoG hap hB hSe hGe
    by_cases hlt : k < l.length
    · obtain ⟨b, off, rfl, hd⟩ := HC.out (by omega)
      have hk0 : (0 : Int) ≤ (k : Int) := by omega
      have HTS0 := hideG (show l.take (k + 1) = l.take k ++ [l.getD k 0] by
        rw [List.take_succ_eq_append_getElem hlt, List.getD_eq_getElem?_getD, List.getElem?_eq_getElem hlt]; rfl)
      have c0 := cell_below HB.out (hd k hlt)
      have hbl : b < wr.heap.size := below_of_cell c0
      generalize hx : l.getD k 0 = x at *
      have HTS := HTS0
      have HCALL := hideG (HD.out x wr (HB.out))
      clear hd hx HTS0
      cases hp : p x
      · skip
        have HP := hideG hp
        clear hp
        go_wp2_with fail
        refine HCALL.out.mono ?_
        rintro ex w1 ⟨rfl, hb1⟩
        rw [HP.out]
        have HB1 := hideG ((HB.out).trans (hb1.mono (HB.out).size))
        have HRA := hideG (ownsRow_below HOG.out hb1 (fun j e => (HOG.out.lt j e).2))
        have HRB := hideG (ownsRow_below HOS.out hb1 (fun j e => (HOS.out.lt j e).2))
        have hqq : w.heap.size ≤ w1.heap.size := HB1.out.size
        clear c0 hb1
        go_wp2_with (at_builtin; refine wpList_append_any rfl (.tmp 21) (.tmp 23) 24 rfl w.heap.size 3 i3 _ 1 8 Tryz.underlying24 hi3 hz30 hz31 hz32 rfl (by decide) _ G.length (intCells G) rfl (HRA.out.alloc _) _ 1 [.int .i64 x] rfl (row_new1 _ _) rfl ?h2 ?h3 ?h4 ?h5 ?_)
        case h2 => intro y hy; simp at hy; subst hy; rfl
        case h3 => simp only [maxLen]; omega
        case h4 => omega
        case h5 => simp; omega
        intro v4 w4 ho4 hg4 hf4
        obtain ⟨a4, c4, rfl⟩ := ownsRow_shape ho4
        rw [intCells_snoc] at ho4
        have HB4 := hideG ((HB1.out.alloc HB1.out.size (.cells #[.int .i64 x] 3)).grown hg4 (by simp; omega) (fun j e => (HRA.out.lt j e).1))
        have HO4 := hideG (show w4.ownsRow w.heap.size 3 1 (.slice a4 (G ++ [x]).length c4) (G ++ [x]).length (intCells (G ++ [x])) by rw [List.length_append]; exact ho4)
        have HO5 := hideG ((HRB.out.alloc (.cells #[.int .i64 x] 3)).kept hg4 (Apart.hne HAP.out))
        have HAP4 := hideG (show Apart (.slice sa S.length sc) (.slice a4 (G ++ [x]).length c4) from fun j e1 e2 => by
          rcases hf4 j (by simpa [Value.ownBlock] using e2) with e3 | e3
          · exact HAP.out j e1 e3
          · have := (HRB.out.lt j e1).2; have e4 := hg4.size; (try simp only [World.size_alloc] at e3); omega)
        clear ho4 hg4 hf4
        go_wp2_with fail
        go_roundw
        case rel => exact ⟨k + 1, S, G ++ [x], sa, a4, sc, c4, by omega, by go_num, rfl, by simp, by rw [HTS.out, List.filter_append, ← HSE.out]; simp [HP.out], by rw [HTS.out, List.filter_append, ← HGE.out]; simp [notB, HP.out], HO5.out, HO4.out, HAP4.out, HB4.out⟩
        case measure => simp [intOf]; omega
      · skip
        have HP := hideG hp
        clear hp
        go_wp2_with fail
        refine HCALL.out.mono ?_
        rintro ex w1 ⟨rfl, hb1⟩
        rw [HP.out]
        have HB1 := hideG ((HB.out).trans (hb1.mono (HB.out).size))
        have HRA := hideG (ownsRow_below HOS.out hb1 (fun j e => (HOS.out.lt j e).2))
        have HRB := hideG (ownsRow_below HOG.out hb1 (fun j e => (HOG.out.lt j e).2))
        have hqq : w.heap.size ≤ w1.heap.size := HB1.out.size
        clear c0 hb1
        go_wp2_with (at_builtin; refine wpList_append_any rfl (.tmp 17) (.tmp 19) 24 rfl w.heap.size 3 i3 _ 1 8 Tryz.underlying24 hi3 hz30 hz31 hz32 rfl (by decide) _ S.length (intCells S) rfl (HRA.out.alloc _) _ 1 [.int .i64 x] rfl (row_new1 _ _) rfl ?h2 ?h3 ?h4 ?h5 ?_)
        case h2 => intro y hy; simp at hy; subst hy; rfl
        case h3 => simp only [maxLen]; omega
        case h4 => omega
        case h5 => simp; omega
        intro v4 w4 ho4 hg4 hf4
        obtain ⟨a4, c4, rfl⟩ := ownsRow_shape ho4
        rw [intCells_snoc] at ho4
        have HB4 := hideG ((HB1.out.alloc HB1.out.size (.cells #[.int .i64 x] 3)).grown hg4 (by simp; omega) (fun j e => (HRA.out.lt j e).1))
        have HO4 := hideG (show w4.ownsRow w.heap.size 3 1 (.slice a4 (S ++ [x]).length c4) (S ++ [x]).length (intCells (S ++ [x])) by rw [List.length_append]; exact ho4)
        have HO5 := hideG ((HRB.out.alloc (.cells #[.int .i64 x] 3)).kept hg4 (Apart.hne HAP.out.symm))
        have HAP4 := hideG (show Apart (.slice a4 (S ++ [x]).length c4) (.slice ga G.length gc) from fun j e2 e1 => by
          rcases hf4 j (by simpa [Value.ownBlock] using e2) with e3 | e3
          · exact HAP.out j e3 e1
          · have := (HRB.out.lt j e1).2; have e4 := hg4.size; (try simp only [World.size_alloc] at e3); omega)
        clear ho4 hg4 hf4
        go_wp2_with fail
        go_roundw
        case rel => exact ⟨k + 1, S ++ [x], G, a4, ga, c4, gc, by omega, by go_num, by simp, rfl, by rw [HTS.out, List.filter_append, ← HSE.out]; simp [HP.out], by rw [HTS.out, List.filter_append, ← HGE.out]; simp [notB, HP.out], HO4.out, HO5.out, HAP4.out, HB4.out⟩
        case measure => simp [intOf]; omega
    · have hke : k = l.length := by omega
      subst hke
      have hS' : S = l.filter p := by rw [HSE.out, List.take_length]
      have hG' : G = l.filter (notB p) := by rw [HGE.out, List.take_length]
      clear HSE HGE
      subst hS' hG'
      go_wp2_with fail
      go_ret2
      exact ⟨sa, sc, ga, gc, rfl, HOS.out, HOG.out, HAP.out, HB.out⟩

set_option maxRecDepth 100000 in
set_option maxHeartbeats 4000000 in
theorem part86 (p : Int → Bool) (bv : Value) (l : List Int) (v : Value) (w : World) (HD : Hid (∀ (x : Int) U, Below w.heap.size w U → Calls Tryz.prog 86 #[.int .i64 x, bv] U (fun e w' => e = .returned (.bool (p x)) ∧ Below U.heap.size U w'))) (hL : IntsAt w v l) (hl : l.length ≤ 1000000) :
    Calls Tryz.prog 65 #[v, .func (.func 86) #[] #[bv]] w fun e w' => ∃ a1 c1 a2 c2, e = .returned (.tuple #[.slice a1 (l.filter p).length c1, .slice a2 (l.filter (notB p)).length c2]) ∧
      w'.ownsRow w.heap.size 3 1 (.slice a1 (l.filter p).length c1) (l.filter p).length (intCells (l.filter p)) ∧ w'.ownsRow w.heap.size 3 1 (.slice a2 (l.filter (notB p)).length c2) (l.filter (notB p)).length (intCells (l.filter (notB p))) ∧
      Apart (.slice a1 (l.filter p).length c1) (.slice a2 (l.filter (notB p)).length c2) ∧ Below w.heap.size w w' := by
  obtain ⟨i3, hi3, hz30, hz31, hz32⟩ := info_parts infoT3
  obtain ⟨a, cap, rfl, hc⟩ := hL
  have HC := hideG hc
  clear hc
  go_enter Tryz.func65, Tryz.ntmps65
  go_wp2_with fail
  go_loopw [4, 5, 10] (fun s g i wr => ∃ (k : Nat) (S G : List Int) (sa ga : Option Addr) (sc gc : Nat), k ≤ l.length ∧ i = .int .i64 (k : Int) ∧ s = .slice sa S.length sc ∧ g = .slice ga G.length gc ∧ S = (l.take k).filter p ∧ G = (l.take k).filter (notB p) ∧
      wr.ownsRow w.heap.size 3 1 (.slice sa S.length sc) S.length (intCells S) ∧ wr.ownsRow w.heap.size 3 1 (.slice ga G.length gc) G.length (intCells G) ∧ Apart (.slice sa S.length sc) (.slice ga G.length gc) ∧ Below w.heap.size w wr) (fun _ _ i _ => l.length - (intOf i).toNat)
  case atStart => exact ⟨0, [], [], none, none, 0, 0, Nat.zero_le _, rfl, rfl, rfl, rfl, rfl, World.ownsRow_nil _ _ _ _, World.ownsRow_nil _ _ _ _, fun k h => by simp [Value.ownBlock] at h, Below.refl _ _⟩
  case round =>
    obtain ⟨k, S, G, sa, ga, sc, gc, hk, rfl, rfl, rfl, hSe, hGe, hoS, hoG, hap, hB⟩ := hrel
    have HOS := hideG hoS
    have HOG := hideG hoG
    have HAP := hideG hap
    have HB := hideG hB
    have HSE := hideG hSe
    have HGE := hideG hGe
    have hSl : S.length ≤ 1000000 := by
      have h1 := List.length_filter_le p (l.take k)
      rw [← hSe, List.length_take] at h1
      omega
    have hGl : G.length ≤ 1000000 := by
      have h1 := List.length_filter_le (notB p) (l.take k)
      rw [← hGe, List.length_take] at h1
      omega
    clear hoS hoG hap hB hSe hGe
    by_cases hlt : k < l.length
    · obtain ⟨b, off, rfl, hd⟩ := HC.out (by omega)
      have hk0 : (0 : Int) ≤ (k : Int) := by omega
      have HTS0 := hideG (show l.take (k + 1) = l.take k ++ [l.getD k 0] by
        rw [List.take_succ_eq_append_getElem hlt, List.getD_eq_getElem?_getD, List.getElem?_eq_getElem hlt]; rfl)
      have c0 := cell_below HB.out (hd k hlt)
      have hbl : b < wr.heap.size := below_of_cell c0
      generalize hx : l.getD k 0 = x at *
      have HTS := HTS0
      have HCALL := hideG (HD.out x wr (HB.out))
      clear hd hx HTS0
      cases hp : p x
      · skip
        have HP := hideG hp
        clear hp
        go_wp2_with fail
        refine HCALL.out.mono ?_
        rintro ex w1 ⟨rfl, hb1⟩
        rw [HP.out]
        have HB1 := hideG ((HB.out).trans (hb1.mono (HB.out).size))
        have HRA := hideG (ownsRow_below HOG.out hb1 (fun j e => (HOG.out.lt j e).2))
        have HRB := hideG (ownsRow_below HOS.out hb1 (fun j e => (HOS.out.lt j e).2))
        have hqq : w.heap.size ≤ w1.heap.size := HB1.out.size
        clear c0 hb1
        go_wp2_with (at_builtin; refine wpList_append_any rfl (.tmp 21) (.tmp 23) 24 rfl w.heap.size 3 i3 _ 1 8 Tryz.underlying24 hi3 hz30 hz31 hz32 rfl (by decide) _ G.length (intCells G) rfl (HRA.out.alloc _) _ 1 [.int .i64 x] rfl (row_new1 _ _) rfl ?h2 ?h3 ?h4 ?h5 ?_)
        case h2 => intro y hy; simp at hy; subst hy; rfl
        case h3 => simp only [maxLen]; omega
        case h4 => omega
        case h5 => simp; omega
        intro v4 w4 ho4 hg4 hf4
        obtain ⟨a4, c4, rfl⟩ := ownsRow_shape ho4
        rw [intCells_snoc] at ho4
        have HB4 := hideG ((HB1.out.alloc HB1.out.size (.cells #[.int .i64 x] 3)).grown hg4 (by simp; omega) (fun j e => (HRA.out.lt j e).1))
        have HO4 := hideG (show w4.ownsRow w.heap.size 3 1 (.slice a4 (G ++ [x]).length c4) (G ++ [x]).length (intCells (G ++ [x])) by rw [List.length_append]; exact ho4)
        have HO5 := hideG ((HRB.out.alloc (.cells #[.int .i64 x] 3)).kept hg4 (Apart.hne HAP.out))
        have HAP4 := hideG (show Apart (.slice sa S.length sc) (.slice a4 (G ++ [x]).length c4) from fun j e1 e2 => by
          rcases hf4 j (by simpa [Value.ownBlock] using e2) with e3 | e3
          · exact HAP.out j e1 e3
          · have := (HRB.out.lt j e1).2; have e4 := hg4.size; (try simp only [World.size_alloc] at e3); omega)
        clear ho4 hg4 hf4
        go_wp2_with fail
        go_roundw
        case rel => exact ⟨k + 1, S, G ++ [x], sa, a4, sc, c4, by omega, by go_num, rfl, by simp, by rw [HTS.out, List.filter_append, ← HSE.out]; simp [HP.out], by rw [HTS.out, List.filter_append, ← HGE.out]; simp [notB, HP.out], HO5.out, HO4.out, HAP4.out, HB4.out⟩
        case measure => simp [intOf]; omega
      · skip
        have HP := hideG hp
        clear hp
        go_wp2_with fail
        refine HCALL.out.mono ?_
        rintro ex w1 ⟨rfl, hb1⟩
        rw [HP.out]
        have HB1 := hideG ((HB.out).trans (hb1.mono (HB.out).size))
        have HRA := hideG (ownsRow_below HOS.out hb1 (fun j e => (HOS.out.lt j e).2))
        have HRB := hideG (ownsRow_below HOG.out hb1 (fun j e => (HOG.out.lt j e).2))
        have hqq : w.heap.size ≤ w1.heap.size := HB1.out.size
        clear c0 hb1
        go_wp2_with (at_builtin; refine wpList_append_any rfl (.tmp 17) (.tmp 19) 24 rfl w.heap.size 3 i3 _ 1 8 Tryz.underlying24 hi3 hz30 hz31 hz32 rfl (by decide) _ S.length (intCells S) rfl (HRA.out.alloc _) _ 1 [.int .i64 x] rfl (row_new1 _ _) rfl ?h2 ?h3 ?h4 ?h5 ?_)
        case h2 => intro y hy; simp at hy; subst hy; rfl
        case h3 => simp only [maxLen]; omega
        case h4 => omega
        case h5 => simp; omega
        intro v4 w4 ho4 hg4 hf4
        obtain ⟨a4, c4, rfl⟩ := ownsRow_shape ho4
        rw [intCells_snoc] at ho4
        have HB4 := hideG ((HB1.out.alloc HB1.out.size (.cells #[.int .i64 x] 3)).grown hg4 (by simp; omega) (fun j e => (HRA.out.lt j e).1))
        have HO4 := hideG (show w4.ownsRow w.heap.size 3 1 (.slice a4 (S ++ [x]).length c4) (S ++ [x]).length (intCells (S ++ [x])) by rw [List.length_append]; exact ho4)
        have HO5 := hideG ((HRB.out.alloc (.cells #[.int .i64 x] 3)).kept hg4 (Apart.hne HAP.out.symm))
        have HAP4 := hideG (show Apart (.slice a4 (S ++ [x]).length c4) (.slice ga G.length gc) from fun j e2 e1 => by
          rcases hf4 j (by simpa [Value.ownBlock] using e2) with e3 | e3
          · exact HAP.out j e3 e1
          · have := (HRB.out.lt j e1).2; have e4 := hg4.size; (try simp only [World.size_alloc] at e3); omega)
        clear ho4 hg4 hf4
        go_wp2_with fail
        go_roundw
        case rel => exact ⟨k + 1, S ++ [x], G, a4, ga, c4, gc, by omega, by go_num, by simp, rfl, by rw [HTS.out, List.filter_append, ← HSE.out]; simp [HP.out], by rw [HTS.out, List.filter_append, ← HGE.out]; simp [notB, HP.out], HO4.out, HO5.out, HAP4.out, HB4.out⟩
        case measure => simp [intOf]; omega
    · have hke : k = l.length := by omega
      subst hke
      have hS' : S = l.filter p := by rw [HSE.out, List.take_length]
      have hG' : G = l.filter (notB p) := by rw [HGE.out, List.take_length]
      clear HSE HGE
      subst hS' hG'
      go_wp2_with fail
      go_ret2
      exact ⟨sa, sc, ga, gc, rfl, HOS.out, HOG.out, HAP.out, HB.out⟩

set_option maxRecDepth 100000 in
set_option maxHeartbeats 4000000 in
theorem part87 (p : Sh → Bool) (bv : Value) (l : List Sh) (v : Value) (w : World) (HD : Hid (∀ (x : Sh) U, Below w.heap.size w U → Calls Tryz.prog 87 #[.agg #[.int .i64 x.node, .int .i64 x.inv], bv] U (fun e w' => e = .returned (.bool (p x)) ∧ Below U.heap.size U w'))) (hL : ShsAt w v l) (hl : l.length ≤ 1000000) :
    Calls Tryz.prog 67 #[v, .func (.func 87) #[] #[bv]] w fun e w' => ∃ a1 c1 a2 c2, e = .returned (.tuple #[.slice a1 (l.filter p).length c1, .slice a2 (l.filter (notB p)).length c2]) ∧
      w'.ownsRow w.heap.size 39 2 (.slice a1 (l.filter p).length c1) (l.filter p).length (shCells (l.filter p)) ∧ w'.ownsRow w.heap.size 39 2 (.slice a2 (l.filter (notB p)).length c2) (l.filter (notB p)).length (shCells (l.filter (notB p))) ∧
      Apart (.slice a1 (l.filter p).length c1) (.slice a2 (l.filter (notB p)).length c2) ∧ Below w.heap.size w w' := by
  obtain ⟨i3, hi3, hz30, hz31, hz32⟩ := info_parts infoT39
  obtain ⟨a, cap, rfl, hcp, hc⟩ := hL
  have HC := hideG hc
  clear hc hcp
  go_enter Tryz.func67, Tryz.ntmps67
  go_wp2_with fail
  go_loopw [4, 5, 10] (fun s g i wr => ∃ (k : Nat) (S G : List Sh) (sa ga : Option Addr) (sc gc : Nat), k ≤ l.length ∧ i = .int .i64 (k : Int) ∧ s = .slice sa S.length sc ∧ g = .slice ga G.length gc ∧ S = (l.take k).filter p ∧ G = (l.take k).filter (notB p) ∧
      wr.ownsRow w.heap.size 39 2 (.slice sa S.length sc) S.length (shCells S) ∧ wr.ownsRow w.heap.size 39 2 (.slice ga G.length gc) G.length (shCells G) ∧ Apart (.slice sa S.length sc) (.slice ga G.length gc) ∧ Below w.heap.size w wr) (fun _ _ i _ => l.length - (intOf i).toNat)
  case atStart => exact ⟨0, [], [], none, none, 0, 0, Nat.zero_le _, rfl, rfl, rfl, rfl, rfl, World.ownsRow_nil _ _ _ _, World.ownsRow_nil _ _ _ _, fun k h => by simp [Value.ownBlock] at h, Below.refl _ _⟩
  case round =>
    obtain ⟨k, S, G, sa, ga, sc, gc, hk, rfl, rfl, rfl, hSe, hGe, hoS, hoG, hap, hB⟩ := hrel
    have HOS := hideG hoS
    have HOG := hideG hoG
    have HAP := hideG hap
    have HB := hideG hB
    have HSE := hideG hSe
    have HGE := hideG hGe
    have hSl : S.length ≤ 1000000 := by
      have h1 := List.length_filter_le p (l.take k)
      rw [← hSe, List.length_take] at h1
      omega
    have hGl : G.length ≤ 1000000 := by
      have h1 := List.length_filter_le (notB p) (l.take k)
      rw [← hGe, List.length_take] at h1
      omega
    clear hoS hoG hap hB hSe hGe
    by_cases hlt : k < l.length
    · obtain ⟨b, off, rfl, hd⟩ := HC.out (by omega)
      have hk0 : (0 : Int) ≤ (k : Int) := by omega
      have HTS0 := hideG (show l.take (k + 1) = l.take k ++ [l.getD k shD] by
        rw [List.take_succ_eq_append_getElem hlt, List.getD_eq_getElem?_getD, List.getElem?_eq_getElem hlt]; rfl)
      have hH := (hd k hlt).below HB.out
      generalize hx : l.getD k shD = x at *
      have c0 := hH.node
      have c1 := hH.inv
      have hbl : b < wr.heap.size := below_of_cell c0
      clear hH
      have HTS := HTS0
      have HCALL := hideG (HD.out x (wr.alloc (.cells #[.int .i64 x.node, .int .i64 x.inv] 39)) (HB.out.alloc HB.out.size (.cells #[.int .i64 x.node, .int .i64 x.inv] 39)))
      clear hd hx HTS0
      cases hp : p x
      · skip
        have HP := hideG hp
        clear hp
        go_wp2_with fail
        refine HCALL.out.mono ?_
        rintro ex w1 ⟨rfl, hb1⟩
        rw [HP.out]
        have HB1 := hideG ((HB.out.alloc HB.out.size (.cells #[.int .i64 x.node, .int .i64 x.inv] 39)).trans (hb1.mono (HB.out.alloc HB.out.size (.cells #[.int .i64 x.node, .int .i64 x.inv] 39)).size))
        have HRA := hideG (ownsRow_below (HOG.out.alloc (.cells #[.int .i64 x.node, .int .i64 x.inv] 39)) hb1 (fun j e => ((HOG.out.alloc (.cells #[.int .i64 x.node, .int .i64 x.inv] 39)).lt j e).2))
        have HRB := hideG (ownsRow_below (HOS.out.alloc (.cells #[.int .i64 x.node, .int .i64 x.inv] 39)) hb1 (fun j e => ((HOS.out.alloc (.cells #[.int .i64 x.node, .int .i64 x.inv] 39)).lt j e).2))
        have d0 : w1.cell? ⟨wr.heap.size, 0, none⟩ = some (.int .i64 x.node) := cell_below hb1 (by simp)
        have d1 : w1.cell? ⟨wr.heap.size, 1, none⟩ = some (.int .i64 x.inv) := cell_below hb1 (by simp)
        clear c1
        have hqq : w.heap.size ≤ w1.heap.size := HB1.out.size
        clear c0 hb1
        go_wp2_with (at_builtin; refine wpList_append_any rfl (.tmp 21) (.tmp 23) 25 rfl w.heap.size 39 i3 _ 2 16 Tryz.underlying25 hi3 hz30 hz31 hz32 rfl (by decide) _ G.length (shCells G) rfl (HRA.out.alloc _) _ 1 [.int .i64 x.node, .int .i64 x.inv] rfl (row_newS _ _) rfl ?h2 ?h3 ?h4 ?h5 ?_)
        case h2 => intro y hy; simp at hy; rcases hy with rfl | rfl <;> rfl
        case h3 => simp only [maxLen]; omega
        case h4 => omega
        case h5 => simp; omega
        intro v4 w4 ho4 hg4 hf4
        obtain ⟨a4, c4, rfl⟩ := ownsRow_shape ho4
        rw [shCells_snoc] at ho4
        have HB4 := hideG ((HB1.out.alloc HB1.out.size (.cells #[.int .i64 x.node, .int .i64 x.inv] 39)).grown hg4 (by simp; omega) (fun j e => (HRA.out.lt j e).1))
        have HO4 := hideG (show w4.ownsRow w.heap.size 39 2 (.slice a4 (G ++ [x]).length c4) (G ++ [x]).length (shCells (G ++ [x])) by rw [List.length_append]; exact ho4)
        have HO5 := hideG ((HRB.out.alloc (.cells #[.int .i64 x.node, .int .i64 x.inv] 39)).kept hg4 (Apart.hne HAP.out))
        have HAP4 := hideG (show Apart (.slice sa S.length sc) (.slice a4 (G ++ [x]).length c4) from fun j e1 e2 => by
          rcases hf4 j (by simpa [Value.ownBlock] using e2) with e3 | e3
          · exact HAP.out j e1 e3
          · have := (HRB.out.lt j e1).2; have e4 := hg4.size; (try simp only [World.size_alloc] at e3); omega)
        clear ho4 hg4 hf4 d0 d1
        go_wp2_with fail
        go_roundw
        case rel => exact ⟨k + 1, S, G ++ [x], sa, a4, sc, c4, by omega, by go_num, rfl, by simp, by rw [HTS.out, List.filter_append, ← HSE.out]; simp [HP.out], by rw [HTS.out, List.filter_append, ← HGE.out]; simp [notB, HP.out], HO5.out, HO4.out, HAP4.out, HB4.out⟩
        case measure => simp [intOf]; omega
      · skip
        have HP := hideG hp
        clear hp
        go_wp2_with fail
        refine HCALL.out.mono ?_
        rintro ex w1 ⟨rfl, hb1⟩
        rw [HP.out]
        have HB1 := hideG ((HB.out.alloc HB.out.size (.cells #[.int .i64 x.node, .int .i64 x.inv] 39)).trans (hb1.mono (HB.out.alloc HB.out.size (.cells #[.int .i64 x.node, .int .i64 x.inv] 39)).size))
        have HRA := hideG (ownsRow_below (HOS.out.alloc (.cells #[.int .i64 x.node, .int .i64 x.inv] 39)) hb1 (fun j e => ((HOS.out.alloc (.cells #[.int .i64 x.node, .int .i64 x.inv] 39)).lt j e).2))
        have HRB := hideG (ownsRow_below (HOG.out.alloc (.cells #[.int .i64 x.node, .int .i64 x.inv] 39)) hb1 (fun j e => ((HOG.out.alloc (.cells #[.int .i64 x.node, .int .i64 x.inv] 39)).lt j e).2))
        have d0 : w1.cell? ⟨wr.heap.size, 0, none⟩ = some (.int .i64 x.node) := cell_below hb1 (by simp)
        have d1 : w1.cell? ⟨wr.heap.size, 1, none⟩ = some (.int .i64 x.inv) := cell_below hb1 (by simp)
        clear c1
        have hqq : w.heap.size ≤ w1.heap.size := HB1.out.size
        clear c0 hb1
        go_wp2_with (at_builtin; refine wpList_append_any rfl (.tmp 17) (.tmp 19) 25 rfl w.heap.size 39 i3 _ 2 16 Tryz.underlying25 hi3 hz30 hz31 hz32 rfl (by decide) _ S.length (shCells S) rfl (HRA.out.alloc _) _ 1 [.int .i64 x.node, .int .i64 x.inv] rfl (row_newS _ _) rfl ?h2 ?h3 ?h4 ?h5 ?_)
        case h2 => intro y hy; simp at hy; rcases hy with rfl | rfl <;> rfl
        case h3 => simp only [maxLen]; omega
        case h4 => omega
        case h5 => simp; omega
        intro v4 w4 ho4 hg4 hf4
        obtain ⟨a4, c4, rfl⟩ := ownsRow_shape ho4
        rw [shCells_snoc] at ho4
        have HB4 := hideG ((HB1.out.alloc HB1.out.size (.cells #[.int .i64 x.node, .int .i64 x.inv] 39)).grown hg4 (by simp; omega) (fun j e => (HRA.out.lt j e).1))
        have HO4 := hideG (show w4.ownsRow w.heap.size 39 2 (.slice a4 (S ++ [x]).length c4) (S ++ [x]).length (shCells (S ++ [x])) by rw [List.length_append]; exact ho4)
        have HO5 := hideG ((HRB.out.alloc (.cells #[.int .i64 x.node, .int .i64 x.inv] 39)).kept hg4 (Apart.hne HAP.out.symm))
        have HAP4 := hideG (show Apart (.slice a4 (S ++ [x]).length c4) (.slice ga G.length gc) from fun j e2 e1 => by
          rcases hf4 j (by simpa [Value.ownBlock] using e2) with e3 | e3
          · exact HAP.out j e3 e1
          · have := (HRB.out.lt j e1).2; have e4 := hg4.size; (try simp only [World.size_alloc] at e3); omega)
        clear ho4 hg4 hf4 d0 d1
        go_wp2_with fail
        go_roundw
        case rel => exact ⟨k + 1, S ++ [x], G, a4, ga, c4, gc, by omega, by go_num, by simp, rfl, by rw [HTS.out, List.filter_append, ← HSE.out]; simp [HP.out], by rw [HTS.out, List.filter_append, ← HGE.out]; simp [notB, HP.out], HO4.out, HO5.out, HAP4.out, HB4.out⟩
        case measure => simp [intOf]; omega
    · have hke : k = l.length := by omega
      subst hke
      have hS' : S = l.filter p := by rw [HSE.out, List.take_length]
      have hG' : G = l.filter (notB p) := by rw [HGE.out, List.take_length]
      clear HSE HGE
      subst hS' hG'
      go_wp2_with fail
      go_ret2
      exact ⟨sa, sc, ga, gc, rfl, HOS.out, HOG.out, HAP.out, HB.out⟩
end Go.Proofs.YtclhimodopgeoaaGreat

namespace Go.Proofs.YtclhimodopgeoaaGreat
open Go.RowKit

set_option maxHeartbeats 1000000 in
theorem close1_any (n x : Int) (b : Nat) (w : World) (hc : w.cell? ⟨b, 0, none⟩ = some (.int .i64 n)) :
    Calls Tryz.prog 86 #[.int .i64 x, .pointer (some ⟨b, 0, none⟩)] w fun e w' => e = .returned (.bool (x != n)) ∧ Below w.heap.size w w' := by
  go_enter Tryz.func86, Tryz.ntmps86
  go_wp2_with fail
  go_ret
  exact ⟨rfl, Below.refl _ _⟩
set_option maxHeartbeats 1000000 in
theorem close2_any (n : Int) (x : Sh) (b c : Nat) (w : World) (hf : w.cell? ⟨c, 0, none⟩ = some (.func (.func 86) #[] #[.pointer (some ⟨b, 0, none⟩)])) (hc : w.cell? ⟨b, 0, none⟩ = some (.int .i64 n)) :
    Calls Tryz.prog 87 #[.agg #[.int .i64 x.node, .int .i64 x.inv], .pointer (some ⟨c, 0, none⟩)] w fun e w' => e = .returned (.bool (x.node != n)) ∧ Below w.heap.size w w' := by
  have hbc : c < w.heap.size := below_of_cell hf
  have hA : Below w.heap.size w (w.alloc (.cells #[.int .i64 x.node, .int .i64 x.inv] 39)) := (Below.refl _ w).alloc (Nat.le_refl _) _
  have HC := hideG (close1_any n x.node b _ (cell_below hA hc))
  have HA := hideG hA
  clear hc hA
  go_enter Tryz.func87, Tryz.ntmps87
  go_wp2_with fail
  refine HC.out.mono ?_
  rintro e w1 ⟨rfl, hb1⟩
  have HB1 := hideG hb1
  clear hb1 hf
  go_wp2_with fail
  go_ret
  exact ⟨rfl, HA.out.trans (HB1.out.mono HA.out.size)⟩
def closeL (V : Vw) (n : Int) : Vw := { tree := V.tree, op := V.op.filter (fun x => x != n), modal := V.modal.filter (fun x => x != n), pops := V.pops.filter (fun x => x.node != n), top := V.top.filter (fun x => x != n) }

end Go.Proofs.YtclhimodopgeoaaGreat

namespace Go.Proofs.YtclhimodopgeoaaGreat
open Go.RowKit

set_option maxRecDepth 100000 in
set_option maxHeartbeats 8000000 in
theorem concat3_any (l m r : List Int) (v u x : Value) (B : Nat) (w : World) (hL : IntsAt w v l) (hM : IntsAt w u m) (hN : IntsAt w x r) (c0 : w.cell? ⟨B, 0, none⟩ = some v) (c1 : w.cell? ⟨B, 1, none⟩ = some u) (c2 : w.cell? ⟨B, 2, none⟩ = some x) (hll : l.length ≤ 1500) (hml : m.length ≤ 1500) (hrl : r.length ≤ 1500) :
    Calls Tryz.prog 74 #[.slice (some ⟨B, 0, none⟩) 3 3] w fun e w' => ∃ a c, e = .returned (.slice a (l ++ m ++ r).length c) ∧ w'.ownsRow w.heap.size 3 1 (.slice a (l ++ m ++ r).length c) (l ++ m ++ r).length (intCells (l ++ m ++ r)) ∧ Below w.heap.size w w' := by
  obtain ⟨i3, hi3, hz30, hz31, hz32⟩ := info_parts infoT3
  have HL := hideG hL
  have HM := hideG hM
  have HN := hideG hN
  obtain ⟨la, lc, rfl⟩ := hL.shape
  obtain ⟨ma, mc, rfl⟩ := hM.shape
  obtain ⟨ra, rc, rfl⟩ := hN.shape
  have P0 := hideG c0
  have P1 := hideG c1
  have P2 := hideG c2
  have hg := growNil_any (l.length + m.length + r.length) w (by omega)
  rw [Int.natCast_add, Int.natCast_add] at hg
  have HG := hideG hg
  have hl0 : (0 : Int) ≤ (l.length : Int) := by omega
  have hm0 : (0 : Int) ≤ (m.length : Int) := by omega
  have hr0 : (0 : Int) ≤ (r.length : Int) := by omega
  clear hg hL hM hN
  go_enter Tryz.func74, Tryz.ntmps74
  go_wp2_with fail
  go_loop [3, 11] (fun s i => (i = .int .i64 0 ∧ s = .int .i64 (0)) ∨ (i = .int .i64 1 ∧ s = .int .i64 ((l.length : Int))) ∨ (i = .int .i64 2 ∧ s = .int .i64 ((l.length : Int) + (m.length : Int))) ∨ (i = .int .i64 3 ∧ s = .int .i64 ((l.length : Int) + (m.length : Int) + (r.length : Int)))) (fun _ i => (3 - intOf i).toNat)
  case atStart => exact .inl ⟨rfl, rfl⟩
  case round =>
    rcases hrel with ⟨rfl, rfl⟩ | ⟨rfl, rfl⟩ | ⟨rfl, rfl⟩ | ⟨rfl, rfl⟩
    · go_wp2_with fail
      go_round
      case rel => exact .inr (.inl ⟨rfl, by go_num⟩)
      case measure => simp [intOf]
    · go_wp2_with fail
      go_round
      case rel => exact .inr (.inr (.inl ⟨rfl, by go_num⟩))
      case measure => simp [intOf]
    · go_wp2_with fail
      go_round
      case rel => exact .inr (.inr (.inr (⟨rfl, by go_num⟩)))
      case measure => simp [intOf]
    · clear c0 c1 c2
      go_wp2_with fail
      refine HG.out.mono ?_
      rintro ex w1 ⟨a1, k1, rfl, ho1, hb1⟩
      have HO1 := hideG ho1
      have HB1 := hideG hb1
      clear ho1 hb1
      go_wp2_with fail
      go_loopw [6, 27] (fun o i wr => ∃ (a : Option Addr) (c : Nat) (done : List Int), o = .slice a done.length c ∧ wr.ownsRow w.heap.size 3 1 (.slice a done.length c) done.length (intCells done) ∧ Below w.heap.size w wr ∧ ((i = .int .i64 0 ∧ done = ([] : List Int)) ∨ (i = .int .i64 1 ∧ done = l) ∨ (i = .int .i64 2 ∧ done = (l ++ m)) ∨ (i = .int .i64 3 ∧ done = (l ++ m ++ r)))) (fun _ i _ => (3 - intOf i).toNat)
      case atStart => exact ⟨a1, k1, [], rfl, HO1.out, HB1.out, .inl ⟨rfl, rfl⟩⟩
      case round =>
        obtain ⟨a, c, done, rfl, ho, hB, hcase⟩ := hrel
        have HO := hideG ho
        have HB := hideG hB
        have p0 := cell_below HB.out P0.out
        have p1 := cell_below HB.out P1.out
        have p2 := cell_below HB.out P2.out
        clear ho hB
        rcases hcase with ⟨rfl, hdn⟩ | ⟨rfl, hdn⟩ | ⟨rfl, hdn⟩ | ⟨rfl, hdn⟩
        · have HDN := hideG hdn
          clear hdn
          have hdl : done.length ≤ 3000 := by rw [HDN.out]; first | omega | (simp; done) | (simp; omega)
          have hqq : w.heap.size ≤ wr.heap.size := HB.out.size
          go_wp2_with (at_builtin; refine wpList_append_any rfl (.tmp 31) (.tmp 32) 24 rfl w.heap.size 3 i3 _ 1 8 Tryz.underlying24 hi3 hz30 hz31 hz32 rfl (by decide) _ done.length (intCells done) rfl HO.out _ l.length (intCells l) rfl (ints_holds (HL.out.below HB.out)) (by simp [intCells]) (intCells_one _) ?h3 ?h4 ?h5 ?_)
          case h3 => first | (simp only [maxLen]; omega) | (simp only [maxLen]; simp; omega)
          case h4 => first | omega | (simp; omega)
          case h5 => exact HB.out.size
          intro v4 w4 ho4 hg4 hf4
          obtain ⟨a4, c4, rfl⟩ := ownsRow_shape ho4
          have HB4 := hideG (show Below w.heap.size w w4 from HB.out.grown hg4 HB.out.size (fun j e => (HO.out.lt j e).1))
          have e4 : intCells done ++ intCells l = intCells (done ++ l) := by simp [intCells]
          have el : done.length + l.length = (done ++ l).length := by simp
          rw [e4] at ho4
          try rw [el] at ho4
          have HO4 := hideG ho4
          have HEL := hideG el
          clear ho4 hg4 hf4 e4 el p0 p1 p2
          go_wp2_with fail
          go_roundw
          case rel => exact ⟨a4, c4, done ++ l, by first | rfl | rw [← HEL.out], HO4.out, HB4.out, .inr (.inl ⟨rfl, by rw [HDN.out] <;> first | rfl | simp⟩)⟩
          case measure => simp [intOf]
        · have HDN := hideG hdn
          clear hdn
          have hdl : done.length ≤ 3000 := by rw [HDN.out]; first | omega | (simp; done) | (simp; omega)
          have hqq : w.heap.size ≤ wr.heap.size := HB.out.size
          go_wp2_with (at_builtin; refine wpList_append_any rfl (.tmp 31) (.tmp 32) 24 rfl w.heap.size 3 i3 _ 1 8 Tryz.underlying24 hi3 hz30 hz31 hz32 rfl (by decide) _ done.length (intCells done) rfl HO.out _ m.length (intCells m) rfl (ints_holds (HM.out.below HB.out)) (by simp [intCells]) (intCells_one _) ?h3 ?h4 ?h5 ?_)
          case h3 => first | (simp only [maxLen]; omega) | (simp only [maxLen]; simp; omega)
          case h4 => first | omega | (simp; omega)
          case h5 => exact HB.out.size
          intro v4 w4 ho4 hg4 hf4
          obtain ⟨a4, c4, rfl⟩ := ownsRow_shape ho4
          have HB4 := hideG (show Below w.heap.size w w4 from HB.out.grown hg4 HB.out.size (fun j e => (HO.out.lt j e).1))
          have e4 : intCells done ++ intCells m = intCells (done ++ m) := by simp [intCells]
          have el : done.length + m.length = (done ++ m).length := by simp
          rw [e4] at ho4
          try rw [el] at ho4
          have HO4 := hideG ho4
          have HEL := hideG el
          clear ho4 hg4 hf4 e4 el p0 p1 p2
          go_wp2_with fail
          go_roundw
          case rel => exact ⟨a4, c4, done ++ m, by first | rfl | rw [← HEL.out], HO4.out, HB4.out, .inr (.inr (.inl ⟨rfl, by rw [HDN.out] <;> first | rfl | simp⟩))⟩
          case measure => simp [intOf]
        · have HDN := hideG hdn
          clear hdn
          have hdl : done.length ≤ 3000 := by rw [HDN.out]; first | omega | (simp; done) | (simp; omega)
          have hqq : w.heap.size ≤ wr.heap.size := HB.out.size
          go_wp2_with (at_builtin; refine wpList_append_any rfl (.tmp 31) (.tmp 32) 24 rfl w.heap.size 3 i3 _ 1 8 Tryz.underlying24 hi3 hz30 hz31 hz32 rfl (by decide) _ done.length (intCells done) rfl HO.out _ r.length (intCells r) rfl (ints_holds (HN.out.below HB.out)) (by simp [intCells]) (intCells_one _) ?h3 ?h4 ?h5 ?_)
          case h3 => first | (simp only [maxLen]; omega) | (simp only [maxLen]; simp; omega)
          case h4 => first | omega | (simp; omega)
          case h5 => exact HB.out.size
          intro v4 w4 ho4 hg4 hf4
          obtain ⟨a4, c4, rfl⟩ := ownsRow_shape ho4
          have HB4 := hideG (show Below w.heap.size w w4 from HB.out.grown hg4 HB.out.size (fun j e => (HO.out.lt j e).1))
          have e4 : intCells done ++ intCells r = intCells (done ++ r) := by simp [intCells]
          have el : done.length + r.length = (done ++ r).length := by simp
          rw [e4] at ho4
          try rw [el] at ho4
          have HO4 := hideG ho4
          have HEL := hideG el
          clear ho4 hg4 hf4 e4 el p0 p1 p2
          go_wp2_with fail
          go_roundw
          case rel => exact ⟨a4, c4, done ++ r, by first | rfl | rw [← HEL.out], HO4.out, HB4.out, .inr (.inr (.inr (⟨rfl, by rw [HDN.out] <;> first | rfl | simp⟩)))⟩
          case measure => simp [intOf]
        · have HDN := hideG hdn
          clear p0 p1 p2 hdn
          go_wp2_with fail
          go_ret
          rw [← HDN.out]
          exact ⟨a, c, rfl, HO.out, HB.out⟩
end Go.Proofs.YtclhimodopgeoaaGreat

namespace Go.Proofs.YtclhimodopgeoaaGreat
open Go.RowKit

theorem ex_imp {α : Sort _} {p : α → Prop} {q : Prop} (h : ∀ x, p x → q) : (∃ x, p x) → q := fun ⟨x, hx⟩ => h x hx
/-- Slots of a frame, that nobody asks any more, by name. -/
theorem wp_slots {P : Program} {c : Code} {Q : Exit → Act → World → Prop} {a : Act} {w : World} (F : (Nat → Value) → Act) (e : a = F (fun n => a.tmps.getD n undef)) (h : ∀ z, c.wp P Q (F z) w) : c.wp P Q a w := by
  rw [e]
  exact h _
theorem shs_nil {U : World} {a : Option Addr} {c : Nat} : ShsAt U (.slice a 0 c) [] := ⟨a, c, rfl, Nat.zero_le _, fun h => by simp at h⟩
theorem ints_nil {U : World} {a : Option Addr} {c : Nat} : IntsAt U (.slice a 0 c) [] := ⟨a, c, rfl, fun h => by simp at h⟩

def fixS (T : List Nd) (x : Sh) : Sh := if fitsB T x then x else ⟨x.node, -1⟩
def fixTo (T : List Nd) (S : List Sh) (k : Nat) : List Sh := (S.take k).map (fixS T) ++ S.drop k
section
variable {T : List Nd} {S : List Sh} {k : Nat}
theorem fixTo_len : (fixTo T S k).length = S.length := by
  unfold fixTo
  rw [List.length_append, List.length_map, ← List.length_append, List.take_append_drop]
theorem fixTo_zero : fixTo T S 0 = S := by simp [fixTo]
theorem fixTo_all : fixTo T S S.length = S.map (fixS T) := by simp [fixTo]
theorem fixTo_here (h : k < S.length) : fixTo T S k = (S.take k).map (fixS T) ++ S.getD k shD :: S.drop (k + 1) := by
  unfold fixTo
  rw [List.drop_eq_getElem_cons h, List.getD_eq_getElem?_getD, List.getElem?_eq_getElem h]
  rfl
theorem fixTo_succ (h : k < S.length) : fixTo T S (k + 1) = (S.take k).map (fixS T) ++ fixS T (S.getD k shD) :: S.drop (k + 1) := by
  unfold fixTo
  rw [List.take_succ_eq_append_getElem h, List.map_append, List.getD_eq_getElem?_getD, List.getElem?_eq_getElem h]
  simp
theorem fixTo_get (h : k < S.length) : (fixTo T S k).getD k shD = S.getD k shD := by
  have hl : ((S.take k).map (fixS T)).length = k := by simp; omega
  rw [fixTo_here h, List.getD_eq_getElem?_getD, List.getElem?_append_right (by omega), hl, Nat.sub_self]
  rfl
theorem fixTo_keep (h : k < S.length) (hf : fitsB T (S.getD k shD) = true) : fixTo T S (k + 1) = fixTo T S k := by
  rw [fixTo_succ h, fixTo_here h, fixS, if_pos hf]
theorem fixTo_set (h : k < S.length) (hf : fitsB T (S.getD k shD) = false) : fixTo T S (k + 1) = (fixTo T S k).set k ⟨(S.getD k shD).node, -1⟩ := by
  have hl : ((S.take k).map (fixS T)).length = k := by simp; omega
  rw [fixTo_succ h, fixTo_here h, fixS, if_neg (by rw [hf]; decide), List.set_append_right _ _ (by omega), hl, Nat.sub_self]
  rfl
end
theorem shCells_set : ∀ (l : List Sh) (k : Nat) (m : Int), k < l.length → (shCells l).set (k * 2 + 1) (.int .i64 m) = shCells (l.set k ⟨(l.getD k shD).node, m⟩)
  | [], k, m, h => by simp at h
  | x :: l, 0, m, _ => by simp [shCells]
  | x :: l, k + 1, m, h => by
    have hk : k < l.length := by simpa using h
    have := shCells_set l k m hk
    rw [List.set_cons_succ, shCells, shCells, show ((x :: l).getD (k + 1) shD) = l.getD k shD from rfl, ← this]
    rw [show (k + 1) * 2 + 1 = (k * 2 + 1) + 1 + 1 by omega]
    rfl

/-- A row of three lists that a region has built; the third one is its own. -/
def BuiltIn (U : World) (base : Nat) (s v0 v1 : Value) (n : Nat) (xs : List Value) : Prop := ∃ (b : Nat) (v2 : Value) (J : Nat × Nat), base ≤ b ∧ b < U.heap.size ∧ s = .slice (some ⟨b, 0, none⟩) 3 3 ∧ U.cell? ⟨b, 0, none⟩ = some v0 ∧ U.cell? ⟨b, 1, none⟩ = some v1 ∧ U.cell? ⟨b, 2, none⟩ = some v2 ∧ base ≤ J.1 ∧ J.2 ≤ U.heap.size ∧ RowIn U J 3 1 v2 n xs
theorem BuiltIn.keepB {U W : World} {base : Nat} {s v0 v1 : Value} {n : Nat} {xs : List Value} (h : BuiltIn U base s v0 v1 n xs) (hk : ∀ j, base ≤ j → j < U.heap.size → W.heap[j]? = U.heap[j]?) (hs : U.heap.size ≤ W.heap.size) : BuiltIn W base s v0 v1 n xs := by
  obtain ⟨b, v2, J, h1, h2, h3, c0, c1, c2, j1, j2, hr⟩ := h
  have e := hk b h1 h2
  exact ⟨b, v2, J, h1, by omega, h3, (World.cell?_of_block (a := ⟨b, 0, none⟩) e).trans c0, (World.cell?_of_block (a := ⟨b, 1, none⟩) e).trans c1, (World.cell?_of_block (a := ⟨b, 2, none⟩) e).trans c2, j1, by omega, hr.keep (fun j q1 q2 => hk j (by omega) (by omega))⟩
theorem built_new {U : World} {base : Nat} {J : Nat × Nat} {n : Nat} {xs : List Value} (v0 v1 v2 : Value) (t : TypeId) (hb : base ≤ U.heap.size) (j1 : base ≤ J.1) (j2 : J.2 ≤ U.heap.size) (hr : RowIn U J 3 1 v2 n xs) : BuiltIn (U.alloc (.cells #[v0, v1, v2] t)) base (.slice (some ⟨U.heap.size, 0, none⟩) 3 3) v0 v1 n xs := by
  have hbl : Below U.heap.size U (U.alloc (.cells #[v0, v1, v2] t)) := (Below.refl _ U).alloc (Nat.le_refl _) _
  exact ⟨U.heap.size, v2, J, hb, by simp, rfl, by simp, by simp, by simp, j1, by simp; omega, hr.keep (fun j _ q2 => hbl.block j (by omega))⟩

def fixOp (V : Vw) : List Int := V.op.filter (dlgB V.tree)
def fixNo (V : Vw) : List Int := V.op.filter (notB (dlgB V.tree))
def fixMd (V : Vw) : List Int := V.modal.filter (dlgB V.tree)
def fixNm (V : Vw) : List Int := V.modal.filter (notB (dlgB V.tree))
def fixSt (V : Vw) : List Sh := V.pops.filter (fun x => popB V.tree x.node)
def fixGo (V : Vw) : List Sh := V.pops.filter (notB (fun x => popB V.tree x.node))
def fixPs (V : Vw) : List Sh := (fixSt V).map (fixS V.tree)
def fixV1 (V : Vw) : Vw := { tree := V.tree, op := fixOp V, modal := fixMd V, pops := fixPs V, top := [] }
def fixTp (V : Vw) : List Int := V.top.filter (containsB (raisedL (fixV1 V)))
def fixL (V : Vw) : Vw := { tree := V.tree, op := fixOp V, modal := fixMd V, pops := fixPs V, top := fixTp V }
def fixG (V : Vw) : List Int := fixNo V ++ fixNm V ++ nodesL' (fixGo V)
theorem fixPs_len (V : Vw) : (fixPs V).length = (fixSt V).length := by simp [fixPs]
theorem nodesL'_len (l : List Sh) : (nodesL' l).length = l.length := by simp [nodesL']
theorem rowShs' {U : World} {I : Nat × Nat} {v : Value} {n : Nat} {l : List Sh} (h : l.length = n) (hr : RowIn U I 39 2 v n (shCells l)) : ShsAt U v l := by
  subst h
  exact rowShs hr
theorem rowInts' {U : World} {I : Nat × Nat} {v : Value} {n : Nat} {l : List Int} (h : l.length = n) (hr : RowIn U I 3 1 v n (intCells l)) : IntsAt U v l := by
  subst h
  exact rowInts hr
theorem shs_len {U : World} {a : Option Addr} {c n : Nat} {l : List Sh} (h : U.ownsRow n 39 2 (.slice a l.length c) l.length (shCells l)) : ShsAt U (.slice a l.length c) l := ownsRow_shs h
set_option maxHeartbeats 1000000 in
theorem fix1_any (l : List Int) (v : Value) (x : Int) (b : Nat) (w : World) (hc : w.cell? ⟨b, 0, none⟩ = some v) (hI : IntsAt w v l) (hl : l.length ≤ 1000000) :
    Calls Tryz.prog 72 #[.int .i64 x, .pointer (some ⟨b, 0, none⟩)] w fun e w' => e = .returned (.bool (containsB l x)) ∧ Below w.heap.size w w' := by
  obtain ⟨la, lc, rfl⟩ := hI.shape
  have HC := hideG (contains_any l _ x w hI hl)
  clear hI
  go_enter Tryz.func72, Tryz.ntmps72
  go_wp2_with fail
  refine HC.out.mono ?_
  rintro e w1 ⟨rfl, hw1⟩
  obtain rfl : _ = w1 := hw1.symm
  go_wp2_with fail
  go_ret
  exact ⟨rfl, Below.refl _ _⟩
theorem part66n (p : Int → Bool) (bv : Value) (l S G : List Int) (hS : l.filter p = S) (hG : l.filter (notB p) = G) (v : Value) (w : World) (HD : Hid (∀ (x : Int) U, Below w.heap.size w U → Calls Tryz.prog 66 #[bv, .int .i64 x] U (fun e w' => e = .returned (.bool (p x)) ∧ Below U.heap.size U w'))) (hL : IntsAt w v l) (hl : l.length ≤ 1000000) :
    Calls Tryz.prog 65 #[v, .func (.func 66) #[bv] #[]] w fun e w' => ∃ a1 c1 a2 c2, e = .returned (.tuple #[.slice a1 S.length c1, .slice a2 G.length c2]) ∧
      w'.ownsRow w.heap.size 3 1 (.slice a1 S.length c1) S.length (intCells S) ∧ w'.ownsRow w.heap.size 3 1 (.slice a2 G.length c2) G.length (intCells G) ∧
      Apart (.slice a1 S.length c1) (.slice a2 G.length c2) ∧ Below w.heap.size w w' := by
  subst hS hG
  exact part66 p bv l v w HD hL hl
theorem part68n (p : Sh → Bool) (bv : Value) (l S G : List Sh) (hS : l.filter p = S) (hG : l.filter (notB p) = G) (v : Value) (w : World) (HD : Hid (∀ (x : Sh) U, Below w.heap.size w U → Calls Tryz.prog 68 #[bv, .agg #[.int .i64 x.node, .int .i64 x.inv]] U (fun e w' => e = .returned (.bool (p x)) ∧ Below U.heap.size U w'))) (hL : ShsAt w v l) (hl : l.length ≤ 1000000) :
    Calls Tryz.prog 67 #[v, .func (.func 68) #[bv] #[]] w fun e w' => ∃ a1 c1 a2 c2, e = .returned (.tuple #[.slice a1 S.length c1, .slice a2 G.length c2]) ∧
      w'.ownsRow w.heap.size 39 2 (.slice a1 S.length c1) S.length (shCells S) ∧ w'.ownsRow w.heap.size 39 2 (.slice a2 G.length c2) G.length (shCells G) ∧
      Apart (.slice a1 S.length c1) (.slice a2 G.length c2) ∧ Below w.heap.size w w' := by
  subst hS hG
  exact part68 p bv l v w HD hL hl
theorem part72n (p : Int → Bool) (bv : Value) (l S G : List Int) (hS : l.filter p = S) (hG : l.filter (notB p) = G) (v : Value) (w : World) (HD : Hid (∀ (x : Int) U, Below w.heap.size w U → Calls Tryz.prog 72 #[.int .i64 x, bv] U (fun e w' => e = .returned (.bool (p x)) ∧ Below U.heap.size U w'))) (hL : IntsAt w v l) (hl : l.length ≤ 1000000) :
    Calls Tryz.prog 65 #[v, .func (.func 72) #[] #[bv]] w fun e w' => ∃ a1 c1 a2 c2, e = .returned (.tuple #[.slice a1 S.length c1, .slice a2 G.length c2]) ∧
      w'.ownsRow w.heap.size 3 1 (.slice a1 S.length c1) S.length (intCells S) ∧ w'.ownsRow w.heap.size 3 1 (.slice a2 G.length c2) G.length (intCells G) ∧
      Apart (.slice a1 S.length c1) (.slice a2 G.length c2) ∧ Below w.heap.size w w' := by
  subst hS hG
  exact part72 p bv l v w HD hL hl
end Go.Proofs.YtclhimodopgeoaaGreat

