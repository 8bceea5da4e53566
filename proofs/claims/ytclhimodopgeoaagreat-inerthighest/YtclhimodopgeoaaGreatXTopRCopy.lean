/- Copy of the document's package of layer 10: a view of its own. -/
import Derived.Test.YtclhimodopgeoaaGreatTE8
import Derived.Test.YtclhimodopgeoaaGreatTE9
namespace Go.Proofs.YtclhimodopgeoaaGreat
open Go.RowKit

theorem alB' (w : World) (o : Obj) : Below w.heap.size w (w.alloc o) := (Below.refl _ w).alloc (Nat.le_refl _) o
theorem shs_holds {w : World} {v : Value} {l : List Sh} (h : ShsAt w v l) : Holds w v l.length (shCells l) := by
  obtain ⟨a, cap, rfl, hc, hd⟩ := h
  cases a with
  | none =>
    have h0 : l = [] := by
      cases l with
      | nil => rfl
      | cons a l => obtain ⟨b, off, e, _⟩ := hd (by simp); cases e
    subst h0
    exact .inr ⟨cap, rfl, rfl, rfl⟩
  | some ad => exact .inl ⟨ad, cap, rfl, (ShsAt.cells (cap := cap) ⟨some ad, cap, rfl, hc, hd⟩).2⟩
def f5 (p0 p1 p2 p3 p4 : Nat × Nat) : Nat → Nat × Nat := fun k => if k = 0 then p0 else if k = 1 then p1 else if k = 2 then p2 else if k = 3 then p3 else p4
theorem parts5 {base N : Nat} {p0 p1 p2 p3 p4 : Nat × Nat} (h0 : base ≤ p0.1) (h1 : p0.1 ≤ p0.2) (h2 : p0.2 ≤ p1.1) (h3 : p1.1 ≤ p1.2) (h4 : p1.2 ≤ p2.1) (h5 : p2.1 ≤ p2.2) (h6 : p2.2 ≤ p3.1) (h7 : p3.1 ≤ p3.2) (h8 : p3.2 ≤ p4.1) (h9 : p4.1 ≤ p4.2) (hN : p4.2 ≤ N) : Parts (f5 p0 p1 p2 p3 p4) 5 base N := by
  refine ⟨fun i hi => ?_, fun i j hi hj hne => ?_⟩
  · obtain rfl | rfl | rfl | rfl | rfl : i = 0 ∨ i = 1 ∨ i = 2 ∨ i = 3 ∨ i = 4 := by omega
    all_goals simp only [f5, if_true, if_false, Nat.reduceEqDiff]
    all_goals omega
  · obtain rfl | rfl | rfl | rfl | rfl : i = 0 ∨ i = 1 ∨ i = 2 ∨ i = 3 ∨ i = 4 := by omega
    all_goals obtain rfl | rfl | rfl | rfl | rfl : j = 0 ∨ j = 1 ∨ j = 2 ∨ j = 3 ∨ j = 4 := by omega
    all_goals simp only [f5, DisI, if_true, if_false, Nat.reduceEqDiff]
    all_goals omega
set_option maxRecDepth 100000 in
set_option maxHeartbeats 8000000 in
theorem refCopyV_any (tv ov mv pv qv : Value) (V : Vw) (w : World) (hV : ViewAt w tv ov mv pv qv V) (hS : Sane V.tree) (hl : V.tree.length ≤ 1000 ∧ V.op.length ≤ 1000 ∧ V.modal.length ≤ 1000 ∧ V.pops.length ≤ 1000 ∧ V.top.length ≤ 1000) :
    Calls Tryz.prog 85 #[.agg #[tv, ov, mv, pv, qv]] w fun x w' => ∃ f tv' ov' mv' pv' qv', x = .returned (.agg #[tv', ov', mv', pv', qv']) ∧ OwnV w' w.heap.size f tv' ov' mv' pv' qv' V ∧ Below w.heap.size w w' := by
  obtain ⟨hT, hO, hM, hP, hQ⟩ := hV
  obtain ⟨ta, tc, rfl⟩ := hT.shape
  obtain ⟨oa, oc, rfl⟩ := hO.shape
  obtain ⟨ma, mc, rfl⟩ := hM.shape
  obtain ⟨pa, pc, rfl⟩ := hP.shape
  obtain ⟨qa, qc, rfl⟩ := hQ.shape
  obtain ⟨W0, hW0⟩ : ∃ W0, (w.alloc (.cells #[.slice ta V.tree.length tc, .slice oa V.op.length oc, .slice ma V.modal.length mc, .slice pa V.pops.length pc, .slice qa V.top.length qc] 27)).alloc (.cells #[.slice none 0 0, .slice none 0 0, .slice none 0 0, .slice none 0 0, .slice none 0 0] 27) = W0 := ⟨_, rfl⟩
  have hbw : Below w.heap.size w W0 := by rw [← hW0]; exact ((Below.refl _ w).alloc (Nat.le_refl _) _).alloc (by simp) _
  have HB0 := hideG hbw
  have P0 := hideG (show W0.cell? ⟨w.heap.size, 0, none⟩ = some (.slice ta V.tree.length tc) by rw [← hW0]; exact cell_alloc_l _ (by simp))
  have P1 := hideG (show W0.cell? ⟨w.heap.size, 1, none⟩ = some (.slice oa V.op.length oc) by rw [← hW0]; exact cell_alloc_l _ (by simp))
  have P2 := hideG (show W0.cell? ⟨w.heap.size, 2, none⟩ = some (.slice ma V.modal.length mc) by rw [← hW0]; exact cell_alloc_l _ (by simp))
  have P3 := hideG (show W0.cell? ⟨w.heap.size, 3, none⟩ = some (.slice pa V.pops.length pc) by rw [← hW0]; exact cell_alloc_l _ (by simp))
  have P4 := hideG (show W0.cell? ⟨w.heap.size, 4, none⟩ = some (.slice qa V.top.length qc) by rw [← hW0]; exact cell_alloc_l _ (by simp))
  have HR := hideG (show ∀ j, j < 5 → ∃ u, W0.cell? ⟨w.heap.size + 1, j, none⟩ = some u ∧ W0.frozen? ⟨w.heap.size + 1, j, none⟩ = false from by
    have h1 := World.alloc_heap_new (w.alloc (.cells #[.slice ta V.tree.length tc, .slice oa V.op.length oc, .slice ma V.modal.length mc, .slice pa V.pops.length pc, .slice qa V.top.length qc] 27)) (.cells #[.slice none 0 0, .slice none 0 0, .slice none 0 0, .slice none 0 0, .slice none 0 0] 27)
    rw [World.size_alloc, hW0] at h1
    intro j hj
    obtain rfl | rfl | rfl | rfl | rfl : j = 0 ∨ j = 1 ∨ j = 2 ∨ j = 3 ∨ j = 4 := by omega
    all_goals exact ⟨.slice none 0 0, by simp [World.cell?, h1], by simp [World.frozen?, h1]⟩)
  have hs0 : W0.heap.size = w.heap.size + 2 := by rw [← hW0]; simp
  have HS0 := hideG hs0
  have HV := hideG (show ViewAt w _ _ _ _ _ V from ⟨hT, hO, hM, hP, hQ⟩)
  have HV0 := hideG (HV.out.below hbw)
  have HW0 := hideG hW0
  have HS := hideG hS
  have HL := hideG hl
  obtain ⟨i3, hi3, hz30, hz31, hz32⟩ := info_parts infoT3
  obtain ⟨i39, hi39, hz390, hz391, hz392⟩ := info_parts infoT39
  have p0 := P0.out
  have HR0 := hideG (show w.heap.size + 1 < W0.heap.size by omega)
  clear hW0 hT hO hM hP hQ hbw
  obtain ⟨hl0, hl1, hl2, hl3, hl4⟩ := hl
  clear hS
  go_enter Tryz.func85, Tryz.ntmps85
  go_wp2_with fail
  rw [HW0.out]
  clear p0
  refine (refTreeCopy_any V.tree HS.out _ W0 HV0.out.tree hl0).mono ?_
  rintro ex w2 ⟨tv', rfl, hti, hb2⟩
  obtain ⟨a5, k5, rfl⟩ := hti.at.shape
  have HX2 := hideG hb2
  obtain ⟨X0, hX0⟩ : ∃ X, w2.alloc (.cells #[.slice a5 V.tree.length k5, .slice none 0 0, .slice none 0 0, .slice none 0 0, .slice none 0 0] 27) = X := ⟨_, rfl⟩
  have hnew := World.alloc_heap_new w2 (.cells #[.slice a5 V.tree.length k5, .slice none 0 0, .slice none 0 0, .slice none 0 0, .slice none 0 0] 27)
  rw [hX0] at hnew
  have hbx : Below w2.heap.size w2 X0 := by rw [← hX0]; exact alB' _ _
  have TI := hideG (hti.keep (W := X0) (fun j _ h2 => hbx.block j h2))
  have HX0 := hideG (hb2.trans (hbx.mono hb2.size))
  have hs2 := hb2.size
  have hsX0 : w2.heap.size + 1 ≤ X0.heap.size := by rw [← hX0]; simp
  have HE0 := hideG hX0
  have D0 := hideG (show X0.cell? ⟨w2.heap.size, 0, none⟩ = some (.slice a5 V.tree.length k5) ∧ X0.frozen? ⟨w2.heap.size, 0, none⟩ = false from ⟨by simp [World.cell?, hnew], by simp [World.frozen?, hnew]⟩)
  have D1 := hideG (show X0.cell? ⟨w2.heap.size, 1, none⟩ = some (.slice none 0 0) ∧ X0.frozen? ⟨w2.heap.size, 1, none⟩ = false from ⟨by simp [World.cell?, hnew], by simp [World.frozen?, hnew]⟩)
  have D2 := hideG (show X0.cell? ⟨w2.heap.size, 2, none⟩ = some (.slice none 0 0) ∧ X0.frozen? ⟨w2.heap.size, 2, none⟩ = false from ⟨by simp [World.cell?, hnew], by simp [World.frozen?, hnew]⟩)
  have D3 := hideG (show X0.cell? ⟨w2.heap.size, 3, none⟩ = some (.slice none 0 0) ∧ X0.frozen? ⟨w2.heap.size, 3, none⟩ = false from ⟨by simp [World.cell?, hnew], by simp [World.frozen?, hnew]⟩)
  have D4 := hideG (show X0.cell? ⟨w2.heap.size, 4, none⟩ = some (.slice none 0 0) ∧ X0.frozen? ⟨w2.heap.size, 4, none⟩ = false from ⟨by simp [World.cell?, hnew], by simp [World.frozen?, hnew]⟩)
  have hwb0 : w.heap.size < w2.heap.size := by omega
  have hbo0 : w2.heap.size < X0.heap.size := by omega
  clear hti hb2 hbx hnew hX0
  go_upto_region 2 with fail
  rw [HE0.out]
  have pq := cell_below HX0.out P1.out
  have dq := D1.out.1
  have HROW := hideG (ints_holds (HV0.out.op.below HX0.out))
  go_wp2_with (at_builtin; refine wpList_append_any rfl (.tmp 9) (.tmp 11) 24 rfl X0.heap.size 3 i3 _ 1 8 Tryz.underlying24 hi3 hz30 hz31 hz32 rfl (by decide) _ 0 [] rfl (World.ownsRow_nil _ _ _ _) _ V.op.length (intCells V.op) rfl HROW.out (by simp [intCells]) (intCells_one _) ?h3 ?h4 ?h5 ?_)
  case h3 => simp only [maxLen]; omega
  case h4 => omega
  case h5 => exact Nat.le_refl _
  intro v1 y1 ho1 hg1 hf1
  try simp only [Nat.zero_add, List.nil_append] at ho1
  obtain ⟨b1, d1, rfl⟩ := ownsRow_shape ho1
  have hby1 : Below X0.heap.size X0 y1 := (Below.refl _ _).grown hg1 (Nat.le_refl _) (fun j e => by cases e)
  clear pq dq HROW hg1 hf1
  have e0 := cell_below hby1 D0.out.1
  have ef0 := frozen_below hby1 D0.out.1 D0.out.2
  have e1 := cell_below hby1 D1.out.1
  have ef1 := frozen_below hby1 D1.out.1 D1.out.2
  have e2 := cell_below hby1 D2.out.1
  have ef2 := frozen_below hby1 D2.out.1 D2.out.2
  have e3 := cell_below hby1 D3.out.1
  have ef3 := frozen_below hby1 D3.out.1 D3.out.2
  have e4 := cell_below hby1 D4.out.1
  have ef4 := frozen_below hby1 D4.out.1 D4.out.2
  go_upto_region 3 with fail
  obtain ⟨X1, hX1⟩ : ∃ X, y1.setCell ⟨w2.heap.size, 1, none⟩ (.slice b1 V.op.length d1) = X := ⟨_, rfl⟩
  have hsy1 := hby1.size
  have hsX1 : y1.heap.size ≤ X1.heap.size := by rw [← hX1]; simp
  have hbo1 : w2.heap.size < X1.heap.size := by omega
  have SB1 := hideG (show Sb (fun j => j = w2.heap.size ∨ j = w.heap.size + 1) y1 X1 by rw [← hX1]; exact Sb.set (.inl rfl))
  have HX1 := hideG (show Below W0.heap.size W0 X1 by rw [← hX1]; exact (HX0.out.trans (hby1.mono HX0.out.size)).setCell (p := ⟨w2.heap.size, 1, none⟩) (by show W0.heap.size ≤ w2.heap.size; omega) _)
  rw [hX1]
  clear D0 D1 D2 D3 D4
  have D0 := hideG (show X1.cell? ⟨w2.heap.size, 0, none⟩ = some (.slice a5 V.tree.length k5) ∧ X1.frozen? ⟨w2.heap.size, 0, none⟩ = false from by rw [← hX1]; exact ⟨set_other e0 (by decide), by rw [World.frozen?_setCell]; exact ef0⟩)
  have D1 := hideG (show X1.cell? ⟨w2.heap.size, 1, none⟩ = some (.slice b1 V.op.length d1) ∧ X1.frozen? ⟨w2.heap.size, 1, none⟩ = false from by rw [← hX1]; exact ⟨set_same e1, by rw [World.frozen?_setCell]; exact ef1⟩)
  have D2 := hideG (show X1.cell? ⟨w2.heap.size, 2, none⟩ = some (.slice none 0 0) ∧ X1.frozen? ⟨w2.heap.size, 2, none⟩ = false from by rw [← hX1]; exact ⟨set_other e2 (by decide), by rw [World.frozen?_setCell]; exact ef2⟩)
  have D3 := hideG (show X1.cell? ⟨w2.heap.size, 3, none⟩ = some (.slice none 0 0) ∧ X1.frozen? ⟨w2.heap.size, 3, none⟩ = false from by rw [← hX1]; exact ⟨set_other e3 (by decide), by rw [World.frozen?_setCell]; exact ef3⟩)
  have D4 := hideG (show X1.cell? ⟨w2.heap.size, 4, none⟩ = some (.slice none 0 0) ∧ X1.frozen? ⟨w2.heap.size, 4, none⟩ = false from by rw [← hX1]; exact ⟨set_other e4 (by decide), by rw [World.frozen?_setCell]; exact ef4⟩)
  have step1 : Sb (fun j => j = w2.heap.size ∨ j = w.heap.size + 1) X0 X1 := (Sb.of_below hby1).trans SB1.out
  have TIn := hideG (TI.out.sb (by show w2.heap.size ≤ X0.heap.size; omega) (fun j h1 h2 => by have h2' : j < w2.heap.size := h2; have h1' : W0.heap.size ≤ j := h1; have := HR0.out; show ¬ (j = w2.heap.size ∨ j = w.heap.size + 1); omega) step1)
  clear TI
  have TI := TIn
  clear TIn
  have R1 := hideG ((rowIn_of ho1).sb (Nat.le_refl _) (fun j h1 h2 => by have h1' : X0.heap.size ≤ j := h1; have := HR0.out; show ¬ (j = w2.heap.size ∨ j = w.heap.size + 1); omega) SB1.out)
  have HE1 := hideG hX1
  clear e0 e1 e2 e3 e4 ef0 ef1 ef2 ef3 ef4 hX1 step1 ho1 hby1
  have pq := cell_below HX1.out P2.out
  have dq := D2.out.1
  have HROW := hideG (ints_holds (HV0.out.modal.below HX1.out))
  go_wp2_with (at_builtin; refine wpList_append_any rfl (.tmp 15) (.tmp 17) 24 rfl X1.heap.size 3 i3 _ 1 8 Tryz.underlying24 hi3 hz30 hz31 hz32 rfl (by decide) _ 0 [] rfl (World.ownsRow_nil _ _ _ _) _ V.modal.length (intCells V.modal) rfl HROW.out (by simp [intCells]) (intCells_one _) ?h3 ?h4 ?h5 ?_)
  case h3 => simp only [maxLen]; omega
  case h4 => omega
  case h5 => exact Nat.le_refl _
  intro v2 y2 ho2 hg2 hf2
  try simp only [Nat.zero_add, List.nil_append] at ho2
  obtain ⟨b2, d2, rfl⟩ := ownsRow_shape ho2
  have hby2 : Below X1.heap.size X1 y2 := (Below.refl _ _).grown hg2 (Nat.le_refl _) (fun j e => by cases e)
  clear pq dq HROW hg2 hf2
  have e0 := cell_below hby2 D0.out.1
  have ef0 := frozen_below hby2 D0.out.1 D0.out.2
  have e1 := cell_below hby2 D1.out.1
  have ef1 := frozen_below hby2 D1.out.1 D1.out.2
  have e2 := cell_below hby2 D2.out.1
  have ef2 := frozen_below hby2 D2.out.1 D2.out.2
  have e3 := cell_below hby2 D3.out.1
  have ef3 := frozen_below hby2 D3.out.1 D3.out.2
  have e4 := cell_below hby2 D4.out.1
  have ef4 := frozen_below hby2 D4.out.1 D4.out.2
  go_upto_region 4 with fail
  obtain ⟨X2, hX2⟩ : ∃ X, y2.setCell ⟨w2.heap.size, 2, none⟩ (.slice b2 V.modal.length d2) = X := ⟨_, rfl⟩
  have hsy2 := hby2.size
  have hsX2 : y2.heap.size ≤ X2.heap.size := by rw [← hX2]; simp
  have hbo2 : w2.heap.size < X2.heap.size := by omega
  have SB2 := hideG (show Sb (fun j => j = w2.heap.size ∨ j = w.heap.size + 1) y2 X2 by rw [← hX2]; exact Sb.set (.inl rfl))
  have HX2 := hideG (show Below W0.heap.size W0 X2 by rw [← hX2]; exact (HX1.out.trans (hby2.mono HX1.out.size)).setCell (p := ⟨w2.heap.size, 2, none⟩) (by show W0.heap.size ≤ w2.heap.size; omega) _)
  rw [hX2]
  clear D0 D1 D2 D3 D4
  have D0 := hideG (show X2.cell? ⟨w2.heap.size, 0, none⟩ = some (.slice a5 V.tree.length k5) ∧ X2.frozen? ⟨w2.heap.size, 0, none⟩ = false from by rw [← hX2]; exact ⟨set_other e0 (by decide), by rw [World.frozen?_setCell]; exact ef0⟩)
  have D1 := hideG (show X2.cell? ⟨w2.heap.size, 1, none⟩ = some (.slice b1 V.op.length d1) ∧ X2.frozen? ⟨w2.heap.size, 1, none⟩ = false from by rw [← hX2]; exact ⟨set_other e1 (by decide), by rw [World.frozen?_setCell]; exact ef1⟩)
  have D2 := hideG (show X2.cell? ⟨w2.heap.size, 2, none⟩ = some (.slice b2 V.modal.length d2) ∧ X2.frozen? ⟨w2.heap.size, 2, none⟩ = false from by rw [← hX2]; exact ⟨set_same e2, by rw [World.frozen?_setCell]; exact ef2⟩)
  have D3 := hideG (show X2.cell? ⟨w2.heap.size, 3, none⟩ = some (.slice none 0 0) ∧ X2.frozen? ⟨w2.heap.size, 3, none⟩ = false from by rw [← hX2]; exact ⟨set_other e3 (by decide), by rw [World.frozen?_setCell]; exact ef3⟩)
  have D4 := hideG (show X2.cell? ⟨w2.heap.size, 4, none⟩ = some (.slice none 0 0) ∧ X2.frozen? ⟨w2.heap.size, 4, none⟩ = false from by rw [← hX2]; exact ⟨set_other e4 (by decide), by rw [World.frozen?_setCell]; exact ef4⟩)
  have step2 : Sb (fun j => j = w2.heap.size ∨ j = w.heap.size + 1) X1 X2 := (Sb.of_below hby2).trans SB2.out
  have TIn := hideG (TI.out.sb (by show w2.heap.size ≤ X1.heap.size; omega) (fun j h1 h2 => by have h2' : j < w2.heap.size := h2; have h1' : W0.heap.size ≤ j := h1; have := HR0.out; show ¬ (j = w2.heap.size ∨ j = w.heap.size + 1); omega) step2)
  clear TI
  have TI := TIn
  clear TIn
  have R1n := hideG (R1.out.sb (by show y1.heap.size ≤ X1.heap.size; omega) (fun j h1 h2 => by have h1' : X0.heap.size ≤ j := h1; have := HR0.out; show ¬ (j = w2.heap.size ∨ j = w.heap.size + 1); omega) step2)
  clear R1
  have R1 := R1n
  clear R1n
  have R2 := hideG ((rowIn_of ho2).sb (Nat.le_refl _) (fun j h1 h2 => by have h1' : X1.heap.size ≤ j := h1; have := HR0.out; show ¬ (j = w2.heap.size ∨ j = w.heap.size + 1); omega) SB2.out)
  have HE2 := hideG hX2
  clear e0 e1 e2 e3 e4 ef0 ef1 ef2 ef3 ef4 hX2 step2 ho2 hby2
  have pq := cell_below HX2.out P3.out
  have dq := D3.out.1
  have HROW := hideG (shs_holds (HV0.out.pops.below HX2.out))
  go_wp2_with (at_builtin; refine wpList_append_any rfl (.tmp 21) (.tmp 23) 25 rfl X2.heap.size 39 i39 _ 2 16 Tryz.underlying25 hi39 hz390 hz391 hz392 rfl (by decide) _ 0 [] rfl (World.ownsRow_nil _ _ _ _) _ V.pops.length (shCells V.pops) rfl HROW.out (by rw [shCells_length]) (shCells_one _) ?h3 ?h4 ?h5 ?_)
  case h3 => simp only [maxLen]; omega
  case h4 => omega
  case h5 => exact Nat.le_refl _
  intro v3 y3 ho3 hg3 hf3
  try simp only [Nat.zero_add, List.nil_append] at ho3
  obtain ⟨b3, d3, rfl⟩ := ownsRow_shape ho3
  have hby3 : Below X2.heap.size X2 y3 := (Below.refl _ _).grown hg3 (Nat.le_refl _) (fun j e => by cases e)
  clear pq dq HROW hg3 hf3
  have e0 := cell_below hby3 D0.out.1
  have ef0 := frozen_below hby3 D0.out.1 D0.out.2
  have e1 := cell_below hby3 D1.out.1
  have ef1 := frozen_below hby3 D1.out.1 D1.out.2
  have e2 := cell_below hby3 D2.out.1
  have ef2 := frozen_below hby3 D2.out.1 D2.out.2
  have e3 := cell_below hby3 D3.out.1
  have ef3 := frozen_below hby3 D3.out.1 D3.out.2
  have e4 := cell_below hby3 D4.out.1
  have ef4 := frozen_below hby3 D4.out.1 D4.out.2
  go_upto_region 5 with fail
  obtain ⟨X3, hX3⟩ : ∃ X, y3.setCell ⟨w2.heap.size, 3, none⟩ (.slice b3 V.pops.length d3) = X := ⟨_, rfl⟩
  have hsy3 := hby3.size
  have hsX3 : y3.heap.size ≤ X3.heap.size := by rw [← hX3]; simp
  have hbo3 : w2.heap.size < X3.heap.size := by omega
  have SB3 := hideG (show Sb (fun j => j = w2.heap.size ∨ j = w.heap.size + 1) y3 X3 by rw [← hX3]; exact Sb.set (.inl rfl))
  have HX3 := hideG (show Below W0.heap.size W0 X3 by rw [← hX3]; exact (HX2.out.trans (hby3.mono HX2.out.size)).setCell (p := ⟨w2.heap.size, 3, none⟩) (by show W0.heap.size ≤ w2.heap.size; omega) _)
  rw [hX3]
  clear D0 D1 D2 D3 D4
  have D0 := hideG (show X3.cell? ⟨w2.heap.size, 0, none⟩ = some (.slice a5 V.tree.length k5) ∧ X3.frozen? ⟨w2.heap.size, 0, none⟩ = false from by rw [← hX3]; exact ⟨set_other e0 (by decide), by rw [World.frozen?_setCell]; exact ef0⟩)
  have D1 := hideG (show X3.cell? ⟨w2.heap.size, 1, none⟩ = some (.slice b1 V.op.length d1) ∧ X3.frozen? ⟨w2.heap.size, 1, none⟩ = false from by rw [← hX3]; exact ⟨set_other e1 (by decide), by rw [World.frozen?_setCell]; exact ef1⟩)
  have D2 := hideG (show X3.cell? ⟨w2.heap.size, 2, none⟩ = some (.slice b2 V.modal.length d2) ∧ X3.frozen? ⟨w2.heap.size, 2, none⟩ = false from by rw [← hX3]; exact ⟨set_other e2 (by decide), by rw [World.frozen?_setCell]; exact ef2⟩)
  have D3 := hideG (show X3.cell? ⟨w2.heap.size, 3, none⟩ = some (.slice b3 V.pops.length d3) ∧ X3.frozen? ⟨w2.heap.size, 3, none⟩ = false from by rw [← hX3]; exact ⟨set_same e3, by rw [World.frozen?_setCell]; exact ef3⟩)
  have D4 := hideG (show X3.cell? ⟨w2.heap.size, 4, none⟩ = some (.slice none 0 0) ∧ X3.frozen? ⟨w2.heap.size, 4, none⟩ = false from by rw [← hX3]; exact ⟨set_other e4 (by decide), by rw [World.frozen?_setCell]; exact ef4⟩)
  have step3 : Sb (fun j => j = w2.heap.size ∨ j = w.heap.size + 1) X2 X3 := (Sb.of_below hby3).trans SB3.out
  have TIn := hideG (TI.out.sb (by show w2.heap.size ≤ X2.heap.size; omega) (fun j h1 h2 => by have h2' : j < w2.heap.size := h2; have h1' : W0.heap.size ≤ j := h1; have := HR0.out; show ¬ (j = w2.heap.size ∨ j = w.heap.size + 1); omega) step3)
  clear TI
  have TI := TIn
  clear TIn
  have R1n := hideG (R1.out.sb (by show y1.heap.size ≤ X2.heap.size; omega) (fun j h1 h2 => by have h1' : X0.heap.size ≤ j := h1; have := HR0.out; show ¬ (j = w2.heap.size ∨ j = w.heap.size + 1); omega) step3)
  clear R1
  have R1 := R1n
  clear R1n
  have R2n := hideG (R2.out.sb (by show y2.heap.size ≤ X2.heap.size; omega) (fun j h1 h2 => by have h1' : X1.heap.size ≤ j := h1; have := HR0.out; show ¬ (j = w2.heap.size ∨ j = w.heap.size + 1); omega) step3)
  clear R2
  have R2 := R2n
  clear R2n
  have R3 := hideG ((rowIn_of ho3).sb (Nat.le_refl _) (fun j h1 h2 => by have h1' : X2.heap.size ≤ j := h1; have := HR0.out; show ¬ (j = w2.heap.size ∨ j = w.heap.size + 1); omega) SB3.out)
  have HE3 := hideG hX3
  clear e0 e1 e2 e3 e4 ef0 ef1 ef2 ef3 ef4 hX3 step3 ho3 hby3
  have pq := cell_below HX3.out P4.out
  have dq := D4.out.1
  have HROW := hideG (ints_holds (HV0.out.top.below HX3.out))
  go_wp2_with (at_builtin; refine wpList_append_any rfl (.tmp 27) (.tmp 29) 24 rfl X3.heap.size 3 i3 _ 1 8 Tryz.underlying24 hi3 hz30 hz31 hz32 rfl (by decide) _ 0 [] rfl (World.ownsRow_nil _ _ _ _) _ V.top.length (intCells V.top) rfl HROW.out (by simp [intCells]) (intCells_one _) ?h3 ?h4 ?h5 ?_)
  case h3 => simp only [maxLen]; omega
  case h4 => omega
  case h5 => exact Nat.le_refl _
  intro v4 y4 ho4 hg4 hf4
  try simp only [Nat.zero_add, List.nil_append] at ho4
  obtain ⟨b4, d4, rfl⟩ := ownsRow_shape ho4
  have hby4 : Below X3.heap.size X3 y4 := (Below.refl _ _).grown hg4 (Nat.le_refl _) (fun j e => by cases e)
  clear pq dq HROW hg4 hf4
  have e0 := cell_below hby4 D0.out.1
  have ef0 := frozen_below hby4 D0.out.1 D0.out.2
  have e1 := cell_below hby4 D1.out.1
  have ef1 := frozen_below hby4 D1.out.1 D1.out.2
  have e2 := cell_below hby4 D2.out.1
  have ef2 := frozen_below hby4 D2.out.1 D2.out.2
  have e3 := cell_below hby4 D3.out.1
  have ef3 := frozen_below hby4 D3.out.1 D3.out.2
  have e4 := cell_below hby4 D4.out.1
  have ef4 := frozen_below hby4 D4.out.1 D4.out.2
  go_upto_region 6 with fail
  obtain ⟨X4, hX4⟩ : ∃ X, y4.setCell ⟨w2.heap.size, 4, none⟩ (.slice b4 V.top.length d4) = X := ⟨_, rfl⟩
  have hsy4 := hby4.size
  have hsX4 : y4.heap.size ≤ X4.heap.size := by rw [← hX4]; simp
  have hbo4 : w2.heap.size < X4.heap.size := by omega
  have SB4 := hideG (show Sb (fun j => j = w2.heap.size ∨ j = w.heap.size + 1) y4 X4 by rw [← hX4]; exact Sb.set (.inl rfl))
  have HX4 := hideG (show Below W0.heap.size W0 X4 by rw [← hX4]; exact (HX3.out.trans (hby4.mono HX3.out.size)).setCell (p := ⟨w2.heap.size, 4, none⟩) (by show W0.heap.size ≤ w2.heap.size; omega) _)
  rw [hX4]
  clear D0 D1 D2 D3 D4
  have D0 := hideG (show X4.cell? ⟨w2.heap.size, 0, none⟩ = some (.slice a5 V.tree.length k5) ∧ X4.frozen? ⟨w2.heap.size, 0, none⟩ = false from by rw [← hX4]; exact ⟨set_other e0 (by decide), by rw [World.frozen?_setCell]; exact ef0⟩)
  have D1 := hideG (show X4.cell? ⟨w2.heap.size, 1, none⟩ = some (.slice b1 V.op.length d1) ∧ X4.frozen? ⟨w2.heap.size, 1, none⟩ = false from by rw [← hX4]; exact ⟨set_other e1 (by decide), by rw [World.frozen?_setCell]; exact ef1⟩)
  have D2 := hideG (show X4.cell? ⟨w2.heap.size, 2, none⟩ = some (.slice b2 V.modal.length d2) ∧ X4.frozen? ⟨w2.heap.size, 2, none⟩ = false from by rw [← hX4]; exact ⟨set_other e2 (by decide), by rw [World.frozen?_setCell]; exact ef2⟩)
  have D3 := hideG (show X4.cell? ⟨w2.heap.size, 3, none⟩ = some (.slice b3 V.pops.length d3) ∧ X4.frozen? ⟨w2.heap.size, 3, none⟩ = false from by rw [← hX4]; exact ⟨set_other e3 (by decide), by rw [World.frozen?_setCell]; exact ef3⟩)
  have D4 := hideG (show X4.cell? ⟨w2.heap.size, 4, none⟩ = some (.slice b4 V.top.length d4) ∧ X4.frozen? ⟨w2.heap.size, 4, none⟩ = false from by rw [← hX4]; exact ⟨set_same e4, by rw [World.frozen?_setCell]; exact ef4⟩)
  have step4 : Sb (fun j => j = w2.heap.size ∨ j = w.heap.size + 1) X3 X4 := (Sb.of_below hby4).trans SB4.out
  have TIn := hideG (TI.out.sb (by show w2.heap.size ≤ X3.heap.size; omega) (fun j h1 h2 => by have h2' : j < w2.heap.size := h2; have h1' : W0.heap.size ≤ j := h1; have := HR0.out; show ¬ (j = w2.heap.size ∨ j = w.heap.size + 1); omega) step4)
  clear TI
  have TI := TIn
  clear TIn
  have R1n := hideG (R1.out.sb (by show y1.heap.size ≤ X3.heap.size; omega) (fun j h1 h2 => by have h1' : X0.heap.size ≤ j := h1; have := HR0.out; show ¬ (j = w2.heap.size ∨ j = w.heap.size + 1); omega) step4)
  clear R1
  have R1 := R1n
  clear R1n
  have R2n := hideG (R2.out.sb (by show y2.heap.size ≤ X3.heap.size; omega) (fun j h1 h2 => by have h1' : X1.heap.size ≤ j := h1; have := HR0.out; show ¬ (j = w2.heap.size ∨ j = w.heap.size + 1); omega) step4)
  clear R2
  have R2 := R2n
  clear R2n
  have R3n := hideG (R3.out.sb (by show y3.heap.size ≤ X3.heap.size; omega) (fun j h1 h2 => by have h1' : X2.heap.size ≤ j := h1; have := HR0.out; show ¬ (j = w2.heap.size ∨ j = w.heap.size + 1); omega) step4)
  clear R3
  have R3 := R3n
  clear R3n
  have R4 := hideG ((rowIn_of ho4).sb (Nat.le_refl _) (fun j h1 h2 => by have h1' : X3.heap.size ≤ j := h1; have := HR0.out; show ¬ (j = w2.heap.size ∨ j = w.heap.size + 1); omega) SB4.out)
  have HE4 := hideG hX4
  clear e0 e1 e2 e3 e4 ef0 ef1 ef2 ef3 ef4 hX4 step4 ho4 hby4
  have q0 := D0.out.1
  have q1 := D1.out.1
  have q2 := D2.out.1
  have q3 := D3.out.1
  have q4 := D4.out.1
  have HRk := hideG (show ∀ j, j < 5 → ∃ u, X4.cell? ⟨w.heap.size + 1, j, none⟩ = some u ∧ X4.frozen? ⟨w.heap.size + 1, j, none⟩ = false from fun j hj => let ⟨u, h1, h2⟩ := HR.out j hj; ⟨u, cell_below HX4.out h1, frozen_below HX4.out h1 h2⟩)
  obtain ⟨u0, rc0, rf0⟩ := HRk.out 0 (by decide)
  obtain ⟨u1, rc1, rf1⟩ := HRk.out 1 (by decide)
  obtain ⟨u2, rc2, rf2⟩ := HRk.out 2 (by decide)
  obtain ⟨u3, rc3, rf3⟩ := HRk.out 3 (by decide)
  obtain ⟨u4, rc4, rf4⟩ := HRk.out 4 (by decide)
  have hrb : w.heap.size + 1 < w2.heap.size := by have := HR0.out; omega
  go_wp2_with fail
  have hat := set5_at (U := X4) (R := w.heap.size + 1) (v0 := .slice a5 V.tree.length k5) (v1 := .slice b1 V.op.length d1) (v2 := .slice b2 V.modal.length d2) (v3 := .slice b3 V.pops.length d3) (v4 := .slice b4 V.top.length d4) HRk.out
  have hK : Sb (fun j => j = w2.heap.size ∨ j = w.heap.size + 1) X4 (set5 X4 (w.heap.size + 1) (.slice a5 V.tree.length k5) (.slice b1 V.op.length d1) (.slice b2 V.modal.length d2) (.slice b3 V.pops.length d3) (.slice b4 V.top.length d4)) := Sb.set5 (.inr rfl)
  have hsz := set5_size X4 (w.heap.size + 1) (.slice a5 V.tree.length k5) (.slice b1 V.op.length d1) (.slice b2 V.modal.length d2) (.slice b3 V.pops.length d3) (.slice b4 V.top.length d4)
  have hBL := set5_below (v0 := .slice a5 V.tree.length k5) (v1 := .slice b1 V.op.length d1) (v2 := .slice b2 V.modal.length d2) (v3 := .slice b3 V.pops.length d3) (v4 := .slice b4 V.top.length d4) (HB0.out.trans (HX4.out.mono HB0.out.size)) (show w.heap.size ≤ w.heap.size + 1 by omega)
  have hT5 := TI.out.sb (by show w2.heap.size ≤ X4.heap.size; omega) (fun j h1 h2 => by have h2' : j < w2.heap.size := h2; have h1' : W0.heap.size ≤ j := h1; have := HR0.out; show ¬ (j = w2.heap.size ∨ j = w.heap.size + 1); omega) hK
  have hR1 := R1.out.sb (by show y1.heap.size ≤ X4.heap.size; omega) (fun j h1 h2 => by have h1' : X0.heap.size ≤ j := h1; have := HR0.out; show ¬ (j = w2.heap.size ∨ j = w.heap.size + 1); omega) hK
  have hR2 := R2.out.sb (by show y2.heap.size ≤ X4.heap.size; omega) (fun j h1 h2 => by have h1' : X1.heap.size ≤ j := h1; have := HR0.out; show ¬ (j = w2.heap.size ∨ j = w.heap.size + 1); omega) hK
  have hR3 := R3.out.sb (by show y3.heap.size ≤ X4.heap.size; omega) (fun j h1 h2 => by have h1' : X2.heap.size ≤ j := h1; have := HR0.out; show ¬ (j = w2.heap.size ∨ j = w.heap.size + 1); omega) hK
  have hR4 := R4.out.sb (by show y4.heap.size ≤ X4.heap.size; omega) (fun j h1 h2 => by have h1' : X3.heap.size ≤ j := h1; have := HR0.out; show ¬ (j = w2.heap.size ∨ j = w.heap.size + 1); omega) hK
  have hPT : Parts (f5 (W0.heap.size, w2.heap.size) (X0.heap.size, y1.heap.size) (X1.heap.size, y2.heap.size) (X2.heap.size, y3.heap.size) (X3.heap.size, y4.heap.size)) 5 w.heap.size (set5 X4 (w.heap.size + 1) (.slice a5 V.tree.length k5) (.slice b1 V.op.length d1) (.slice b2 V.modal.length d2) (.slice b3 V.pops.length d3) (.slice b4 V.top.length d4)).heap.size := parts5 (by have := HS0.out; omega) hs2 (by omega) hsy1 (by omega) hsy2 (by omega) hsy3 (by omega) hsy4 (by rw [hsz]; omega)
  clear hK hsz
  unfold set5 at hat hBL hT5 hR1 hR2 hR3 hR4 hPT
  obtain ⟨t0, t1, t2, t3, t4⟩ := hat
  refine bodyPost_ret (v := .agg #[.slice a5 V.tree.length k5, .slice b1 V.op.length d1, .slice b2 V.modal.length d2, .slice b3 V.pops.length d3, .slice b4 V.top.length d4]) (by simp [results, Tryz.f85, go_sem, t0, t1, t2, t3, t4]) rfl ?_
  exact ⟨_, _, _, _, _, _, rfl, ⟨hPT, hT5, hR1, hR2, hR3, hR4⟩, hBL⟩
end Go.Proofs.YtclhimodopgeoaaGreat

