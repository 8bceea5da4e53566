/- Same of the document's package of layer 10, of two views that are the same. -/
import Derived.Test.YtclhimodopgeoaaGreatTB8
namespace Go.Proofs.YtclhimodopgeoaaGreat
open Go.RowKit

set_option maxRecDepth 100000 in
set_option maxHeartbeats 8000000 in
theorem sameYes (t1 o1 m1 p1 q1 t2 o2 m2 p2 q2 : Value) (V : Vw) (w : World) (hA : ViewAt w t1 o1 m1 p1 q1 V) (hB : ViewAt w t2 o2 m2 p2 q2 V) (hS : Sane V.tree) (hl : V.tree.length ≤ 1000000 ∧ V.op.length ≤ 1000000 ∧ V.modal.length ≤ 1000000 ∧ V.top.length ≤ 1000000 ∧ V.pops.length ≤ 1000000) :
    Calls Tryz.prog 26 #[.agg #[t1, o1, m1, p1, q1], .agg #[t2, o2, m2, p2, q2]] w fun e w' => e = .returned (.bool true) ∧ Below w.heap.size w w' := by
  obtain ⟨a10, c10, rfl⟩ := hA.tree.shape
  obtain ⟨a11, c11, rfl⟩ := hA.op.shape
  obtain ⟨a12, c12, rfl⟩ := hA.modal.shape
  obtain ⟨a13, c13, rfl⟩ := hA.pops.shape
  obtain ⟨a14, c14, rfl⟩ := hA.top.shape
  obtain ⟨a20, c20, rfl⟩ := hB.tree.shape
  obtain ⟨a21, c21, rfl⟩ := hB.op.shape
  obtain ⟨a22, c22, rfl⟩ := hB.modal.shape
  obtain ⟨a23, c23, rfl⟩ := hB.pops.shape
  obtain ⟨a24, c24, rfl⟩ := hB.top.shape
  obtain ⟨W0, hW0⟩ : ∃ W0, (w.alloc (.cells #[.slice a10 V.tree.length c10, .slice a11 V.op.length c11, .slice a12 V.modal.length c12, .slice a13 V.pops.length c13, .slice a14 V.top.length c14] 27)).alloc (.cells #[.slice a20 V.tree.length c20, .slice a21 V.op.length c21, .slice a22 V.modal.length c22, .slice a23 V.pops.length c23, .slice a24 V.top.length c24] 27) = W0 := ⟨_, rfl⟩
  have HB0 := hideG (show Below w.heap.size w W0 by rw [← hW0]; exact (alB _ _).trans ((alB _ _).mono (alB _ _).size))
  have X1 := hideG (show BoxV W0 w.heap.size _ _ _ _ _ by rw [← hW0]; exact (BoxV.new w _ _ _ _ _ 27).below (alB _ _))
  have X2 := hideG (show BoxV W0 (w.heap.size + 1) _ _ _ _ _ by rw [← hW0]; have := BoxV.new (w.alloc (.cells #[.slice a10 V.tree.length c10, .slice a11 V.op.length c11, .slice a12 V.modal.length c12, .slice a13 V.pops.length c13, .slice a14 V.top.length c14] 27)) (.slice a20 V.tree.length c20) (.slice a21 V.op.length c21) (.slice a22 V.modal.length c22) (.slice a23 V.pops.length c23) (.slice a24 V.top.length c24) 27; rw [World.size_alloc] at this; exact this)
  have HA := hideG (hA.below HB0.out)
  have HB := hideG (hB.below HB0.out)
  have HW0 := hideG hW0
  have HSN := hideG hS
  obtain ⟨h0, h1, h2, h4, h5⟩ := hl
  clear hW0 hA hB hS
  have p0 := X1.out.c0
  have p1 := X1.out.c1
  have p2 := X1.out.c2
  have p3 := X1.out.c3
  have p4 := X1.out.c4
  have plt := X1.out.lt
  have q0 := X2.out.c0
  have q1 := X2.out.c1
  have q2 := X2.out.c2
  have q3 := X2.out.c3
  have q4 := X2.out.c4
  have qlt := X2.out.lt
  go_enter Tryz.func26, Tryz.ntmps26
  go_wp2_with (first | rw [HW0.out])
  try rw [HW0.out]
  clear p0 p1 p2 p3 p4 plt
  clear q0 q1 q2 q3 q4 qlt
  go_loopw [5] (fun i wr => ∃ k : Nat, k ≤ V.pops.length ∧ i = .int .i64 (k : Int) ∧ Below W0.heap.size W0 wr) (fun i _ => V.pops.length - (intOf i).toNat)
  case atStart => exact ⟨0, Nat.zero_le _, rfl, Below.refl _ _⟩
  case round =>
    obtain ⟨k, hk, rfl, hB⟩ := hrel
    have HBW := hideG hB
    have Y1 := hideG (X1.out.below hB)
    have Y2 := hideG (X2.out.below hB)
    clear hB
    have p0 := Y1.out.c0
    have p1 := Y1.out.c1
    have p2 := Y1.out.c2
    have p3 := Y1.out.c3
    have p4 := Y1.out.c4
    have plt := Y1.out.lt
    have q0 := Y2.out.c0
    have q1 := Y2.out.c1
    have q2 := Y2.out.c2
    have q3 := Y2.out.c3
    have q4 := Y2.out.c4
    have qlt := Y2.out.lt
    have hk0 : (0 : Int) ≤ (k : Int) := by omega
    by_cases hlt : k < V.pops.length
    · have hkl : (k : Int) < (V.pops.length : Int) := by omega
      obtain ⟨a', c', hv, _, hc⟩ := HA.out.pops
      injection hv with x1 x2 x3
      subst x1
      clear x2 x3
      obtain ⟨b, off, he1, hd⟩ := hc (by omega)
      have e0 := (hd k hlt).below HBW.out
      obtain ⟨a'', c'', hv2, _, hc2⟩ := HB.out.pops
      injection hv2 with x1 x2 x3
      subst x1
      clear x2 x3
      obtain ⟨b2, off2, he2, hd2⟩ := hc2 (by omega)
      have e1 := (hd2 k hlt).below HBW.out
      generalize V.pops.getD k shD = x at *
      have s0 := e0.node
      have s1 := e0.inv
      have r0 := e1.node
      have r1 := e1.inv
      have hbl : b < wr.heap.size := below_of_cell s0
      have hbl2 : b2 < wr.heap.size := below_of_cell r0
      have he1' := he1
      have he2' := he2
      subst he1' he2'
      clear hd hd2 hc hc2 he1 he2 e0 e1
      go_wp2_with fail
      go_quiet (fail)
      go_wp2_with fail
      go_roundw
      case rel => exact ⟨k + 1, by omega, by go_num, below_drewNA HBW.out _⟩
      case measure => simp [intOf]; omega
    · have hkl : ¬ (k : Int) < (V.pops.length : Int) := by omega
      go_wp2_with fail
      refine (refSame_any V.tree V.tree HSN.out _ _ wr (HA.out.tree.below HBW.out) (HB.out.tree.below HBW.out) h0).mono ?_
      rintro ex w1 ⟨rfl, hb1⟩
      rw [decide_eq_true (rfl : V.tree = V.tree)]
      have H1 := hideG (HBW.out.trans (hb1.mono HBW.out.size))
      have Z1 := hideG (X1.out.below H1.out)
      have Z2 := hideG (X2.out.below H1.out)
      clear hb1 p0 p1 p2 p3 p4 plt q0 q1 q2 q3 q4 qlt
      have p0 := Z1.out.c0
      have p1 := Z1.out.c1
      have p2 := Z1.out.c2
      have p3 := Z1.out.c3
      have p4 := Z1.out.c4
      have plt := Z1.out.lt
      have q0 := Z2.out.c0
      have q1 := Z2.out.c1
      have q2 := Z2.out.c2
      have q3 := Z2.out.c3
      have q4 := Z2.out.c4
      have qlt := Z2.out.lt
      go_wp2_with fail
      clear p0 p1 p2 p3 p4 plt q0 q1 q2 q3 q4 qlt
      refine (refInts_any V.op V.op _ _ w1 (HA.out.op.below H1.out) (HB.out.op.below H1.out) h1).mono ?_
      rintro ex w2 ⟨rfl, hb2⟩
      rw [decide_eq_true (rfl : V.op = V.op)]
      have H2 := hideG (H1.out.trans (hb2.mono H1.out.size))
      clear Z1 Z2 hb2
      have Z1 := hideG (X1.out.below H2.out)
      have Z2 := hideG (X2.out.below H2.out)
      have p0 := Z1.out.c0
      have p1 := Z1.out.c1
      have p2 := Z1.out.c2
      have p3 := Z1.out.c3
      have p4 := Z1.out.c4
      have plt := Z1.out.lt
      have q0 := Z2.out.c0
      have q1 := Z2.out.c1
      have q2 := Z2.out.c2
      have q3 := Z2.out.c3
      have q4 := Z2.out.c4
      have qlt := Z2.out.lt
      go_wp2_with fail
      clear p0 p1 p2 p3 p4 plt q0 q1 q2 q3 q4 qlt
      refine (refInts_any V.modal V.modal _ _ w2 (HA.out.modal.below H2.out) (HB.out.modal.below H2.out) h2).mono ?_
      rintro ex w3 ⟨rfl, hb3⟩
      rw [decide_eq_true (rfl : V.modal = V.modal)]
      have H3 := hideG (H2.out.trans (hb3.mono H2.out.size))
      clear Z1 Z2 hb3
      have Z1 := hideG (X1.out.below H3.out)
      have Z2 := hideG (X2.out.below H3.out)
      have p0 := Z1.out.c0
      have p1 := Z1.out.c1
      have p2 := Z1.out.c2
      have p3 := Z1.out.c3
      have p4 := Z1.out.c4
      have plt := Z1.out.lt
      have q0 := Z2.out.c0
      have q1 := Z2.out.c1
      have q2 := Z2.out.c2
      have q3 := Z2.out.c3
      have q4 := Z2.out.c4
      have qlt := Z2.out.lt
      go_wp2_with fail
      clear p0 p1 p2 p3 p4 plt q0 q1 q2 q3 q4 qlt
      refine (refInts_any V.top V.top _ _ w3 (HA.out.top.below H3.out) (HB.out.top.below H3.out) h4).mono ?_
      rintro ex w4 ⟨rfl, hb4⟩
      rw [decide_eq_true (rfl : V.top = V.top)]
      have H4 := hideG (H3.out.trans (hb4.mono H3.out.size))
      clear hb4
      go_wp2_with fail
      go_ret
      exact ⟨rfl, HB0.out.trans (H4.out.mono HB0.out.size)⟩
end Go.Proofs.YtclhimodopgeoaaGreat

