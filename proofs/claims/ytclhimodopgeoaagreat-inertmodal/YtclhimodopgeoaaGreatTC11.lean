/- Part 11 of what the laws of layer 10 lean on. -/
import Derived.Test.YtclhimodopgeoaaGreatTC9
import Derived.Test.YtclhimodopgeoaaGreatTC10
namespace Go.Proofs.YtclhimodopgeoaaGreat
open Go.RowKit

def ls10 : List Nd := [⟨0, 0, -1, [1, 2], -1, -1, []⟩, ⟨1, 2, 0, [], -1, -1, []⟩, ⟨1, 0, 0, [], -1, -1, [(6, 1)]⟩, ⟨1, 2, -1, [], -1, -1, []⟩]
def ls10rows (s : Nat) : List (Nd × Value × Value) := [(⟨0, 0, -1, [1, 2], -1, -1, []⟩, .slice (some ⟨s + 0, 0, none⟩) 2 2, .slice none 0 0), (⟨1, 2, 0, [], -1, -1, []⟩, .slice none 0 0, .slice none 0 0), (⟨1, 0, 0, [], -1, -1, [(6, 1)]⟩, .slice none 0 0, .slice (some ⟨s + 1, 0, none⟩) 1 1), (⟨1, 2, -1, [], -1, -1, []⟩, .slice none 0 0, .slice none 0 0)]
def ls10objs (s : Nat) : List Obj := [.cells (intCells [1, 2]).toArray 3, .cells (attrCells [(6, 1)]).toArray 60, .cells (nodesL (ls10rows s)).toArray 57]
theorem ls10_tree (w : World) : TreeAt (allocs w (ls10objs w.heap.size)) (.slice (some ⟨w.heap.size + 2, 0, none⟩) 4 4) ls10 :=
  tree_lit (ls10rows w.heap.size) (allocs_at w _ 2 _ rfl) rfl (List.forall_mem_cons.mpr ⟨⟨ints_lit [1, 2] (allocs_at w _ 0 _ rfl) rfl, attrs_none _⟩, List.forall_mem_cons.mpr ⟨⟨ints_none _, attrs_none _⟩, List.forall_mem_cons.mpr ⟨⟨ints_none _, attrs_lit [(6, 1)] (allocs_at w _ 1 _ rfl) rfl⟩, List.forall_mem_cons.mpr ⟨⟨ints_none _, attrs_none _⟩, fun p h => by cases h⟩⟩⟩⟩)

def lsT : Vw := ⟨ls10, [], [], [], []⟩
def lsA : Vw := { lsT with modal := lsT.modal ++ [1], top := lsT.top ++ [1] }
def lsB : Vw := { lsA with pops := lsA.pops ++ [(⟨2, 1⟩ : Sh)], top := lsA.top ++ [(⟨2, 1⟩ : Sh).node] }
def lsC : Vw := closeL lsB 1
def lsF : Vw := ⟨ls10, [], [3, 1], [], [3, 1]⟩
def lsE : Vw := ⟨ls10, [2], [], [], []⟩

set_option maxRecDepth 100000 in
set_option maxHeartbeats 8000000 in
theorem live10_any (w : World) : Calls Tryz.prog 19 #[] w fun e w' => e = .returned (.bool true) ∧ Below w.heap.size w w' := by
  have HSN := hideG (sane_of (T := ls10) (by decide))
  have HT := hideG (ls10_tree w)
  have HB := hideG (allocs_below w (ls10objs w.heap.size))
  have hz : Below (allocs w (ls10objs w.heap.size)).heap.size (allocs w (ls10objs w.heap.size)) ((allocs w (ls10objs w.heap.size)).alloc (.cells #[(.slice (some ⟨w.heap.size + 2, 0, none⟩) 4 4), (.slice none 0 0), (.slice none 0 0), (.slice none 0 0), (.slice none 0 0)] 27)) := alB _ _
  have HTn := hideG (HT.out.below hz)
  have HBn := hideG (HB.out.trans ((hz).mono HB.out.size))
  clear HT HB
  have HT := HTn
  clear HTn
  have HB := HBn
  clear HBn
  have HVT := hideG (show ViewAt _ (.slice (some ⟨w.heap.size + 2, 0, none⟩) 4 4) (.slice none 0 0) (.slice none 0 0) (.slice none 0 0) (.slice none 0 0) lsT from ⟨HT.out, ints_none _, ints_none _, shs_none _, ints_none _⟩)
  clear hz
  have HC1 := hideG (shaped (dlgModal _ _ _ _ _ lsT _ HVT.out HSN.out ⟨by decide, by decide, by decide, by decide⟩ 1 true rfl (by decide) (by decide +kernel) (by decide +kernel) (by decide +kernel) (by decide +kernel)) 4 0 1 0 1 rfl rfl rfl rfl rfl)
  clear HVT
  go_enter Tryz.func19, Tryz.ntmps19
  go_wp2_with fail
  refine HC1.out.mono ?_
  rintro ex w1 ⟨a10, c10, a11, c11, a12, c12, a13, c13, a14, c14, rfl, hv1, hb1⟩
  clear HC1
  have HTn := hideG (HT.out.below hb1)
  have HBn := hideG (HB.out.trans ((hb1).mono HB.out.size))
  clear HT HB
  have HT := HTn
  clear HTn
  have HB := HBn
  clear HBn
  obtain ⟨X1, hX1⟩ : ∃ X, w1.alloc (.cells #[.slice a10 4 c10, .slice a11 0 c11, .slice a12 1 c12, .slice a13 0 c13, .slice a14 1 c14] 27) = X := ⟨_, rfl⟩
  have hz1 : Below w1.heap.size w1 X1 := by rw [← hX1]; exact alB _ _
  have HTn := hideG (HT.out.below hz1)
  have HBn := hideG (HB.out.trans ((hz1).mono HB.out.size))
  clear HT HB
  have HT := HTn
  clear HTn
  have HB := HBn
  clear HBn
  have HX1 := hideG hX1
  have Ba := hideG (show BoxV X1 w1.heap.size (.slice a10 4 c10) (.slice a11 0 c11) (.slice a12 1 c12) (.slice a13 0 c13) (.slice a14 1 c14) by rw [← hX1]; exact BoxV.new _ _ _ _ _ _ _)
  have Va := hideG (hv1.below hz1)
  clear hX1 hz1 hv1 hb1
  go_upto_region 4 with fail
  rw [HX1.out]
  refine wp_slots (fun z1 => { tmps := #[z1 0, .slice (some ⟨w.heap.size + 1 + 1, 0, none⟩) 4 4, z1 2, .pointer (some ⟨w1.heap.size, 0, none⟩), .int .i64 0, z1 5, z1 6, z1 7, z1 8, z1 9, z1 10, z1 11, z1 12, z1 13, z1 14, z1 15, z1 16, z1 17, z1 18, z1 19, z1 20, z1 21, z1 22, z1 23, z1 24, z1 25, z1 26, z1 27, z1 28, z1 29, z1 30, z1 31, z1 32, z1 33, z1 34, z1 35, z1 36, z1 37, z1 38, z1 39, z1 40, z1 41, z1 42, z1 43, z1 44, z1 45, z1 46, z1 47, z1 48, z1 49, z1 50, z1 51, z1 52, z1 53, z1 54, z1 55, z1 56, z1 57, z1 58, z1 59, z1 60, z1 61, z1 62, z1 63, z1 64, z1 65, z1 66, z1 67, z1 68, z1 69, z1 70, z1 71, z1 72, z1 73, z1 74, z1 75, z1 76, z1 77, z1 78, z1 79, z1 80, z1 81, z1 82, z1 83, z1 84, z1 85, z1 86, z1 87, z1 88, z1 89, z1 90, z1 91, z1 92, z1 93, z1 94, z1 95, z1 96, z1 97, z1 98, z1 99, z1 100, z1 101, z1 102, z1 103, z1 104, z1 105, z1 106, z1 107, z1 108, z1 109, z1 110, z1 111, z1 112, z1 113, z1 114, z1 115, z1 116, z1 117, z1 118, z1 119, z1 120, z1 121, z1 122, z1 123, z1 124, z1 125, z1 126, z1 127, z1 128, z1 129, z1 130, z1 131, z1 132], defers := [] }) (by rfl) (fun z1 => ?_)
  have p0 := Ba.out.c0
  have p1 := Ba.out.c1
  have p2 := Ba.out.c2
  have p3 := Ba.out.c3
  have p4 := Ba.out.c4
  have plt := Ba.out.lt
  go_wp2_with fail
  clear p0 p1 p2 p3 p4 plt
  refine (shaped (popOpen _ _ _ _ _ lsA _ Va.out HSN.out ⟨by decide, by decide, by decide, by decide⟩ ⟨2, 1⟩ (by decide) (by decide +kernel) (by decide +kernel) (by decide +kernel) (by decide +kernel) (by decide +kernel)) 4 0 1 1 2 rfl rfl rfl rfl rfl).mono ?_
  rintro ex w2 ⟨a20, c20, a21, c21, a22, c22, a23, c23, a24, c24, rfl, hv2, hb2⟩
  have HTn := hideG (HT.out.below hb2)
  have Ban := hideG (Ba.out.below hb2)
  have Van := hideG (Va.out.below hb2)
  have HBn := hideG (HB.out.trans ((hb2).mono HB.out.size))
  clear HT Ba Va HB
  have HT := HTn
  clear HTn
  have Ba := Ban
  clear Ban
  have Va := Van
  clear Van
  have HB := HBn
  clear HBn
  obtain ⟨X2, hX2⟩ : ∃ X, w2.alloc (.cells #[.slice a20 4 c20, .slice a21 0 c21, .slice a22 1 c22, .slice a23 1 c23, .slice a24 2 c24] 27) = X := ⟨_, rfl⟩
  have hz2 : Below w2.heap.size w2 X2 := by rw [← hX2]; exact alB _ _
  have HTn := hideG (HT.out.below hz2)
  have Ban := hideG (Ba.out.below hz2)
  have Van := hideG (Va.out.below hz2)
  have HBn := hideG (HB.out.trans ((hz2).mono HB.out.size))
  clear HT Ba Va HB
  have HT := HTn
  clear HTn
  have Ba := Ban
  clear Ban
  have Va := Van
  clear Van
  have HB := HBn
  clear HBn
  have HX2 := hideG hX2
  have Bb := hideG (show BoxV X2 w2.heap.size (.slice a20 4 c20) (.slice a21 0 c21) (.slice a22 1 c22) (.slice a23 1 c23) (.slice a24 2 c24) by rw [← hX2]; exact BoxV.new _ _ _ _ _ _ _)
  have Vb := hideG (hv2.below hz2)
  clear hX2 hz2 hv2 hb2
  clear Ba Va
  go_upto_region 5 with fail
  rw [HX2.out]
  refine wp_slots (fun z2 => { tmps := #[z2 0, .slice (some ⟨w.heap.size + 1 + 1, 0, none⟩) 4 4, z2 2, z2 3, .int .i64 0, .pointer (some ⟨w2.heap.size, 0, none⟩), .int .i64 0, z2 7, z2 8, z2 9, z2 10, z2 11, z2 12, z2 13, z2 14, z2 15, z2 16, z2 17, z2 18, z2 19, z2 20, z2 21, z2 22, z2 23, z2 24, z2 25, z2 26, z2 27, z2 28, z2 29, z2 30, z2 31, z2 32, z2 33, z2 34, z2 35, z2 36, z2 37, z2 38, z2 39, z2 40, z2 41, z2 42, z2 43, z2 44, z2 45, z2 46, z2 47, z2 48, z2 49, z2 50, z2 51, z2 52, z2 53, z2 54, z2 55, z2 56, z2 57, z2 58, z2 59, z2 60, z2 61, z2 62, z2 63, z2 64, z2 65, z2 66, z2 67, z2 68, z2 69, z2 70, z2 71, z2 72, z2 73, z2 74, z2 75, z2 76, z2 77, z2 78, z2 79, z2 80, z2 81, z2 82, z2 83, z2 84, z2 85, z2 86, z2 87, z2 88, z2 89, z2 90, z2 91, z2 92, z2 93, z2 94, z2 95, z2 96, z2 97, z2 98, z2 99, z2 100, z2 101, z2 102, z2 103, z2 104, z2 105, z2 106, z2 107, z2 108, z2 109, z2 110, z2 111, z2 112, z2 113, z2 114, z2 115, z2 116, z2 117, z2 118, z2 119, z2 120, z2 121, z2 122, z2 123, z2 124, z2 125, z2 126, z2 127, z2 128, z2 129, z2 130, z2 131, z2 132], defers := [] }) (by rfl) (fun z2 => ?_)
  have p0 := Bb.out.c0
  have p1 := Bb.out.c1
  have p2 := Bb.out.c2
  have p3 := Bb.out.c3
  have p4 := Bb.out.c4
  have plt := Bb.out.lt
  go_wp2_with fail
  clear p0 p1 p2 p3 p4 plt
  refine (shaped (dlgState _ _ _ _ _ lsB _ Vb.out HSN.out ⟨by decide, by decide, by decide, by decide⟩ 1 false (by decide +kernel) (by decide +kernel) (by decide +kernel) (by decide +kernel)) 4 0 1 1 2 rfl rfl rfl rfl rfl).mono ?_
  rintro ex w3 ⟨a30, c30, a31, c31, a32, c32, a33, c33, a34, c34, rfl, hv3, hb3⟩
  have HTn := hideG (HT.out.below hb3)
  have Bbn := hideG (Bb.out.below hb3)
  have Vbn := hideG (Vb.out.below hb3)
  have HBn := hideG (HB.out.trans ((hb3).mono HB.out.size))
  clear HT Bb Vb HB
  have HT := HTn
  clear HTn
  have Bb := Bbn
  clear Bbn
  have Vb := Vbn
  clear Vbn
  have HB := HBn
  clear HBn
  obtain ⟨X3, hX3⟩ : ∃ X, w3.alloc (.cells #[.slice a30 4 c30, .slice a31 0 c31, .slice a32 1 c32, .slice a33 1 c33, .slice a34 2 c34] 27) = X := ⟨_, rfl⟩
  have hz3 : Below w3.heap.size w3 X3 := by rw [← hX3]; exact alB _ _
  have HTn := hideG (HT.out.below hz3)
  have Bbn := hideG (Bb.out.below hz3)
  have Vbn := hideG (Vb.out.below hz3)
  have HBn := hideG (HB.out.trans ((hz3).mono HB.out.size))
  clear HT Bb Vb HB
  have HT := HTn
  clear HTn
  have Bb := Bbn
  clear Bbn
  have Vb := Vbn
  clear Vbn
  have HB := HBn
  clear HBn
  have HX3 := hideG hX3
  clear hX3 hz3 hv3 hb3
  go_upto_region 6 with fail
  rw [HX3.out]
  refine wp_slots (fun z3 => { tmps := #[z3 0, .slice (some ⟨w.heap.size + 1 + 1, 0, none⟩) 4 4, z3 2, z3 3, .int .i64 0, .pointer (some ⟨w2.heap.size, 0, none⟩), .int .i64 0, z3 7, .int .i64 9, z3 9, z3 10, z3 11, z3 12, z3 13, z3 14, z3 15, z3 16, z3 17, z3 18, z3 19, z3 20, z3 21, z3 22, z3 23, z3 24, z3 25, z3 26, z3 27, z3 28, z3 29, z3 30, z3 31, z3 32, z3 33, z3 34, z3 35, z3 36, z3 37, z3 38, z3 39, z3 40, z3 41, z3 42, z3 43, z3 44, z3 45, z3 46, z3 47, z3 48, z3 49, z3 50, z3 51, z3 52, z3 53, z3 54, z3 55, z3 56, z3 57, z3 58, z3 59, z3 60, z3 61, z3 62, z3 63, z3 64, z3 65, z3 66, z3 67, z3 68, z3 69, z3 70, z3 71, z3 72, z3 73, z3 74, z3 75, z3 76, z3 77, z3 78, z3 79, z3 80, z3 81, z3 82, z3 83, z3 84, z3 85, z3 86, z3 87, z3 88, z3 89, z3 90, z3 91, z3 92, z3 93, z3 94, z3 95, z3 96, z3 97, z3 98, z3 99, z3 100, z3 101, z3 102, z3 103, z3 104, z3 105, z3 106, z3 107, z3 108, z3 109, z3 110, z3 111, z3 112, z3 113, z3 114, z3 115, z3 116, z3 117, z3 118, z3 119, z3 120, z3 121, z3 122, z3 123, z3 124, z3 125, z3 126, z3 127, z3 128, z3 129, z3 130, z3 131, z3 132], defers := [] }) (by rfl) (fun z3 => ?_)
  have p0 := Bb.out.c0
  have p1 := Bb.out.c1
  have p2 := Bb.out.c2
  have p3 := Bb.out.c3
  have p4 := Bb.out.c4
  have plt := Bb.out.lt
  go_wp2_with fail
  clear p0 p1 p2 p3 p4 plt
  refine (shaped (dlgKind _ _ _ _ _ lsB _ Vb.out HSN.out ⟨by decide, by decide, by decide, by decide⟩ 3 false (by decide +kernel) (by decide +kernel) (by decide +kernel)) 4 0 1 1 2 rfl rfl rfl rfl rfl).mono ?_
  rintro ex w4 ⟨a40, c40, a41, c41, a42, c42, a43, c43, a44, c44, rfl, hv4, hb4⟩
  have HTn := hideG (HT.out.below hb4)
  have Bbn := hideG (Bb.out.below hb4)
  have Vbn := hideG (Vb.out.below hb4)
  have HBn := hideG (HB.out.trans ((hb4).mono HB.out.size))
  clear HT Bb Vb HB
  have HT := HTn
  clear HTn
  have Bb := Bbn
  clear Bbn
  have Vb := Vbn
  clear Vbn
  have HB := HBn
  clear HBn
  obtain ⟨X4, hX4⟩ : ∃ X, w4.alloc (.cells #[.slice a40 4 c40, .slice a41 0 c41, .slice a42 1 c42, .slice a43 1 c43, .slice a44 2 c44] 27) = X := ⟨_, rfl⟩
  have hz4 : Below w4.heap.size w4 X4 := by rw [← hX4]; exact alB _ _
  have HTn := hideG (HT.out.below hz4)
  have Bbn := hideG (Bb.out.below hz4)
  have Vbn := hideG (Vb.out.below hz4)
  have HBn := hideG (HB.out.trans ((hz4).mono HB.out.size))
  clear HT Bb Vb HB
  have HT := HTn
  clear HTn
  have Bb := Bbn
  clear Bbn
  have Vb := Vbn
  clear Vbn
  have HB := HBn
  clear HBn
  have HX4 := hideG hX4
  clear hX4 hz4 hv4 hb4
  go_upto_region 7 with fail
  rw [HX4.out]
  refine wp_slots (fun z4 => { tmps := #[z4 0, .slice (some ⟨w.heap.size + 1 + 1, 0, none⟩) 4 4, z4 2, z4 3, .int .i64 0, .pointer (some ⟨w2.heap.size, 0, none⟩), .int .i64 0, z4 7, .int .i64 9, z4 9, .int .i64 3, z4 11, z4 12, z4 13, z4 14, z4 15, z4 16, z4 17, z4 18, z4 19, z4 20, z4 21, z4 22, z4 23, z4 24, z4 25, z4 26, z4 27, z4 28, z4 29, z4 30, z4 31, z4 32, z4 33, z4 34, z4 35, z4 36, z4 37, z4 38, z4 39, z4 40, z4 41, z4 42, z4 43, z4 44, z4 45, z4 46, z4 47, z4 48, z4 49, z4 50, z4 51, z4 52, z4 53, z4 54, z4 55, z4 56, z4 57, z4 58, z4 59, z4 60, z4 61, z4 62, z4 63, z4 64, z4 65, z4 66, z4 67, z4 68, z4 69, z4 70, z4 71, z4 72, z4 73, z4 74, z4 75, z4 76, z4 77, z4 78, z4 79, z4 80, z4 81, z4 82, z4 83, z4 84, z4 85, z4 86, z4 87, z4 88, z4 89, z4 90, z4 91, z4 92, z4 93, z4 94, z4 95, z4 96, z4 97, z4 98, z4 99, z4 100, z4 101, z4 102, z4 103, z4 104, z4 105, z4 106, z4 107, z4 108, z4 109, z4 110, z4 111, z4 112, z4 113, z4 114, z4 115, z4 116, z4 117, z4 118, z4 119, z4 120, z4 121, z4 122, z4 123, z4 124, z4 125, z4 126, z4 127, z4 128, z4 129, z4 130, z4 131, z4 132], defers := [] }) (by rfl) (fun z4 => ?_)
  have p0 := Bb.out.c0
  have p1 := Bb.out.c1
  have p2 := Bb.out.c2
  have p3 := Bb.out.c3
  have p4 := Bb.out.c4
  have plt := Bb.out.lt
  go_wp2_with fail
  clear p0 p1 p2 p3 p4 plt
  refine (shaped (closeOk _ _ _ _ _ lsB _ Vb.out HSN.out ⟨by decide, by decide, by decide, by decide⟩ 1 (by decide) (by decide +kernel) (by decide +kernel) (by decide +kernel)) 4 0 0 1 1 rfl rfl rfl rfl rfl).mono ?_
  rintro ex w5 ⟨a50, c50, a51, c51, a52, c52, a53, c53, a54, c54, rfl, hv5, hb5⟩
  have HTn := hideG (HT.out.below hb5)
  have Bbn := hideG (Bb.out.below hb5)
  have Vbn := hideG (Vb.out.below hb5)
  have HBn := hideG (HB.out.trans ((hb5).mono HB.out.size))
  clear HT Bb Vb HB
  have HT := HTn
  clear HTn
  have Bb := Bbn
  clear Bbn
  have Vb := Vbn
  clear Vbn
  have HB := HBn
  clear HBn
  obtain ⟨X5, hX5⟩ : ∃ X, w5.alloc (.cells #[.slice a50 4 c50, .slice a51 0 c51, .slice a52 0 c52, .slice a53 1 c53, .slice a54 1 c54] 27) = X := ⟨_, rfl⟩
  have hz5 : Below w5.heap.size w5 X5 := by rw [← hX5]; exact alB _ _
  have HTn := hideG (HT.out.below hz5)
  have Bbn := hideG (Bb.out.below hz5)
  have Vbn := hideG (Vb.out.below hz5)
  have HBn := hideG (HB.out.trans ((hz5).mono HB.out.size))
  clear HT Bb Vb HB
  have HT := HTn
  clear HTn
  have Bb := Bbn
  clear Bbn
  have Vb := Vbn
  clear Vbn
  have HB := HBn
  clear HBn
  have HX5 := hideG hX5
  have Bc := hideG (show BoxV X5 w5.heap.size (.slice a50 4 c50) (.slice a51 0 c51) (.slice a52 0 c52) (.slice a53 1 c53) (.slice a54 1 c54) by rw [← hX5]; exact BoxV.new _ _ _ _ _ _ _)
  have Vc := hideG (hv5.below hz5)
  clear hX5 hz5 hv5 hb5
  go_upto_region 8 with fail
  rw [HX5.out]
  refine wp_slots (fun z5 => { tmps := #[z5 0, .slice (some ⟨w.heap.size + 1 + 1, 0, none⟩) 4 4, z5 2, z5 3, .int .i64 0, .pointer (some ⟨w2.heap.size, 0, none⟩), .int .i64 0, z5 7, .int .i64 9, z5 9, .int .i64 3, .pointer (some ⟨w5.heap.size, 0, none⟩), .int .i64 0, z5 13, z5 14, z5 15, z5 16, z5 17, z5 18, z5 19, z5 20, z5 21, z5 22, z5 23, z5 24, z5 25, z5 26, z5 27, z5 28, z5 29, z5 30, z5 31, z5 32, z5 33, z5 34, z5 35, z5 36, z5 37, z5 38, z5 39, z5 40, z5 41, z5 42, z5 43, z5 44, z5 45, z5 46, z5 47, z5 48, z5 49, z5 50, z5 51, z5 52, z5 53, z5 54, z5 55, z5 56, z5 57, z5 58, z5 59, z5 60, z5 61, z5 62, z5 63, z5 64, z5 65, z5 66, z5 67, z5 68, z5 69, z5 70, z5 71, z5 72, z5 73, z5 74, z5 75, z5 76, z5 77, z5 78, z5 79, z5 80, z5 81, z5 82, z5 83, z5 84, z5 85, z5 86, z5 87, z5 88, z5 89, z5 90, z5 91, z5 92, z5 93, z5 94, z5 95, z5 96, z5 97, z5 98, z5 99, z5 100, z5 101, z5 102, z5 103, z5 104, z5 105, z5 106, z5 107, z5 108, z5 109, z5 110, z5 111, z5 112, z5 113, z5 114, z5 115, z5 116, z5 117, z5 118, z5 119, z5 120, z5 121, z5 122, z5 123, z5 124, z5 125, z5 126, z5 127, z5 128, z5 129, z5 130, z5 131, z5 132], defers := [] }) (by rfl) (fun z5 => ?_)
  go_wp2_with fail
  have HY5 := hideG ((alB X5 (.cells #[.int .i64 3, .int .i64 1] 3)).trans ((alB (X5.alloc (.cells #[.int .i64 3, .int .i64 1] 3)) (.cells #[.int .i64 3, .int .i64 1] 3)).mono (by simp)))
  have HVF := hideG (show ViewAt ((X5.alloc (.cells #[.int .i64 3, .int .i64 1] 3)).alloc (.cells #[.int .i64 3, .int .i64 1] 3)) (.slice (some ⟨w.heap.size + 2, 0, none⟩) 4 4) (.slice none 0 0) (.slice (some ⟨X5.heap.size, 0, none⟩) 2 2) (.slice none 0 0) (.slice (some ⟨(X5.alloc (.cells #[.int .i64 3, .int .i64 1] 3)).heap.size, 0, none⟩) 2 2) lsF from ⟨HT.out.below HY5.out, ints_none _, (ints_lit [3, 1] (World.alloc_heap_new X5 _) rfl).below (alB _ _), shs_none _, ints_lit [3, 1] (World.alloc_heap_new _ _) rfl⟩)
  have HC6 := hideG (shapedF (fixOk _ _ _ _ _ lsF _ HVF.out HSN.out ⟨by decide, by decide, by decide, by decide⟩ (by decide +kernel) (by decide)) 4 0 1 0 1 1 rfl (by decide +kernel) (by decide +kernel) (by decide +kernel) (by decide +kernel) (by decide +kernel))
  simp only [World.size_alloc] at HC6
  clear HVF
  refine HC6.out.mono ?_
  rintro ex w6 ⟨a60, c60, a61, c61, a62, c62, a63, c63, a64, c64, ga, gc, rfl, hv6, hg6, hb6⟩
  replace hb6 := HY5.out.trans (hb6.mono (by omega))
  have HG := hideG (show IntsAt w6 (.slice ga 1 gc) [3] by rw [show fixG lsF = [3] by decide +kernel] at hg6; exact hg6)
  clear HC6 HY5 hg6
  have HTn := hideG (HT.out.below hb6)
  have Bbn := hideG (Bb.out.below hb6)
  have Vbn := hideG (Vb.out.below hb6)
  have Bcn := hideG (Bc.out.below hb6)
  have Vcn := hideG (Vc.out.below hb6)
  have HBn := hideG (HB.out.trans ((hb6).mono HB.out.size))
  clear HT Bb Vb Bc Vc HB
  have HT := HTn
  clear HTn
  have Bb := Bbn
  clear Bbn
  have Vb := Vbn
  clear Vbn
  have Bc := Bcn
  clear Bcn
  have Vc := Vcn
  clear Vcn
  have HB := HBn
  clear HBn
  have Ob := Bb
  obtain ⟨X6, hX6⟩ : ∃ X, w6.alloc (.cells #[.slice a60 4 c60, .slice a61 0 c61, .slice a62 1 c62, .slice a63 0 c63, .slice a64 1 c64] 27) = X := ⟨_, rfl⟩
  have hz6 : Below w6.heap.size w6 X6 := by rw [← hX6]; exact alB _ _
  have HTn := hideG (HT.out.below hz6)
  have Bbn := hideG (Bb.out.below hz6)
  have Vbn := hideG (Vb.out.below hz6)
  have Bcn := hideG (Bc.out.below hz6)
  have Vcn := hideG (Vc.out.below hz6)
  have HGn := hideG (HG.out.below hz6)
  have HBn := hideG (HB.out.trans ((hz6).mono HB.out.size))
  clear HT Bb Vb Bc Vc HG HB
  have HT := HTn
  clear HTn
  have Bb := Bbn
  clear Bbn
  have Vb := Vbn
  clear Vbn
  have Bc := Bcn
  clear Bcn
  have Vc := Vcn
  clear Vcn
  have HG := HGn
  clear HGn
  have HB := HBn
  clear HBn
  have HX6 := hideG hX6
  have Bk := hideG (show BoxV X6 w6.heap.size (.slice a60 4 c60) (.slice a61 0 c61) (.slice a62 1 c62) (.slice a63 0 c63) (.slice a64 1 c64) by rw [← hX6]; exact BoxV.new _ _ _ _ _ _ _)
  have Vk := hideG (hv6.below hz6)
  clear hX6 hz6 hv6 hb6
  have HSX := hideG (show X6.heap.size = w6.heap.size + 1 by rw [← HX6.out]; simp)
  have p0 := Ob.out.c0
  have p1 := Ob.out.c1
  have p2 := Ob.out.c2
  have p3 := Ob.out.c3
  have p4 := Ob.out.c4
  have plt := Ob.out.lt
  go_wp2_with fail
  rw [HX6.out]
  clear p0 p1 p2 p3 p4 plt
  have HLIT := hideG (show IntsAt (X6.alloc (.cells #[.int .i64 1, .int .i64 2] 3)) (.slice (some ⟨w6.heap.size + 1, 0, none⟩) 2 2) [1, 2] by have := ints_lit [1, 2] (World.alloc_heap_new X6 (.cells #[.int .i64 1, .int .i64 2] 3)) rfl; rw [HSX.out] at this; exact this)
  refine (lints [1, 2] [1, 2] true (by decide) (by decide) _ _ _ ((show IntsAt X6 _ [1, 2] from Vb.out.top).below (alB _ _)) HLIT.out).mono ?_
  rintro ex w7 ⟨rfl, hb7⟩
  have hz7 := (alB X6 (.cells #[.int .i64 1, .int .i64 2] 3)).trans (hb7.mono (by simp))
  clear hb7
  have HTn := hideG (HT.out.below hz7)
  have Bbn := hideG (Bb.out.below hz7)
  have Vbn := hideG (Vb.out.below hz7)
  have Bcn := hideG (Bc.out.below hz7)
  have Vcn := hideG (Vc.out.below hz7)
  have HGn := hideG (HG.out.below hz7)
  have Bkn := hideG (Bk.out.below hz7)
  have Vkn := hideG (Vk.out.below hz7)
  have HBn := hideG (HB.out.trans ((hz7).mono HB.out.size))
  clear HT Bb Vb Bc Vc HG Bk Vk HB
  have HT := HTn
  clear HTn
  have Bb := Bbn
  clear Bbn
  have Vb := Vbn
  clear Vbn
  have Bc := Bcn
  clear Bcn
  have Vc := Vcn
  clear Vcn
  have HG := HGn
  clear HGn
  have Bk := Bkn
  clear Bkn
  have Vk := Vkn
  clear Vkn
  have HB := HBn
  clear HBn
  clear hz7
  have p0 := Bb.out.c0
  have p1 := Bb.out.c1
  have p2 := Bb.out.c2
  have p3 := Bb.out.c3
  have p4 := Bb.out.c4
  have plt := Bb.out.lt
  go_wp2_with fail
  clear p0 p1 p2 p3 p4 plt
  refine (Calls.mono (callsIn_wide.1 (highOk_in _ _ _ _ _ lsB _ Vb.out HSN.out ⟨by decide, by decide, by decide, by decide⟩ (by decide +kernel))) (fun _ _ h => (⟨h.1.trans (by rw [show highV lsB = 1 by decide +kernel]), h.2⟩ : _ = Ending.returned (.int .i64 1) ∧ _))).mono ?_
  rintro ex w8 ⟨rfl, hb8⟩
  have HTn := hideG (HT.out.below hb8)
  have Bbn := hideG (Bb.out.below hb8)
  have Vbn := hideG (Vb.out.below hb8)
  have Bcn := hideG (Bc.out.below hb8)
  have Vcn := hideG (Vc.out.below hb8)
  have HGn := hideG (HG.out.below hb8)
  have Bkn := hideG (Bk.out.below hb8)
  have Vkn := hideG (Vk.out.below hb8)
  have HBn := hideG (HB.out.trans ((hb8).mono HB.out.size))
  clear HT Bb Vb Bc Vc HG Bk Vk HB
  have HT := HTn
  clear HTn
  have Bb := Bbn
  clear Bbn
  have Vb := Vbn
  clear Vbn
  have Bc := Bcn
  clear Bcn
  have Vc := Vcn
  clear Vcn
  have HG := HGn
  clear HGn
  have Bk := Bkn
  clear Bkn
  have Vk := Vkn
  clear Vkn
  have HB := HBn
  clear HBn
  clear hb8
  have p0 := Bc.out.c0
  have p1 := Bc.out.c1
  have p2 := Bc.out.c2
  have p3 := Bc.out.c3
  have p4 := Bc.out.c4
  have plt := Bc.out.lt
  go_wp2_with fail
  clear p0 p1 p2 p3 p4 plt
  refine (lints [2] [2] true (by decide) (by decide) _ _ _ ((show IntsAt w8 _ [2] from Vc.out.top).below (alB _ _)) (ints_lit [2] (World.alloc_heap_new w8 (.cells #[.int .i64 2] 3)) rfl)).mono ?_
  rintro ex w9 ⟨rfl, hb9⟩
  have hz9 := (alB w8 (.cells #[.int .i64 2] 3)).trans (hb9.mono (by simp))
  clear hb9
  have HTn := hideG (HT.out.below hz9)
  have Bbn := hideG (Bb.out.below hz9)
  have Vbn := hideG (Vb.out.below hz9)
  have Bcn := hideG (Bc.out.below hz9)
  have Vcn := hideG (Vc.out.below hz9)
  have HGn := hideG (HG.out.below hz9)
  have Bkn := hideG (Bk.out.below hz9)
  have Vkn := hideG (Vk.out.below hz9)
  have HBn := hideG (HB.out.trans ((hz9).mono HB.out.size))
  clear HT Bb Vb Bc Vc HG Bk Vk HB
  have HT := HTn
  clear HTn
  have Bb := Bbn
  clear Bbn
  have Vb := Vbn
  clear Vbn
  have Bc := Bcn
  clear Bcn
  have Vc := Vcn
  clear Vcn
  have HG := HGn
  clear HGn
  have Bk := Bkn
  clear Bkn
  have Vk := Vkn
  clear Vkn
  have HB := HBn
  clear HBn
  clear hz9
  have p0 := Bc.out.c0
  have p1 := Bc.out.c1
  have p2 := Bc.out.c2
  have p3 := Bc.out.c3
  have p4 := Bc.out.c4
  have plt := Bc.out.lt
  go_wp2_with fail
  clear p0 p1 p2 p3 p4 plt
  refine (Calls.mono (callsIn_wide.1 (highOk_in _ _ _ _ _ lsC _ Vc.out HSN.out ⟨by decide, by decide, by decide, by decide⟩ (by decide +kernel))) (fun _ _ h => (⟨h.1.trans (by rw [show highV lsC = -1 by decide +kernel]), h.2⟩ : _ = Ending.returned (.int .i64 (-1)) ∧ _))).mono ?_
  rintro ex w10 ⟨rfl, hb10⟩
  have HTn := hideG (HT.out.below hb10)
  have Bbn := hideG (Bb.out.below hb10)
  have Vbn := hideG (Vb.out.below hb10)
  have Bcn := hideG (Bc.out.below hb10)
  have Vcn := hideG (Vc.out.below hb10)
  have HGn := hideG (HG.out.below hb10)
  have Bkn := hideG (Bk.out.below hb10)
  have Vkn := hideG (Vk.out.below hb10)
  have HBn := hideG (HB.out.trans ((hb10).mono HB.out.size))
  clear HT Bb Vb Bc Vc HG Bk Vk HB
  have HT := HTn
  clear HTn
  have Bb := Bbn
  clear Bbn
  have Vb := Vbn
  clear Vbn
  have Bc := Bcn
  clear Bcn
  have Vc := Vcn
  clear Vcn
  have HG := HGn
  clear HGn
  have Bk := Bkn
  clear Bkn
  have Vk := Vkn
  clear Vkn
  have HB := HBn
  clear HBn
  clear hb10
  clear Bc Vc
  go_wp2_with fail
  refine (lints [3] [3] true (by decide) (by decide) _ _ _ ((HG.out).below (alB _ _)) (ints_lit [3] (World.alloc_heap_new w10 (.cells #[.int .i64 3] 3)) rfl)).mono ?_
  rintro ex w11 ⟨rfl, hb11⟩
  have hz11 := (alB w10 (.cells #[.int .i64 3] 3)).trans (hb11.mono (by simp))
  clear hb11
  have HTn := hideG (HT.out.below hz11)
  have Bbn := hideG (Bb.out.below hz11)
  have Vbn := hideG (Vb.out.below hz11)
  have HGn := hideG (HG.out.below hz11)
  have Bkn := hideG (Bk.out.below hz11)
  have Vkn := hideG (Vk.out.below hz11)
  have HBn := hideG (HB.out.trans ((hz11).mono HB.out.size))
  clear HT Bb Vb HG Bk Vk HB
  have HT := HTn
  clear HTn
  have Bb := Bbn
  clear Bbn
  have Vb := Vbn
  clear Vbn
  have HG := HGn
  clear HGn
  have Bk := Bkn
  clear Bkn
  have Vk := Vkn
  clear Vkn
  have HB := HBn
  clear HBn
  clear hz11
  clear HG
  have p0 := Bk.out.c0
  have p1 := Bk.out.c1
  have p2 := Bk.out.c2
  have p3 := Bk.out.c3
  have p4 := Bk.out.c4
  have plt := Bk.out.lt
  go_wp2_with fail
  clear p0 p1 p2 p3 p4 plt
  refine (lints [1] [1] true (by decide) (by decide) _ _ _ ((show IntsAt w11 _ [1] by have := Vk.out.top; rw [show (fixL lsF).top = [1] by decide +kernel] at this; exact this).below (alB _ _)) (ints_lit [1] (World.alloc_heap_new w11 (.cells #[.int .i64 1] 3)) rfl)).mono ?_
  rintro ex w12 ⟨rfl, hb12⟩
  have hz12 := (alB w11 (.cells #[.int .i64 1] 3)).trans (hb12.mono (by simp))
  clear hb12
  have HTn := hideG (HT.out.below hz12)
  have Bbn := hideG (Bb.out.below hz12)
  have Vbn := hideG (Vb.out.below hz12)
  have Bkn := hideG (Bk.out.below hz12)
  have Vkn := hideG (Vk.out.below hz12)
  have HBn := hideG (HB.out.trans ((hz12).mono HB.out.size))
  clear HT Bb Vb Bk Vk HB
  have HT := HTn
  clear HTn
  have Bb := Bbn
  clear Bbn
  have Vb := Vbn
  clear Vbn
  have Bk := Bkn
  clear Bkn
  have Vk := Vkn
  clear Vkn
  have HB := HBn
  clear HBn
  clear hz12
  clear Bk Vk
  have p0 := Bb.out.c0
  have p1 := Bb.out.c1
  have p2 := Bb.out.c2
  have p3 := Bb.out.c3
  have p4 := Bb.out.c4
  have plt := Bb.out.lt
  go_wp2_with fail
  clear p0 p1 p2 p3 p4 plt
  refine (Calls.mono (checkV_any _ _ _ _ _ lsB _ Vb.out HSN.out ⟨by decide, by decide, by decide, by decide⟩) (fun _ _ h => (⟨h.1.trans (by rw [show checkV lsB = 0 by decide +kernel]), h.2⟩ : _ = Ending.returned (.int .i64 0) ∧ _))).mono ?_
  rintro ex w13 ⟨rfl, hb13⟩
  have HTn := hideG (HT.out.below hb13)
  have Bbn := hideG (Bb.out.below hb13)
  have Vbn := hideG (Vb.out.below hb13)
  have HBn := hideG (HB.out.trans ((hb13).mono HB.out.size))
  clear HT Bb Vb HB
  have HT := HTn
  clear HTn
  have Bb := Bbn
  clear Bbn
  have Vb := Vbn
  clear Vbn
  have HB := HBn
  clear HBn
  clear hb13
  clear Bb Vb
  have HVE := hideG (show ViewAt (w13.alloc (.cells #[.int .i64 2] 3)) (.slice (some ⟨w.heap.size + 2, 0, none⟩) 4 4) (.slice (some ⟨w13.heap.size, 0, none⟩) 1 1) (.slice none 0 0) (.slice none 0 0) (.slice none 0 0) lsE from ⟨HT.out.below (alB _ _), ints_lit [2] (World.alloc_heap_new w13 _) rfl, ints_none _, shs_none _, ints_none _⟩)
  go_wp2_with fail
  refine (Calls.mono (checkV_any _ _ _ _ _ lsE _ HVE.out HSN.out ⟨by decide, by decide, by decide, by decide⟩) (fun _ _ h => (⟨h.1.trans (by rw [show checkV lsE = 9 by decide +kernel]), h.2⟩ : _ = Ending.returned (.int .i64 9) ∧ _))).mono ?_
  rintro ex w14 ⟨rfl, hb14⟩
  have hz14 := (alB w13 (.cells #[.int .i64 2] 3)).trans (hb14.mono (by simp))
  clear hb14 HVE
  have HTn := hideG (HT.out.below hz14)
  have HBn := hideG (HB.out.trans ((hz14).mono HB.out.size))
  clear HT HB
  have HT := HTn
  clear HTn
  have HB := HBn
  clear HBn
  clear hz14
  go_wp2_with fail
  refine (Calls.mono (checkV_any _ _ _ _ _ emptyV _ (emptyV_at w14) (sane_of (T := []) (by decide)) ⟨by decide, by decide, by decide, by decide⟩) (fun _ _ h => (⟨h.1.trans (by rw [show checkV emptyV = 1 by decide +kernel]), h.2⟩ : _ = Ending.returned (.int .i64 1) ∧ _))).mono ?_
  rintro ex w15 ⟨rfl, hb15⟩
  have HTn := hideG (HT.out.below hb15)
  have HBn := hideG (HB.out.trans ((hb15).mono HB.out.size))
  clear HT HB
  have HT := HTn
  clear HTn
  have HB := HBn
  clear HBn
  go_wp2_with fail
  go_ret
  exact ⟨rfl, HB.out⟩
end Go.Proofs.YtclhimodopgeoaaGreat

