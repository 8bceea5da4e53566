/- live of package limelightlaw12. -/
import Derived.Test.YtclhimodopgeoaaGreatTC9
import Derived.Test.YtclhimodopgeoaaGreatXIn4
namespace Go.Proofs.YtclhimodopgeoaaGreat
open Go.RowKit

def ls12 : List Nd := [⟨0, 0, -1, [1, 3], -1, -1, []⟩, ⟨1, 0, 0, [2], -1, -1, [(3, 0)]⟩, ⟨1, 2, 1, [4], -1, -1, []⟩, ⟨1, 2, 0, [], -1, -1, []⟩, ⟨1, 0, 2, [], -1, -1, []⟩]
def ls12rows (s : Nat) : List (Nd × Value × Value) := [(⟨0, 0, -1, [1, 3], -1, -1, []⟩, .slice (some ⟨s + 0, 0, none⟩) 2 2, .slice none 0 0), (⟨1, 0, 0, [2], -1, -1, [(3, 0)]⟩, .slice (some ⟨s + 1, 0, none⟩) 1 1, .slice (some ⟨s + 2, 0, none⟩) 1 1), (⟨1, 2, 1, [4], -1, -1, []⟩, .slice (some ⟨s + 3, 0, none⟩) 1 1, .slice none 0 0), (⟨1, 2, 0, [], -1, -1, []⟩, .slice none 0 0, .slice none 0 0), (⟨1, 0, 2, [], -1, -1, []⟩, .slice none 0 0, .slice none 0 0)]
def ls12objs (s : Nat) : List Obj := [.cells (intCells [1, 3]).toArray 3, .cells (intCells [2]).toArray 3, .cells (attrCells [(3, 0)]).toArray 60, .cells (intCells [4]).toArray 3, .cells (nodesL (ls12rows s)).toArray 57]
theorem ls12_tree (w : World) : TreeAt (allocs w (ls12objs w.heap.size)) (.slice (some ⟨w.heap.size + 4, 0, none⟩) 5 5) ls12 :=
  tree_lit (ls12rows w.heap.size) (allocs_at w _ 4 _ rfl) rfl (List.forall_mem_cons.mpr ⟨⟨ints_lit [1, 3] (allocs_at w _ 0 _ rfl) rfl, attrs_none _⟩, List.forall_mem_cons.mpr ⟨⟨ints_lit [2] (allocs_at w _ 1 _ rfl) rfl, attrs_lit [(3, 0)] (allocs_at w _ 2 _ rfl) rfl⟩, List.forall_mem_cons.mpr ⟨⟨ints_lit [4] (allocs_at w _ 3 _ rfl) rfl, attrs_none _⟩, List.forall_mem_cons.mpr ⟨⟨ints_none _, attrs_none _⟩, List.forall_mem_cons.mpr ⟨⟨ints_none _, attrs_none _⟩, fun p h => by cases h⟩⟩⟩⟩⟩)

def lsA12 : Vw := ⟨ls12, [], [], [], []⟩
def lsB12 : Vw := ⟨ls12, [], [2], [], [2]⟩
def lsC12 : Vw := ⟨ls12, [], [2, 3], [], [2, 3]⟩
theorem iallL {V : Vw} {l : List Int} {n : Nat} (h : allV V = l) (hn : l.length = n) (tv ov mv pv qv : Value) (w : World) (hV : ViewAt w tv ov mv pv qv V) (hS : Sane V.tree) (hl : smallL V) :
    Calls Tryz.prog 57 #[.agg #[tv, ov, mv, pv, qv]] w fun e w' => ∃ a c, e = .returned (.slice a n c) ∧ IntsAt w' (.slice a n c) l ∧ Below w.heap.size w w' := by
  subst h hn
  exact iall_any tv ov mv pv qv V w hV hS hl
theorem iblL {V : Vw} {n : Int} {b : Bool} (h : (knownV V n && blockedB (highV V) (upI6 V.tree n.toNat)) = b) (tv ov mv pv qv : Value) (w : World) (hV : ViewAt w tv ov mv pv qv V) (hS : Sane V.tree) (hl : smallL V) :
    Calls Tryz.prog 56 #[.agg #[tv, ov, mv, pv, qv], .int .i64 n] w fun e w' => e = .returned (.bool b) ∧ Below w.heap.size w w' := by
  subst h
  exact iblocked_any tv ov mv pv qv V n w hV hS hl
theorem iisL {V : Vw} {n : Int} {b : Bool} (h : (knownV V n && inB V n.toNat) = b) (tv ov mv pv qv : Value) (w : World) (hV : ViewAt w tv ov mv pv qv V) (hS : Sane V.tree) (hl : smallL V) :
    Calls Tryz.prog 55 #[.agg #[tv, ov, mv, pv, qv], .int .i64 n] w fun e w' => e = .returned (.bool b) ∧ Below w.heap.size w w' := by
  subst h
  exact iis_any tv ov mv pv qv V n w hV hS hl
set_option maxRecDepth 100000 in
set_option maxHeartbeats 8000000 in
theorem live12_any (w : World) : Calls Tryz.prog 54 #[] w fun e w' => e = .returned (.bool true) ∧ Below w.heap.size w w' := by
  have HSN := hideG (sane_of (T := ls12) (by decide))
  have HT := hideG (show TreeAt (allocs w (ls12objs w.heap.size)) (.slice (some ⟨w.heap.size + 1 + 1 + 1 + 1, 0, none⟩) 5 5) ls12 from ls12_tree w)
  have HB := hideG (allocs_below w (ls12objs w.heap.size))
  obtain ⟨W5, h5⟩ : ∃ W5, allocs w (ls12objs w.heap.size) = W5 := ⟨_, rfl⟩
  have zW5 : W5.heap.size = w.heap.size + 1 + 1 + 1 + 1 + 1 := by rw [← h5]; simp [allocs, ls12objs]
  rw [h5] at HT HB
  obtain ⟨XA, hXA⟩ : ∃ X, W5.alloc (.cells #[.slice (some ⟨w.heap.size + 1 + 1 + 1 + 1, 0, none⟩) 5 5, .slice none 0 0, .slice none 0 0, .slice none 0 0, .slice none 0 0] 27) = X := ⟨_, rfl⟩
  have zXA : XA.heap.size = w.heap.size + 1 + 1 + 1 + 1 + 1 + 1 := by rw [← hXA, World.size_alloc, zW5]
  have hbXA : Below W5.heap.size W5 XA := by rw [← hXA]; exact alB _ _
  have HTn := hideG (HT.out.below hbXA)
  clear HT
  have HT := HTn
  clear HTn
  have HBn := hideG (HB.out.trans (hbXA.mono HB.out.size))
  clear HB
  have HB := HBn
  clear HBn hbXA
  have BA := hideG (show BoxV XA (w.heap.size + 1 + 1 + 1 + 1 + 1) (.slice (some ⟨w.heap.size + 1 + 1 + 1 + 1, 0, none⟩) 5 5) (.slice none 0 0) (.slice none 0 0) (.slice none 0 0) (.slice none 0 0) by rw [← hXA, ← zW5]; exact BoxV.new _ _ _ _ _ _ _)
  obtain ⟨Y1, hY1⟩ : ∃ X, XA.alloc (.cells #[.int .i64 2] 3) = X := ⟨_, rfl⟩
  have zY1 : Y1.heap.size = w.heap.size + 1 + 1 + 1 + 1 + 1 + 1 + 1 := by rw [← hY1, World.size_alloc, zXA]
  have hbY1 : Below XA.heap.size XA Y1 := by rw [← hY1]; exact alB _ _
  have HTn := hideG (HT.out.below hbY1)
  clear HT
  have HT := HTn
  clear HTn
  have BAn := hideG (BA.out.below hbY1)
  clear BA
  have BA := BAn
  clear BAn
  have HBn := hideG (HB.out.trans (hbY1.mono HB.out.size))
  clear HB
  have HB := HBn
  clear HBn hbY1
  have IY1 := hideG (show IntsAt Y1 (.slice (some ⟨w.heap.size + 1 + 1 + 1 + 1 + 1 + 1, 0, none⟩) 1 1) [2] by rw [← hY1, show ((.slice (some ⟨w.heap.size + 1 + 1 + 1 + 1 + 1 + 1, 0, none⟩) 1 1) : Value) = .slice (some ⟨XA.heap.size, 0, none⟩) 1 1 by rw [zXA]]; exact ints_lit [2] (World.alloc_heap_new XA _) rfl)
  obtain ⟨Y2, hY2⟩ : ∃ X, Y1.alloc (.cells #[.int .i64 2] 3) = X := ⟨_, rfl⟩
  have zY2 : Y2.heap.size = w.heap.size + 1 + 1 + 1 + 1 + 1 + 1 + 1 + 1 := by rw [← hY2, World.size_alloc, zY1]
  have hbY2 : Below Y1.heap.size Y1 Y2 := by rw [← hY2]; exact alB _ _
  have HTn := hideG (HT.out.below hbY2)
  clear HT
  have HT := HTn
  clear HTn
  have BAn := hideG (BA.out.below hbY2)
  clear BA
  have BA := BAn
  clear BAn
  have IY1n := hideG (IY1.out.below hbY2)
  clear IY1
  have IY1 := IY1n
  clear IY1n
  have HBn := hideG (HB.out.trans (hbY2.mono HB.out.size))
  clear HB
  have HB := HBn
  clear HBn hbY2
  have IY2 := hideG (show IntsAt Y2 (.slice (some ⟨w.heap.size + 1 + 1 + 1 + 1 + 1 + 1 + 1, 0, none⟩) 1 1) [2] by rw [← hY2, show ((.slice (some ⟨w.heap.size + 1 + 1 + 1 + 1 + 1 + 1 + 1, 0, none⟩) 1 1) : Value) = .slice (some ⟨Y1.heap.size, 0, none⟩) 1 1 by rw [zY1]]; exact ints_lit [2] (World.alloc_heap_new Y1 _) rfl)
  obtain ⟨XB, hXB⟩ : ∃ X, Y2.alloc (.cells #[.slice (some ⟨w.heap.size + 1 + 1 + 1 + 1, 0, none⟩) 5 5, .slice none 0 0, .slice (some ⟨w.heap.size + 1 + 1 + 1 + 1 + 1 + 1, 0, none⟩) 1 1, .slice none 0 0, .slice (some ⟨w.heap.size + 1 + 1 + 1 + 1 + 1 + 1 + 1, 0, none⟩) 1 1] 27) = X := ⟨_, rfl⟩
  have zXB : XB.heap.size = w.heap.size + 1 + 1 + 1 + 1 + 1 + 1 + 1 + 1 + 1 := by rw [← hXB, World.size_alloc, zY2]
  have hbXB : Below Y2.heap.size Y2 XB := by rw [← hXB]; exact alB _ _
  have HTn := hideG (HT.out.below hbXB)
  clear HT
  have HT := HTn
  clear HTn
  have BAn := hideG (BA.out.below hbXB)
  clear BA
  have BA := BAn
  clear BAn
  have IY1n := hideG (IY1.out.below hbXB)
  clear IY1
  have IY1 := IY1n
  clear IY1n
  have IY2n := hideG (IY2.out.below hbXB)
  clear IY2
  have IY2 := IY2n
  clear IY2n
  have HBn := hideG (HB.out.trans (hbXB.mono HB.out.size))
  clear HB
  have HB := HBn
  clear HBn hbXB
  have BB := hideG (show BoxV XB (w.heap.size + 1 + 1 + 1 + 1 + 1 + 1 + 1 + 1) (.slice (some ⟨w.heap.size + 1 + 1 + 1 + 1, 0, none⟩) 5 5) (.slice none 0 0) (.slice (some ⟨w.heap.size + 1 + 1 + 1 + 1 + 1 + 1, 0, none⟩) 1 1) (.slice none 0 0) (.slice (some ⟨w.heap.size + 1 + 1 + 1 + 1 + 1 + 1 + 1, 0, none⟩) 1 1) by rw [← hXB, ← zY2]; exact BoxV.new _ _ _ _ _ _ _)
  obtain ⟨Y3, hY3⟩ : ∃ X, XB.alloc (.cells #[.int .i64 2, .int .i64 3] 3) = X := ⟨_, rfl⟩
  have zY3 : Y3.heap.size = w.heap.size + 1 + 1 + 1 + 1 + 1 + 1 + 1 + 1 + 1 + 1 := by rw [← hY3, World.size_alloc, zXB]
  have hbY3 : Below XB.heap.size XB Y3 := by rw [← hY3]; exact alB _ _
  have HTn := hideG (HT.out.below hbY3)
  clear HT
  have HT := HTn
  clear HTn
  have BAn := hideG (BA.out.below hbY3)
  clear BA
  have BA := BAn
  clear BAn
  have IY1n := hideG (IY1.out.below hbY3)
  clear IY1
  have IY1 := IY1n
  clear IY1n
  have IY2n := hideG (IY2.out.below hbY3)
  clear IY2
  have IY2 := IY2n
  clear IY2n
  have BBn := hideG (BB.out.below hbY3)
  clear BB
  have BB := BBn
  clear BBn
  have HBn := hideG (HB.out.trans (hbY3.mono HB.out.size))
  clear HB
  have HB := HBn
  clear HBn hbY3
  have IY3 := hideG (show IntsAt Y3 (.slice (some ⟨w.heap.size + 1 + 1 + 1 + 1 + 1 + 1 + 1 + 1 + 1, 0, none⟩) 2 2) [2, 3] by rw [← hY3, show ((.slice (some ⟨w.heap.size + 1 + 1 + 1 + 1 + 1 + 1 + 1 + 1 + 1, 0, none⟩) 2 2) : Value) = .slice (some ⟨XB.heap.size, 0, none⟩) 2 2 by rw [zXB]]; exact ints_lit [2, 3] (World.alloc_heap_new XB _) rfl)
  obtain ⟨Y4, hY4⟩ : ∃ X, Y3.alloc (.cells #[.int .i64 2, .int .i64 3] 3) = X := ⟨_, rfl⟩
  have zY4 : Y4.heap.size = w.heap.size + 1 + 1 + 1 + 1 + 1 + 1 + 1 + 1 + 1 + 1 + 1 := by rw [← hY4, World.size_alloc, zY3]
  have hbY4 : Below Y3.heap.size Y3 Y4 := by rw [← hY4]; exact alB _ _
  have HTn := hideG (HT.out.below hbY4)
  clear HT
  have HT := HTn
  clear HTn
  have BAn := hideG (BA.out.below hbY4)
  clear BA
  have BA := BAn
  clear BAn
  have IY1n := hideG (IY1.out.below hbY4)
  clear IY1
  have IY1 := IY1n
  clear IY1n
  have IY2n := hideG (IY2.out.below hbY4)
  clear IY2
  have IY2 := IY2n
  clear IY2n
  have BBn := hideG (BB.out.below hbY4)
  clear BB
  have BB := BBn
  clear BBn
  have IY3n := hideG (IY3.out.below hbY4)
  clear IY3
  have IY3 := IY3n
  clear IY3n
  have HBn := hideG (HB.out.trans (hbY4.mono HB.out.size))
  clear HB
  have HB := HBn
  clear HBn hbY4
  have IY4 := hideG (show IntsAt Y4 (.slice (some ⟨w.heap.size + 1 + 1 + 1 + 1 + 1 + 1 + 1 + 1 + 1 + 1, 0, none⟩) 2 2) [2, 3] by rw [← hY4, show ((.slice (some ⟨w.heap.size + 1 + 1 + 1 + 1 + 1 + 1 + 1 + 1 + 1 + 1, 0, none⟩) 2 2) : Value) = .slice (some ⟨Y3.heap.size, 0, none⟩) 2 2 by rw [zY3]]; exact ints_lit [2, 3] (World.alloc_heap_new Y3 _) rfl)
  obtain ⟨XC, hXC⟩ : ∃ X, Y4.alloc (.cells #[.slice (some ⟨w.heap.size + 1 + 1 + 1 + 1, 0, none⟩) 5 5, .slice none 0 0, .slice (some ⟨w.heap.size + 1 + 1 + 1 + 1 + 1 + 1 + 1 + 1 + 1, 0, none⟩) 2 2, .slice none 0 0, .slice (some ⟨w.heap.size + 1 + 1 + 1 + 1 + 1 + 1 + 1 + 1 + 1 + 1, 0, none⟩) 2 2] 27) = X := ⟨_, rfl⟩
  have zXC : XC.heap.size = w.heap.size + 1 + 1 + 1 + 1 + 1 + 1 + 1 + 1 + 1 + 1 + 1 + 1 := by rw [← hXC, World.size_alloc, zY4]
  have hbXC : Below Y4.heap.size Y4 XC := by rw [← hXC]; exact alB _ _
  have HTn := hideG (HT.out.below hbXC)
  clear HT
  have HT := HTn
  clear HTn
  have BAn := hideG (BA.out.below hbXC)
  clear BA
  have BA := BAn
  clear BAn
  have IY1n := hideG (IY1.out.below hbXC)
  clear IY1
  have IY1 := IY1n
  clear IY1n
  have IY2n := hideG (IY2.out.below hbXC)
  clear IY2
  have IY2 := IY2n
  clear IY2n
  have BBn := hideG (BB.out.below hbXC)
  clear BB
  have BB := BBn
  clear BBn
  have IY3n := hideG (IY3.out.below hbXC)
  clear IY3
  have IY3 := IY3n
  clear IY3n
  have IY4n := hideG (IY4.out.below hbXC)
  clear IY4
  have IY4 := IY4n
  clear IY4n
  have HBn := hideG (HB.out.trans (hbXC.mono HB.out.size))
  clear HB
  have HB := HBn
  clear HBn hbXC
  have BC := hideG (show BoxV XC (w.heap.size + 1 + 1 + 1 + 1 + 1 + 1 + 1 + 1 + 1 + 1 + 1) (.slice (some ⟨w.heap.size + 1 + 1 + 1 + 1, 0, none⟩) 5 5) (.slice none 0 0) (.slice (some ⟨w.heap.size + 1 + 1 + 1 + 1 + 1 + 1 + 1 + 1 + 1, 0, none⟩) 2 2) (.slice none 0 0) (.slice (some ⟨w.heap.size + 1 + 1 + 1 + 1 + 1 + 1 + 1 + 1 + 1 + 1, 0, none⟩) 2 2) by rw [← hXC, ← zY4]; exact BoxV.new _ _ _ _ _ _ _)
  have VA := hideG (show ViewAt XC (.slice (some ⟨w.heap.size + 1 + 1 + 1 + 1, 0, none⟩) 5 5) (.slice none 0 0) (.slice none 0 0) (.slice none 0 0) (.slice none 0 0) lsA12 from ⟨HT.out, ints_none _, ints_none _, shs_none _, ints_none _⟩)
  have VB := hideG (show ViewAt XC (.slice (some ⟨w.heap.size + 1 + 1 + 1 + 1, 0, none⟩) 5 5) (.slice none 0 0) (.slice (some ⟨w.heap.size + 1 + 1 + 1 + 1 + 1 + 1, 0, none⟩) 1 1) (.slice none 0 0) (.slice (some ⟨w.heap.size + 1 + 1 + 1 + 1 + 1 + 1 + 1, 0, none⟩) 1 1) lsB12 from ⟨HT.out, ints_none _, IY1.out, shs_none _, IY2.out⟩)
  have VC := hideG (show ViewAt XC (.slice (some ⟨w.heap.size + 1 + 1 + 1 + 1, 0, none⟩) 5 5) (.slice none 0 0) (.slice (some ⟨w.heap.size + 1 + 1 + 1 + 1 + 1 + 1 + 1 + 1 + 1, 0, none⟩) 2 2) (.slice none 0 0) (.slice (some ⟨w.heap.size + 1 + 1 + 1 + 1 + 1 + 1 + 1 + 1 + 1 + 1, 0, none⟩) 2 2) lsC12 from ⟨HT.out, ints_none _, IY3.out, shs_none _, IY4.out⟩)
  clear HT IY1 IY2 IY3 IY4
  have hX : ((((((((((((w.alloc (Obj.cells #[Value.int IntKind.i64 1, Value.int IntKind.i64 3] 3)).alloc (Obj.cells #[Value.int IntKind.i64 2] 3)).alloc (Obj.cells #[Value.int IntKind.i64 3, Value.int IntKind.i64 0] 60)).alloc (Obj.cells #[Value.int IntKind.i64 4] 3)).alloc (Obj.cells #[Value.int IntKind.i64 0, Value.int IntKind.i64 0, Value.int IntKind.i64 (-1), Value.slice (some { block := w.heap.size, off := 0 }) 2 2, Value.int IntKind.i64 (-1), Value.int IntKind.i64 (-1), Value.slice none 0 0, Value.int IntKind.i64 1, Value.int IntKind.i64 0, Value.int IntKind.i64 0, Value.slice (some { block := w.heap.size + 1, off := 0 }) 1 1, Value.int IntKind.i64 (-1), Value.int IntKind.i64 (-1), Value.slice (some { block := w.heap.size + 1 + 1, off := 0 }) 1 1, Value.int IntKind.i64 1, Value.int IntKind.i64 2, Value.int IntKind.i64 1, Value.slice (some { block := w.heap.size + 1 + 1 + 1, off := 0 }) 1 1, Value.int IntKind.i64 (-1), Value.int IntKind.i64 (-1), Value.slice none 0 0, Value.int IntKind.i64 1, Value.int IntKind.i64 2, Value.int IntKind.i64 0, Value.slice none 0 0, Value.int IntKind.i64 (-1), Value.int IntKind.i64 (-1), Value.slice none 0 0, Value.int IntKind.i64 1, Value.int IntKind.i64 0, Value.int IntKind.i64 2, Value.slice none 0 0, Value.int IntKind.i64 (-1), Value.int IntKind.i64 (-1), Value.slice none 0 0] 57)).alloc (Obj.cells #[Value.slice (some { block := w.heap.size + 1 + 1 + 1 + 1, off := 0 }) 5 5, Value.slice none 0 0, Value.slice none 0 0, Value.slice none 0 0, Value.slice none 0 0] 27)).alloc (Obj.cells #[Value.int IntKind.i64 2] 3)).alloc (Obj.cells #[Value.int IntKind.i64 2] 3)).alloc (Obj.cells #[Value.slice (some { block := w.heap.size + 1 + 1 + 1 + 1, off := 0 }) 5 5, Value.slice none 0 0, Value.slice (some { block := w.heap.size + 1 + 1 + 1 + 1 + 1 + 1, off := 0 }) 1 1, Value.slice none 0 0, Value.slice (some { block := w.heap.size + 1 + 1 + 1 + 1 + 1 + 1 + 1, off := 0 }) 1 1] 27)).alloc (Obj.cells #[Value.int IntKind.i64 2, Value.int IntKind.i64 3] 3)).alloc (Obj.cells #[Value.int IntKind.i64 2, Value.int IntKind.i64 3] 3)).alloc (Obj.cells #[Value.slice (some { block := w.heap.size + 1 + 1 + 1 + 1, off := 0 }) 5 5, Value.slice none 0 0, Value.slice (some { block := w.heap.size + 1 + 1 + 1 + 1 + 1 + 1 + 1 + 1 + 1, off := 0 }) 2 2, Value.slice none 0 0, Value.slice (some { block := w.heap.size + 1 + 1 + 1 + 1 + 1 + 1 + 1 + 1 + 1 + 1, off := 0 }) 2 2] 27)) = XC := by rw [← hXC, ← hY4, ← hY3, ← hXB, ← hY2, ← hY1, ← hXA, ← h5]; rfl
  have HX := hideG hX
  have HZ := hideG zXC
  clear hX hXC hY4 hY3 hXB hY2 hY1 hXA h5 zXC zY4 zY3 zXB zY2 zY1 zXA zW5
  go_enter Tryz.func54, Tryz.ntmps54
  go_wp2_with fail
  rw [HX.out]
  clear HX
  refine (iallL (V := lsA12) (l := [1, 2, 4]) (n := 3) (by decide +kernel) rfl _ _ _ _ _ _ VA.out HSN.out ⟨by decide, by decide, by decide, by decide⟩).mono ?_
  rintro e w1 ⟨a1, c1, rfl, hi1, hb1⟩
  have I1 := hideG hi1
  clear hi1
  have BAn := hideG (BA.out.below hb1)
  clear BA
  have BA := BAn
  clear BAn
  have BBn := hideG (BB.out.below hb1)
  clear BB
  have BB := BBn
  clear BBn
  have BCn := hideG (BC.out.below hb1)
  clear BC
  have BC := BCn
  clear BCn
  have VAn := hideG (VA.out.below hb1)
  clear VA
  have VA := VAn
  clear VAn
  have VBn := hideG (VB.out.below hb1)
  clear VB
  have VB := VBn
  clear VBn
  have VCn := hideG (VC.out.below hb1)
  clear VC
  have VC := VCn
  clear VCn
  have HBn := hideG (HB.out.trans ((hb1).mono HB.out.size))
  clear HB
  have HB := HBn
  clear HBn hb1
  have HL1 := hideG (ints_lit [1, 2, 4] (World.alloc_heap_new w1 (.cells #[.int .i64 1, .int .i64 2, .int .i64 4] 3)) rfl)
  go_wp2_with fail
  refine (refInts_any [1, 2, 4] [1, 2, 4] _ _ _ (I1.out.below (alB _ _)) HL1.out (by decide)).mono ?_
  rintro e v1 ⟨rfl, hc1⟩
  have hd1 := (alB w1 (.cells #[.int .i64 1, .int .i64 2, .int .i64 4] 3)).trans (hc1.mono (by simp))
  clear hc1 HL1 I1
  have BAn := hideG (BA.out.below hd1)
  clear BA
  have BA := BAn
  clear BAn
  have BBn := hideG (BB.out.below hd1)
  clear BB
  have BB := BBn
  clear BBn
  have BCn := hideG (BC.out.below hd1)
  clear BC
  have BC := BCn
  clear BCn
  have VAn := hideG (VA.out.below hd1)
  clear VA
  have VA := VAn
  clear VAn
  have VBn := hideG (VB.out.below hd1)
  clear VB
  have VB := VBn
  clear VBn
  have VCn := hideG (VC.out.below hd1)
  clear VC
  have VC := VCn
  clear VCn
  have HBn := hideG (HB.out.trans ((hd1).mono HB.out.size))
  clear HB
  have HB := HBn
  clear HBn hd1
  rw [show decide (([1, 2, 4] : List Int) = [1, 2, 4]) = true by decide]
  have p0 := BB.out.c0
  have p1 := BB.out.c1
  have p2 := BB.out.c2
  have p3 := BB.out.c3
  have p4 := BB.out.c4
  have plt := BB.out.lt
  go_wp2_with fail
  clear p0 p1 p2 p3 p4 plt
  refine (iallL (V := lsB12) (l := [1, 3]) (n := 2) (by decide +kernel) rfl _ _ _ _ _ _ VB.out HSN.out ⟨by decide, by decide, by decide, by decide⟩).mono ?_
  rintro e w2 ⟨a2, c2, rfl, hi2, hb2⟩
  have I2 := hideG hi2
  clear hi2
  have BAn := hideG (BA.out.below hb2)
  clear BA
  have BA := BAn
  clear BAn
  have BBn := hideG (BB.out.below hb2)
  clear BB
  have BB := BBn
  clear BBn
  have BCn := hideG (BC.out.below hb2)
  clear BC
  have BC := BCn
  clear BCn
  have VAn := hideG (VA.out.below hb2)
  clear VA
  have VA := VAn
  clear VAn
  have VBn := hideG (VB.out.below hb2)
  clear VB
  have VB := VBn
  clear VBn
  have VCn := hideG (VC.out.below hb2)
  clear VC
  have VC := VCn
  clear VCn
  have HBn := hideG (HB.out.trans ((hb2).mono HB.out.size))
  clear HB
  have HB := HBn
  clear HBn hb2
  have HL2 := hideG (ints_lit [1, 3] (World.alloc_heap_new w2 (.cells #[.int .i64 1, .int .i64 3] 3)) rfl)
  go_wp2_with fail
  refine (refInts_any [1, 3] [1, 3] _ _ _ (I2.out.below (alB _ _)) HL2.out (by decide)).mono ?_
  rintro e v2 ⟨rfl, hc2⟩
  have hd2 := (alB w2 (.cells #[.int .i64 1, .int .i64 3] 3)).trans (hc2.mono (by simp))
  clear hc2 HL2 I2
  have BAn := hideG (BA.out.below hd2)
  clear BA
  have BA := BAn
  clear BAn
  have BBn := hideG (BB.out.below hd2)
  clear BB
  have BB := BBn
  clear BBn
  have BCn := hideG (BC.out.below hd2)
  clear BC
  have BC := BCn
  clear BCn
  have VAn := hideG (VA.out.below hd2)
  clear VA
  have VA := VAn
  clear VAn
  have VBn := hideG (VB.out.below hd2)
  clear VB
  have VB := VBn
  clear VBn
  have VCn := hideG (VC.out.below hd2)
  clear VC
  have VC := VCn
  clear VCn
  have HBn := hideG (HB.out.trans ((hd2).mono HB.out.size))
  clear HB
  have HB := HBn
  clear HBn hd2
  rw [show decide (([1, 3] : List Int) = [1, 3]) = true by decide]
  have p0 := BC.out.c0
  have p1 := BC.out.c1
  have p2 := BC.out.c2
  have p3 := BC.out.c3
  have p4 := BC.out.c4
  have plt := BC.out.lt
  go_wp2_with fail
  clear p0 p1 p2 p3 p4 plt
  refine (iallL (V := lsC12) (l := [1, 2, 4]) (n := 3) (by decide +kernel) rfl _ _ _ _ _ _ VC.out HSN.out ⟨by decide, by decide, by decide, by decide⟩).mono ?_
  rintro e w3 ⟨a3, c3, rfl, hi3, hb3⟩
  have I3 := hideG hi3
  clear hi3
  have BAn := hideG (BA.out.below hb3)
  clear BA
  have BA := BAn
  clear BAn
  have BBn := hideG (BB.out.below hb3)
  clear BB
  have BB := BBn
  clear BBn
  have BCn := hideG (BC.out.below hb3)
  clear BC
  have BC := BCn
  clear BCn
  have VAn := hideG (VA.out.below hb3)
  clear VA
  have VA := VAn
  clear VAn
  have VBn := hideG (VB.out.below hb3)
  clear VB
  have VB := VBn
  clear VBn
  have VCn := hideG (VC.out.below hb3)
  clear VC
  have VC := VCn
  clear VCn
  have HBn := hideG (HB.out.trans ((hb3).mono HB.out.size))
  clear HB
  have HB := HBn
  clear HBn hb3
  have HL3 := hideG (ints_lit [1, 2, 4] (World.alloc_heap_new w3 (.cells #[.int .i64 1, .int .i64 2, .int .i64 4] 3)) rfl)
  go_wp2_with fail
  refine (refInts_any [1, 2, 4] [1, 2, 4] _ _ _ (I3.out.below (alB _ _)) HL3.out (by decide)).mono ?_
  rintro e v3 ⟨rfl, hc3⟩
  have hd3 := (alB w3 (.cells #[.int .i64 1, .int .i64 2, .int .i64 4] 3)).trans (hc3.mono (by simp))
  clear hc3 HL3 I3
  have BAn := hideG (BA.out.below hd3)
  clear BA
  have BA := BAn
  clear BAn
  have BBn := hideG (BB.out.below hd3)
  clear BB
  have BB := BBn
  clear BBn
  have BCn := hideG (BC.out.below hd3)
  clear BC
  have BC := BCn
  clear BCn
  have VAn := hideG (VA.out.below hd3)
  clear VA
  have VA := VAn
  clear VAn
  have VBn := hideG (VB.out.below hd3)
  clear VB
  have VB := VBn
  clear VBn
  have VCn := hideG (VC.out.below hd3)
  clear VC
  have VC := VCn
  clear VCn
  have HBn := hideG (HB.out.trans ((hd3).mono HB.out.size))
  clear HB
  have HB := HBn
  clear HBn hd3
  rw [show decide (([1, 2, 4] : List Int) = [1, 2, 4]) = true by decide]
  have p0 := BB.out.c0
  have p1 := BB.out.c1
  have p2 := BB.out.c2
  have p3 := BB.out.c3
  have p4 := BB.out.c4
  have plt := BB.out.lt
  go_wp2_with fail
  clear p0 p1 p2 p3 p4 plt
  refine (iblL (V := lsB12) (n := 3) (b := true) (by decide +kernel) _ _ _ _ _ _ VB.out HSN.out ⟨by decide, by decide, by decide, by decide⟩).mono ?_
  rintro e w4 ⟨rfl, hb4⟩
  have BAn := hideG (BA.out.below hb4)
  clear BA
  have BA := BAn
  clear BAn
  have BBn := hideG (BB.out.below hb4)
  clear BB
  have BB := BBn
  clear BBn
  have BCn := hideG (BC.out.below hb4)
  clear BC
  have BC := BCn
  clear BCn
  have VAn := hideG (VA.out.below hb4)
  clear VA
  have VA := VAn
  clear VAn
  have VBn := hideG (VB.out.below hb4)
  clear VB
  have VB := VBn
  clear VBn
  have VCn := hideG (VC.out.below hb4)
  clear VC
  have VC := VCn
  clear VCn
  have HBn := hideG (HB.out.trans ((hb4).mono HB.out.size))
  clear HB
  have HB := HBn
  clear HBn hb4
  have p0 := BB.out.c0
  have p1 := BB.out.c1
  have p2 := BB.out.c2
  have p3 := BB.out.c3
  have p4 := BB.out.c4
  have plt := BB.out.lt
  go_wp2_with fail
  clear p0 p1 p2 p3 p4 plt
  refine (iblL (V := lsB12) (n := 4) (b := false) (by decide +kernel) _ _ _ _ _ _ VB.out HSN.out ⟨by decide, by decide, by decide, by decide⟩).mono ?_
  rintro e w5 ⟨rfl, hb5⟩
  have BAn := hideG (BA.out.below hb5)
  clear BA
  have BA := BAn
  clear BAn
  have BBn := hideG (BB.out.below hb5)
  clear BB
  have BB := BBn
  clear BBn
  have BCn := hideG (BC.out.below hb5)
  clear BC
  have BC := BCn
  clear BCn
  have VAn := hideG (VA.out.below hb5)
  clear VA
  have VA := VAn
  clear VAn
  have VBn := hideG (VB.out.below hb5)
  clear VB
  have VB := VBn
  clear VBn
  have VCn := hideG (VC.out.below hb5)
  clear VC
  have VC := VCn
  clear VCn
  have HBn := hideG (HB.out.trans ((hb5).mono HB.out.size))
  clear HB
  have HB := HBn
  clear HBn hb5
  have p0 := BA.out.c0
  have p1 := BA.out.c1
  have p2 := BA.out.c2
  have p3 := BA.out.c3
  have p4 := BA.out.c4
  have plt := BA.out.lt
  go_wp2_with fail
  clear p0 p1 p2 p3 p4 plt
  refine (iblL (V := lsA12) (n := 1) (b := false) (by decide +kernel) _ _ _ _ _ _ VA.out HSN.out ⟨by decide, by decide, by decide, by decide⟩).mono ?_
  rintro e w6 ⟨rfl, hb6⟩
  have BAn := hideG (BA.out.below hb6)
  clear BA
  have BA := BAn
  clear BAn
  have BBn := hideG (BB.out.below hb6)
  clear BB
  have BB := BBn
  clear BBn
  have BCn := hideG (BC.out.below hb6)
  clear BC
  have BC := BCn
  clear BCn
  have VAn := hideG (VA.out.below hb6)
  clear VA
  have VA := VAn
  clear VAn
  have VBn := hideG (VB.out.below hb6)
  clear VB
  have VB := VBn
  clear VBn
  have VCn := hideG (VC.out.below hb6)
  clear VC
  have VC := VCn
  clear VCn
  have HBn := hideG (HB.out.trans ((hb6).mono HB.out.size))
  clear HB
  have HB := HBn
  clear HBn hb6
  have p0 := BA.out.c0
  have p1 := BA.out.c1
  have p2 := BA.out.c2
  have p3 := BA.out.c3
  have p4 := BA.out.c4
  have plt := BA.out.lt
  go_wp2_with fail
  clear p0 p1 p2 p3 p4 plt
  refine (iisL (V := lsA12) (n := 4) (b := true) (by decide +kernel) _ _ _ _ _ _ VA.out HSN.out ⟨by decide, by decide, by decide, by decide⟩).mono ?_
  rintro e w7 ⟨rfl, hb7⟩
  have BAn := hideG (BA.out.below hb7)
  clear BA
  have BA := BAn
  clear BAn
  have BBn := hideG (BB.out.below hb7)
  clear BB
  have BB := BBn
  clear BBn
  have BCn := hideG (BC.out.below hb7)
  clear BC
  have BC := BCn
  clear BCn
  have VAn := hideG (VA.out.below hb7)
  clear VA
  have VA := VAn
  clear VAn
  have VBn := hideG (VB.out.below hb7)
  clear VB
  have VB := VBn
  clear VBn
  have VCn := hideG (VC.out.below hb7)
  clear VC
  have VC := VCn
  clear VCn
  have HBn := hideG (HB.out.trans ((hb7).mono HB.out.size))
  clear HB
  have HB := HBn
  clear HBn hb7
  have p0 := BB.out.c0
  have p1 := BB.out.c1
  have p2 := BB.out.c2
  have p3 := BB.out.c3
  have p4 := BB.out.c4
  have plt := BB.out.lt
  go_wp2_with fail
  clear p0 p1 p2 p3 p4 plt
  refine (iisL (V := lsB12) (n := 4) (b := false) (by decide +kernel) _ _ _ _ _ _ VB.out HSN.out ⟨by decide, by decide, by decide, by decide⟩).mono ?_
  rintro e w8 ⟨rfl, hb8⟩
  have BAn := hideG (BA.out.below hb8)
  clear BA
  have BA := BAn
  clear BAn
  have BBn := hideG (BB.out.below hb8)
  clear BB
  have BB := BBn
  clear BBn
  have BCn := hideG (BC.out.below hb8)
  clear BC
  have BC := BCn
  clear BCn
  have VAn := hideG (VA.out.below hb8)
  clear VA
  have VA := VAn
  clear VAn
  have VBn := hideG (VB.out.below hb8)
  clear VB
  have VB := VBn
  clear VBn
  have VCn := hideG (VC.out.below hb8)
  clear VC
  have VC := VCn
  clear VCn
  have HBn := hideG (HB.out.trans ((hb8).mono HB.out.size))
  clear HB
  have HB := HBn
  clear HBn hb8
  have p0 := BB.out.c0
  have p1 := BB.out.c1
  have p2 := BB.out.c2
  have p3 := BB.out.c3
  have p4 := BB.out.c4
  have plt := BB.out.lt
  go_wp2_with fail
  clear p0 p1 p2 p3 p4 plt
  refine (iisL (V := lsB12) (n := 9) (b := false) (by decide +kernel) _ _ _ _ _ _ VB.out HSN.out ⟨by decide, by decide, by decide, by decide⟩).mono ?_
  rintro e w9 ⟨rfl, hb9⟩
  have BAn := hideG (BA.out.below hb9)
  clear BA
  have BA := BAn
  clear BAn
  have BBn := hideG (BB.out.below hb9)
  clear BB
  have BB := BBn
  clear BBn
  have BCn := hideG (BC.out.below hb9)
  clear BC
  have BC := BCn
  clear BCn
  have VAn := hideG (VA.out.below hb9)
  clear VA
  have VA := VAn
  clear VAn
  have VBn := hideG (VB.out.below hb9)
  clear VB
  have VB := VBn
  clear VBn
  have VCn := hideG (VC.out.below hb9)
  clear VC
  have VC := VCn
  clear VCn
  have HBn := hideG (HB.out.trans ((hb9).mono HB.out.size))
  clear HB
  have HB := HBn
  clear HBn hb9
  go_wp2_with fail
  go_ret
  exact ⟨rfl, HB.out⟩
end Go.Proofs.YtclhimodopgeoaaGreat

