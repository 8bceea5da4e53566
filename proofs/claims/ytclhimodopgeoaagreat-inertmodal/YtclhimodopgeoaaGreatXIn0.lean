/- Three cells in a box. -/
import Derived.Test.YtclhimodopgeoaaGreatXIn1
namespace Go.Proofs.YtclhimodopgeoaaGreat
open Go.RowKit

/-- Three cells in a box. -/
structure Box3 (w : World) (b : Nat) (x y z : Value) : Prop where
  c0 : w.cell? ⟨b, 0, none⟩ = some x
  c1 : w.cell? ⟨b, 1, none⟩ = some y
  c2 : w.cell? ⟨b, 2, none⟩ = some z
  f0 : w.frozen? ⟨b, 0, none⟩ = false
  f1 : w.frozen? ⟨b, 1, none⟩ = false
  f2 : w.frozen? ⟨b, 2, none⟩ = false
theorem Box3.of {W : World} {B : Nat} {x y z : Value} {t : TypeId} (h : W.heap[B]? = some (.cells #[x, y, z] t (0, 0))) : Box3 W B x y z := by
  constructor <;> simp [World.cell?, World.frozen?, h]
theorem Box3.new (w : World) (x y z : Value) (t : TypeId) : Box3 (w.alloc (.cells #[x, y, z] t)) w.heap.size x y z := Box3.of (World.alloc_heap_new w _)
theorem Box3.lt {w : World} {b : Nat} {x y z : Value} (h : Box3 w b x y z) : b < w.heap.size := below_of_cell h.c0
theorem Box3.block {w w' : World} {b : Nat} {x y z : Value} (h : Box3 w b x y z) (e : w'.heap[b]? = w.heap[b]?) : Box3 w' b x y z :=
  ⟨(World.cell?_of_block (a := ⟨b, 0, none⟩) e).trans h.c0, (World.cell?_of_block (a := ⟨b, 1, none⟩) e).trans h.c1, (World.cell?_of_block (a := ⟨b, 2, none⟩) e).trans h.c2,
   (World.frozen?_of_block (a := ⟨b, 0, none⟩) e).trans h.f0, (World.frozen?_of_block (a := ⟨b, 1, none⟩) e).trans h.f1, (World.frozen?_of_block (a := ⟨b, 2, none⟩) e).trans h.f2⟩
theorem Box3.below {w w' : World} {K b : Nat} {x y z : Value} (h : Box3 w b x y z) (hb : Below K w w') (hk : b < K) : Box3 w' b x y z := h.block (hb.block b hk)
theorem Box3.call {w w' : World} {b : Nat} {x y z : Value} (h : Box3 w b x y z) (hb : Below w.heap.size w w') : Box3 w' b x y z := h.below hb h.lt
theorem Box3.alloc {w : World} {b : Nat} {x y z : Value} (h : Box3 w b x y z) (o : Obj) : Box3 (w.alloc o) b x y z := h.call (alB w o)
theorem Box3.other {w : World} {b b' j : Nat} {x y z u : Value} (h : Box3 w b x y z) (hne : b ≠ b') : Box3 (w.setCell ⟨b', j, none⟩ u) b x y z := h.block (setc_block hne)
theorem Box3.grown {w w' : World} {b : Nat} {row : Option Nat} {x y z : Value} (h : Box3 w b x y z) (hg : w.grownBy w' row) (hne : some b ≠ row) : Box3 w' b x y z := h.block (hg.block b h.lt hne)
theorem Box3.set0 {w : World} {b : Nat} {x y z : Value} (h : Box3 w b x y z) (u : Value) : Box3 (w.setCell ⟨b, 0, none⟩ u) b u y z :=
  ⟨World.cell?_setCell_same' _ _ _ (by rw [h.c0]; rfl), set_other h.c1 (by decide), set_other h.c2 (by decide), by rw [World.frozen?_setCell]; exact h.f0, by rw [World.frozen?_setCell]; exact h.f1, by rw [World.frozen?_setCell]; exact h.f2⟩
theorem Box3.set1 {w : World} {b : Nat} {x y z : Value} (h : Box3 w b x y z) (u : Value) : Box3 (w.setCell ⟨b, 1, none⟩ u) b x u z :=
  ⟨set_other h.c0 (by decide), World.cell?_setCell_same' _ _ _ (by rw [h.c1]; rfl), set_other h.c2 (by decide), by rw [World.frozen?_setCell]; exact h.f0, by rw [World.frozen?_setCell]; exact h.f1, by rw [World.frozen?_setCell]; exact h.f2⟩
theorem Box3.set2 {w : World} {b : Nat} {x y z : Value} (h : Box3 w b x y z) (u : Value) : Box3 (w.setCell ⟨b, 2, none⟩ u) b x y u :=
  ⟨set_other h.c0 (by decide), set_other h.c1 (by decide), World.cell?_setCell_same' _ _ _ (by rw [h.c2]; rfl), by rw [World.frozen?_setCell]; exact h.f0, by rw [World.frozen?_setCell]; exact h.f1, by rw [World.frozen?_setCell]; exact h.f2⟩
/-- A struct stored whole. -/
def set3 (U : World) (R : Nat) (x y z : Value) : World := ((U.setCell ⟨R, 0, none⟩ x).setCell ⟨R, 1, none⟩ y).setCell ⟨R, 2, none⟩ z
theorem Box3.set {w : World} {b : Nat} {x y z : Value} (h : Box3 w b x y z) (x' y' z' : Value) : Box3 (set3 w b x' y' z') b x' y' z' := ((h.set0 x').set1 y').set2 z'
theorem Box3.setOther {w : World} {b b' : Nat} {x y z : Value} (h : Box3 w b x y z) (hne : b ≠ b') (x' y' z' : Value) : Box3 (set3 w b' x' y' z') b x y z := ((h.other hne).other hne).other hne
theorem set3_below {w U : World} {R B : Nat} {x y z : Value} (h : Below B w U) (hR : B ≤ R) : Below B w (set3 U R x y z) := ((h.setCell (p := ⟨R, 0, none⟩) hR _).setCell (p := ⟨R, 1, none⟩) hR _).setCell (p := ⟨R, 2, none⟩) hR _
theorem set3_size (U : World) (R : Nat) (x y z : Value) : (set3 U R x y z).heap.size = U.heap.size := by simp [set3]

end Go.Proofs.YtclhimodopgeoaaGreat

