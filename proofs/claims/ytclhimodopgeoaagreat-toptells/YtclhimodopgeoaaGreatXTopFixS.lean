/- What the document's Fix has laid so far: a box, and five rows. -/
import Derived.Test.YtclhimodopgeoaaGreatTB8
import Derived.Test.YtclhimodopgeoaaGreatXTopRows
namespace Go.Proofs.YtclhimodopgeoaaGreat
open Go.RowKit

section
variable {w : World} {b : Nat} {t o m p q v : Value}
theorem BoxO.put1 (h : BoxO w b t o m p q) : BoxO (w.setCell ⟨b, 1, none⟩ v) b t v m p q := heap_setCell_same w b 1 _ 27 v h
theorem BoxO.put2 (h : BoxO w b t o m p q) : BoxO (w.setCell ⟨b, 2, none⟩ v) b t o v p q := heap_setCell_same w b 2 _ 27 v h
theorem BoxO.put3 (h : BoxO w b t o m p q) : BoxO (w.setCell ⟨b, 3, none⟩ v) b t o m v q := heap_setCell_same w b 3 _ 27 v h
theorem BoxO.put4 (h : BoxO w b t o m p q) : BoxO (w.setCell ⟨b, 4, none⟩ v) b t o m p v := heap_setCell_same w b 4 _ 27 v h
end
structure FixS (W0 : World) (base bo : Nat) (t vO vM vP vT vG : Value) (O M : List Int) (P : List Sh) (T G : List Int) (wr : World) : Prop where
  rs : Rs wr base (v5 vO vM vP vT vG) (x5 O M P T G)
  box : BoxO wr bo t vO vM vP vT
  bel : Below W0.heap.size W0 wr
section
variable {W0 wr w1 w4 : World} {base bo : Nat} {t vO vM vP vT vG v' : Value} {O M : List Int} {P : List Sh} {T G : List Int} {y : Int}
theorem FixS.below (h : FixS W0 base bo t vO vM vP vT vG O M P T G wr) (hb : Below wr.heap.size wr w1) : FixS W0 base bo t vO vM vP vT vG O M P T G w1 :=
  ⟨h.rs.below hb, h.box.below hb, h.bel.trans (hb.mono h.bel.size)⟩
theorem FixS.kept (h : FixS W0 base bo t vO vM vP vT vG O M P T G wr) (hb : Below wr.heap.size wr w1) {i : Nat} (hi : i < 5) (hg : w1.grownBy w4 (v5 vO vM vP vT vG i).ownBlock) (hbase : W0.heap.size ≤ base) : BoxO w4 bo t vO vM vP vT ∧ Below W0.heap.size W0 w4 := by
  have h1 := h.below hb
  refine ⟨(hg.block bo h1.box.lt (fun e => h1.rs.ne h1.box x5_ty hi e.symm)).trans h1.box, h1.bel.grown hg h1.bel.size (fun j e => by have := ((h1.rs.own i hi).lt j e).1; omega)⟩
theorem set1_off {X : World} {k : Nat} {v : Value} : ∀ j, j ≠ bo → (X.setCell ⟨bo, k, none⟩ v).heap[j]? = X.heap[j]? := fun _ hj => setc_block hj
theorem FixS.app0 (h : FixS W0 base bo t vO vM vP vT vG O M P T G wr) (hbase : W0.heap.size ≤ base) (hbo : W0.heap.size ≤ bo) (hb : Below wr.heap.size wr w1) (ho4 : w4.ownsRow base 3 1 v' (O.length + 1) (intCells (O ++ [y]))) (hg : w1.grownBy w4 vO.ownBlock) (hf : ∀ k, v'.ownBlock = some k → vO.ownBlock = some k ∨ w1.heap.size ≤ k) : FixS W0 base bo t v' vM vP vT vG (O ++ [y]) M P T G (w4.setCell ⟨bo, 1, none⟩ v') := by
  obtain ⟨h1, h2⟩ := h.kept hb (i := 0) (by omega) hg hbase
  exact ⟨(h.rs.app0 hb ho4 hg hf).off h1 x5_ty set1_off, h1.put1, h2.setCell (p := ⟨bo, 1, none⟩) hbo _⟩
theorem FixS.app1 (h : FixS W0 base bo t vO vM vP vT vG O M P T G wr) (hbase : W0.heap.size ≤ base) (hbo : W0.heap.size ≤ bo) (hb : Below wr.heap.size wr w1) (ho4 : w4.ownsRow base 3 1 v' (M.length + 1) (intCells (M ++ [y]))) (hg : w1.grownBy w4 vM.ownBlock) (hf : ∀ k, v'.ownBlock = some k → vM.ownBlock = some k ∨ w1.heap.size ≤ k) : FixS W0 base bo t vO v' vP vT vG O (M ++ [y]) P T G (w4.setCell ⟨bo, 2, none⟩ v') := by
  obtain ⟨h1, h2⟩ := h.kept hb (i := 1) (by omega) hg hbase
  exact ⟨(h.rs.app1 hb ho4 hg hf).off h1 x5_ty set1_off, h1.put2, h2.setCell (p := ⟨bo, 2, none⟩) hbo _⟩
theorem FixS.app2 {z : Sh} (h : FixS W0 base bo t vO vM vP vT vG O M P T G wr) (hbase : W0.heap.size ≤ base) (hbo : W0.heap.size ≤ bo) (hb : Below wr.heap.size wr w1) (ho4 : w4.ownsRow base 39 2 v' (P.length + 1) (shCells (P ++ [z]))) (hg : w1.grownBy w4 vP.ownBlock) (hf : ∀ k, v'.ownBlock = some k → vP.ownBlock = some k ∨ w1.heap.size ≤ k) : FixS W0 base bo t vO vM v' vT vG O M (P ++ [z]) T G (w4.setCell ⟨bo, 3, none⟩ v') := by
  obtain ⟨h1, h2⟩ := h.kept hb (i := 2) (by omega) hg hbase
  exact ⟨(h.rs.app2 hb ho4 hg hf).off h1 x5_ty set1_off, h1.put3, h2.setCell (p := ⟨bo, 3, none⟩) hbo _⟩
theorem FixS.app3 (h : FixS W0 base bo t vO vM vP vT vG O M P T G wr) (hbase : W0.heap.size ≤ base) (hbo : W0.heap.size ≤ bo) (hb : Below wr.heap.size wr w1) (ho4 : w4.ownsRow base 3 1 v' (T.length + 1) (intCells (T ++ [y]))) (hg : w1.grownBy w4 vT.ownBlock) (hf : ∀ k, v'.ownBlock = some k → vT.ownBlock = some k ∨ w1.heap.size ≤ k) : FixS W0 base bo t vO vM vP v' vG O M P (T ++ [y]) G (w4.setCell ⟨bo, 4, none⟩ v') := by
  obtain ⟨h1, h2⟩ := h.kept hb (i := 3) (by omega) hg hbase
  exact ⟨(h.rs.app3 hb ho4 hg hf).off h1 x5_ty set1_off, h1.put4, h2.setCell (p := ⟨bo, 4, none⟩) hbo _⟩
theorem FixS.app4 (h : FixS W0 base bo t vO vM vP vT vG O M P T G wr) (hbase : W0.heap.size ≤ base) (hb : Below wr.heap.size wr w1) (ho4 : w4.ownsRow base 3 1 v' (G.length + 1) (intCells (G ++ [y]))) (hg : w1.grownBy w4 vG.ownBlock) (hf : ∀ k, v'.ownBlock = some k → vG.ownBlock = some k ∨ w1.heap.size ≤ k) : FixS W0 base bo t vO vM vP vT v' O M P T (G ++ [y]) w4 := by
  obtain ⟨h1, h2⟩ := h.kept hb (i := 4) (by omega) hg hbase
  exact ⟨h.rs.app4 hb ho4 hg hf, h1, h2⟩
end
end Go.Proofs.YtclhimodopgeoaaGreat

