/- WBits: small laws on memory: one cell written, one block beside another, lists of numbers. -/
import Derived.Test.YtlgbiecgbdbefabW0
import Derived.RangeFuncCalls
import Derived.Shelf.Abstract
import Derived.RangeFuncFrom
namespace Go.Proofs.Ytlgbiecgbdbefab
open Go.RowKit Go.Shelf
theorem cell_of_box_l {W : World} {B : Nat} {v : Value} {t : TypeId} (h : W.heap[B]? = some (.cells #[v] t (0, 0))) : W.cell? ⟨B, 0, none⟩ = some v ∧ W.frozen? ⟨B, 0, none⟩ = false := by
  constructor <;> simp [World.cell?, World.frozen?, h]
theorem cell_new_l (W : World) (v : Value) (t : TypeId) : (W.alloc (.cells #[v] t)).cell? ⟨W.heap.size, 0, none⟩ = some v ∧ (W.alloc (.cells #[v] t)).frozen? ⟨W.heap.size, 0, none⟩ = false :=
  cell_of_box_l (World.alloc_heap_new W _)
theorem cell_alloc_l {W : World} {a : Addr} {v : Value} (o : Obj) (h : W.cell? a = some v) : (W.alloc o).cell? a = some v := cell_kept h (World.grownBy_alloc W o none) (fun r e => by cases e)
/-- A row that nobody writes stays, whatever the book-keeping does. -/
theorem ownsRow_walk {A B : World} {base : Nat} {e : TypeId} {size : Nat} {v : Value} {n : Nat} {xs : List Value} {row : Option Nat} (h : A.ownsRow base e size v n xs) (hg : A.grownBy B row) (hr : ∀ r, row = some r → ∃ o : Obj, A.heap[r]? = some o ∧ o.isCells = false) : B.ownsRow base e size v n xs := by
  refine h.kept hg ?_
  rcases h.2 with ⟨rfl, _⟩ | ⟨g, cap, cur, rfl, _, hcur, _⟩
  · exact .inl rfl
  · right
    intro e'
    obtain ⟨o, ho, hc⟩ := hr g e'.symm
    rw [hcur] at ho
    injection ho with ho
    subst ho
    simp [Obj.isCells] at hc

/-- Blocks below N are what they were, but for block X. -/
structure But (N X : Nat) (A B : World) : Prop where
  size : A.heap.size ≤ B.heap.size
  block : ∀ k, k < N → k ≠ X → B.heap[k]? = A.heap[k]?
theorem But.refl (N X : Nat) (A : World) : But N X A A := ⟨Nat.le_refl _, fun _ _ _ => rfl⟩
theorem But.trans {N X : Nat} {A B C : World} (h : But N X A B) (k : But N X B C) : But N X A C := ⟨Nat.le_trans h.size k.size, fun j hj hx => (k.block j hj hx).trans (h.block j hj hx)⟩
theorem But.cell {N X : Nat} {A B : World} (h : But N X A B) {b o : Nat} (hb : b < N) (hx : b ≠ X) : B.cell? ⟨b, o, none⟩ = A.cell? ⟨b, o, none⟩ := World.cell?_of_block (a := ⟨b, o, none⟩) (h.block b hb hx)
theorem But.setCell {N X o : Nat} {A B : World} (h : But N X A B) (u : Value) : But N X A (B.setCell ⟨X, o, none⟩ u) :=
  ⟨by simpa using h.size, fun j hj hx => (heap_setCell_other B ⟨X, o, none⟩ j u (fun e => hx e)).trans (h.block j hj hx)⟩
theorem But.of_below {N X K : Nat} {A B : World} (h : Below K A B) (hK : N ≤ K) : But N X A B := ⟨h.size, fun j hj _ => h.block j (by omega)⟩
theorem but_b {N X : Nat} {w : World} (hn : N ≤ w.heap.size) (W : World) (l : Nat) (o o' : Obj) (hl : w.heap.size ≤ l) (h : W.heap[l]? = some o) (hc : o.isCells = false) (hw : o.isWalk = false) : But N X W (W.putObj l o') :=
  But.of_below (belowK_b hn W l o o' hl h hc hw) (Nat.le_refl _)
theorem row_new1 (w : World) (x : Int) : Holds (w.alloc (.cells #[.int .i64 x] 3)) (.slice (some ⟨w.heap.size, 0, none⟩) 1 1) 1 [.int .i64 x] := by
  refine .inl ⟨⟨w.heap.size, 0, none⟩, 1, rfl, fun j u hj => ?_⟩
  rw [addr_add, Nat.zero_add, World.cell?_alloc_at _ _ _ _ (by simp)]
  simpa using hj

theorem intCells_snoc (l : List Int) (x : Int) : intCells l ++ [.int .i64 x] = intCells (l ++ [x]) := by simp [intCells]
theorem filter_takeI {l : List Int} {k : Nat} (h : k < l.length) (p : Int → Bool) : (l.take (k + 1)).filter p = (l.take k).filter p ++ (if p (l.getD k 0) then [l.getD k 0] else []) := by
  rw [List.take_succ_eq_append_getElem h, List.filter_append, List.getD_eq_getElem?_getD, List.getElem?_eq_getElem h]
  congr 1
  simp only [Option.getD_some, List.filter_cons, List.filter_nil]
theorem list_ext_getD {l m : List Int} (hl : l.length = m.length) (h : ∀ j, j < l.length → l.getD j 0 = m.getD j 0) : l = m := by
  apply List.ext_getElem hl
  intro j h1 h2
  have := h j h1
  simpa [List.getD_eq_getElem?_getD, List.getElem?_eq_getElem h1, List.getElem?_eq_getElem h2] using this
theorem frozen_below {w w' : World} (hb : Below w.heap.size w w') {a : Addr} {v : Value} (h : w.cell? a = some v) (hf : w.frozen? a = false) : w'.frozen? a = false := (hb.frozen (below_of_cell h)).trans hf
theorem range_rev (k : Nat) : (List.range (k + 1)).reverse = k :: (List.range k).reverse := by rw [List.range_succ, List.reverse_append]; rfl

theorem IntsAt.same {w w' : World} {v : Value} {l : List Int} (h : IntsAt w v l) (hc : ∀ b o u, w.cell? ⟨b, o, none⟩ = some u → w'.cell? ⟨b, o, none⟩ = some u) : IntsAt w' v l := by
  obtain ⟨a, cap, rfl, hd⟩ := h
  refine ⟨a, cap, rfl, fun h0 => ?_⟩
  obtain ⟨b, off, rfl, hd'⟩ := hd h0
  exact ⟨b, off, rfl, fun j hj => hc _ _ _ (hd' j hj)⟩
theorem range_get (p : List Int) : (List.range p.length).map (fun j => p.getD j 0) = p := by
  apply List.ext_getElem
  · simp
  · intro i h1 h2
    simp [List.getD_eq_getElem?_getD, List.getElem?_eq_getElem h2]
theorem alB (w : World) (o : Obj) : Below w.heap.size w (w.alloc o) := (Below.refl _ w).alloc (Nat.le_refl _) o
theorem ne_off {b i j : Nat} (h : i ≠ j) : (⟨b, i, none⟩ : Addr) ≠ ⟨b, j, none⟩ := fun e => h (by have := congrArg Addr.off e; exact this)
theorem set_other {w : World} {b i j : Nat} {u v : Value} (c : w.cell? ⟨b, i, none⟩ = some u) (h : j ≠ i) : (w.setCell ⟨b, j, none⟩ v).cell? ⟨b, i, none⟩ = some u := (World.cell?_setCell_other _ _ _ _ (ne_off h)).trans c
theorem setc_block {X : World} {b o m : Nat} {v : Value} (h : m ≠ b) : (X.setCell ⟨b, o, none⟩ v).heap[m]? = X.heap[m]? := heap_setCell_other X ⟨b, o, none⟩ m v (by first | exact h | exact h.symm)


end Go.Proofs.Ytlgbiecgbdbefab
