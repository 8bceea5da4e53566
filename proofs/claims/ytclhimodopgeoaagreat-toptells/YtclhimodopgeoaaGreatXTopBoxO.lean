/- A box by its block: what is written into it takes nothing from a view that lies elsewhere. -/
import Derived.Test.YtclhimodopgeoaaGreatTB8
namespace Go.Proofs.YtclhimodopgeoaaGreat
open Go.RowKit

def BoxO (w : World) (b : Nat) (t o m p q : Value) : Prop := w.heap[b]? = some (.cells #[t, o, m, p, q] 27 (0, 0))
section
variable {w w' U W : World} {b : Nat} {t o m p q t' o' m' p' q' : Value}
theorem BoxO.new (w : World) (t o m p q : Value) : BoxO (w.alloc (.cells #[t, o, m, p, q] 27)) w.heap.size t o m p q := World.alloc_heap_new w _
theorem BoxO.lt (h : BoxO w b t o m p q) : b < w.heap.size := (Array.getElem?_eq_some_iff.mp h).1
theorem BoxO.below (h : BoxO w b t o m p q) (hb : Below w.heap.size w w') : BoxO w' b t o m p q := (hb.block b h.lt).trans h
theorem BoxO.cells (h : BoxO w b t o m p q) : BoxV w b t o m p q := by
  unfold BoxO at h
  constructor <;> simp [World.cell?, h]
theorem BoxO.frozen (h : BoxO w b t o m p q) (j : Nat) (hj : j < 5) : w.frozen? ⟨b, j, none⟩ = false := by
  unfold BoxO at h
  obtain rfl | rfl | rfl | rfl | rfl : j = 0 ∨ j = 1 ∨ j = 2 ∨ j = 3 ∨ j = 4 := by omega
  all_goals simp [World.frozen?, h]
theorem BoxO.set5 (h : BoxO w b t o m p q) : BoxO (set5 w b t' o' m' p' q') b t' o' m' p' q' := by
  unfold BoxO at h ⊢
  have h0 := heap_setCell_same w b 0 _ 27 t' h
  have h1 := heap_setCell_same _ b 1 _ 27 o' h0
  have h2 := heap_setCell_same _ b 2 _ 27 m' h1
  have h3 := heap_setCell_same _ b 3 _ 27 p' h2
  have h4 := heap_setCell_same _ b 4 _ 27 q' h3
  exact h4
/-- The cells of a block are slices. -/
def SlB (U : World) (b : Nat) : Prop := ∀ off u, U.cell? ⟨b, off, none⟩ = some u → ∃ a n c, u = .slice a n c
theorem BoxO.slB {a0 a1 a2 a3 a4 : Option Addr} {n0 n1 n2 n3 n4 c0 c1 c2 c3 c4 : Nat} (h : BoxO U b (.slice a0 n0 c0) (.slice a1 n1 c1) (.slice a2 n2 c2) (.slice a3 n3 c3) (.slice a4 n4 c4)) : SlB U b := by
  intro off u hu
  unfold BoxO at h
  rw [cell_of_row U b off _ 27 (0, 0) h] at hu
  match off with
  | 0 => simp at hu; exact ⟨_, _, _, hu.symm⟩
  | 1 => simp at hu; exact ⟨_, _, _, hu.symm⟩
  | 2 => simp at hu; exact ⟨_, _, _, hu.symm⟩
  | 3 => simp at hu; exact ⟨_, _, _, hu.symm⟩
  | 4 => simp at hu; exact ⟨_, _, _, hu.symm⟩
  | k + 5 => simp at hu
theorem SlB.ne (h : SlB U b) {g off : Nat} {k : Int} (hc : U.cell? ⟨g, off, none⟩ = some (.int .i64 k)) : g ≠ b := by
  rintro rfl
  obtain ⟨a, n, c, e⟩ := h off _ hc
  cases e
theorem cell_off (hk : ∀ j, j ≠ b → W.heap[j]? = U.heap[j]?) {g off : Nat} {u : Value} (hg : g ≠ b) (hc : U.cell? ⟨g, off, none⟩ = some u) : W.cell? ⟨g, off, none⟩ = some u :=
  (World.cell?_of_block (a := ⟨g, off, none⟩) (hk g hg)).trans hc
theorem int_off (h : SlB U b) (hk : ∀ j, j ≠ b → W.heap[j]? = U.heap[j]?) {g off : Nat} {k : Int} (hc : U.cell? ⟨g, off, none⟩ = some (.int .i64 k)) : W.cell? ⟨g, off, none⟩ = some (.int .i64 k) := cell_off hk (h.ne hc) hc
theorem IntsAt.off (h : SlB U b) (hk : ∀ j, j ≠ b → W.heap[j]? = U.heap[j]?) {v : Value} {l : List Int} (hl : IntsAt U v l) : IntsAt W v l := by
  obtain ⟨a, cap, rfl, hc⟩ := hl
  refine ⟨a, cap, rfl, fun h0 => ?_⟩
  obtain ⟨g, off, rfl, hd⟩ := hc h0
  exact ⟨g, off, rfl, fun j hj => int_off h hk (hd j hj)⟩
theorem AttrsAt.off (h : SlB U b) (hk : ∀ j, j ≠ b → W.heap[j]? = U.heap[j]?) {v : Value} {l : List (Int × Int)} (hl : AttrsAt U v l) : AttrsAt W v l := by
  obtain ⟨a, cap, rfl, hc⟩ := hl
  refine ⟨a, cap, rfl, fun h0 => ?_⟩
  obtain ⟨g, off, rfl, hd⟩ := hc h0
  exact ⟨g, off, rfl, fun j hj => ⟨int_off h hk (hd j hj).1, int_off h hk (hd j hj).2⟩⟩
theorem ShsAt.off (h : SlB U b) (hk : ∀ j, j ≠ b → W.heap[j]? = U.heap[j]?) {v : Value} {l : List Sh} (hl : ShsAt U v l) : ShsAt W v l := by
  obtain ⟨a, cap, rfl, hcp, hc⟩ := hl
  refine ⟨a, cap, rfl, hcp, fun h0 => ?_⟩
  obtain ⟨g, off, rfl, hd⟩ := hc h0
  exact ⟨g, off, rfl, fun j hj => ⟨int_off h hk (hd j hj).node, int_off h hk (hd j hj).inv⟩⟩
theorem NodeAt.off (h : SlB U b) (hk : ∀ j, j ≠ b → W.heap[j]? = U.heap[j]?) {g o : Nat} {x : Nd} {kv av : Value} (hn : NodeAt U g o x kv av) : NodeAt W g o x kv av := by
  obtain ⟨h0, h1, h2, h3, h4, h5, h6, hi, ha⟩ := hn
  have hne := h.ne h0
  exact ⟨cell_off hk hne h0, cell_off hk hne h1, cell_off hk hne h2, cell_off hk hne h3, cell_off hk hne h4, cell_off hk hne h5, cell_off hk hne h6, hi.off h hk, ha.off h hk⟩
theorem TreeAt.off (h : SlB U b) (hk : ∀ j, j ≠ b → W.heap[j]? = U.heap[j]?) {v : Value} {T : List Nd} (hT : TreeAt U v T) : TreeAt W v T := by
  obtain ⟨a, cap, rfl, hc⟩ := hT
  refine ⟨a, cap, rfl, fun h0 => ?_⟩
  obtain ⟨g, off, rfl, hd⟩ := hc h0
  refine ⟨g, off, rfl, fun j hj => ?_⟩
  obtain ⟨kv, av, hn⟩ := hd j hj
  exact ⟨kv, av, hn.off h hk⟩
theorem ViewAt.off (h : SlB U b) (hk : ∀ j, j ≠ b → W.heap[j]? = U.heap[j]?) {V : Vw} (hV : ViewAt U t o m p q V) : ViewAt W t o m p q V :=
  ⟨hV.tree.off h hk, hV.op.off h hk, hV.modal.off h hk, hV.pops.off h hk, hV.top.off h hk⟩
theorem set5_off {t' o' m' p' q' : Value} : ∀ j, j ≠ b → (Go.Proofs.YtclhimodopgeoaaGreat.set5 U b t' o' m' p' q').heap[j]? = U.heap[j]? := fun _ hj => set5_block hj
theorem row_off {base : Nat} {v : Value} {n : Nat} {xs : List Value} (hr : U.ownsRow base 3 1 v n xs) (h : BoxO U b t o m p q) (hk : ∀ j, j ≠ b → W.heap[j]? = U.heap[j]?) : W.ownsRow base 3 1 v n xs := by
  refine ⟨hr.1, ?_⟩
  rcases hr.2 with hn | ⟨g, cap, cur, rfl, hb, hgg, rest⟩
  · exact .inl hn
  · refine .inr ⟨g, cap, cur, rfl, hb, ?_, rest⟩
    rw [hk g (fun e => by
      subst e
      unfold BoxO at h
      rw [h] at hgg
      cases hgg)]
    exact hgg
end
end Go.Proofs.YtclhimodopgeoaaGreat

