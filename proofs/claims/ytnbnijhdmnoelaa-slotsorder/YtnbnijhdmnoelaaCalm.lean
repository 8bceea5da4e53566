/- A region that draws its order, whose operations only read what is old, and whose callees leave all that is old: one walk, in the text's order. -/
import Derived.BigQuiet
import Derived.Test.YtnbnijhdmnoelaaAttrs2
namespace Go.Proofs.Ytnbnijhdmnoelaa
open Go.RowKit

/-- A world in which all that lay in w still lies. -/
structure Calm (w : World) where
  to : World
  below : Below w.heap.size w to

instance (w : World) : Nonempty (Calm w) := ⟨⟨w, Below.refl _ _⟩⟩

theorem below_drew' {B : Nat} {a w : World} (h : Below B a w) : Below B a w.drew := h.trans ⟨rfl, rfl, rfl, Nat.le_refl _, fun _ _ => rfl⟩
theorem calmCell {w : World} (d : Calm w) (b o : Nat) (h : b < w.heap.size) : d.to.cell? ⟨b, o, none⟩ = w.cell? ⟨b, o, none⟩ := d.below.cell (p := ⟨b, o, none⟩) h

theorem wp_region_calm {P : Program} {id : Nat} {Q : Exit → Act → World → Prop} {a : Act} {w : World} {l : List Oper} (hm : P.follows .mixedOrders = true) (hB : Region.lexB .any l.toArray = true)
    (h : wpQuiet P l.toArray (fun w' => ∃ d : Calm w, w' = d.to) (fun a' => ∀ w', (∃ d : Calm w, w' = d.to) → Q .normal a' w') l a) : (Code.region id l.toArray true).wp P Q a w :=
  wp_region_quiet (C := fun w' => ∃ d : Calm w, w' = d.to) hm hB ⟨⟨w.drew, below_drew' (Below.refl _ _)⟩, rfl⟩ (by simpa using h)

end Go.Proofs.Ytnbnijhdmnoelaa
