/- What rows of this seat share: their arguments, opened. -/
import Derived.Laws.IdiomArrays
import Derived.Test.YtgfdcllpmjhkeaaOpen
import Derived.Test.YtgfdcllpmjhkeaaRows
namespace Go.Proofs.Ytgfdcllpmjhkeaa
open Go.ChangeShapes Go.WideShapes Go.ChangeAt Go.RowKit

theorem laidOut' : laidOutB Try.prog = true := by kernel_rfl

section
variable {H : Type} {enc : TypeId × Value → H} {w : World} {base : Nat} {spare : Nat → Bool} {held : Bool}

set_option maxRecDepth 100000 in
theorem open_tree {r : Reach} {b0 : Nat} {v : Value} {d : DataW H} {ps : List MemPlace} (hval : Value.okWide Try.prog w r b0 23 v) (h : DataW.Trod enc Try.prog w base spare held 23 v d ps) : ∃ T, TreeAt w v T := by
  obtain ⟨a, len, cap, rfl⟩ := okWide_slice Try.underlying23 hval
  obtain ⟨fuel, hf⟩ := h
  obtain ⟨v, T, hv, hT⟩ := trod_treeAt hf
  simp only [Value.cells, List.cons.injEq, and_true] at hv
  exact ⟨T, by rw [hv]; exact hT⟩

end
end Go.Proofs.Ytgfdcllpmjhkeaa
