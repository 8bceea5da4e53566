/- An argument that is a list of who is shown, opened. -/
import Derived.Test.YtclhimodopgeoaaGreatXRowTop
namespace Go.Proofs.YtclhimodopgeoaaGreat
open Go.ChangeShapes Go.WideShapes Go.ChangeAt Go.RowKit Go.Deep

section
variable {H : Type} {enc : TypeId × Value → H} {w : World} {base : Nat} {spare : Nat → Bool} {held : Bool}
set_option maxRecDepth 100000 in
theorem open_shs {r : Reach} {b0 : Nat} {v : Value} {d : DataW H} {ps : List MemPlace} (hval : Value.okWide Tryz.prog w r b0 25 v) (h : DataW.Trod enc Tryz.prog w base spare held 25 v d ps) : ∃ L, ShsAt w v L := by
  obtain ⟨a, len, cap, rfl⟩ := okWide_slice Tryz.underlying25 hval
  obtain ⟨fuel, hf⟩ := h
  obtain ⟨v, L, hv, hL⟩ := trod_shsAt hf
  simp only [Value.cells, List.cons.injEq, and_true] at hv
  exact ⟨L, by rw [hv]; exact hL⟩
end
end Go.Proofs.YtclhimodopgeoaaGreat

