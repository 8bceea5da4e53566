/- The law on the highest modal dialog. -/
import Derived.Test.YtclhimodopgeoaaGreatTE6
import Derived.Test.YtclhimodopgeoaaGreatTE8
import Derived.Test.YtclhimodopgeoaaGreatTE9
namespace Go.Proofs.YtclhimodopgeoaaGreat
open Go.RowKit

theorem small_facts {V : Vw} (h : smallV V = true) : Sane V.tree ∧ smallL V ∧ V.tree.length ≤ 16 ∧ (V.op.length ≤ 40 ∧ V.modal.length ≤ 40 ∧ V.pops.length ≤ 40 ∧ V.top.length ≤ 80) := by
  unfold smallV at h
  simp only [Bool.and_eq_true, decide_eq_true_eq] at h
  obtain ⟨h0, h1, h2, h3, h4, h5⟩ := h
  exact ⟨small_sane h0, ⟨by omega, by omega, by omega, by omega⟩, h1, h2, h3, h4, h5⟩
end Go.Proofs.YtclhimodopgeoaaGreat

