/- The law on who lies below one that is inert. -/
import Derived.Test.YtclhimodopgeoaaGreatXLHigh
import Derived.Test.YtclhimodopgeoaaGreatXIn5
namespace Go.Proofs.YtclhimodopgeoaaGreat
open Go.RowKit

theorem up_contains {T : List Nd} {x : Int} {n : Nat} : containsB (upI6 T n) x = fabvB T x n := fabv_contains
theorem blocked_eq {T : List Nd} (hm : mayB T = true) {n : Nat} (hn : n < T.length) (high : Int) : blockedB high (upI6 T n) = ((high != -1) && (((n : Int) != 0) && !fabvB T high n)) := by
  unfold blockedB
  rw [(upI6_len hm hn).2.2, up_contains]
theorem fabv_mem {T : List Nd} {a n : Nat} : fabvB T (a : Int) n = true ↔ a ∈ upF T n := by
  unfold fabvB
  rw [List.any_eq_true]
  constructor
  · rintro ⟨x, hx, e⟩
    have : x = a := by have := (beq_iff_eq.mp e); omega
    subst this; exact hx
  · intro h; exact ⟨a, h, by simp⟩
end Go.Proofs.YtclhimodopgeoaaGreat

