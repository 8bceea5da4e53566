/- A region that draws its order, by a table of what each operation yields. -/
import Derived.Test.YtclhimodopgeoaaGreatXLHigh
import Derived.Test.YtclhimodopgeoaaGreatXTopSame
import Derived.Test.YtclhimodopgeoaaGreatXTopFixAny
namespace Go.Proofs.YtclhimodopgeoaaGreat
open Go.RowKit

def TellP (vals : List Value) (V : Vw) (d : Nat) (s : Value) (U : World) : Prop :=
  if d = 13 then ∃ a0 c0 a1 c1 a2 c2 a3 c3 a4 c4, s = .agg #[.slice a0 V.tree.length c0, .slice a1 V.op.length c1, .slice a2 V.modal.length c2, .slice a3 V.pops.length c3, .slice a4 V.top.length c4] ∧ ViewAt U (.slice a0 V.tree.length c0) (.slice a1 V.op.length c1) (.slice a2 V.modal.length c2) (.slice a3 V.pops.length c3) (.slice a4 V.top.length c4) V
  else s = vals.getD d undef
theorem TellP.mono {vals : List Value} {V : Vw} {U U' : World} (hb : Below U.heap.size U U') : ∀ d s, TellP vals V d s U → TellP vals V d s U' := fun d s h => by
  unfold TellP at h ⊢
  by_cases q : d = 13
  · rw [if_pos q] at h ⊢
    obtain ⟨a0, c0, a1, c1, a2, c2, a3, c3, a4, c4, e, hv⟩ := h
    exact ⟨a0, c0, a1, c1, a2, c2, a3, c3, a4, c4, e, hv.below hb⟩
  · rw [if_neg q] at h ⊢
    exact h
def tellVals (VV cV hV agA agB gA gB E : Value) : List Value :=
  [VV, cV, VV, cV, .bool true, .bool true, VV, hV, hV, .bool true, .bool true, .bool true, VV, undef, VV, .bool true, .bool true, .bool true, agA, agB, .bool true, .bool true, .bool true, gA, gB, .bool true, .bool true, .bool true, E, E, .bool true, .bool true, .bool true, .bool true, .bool true, .bool true]
def hiV (V : Vw) : Int := if checkV V = 0 then highV V else -1
theorem high_any (tv ov mv pv qv : Value) (V : Vw) (w : World) (hV : ViewAt w tv ov mv pv qv V) (hS : Sane V.tree) (hl : smallL V) :
    Calls Tryz.prog 25 #[.agg #[tv, ov, mv, pv, qv]] w fun x w' => x = .returned (.int .i64 (hiV V)) ∧ Below w.heap.size w w' := by
  by_cases hck : checkV V = 0
  · rw [hiV, if_pos hck]
    exact callsIn_wide.1 (highOk_in tv ov mv pv qv V w hV hS hl hck)
  · rw [hiV, if_neg hck]
    exact callsIn_wide.1 (highBad_in tv ov mv pv qv V w hV hS hl hck)
theorem fixW_ok {V : Vw} (hS : Sane V.tree) (hl : smallL V) (ht : V.tree.length ≤ 16) : Sane (fixW V).tree ∧ (fixW V).tree.length ≤ 1000000 ∧ (fixW V).op.length ≤ 1000000 ∧ (fixW V).modal.length ≤ 1000000 ∧ (fixW V).top.length ≤ 1000000 ∧ (fixW V).pops.length ≤ 1000000 := by
  unfold fixW
  split
  · obtain ⟨h1, h2, h3, h4⟩ := hl
    refine ⟨hS, ?_, Nat.le_trans (Nat.le_trans (List.length_filter_le _ _) h1) (by omega), Nat.le_trans (Nat.le_trans (List.length_filter_le _ _) h2) (by omega), Nat.le_trans (Nat.le_trans (List.length_filter_le _ _) h4) (by omega), ?_⟩
    · show V.tree.length ≤ 1000000; omega
    · show (fixPs V).length ≤ 1000000
      rw [fixPs_len]
      exact Nat.le_trans (Nat.le_trans (List.length_filter_le _ _) h3) (by omega)
  · exact ⟨sane_of (T := []) (by decide), by decide, by decide, by decide, by decide, by decide⟩
theorem fixGW_len {V : Vw} (hl : smallL V) : (fixGW V).length ≤ 1000000 := by
  unfold fixGW
  split
  · obtain ⟨h1, h2, h3, h4⟩ := hl
    have g1 := List.length_filter_le (notB (dlgB V.tree)) V.op
    have g2 := List.length_filter_le (notB (dlgB V.tree)) V.modal
    have g3 := List.length_filter_le (notB (fun x : Sh => popB V.tree x.node)) V.pops
    show (V.op.filter _ ++ V.modal.filter _ ++ nodesL' (V.pops.filter _)).length ≤ 1000000
    rw [List.length_append, List.length_append, nodesL'_len]
    omega
  · decide
end Go.Proofs.YtclhimodopgeoaaGreat

