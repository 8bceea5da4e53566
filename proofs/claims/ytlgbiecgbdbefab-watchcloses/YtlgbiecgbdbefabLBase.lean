/- LBase: the contracts of package watch, of a Watch as one. -/
import Derived.Test.YtlgbiecgbdbefabWLive
import Derived.Test.YtlgbiecgbdbefabWReg
namespace Go.Proofs.Ytlgbiecgbdbefab
open Go.RowKit

theorem mono_k {w wr w' : World} (h : Below w.heap.size w wr) (hb : Below wr.heap.size wr w') : Below w.heap.size w w' := h.trans (hb.mono h.size)
theorem act_wt {s s' : Wt} (hs : wtAct s = s') (hf : fewG s.g 1000) (gv : Value) (w : World) (hG : GrpsAt w gv s.g) (ha : -9223372036854775808 ≤ s.a) :
    Calls Try.prog 10 #[.agg #[gv, .int .i64 s.a, .bool s.n]] w fun e w' => ∃ va vc, e = .returned (.agg #[.slice va s'.g.length vc, .int .i64 s'.a, .bool s'.n]) ∧ OwnX w' w.heap.size (.slice va s'.g.length vc) s'.g ∧ Below w.heap.size w w' := by
  subst hs
  exact act_any s.g hf gv s.a s.n w hG ha
theorem open_wt {s s' : Wt} {x : Int} (hs : wtOpen s x = s') (hf : fewG s.g 1000) (gv : Value) (w : World) (hG : GrpsAt w gv s.g) :
    Calls Try.prog 11 #[.agg #[gv, .int .i64 s.a, .bool s.n], .int .i64 x] w fun e w' => ∃ va vc, e = .returned (.agg #[.slice va s'.g.length vc, .int .i64 s'.a, .bool s'.n]) ∧ OwnX w' w.heap.size (.slice va s'.g.length vc) s'.g ∧ Below w.heap.size w w' := by
  subst hs
  exact open_any s.g hf gv s.a s.n x w hG
theorem drop_wt {s s' : Wt} {x : Int} (hs : wtDrop s x = s') (hf : fewG s.g 1000) (gv : Value) (w : World) (hG : GrpsAt w gv s.g) :
    Calls Try.prog 14 #[.agg #[gv, .int .i64 s.a, .bool s.n], .int .i64 x] w fun e w' => ∃ va vc, e = .returned (.agg #[.slice va s'.g.length vc, .int .i64 s'.a, .bool s'.n]) ∧ OwnX w' w.heap.size (.slice va s'.g.length vc) s'.g ∧ Below w.heap.size w w' := by
  subst hs
  exact drop_any s.g hf gv s.a s.n x w hG
theorem close_wt {s : Wt} {l : List Int} {a' : Int} (ha : clA s.a = a') (hl : toldL s = l) (hf : fewG s.g 1000) (gv : Value) (w : World) (hG : GrpsAt w gv s.g) :
    Calls Try.prog 12 #[.agg #[gv, .int .i64 s.a, .bool s.n]] w fun e w' => ∃ va vc la lc, e = .returned (.tuple #[.agg #[.slice va s.g.length vc, .int .i64 a', .bool s.n], .slice la l.length lc]) ∧ OwnX w' w.heap.size (.slice va s.g.length vc) s.g ∧ IntsAt w' (.slice la l.length lc) l ∧ Below w.heap.size w w' :=
  closeL ha hl rfl rfl hf gv w hG
theorem told_len {s : Wt} {m : Nat} (h : fewG s.g m) : (toldL s).length ≤ m := by
  unfold toldL
  split
  · simp
  · rw [List.length_reverse]; exact h.row
theorem clA_eq {a : Int} (h1 : 1 ≤ a) (h2 : a ≤ 2000) : clA a = max a 2 - 1 := by
  unfold clA
  split
  · rw [show wrap64 (a - 1) = a - 1 by unfold wrap64; omega]; omega
  · omega
end Go.Proofs.Ytlgbiecgbdbefab
