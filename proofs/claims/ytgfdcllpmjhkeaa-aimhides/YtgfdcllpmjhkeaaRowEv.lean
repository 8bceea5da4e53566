/- Arguments that are events, opened. -/
import Derived.Test.YtgfdcllpmjhkeaaRowKit
import Derived.Test.YtgfdcllpmjhkeaaAimMath
namespace Go.Proofs.Ytgfdcllpmjhkeaa
open Go.ChangeShapes Go.WideShapes Go.ChangeAt Go.RowKit

theorem cellsEv : Try.prog.cellsOf 25 = 6 := by kernel_rfl
section
variable {H : Type} {enc : TypeId × Value → H} {w : World} {base : Nat} {spare : Nat → Bool} {held : Bool}
set_option maxRecDepth 100000 in
theorem trod_event {fuel : Nat} {cs : List Value} {x : DataW H × List MemPlace} (h : DataW.trod enc Try.prog w base spare held fuel 25 cs = some x) :
    ∃ ev : Ev, cs = [.int .i64 ev.type, .int .i64 ev.target, .int .i64 ev.related, .bool ev.bub, .bool ev.can, .bool ev.comp] := by
  obtain ⟨xs, n, _, _, hl, hxl, hf⟩ := DataW.trod_struct Try.underlying25 h
  rw [cellsEv] at hl
  match cs, hl, xs, hxl with
  | [c0, c1, c2, c3, c4, c5], _, [y0, y1, y2, y3, y4, y5], _ =>
    have g0 := hf 0 _ rfl
    have g1 := hf 1 _ rfl
    have g2 := hf 2 _ rfl
    have g3 := hf 3 _ rfl
    have g4 := hf 4 _ rfl
    have g5 := hf 5 _ rfl
    replace g0 : DataW.trod enc Try.prog w base spare held n 3 [c0] = some y0 := g0
    replace g1 : DataW.trod enc Try.prog w base spare held n 3 [c1] = some y1 := g1
    replace g2 : DataW.trod enc Try.prog w base spare held n 3 [c2] = some y2 := g2
    replace g3 : DataW.trod enc Try.prog w base spare held n 4 [c3] = some y3 := g3
    replace g4 : DataW.trod enc Try.prog w base spare held n 4 [c4] = some y4 := g4
    replace g5 : DataW.trod enc Try.prog w base spare held n 4 [c5] = some y5 := g5
    obtain ⟨q0, e0, _, _⟩ := DataW.trod_int Try.underlying3 g0
    obtain ⟨q1, e1, _, _⟩ := DataW.trod_int Try.underlying3 g1
    obtain ⟨q2, e2, _, _⟩ := DataW.trod_int Try.underlying3 g2
    obtain ⟨q3, e3, _⟩ := DataW.trod_bool Try.underlying4 g3
    obtain ⟨q4, e4, _⟩ := DataW.trod_bool Try.underlying4 g4
    obtain ⟨q5, e5, _⟩ := DataW.trod_bool Try.underlying4 g5
    simp only [List.cons.injEq, and_true] at e0 e1 e2 e3 e4 e5
    subst e0 e1 e2 e3 e4 e5
    exact ⟨⟨q0, q1, q2, q3, q4, q5⟩, rfl⟩
set_option maxRecDepth 100000 in
theorem open_event {r : Reach} {b0 : Nat} {v : Value} {d : DataW H} {ps : List MemPlace} (hval : Value.okWide Try.prog w r b0 25 v) (h : DataW.Trod enc Try.prog w base spare held 25 v d ps) : ∃ ev : Ev, v = .agg #[.int .i64 ev.type, .int .i64 ev.target, .int .i64 ev.related, .bool ev.bub, .bool ev.can, .bool ev.comp] := by
  obtain ⟨cs, rfl⟩ : ∃ cs, v = .agg cs := by
    simp only [Value.okWide, Try.underlying25] at hval
    obtain ⟨cs, h1, _⟩ := hval
    exact ⟨cs, h1⟩
  obtain ⟨fuel, hf⟩ := h
  obtain ⟨ev, e⟩ := trod_event hf
  refine ⟨ev, ?_⟩
  obtain ⟨l⟩ := cs
  have : l = [.int .i64 ev.type, .int .i64 ev.target, .int .i64 ev.related, .bool ev.bub, .bool ev.can, .bool ev.comp] := e
  rw [this]
end
end Go.Proofs.Ytgfdcllpmjhkeaa
