/- Arguments that are listeners, or lists of them: what can be read of them lies in memory as HearsAt. -/
import Derived.ProofKit
import Derived.OpenShut
import Derived.Deep.SlicePairs
import Derived.Laws.IdiomArrays
import Derived.Test.YtahnkhgaopaaoabHear2
namespace Go.Proofs.Ytahnkhgaopaaoab
open Go.ChangeShapes Go.WideShapes Go.ChangeAt Go.RowKit Go.Deep

theorem laidOut' : laidOutB Try.prog = true := by kernel_rfl
theorem cells24 : Try.prog.cellsOf 24 = 5 := by kernel_rfl

section
variable {H : Type} {enc : TypeId × Value → H} {w : World} {base : Nat} {spare : Nat → Bool} {held : Bool}

theorem plain_of_cell {a : Addr} {v : Value} (h : w.cell? a = some v) : ∃ b off, a = ⟨b, off, none⟩ := by
  obtain ⟨b, off, spot⟩ := a
  have hs : spot = none := by simpa using World.cell?_spot h
  subst hs
  exact ⟨b, off, rfl⟩
theorem getD_map_range {α : Type} (f : Nat → α) (n j : Nat) (d : α) (h : j < n) : ((List.range n).map f).getD j d = f j := by
  rw [List.getD_eq_getElem?_getD, List.getElem?_map, List.getElem?_range h]
  rfl

set_option maxRecDepth 100000 in
theorem trod_hear {fuel : Nat} {cs : List Value} {x : DataW H × List MemPlace} (h : DataW.trod enc Try.prog w base spare held fuel 24 cs = some x) :
    ∃ hr : Hr, cs = [.int .i64 hr.node, .int .i64 hr.type, .bool hr.cap, .bool hr.once, .int .i64 hr.prog] := by
  obtain ⟨xs, n, _, _, hl, hxl, hf⟩ := DataW.trod_struct Try.underlying24 h
  rw [cells24] at hl
  match cs, hl, xs, hxl with
  | [c0, c1, c2, c3, c4], _, [y0, y1, y2, y3, y4], _ =>
    have g0 := hf 0 _ rfl
    have g1 := hf 1 _ rfl
    have g2 := hf 2 _ rfl
    have g3 := hf 3 _ rfl
    have g4 := hf 4 _ rfl
    replace g0 : DataW.trod enc Try.prog w base spare held n 3 [c0] = some y0 := g0
    replace g1 : DataW.trod enc Try.prog w base spare held n 3 [c1] = some y1 := g1
    replace g2 : DataW.trod enc Try.prog w base spare held n 4 [c2] = some y2 := g2
    replace g3 : DataW.trod enc Try.prog w base spare held n 4 [c3] = some y3 := g3
    replace g4 : DataW.trod enc Try.prog w base spare held n 3 [c4] = some y4 := g4
    obtain ⟨q0, e0, _, _⟩ := DataW.trod_int Try.underlying3 g0
    obtain ⟨q1, e1, _, _⟩ := DataW.trod_int Try.underlying3 g1
    obtain ⟨q2, e2, _⟩ := DataW.trod_bool Try.underlying4 g2
    obtain ⟨q3, e3, _⟩ := DataW.trod_bool Try.underlying4 g3
    obtain ⟨q4, e4, _, _⟩ := DataW.trod_int Try.underlying3 g4
    simp only [List.cons.injEq, and_true] at e0 e1 e2 e3 e4
    subst e0 e1 e2 e3 e4
    exact ⟨⟨q0, q1, q2, q3, q4⟩, rfl⟩

theorem trod_hearsAt {fuel : Nat} {cs : List Value} {x : DataW H × List MemPlace} (h : DataW.trod enc Try.prog w base spare held fuel 22 cs = some x) : ∃ v l, cs = [v] ∧ HearsAt w v l := by
  rcases open_slice Try.underlying22 h with ⟨rfl, _⟩ | ⟨a, len, cap, m, n, D, Pl, rfl, _, hlc, _, hm, _, hx⟩
  · exact ⟨_, [], rfl, none, 0, rfl, Nat.le_refl _, fun h => by simp at h⟩
  · have hle : len ≤ m := by rw [hm]; split <;> omega
    rw [cells24] at hx
    by_cases h0 : len = 0
    · subst h0
      exact ⟨_, [], rfl, some a, cap, rfl, Nat.zero_le _, fun h => by simp at h⟩
    · obtain ⟨cs0, k0, _⟩ := hx 0 (by omega)
      obtain ⟨_, hl0, hc0⟩ := World.cells?_some k0
      have e0 := hc0 0 (by omega)
      have hz : (a.add (0 * 5)).add 0 = a := by simp [Addr.add]
      rw [hz, List.getElem?_eq_getElem (by omega)] at e0
      obtain ⟨b, off, rfl⟩ := plain_of_cell e0
      obtain ⟨F, hF⟩ := choose_lt (α := Hr) (n := len) (p := fun i q => HearAt w b (off + i * 5) q) (fun i hi => by
        obtain ⟨cs', k1, k2⟩ := hx i (by omega)
        obtain ⟨_, hl1, hc1⟩ := World.cells?_some k1
        obtain ⟨hr, rfl⟩ := trod_hear k2
        have hc : ∀ j, j < 5 → w.cell? ⟨b, off + i * 5 + j, none⟩ = [Value.int .i64 hr.node, .int .i64 hr.type, .bool hr.cap, .bool hr.once, .int .i64 hr.prog][j]? := fun j hj => by rw [← hc1 j hj, addr_add, addr_add]
        exact ⟨hr, hc 0 (by omega), hc 1 (by omega), hc 2 (by omega), hc 3 (by omega), hc 4 (by omega)⟩)
      refine ⟨_, (List.range len).map F, rfl, some ⟨b, off, none⟩, cap, by simp, by simpa using hlc, fun _ => ⟨b, off, rfl, fun j hj => ?_⟩⟩
      have hj' : j < len := by simpa using hj
      rw [getD_map_range F len j hrD hj']
      exact hF j hj'

set_option maxRecDepth 100000 in
theorem open_hears {r : Reach} {b0 : Nat} {v : Value} {d : DataW H} {ps : List MemPlace} (hval : Value.okWide Try.prog w r b0 22 v) (h : DataW.Trod enc Try.prog w base spare held 22 v d ps) : ∃ l, HearsAt w v l := by
  obtain ⟨a, len, cap, rfl⟩ := okWide_slice Try.underlying22 hval
  obtain ⟨fuel, hf⟩ := h
  obtain ⟨v, l, hv, hT⟩ := trod_hearsAt hf
  simp only [Value.cells, List.cons.injEq, and_true] at hv
  exact ⟨l, by rw [hv]; exact hT⟩
set_option maxRecDepth 100000 in
theorem open_hear {r : Reach} {b0 : Nat} {v : Value} {d : DataW H} {ps : List MemPlace} (hval : Value.okWide Try.prog w r b0 24 v) (h : DataW.Trod enc Try.prog w base spare held 24 v d ps) : ∃ hr : Hr, v = .agg #[.int .i64 hr.node, .int .i64 hr.type, .bool hr.cap, .bool hr.once, .int .i64 hr.prog] := by
  obtain ⟨cs, rfl⟩ : ∃ cs, v = .agg cs := by
    simp only [Value.okWide, Try.underlying24] at hval
    obtain ⟨cs, h1, _⟩ := hval
    exact ⟨cs, h1⟩
  obtain ⟨fuel, hf⟩ := h
  obtain ⟨hr, e⟩ := trod_hear hf
  refine ⟨hr, ?_⟩
  obtain ⟨l⟩ := cs
  have : l = [.int .i64 hr.node, .int .i64 hr.type, .bool hr.cap, .bool hr.once, .int .i64 hr.prog] := e
  rw [this]
end
end Go.Proofs.Ytahnkhgaopaaoab
