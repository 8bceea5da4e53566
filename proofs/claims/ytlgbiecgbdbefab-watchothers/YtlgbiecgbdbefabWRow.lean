/- WRow: arguments that are lists of numbers, or a Watch, opened; the head of the program's text. -/
import Derived.ProofKit
import Derived.OpenShut
import Derived.Deep.SlicePairs
import Derived.Laws.IdiomArrays
import Derived.Test.YtlgbiecgbdbefabRows
import Derived.Test.YtlgbiecgbdbefabLBase
namespace Go.Proofs.Ytlgbiecgbdbefab
open Go.ChangeShapes Go.WideShapes Go.ChangeAt Go.RowKit Go.Deep

theorem cells3 : Try.prog.cellsOf 3 = 1 := by kernel_rfl
theorem cells22 : Try.prog.cellsOf 22 = 1 := by kernel_rfl
theorem cells33 : Try.prog.cellsOf 33 = 3 := by kernel_rfl
section
variable {H : Type} {enc : TypeId × Value → H} {w : World} {base : Nat} {spare : Nat → Bool} {held : Bool}
theorem plain_of_cell {a : Addr} {v : Value} (h : w.cell? a = some v) : ∃ b off, a = ⟨b, off, none⟩ := by
  obtain ⟨b, off, spot⟩ := a
  have hs : spot = none := by simpa using World.cell?_spot h
  subst hs
  exact ⟨b, off, rfl⟩
theorem add_none (b o j : Nat) : (⟨b, o, none⟩ : Addr).add j = ⟨b, o + j, none⟩ := by unfold Addr.add; split <;> simp_all
theorem getD_map_range {α : Type} (f : Nat → α) (n j : Nat) (d : α) (h : j < n) : ((List.range n).map f).getD j d = f j := by
  rw [List.getD_eq_getElem?_getD, List.getElem?_map, List.getElem?_range h]
  rfl

theorem trod_intsAt {fuel : Nat} {cs : List Value} {x : DataW H × List MemPlace} (h : DataW.trod enc Try.prog w base spare held fuel 22 cs = some x) : ∃ v l, cs = [v] ∧ IntsAt w v l := by
  rcases open_slice1 Try.underlying22 cells3 h with ⟨rfl, _⟩ | ⟨a, len, cap, m, n, V, D, Pl, rfl, _, _, _, hm, _, hx⟩
  · exact ⟨_, [], rfl, none, 0, rfl, fun h => by simp at h⟩
  · have hle : len ≤ m := by rw [hm]; split <;> omega
    obtain ⟨F, hF⟩ := choose_lt (α := Int) (n := len) (p := fun i q => V i = .int .i64 q) (fun i hi => by
      obtain ⟨q, hq, _, _⟩ := DataW.trod_int Try.underlying3 (hx i (by omega)).2
      exact ⟨q, by simpa using hq⟩)
    refine ⟨_, (List.range len).map F, rfl, some a, cap, by simp, fun h0 => ?_⟩
    have h0' : 0 < len := by simpa using h0
    have e0 := (hx 0 (by omega)).1
    have : a.add 0 = a := by simp [Addr.add]
    rw [this] at e0
    obtain ⟨b, off, rfl⟩ := plain_of_cell e0
    refine ⟨b, off, rfl, fun j hj => ?_⟩
    have hj' : j < len := by simpa using hj
    rw [getD_map_range F len j 0 hj', ← add_none, (hx j (by omega)).1, hF j hj']


theorem trod_grpsAt {fuel : Nat} {cs : List Value} {x : DataW H × List MemPlace} (h : DataW.trod enc Try.prog w base spare held fuel 24 cs = some x) : ∃ v l, cs = [v] ∧ GrpsAt w v l := by
  rcases open_slice Try.underlying24 h with ⟨rfl, _⟩ | ⟨a, len, cap, m, n, D, Pl, rfl, _, hlc, hcm, hm, _, hx⟩
  · exact ⟨_, [], rfl, by simp, none, 0, rfl, fun h => by simp at h⟩
  · have hle : len ≤ m := by rw [hm]; split <;> omega
    have hml : len ≤ 9223372036854775807 := by simp only [maxLen] at hcm; omega
    rw [cells22] at hx
    by_cases h0 : len = 0
    · subst h0
      exact ⟨_, [], rfl, by simp, some a, cap, rfl, fun h => by simp at h⟩
    · obtain ⟨cs0, k0, _⟩ := hx 0 (by omega)
      obtain ⟨_, hl0, hc0⟩ := World.cells?_some k0
      have e0 := hc0 0 (by omega)
      have hz : (a.add (0 * 1)).add 0 = a := by simp [Addr.add]
      rw [hz, List.getElem?_eq_getElem (by omega)] at e0
      obtain ⟨b, off, rfl⟩ := plain_of_cell e0
      obtain ⟨F, hF⟩ := choose_lt (α := List Int) (n := len) (p := fun i q => ∃ rv, w.cell? ⟨b, off + i, none⟩ = some rv ∧ IntsAt w rv q) (fun i hi => by
        obtain ⟨cs', k1, k2⟩ := hx i (by omega)
        obtain ⟨_, hl1, hc1⟩ := World.cells?_some k1
        obtain ⟨v, l, rfl, hv⟩ := trod_intsAt k2
        have e := hc1 0 (by omega)
        rw [add_none, add_none] at e
        exact ⟨l, v, by simpa using e, hv⟩)
      refine ⟨_, (List.range len).map F, rfl, by simpa using hml, some ⟨b, off, none⟩, cap, by simp, fun _ => ⟨b, off, rfl, fun j hj => ?_⟩⟩
      have hj' : j < len := by simpa using hj
      rw [getD_map_range F len j [] hj']
      exact hF j hj'
set_option maxRecDepth 100000 in
theorem trod_wt {fuel : Nat} {cs : List Value} {x : DataW H × List MemPlace} (h : DataW.trod enc Try.prog w base spare held fuel 33 cs = some x) :
    ∃ (gv : Value) (s : Wt), cs = [gv, .int .i64 s.a, .bool s.n] ∧ GrpsAt w gv s.g := by
  obtain ⟨xs, n, _, _, hl, hxl, hf⟩ := DataW.trod_struct Try.underlying33 h
  rw [cells33] at hl
  match cs, hl, xs, hxl with
  | [c0, c1, c2], _, [y0, y1, y2], _ =>
    have g0 := hf 0 _ rfl
    have g1 := hf 1 _ rfl
    have g2 := hf 2 _ rfl
    replace g0 : DataW.trod enc Try.prog w base spare held n 24 [c0] = some y0 := g0
    replace g1 : DataW.trod enc Try.prog w base spare held n 3 [c1] = some y1 := g1
    replace g2 : DataW.trod enc Try.prog w base spare held n 4 [c2] = some y2 := g2
    obtain ⟨v0, l0, e0, i0⟩ := trod_grpsAt g0
    obtain ⟨q1, e1, _, _⟩ := DataW.trod_int Try.underlying3 g1
    obtain ⟨q2, e2, _, _⟩ := DataW.trod_bool Try.underlying4 g2
    simp only [List.cons.injEq, and_true] at e0 e1 e2
    subst e0 e1 e2
    exact ⟨_, ⟨l0, q1, q2⟩, rfl, i0⟩
set_option maxRecDepth 100000 in
theorem open_wtv {r : Reach} {b0 : Nat} {v : Value} {d : DataW H} {ps : List MemPlace} (hval : Value.okWide Try.prog w r b0 33 v) (h : DataW.Trod enc Try.prog w base spare held 33 v d ps) : ∃ (gv : Value) (s : Wt), v = .agg #[gv, .int .i64 s.a, .bool s.n] ∧ GrpsAt w gv s.g := by
  obtain ⟨cs, rfl⟩ : ∃ cs, v = .agg cs := by
    simp only [Value.okWide, Try.underlying33] at hval
    obtain ⟨cs, h1, _⟩ := hval
    exact ⟨cs, h1⟩
  obtain ⟨fuel, hf⟩ := h
  obtain ⟨gv, s, e, hV⟩ := trod_wt hf
  refine ⟨gv, s, ?_, hV⟩
  obtain ⟨l⟩ := cs
  have : l = [gv, .int .i64 s.a, .bool s.n] := e
  rw [this]
set_option maxRecDepth 100000 in
theorem open_intsv {r : Reach} {b0 : Nat} {v : Value} {d : DataW H} {ps : List MemPlace} (hval : Value.okWide Try.prog w r b0 22 v) (h : DataW.Trod enc Try.prog w base spare held 22 v d ps) : ∃ L, IntsAt w v L := by
  obtain ⟨a, len, cap, rfl⟩ := okWide_slice Try.underlying22 hval
  obtain ⟨fuel, hf⟩ := h
  obtain ⟨v, T, hv, hT⟩ := trod_intsAt hf
  simp only [Value.cells, List.cons.injEq, and_true] at hv
  exact ⟨T, by rw [hv]; exact hT⟩
end
theorem laidOut' : laidOutB Try.prog = true := by kernel_rfl
theorem strip_cut (r : List (List Char)) : stripLifts liftWords ("cut".toList :: r) = ([], "cut".toList :: r) := by kernel_rfl
theorem make_of (P : Program) (r : List (List Char)) (h : behindMainWord (wordsSigns P.initOrder.toList) = "cut".toList :: r) : P.make = some Make.cut := by
  unfold Program.make
  rw [h]
  dsimp only
  have e1 : ("cut".toList == "gc".toList || "cut".toList == "spec".toList) = false := by kernel_rfl
  have e2 : ("cut".toList == "cut".toList) = true := by kernel_rfl
  rw [e1, e2]
  rfl
theorem lifts_of (P : Program) (r : List (List Char)) (h : behindMainWord (wordsSigns P.initOrder.toList) = "cut".toList :: r) : P.liftsFinal = false := by
  unfold Program.liftsFinal Program.headLifts
  rw [h]
  simp only [strip_cut]
  have e1 : (("cut".toList :: r).head? == some "carried".toList) = false := by kernel_rfl
  rw [e1]
  rfl
theorem may_of (P : Program) (r : List (List Char)) (h : behindMainWord (wordsSigns P.initOrder.toList) = "cut".toList :: r) (h1 : P.laysLater = false) (h2 : P.bearsReflect = false) (h3 : P.doorRows = []) : P.mayEnter = true := by
  unfold Program.mayEnter
  rw [h]
  simp only [strip_cut]
  have e1 : (some "cut".toList == some "cut".toList) = true := by kernel_rfl
  have e2 : P.doorFits [] = true := by unfold Program.doorFits; rw [h3]; rfl
  rw [h1, h2, e2, List.head?_cons, e1]
  simp

def initSigns : List Char := [104, 97, 114, 110, 101, 115, 115, 32, 57, 98, 49, 99, 102, 97, 53, 51, 49, 56, 101, 99, 51, 49, 50, 53, 56, 99, 97, 102, 97, 101, 99, 54, 100, 54, 100, 97, 101, 54, 50, 57, 100, 102, 56, 51, 100, 99, 54, 56, 100, 98, 56, 51, 99, 54, 54, 48, 48, 49, 48, 57, 97, 100, 48, 53, 97, 56, 101, 56, 101, 57, 50, 53, 32, 99, 117, 116, 32, 97, 116, 32, 108, 105, 109, 101, 108, 105, 103, 104, 116, 47, 108, 105, 109, 101, 108, 105, 103, 104, 116, 108, 97, 119, 49, 56, 46, 87, 97, 116, 99, 104, 65, 99, 116, 115, 32, 108, 105, 109, 101, 108, 105, 103, 104, 116, 47, 108, 105, 109, 101, 108, 105, 103, 104, 116, 108, 97, 119, 49, 56, 46, 87, 97, 116, 99, 104, 68, 114, 111, 112, 115, 32, 108, 105, 109, 101, 108, 105, 103, 104, 116, 47, 108, 105, 109, 101, 108, 105, 103, 104, 116, 108, 97, 119, 49, 56, 46, 87, 97, 116, 99, 104, 82, 111, 111, 109, 115, 32, 108, 105, 109, 101, 108, 105, 103, 104, 116, 47, 108, 105, 109, 101, 108, 105, 103, 104, 116, 108, 97, 119, 49, 56, 46, 87, 97, 116, 99, 104, 67, 108, 111, 115, 101, 115, 32, 108, 105, 109, 101, 108, 105, 103, 104, 116, 47, 108, 105, 109, 101, 108, 105, 103, 104, 116, 108, 97, 119, 49, 56, 46, 87, 97, 116, 99, 104, 79, 116, 104, 101, 114, 115].map Char.ofNat
def initWords : List (List Char) := [[97, 116], [108, 105, 109, 101, 108, 105, 103, 104, 116, 47, 108, 105, 109, 101, 108, 105, 103, 104, 116, 108, 97, 119, 49, 56, 46, 87, 97, 116, 99, 104, 65, 99, 116, 115], [108, 105, 109, 101, 108, 105, 103, 104, 116, 47, 108, 105, 109, 101, 108, 105, 103, 104, 116, 108, 97, 119, 49, 56, 46, 87, 97, 116, 99, 104, 68, 114, 111, 112, 115], [108, 105, 109, 101, 108, 105, 103, 104, 116, 47, 108, 105, 109, 101, 108, 105, 103, 104, 116, 108, 97, 119, 49, 56, 46, 87, 97, 116, 99, 104, 82, 111, 111, 109, 115], [108, 105, 109, 101, 108, 105, 103, 104, 116, 47, 108, 105, 109, 101, 108, 105, 103, 104, 116, 108, 97, 119, 49, 56, 46, 87, 97, 116, 99, 104, 67, 108, 111, 115, 101, 115], [108, 105, 109, 101, 108, 105, 103, 104, 116, 47, 108, 105, 109, 101, 108, 105, 103, 104, 116, 108, 97, 119, 49, 56, 46, 87, 97, 116, 99, 104, 79, 116, 104, 101, 114, 115]].map (·.map Char.ofNat)
set_option maxRecDepth 100000 in
theorem init_is : Try.prog.initOrder = String.ofList initSigns := by kernel_rfl
theorem init_chars : Try.prog.initOrder.toList = initSigns := by rw [init_is, String.toList_ofList]
set_option maxRecDepth 100000 in
theorem init_words : behindMainWord (wordsSigns Try.prog.initOrder.toList) = "cut".toList :: initWords := by
  rw [init_chars]
  kernel_rfl
set_option maxRecDepth 100000 in
theorem lays_later : Try.prog.laysLater = false := by kernel_rfl
set_option maxRecDepth 100000 in
theorem bears_reflect : Try.prog.bearsReflect = false := by kernel_rfl
set_option maxRecDepth 100000 in
theorem door_rows : Try.prog.doorRows = [] := by kernel_rfl
theorem may_enter : Try.prog.mayEnter = true := may_of _ _ init_words lays_later bears_reflect door_rows
theorem lifts_final : Try.prog.liftsFinal = false := lifts_of _ _ init_words
theorem make_is : Try.prog.make = some Make.cut := make_of _ _ init_words
end Go.Proofs.Ytlgbiecgbdbefab
