/- Arguments that are trees, views, or who is shown, opened; the head of the program's text. -/
import Derived.ProofKit
import Derived.OpenShut
import Derived.Deep.SlicePairs
import Derived.Laws.IdiomArrays
import Derived.Test.YtclhimodopgeoaaGreatRows
import Derived.Test.YtclhimodopgeoaaGreatTC4
namespace Go.Proofs.YtclhimodopgeoaaGreat
open Go.ChangeShapes Go.WideShapes Go.ChangeAt Go.RowKit Go.Deep

theorem cells49 : Tryz.prog.cellsOf 57 = 7 := by kernel_rfl
theorem cells54 : Tryz.prog.cellsOf 60 = 2 := by kernel_rfl
theorem cells3 : Tryz.prog.cellsOf 3 = 1 := by kernel_rfl
theorem cells46 : Tryz.prog.cellsOf 24 = 1 := by kernel_rfl
theorem cells47 : Tryz.prog.cellsOf 55 = 1 := by kernel_rfl

section
variable {H : Type} {enc : TypeId × Value → H} {w : World} {base : Nat} {spare : Nat → Bool} {held : Bool}

theorem plain_of_cell {a : Addr} {v : Value} (h : w.cell? a = some v) : ∃ b off, a = ⟨b, off, none⟩ := by
  obtain ⟨b, off, spot⟩ := a
  have hs : spot = none := by simpa using World.cell?_spot h
  subst hs
  exact ⟨b, off, rfl⟩
theorem add_none (b o j : Nat) : (⟨b, o, none⟩ : Addr).add j = ⟨b, o + j, none⟩ := by unfold Addr.add; split <;> simp_all
theorem getD_map_range {α : Type} (f : Nat → α) (n j : Nat) (d : α) (h : j < n) : ((List.range n).map f).getD j d = f j := by
  rw [List.getD_eq_getElem?_getD, List.getElem?_map, List.getElem?_range h]
  rfl

theorem trod_intsAt {fuel : Nat} {cs : List Value} {x : DataW H × List MemPlace} (h : DataW.trod enc Tryz.prog w base spare held fuel 24 cs = some x) : ∃ v l, cs = [v] ∧ IntsAt w v l := by
  rcases open_slice1 Tryz.underlying24 cells3 h with ⟨rfl, _⟩ | ⟨a, len, cap, m, n, V, D, Pl, rfl, _, _, _, hm, _, hx⟩
  · exact ⟨_, [], rfl, none, 0, rfl, fun h => by simp at h⟩
  · have hle : len ≤ m := by rw [hm]; split <;> omega
    obtain ⟨F, hF⟩ := choose_lt (α := Int) (n := len) (p := fun i q => V i = .int .i64 q) (fun i hi => by
      obtain ⟨q, hq, _, _⟩ := DataW.trod_int Tryz.underlying3 (hx i (by omega)).2
      exact ⟨q, by simpa using hq⟩)
    refine ⟨_, (List.range len).map F, rfl, some a, cap, by simp, fun h0 => ?_⟩
    have h0' : 0 < len := by simpa using h0
    have e0 := (hx 0 (by omega)).1
    have : a.add 0 = a := by simp [Addr.add]
    rw [this] at e0
    obtain ⟨b, off, rfl⟩ := plain_of_cell e0
    refine ⟨b, off, rfl, fun j hj => ?_⟩
    have hj' : j < len := by simpa using hj
    rw [getD_map_range F len j 0 hj', ← add_none, (hx j (by omega)).1, hF j hj']

theorem trod_attrsAt {fuel : Nat} {cs : List Value} {x : DataW H × List MemPlace} (h : DataW.trod enc Tryz.prog w base spare held fuel 55 cs = some x) : ∃ v l, cs = [v] ∧ AttrsAt w v l := by
  rcases open_slice_pairs Tryz.underlying55 Tryz.underlying60 cells54 rfl rfl cells3 cells3 h with ⟨rfl, _⟩ | ⟨a, len, cap, m, n, V0, V1, D0, D1, P0, P1, rfl, _, _, _, hm, _, hx⟩
  · exact ⟨_, [], rfl, none, 0, rfl, fun h => by simp at h⟩
  · have hle : len ≤ m := by rw [hm]; split <;> omega
    obtain ⟨F, hF⟩ := choose_lt (α := Int × Int) (n := len) (p := fun i q => V0 i = .int .i64 q.1 ∧ V1 i = .int .i64 q.2) (fun i hi => by
      obtain ⟨_, _, t0, t1⟩ := hx i (by omega)
      obtain ⟨q0, e0, _, _⟩ := DataW.trod_int Tryz.underlying3 t0
      obtain ⟨q1, e1, _, _⟩ := DataW.trod_int Tryz.underlying3 t1
      exact ⟨(q0, q1), by simpa using e0, by simpa using e1⟩)
    refine ⟨_, (List.range len).map F, rfl, some a, cap, by simp, fun h0 => ?_⟩
    have h0' : 0 < len := by simpa using h0
    have e0 := (hx 0 (by omega)).1
    have : a.add (0 * 2) = a := by simp [Addr.add]
    rw [this] at e0
    obtain ⟨b, off, rfl⟩ := plain_of_cell e0
    refine ⟨b, off, rfl, fun j hj => ?_⟩
    have hj' : j < len := by simpa using hj
    obtain ⟨c0, c1, _, _⟩ := hx j (by omega)
    rw [add_none] at c0 c1
    rw [getD_map_range F len j (0, 0) hj', ← (hF j hj').1, ← (hF j hj').2, Nat.add_assoc]
    exact ⟨c0, c1⟩

set_option maxRecDepth 100000 in
theorem trod_nodeAt {fuel : Nat} {cs : List Value} {x : DataW H × List MemPlace} {b o : Nat} (hc : ∀ j, j < 7 → w.cell? ⟨b, o + j, none⟩ = cs[j]?) (h : DataW.trod enc Tryz.prog w base spare held fuel 57 cs = some x) :
    ∃ (nd : Nd) (kv av : Value), NodeAt w b o nd kv av := by
  obtain ⟨xs, n, _, _, hl, hxl, hf⟩ := DataW.trod_struct Tryz.underlying57 h
  rw [cells49] at hl
  match cs, hl, xs, hxl with
  | [c0, c1, c2, c3, c4, c5, c6], _, [y0, y1, y2, y3, y4, y5, y6], _ =>
    have g0 := hf 0 _ rfl
    have g1 := hf 1 _ rfl
    have g2 := hf 2 _ rfl
    have g3 := hf 3 _ rfl
    have g4 := hf 4 _ rfl
    have g5 := hf 5 _ rfl
    have g6 := hf 6 _ rfl
    replace g0 : DataW.trod enc Tryz.prog w base spare held n 3 [c0] = some y0 := g0
    replace g1 : DataW.trod enc Tryz.prog w base spare held n 3 [c1] = some y1 := g1
    replace g2 : DataW.trod enc Tryz.prog w base spare held n 3 [c2] = some y2 := g2
    replace g3 : DataW.trod enc Tryz.prog w base spare held n 24 [c3] = some y3 := g3
    replace g4 : DataW.trod enc Tryz.prog w base spare held n 3 [c4] = some y4 := g4
    replace g5 : DataW.trod enc Tryz.prog w base spare held n 3 [c5] = some y5 := g5
    replace g6 : DataW.trod enc Tryz.prog w base spare held n 55 [c6] = some y6 := g6
    obtain ⟨q0, e0, _, _⟩ := DataW.trod_int Tryz.underlying3 g0
    obtain ⟨q1, e1, _, _⟩ := DataW.trod_int Tryz.underlying3 g1
    obtain ⟨q2, e2, _, _⟩ := DataW.trod_int Tryz.underlying3 g2
    obtain ⟨v3, l3, e3, i3⟩ := trod_intsAt g3
    obtain ⟨q4, e4, _, _⟩ := DataW.trod_int Tryz.underlying3 g4
    obtain ⟨q5, e5, _, _⟩ := DataW.trod_int Tryz.underlying3 g5
    obtain ⟨v6, l6, e6, i6⟩ := trod_attrsAt g6
    simp only [List.cons.injEq, and_true] at e0 e1 e2 e3 e4 e5 e6
    subst e0 e1 e2 e3 e4 e5 e6
    exact ⟨⟨q0, q1, q2, l3, q4, q5, l6⟩, c3, c6, hc 0 (by omega), hc 1 (by omega), hc 2 (by omega), hc 3 (by omega), hc 4 (by omega), hc 5 (by omega), hc 6 (by omega), i3, i6⟩

theorem trod_treeAt {fuel : Nat} {cs : List Value} {x : DataW H × List MemPlace} (h : DataW.trod enc Tryz.prog w base spare held fuel 23 cs = some x) : ∃ v T, cs = [v] ∧ TreeAt w v T := by
  rcases open_slice Tryz.underlying23 h with ⟨rfl, _⟩ | ⟨a, len, cap, m, n, D, Pl, rfl, _, _, _, hm, _, hx⟩
  · exact ⟨_, [], rfl, none, 0, rfl, fun h => by simp at h⟩
  · have hle : len ≤ m := by rw [hm]; split <;> omega
    rw [cells49] at hx
    by_cases h0 : len = 0
    · subst h0
      exact ⟨_, [], rfl, some a, cap, rfl, fun h => by simp at h⟩
    · obtain ⟨cs0, k0, _⟩ := hx 0 (by omega)
      obtain ⟨_, hl0, hc0⟩ := World.cells?_some k0
      have e0 := hc0 0 (by omega)
      have hz : (a.add (0 * 7)).add 0 = a := by simp [Addr.add]
      rw [hz, List.getElem?_eq_getElem (by omega)] at e0
      obtain ⟨b, off, rfl⟩ := plain_of_cell e0
      obtain ⟨F, hF⟩ := choose_lt (α := Nd) (n := len) (p := fun i q => ∃ kv av, NodeAt w b (off + i * 7) q kv av) (fun i hi => by
        obtain ⟨cs', k1, k2⟩ := hx i (by omega)
        obtain ⟨_, hl1, hc1⟩ := World.cells?_some k1
        exact trod_nodeAt (fun j hj => by rw [← hc1 j hj, add_none, add_none]) k2)
      refine ⟨_, (List.range len).map F, rfl, some ⟨b, off, none⟩, cap, by simp, fun _ => ⟨b, off, rfl, fun j hj => ?_⟩⟩
      have hj' : j < len := by simpa using hj
      unfold nd
      rw [getD_map_range F len j default hj']
      exact hF j hj'

theorem cellsSh : Tryz.prog.cellsOf 39 = 2 := by kernel_rfl
theorem cellsVw : Tryz.prog.cellsOf 27 = 5 := by kernel_rfl
theorem trod_shsAt {fuel : Nat} {cs : List Value} {x : DataW H × List MemPlace} (h : DataW.trod enc Tryz.prog w base spare held fuel 25 cs = some x) : ∃ v l, cs = [v] ∧ ShsAt w v l := by
  rcases open_slice_pairs Tryz.underlying25 Tryz.underlying39 cellsSh rfl rfl cells3 cells3 h with ⟨rfl, _⟩ | ⟨a, len, cap, m, n, V0, V1, D0, D1, P0, P1, rfl, _, hlc, _, hm, _, hx⟩
  · exact ⟨_, [], rfl, none, 0, rfl, Nat.le_refl _, fun h => by simp at h⟩
  · have hle : len ≤ m := by rw [hm]; split <;> omega
    obtain ⟨F, hF⟩ := choose_lt (α := Sh) (n := len) (p := fun i q => V0 i = .int .i64 q.node ∧ V1 i = .int .i64 q.inv) (fun i hi => by
      obtain ⟨_, _, t0, t1⟩ := hx i (by omega)
      obtain ⟨q0, e0, _, _⟩ := DataW.trod_int Tryz.underlying3 t0
      obtain ⟨q1, e1, _, _⟩ := DataW.trod_int Tryz.underlying3 t1
      exact ⟨⟨q0, q1⟩, by simpa using e0, by simpa using e1⟩)
    refine ⟨_, (List.range len).map F, rfl, some a, cap, by simp, by simpa using hlc, fun h0 => ?_⟩
    have h0' : 0 < len := by simpa using h0
    have e0 := (hx 0 (by omega)).1
    have : a.add (0 * 2) = a := by simp [Addr.add]
    rw [this] at e0
    obtain ⟨b, off, rfl⟩ := plain_of_cell e0
    refine ⟨b, off, rfl, fun j hj => ?_⟩
    have hj' : j < len := by simpa using hj
    obtain ⟨c0, c1, _, _⟩ := hx j (by omega)
    rw [add_none] at c0 c1
    rw [getD_map_range F len j shD hj']
    exact ⟨by rw [c0, (hF j hj').1], by rw [Nat.add_assoc, c1, (hF j hj').2]⟩
set_option maxRecDepth 100000 in
theorem trod_viewAt {fuel : Nat} {cs : List Value} {x : DataW H × List MemPlace} (h : DataW.trod enc Tryz.prog w base spare held fuel 27 cs = some x) :
    ∃ tv ov mv pv qv V, cs = [tv, ov, mv, pv, qv] ∧ ViewAt w tv ov mv pv qv V := by
  obtain ⟨xs, n, _, _, hl, hxl, hf⟩ := DataW.trod_struct Tryz.underlying27 h
  rw [cellsVw] at hl
  match cs, hl, xs, hxl with
  | [c0, c1, c2, c3, c4], _, [y0, y1, y2, y3, y4], _ =>
    have g0 := hf 0 _ rfl
    have g1 := hf 1 _ rfl
    have g2 := hf 2 _ rfl
    have g3 := hf 3 _ rfl
    have g4 := hf 4 _ rfl
    replace g0 : DataW.trod enc Tryz.prog w base spare held n 23 [c0] = some y0 := g0
    replace g1 : DataW.trod enc Tryz.prog w base spare held n 24 [c1] = some y1 := g1
    replace g2 : DataW.trod enc Tryz.prog w base spare held n 24 [c2] = some y2 := g2
    replace g3 : DataW.trod enc Tryz.prog w base spare held n 25 [c3] = some y3 := g3
    replace g4 : DataW.trod enc Tryz.prog w base spare held n 24 [c4] = some y4 := g4
    obtain ⟨v0, l0, e0, i0⟩ := trod_treeAt g0
    obtain ⟨v1, l1, e1, i1⟩ := trod_intsAt g1
    obtain ⟨v2, l2, e2, i2⟩ := trod_intsAt g2
    obtain ⟨v3, l3, e3, i3⟩ := trod_shsAt g3
    obtain ⟨v4, l4, e4, i4⟩ := trod_intsAt g4
    simp only [List.cons.injEq, and_true] at e0 e1 e2 e3 e4
    subst e0 e1 e2 e3 e4
    exact ⟨_, _, _, _, _, ⟨l0, l1, l2, l3, l4⟩, rfl, i0, i1, i2, i3, i4⟩
set_option maxRecDepth 100000 in
theorem open_view {r : Reach} {b0 : Nat} {v : Value} {d : DataW H} {ps : List MemPlace} (hval : Value.okWide Tryz.prog w r b0 27 v) (h : DataW.Trod enc Tryz.prog w base spare held 27 v d ps) : ∃ tv ov mv pv qv V, v = .agg #[tv, ov, mv, pv, qv] ∧ ViewAt w tv ov mv pv qv V := by
  obtain ⟨cs, rfl⟩ : ∃ cs, v = .agg cs := by
    simp only [Value.okWide, Tryz.underlying27] at hval
    obtain ⟨cs, h1, _⟩ := hval
    exact ⟨cs, h1⟩
  obtain ⟨fuel, hf⟩ := h
  obtain ⟨tv, ov, mv, pv, qv, V, e, hV⟩ := trod_viewAt hf
  refine ⟨tv, ov, mv, pv, qv, V, ?_, hV⟩
  obtain ⟨l⟩ := cs
  have : l = [tv, ov, mv, pv, qv] := e
  rw [this]
set_option maxRecDepth 100000 in
theorem trod_shown {fuel : Nat} {cs : List Value} {x : DataW H × List MemPlace} (h : DataW.trod enc Tryz.prog w base spare held fuel 39 cs = some x) : ∃ s : Sh, cs = [.int .i64 s.node, .int .i64 s.inv] := by
  obtain ⟨xs, n, _, _, hl, hxl, hf⟩ := DataW.trod_struct Tryz.underlying39 h
  rw [cellsSh] at hl
  match cs, hl, xs, hxl with
  | [c0, c1], _, [y0, y1], _ =>
    have g0 := hf 0 _ rfl
    have g1 := hf 1 _ rfl
    replace g0 : DataW.trod enc Tryz.prog w base spare held n 3 [c0] = some y0 := g0
    replace g1 : DataW.trod enc Tryz.prog w base spare held n 3 [c1] = some y1 := g1
    obtain ⟨q0, e0, _, _⟩ := DataW.trod_int Tryz.underlying3 g0
    obtain ⟨q1, e1, _, _⟩ := DataW.trod_int Tryz.underlying3 g1
    simp only [List.cons.injEq, and_true] at e0 e1
    subst e0 e1
    exact ⟨⟨q0, q1⟩, rfl⟩
set_option maxRecDepth 100000 in
theorem open_shown {r : Reach} {b0 : Nat} {v : Value} {d : DataW H} {ps : List MemPlace} (hval : Value.okWide Tryz.prog w r b0 39 v) (h : DataW.Trod enc Tryz.prog w base spare held 39 v d ps) : ∃ s : Sh, v = .agg #[.int .i64 s.node, .int .i64 s.inv] := by
  obtain ⟨cs, rfl⟩ : ∃ cs, v = .agg cs := by
    simp only [Value.okWide, Tryz.underlying39] at hval
    obtain ⟨cs, h1, _⟩ := hval
    exact ⟨cs, h1⟩
  obtain ⟨fuel, hf⟩ := h
  obtain ⟨s, e⟩ := trod_shown hf
  refine ⟨s, ?_⟩
  obtain ⟨l⟩ := cs
  have : l = [.int .i64 s.node, .int .i64 s.inv] := e
  rw [this]
end
theorem laidOut' : laidOutB Tryz.prog = true := by kernel_rfl
section
variable {H : Type} {enc : TypeId × Value → H} {w : World} {base : Nat} {spare : Nat → Bool} {held : Bool}
set_option maxRecDepth 100000 in
theorem open_tree {r : Reach} {b0 : Nat} {v : Value} {d : DataW H} {ps : List MemPlace} (hval : Value.okWide Tryz.prog w r b0 23 v) (h : DataW.Trod enc Tryz.prog w base spare held 23 v d ps) : ∃ T, TreeAt w v T := by
  obtain ⟨a, len, cap, rfl⟩ := okWide_slice Tryz.underlying23 hval
  obtain ⟨fuel, hf⟩ := h
  obtain ⟨v, T, hv, hT⟩ := trod_treeAt hf
  simp only [Value.cells, List.cons.injEq, and_true] at hv
  exact ⟨T, by rw [hv]; exact hT⟩

end
theorem strip_cut (r : List (List Char)) : stripLifts liftWords ("cut".toList :: r) = ([], "cut".toList :: r) := by kernel_rfl
theorem make_of (P : Program) (r : List (List Char)) (h : behindMainWord (wordsSigns P.initOrder.toList) = "cut".toList :: r) : P.make = some Make.cut := by
  unfold Program.make
  rw [h]
  dsimp only
  have e1 : ("cut".toList == "gc".toList || "cut".toList == "spec".toList) = false := by kernel_rfl
  have e2 : ("cut".toList == "cut".toList) = true := by kernel_rfl
  rw [e1, e2]
  rfl
theorem lifts_of (P : Program) (r : List (List Char)) (h : behindMainWord (wordsSigns P.initOrder.toList) = "cut".toList :: r) : P.liftsFinal = false := by
  unfold Program.liftsFinal Program.headLifts
  rw [h]
  simp only [strip_cut]
  have e1 : (("cut".toList :: r).head? == some "carried".toList) = false := by kernel_rfl
  rw [e1]
  rfl
theorem may_of (P : Program) (r : List (List Char)) (h : behindMainWord (wordsSigns P.initOrder.toList) = "cut".toList :: r) (h1 : P.laysLater = false) (h2 : P.bearsReflect = false) (h3 : P.doorRows = []) : P.mayEnter = true := by
  unfold Program.mayEnter
  rw [h]
  simp only [strip_cut]
  have e1 : (some "cut".toList == some "cut".toList) = true := by kernel_rfl
  have e2 : P.doorFits [] = true := by unfold Program.doorFits; rw [h3]; rfl
  rw [h1, h2, e2, List.head?_cons, e1]
  simp

def initSigns : List Char := [104, 97, 114, 110, 101, 115, 115, 32, 52, 56, 51, 56, 55, 99, 49, 55, 51, 57, 49, 55, 48, 102, 100, 98, 50, 100, 101, 48, 102, 101, 57, 52, 100, 56, 48, 57, 97, 98, 48, 99, 55, 51, 102, 99, 99, 49, 51, 98, 98, 98, 100, 55, 54, 54, 48, 57, 101, 51, 102, 49, 102, 102, 100, 48, 101, 98, 101, 51, 56, 48, 49, 48, 32, 99, 117, 116, 32, 97, 116, 32, 108, 105, 109, 101, 108, 105, 103, 104, 116, 47, 108, 105, 109, 101, 108, 105, 103, 104, 116, 108, 97, 119, 49, 48, 46, 84, 111, 112, 84, 101, 108, 108, 115, 32, 108, 105, 109, 101, 108, 105, 103, 104, 116, 47, 108, 105, 109, 101, 108, 105, 103, 104, 116, 108, 97, 119, 49, 48, 46, 84, 111, 112, 79, 112, 101, 110, 115, 32, 108, 105, 109, 101, 108, 105, 103, 104, 116, 47, 108, 105, 109, 101, 108, 105, 103, 104, 116, 108, 97, 119, 49, 48, 46, 84, 111, 112, 83, 116, 97, 121, 115, 32, 108, 105, 109, 101, 108, 105, 103, 104, 116, 47, 108, 105, 109, 101, 108, 105, 103, 104, 116, 108, 97, 119, 49, 48, 46, 84, 111, 112, 70, 105, 120, 32, 108, 105, 109, 101, 108, 105, 103, 104, 116, 47, 108, 105, 109, 101, 108, 105, 103, 104, 116, 108, 97, 119, 49, 48, 46, 84, 111, 112, 72, 105, 103, 104, 101, 115, 116, 32, 108, 105, 109, 101, 108, 105, 103, 104, 116, 47, 108, 105, 109, 101, 108, 105, 103, 104, 116, 108, 97, 119, 49, 48, 46, 84, 111, 112, 79, 114, 100, 101, 114, 32, 108, 105, 109, 101, 108, 105, 103, 104, 116, 47, 108, 105, 109, 101, 108, 105, 103, 104, 116, 108, 97, 119, 49, 49, 46, 82, 101, 110, 100, 101, 114, 84, 101, 108, 108, 115, 32, 108, 105, 109, 101, 108, 105, 103, 104, 116, 47, 108, 105, 109, 101, 108, 105, 103, 104, 116, 108, 97, 119, 49, 49, 46, 82, 101, 110, 100, 101, 114, 66, 101, 108, 111, 119, 32, 108, 105, 109, 101, 108, 105, 103, 104, 116, 47, 108, 105, 109, 101, 108, 105, 103, 104, 116, 108, 97, 119, 49, 49, 46, 82, 101, 110, 100, 101, 114, 72, 105, 100, 101, 115, 32, 108, 105, 109, 101, 108, 105, 103, 104, 116, 47, 108, 105, 109, 101, 108, 105, 103, 104, 116, 108, 97, 119, 49, 49, 46, 82, 101, 110, 100, 101, 114, 70, 105, 114, 115, 116, 32, 108, 105, 109, 101, 108, 105, 103, 104, 116, 47, 108, 105, 109, 101, 108, 105, 103, 104, 116, 108, 97, 119, 49, 50, 46, 73, 110, 101, 114, 116, 84, 101, 108, 108, 115, 32, 108, 105, 109, 101, 108, 105, 103, 104, 116, 47, 108, 105, 109, 101, 108, 105, 103, 104, 116, 108, 97, 119, 49, 50, 46, 73, 110, 101, 114, 116, 77, 111, 100, 97, 108, 32, 108, 105, 109, 101, 108, 105, 103, 104, 116, 47, 108, 105, 109, 101, 108, 105, 103, 104, 116, 108, 97, 119, 49, 50, 46, 73, 110, 101, 114, 116, 78, 111, 110, 101, 32, 108, 105, 109, 101, 108, 105, 103, 104, 116, 47, 108, 105, 109, 101, 108, 105, 103, 104, 116, 108, 97, 119, 49, 50, 46, 73, 110, 101, 114, 116, 66, 101, 108, 111, 119, 32, 108, 105, 109, 101, 108, 105, 103, 104, 116, 47, 108, 105, 109, 101, 108, 105, 103, 104, 116, 108, 97, 119, 49, 50, 46, 73, 110, 101, 114, 116, 72, 105, 103, 104, 101, 115, 116].map Char.ofNat
def initWords : List (List Char) := [[97, 116], [108, 105, 109, 101, 108, 105, 103, 104, 116, 47, 108, 105, 109, 101, 108, 105, 103, 104, 116, 108, 97, 119, 49, 48, 46, 84, 111, 112, 84, 101, 108, 108, 115], [108, 105, 109, 101, 108, 105, 103, 104, 116, 47, 108, 105, 109, 101, 108, 105, 103, 104, 116, 108, 97, 119, 49, 48, 46, 84, 111, 112, 79, 112, 101, 110, 115], [108, 105, 109, 101, 108, 105, 103, 104, 116, 47, 108, 105, 109, 101, 108, 105, 103, 104, 116, 108, 97, 119, 49, 48, 46, 84, 111, 112, 83, 116, 97, 121, 115], [108, 105, 109, 101, 108, 105, 103, 104, 116, 47, 108, 105, 109, 101, 108, 105, 103, 104, 116, 108, 97, 119, 49, 48, 46, 84, 111, 112, 70, 105, 120], [108, 105, 109, 101, 108, 105, 103, 104, 116, 47, 108, 105, 109, 101, 108, 105, 103, 104, 116, 108, 97, 119, 49, 48, 46, 84, 111, 112, 72, 105, 103, 104, 101, 115, 116], [108, 105, 109, 101, 108, 105, 103, 104, 116, 47, 108, 105, 109, 101, 108, 105, 103, 104, 116, 108, 97, 119, 49, 48, 46, 84, 111, 112, 79, 114, 100, 101, 114], [108, 105, 109, 101, 108, 105, 103, 104, 116, 47, 108, 105, 109, 101, 108, 105, 103, 104, 116, 108, 97, 119, 49, 49, 46, 82, 101, 110, 100, 101, 114, 84, 101, 108, 108, 115], [108, 105, 109, 101, 108, 105, 103, 104, 116, 47, 108, 105, 109, 101, 108, 105, 103, 104, 116, 108, 97, 119, 49, 49, 46, 82, 101, 110, 100, 101, 114, 66, 101, 108, 111, 119], [108, 105, 109, 101, 108, 105, 103, 104, 116, 47, 108, 105, 109, 101, 108, 105, 103, 104, 116, 108, 97, 119, 49, 49, 46, 82, 101, 110, 100, 101, 114, 72, 105, 100, 101, 115], [108, 105, 109, 101, 108, 105, 103, 104, 116, 47, 108, 105, 109, 101, 108, 105, 103, 104, 116, 108, 97, 119, 49, 49, 46, 82, 101, 110, 100, 101, 114, 70, 105, 114, 115, 116], [108, 105, 109, 101, 108, 105, 103, 104, 116, 47, 108, 105, 109, 101, 108, 105, 103, 104, 116, 108, 97, 119, 49, 50, 46, 73, 110, 101, 114, 116, 84, 101, 108, 108, 115], [108, 105, 109, 101, 108, 105, 103, 104, 116, 47, 108, 105, 109, 101, 108, 105, 103, 104, 116, 108, 97, 119, 49, 50, 46, 73, 110, 101, 114, 116, 77, 111, 100, 97, 108], [108, 105, 109, 101, 108, 105, 103, 104, 116, 47, 108, 105, 109, 101, 108, 105, 103, 104, 116, 108, 97, 119, 49, 50, 46, 73, 110, 101, 114, 116, 78, 111, 110, 101], [108, 105, 109, 101, 108, 105, 103, 104, 116, 47, 108, 105, 109, 101, 108, 105, 103, 104, 116, 108, 97, 119, 49, 50, 46, 73, 110, 101, 114, 116, 66, 101, 108, 111, 119], [108, 105, 109, 101, 108, 105, 103, 104, 116, 47, 108, 105, 109, 101, 108, 105, 103, 104, 116, 108, 97, 119, 49, 50, 46, 73, 110, 101, 114, 116, 72, 105, 103, 104, 101, 115, 116]].map (·.map Char.ofNat)
set_option maxRecDepth 100000 in
theorem init_is : Tryz.prog.initOrder = String.ofList initSigns := by kernel_rfl
theorem init_chars : Tryz.prog.initOrder.toList = initSigns := by rw [init_is, String.toList_ofList]
set_option maxRecDepth 100000 in
theorem init_words : behindMainWord (wordsSigns Tryz.prog.initOrder.toList) = "cut".toList :: initWords := by
  rw [init_chars]
  kernel_rfl
set_option maxRecDepth 100000 in
theorem lays_later : Tryz.prog.laysLater = false := by kernel_rfl
set_option maxRecDepth 100000 in
theorem bears_reflect : Tryz.prog.bearsReflect = false := by kernel_rfl
set_option maxRecDepth 100000 in
theorem door_rows : Tryz.prog.doorRows = [] := by kernel_rfl
theorem may_enter : Tryz.prog.mayEnter = true := may_of _ _ init_words lays_later bears_reflect door_rows
theorem lifts_final : Tryz.prog.liftsFinal = false := lifts_of _ _ init_words
theorem make_is : Tryz.prog.make = some Make.cut := make_of _ _ init_words
end Go.Proofs.YtclhimodopgeoaaGreat

