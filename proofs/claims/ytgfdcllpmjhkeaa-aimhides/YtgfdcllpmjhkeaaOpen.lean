/- Arguments that are trees, or lists of attributes: what can be read of them lies in memory as TreeAt, AttrsAt. -/
import Derived.ProofKit
import Derived.OpenShut
import Derived.Deep.SlicePairs
import Derived.Test.YtgfdcllpmjhkeaaBase
namespace Go.Proofs.Ytgfdcllpmjhkeaa
open Go.ChangeShapes Go.WideShapes Go.ChangeAt Go.RowKit Go.Deep

theorem cells49 : Try.prog.cellsOf 53 = 7 := by kernel_rfl
theorem cells54 : Try.prog.cellsOf 110 = 2 := by kernel_rfl
theorem cells3 : Try.prog.cellsOf 3 = 1 := by kernel_rfl
theorem cells46 : Try.prog.cellsOf 50 = 1 := by kernel_rfl
theorem cells47 : Try.prog.cellsOf 51 = 1 := by kernel_rfl

section
variable {H : Type} {enc : TypeId × Value → H} {w : World} {base : Nat} {spare : Nat → Bool} {held : Bool}

theorem plain_of_cell {a : Addr} {v : Value} (h : w.cell? a = some v) : ∃ b off, a = ⟨b, off, none⟩ := by
  obtain ⟨b, off, spot⟩ := a
  have hs : spot = none := by simpa using World.cell?_spot h
  subst hs
  exact ⟨b, off, rfl⟩
theorem add_none (b o j : Nat) : (⟨b, o, none⟩ : Addr).add j = ⟨b, o + j, none⟩ := by unfold Addr.add; split <;> simp_all
theorem getD_map_range {α : Type} (f : Nat → α) (n j : Nat) (d : α) (h : j < n) : ((List.range n).map f).getD j d = f j := by
  rw [List.getD_eq_getElem?_getD, List.getElem?_map, List.getElem?_range h]
  rfl

theorem trod_intsAt {fuel : Nat} {cs : List Value} {x : DataW H × List MemPlace} (h : DataW.trod enc Try.prog w base spare held fuel 50 cs = some x) : ∃ v l, cs = [v] ∧ IntsAt w v l := by
  rcases open_slice1 Try.underlying50 cells3 h with ⟨rfl, _⟩ | ⟨a, len, cap, m, n, V, D, Pl, rfl, _, _, _, hm, _, hx⟩
  · exact ⟨_, [], rfl, none, 0, rfl, fun h => by simp at h⟩
  · have hle : len ≤ m := by rw [hm]; split <;> omega
    obtain ⟨F, hF⟩ := choose_lt (α := Int) (n := len) (p := fun i q => V i = .int .i64 q) (fun i hi => by
      obtain ⟨q, hq, _, _⟩ := DataW.trod_int Try.underlying3 (hx i (by omega)).2
      exact ⟨q, by simpa using hq⟩)
    refine ⟨_, (List.range len).map F, rfl, some a, cap, by simp, fun h0 => ?_⟩
    have h0' : 0 < len := by simpa using h0
    have e0 := (hx 0 (by omega)).1
    have : a.add 0 = a := by simp [Addr.add]
    rw [this] at e0
    obtain ⟨b, off, rfl⟩ := plain_of_cell e0
    refine ⟨b, off, rfl, fun j hj => ?_⟩
    have hj' : j < len := by simpa using hj
    rw [getD_map_range F len j 0 hj', ← add_none, (hx j (by omega)).1, hF j hj']

theorem trod_attrsAt {fuel : Nat} {cs : List Value} {x : DataW H × List MemPlace} (h : DataW.trod enc Try.prog w base spare held fuel 51 cs = some x) : ∃ v l, cs = [v] ∧ AttrsAt w v l := by
  rcases open_slice_pairs Try.underlying51 Try.underlying110 cells54 rfl rfl cells3 cells3 h with ⟨rfl, _⟩ | ⟨a, len, cap, m, n, V0, V1, D0, D1, P0, P1, rfl, _, _, _, hm, _, hx⟩
  · exact ⟨_, [], rfl, none, 0, rfl, fun h => by simp at h⟩
  · have hle : len ≤ m := by rw [hm]; split <;> omega
    obtain ⟨F, hF⟩ := choose_lt (α := Int × Int) (n := len) (p := fun i q => V0 i = .int .i64 q.1 ∧ V1 i = .int .i64 q.2) (fun i hi => by
      obtain ⟨_, _, t0, t1⟩ := hx i (by omega)
      obtain ⟨q0, e0, _, _⟩ := DataW.trod_int Try.underlying3 t0
      obtain ⟨q1, e1, _, _⟩ := DataW.trod_int Try.underlying3 t1
      exact ⟨(q0, q1), by simpa using e0, by simpa using e1⟩)
    refine ⟨_, (List.range len).map F, rfl, some a, cap, by simp, fun h0 => ?_⟩
    have h0' : 0 < len := by simpa using h0
    have e0 := (hx 0 (by omega)).1
    have : a.add (0 * 2) = a := by simp [Addr.add]
    rw [this] at e0
    obtain ⟨b, off, rfl⟩ := plain_of_cell e0
    refine ⟨b, off, rfl, fun j hj => ?_⟩
    have hj' : j < len := by simpa using hj
    obtain ⟨c0, c1, _, _⟩ := hx j (by omega)
    rw [add_none] at c0 c1
    rw [getD_map_range F len j (0, 0) hj', ← (hF j hj').1, ← (hF j hj').2, Nat.add_assoc]
    exact ⟨c0, c1⟩

set_option maxRecDepth 100000 in
theorem trod_nodeAt {fuel : Nat} {cs : List Value} {x : DataW H × List MemPlace} {b o : Nat} (hc : ∀ j, j < 7 → w.cell? ⟨b, o + j, none⟩ = cs[j]?) (h : DataW.trod enc Try.prog w base spare held fuel 53 cs = some x) :
    ∃ (nd : Nd) (kv av : Value), NodeAt w b o nd kv av := by
  obtain ⟨xs, n, _, _, hl, hxl, hf⟩ := DataW.trod_struct Try.underlying53 h
  rw [cells49] at hl
  match cs, hl, xs, hxl with
  | [c0, c1, c2, c3, c4, c5, c6], _, [y0, y1, y2, y3, y4, y5, y6], _ =>
    have g0 := hf 0 _ rfl
    have g1 := hf 1 _ rfl
    have g2 := hf 2 _ rfl
    have g3 := hf 3 _ rfl
    have g4 := hf 4 _ rfl
    have g5 := hf 5 _ rfl
    have g6 := hf 6 _ rfl
    replace g0 : DataW.trod enc Try.prog w base spare held n 3 [c0] = some y0 := g0
    replace g1 : DataW.trod enc Try.prog w base spare held n 3 [c1] = some y1 := g1
    replace g2 : DataW.trod enc Try.prog w base spare held n 3 [c2] = some y2 := g2
    replace g3 : DataW.trod enc Try.prog w base spare held n 50 [c3] = some y3 := g3
    replace g4 : DataW.trod enc Try.prog w base spare held n 3 [c4] = some y4 := g4
    replace g5 : DataW.trod enc Try.prog w base spare held n 3 [c5] = some y5 := g5
    replace g6 : DataW.trod enc Try.prog w base spare held n 51 [c6] = some y6 := g6
    obtain ⟨q0, e0, _, _⟩ := DataW.trod_int Try.underlying3 g0
    obtain ⟨q1, e1, _, _⟩ := DataW.trod_int Try.underlying3 g1
    obtain ⟨q2, e2, _, _⟩ := DataW.trod_int Try.underlying3 g2
    obtain ⟨v3, l3, e3, i3⟩ := trod_intsAt g3
    obtain ⟨q4, e4, _, _⟩ := DataW.trod_int Try.underlying3 g4
    obtain ⟨q5, e5, _, _⟩ := DataW.trod_int Try.underlying3 g5
    obtain ⟨v6, l6, e6, i6⟩ := trod_attrsAt g6
    simp only [List.cons.injEq, and_true] at e0 e1 e2 e3 e4 e5 e6
    subst e0 e1 e2 e3 e4 e5 e6
    exact ⟨⟨q0, q1, q2, l3, q4, q5, l6⟩, c3, c6, hc 0 (by omega), hc 1 (by omega), hc 2 (by omega), hc 3 (by omega), hc 4 (by omega), hc 5 (by omega), hc 6 (by omega), i3, i6⟩

theorem trod_treeAt {fuel : Nat} {cs : List Value} {x : DataW H × List MemPlace} (h : DataW.trod enc Try.prog w base spare held fuel 23 cs = some x) : ∃ v T, cs = [v] ∧ TreeAt w v T := by
  rcases open_slice Try.underlying23 h with ⟨rfl, _⟩ | ⟨a, len, cap, m, n, D, Pl, rfl, _, _, _, hm, _, hx⟩
  · exact ⟨_, [], rfl, none, 0, rfl, fun h => by simp at h⟩
  · have hle : len ≤ m := by rw [hm]; split <;> omega
    rw [cells49] at hx
    by_cases h0 : len = 0
    · subst h0
      exact ⟨_, [], rfl, some a, cap, rfl, fun h => by simp at h⟩
    · obtain ⟨cs0, k0, _⟩ := hx 0 (by omega)
      obtain ⟨_, hl0, hc0⟩ := World.cells?_some k0
      have e0 := hc0 0 (by omega)
      have hz : (a.add (0 * 7)).add 0 = a := by simp [Addr.add]
      rw [hz, List.getElem?_eq_getElem (by omega)] at e0
      obtain ⟨b, off, rfl⟩ := plain_of_cell e0
      obtain ⟨F, hF⟩ := choose_lt (α := Nd) (n := len) (p := fun i q => ∃ kv av, NodeAt w b (off + i * 7) q kv av) (fun i hi => by
        obtain ⟨cs', k1, k2⟩ := hx i (by omega)
        obtain ⟨_, hl1, hc1⟩ := World.cells?_some k1
        exact trod_nodeAt (fun j hj => by rw [← hc1 j hj, add_none, add_none]) k2)
      refine ⟨_, (List.range len).map F, rfl, some ⟨b, off, none⟩, cap, by simp, fun _ => ⟨b, off, rfl, fun j hj => ?_⟩⟩
      have hj' : j < len := by simpa using hj
      unfold nd
      rw [getD_map_range F len j default hj']
      exact hF j hj'
end
end Go.Proofs.Ytgfdcllpmjhkeaa
