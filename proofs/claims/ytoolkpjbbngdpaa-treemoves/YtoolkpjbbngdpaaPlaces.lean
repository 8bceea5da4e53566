/- Arguments that are places, or lists of places. -/
import Derived.Test.YtoolkpjbbngdpaaRowKit1
namespace Go.Proofs.Ytoolkpjbbngdpaa
open Go.ChangeShapes Go.WideShapes Go.ChangeAt Go.RowKit Go.Deep

/-- A list of places: three cells each. -/
def PlacesAt (w : World) (v : Value) (l : List (Int × Int × Int)) : Prop :=
  ∃ a cap, v = .slice a l.length cap ∧ (0 < l.length → ∃ b off, a = some ⟨b, off, none⟩ ∧ ∀ j, j < l.length → w.cell? ⟨b, off + j * 3, none⟩ = some (.int .i64 (l.getD j (0, 0, 0)).1) ∧ w.cell? ⟨b, off + j * 3 + 1, none⟩ = some (.int .i64 (l.getD j (0, 0, 0)).2.1) ∧ w.cell? ⟨b, off + j * 3 + 2, none⟩ = some (.int .i64 (l.getD j (0, 0, 0)).2.2))

theorem cells33 : Try.prog.cellsOf 33 = 3 := by kernel_rfl

section
variable {H : Type} {enc : TypeId × Value → H} {w : World} {base : Nat} {spare : Nat → Bool} {held : Bool}

set_option maxRecDepth 100000 in
theorem trod_place {fuel : Nat} {cs : List Value} {x : DataW H × List MemPlace} (h : DataW.trod enc Try.prog w base spare held fuel 33 cs = some x) :
    ∃ q : Int × Int × Int, cs = [.int .i64 q.1, .int .i64 q.2.1, .int .i64 q.2.2] := by
  obtain ⟨xs, n, _, _, hl, hxl, hf⟩ := DataW.trod_struct Try.underlying33 h
  rw [cells33] at hl
  match cs, hl, xs, hxl with
  | [c0, c1, c2], _, [y0, y1, y2], _ =>
    have g0 := hf 0 _ rfl
    have g1 := hf 1 _ rfl
    have g2 := hf 2 _ rfl
    replace g0 : DataW.trod enc Try.prog w base spare held n 3 [c0] = some y0 := g0
    replace g1 : DataW.trod enc Try.prog w base spare held n 3 [c1] = some y1 := g1
    replace g2 : DataW.trod enc Try.prog w base spare held n 3 [c2] = some y2 := g2
    obtain ⟨q0, e0, _, _⟩ := DataW.trod_int Try.underlying3 g0
    obtain ⟨q1, e1, _, _⟩ := DataW.trod_int Try.underlying3 g1
    obtain ⟨q2, e2, _, _⟩ := DataW.trod_int Try.underlying3 g2
    simp only [List.cons.injEq, and_true] at e0 e1 e2
    exact ⟨(q0, q1, q2), by rw [e0, e1, e2]⟩

theorem trod_placesAt {fuel : Nat} {cs : List Value} {x : DataW H × List MemPlace} (h : DataW.trod enc Try.prog w base spare held fuel 42 cs = some x) : ∃ v l, cs = [v] ∧ PlacesAt w v l := by
  rcases open_slice Try.underlying42 h with ⟨rfl, _⟩ | ⟨a, len, cap, m, n, D, Pl, rfl, _, _, _, hm, _, hx⟩
  · exact ⟨_, [], rfl, none, 0, rfl, fun h => by simp at h⟩
  · have hle : len ≤ m := by rw [hm]; split <;> omega
    rw [cells33] at hx
    by_cases h0 : len = 0
    · subst h0
      exact ⟨_, [], rfl, some a, cap, rfl, fun h => by simp at h⟩
    · obtain ⟨cs0, k0, _⟩ := hx 0 (by omega)
      obtain ⟨_, hl0, hc0⟩ := World.cells?_some k0
      have e0 := hc0 0 (by omega)
      have hz : (a.add (0 * 3)).add 0 = a := by simp [Addr.add]
      rw [hz, List.getElem?_eq_getElem (by omega)] at e0
      obtain ⟨b, off, rfl⟩ := plain_of_cell e0
      obtain ⟨F, hF⟩ := choose_lt (α := Int × Int × Int) (n := len) (p := fun i q => w.cell? ⟨b, off + i * 3, none⟩ = some (.int .i64 q.1) ∧ w.cell? ⟨b, off + i * 3 + 1, none⟩ = some (.int .i64 q.2.1) ∧ w.cell? ⟨b, off + i * 3 + 2, none⟩ = some (.int .i64 q.2.2)) (fun i hi => by
        obtain ⟨cs', k1, k2⟩ := hx i (by omega)
        obtain ⟨_, hl1, hc1⟩ := World.cells?_some k1
        obtain ⟨q, rfl⟩ := trod_place k2
        refine ⟨q, ?_, ?_, ?_⟩
        · have := hc1 0 (by omega); rw [add_none, add_none] at this; exact this
        · have := hc1 1 (by omega); rw [add_none, add_none] at this; exact this
        · have := hc1 2 (by omega); rw [add_none, add_none] at this; exact this)
      refine ⟨_, (List.range len).map F, rfl, some ⟨b, off, none⟩, cap, by simp, fun _ => ⟨b, off, rfl, fun j hj => ?_⟩⟩
      have hj' : j < len := by simpa using hj
      rw [getD_map_range F len j (0, 0, 0) hj']
      exact hF j hj'

theorem open_places {r : Reach} {b0 : Nat} {v : Value} {d : DataW H} {ps : List MemPlace} (hval : Value.okWide Try.prog w r b0 42 v) (h : DataW.Trod enc Try.prog w base spare held 42 v d ps) : ∃ l, PlacesAt w v l := by
  obtain ⟨a, len, cap, rfl⟩ := okWide_slice Try.underlying42 hval
  obtain ⟨fuel, hf⟩ := h
  obtain ⟨v, l, hv, hl⟩ := trod_placesAt hf
  simp only [Value.cells, List.cons.injEq, and_true] at hv
  exact ⟨l, by rw [hv]; exact hl⟩

set_option maxRecDepth 100000 in
theorem open_place {r : Reach} {b0 : Nat} {v : Value} {d : DataW H} {ps : List MemPlace} (hval : Value.okWide Try.prog w r b0 33 v) (h : DataW.Trod enc Try.prog w base spare held 33 v d ps) : ∃ p c b : Int, v = .agg #[.int .i64 p, .int .i64 c, .int .i64 b] := by
  obtain ⟨cs, rfl, hz⟩ := okWide_struct Try.underlying33 hval
  obtain ⟨fuel, hf⟩ := h
  obtain ⟨q, hq⟩ := trod_place hf
  obtain ⟨l⟩ := cs
  have hq' : l = [.int .i64 q.1, .int .i64 q.2.1, .int .i64 q.2.2] := hq
  exact ⟨q.1, q.2.1, q.2.2, by rw [hq']⟩
end

theorem PlacesAt.below {w w' : World} {v : Value} {l : List (Int × Int × Int)} (h : PlacesAt w v l) (hb : Below w.heap.size w w') : PlacesAt w' v l := by
  obtain ⟨a, cap, rfl, hc⟩ := h
  refine ⟨a, cap, rfl, fun h0 => ?_⟩
  obtain ⟨b, off, rfl, hd⟩ := hc h0
  exact ⟨b, off, rfl, fun j hj => ⟨cell_below hb (hd j hj).1, cell_below hb (hd j hj).2.1, cell_below hb (hd j hj).2.2⟩⟩
end Go.Proofs.Ytoolkpjbbngdpaa
