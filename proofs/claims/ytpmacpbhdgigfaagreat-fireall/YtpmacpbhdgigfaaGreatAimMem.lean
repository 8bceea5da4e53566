/- Stops and visits as they lie in memory. -/
import Derived.Test.YtpmacpbhdgigfaaGreatAimPath
import Derived.Test.YtpmacpbhdgigfaaGreatOrdL
import Derived.Test.YtpmacpbhdgigfaaGreatGenH
namespace Go.Proofs.YtpmacpbhdgigfaaGreat
open Go.RowKit

/-- The cells. -/
structure StAt (w : World) (b o : Nat) (h : St) : Prop where
  node : w.cell? ⟨b, o, none⟩ = some (.int .i64 h.node)
  tg : w.cell? ⟨b, o + 1, none⟩ = some (.int .i64 h.tg)
  rel : w.cell? ⟨b, o + 2, none⟩ = some (.int .i64 h.rel)
def StsAt (w : World) (v : Value) (l : List St) : Prop :=
  ∃ a cap, v = .slice a l.length cap ∧ l.length ≤ cap ∧ (0 < l.length → ∃ b off, a = some ⟨b, off, none⟩ ∧ ∀ j, j < l.length → StAt w b (off + j * 3) (l.getD j stD))
theorem StAt.below {w w' : World} {b o : Nat} {h : St} (H : StAt w b o h) (hb : Below w.heap.size w w') : StAt w' b o h :=
  ⟨cell_below hb H.node, cell_below hb H.tg, cell_below hb H.rel⟩
theorem StsAt.below {w w' : World} {v : Value} {l : List St} (h : StsAt w v l) (hb : Below w.heap.size w w') : StsAt w' v l := by
  obtain ⟨a, cap, rfl, hc⟩ := h
  refine ⟨a, cap, rfl, hc.1, fun h0 => ?_⟩
  obtain ⟨b, off, rfl, hd⟩ := hc.2 h0
  exact ⟨b, off, rfl, fun j hj => (hd j hj).below hb⟩
theorem StsAt.shape {w : World} {v : Value} {l : List St} (h : StsAt w v l) : ∃ a c, v = .slice a l.length c := let ⟨a, c, h, _⟩ := h; ⟨a, c, h⟩
def stCells : List St → List Value
  | [] => []
  | h :: l => [.int .i64 h.node, .int .i64 h.tg, .int .i64 h.rel] ++ stCells l
theorem stCells_length : ∀ l : List St, (stCells l).length = l.length * 3
  | [] => rfl
  | h :: l => by simp only [stCells, List.length_append, List.length_cons, List.length_nil, stCells_length l]; omega
theorem stCells_one : ∀ l : List St, ∀ u ∈ stCells l, u.oneCell' = true
  | [], u, h => by simp [stCells] at h
  | h :: l, u, hu => by
    simp only [stCells, List.mem_append, List.mem_cons, List.not_mem_nil, or_false] at hu
    rcases hu with (rfl | rfl | rfl) | hu
    all_goals first | rfl | exact stCells_one l u hu
theorem stCells_append : ∀ a b : List St, stCells (a ++ b) = stCells a ++ stCells b
  | [], b => by simp [stCells]
  | x :: a, b => by rw [List.cons_append, stCells, stCells, stCells_append a b, List.append_assoc]
theorem stCells_at : ∀ {l : List St} {j : Nat}, j < l.length → (stCells l)[j * 3]? = some (.int .i64 (l.getD j stD).node) ∧ (stCells l)[j * 3 + 1]? = some (.int .i64 (l.getD j stD).tg) ∧ (stCells l)[j * 3 + 2]? = some (.int .i64 (l.getD j stD).rel)
  | [], j, h => by simp at h
  | x :: l, 0, _ => by simp [stCells]
  | x :: l, j + 1, h => by
    have hj : j < l.length := by simpa using h
    have := stCells_at hj
    have e : ∀ q, (stCells (x :: l))[(j + 1) * 3 + q]? = (stCells l)[j * 3 + q]? := fun q => by
      rw [stCells, List.getElem?_append_right (by simp; omega)]
      congr 1; simp; omega
    have e0 := e 0
    simp only [Nat.add_zero] at e0
    simp only [List.getD_cons_succ, e, e0]
    exact this
theorem ownsRow_stCells {w : World} {base : Nat} {t : TypeId} {v : Value} {l : List St} (h : w.ownsRow base t 3 v l.length (stCells l)) : StsAt w v l := by
  rcases h.2 with ⟨rfl, h0⟩ | ⟨g, cap, cur, rfl, hb, hg, hn, hm, hs, ht⟩
  · exact ⟨none, 0, by rw [h0], by omega, fun h => by omega⟩
  · refine ⟨_, cap, rfl, hn, fun _ => ⟨g, 0, rfl, fun j hj => ?_⟩⟩
    obtain ⟨e0, e1, e2⟩ := stCells_at hj
    rw [Nat.zero_add]
    exact ⟨by rw [h.cellAt (j * 3) (by omega), e0], by rw [h.cellAt (j * 3 + 1) (by omega), e1], by rw [h.cellAt (j * 3 + 2) (by omega), e2]⟩
/-- The cells. -/
structure ViAt (w : World) (b o : Nat) (h : Vi) : Prop where
  node : w.cell? ⟨b, o, none⟩ = some (.int .i64 h.s.node)
  tg : w.cell? ⟨b, o + 1, none⟩ = some (.int .i64 h.s.tg)
  rel : w.cell? ⟨b, o + 2, none⟩ = some (.int .i64 h.s.rel)
  phase : w.cell? ⟨b, o + 3, none⟩ = some (.int .i64 h.phase)
  cap : w.cell? ⟨b, o + 4, none⟩ = some (.bool h.cap)
def VisAt (w : World) (v : Value) (l : List Vi) : Prop :=
  ∃ a cap, v = .slice a l.length cap ∧ l.length ≤ cap ∧ (0 < l.length → ∃ b off, a = some ⟨b, off, none⟩ ∧ ∀ j, j < l.length → ViAt w b (off + j * 5) (l.getD j viD))
theorem ViAt.below {w w' : World} {b o : Nat} {h : Vi} (H : ViAt w b o h) (hb : Below w.heap.size w w') : ViAt w' b o h :=
  ⟨cell_below hb H.node, cell_below hb H.tg, cell_below hb H.rel, cell_below hb H.phase, cell_below hb H.cap⟩
theorem VisAt.below {w w' : World} {v : Value} {l : List Vi} (h : VisAt w v l) (hb : Below w.heap.size w w') : VisAt w' v l := by
  obtain ⟨a, cap, rfl, hc⟩ := h
  refine ⟨a, cap, rfl, hc.1, fun h0 => ?_⟩
  obtain ⟨b, off, rfl, hd⟩ := hc.2 h0
  exact ⟨b, off, rfl, fun j hj => (hd j hj).below hb⟩
theorem VisAt.shape {w : World} {v : Value} {l : List Vi} (h : VisAt w v l) : ∃ a c, v = .slice a l.length c := let ⟨a, c, h, _⟩ := h; ⟨a, c, h⟩
def viCells : List Vi → List Value
  | [] => []
  | h :: l => [.int .i64 h.s.node, .int .i64 h.s.tg, .int .i64 h.s.rel, .int .i64 h.phase, .bool h.cap] ++ viCells l
theorem viCells_length : ∀ l : List Vi, (viCells l).length = l.length * 5
  | [] => rfl
  | h :: l => by simp only [viCells, List.length_append, List.length_cons, List.length_nil, viCells_length l]; omega
theorem viCells_one : ∀ l : List Vi, ∀ u ∈ viCells l, u.oneCell' = true
  | [], u, h => by simp [viCells] at h
  | h :: l, u, hu => by
    simp only [viCells, List.mem_append, List.mem_cons, List.not_mem_nil, or_false] at hu
    rcases hu with (rfl | rfl | rfl | rfl | rfl) | hu
    all_goals first | rfl | exact viCells_one l u hu
theorem viCells_append : ∀ a b : List Vi, viCells (a ++ b) = viCells a ++ viCells b
  | [], b => by simp [viCells]
  | x :: a, b => by rw [List.cons_append, viCells, viCells, viCells_append a b, List.append_assoc]
theorem viCells_at : ∀ {l : List Vi} {j : Nat}, j < l.length → (viCells l)[j * 5]? = some (.int .i64 (l.getD j viD).s.node) ∧ (viCells l)[j * 5 + 1]? = some (.int .i64 (l.getD j viD).s.tg) ∧ (viCells l)[j * 5 + 2]? = some (.int .i64 (l.getD j viD).s.rel) ∧ (viCells l)[j * 5 + 3]? = some (.int .i64 (l.getD j viD).phase) ∧ (viCells l)[j * 5 + 4]? = some (.bool (l.getD j viD).cap)
  | [], j, h => by simp at h
  | x :: l, 0, _ => by simp [viCells]
  | x :: l, j + 1, h => by
    have hj : j < l.length := by simpa using h
    have := viCells_at hj
    have e : ∀ q, (viCells (x :: l))[(j + 1) * 5 + q]? = (viCells l)[j * 5 + q]? := fun q => by
      rw [viCells, List.getElem?_append_right (by simp; omega)]
      congr 1; simp; omega
    have e0 := e 0
    simp only [Nat.add_zero] at e0
    simp only [List.getD_cons_succ, e, e0]
    exact this
theorem ownsRow_viCells {w : World} {base : Nat} {t : TypeId} {v : Value} {l : List Vi} (h : w.ownsRow base t 5 v l.length (viCells l)) : VisAt w v l := by
  rcases h.2 with ⟨rfl, h0⟩ | ⟨g, cap, cur, rfl, hb, hg, hn, hm, hs, ht⟩
  · exact ⟨none, 0, by rw [h0], by omega, fun h => by omega⟩
  · refine ⟨_, cap, rfl, hn, fun _ => ⟨g, 0, rfl, fun j hj => ?_⟩⟩
    obtain ⟨e0, e1, e2, e3, e4⟩ := viCells_at hj
    rw [Nat.zero_add]
    exact ⟨by rw [h.cellAt (j * 5) (by omega), e0], by rw [h.cellAt (j * 5 + 1) (by omega), e1], by rw [h.cellAt (j * 5 + 2) (by omega), e2], by rw [h.cellAt (j * 5 + 3) (by omega), e3], by rw [h.cellAt (j * 5 + 4) (by omega), e4]⟩
theorem row_newS (w : World) (t : TypeId) (a b c : Int) : Holds (w.alloc (.cells #[.int .i64 a, .int .i64 b, .int .i64 c] t)) (.slice (some ⟨w.heap.size, 0, none⟩) 1 1) 1 [.int .i64 a, .int .i64 b, .int .i64 c] := by
  refine .inl ⟨_, 1, rfl, fun j u hj => ?_⟩
  rw [addr_add, Nat.zero_add]
  have hlt : j < 3 := by have := (List.getElem?_eq_some_iff.1 hj).1; simpa using this
  have hc : j = 0 ∨ j = 1 ∨ j = 2 := by omega
  rcases hc with rfl | rfl | rfl <;> simpa using hj
theorem row_newV (w : World) (t : TypeId) (a b c d : Int) (e : Bool) : Holds (w.alloc (.cells #[.int .i64 a, .int .i64 b, .int .i64 c, .int .i64 d, .bool e] t)) (.slice (some ⟨w.heap.size, 0, none⟩) 1 1) 1 [.int .i64 a, .int .i64 b, .int .i64 c, .int .i64 d, .bool e] := by
  refine .inl ⟨_, 1, rfl, fun j u hj => ?_⟩
  rw [addr_add, Nat.zero_add]
  have hlt : j < 5 := by have := (List.getElem?_eq_some_iff.1 hj).1; simpa using this
  have hc : j = 0 ∨ j = 1 ∨ j = 2 ∨ j = 3 ∨ j = 4 := by omega
  rcases hc with rfl | rfl | rfl | rfl | rfl <;> simpa using hj
theorem infoSt : (Tryz.prog.info? 37).map (fun i => (i.zero, i.size, i.bytes)) = some (some (.agg #[.int .i64 0, .int .i64 0, .int .i64 0]), 3, 24) := by kernel_rfl
theorem infoVi : (Tryz.prog.info? 39).map (fun i => (i.zero, i.size, i.bytes)) = some (some (.agg #[.int .i64 0, .int .i64 0, .int .i64 0, .int .i64 0, .bool false]), 5, 40) := by kernel_rfl
theorem frozen_below {w w' : World} (hb : Below w.heap.size w w') {a : Addr} {v : Value} (h : w.cell? a = some v) (hf : w.frozen? a = false) : w'.frozen? a = false := (hb.frozen (below_of_cell h)).trans hf
end Go.Proofs.YtpmacpbhdgigfaaGreat
