/- Rows of listeners; has, For, and the document's own May, one, place, Same, For. -/
import Derived.Test.YtpmacpbhdgigfaaGreatHear1
namespace Go.Proofs.YtpmacpbhdgigfaaGreat.L8
open Go.RowKit

def hearCells : List Hr → List Value
  | [] => []
  | h :: l => .int .i64 h.node :: .int .i64 h.type :: .bool h.cap :: .bool h.once :: .int .i64 h.prog :: hearCells l
theorem hearCells_length : ∀ l : List Hr, (hearCells l).length = l.length * 5
  | [] => rfl
  | a :: l => by simp [hearCells, hearCells_length l]; omega
theorem hearCells_one : ∀ l : List Hr, ∀ u ∈ hearCells l, u.oneCell' = true
  | [], u, hu => by simp [hearCells] at hu
  | a :: l, u, hu => by
    simp only [hearCells, List.mem_cons] at hu
    rcases hu with rfl | rfl | rfl | rfl | rfl | hu
    · rfl
    · rfl
    · rfl
    · rfl
    · rfl
    · exact hearCells_one l u hu
theorem hearCells_append : ∀ a b : List Hr, hearCells (a ++ b) = hearCells a ++ hearCells b
  | [], b => rfl
  | x :: a, b => by simp [hearCells, hearCells_append a b]
theorem hearCells_take : ∀ (l : List Hr) (k : Nat), hearCells (l.take k) = (hearCells l).take (k * 5)
  | [], k => by simp [hearCells]
  | x :: l, 0 => by simp [hearCells]
  | x :: l, k + 1 => by rw [show (k + 1) * 5 = k * 5 + 1 + 1 + 1 + 1 + 1 by omega]; simp [hearCells, hearCells_take l k]
theorem hearCells_drop : ∀ (l : List Hr) (k : Nat), hearCells (l.drop k) = (hearCells l).drop (k * 5)
  | [], k => by simp [hearCells]
  | x :: l, 0 => by simp
  | x :: l, k + 1 => by rw [show (k + 1) * 5 = k * 5 + 1 + 1 + 1 + 1 + 1 by omega]; simp [hearCells, hearCells_drop l k]
theorem hearCells_at : ∀ {l : List Hr} {j : Nat}, j < l.length → (hearCells l)[j * 5]? = some (.int .i64 (l.getD j hrD).node) ∧ (hearCells l)[j * 5 + 1]? = some (.int .i64 (l.getD j hrD).type) ∧ (hearCells l)[j * 5 + 2]? = some (.bool (l.getD j hrD).cap) ∧ (hearCells l)[j * 5 + 3]? = some (.bool (l.getD j hrD).once) ∧ (hearCells l)[j * 5 + 4]? = some (.int .i64 (l.getD j hrD).prog)
  | [], j, h => by simp at h
  | a :: l, 0, h => by simp [hearCells]
  | a :: l, j + 1, h => by
    have ih := hearCells_at (l := l) (j := j) (by simpa using h)
    rw [show (j + 1) * 5 = j * 5 + 1 + 1 + 1 + 1 + 1 by omega, show j * 5 + 1 + 1 + 1 + 1 + 1 + 1 = j * 5 + 1 + 1 + 1 + 1 + 1 + 1 from rfl, show j * 5 + 1 + 1 + 1 + 1 + 1 + 2 = j * 5 + 2 + 1 + 1 + 1 + 1 + 1 by omega, show j * 5 + 1 + 1 + 1 + 1 + 1 + 3 = j * 5 + 3 + 1 + 1 + 1 + 1 + 1 by omega, show j * 5 + 1 + 1 + 1 + 1 + 1 + 4 = j * 5 + 4 + 1 + 1 + 1 + 1 + 1 by omega]
    simp only [hearCells, List.getElem?_cons_succ, List.getD_cons_succ]
    exact ih
theorem HearsAt.cells {w : World} {a : Addr} {n cap : Nat} {l : List Hr} (h : HearsAt w (.slice (some a) n cap) l) : n = l.length ∧ ∀ j u, (hearCells l)[j]? = some u → w.cell? (a.add j) = some u := by
  obtain ⟨a', cap', hv, hc⟩ := h
  simp only [Value.slice.injEq] at hv
  obtain ⟨rfl, rfl, rfl⟩ := hv
  refine ⟨rfl, fun j u hu => ?_⟩
  have hj : j < l.length * 5 := by
    have := (List.getElem?_eq_some_iff.1 hu).1
    rwa [hearCells_length] at this
  obtain ⟨b, off, hb, hd⟩ := hc.2 (by omega)
  simp only [Option.some.injEq] at hb
  subst hb
  rw [addr_add, ← hu]
  obtain ⟨e0, e1, e2, e3, e4⟩ := hearCells_at (l := l) (j := j / 5) (by omega)
  obtain ⟨f0, f1, f2, f3, f4⟩ := hd (j / 5) (by omega)
  have hc : j % 5 = 0 ∨ j % 5 = 1 ∨ j % 5 = 2 ∨ j % 5 = 3 ∨ j % 5 = 4 := by omega
  rcases hc with h0 | h0 | h0 | h0 | h0
  · have ej : j / 5 * 5 = j := by omega
    rw [ej] at e0 f0
    rw [e0]; exact f0
  · have ej : j / 5 * 5 + 1 = j := by omega
    have ej' : off + j / 5 * 5 + 1 = off + j := by omega
    rw [ej] at e1; rw [ej'] at f1
    rw [e1]; exact f1
  · have ej : j / 5 * 5 + 2 = j := by omega
    have ej' : off + j / 5 * 5 + 2 = off + j := by omega
    rw [ej] at e2; rw [ej'] at f2
    rw [e2]; exact f2
  · have ej : j / 5 * 5 + 3 = j := by omega
    have ej' : off + j / 5 * 5 + 3 = off + j := by omega
    rw [ej] at e3; rw [ej'] at f3
    rw [e3]; exact f3
  · have ej : j / 5 * 5 + 4 = j := by omega
    have ej' : off + j / 5 * 5 + 4 = off + j := by omega
    rw [ej] at e4; rw [ej'] at f4
    rw [e4]; exact f4
theorem ownsRow_hears {w : World} {base : Nat} {v : Value} {l : List Hr} (h : w.ownsRow base 35 5 v l.length (hearCells l)) : HearsAt w v l := by
  rcases h.2 with ⟨rfl, h0⟩ | ⟨g, cap, cur, rfl, hb, hg, hn, hm, hs, ht⟩
  · exact ⟨none, 0, by rw [h0], by omega, fun h => by omega⟩
  · refine ⟨_, cap, rfl, hn, fun _ => ⟨g, 0, rfl, fun j hj => ?_⟩⟩
    obtain ⟨e0, e1, e2, e3, e4⟩ := hearCells_at hj
    rw [Nat.zero_add]
    exact ⟨by rw [h.cellAt (j * 5) (by omega), e0], by rw [h.cellAt (j * 5 + 1) (by omega), e1], by rw [h.cellAt (j * 5 + 2) (by omega), e2], by rw [h.cellAt (j * 5 + 3) (by omega), e3], by rw [h.cellAt (j * 5 + 4) (by omega), e4]⟩
theorem hears_holds {w : World} {v : Value} {l : List Hr} (h : HearsAt w v l) : Holds w v l.length (hearCells l) := by
  obtain ⟨a, cap, rfl, hc⟩ := h
  cases a with
  | none =>
    have h0 : l = [] := by
      cases l with
      | nil => rfl
      | cons a l => obtain ⟨b, off, e, _⟩ := hc.2 (by simp); cases e
    subst h0
    exact .inr ⟨cap, rfl, rfl, rfl⟩
  | some ad =>
    obtain ⟨_, h2⟩ := HearsAt.cells (w := w) (a := ad) (n := l.length) (cap := cap) (l := l) ⟨some ad, cap, rfl, hc⟩
    exact .inl ⟨ad, cap, rfl, h2⟩
theorem row_newH (w : World) (h : Hr) : Holds (w.alloc (.cells #[.int .i64 h.node, .int .i64 h.type, .bool h.cap, .bool h.once, .int .i64 h.prog] 35)) (.slice (some ⟨w.heap.size, 0, none⟩) 1 1) 1 [.int .i64 h.node, .int .i64 h.type, .bool h.cap, .bool h.once, .int .i64 h.prog] := by
  refine .inl ⟨_, 1, rfl, fun j u hj => ?_⟩
  rw [addr_add, Nat.zero_add]
  have hlt : j < 5 := by have := (List.getElem?_eq_some_iff.1 hj).1; simpa using this
  have hc : j = 0 ∨ j = 1 ∨ j = 2 ∨ j = 3 ∨ j = 4 := by omega
  rcases hc with rfl | rfl | rfl | rfl | rfl <;> simpa using hj
theorem infoT24 : (Tryz.prog.info? 35).map (fun i => (i.zero, i.size, i.bytes)) = some (some (.agg #[.int .i64 0, .int .i64 0, .bool false, .bool false, .int .i64 0]), 5, 32) := by kernel_rfl

/-- Is one with another one there? -/
def hasB (l : List Hr) (h : Hr) : Bool := decide (findL h l < l.length)
theorem findI_has (l : List Hr) (h : Hr) : findI l h = if hasB l h then (findL h l : Int) else -1 := by
  unfold findI hasB
  by_cases e : findL h l < l.length <;> simp [e]

end Go.Proofs.YtpmacpbhdgigfaaGreat.L8
