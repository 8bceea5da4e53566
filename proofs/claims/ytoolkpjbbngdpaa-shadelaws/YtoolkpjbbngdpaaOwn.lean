/- A tree in memory of a call's own: its rows, and that they lie apart. -/
import Derived.Test.YtoolkpjbbngdpaaClone
namespace Go.Proofs.Ytoolkpjbbngdpaa
open Go.RowKit

/-- Two slices lie in two blocks. -/
def Apart (a b : Value) : Prop := ∀ k, a.ownBlock = some k → b.ownBlock ≠ some k
theorem Apart.symm {a b : Value} (h : Apart a b) : Apart b a := fun k hb ha => h k ha hb
theorem Apart.hne {a b : Value} (h : Apart a b) : a.ownBlock = none ∨ a.ownBlock ≠ b.ownBlock := by
  cases ha : a.ownBlock with
  | none => exact .inl rfl
  | some k => exact .inr (fun e => h k ha e.symm)

def intCells (l : List Int) : List Value := l.map fun x => .int .i64 x
def attrCells : List (Int × Int) → List Value
  | [] => []
  | a :: l => .int .i64 a.1 :: .int .i64 a.2 :: attrCells l

theorem intCells_length (l : List Int) : (intCells l).length = l.length * 1 := by simp [intCells]
theorem attrCells_length : ∀ l : List (Int × Int), (attrCells l).length = l.length * 2
  | [] => rfl
  | a :: l => by simp [attrCells, attrCells_length l]; omega
theorem intCells_one (l : List Int) : ∀ u ∈ intCells l, u.oneCell' = true := by
  intro u hu
  simp only [intCells, List.mem_map] at hu
  obtain ⟨x, _, rfl⟩ := hu
  rfl
theorem attrCells_one : ∀ l : List (Int × Int), ∀ u ∈ attrCells l, u.oneCell' = true
  | [], u, hu => by simp [attrCells] at hu
  | a :: l, u, hu => by
    simp only [attrCells, List.mem_cons] at hu
    rcases hu with rfl | rfl | hu
    · rfl
    · rfl
    · exact attrCells_one l u hu
theorem intCells_at {l : List Int} {j : Nat} (h : j < l.length) : (intCells l)[j]? = some (.int .i64 (l.getD j 0)) := by
  simp [intCells, List.getElem?_eq_getElem h]
theorem attrCells_at : ∀ {l : List (Int × Int)} {j : Nat}, j < l.length → (attrCells l)[j * 2]? = some (.int .i64 (l.getD j (0, 0)).1) ∧ (attrCells l)[j * 2 + 1]? = some (.int .i64 (l.getD j (0, 0)).2)
  | [], j, h => by simp at h
  | a :: l, 0, h => by simp [attrCells]
  | a :: l, j + 1, h => by
    have ih := attrCells_at (l := l) (j := j) (by simpa using h)
    rw [show (j + 1) * 2 = j * 2 + 1 + 1 by omega]
    simp only [attrCells, List.getElem?_cons_succ, List.getD_cons_succ]
    exact ih

theorem addr_add (b o j : Nat) : (⟨b, o, none⟩ : Addr).add j = ⟨b, o + j, none⟩ := by unfold Addr.add; split <;> simp_all

theorem IntsAt.cells {w : World} {a : Addr} {n cap : Nat} {l : List Int} (h : IntsAt w (.slice (some a) n cap) l) : n = l.length ∧ ∀ j u, (intCells l)[j]? = some u → w.cell? (a.add j) = some u := by
  obtain ⟨a', cap', hv, hc⟩ := h
  simp only [Value.slice.injEq] at hv
  obtain ⟨rfl, rfl, rfl⟩ := hv
  refine ⟨rfl, fun j u hu => ?_⟩
  have hj : j < l.length := by
    have := (List.getElem?_eq_some_iff.1 hu).1
    simpa [intCells] using this
  obtain ⟨b, off, hb, hd⟩ := hc (by omega)
  simp only [Option.some.injEq] at hb
  subst hb
  rw [addr_add, hd j hj, ← hu, intCells_at hj]
theorem AttrsAt.cells {w : World} {a : Addr} {n cap : Nat} {l : List (Int × Int)} (h : AttrsAt w (.slice (some a) n cap) l) : n = l.length ∧ ∀ j u, (attrCells l)[j]? = some u → w.cell? (a.add j) = some u := by
  obtain ⟨a', cap', hv, hc⟩ := h
  simp only [Value.slice.injEq] at hv
  obtain ⟨rfl, rfl, rfl⟩ := hv
  refine ⟨rfl, fun j u hu => ?_⟩
  have hj : j < l.length * 2 := by
    have := (List.getElem?_eq_some_iff.1 hu).1
    rwa [attrCells_length] at this
  obtain ⟨b, off, hb, hd⟩ := hc (by omega)
  simp only [Option.some.injEq] at hb
  subst hb
  rw [addr_add, ← hu]
  have e1 := attrCells_at (l := l) (j := j / 2) (by omega)
  have e2 := hd (j / 2) (by omega)
  rcases Nat.mod_two_eq_zero_or_one j with h0 | h0
  · have ej : j / 2 * 2 = j := by omega
    rw [ej] at e1 e2
    rw [e1.1]; exact e2.1
  · have ej : j / 2 * 2 + 1 = j := by omega
    have ej' : off + j / 2 * 2 + 1 = off + j := by omega
    rw [ej] at e1
    rw [ej'] at e2
    rw [e1.2]; exact e2.2

theorem ownsRow_base {w : World} {base base' : Nat} {e : TypeId} {size : Nat} {v : Value} {n : Nat} {xs : List Value} (h : w.ownsRow base e size v n xs) (hb : base' ≤ base) : w.ownsRow base' e size v n xs := by
  refine ⟨h.1, ?_⟩
  rcases h.2 with h | ⟨g, cap, cur, a, b, r⟩
  · exact .inl h
  · exact .inr ⟨g, cap, cur, a, by omega, r⟩
theorem ownsRow_below {w w' : World} {base : Nat} {e : TypeId} {size : Nat} {v : Value} {n : Nat} {xs : List Value} {K : Nat} (h : w.ownsRow base e size v n xs) (hb : Below K w w') (hk : ∀ g, v.ownBlock = some g → g < K) : w'.ownsRow base e size v n xs := by
  refine ⟨h.1, ?_⟩
  rcases h.2 with h | ⟨g, cap, cur, rfl, b, hg, r⟩
  · exact .inl h
  · exact .inr ⟨g, cap, cur, rfl, b, by rw [hb.block g (hk g rfl)]; exact hg, r⟩
theorem ownsRow_shape {w : World} {base : Nat} {e : TypeId} {size : Nat} {v : Value} {n : Nat} {xs : List Value} (h : w.ownsRow base e size v n xs) : ∃ a c, v = .slice a n c := by
  rcases h.2 with ⟨rfl, rfl⟩ | ⟨g, cap, cur, rfl, r⟩
  · exact ⟨_, _, rfl⟩
  · exact ⟨_, _, rfl⟩
theorem apart_new {w1 : World} {K : Nat} {e : TypeId} {size : Nat} {v u : Value} {n : Nat} {xs : List Value} (h : w1.ownsRow K e size v n xs) (hu : ∀ k, u.ownBlock = some k → k < K) : Apart v u := by
  intro k hv hu'
  have h1 := (h.lt k hv).1
  have h2 := hu k hu'
  omega

theorem ownsRow_ints {w : World} {base : Nat} {v : Value} {l : List Int} (h : w.ownsRow base 3 1 v l.length (intCells l)) : IntsAt w v l := by
  rcases h.2 with ⟨rfl, h0⟩ | ⟨g, cap, cur, rfl, hb, hg, hn, hm, hs, ht⟩
  · exact ⟨none, 0, by rw [h0], fun h => by omega⟩
  · refine ⟨_, cap, rfl, fun _ => ⟨g, 0, rfl, fun j hj => ?_⟩⟩
    rw [Nat.zero_add, h.cellAt j (by omega), intCells_at hj]
theorem ownsRow_attrs {w : World} {base : Nat} {v : Value} {l : List (Int × Int)} (h : w.ownsRow base 72 2 v l.length (attrCells l)) : AttrsAt w v l := by
  rcases h.2 with ⟨rfl, h0⟩ | ⟨g, cap, cur, rfl, hb, hg, hn, hm, hs, ht⟩
  · exact ⟨none, 0, by rw [h0], fun h => by omega⟩
  · refine ⟨_, cap, rfl, fun _ => ⟨g, 0, rfl, fun j hj => ?_⟩⟩
    rw [Nat.zero_add, h.cellAt (j * 2) (by omega), h.cellAt (j * 2 + 1) (by omega)]
    exact attrCells_at hj

/-- slices.Clone at numbers, nil or not. -/
theorem cloneInts (kv : Value) (l : List Int) (w : World) (h : IntsAt w kv l) (hl : l.length ≤ 1000000) :
    Calls Try.prog 99 #[kv] w fun e w' => ∃ v', e = .returned v' ∧ w'.ownsRow w.heap.size 3 1 v' l.length (intCells l) ∧ Below w.heap.size w w' := by
  have hk := h
  obtain ⟨a, cap, rfl, hc⟩ := h
  cases a with
  | none =>
    have h0 : l = [] := by
      cases l with
      | nil => rfl
      | cons x l => obtain ⟨b, off, hb, _⟩ := hc (by simp); cases hb
    subst h0
    refine (clone80_nil _ cap w).mono ?_
    rintro e w' ⟨rfl, rfl⟩
    exact ⟨_, rfl, World.ownsRow_nil _ _ _ _, Below.refl _ _⟩
  | some a =>
    refine (clone80_some a l.length cap (intCells l) w hl (intCells_length l) hk.cells.2 (intCells_one l)).mono ?_
    rintro e w' ⟨v', rfl, h1, h2, _⟩
    exact ⟨v', rfl, h1, h2⟩
theorem cloneAttrs (kv : Value) (l : List (Int × Int)) (w : World) (h : AttrsAt w kv l) (hl : l.length ≤ 1000000) :
    Calls Try.prog 100 #[kv] w fun e w' => ∃ v', e = .returned v' ∧ w'.ownsRow w.heap.size 72 2 v' l.length (attrCells l) ∧ Below w.heap.size w w' := by
  have hk := h
  obtain ⟨a, cap, rfl, hc⟩ := h
  cases a with
  | none =>
    have h0 : l = [] := by
      cases l with
      | nil => rfl
      | cons x l => obtain ⟨b, off, hb, _⟩ := hc (by simp); cases hb
    subst h0
    refine (clone81_nil _ cap w).mono ?_
    rintro e w' ⟨rfl, rfl⟩
    exact ⟨_, rfl, World.ownsRow_nil _ _ _ _, Below.refl _ _⟩
  | some a =>
    refine (clone81_some a l.length cap (attrCells l) w hl (attrCells_length l) hk.cells.2 (attrCells_one l)).mono ?_
    rintro e w' ⟨v', rfl, h1, h2, _⟩
    exact ⟨v', rfl, h1, h2⟩
end Go.Proofs.Ytoolkpjbbngdpaa
