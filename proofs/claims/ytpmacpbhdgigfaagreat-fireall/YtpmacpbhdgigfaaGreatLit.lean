/- Trees that a program's text writes out: several allocations in a row, and the tree that lies there. -/
import Derived.Test.YtpmacpbhdgigfaaGreatBits2
namespace Go.Proofs.YtpmacpbhdgigfaaGreat
open Go.RowKit

def allocs (w : World) (os : List Obj) : World := os.foldl World.alloc w
theorem allocs_size (w : World) (os : List Obj) : (allocs w os).heap.size = w.heap.size + os.length := by
  induction os generalizing w with
  | nil => rfl
  | cons o os ih => simp only [allocs, List.foldl_cons] at ih ⊢; rw [ih]; simp; omega
theorem allocs_below (w : World) (os : List Obj) : Below w.heap.size w (allocs w os) := by
  induction os generalizing w with
  | nil => exact Below.refl _ _
  | cons o os ih => exact ((Below.refl _ w).alloc (Nat.le_refl _) o).trans ((ih (w.alloc o)).mono (by simp))
theorem allocs_at (w : World) (os : List Obj) (i : Nat) (o : Obj) (h : os[i]? = some o) : (allocs w os).heap[w.heap.size + i]? = some o := by
  induction os generalizing w i with
  | nil => simp at h
  | cons p os ih =>
    cases i with
    | zero =>
      simp at h; subst h
      have hb := (allocs_below (w.alloc p) os).block w.heap.size (by simp)
      exact hb.trans (World.alloc_heap_new w p)
    | succ i =>
      have := ih (w.alloc p) i (by simpa using h)
      rw [World.size_alloc] at this
      rw [show w.heap.size + (i + 1) = w.heap.size + 1 + i by omega]
      exact this

theorem cell_of_cells {U : World} {g : Nat} {cs : Array Value} {t : TypeId} (h : U.heap[g]? = some (.cells cs t)) {j : Nat} {u : Value} (hj : cs[j]? = some u) : U.cell? ⟨g, j, none⟩ = some u := by
  simp [World.cell?, h, hj]
theorem ints_lit {U : World} {g : Nat} (l : List Int) {cs : Array Value} (h : U.heap[g]? = some (.cells cs 3)) (hc : cs = (intCells l).toArray) : IntsAt U (.slice (some ⟨g, 0, none⟩) l.length l.length) l := by
  refine ⟨_, l.length, rfl, fun _ => ⟨g, 0, rfl, fun j hj => ?_⟩⟩
  subst hc
  rw [Nat.zero_add]
  exact cell_of_cells h (by simp [intCells_at hj])
theorem attrs_lit {U : World} {g : Nat} {t : TypeId} (l : List (Int × Int)) {cs : Array Value} (h : U.heap[g]? = some (.cells cs t)) (hc : cs = (attrCells l).toArray) : AttrsAt U (.slice (some ⟨g, 0, none⟩) l.length l.length) l := by
  refine ⟨_, l.length, rfl, fun _ => ⟨g, 0, rfl, fun j hj => ?_⟩⟩
  subst hc
  have := attrCells_at hj
  rw [Nat.zero_add]
  exact ⟨cell_of_cells h (by simp [this.1]), cell_of_cells h (by simp [this.2])⟩
theorem ints_none (U : World) : IntsAt U (.slice none 0 0) [] := ⟨none, 0, rfl, fun h => by simp at h⟩
theorem attrs_none (U : World) : AttrsAt U (.slice none 0 0) [] := ⟨none, 0, rfl, fun h => by simp at h⟩

def nodesL : List (Nd × Value × Value) → List Value
  | [] => []
  | (x, kv, av) :: r => .int .i64 x.kind :: .int .i64 x.tag :: .int .i64 x.parent :: kv :: .int .i64 x.host :: .int .i64 x.root :: av :: nodesL r
theorem nodesL_at : ∀ (r : List (Nd × Value × Value)) (n : Nat) (x : Nd) (kv av : Value), r[n]? = some (x, kv, av) →
    (nodesL r)[n * 7]? = some (.int .i64 x.kind) ∧ (nodesL r)[n * 7 + 1]? = some (.int .i64 x.tag) ∧ (nodesL r)[n * 7 + 2]? = some (.int .i64 x.parent) ∧ (nodesL r)[n * 7 + 3]? = some kv ∧ (nodesL r)[n * 7 + 4]? = some (.int .i64 x.host) ∧ (nodesL r)[n * 7 + 5]? = some (.int .i64 x.root) ∧ (nodesL r)[n * 7 + 6]? = some av
  | [], n, x, kv, av, h => by simp at h
  | (y, kv', av') :: r, 0, x, kv, av, h => by
    simp only [List.getElem?_cons_zero, Option.some.injEq, Prod.mk.injEq] at h
    obtain ⟨rfl, rfl, rfl⟩ := h
    simp [nodesL]
  | (y, kv', av') :: r, n + 1, x, kv, av, h => by
    have ih := nodesL_at r n x kv av (by simpa using h)
    have e : ∀ j, (n + 1) * 7 + j = n * 7 + j + 1 + 1 + 1 + 1 + 1 + 1 + 1 := fun j => by omega
    have e0 : (n + 1) * 7 = n * 7 + 1 + 1 + 1 + 1 + 1 + 1 + 1 := by omega
    rw [e, e, e, e, e, e, e0]
    simpa only [nodesL, List.getElem?_cons_succ] using ih
/-- The tree whose nodes a block holds. -/
theorem tree_lit {U : World} {g : Nat} {cs : Array Value} (r : List (Nd × Value × Value)) (h : U.heap[g]? = some (.cells cs 79)) (hc : cs = (nodesL r).toArray) (hr : ∀ p ∈ r, IntsAt U p.2.1 p.1.kids ∧ AttrsAt U p.2.2 p.1.attrs) :
    TreeAt U (.slice (some ⟨g, 0, none⟩) r.length r.length) (r.map (·.1)) := by
  subst hc
  refine ⟨_, r.length, by simp, fun _ => ⟨g, 0, rfl, fun n hn => ?_⟩⟩
  have hn' : n < r.length := by simpa using hn
  obtain ⟨x, kv, av⟩ : Nd × Value × Value := r[n]
  obtain ⟨x, kv, av, hx⟩ : ∃ x kv av, r[n]? = some (x, kv, av) := ⟨r[n].1, r[n].2.1, r[n].2.2, List.getElem?_eq_getElem hn'⟩
  have hnd : nd (r.map (·.1)) n = x := by
    unfold nd
    rw [List.getD_eq_getElem?_getD, List.getElem?_map, hx]; rfl
  obtain ⟨h0, h1, h2, h3, h4, h5, h6⟩ := nodesL_at r n x kv av hx
  obtain ⟨hk, ha⟩ := hr (x, kv, av) (List.mem_of_getElem? hx)
  rw [hnd, Nat.zero_add]
  have f : ∀ {j : Nat} {u : Value}, (nodesL r)[j]? = some u → U.cell? ⟨g, j, none⟩ = some u := fun hj => cell_of_cells h (by simpa using hj)
  exact ⟨kv, av, f h0, f h1, f h2, f h3, f h4, f h5, f h6, hk, ha⟩
end Go.Proofs.YtpmacpbhdgigfaaGreat
