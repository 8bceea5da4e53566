/- tree.Copy: the same tree, in memory of the call's own, its rows apart. -/
import Derived.Test.YtoolkpjbbngdpaaOwn
namespace Go.Proofs.Ytoolkpjbbngdpaa
open Go.RowKit

def ndCells (x : Nd) (kv av : Value) : List Value := [.int .i64 x.kind, .int .i64 x.tag, .int .i64 x.parent, kv, .int .i64 x.host, .int .i64 x.root, av]
def rowCell (T : List Nd) (kv av : Nat → Value) (j : Nat) : Value := (ndCells (nd T (j / 7)) (kv (j / 7)) (av (j / 7))).getD (j % 7) undef
/-- The cells of a tree's row. -/
def rowL (T : List Nd) (kv av : Nat → Value) : List Value := (List.range (T.length * 7)).map (rowCell T kv av)
def upd {α : Type} (f : Nat → α) (n : Nat) (x : α) : Nat → α := fun m => if m = n then x else f m

theorem rowL_length (T : List Nd) (kv av : Nat → Value) : (rowL T kv av).length = T.length * 7 := by simp [rowL]
theorem rowL_at {T : List Nd} {kv av : Nat → Value} {j : Nat} (h : j < T.length * 7) : (rowL T kv av)[j]? = some (rowCell T kv av j) := by
  simp [rowL, List.getElem?_map, List.getElem?_range h]
theorem rowCell_at (T : List Nd) (kv av : Nat → Value) (n f : Nat) (hf : f < 7) : rowCell T kv av (n * 7 + f) = (ndCells (nd T n) (kv n) (av n)).getD f undef := by
  unfold rowCell
  rw [show (n * 7 + f) / 7 = n by omega, show (n * 7 + f) % 7 = f by omega]
theorem rowL_kv (T : List Nd) (kv av : Nat → Value) (n : Nat) (x : Value) (_hn : n < T.length) : (rowL T kv av).set (n * 7 + 3) x = rowL T (upd kv n x) av := by
  apply List.ext_getElem?
  intro j
  by_cases hj : j < T.length * 7
  · rw [List.getElem?_set, rowL_at hj, rowL_length]
    by_cases e : n * 7 + 3 = j
    · subst e
      rw [if_pos rfl, if_pos (by omega), rowL_at (by omega), rowCell_at _ _ _ _ _ (by omega)]
      simp [ndCells, upd]
    · rw [if_neg e, rowL_at hj]
      congr 1
      obtain ⟨m, f, hf, rfl⟩ : ∃ m f, f < 7 ∧ j = m * 7 + f := ⟨j / 7, j % 7, by omega, by omega⟩
      rw [rowCell_at _ _ _ _ _ hf, rowCell_at _ _ _ _ _ hf]
      by_cases em : m = n
      · subst em
        have : f ≠ 3 := by omega
        match f, hf, this with
        | 0, _, _ => rfl
        | 1, _, _ => rfl
        | 2, _, _ => rfl
        | 4, _, _ => rfl
        | 5, _, _ => rfl
        | 6, _, _ => rfl
      · simp [upd, em]
  · rw [List.getElem?_eq_none (by simp [rowL_length]; omega), List.getElem?_eq_none (by rw [rowL_length]; omega)]
theorem rowL_av (T : List Nd) (kv av : Nat → Value) (n : Nat) (x : Value) (_hn : n < T.length) : (rowL T kv av).set (n * 7 + 6) x = rowL T kv (upd av n x) := by
  apply List.ext_getElem?
  intro j
  by_cases hj : j < T.length * 7
  · rw [List.getElem?_set, rowL_at hj, rowL_length]
    by_cases e : n * 7 + 6 = j
    · subst e
      rw [if_pos rfl, if_pos (by omega), rowL_at (by omega), rowCell_at _ _ _ _ _ (by omega)]
      simp [ndCells, upd]
    · rw [if_neg e, rowL_at hj]
      congr 1
      obtain ⟨m, f, hf, rfl⟩ : ∃ m f, f < 7 ∧ j = m * 7 + f := ⟨j / 7, j % 7, by omega, by omega⟩
      rw [rowCell_at _ _ _ _ _ hf, rowCell_at _ _ _ _ _ hf]
      by_cases em : m = n
      · subst em
        have : f ≠ 6 := by omega
        match f, hf, this with
        | 0, _, _ => rfl
        | 1, _, _ => rfl
        | 2, _, _ => rfl
        | 3, _, _ => rfl
        | 4, _, _ => rfl
        | 5, _, _ => rfl
        | f + 6, h1, h2 => exact absurd (show f + 6 = 6 by omega) h2
      · simp [upd, em]
  · rw [List.getElem?_eq_none (by simp [rowL_length]; omega), List.getElem?_eq_none (by rw [rowL_length]; omega)]

/-- A tree of the call's own. -/
structure OwnTree (w : World) (base : Nat) (v : Value) (T : List Nd) (kv av : Nat → Value) : Prop where
  row : w.ownsRow base 49 7 v T.length (rowL T kv av)
  kids : ∀ n, n < T.length → w.ownsRow base 3 1 (kv n) (nd T n).kids.length (intCells (nd T n).kids)
  attrs : ∀ n, n < T.length → w.ownsRow base 72 2 (av n) (nd T n).attrs.length (attrCells (nd T n).attrs)
  kr : ∀ n, n < T.length → Apart (kv n) v
  ar : ∀ n, n < T.length → Apart (av n) v
  kk : ∀ n m, n < T.length → m < T.length → n ≠ m → Apart (kv n) (kv m)
  aa : ∀ n m, n < T.length → m < T.length → n ≠ m → Apart (av n) (av m)
  ka : ∀ n m, n < T.length → m < T.length → Apart (kv n) (av m)

theorem OwnTree.treeAt {w : World} {base : Nat} {v : Value} {T : List Nd} {kv av : Nat → Value} (h : OwnTree w base v T kv av) : TreeAt w v T := by
  rcases h.row.2 with ⟨rfl, h0⟩ | ⟨g, cap, cur, rfl, hb, hg, hn, hm, hs, ht⟩
  · exact ⟨none, 0, by rw [h0], fun h => by omega⟩
  · refine ⟨_, cap, rfl, fun _ => ⟨g, 0, rfl, fun n hn => ⟨kv n, av n, ?_⟩⟩⟩
    have hc : ∀ f, f < 7 → w.cell? ⟨g, n * 7 + f, none⟩ = some ((ndCells (nd T n) (kv n) (av n)).getD f undef) := fun f hf => by
      rw [h.row.cellAt (n * 7 + f) (by omega), rowL_at (by omega), rowCell_at _ _ _ _ _ hf]
    rw [Nat.zero_add]
    exact ⟨hc 0 (by omega), hc 1 (by omega), hc 2 (by omega), hc 3 (by omega), hc 4 (by omega), hc 5 (by omega), hc 6 (by omega), ownsRow_ints (h.kids n hn), ownsRow_attrs (h.attrs n hn)⟩

theorem nodes_choose {w : World} {b off len : Nat} {T : List Nd} (h : ∀ n, n < len → ∃ kv av, NodeAt w b (off + n * 7) (nd T n) kv av) : ∃ kv av : Nat → Value, ∀ n, n < len → NodeAt w b (off + n * 7) (nd T n) (kv n) (av n) := by
  have h' : ∀ n, ∃ p : Value × Value, n < len → NodeAt w b (off + n * 7) (nd T n) p.1 p.2 := fun n => by
    by_cases hn : n < len
    · obtain ⟨kv, av, h1⟩ := h n hn
      exact ⟨(kv, av), fun _ => h1⟩
    · exact ⟨(undef, undef), fun hn' => absurd hn' hn⟩
  obtain ⟨f, hf⟩ := Classical.axiomOfChoice h'
  exact ⟨fun n => (f n).1, fun n => (f n).2, hf⟩

theorem IntsAt.shape {w : World} {v : Value} {l : List Int} (h : IntsAt w v l) : ∃ a c, v = .slice a l.length c := let ⟨a, c, h, _⟩ := h; ⟨a, c, h⟩
theorem AttrsAt.shape {w : World} {v : Value} {l : List (Int × Int)} (h : AttrsAt w v l) : ∃ a c, v = .slice a l.length c := let ⟨a, c, h, _⟩ := h; ⟨a, c, h⟩

/-- slices.Clone of a tree's row. -/
theorem cloneTree (T : List Nd) (v : Value) (w : World) (hT : TreeAt w v T) (h1 : 1 ≤ T.length) (h64 : T.length ≤ 1000) :
    Calls Try.prog 98 #[v] w fun e w' => ∃ v' kv av, e = .returned v' ∧ w'.ownsRow w.heap.size 49 7 v' T.length (rowL T kv av) ∧ Below w.heap.size w w' ∧
      (∀ n, n < T.length → IntsAt w (kv n) (nd T n).kids ∧ AttrsAt w (av n) (nd T n).attrs) := by
  obtain ⟨b, off, cap, rfl, hc⟩ := hT.at (by omega)
  obtain ⟨kv, av, hN⟩ := nodes_choose hc
  have hcell : ∀ n f, n < T.length → f < 7 → w.cell? ⟨b, off + n * 7 + f, none⟩ = some ((ndCells (nd T n) (kv n) (av n)).getD f undef) := fun n f hn hf => by
    have h := hN n hn
    match f, hf with
    | 0, _ => exact h.kind
    | 1, _ => exact h.tag
    | 2, _ => exact h.parent
    | 3, _ => exact h.kidsc
    | 4, _ => exact h.host
    | 5, _ => exact h.root
    | 6, _ => exact h.attrsc
  refine (clone79_some ⟨b, off, none⟩ T.length cap (rowL T kv av) w (by omega) (rowL_length T kv av) ?_ ?_).mono ?_
  · intro j u hu
    have hj : j < T.length * 7 := by
      have := (List.getElem?_eq_some_iff.1 hu).1
      rwa [rowL_length] at this
    rw [rowL_at hj] at hu
    obtain ⟨m, f, hf, rfl⟩ : ∃ m f, f < 7 ∧ j = m * 7 + f := ⟨j / 7, j % 7, by omega, by omega⟩
    rw [rowCell_at _ _ _ _ _ hf] at hu
    rw [addr_add, ← hu, ← Nat.add_assoc]
    exact hcell m f (by omega) hf
  · intro u hu
    simp only [rowL, List.mem_map, List.mem_range] at hu
    obtain ⟨j, hj, rfl⟩ := hu
    obtain ⟨m, f, hf, rfl⟩ : ∃ m f, f < 7 ∧ j = m * 7 + f := ⟨j / 7, j % 7, by omega, by omega⟩
    rw [rowCell_at _ _ _ _ _ hf]
    have h := hN m (by omega)
    obtain ⟨a1, c1, e1⟩ := h.kids.shape
    obtain ⟨a2, c2, e2⟩ := h.attrs.shape
    rw [e1, e2]
    match f, hf with
    | 0, _ => rfl
    | 1, _ => rfl
    | 2, _ => rfl
    | 3, _ => rfl
    | 4, _ => rfl
    | 5, _ => rfl
    | 6, _ => rfl
  · rintro e w' ⟨v', rfl, h1, h2, _⟩
    exact ⟨v', kv, av, rfl, h1, h2, fun n hn => ⟨(hN n hn).kids, (hN n hn).attrs⟩⟩
end Go.Proofs.Ytoolkpjbbngdpaa
