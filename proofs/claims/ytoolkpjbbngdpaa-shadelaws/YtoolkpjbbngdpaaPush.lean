/- A tree of the call's own, and a node more. -/
import Derived.Test.YtoolkpjbbngdpaaAppAny
namespace Go.Proofs.Ytoolkpjbbngdpaa
open Go.RowKit

theorem nd_snoc_lt (T : List Nd) (x : Nd) {n : Nat} (h : n < T.length) : nd (T ++ [x]) n = nd T n := by
  unfold nd
  rw [List.getD_eq_getElem?_getD, List.getElem?_append_left h, List.getD_eq_getElem?_getD]
theorem nd_snoc_eq (T : List Nd) (x : Nd) : nd (T ++ [x]) T.length = x := by
  unfold nd
  rw [List.getD_eq_getElem?_getD, List.getElem?_append_right (Nat.le_refl _)]
  simp
theorem rowL_snoc (T : List Nd) (x : Nd) (kv av : Nat → Value) (x1 x2 : Value) : rowL (T ++ [x]) (upd kv T.length x1) (upd av T.length x2) = rowL T kv av ++ ndCells x x1 x2 := by
  apply List.ext_getElem?
  intro j
  by_cases hj : j < T.length * 7
  · rw [rowL_at (by simp; omega), List.getElem?_append_left (by rw [rowL_length]; exact hj), rowL_at hj]
    obtain ⟨m, f, hf, rfl⟩ : ∃ m f, f < 7 ∧ j = m * 7 + f := ⟨j / 7, j % 7, by omega, by omega⟩
    rw [rowCell_at _ _ _ _ _ hf, rowCell_at _ _ _ _ _ hf, nd_snoc_lt T x (by omega), upd_ne _ _ (by omega), upd_ne _ _ (by omega)]
  · by_cases hj2 : j < T.length * 7 + 7
    · obtain ⟨f, hf, rfl⟩ : ∃ f, f < 7 ∧ j = T.length * 7 + f := ⟨j - T.length * 7, by omega, by omega⟩
      rw [rowL_at (by simp; omega), rowCell_at _ _ _ _ _ hf, nd_snoc_eq, upd_same, upd_same, List.getElem?_append_right (by rw [rowL_length]; omega), rowL_length, Nat.add_sub_cancel_left]
      match f, hf with
      | 0, _ | 1, _ | 2, _ | 3, _ | 4, _ | 5, _ | 6, _ => rfl
    · rw [List.getElem?_eq_none (by rw [rowL_length]; simp; omega), List.getElem?_eq_none (by rw [List.length_append, rowL_length]; simp [ndCells]; omega)]

theorem OwnTree.below {w w' : World} {base : Nat} {v : Value} {T : List Nd} {kv av : Nat → Value} (h : OwnTree w base v T kv av) (hb : Below w.heap.size w w') : OwnTree w' base v T kv av :=
  ⟨ownsRow_below h.row hb (fun g hg => (h.row.lt g hg).2), fun n hn => ownsRow_below (h.kids n hn) hb (fun g hg => ((h.kids n hn).lt g hg).2), fun n hn => ownsRow_below (h.attrs n hn) hb (fun g hg => ((h.attrs n hn).lt g hg).2), h.kr, h.ar, h.kk, h.aa, h.ka⟩

theorem OwnTree.nil (w : World) (base : Nat) : OwnTree w base (.slice none 0 0) [] (fun _ => undef) (fun _ => undef) :=
  ⟨World.ownsRow_nil _ _ _ _, fun n h => by simp at h, fun n h => by simp at h, fun n h => by simp at h, fun n h => by simp at h, fun n m h => by simp at h, fun n m h => by simp at h, fun n m h => by simp at h⟩

/-- N: all blocks of the old tree lie below it; the new lists lie from it on. -/
theorem OwnTree.push {w w4 : World} {base N M : Nat} {v v' : Value} {T : List Nd} {kv av : Nat → Value} {x : Nd} {x1 x2 : Value}
    (h : OwnTree w base v T kv av) (oldv : ∀ k, v.ownBlock = some k → k < N) (oldk : ∀ n k, n < T.length → (kv n).ownBlock = some k → k < N) (olda : ∀ n k, n < T.length → (av n).ownBlock = some k → k < N)
    (h1 : w.ownsRow base 3 1 x1 x.kids.length (intCells x.kids)) (n1 : ∀ k, x1.ownBlock = some k → N ≤ k ∧ k < M)
    (h2 : w.ownsRow base 72 2 x2 x.attrs.length (attrCells x.attrs)) (n2 : ∀ k, x2.ownBlock = some k → N ≤ k ∧ M ≤ k)
    (hg : w.grownBy w4 v.ownBlock) (ho : w4.ownsRow base 49 7 v' (T.length + 1) (rowL T kv av ++ ndCells x x1 x2)) (hf : ∀ k, v'.ownBlock = some k → v.ownBlock = some k ∨ w.heap.size ≤ k) :
    OwnTree w4 base v' (T ++ [x]) (upd kv T.length x1) (upd av T.length x2) := by
  have len : (T ++ [x]).length = T.length + 1 := by simp
  -- apart from the row, old and new
  have keep : ∀ {e : TypeId} {size : Nat} {u : Value} {n : Nat} {xs : List Value}, w.ownsRow base e size u n xs → Apart u v → w4.ownsRow base e size u n xs := fun hu ha => hu.kept hg ha.hne
  have apv : ∀ {e : TypeId} {size : Nat} {u : Value} {n : Nat} {xs : List Value}, w.ownsRow base e size u n xs → Apart u v → Apart u v' := fun hu ha k hk e => by
    rcases hf k e with h3 | h3
    · exact ha k hk h3
    · have := (hu.lt k hk).2; omega
  have a1 : Apart x1 v := fun k hk e => by have := n1 k hk; have := oldv k e; omega
  have a2 : Apart x2 v := fun k hk e => by have := n2 k hk; have := oldv k e; omega
  have ak1 : ∀ n, n < T.length → Apart (kv n) x1 := fun n hn k hk e => by have := n1 k e; have := oldk n k hn hk; omega
  have ak2 : ∀ n, n < T.length → Apart (kv n) x2 := fun n hn k hk e => by have := n2 k e; have := oldk n k hn hk; omega
  have aa1 : ∀ n, n < T.length → Apart (av n) x1 := fun n hn k hk e => by have := n1 k e; have := olda n k hn hk; omega
  have aa2 : ∀ n, n < T.length → Apart (av n) x2 := fun n hn k hk e => by have := n2 k e; have := olda n k hn hk; omega
  have a12 : Apart x1 x2 := fun k hk e => by have := n1 k hk; have := n2 k e; omega
  have split : ∀ n, n < T.length + 1 → n < T.length ∨ n = T.length := fun n hn => by omega
  refine ⟨?_, ?_, ?_, ?_, ?_, ?_, ?_, ?_⟩
  · rw [len, rowL_snoc]; exact ho
  · intro n hn
    rw [len] at hn
    rcases split n hn with hl | rfl
    · rw [nd_snoc_lt T x hl, upd_ne _ _ (by omega)]; exact keep (h.kids n hl) (h.kr n hl)
    · rw [nd_snoc_eq, upd_same]; exact keep h1 a1
  · intro n hn
    rw [len] at hn
    rcases split n hn with hl | rfl
    · rw [nd_snoc_lt T x hl, upd_ne _ _ (by omega)]; exact keep (h.attrs n hl) (h.ar n hl)
    · rw [nd_snoc_eq, upd_same]; exact keep h2 a2
  · intro n hn
    rw [len] at hn
    rcases split n hn with hl | rfl
    · rw [upd_ne _ _ (by omega)]; exact apv (h.kids n hl) (h.kr n hl)
    · rw [upd_same]; exact apv h1 a1
  · intro n hn
    rw [len] at hn
    rcases split n hn with hl | rfl
    · rw [upd_ne _ _ (by omega)]; exact apv (h.attrs n hl) (h.ar n hl)
    · rw [upd_same]; exact apv h2 a2
  · intro n m hn hm hne
    rw [len] at hn hm
    rcases split n hn with hl | rfl <;> rcases split m hm with hl' | rfl
    · rw [upd_ne _ _ (by omega), upd_ne _ _ (by omega)]; exact h.kk n m hl hl' hne
    · rw [upd_ne _ _ (by omega), upd_same]; exact ak1 n hl
    · rw [upd_same, upd_ne _ _ (by omega)]; exact (ak1 m hl').symm
    · exact absurd rfl hne
  · intro n m hn hm hne
    rw [len] at hn hm
    rcases split n hn with hl | rfl <;> rcases split m hm with hl' | rfl
    · rw [upd_ne _ _ (by omega), upd_ne _ _ (by omega)]; exact h.aa n m hl hl' hne
    · rw [upd_ne _ _ (by omega), upd_same]; exact aa2 n hl
    · rw [upd_same, upd_ne _ _ (by omega)]; exact (aa2 m hl').symm
    · exact absurd rfl hne
  · intro n m hn hm
    rw [len] at hn hm
    rcases split n hn with hl | rfl <;> rcases split m hm with hl' | rfl
    · rw [upd_ne _ _ (by omega), upd_ne _ _ (by omega)]; exact h.ka n m hl hl'
    · rw [upd_ne _ _ (by omega), upd_same]; exact ak2 n hl
    · rw [upd_same, upd_ne _ _ (by omega)]; exact (aa1 m hl').symm
    · rw [upd_same, upd_same]; exact a12
end Go.Proofs.Ytoolkpjbbngdpaa
