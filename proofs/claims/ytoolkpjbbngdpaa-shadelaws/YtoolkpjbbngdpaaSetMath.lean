/- Setting a node's attributes: what becomes of a tree, and of its memory. -/
import Derived.Test.YtoolkpjbbngdpaaCopy2
namespace Go.Proofs.Ytoolkpjbbngdpaa
open Go.RowKit

def withAttrs (T : List Nd) (n : Nat) (l : List (Int × Int)) : List Nd := T.set n { nd T n with attrs := l }

theorem nd_set (T : List Nd) (n : Nat) (x : Nd) (hn : n < T.length) (m : Nat) : nd (T.set n x) m = if m = n then x else nd T m := by
  unfold nd
  rw [List.getD_eq_getElem?_getD, List.getElem?_set]
  by_cases h : m = n
  · subst h
    simp [hn]
  · rw [if_neg (fun e => h e.symm), if_neg h, List.getD_eq_getElem?_getD]
theorem withAttrs_length (T : List Nd) (n : Nat) (l : List (Int × Int)) : (withAttrs T n l).length = T.length := by simp [withAttrs]
theorem nd_withAttrs (T : List Nd) (n : Nat) (l : List (Int × Int)) (hn : n < T.length) (m : Nat) : nd (withAttrs T n l) m = if m = n then { nd T n with attrs := l } else nd T m := nd_set T n _ hn m

theorem rowL_withAttrs (T : List Nd) (n : Nat) (l : List (Int × Int)) (hn : n < T.length) (kv av : Nat → Value) : rowL (withAttrs T n l) kv av = rowL T kv av := by
  unfold rowL
  rw [withAttrs_length]
  apply List.map_congr_left
  intro j _
  unfold rowCell
  rw [nd_withAttrs T n l hn]
  by_cases h : j / 7 = n
  · rw [if_pos h, h]; rfl
  · rw [if_neg h]

theorem OwnTree.setAttr {w w1 : World} {base g cap : Nat} {T : List Nd} {kv av : Nat → Value} {n : Nat} {l : List (Int × Int)} {x1 : Value} (h : OwnTree w base (.slice (some ⟨g, 0, none⟩) T.length cap) T kv av) (hn : n < T.length)
    (h1 : w1.ownsRow base 72 2 x1 l.length (attrCells l)) (hg : w.grownBy w1 (av n).ownBlock) (hf : ∀ k, x1.ownBlock = some k → (av n).ownBlock = some k ∨ w.heap.size ≤ k) :
    OwnTree (w1.setCell ⟨g, n * 7 + 6, none⟩ x1) base (.slice (some ⟨g, 0, none⟩) T.length cap) (withAttrs T n l) kv (upd av n x1) := by
  have hgl : g < w.heap.size := (h.row.lt g rfl).2
  have nx1 : x1.ownBlock ≠ some g := fun e => by
    rcases hf g e with h2 | h2
    · exact h.ar n hn g h2 rfl
    · omega
  have ne : ∀ {u : Value}, Apart u (.slice (some ⟨g, 0, none⟩) T.length cap) → u.ownBlock ≠ some g := fun ha e => ha g e rfl
  have F : ∀ {e : TypeId} {size : Nat} {u : Value} {m : Nat} {xs : List Value}, w.ownsRow base e size u m xs → Apart u (av n) → Apart u (.slice (some ⟨g, 0, none⟩) T.length cap) → (w1.setCell ⟨g, n * 7 + 6, none⟩ x1).ownsRow base e size u m xs := fun hu ha hr =>
    ownsRow_kept_set (hu.kept hg ha.hne) (ne hr)
  have ap : ∀ {e : TypeId} {size : Nat} {u : Value} {m : Nat} {xs : List Value}, w.ownsRow base e size u m xs → Apart u (av n) → Apart u x1 := fun hu ha k hk e => by
    rcases hf k e with h2 | h2
    · exact ha k hk h2
    · have := (hu.lt k hk).2
      omega
  have len := withAttrs_length T n l
  refine ⟨?_, ?_, ?_, ?_, ?_, ?_, ?_, ?_⟩
  · have r1 := h.row.kept hg (h.ar n hn).symm.hne
    have r2 := (r1.stored (n * 7 + 6) x1).1
    rw [rowL_av T kv av n x1 hn] at r2
    rw [rowL_withAttrs T n l hn, len]
    exact r2
  · intro m hm
    rw [len] at hm
    rw [nd_withAttrs T n l hn]
    have := F (h.kids m hm) (h.ka m n hm hn) (h.kr m hm)
    by_cases e : m = n
    · subst e; rw [if_pos rfl]; exact this
    · rw [if_neg e]; exact this
  · intro m hm
    rw [len] at hm
    rw [nd_withAttrs T n l hn]
    by_cases e : m = n
    · subst e
      rw [if_pos rfl, upd_same]
      exact ownsRow_kept_set h1 nx1
    · rw [if_neg e, upd_ne _ _ e]
      exact F (h.attrs m hm) (h.aa m n hm hn e) (h.ar m hm)
  · intro m hm
    rw [len] at hm
    exact h.kr m hm
  · intro m hm
    rw [len] at hm
    by_cases e : m = n
    · subst e
      rw [upd_same]
      intro k hk e2
      simp [Value.ownBlock] at e2
      subst e2
      exact nx1 hk
    · rw [upd_ne _ _ e]; exact h.ar m hm
  · intro m k hm hk hne
    rw [len] at hm hk
    exact h.kk m k hm hk hne
  · intro m k hm hk hne
    rw [len] at hm hk
    by_cases e : m = n
    · subst e
      rw [upd_same, upd_ne _ _ (Ne.symm hne)]
      exact (ap (h.attrs k hk) (h.aa k m hk hm (Ne.symm hne))).symm
    · rw [upd_ne _ _ e]
      by_cases e' : k = n
      · subst e'
        rw [upd_same]
        exact ap (h.attrs m hm) (h.aa m k hm hk hne)
      · rw [upd_ne _ _ e']; exact h.aa m k hm hk hne
  · intro m k hm hk
    rw [len] at hm hk
    by_cases e' : k = n
    · subst e'
      rw [upd_same]
      exact ap (h.kids m hm) (h.ka m k hm hk)
    · rw [upd_ne _ _ e']; exact h.ka m k hm hk

theorem OwnTree.weaken {w : World} {base base' : Nat} {v : Value} {T : List Nd} {kv av : Nat → Value} (h : OwnTree w base v T kv av) (hb : base' ≤ base) : OwnTree w base' v T kv av :=
  ⟨ownsRow_base h.row hb, fun n hn => ownsRow_base (h.kids n hn) hb, fun n hn => ownsRow_base (h.attrs n hn) hb, h.kr, h.ar, h.kk, h.aa, h.ka⟩

theorem TreeAt.shape {w : World} {v : Value} {T : List Nd} (h : TreeAt w v T) : ∃ a c, v = .slice a T.length c := let ⟨a, c, h, _⟩ := h; ⟨a, c, h⟩
theorem mayB_pos {T : List Nd} (h : mayB T = true) : 1 ≤ T.length ∧ T.length ≤ 64 := by
  simp only [mayB, Bool.and_eq_true, decide_eq_true_eq] at h
  exact ⟨h.1, h.2.1⟩
theorem toGrown {w w' : World} (h : Below w.heap.size w w') (r : Option Nat) : w.grownBy w' r := ⟨h.os, h.tape, h.output, h.size, fun k hk _ => h.block k hk⟩

theorem treeAt_nil (w : World) : TreeAt w (.slice none 0 0) [] := ⟨none, 0, rfl, fun h => by simp at h⟩
end Go.Proofs.Ytoolkpjbbngdpaa
