/- A tree of the call's own, and a field of one of its nodes set. -/
import Derived.Test.YtoolkpjbbngdpaaMake
namespace Go.Proofs.Ytoolkpjbbngdpaa
open Go.RowKit

theorem rowL_set (T : List Nd) (kv av : Nat → Value) (n c : Nat) (hn : n < T.length) (hc : c < 7) (y : Nd) (x : Value) (hy : ∀ kv av, ndCells y kv av = (ndCells (nd T n) kv av).set c x) :
    rowL (T.set n y) kv av = (rowL T kv av).set (n * 7 + c) x := by
  apply List.ext_getElem?
  intro j
  by_cases hj : j < T.length * 7
  · rw [List.getElem?_set, rowL_at (by simpa using hj), rowL_length]
    obtain ⟨m, f, hf, rfl⟩ : ∃ m f, f < 7 ∧ j = m * 7 + f := ⟨j / 7, j % 7, by omega, by omega⟩
    rw [rowCell_at _ _ _ _ _ hf, nd_set T n y hn]
    by_cases e : n * 7 + c = m * 7 + f
    · have em : m = n := by omega
      have ef : f = c := by omega
      subst em ef
      rw [if_pos rfl, if_pos rfl, if_pos (by omega), hy, List.getD_eq_getElem?_getD, List.getElem?_set_self (by simp [ndCells]; omega)]
      rfl
    · rw [if_neg e, rowL_at hj, rowCell_at _ _ _ _ _ hf]
      by_cases em : m = n
      · subst em
        rw [if_pos rfl, hy, List.getD_eq_getElem?_getD, List.getElem?_set_ne (by omega), ← List.getD_eq_getElem?_getD]
      · rw [if_neg em]
  · rw [List.getElem?_eq_none (by simp [rowL_length]; omega), List.getElem?_eq_none (by simp [rowL_length]; omega)]

theorem OwnTree.setField {w : World} {base g cap len : Nat} {T : List Nd} {kv av : Nat → Value} {n : Nat} (h : OwnTree w base (.slice (some ⟨g, 0, none⟩) len cap) T kv av) (hn : n < T.length) (c : Nat) (hc : c < 7) (y : Nd) (x : Value)
    (hk : y.kids = (nd T n).kids) (ha : y.attrs = (nd T n).attrs) (hy : ∀ kv av, ndCells y kv av = (ndCells (nd T n) kv av).set c x) :
    OwnTree (w.setCell ⟨g, n * 7 + c, none⟩ x) base (.slice (some ⟨g, 0, none⟩) len cap) (T.set n y) kv av := by
  obtain rfl : len = T.length := by
    obtain ⟨_, _, e⟩ := ownsRow_shape h.row
    simp only [Value.slice.injEq] at e
    exact e.2.1
  have ne : ∀ {u : Value}, Apart u (.slice (some ⟨g, 0, none⟩) T.length cap) → u.ownBlock ≠ some g := fun ha e => ha g e rfl
  have ll : (T.set n y).length = T.length := by simp
  have ek : ∀ m, (nd (T.set n y) m).kids = (nd T m).kids := fun m => by
    rw [nd_set T n y hn]
    by_cases e : m = n
    · rw [if_pos e, e]; exact hk
    · rw [if_neg e]
  have ea : ∀ m, (nd (T.set n y) m).attrs = (nd T m).attrs := fun m => by
    rw [nd_set T n y hn]
    by_cases e : m = n
    · rw [if_pos e, e]; exact ha
    · rw [if_neg e]
  refine ⟨?_, ?_, ?_, ?_, ?_, ?_, ?_, ?_⟩
  · rw [ll, rowL_set T kv av n c hn hc y x hy]
    exact (h.row.stored (n * 7 + c) x).1
  · intro m hm
    rw [ll] at hm
    rw [ek]
    exact ownsRow_kept_set (h.kids m hm) (ne (h.kr m hm))
  · intro m hm
    rw [ll] at hm
    rw [ea]
    exact ownsRow_kept_set (h.attrs m hm) (ne (h.ar m hm))
  · intro m hm; exact h.kr m (by rwa [ll] at hm)
  · intro m hm; exact h.ar m (by rwa [ll] at hm)
  · intro m k hm hk; exact h.kk m k (by rwa [ll] at hm) (by rwa [ll] at hk)
  · intro m k hm hk; exact h.aa m k (by rwa [ll] at hm) (by rwa [ll] at hk)
  · intro m k hm hk; exact h.ka m k (by rwa [ll] at hm) (by rwa [ll] at hk)

def withKids (T : List Nd) (n : Nat) (l : List Int) : List Nd := T.set n { nd T n with kids := l }
def withParent (T : List Nd) (n : Nat) (x : Int) : List Nd := T.set n { nd T n with parent := x }
def withHost (T : List Nd) (n : Nat) (x : Int) : List Nd := T.set n { nd T n with host := x }
def withRoot (T : List Nd) (n : Nat) (x : Int) : List Nd := T.set n { nd T n with root := x }
theorem withKids_length (T : List Nd) (n : Nat) (l : List Int) : (withKids T n l).length = T.length := by simp [withKids]
theorem withParent_length (T : List Nd) (n : Nat) (l : Int) : (withParent T n l).length = T.length := by simp [withParent]
theorem withHost_length (T : List Nd) (n : Nat) (l : Int) : (withHost T n l).length = T.length := by simp [withHost]
theorem withRoot_length (T : List Nd) (n : Nat) (l : Int) : (withRoot T n l).length = T.length := by simp [withRoot]
theorem nd_withKids (T : List Nd) (n : Nat) (l : List Int) (hn : n < T.length) (m : Nat) : nd (withKids T n l) m = if m = n then { nd T n with kids := l } else nd T m := nd_set T n _ hn m
theorem nd_withParent (T : List Nd) (n : Nat) (l : Int) (hn : n < T.length) (m : Nat) : nd (withParent T n l) m = if m = n then { nd T n with parent := l } else nd T m := nd_set T n _ hn m
theorem nd_withHost (T : List Nd) (n : Nat) (l : Int) (hn : n < T.length) (m : Nat) : nd (withHost T n l) m = if m = n then { nd T n with host := l } else nd T m := nd_set T n _ hn m
theorem nd_withRoot (T : List Nd) (n : Nat) (l : Int) (hn : n < T.length) (m : Nat) : nd (withRoot T n l) m = if m = n then { nd T n with root := l } else nd T m := nd_set T n _ hn m

theorem OwnTree.setParent {w : World} {base g cap len : Nat} {T : List Nd} {kv av : Nat → Value} {n : Nat} (h : OwnTree w base (.slice (some ⟨g, 0, none⟩) len cap) T kv av) (hn : n < T.length) (x : Int) :
    OwnTree (w.setCell ⟨g, n * 7 + 2, none⟩ (.int .i64 x)) base (.slice (some ⟨g, 0, none⟩) len cap) (withParent T n x) kv av := h.setField hn 2 (by omega) _ _ rfl rfl (fun _ _ => rfl)
theorem OwnTree.setHost {w : World} {base g cap len : Nat} {T : List Nd} {kv av : Nat → Value} {n : Nat} (h : OwnTree w base (.slice (some ⟨g, 0, none⟩) len cap) T kv av) (hn : n < T.length) (x : Int) :
    OwnTree (w.setCell ⟨g, n * 7 + 4, none⟩ (.int .i64 x)) base (.slice (some ⟨g, 0, none⟩) len cap) (withHost T n x) kv av := h.setField hn 4 (by omega) _ _ rfl rfl (fun _ _ => rfl)
theorem OwnTree.setRoot {w : World} {base g cap len : Nat} {T : List Nd} {kv av : Nat → Value} {n : Nat} (h : OwnTree w base (.slice (some ⟨g, 0, none⟩) len cap) T kv av) (hn : n < T.length) (x : Int) :
    OwnTree (w.setCell ⟨g, n * 7 + 5, none⟩ (.int .i64 x)) base (.slice (some ⟨g, 0, none⟩) len cap) (withRoot T n x) kv av := h.setField hn 5 (by omega) _ _ rfl rfl (fun _ _ => rfl)

theorem rowL_withKids (T : List Nd) (n : Nat) (l : List Int) (hn : n < T.length) (kv av : Nat → Value) : rowL (withKids T n l) kv av = rowL T kv av := by
  unfold rowL
  rw [withKids_length]
  apply List.map_congr_left
  intro j _
  unfold rowCell
  rw [nd_withKids T n l hn]
  by_cases h : j / 7 = n
  · rw [if_pos h, h]; rfl
  · rw [if_neg h]

theorem OwnTree.setKids {w w1 : World} {base g cap len : Nat} {T : List Nd} {kv av : Nat → Value} {n : Nat} {l : List Int} {x1 : Value} (h : OwnTree w base (.slice (some ⟨g, 0, none⟩) len cap) T kv av) (hn : n < T.length)
    (h1 : w1.ownsRow base 3 1 x1 l.length (intCells l)) (hg : w.grownBy w1 (kv n).ownBlock) (hf : ∀ k, x1.ownBlock = some k → (kv n).ownBlock = some k ∨ w.heap.size ≤ k) :
    OwnTree (w1.setCell ⟨g, n * 7 + 3, none⟩ x1) base (.slice (some ⟨g, 0, none⟩) len cap) (withKids T n l) (upd kv n x1) av := by
  obtain rfl : len = T.length := by
    obtain ⟨_, _, e⟩ := ownsRow_shape h.row
    simp only [Value.slice.injEq] at e
    exact e.2.1
  have hgl : g < w.heap.size := (h.row.lt g rfl).2
  have nx1 : x1.ownBlock ≠ some g := fun e => by
    rcases hf g e with h2 | h2
    · exact h.kr n hn g h2 rfl
    · omega
  have ne : ∀ {u : Value}, Apart u (.slice (some ⟨g, 0, none⟩) T.length cap) → u.ownBlock ≠ some g := fun ha e => ha g e rfl
  have F : ∀ {e : TypeId} {size : Nat} {u : Value} {m : Nat} {xs : List Value}, w.ownsRow base e size u m xs → Apart u (kv n) → Apart u (.slice (some ⟨g, 0, none⟩) T.length cap) → (w1.setCell ⟨g, n * 7 + 3, none⟩ x1).ownsRow base e size u m xs := fun hu ha hr =>
    ownsRow_kept_set (hu.kept hg ha.hne) (ne hr)
  have ap : ∀ {e : TypeId} {size : Nat} {u : Value} {m : Nat} {xs : List Value}, w.ownsRow base e size u m xs → Apart u (kv n) → Apart u x1 := fun hu ha k hk e => by
    rcases hf k e with h2 | h2
    · exact ha k hk h2
    · have := (hu.lt k hk).2
      omega
  have ll := withKids_length T n l
  refine ⟨?_, ?_, ?_, ?_, ?_, ?_, ?_, ?_⟩
  · have r1 := h.row.kept hg (h.kr n hn).symm.hne
    have r2 := (r1.stored (n * 7 + 3) x1).1
    rw [rowL_kv T kv av n x1 hn] at r2
    rw [rowL_withKids T n l hn, ll]
    exact r2
  · intro m hm
    rw [ll] at hm
    rw [nd_withKids T n l hn]
    by_cases e : m = n
    · subst e
      rw [if_pos rfl, upd_same]
      exact ownsRow_kept_set h1 nx1
    · rw [if_neg e, upd_ne _ _ e]
      exact F (h.kids m hm) (h.kk m n hm hn e) (h.kr m hm)
  · intro m hm
    rw [ll] at hm
    rw [nd_withKids T n l hn]
    have := F (h.attrs m hm) (h.ka n m hn hm).symm (h.ar m hm)
    by_cases e : m = n
    · subst e; rw [if_pos rfl]; exact this
    · rw [if_neg e]; exact this
  · intro m hm
    rw [ll] at hm
    by_cases e : m = n
    · subst e
      rw [upd_same]
      intro k hk e2
      simp [Value.ownBlock] at e2
      subst e2
      exact nx1 hk
    · rw [upd_ne _ _ e]; exact h.kr m hm
  · intro m hm
    rw [ll] at hm
    exact h.ar m hm
  · intro m k hm hk hne
    rw [ll] at hm hk
    by_cases e : m = n
    · subst e
      rw [upd_same, upd_ne _ _ (Ne.symm hne)]
      exact (ap (h.kids k hk) (h.kk k m hk hm (Ne.symm hne))).symm
    · rw [upd_ne _ _ e]
      by_cases e' : k = n
      · subst e'
        rw [upd_same]
        exact ap (h.kids m hm) (h.kk m k hm hk hne)
      · rw [upd_ne _ _ e']; exact h.kk m k hm hk hne
  · intro m k hm hk hne
    rw [ll] at hm hk
    exact h.aa m k hm hk hne
  · intro m k hm hk
    rw [ll] at hm hk
    by_cases e' : m = n
    · subst e'
      rw [upd_same]
      exact (ap (h.attrs k hk) (h.ka m k hm hk).symm).symm
    · rw [upd_ne _ _ e']; exact h.ka m k hm hk
end Go.Proofs.Ytoolkpjbbngdpaa
