/- What 'with' makes of attributes that may be: what was put, what was lost. -/
import Derived.Test.YtbfomnkapnlgeaaRefWith
import Derived.Test.YtbfomnkapnlgeaaOrderMath
namespace Go.Proofs.Ytbfomnkapnlgeaa
open Go.RowKit

theorem ofName_gone {k last nm : Int} (h : nm ≤ last) : ∀ {l : List (Int × Int)}, attrsFrom k last l = true → ofName l nm = []
  | [], _ => rfl
  | a :: l, hl => by
    rw [attrsFrom, Bool.and_eq_true, Bool.not_eq_true', Bool.or_eq_false_iff, decide_eq_false_iff_not] at hl
    have e : (a.1 == nm) = false := by simp; omega
    rw [ofName, List.filter_cons, e, if_neg (by simp)]
    exact ofName_gone (by omega) hl.2
theorem ofName_look {k nm : Int} : ∀ {l : List (Int × Int)} {last : Int}, attrsFrom k last l = true → ofName l nm = if (lookL l nm).2 then [(nm, (lookL l nm).1)] else []
  | [], _, _ => rfl
  | a :: l, last, hl => by
    rw [attrsFrom, Bool.and_eq_true] at hl
    rw [lookL_cons, ofName, List.filter_cons]
    by_cases e : a.1 = nm
    · have e' : (a.1 == nm) = true := by simpa using e
      have := ofName_gone (nm := nm) (by omega) hl.2
      rw [ofName] at this
      rw [if_pos e', if_pos (show nm ≤ a.1 by omega), if_pos e', this]
      show [a] = [(nm, a.2)]
      rw [← e]
    · have e' : (a.1 == nm) = false := by simpa using e
      rw [e', if_neg (by simp)]
      by_cases hn : nm ≤ a.1
      · rw [if_pos hn, if_neg (by simp)]
        exact ofName_gone hn hl.2
      · rw [if_neg hn]
        exact ofName_look hl.2

/-- A list of attributes, by their names: name j has value f j, if any. -/
def listOf (f : Nat → Option Int) : Nat → List (Int × Int)
  | 0 => []
  | m + 1 => listOf f m ++ (match f m with | some v => [((m : Int), v)] | none => [])
theorem look_snoc {x : Int × Int} {nm : Int} : ∀ {l : List (Int × Int)}, (∀ a, a ∈ l → a.1 < x.1) → lookL (l ++ [x]) nm = if nm = x.1 then (x.2, true) else lookL l nm
  | [], _ => by
    rw [List.nil_append, lookL_cons, lookL_nil]
    by_cases e : nm = x.1
    · rw [if_pos e, if_pos (by omega), if_pos (by simp [e])]
    · rw [if_neg e]
      split
      · rw [if_neg (by simp; exact fun h => e h.symm)]
      · rfl
  | a :: l, h => by
    have ha := h a (by simp)
    rw [List.cons_append, lookL_cons, lookL_cons, look_snoc (fun b hb => h b (List.mem_cons_of_mem _ hb))]
    by_cases e : nm = x.1
    · rw [if_pos e, if_pos e, if_neg (by omega)]
    · rw [if_neg e, if_neg e]
theorem attrsFrom_snoc {k : Int} {x : Int × Int} (hx : attrFitsB k x.1 x.2 = true) : ∀ {l : List (Int × Int)} {last : Int}, last < x.1 → (∀ a, a ∈ l → a.1 < x.1) → attrsFrom k last l = true → attrsFrom k last (l ++ [x]) = true
  | [], last, h, _, _ => by rw [List.nil_append, attrsFrom, hx, decide_eq_false (by omega)]; rfl
  | a :: l, last, h, ha, hl => by
    rw [attrsFrom, Bool.and_eq_true] at hl
    rw [List.cons_append, attrsFrom, Bool.and_eq_true]
    exact ⟨hl.1, attrsFrom_snoc hx (ha a (by simp)) (fun b hb => ha b (List.mem_cons_of_mem _ hb)) hl.2⟩
theorem listOf_spec {k : Int} {f : Nat → Option Int} (hf : ∀ j v, f j = some v → attrFitsB k (j : Int) v = true) : ∀ m, attrsFrom k (-1) (listOf f m) = true ∧ (∀ a, a ∈ listOf f m → a.1 < (m : Int)) ∧ ∀ j : Nat, lookL (listOf f m) (j : Int) = if j < m then (match f j with | some v => (v, true) | none => (0, false)) else (0, false)
  | 0 => ⟨rfl, fun a h => by simp [listOf] at h, fun j => by rw [if_neg (by omega)]; rfl⟩
  | m + 1 => by
    obtain ⟨h1, h2, h3⟩ := listOf_spec hf m
    rw [listOf]
    cases hm : f m with
    | none =>
      simp only [List.append_nil]
      refine ⟨h1, fun a ha => by have := h2 a ha; omega, fun j => ?_⟩
      rw [h3 j]
      by_cases e : j = m
      · subst e; rw [if_neg (by omega), if_pos (by omega), hm]
      · by_cases hj : j < m
        · rw [if_pos hj, if_pos (by omega)]
        · rw [if_neg hj, if_neg (by omega)]
    | some v =>
      have hfit := hf m v hm
      refine ⟨attrsFrom_snoc (x := ((m : Int), v)) hfit (by show (-1 : Int) < m; omega) h2 h1, fun a ha => ?_, fun j => ?_⟩
      · rcases List.mem_append.mp ha with h | h
        · have := h2 a h; omega
        · simp only [List.mem_singleton] at h
          subst h
          show (m : Int) < _
          omega
      · show lookL (listOf f m ++ [((m : Int), v)]) j = _
        rw [look_snoc (x := ((m : Int), v)) h2, h3 j]
        by_cases e : j = m
        · subst e; rw [if_pos rfl, if_pos (by omega), hm]
        · have e' : ¬ ((j : Int) = ((m : Int), v).1) := by show ¬ (j : Int) = (m : Int); omega
          rw [if_neg e']
          by_cases hj : j < m
          · rw [if_pos hj, if_pos (by omega)]
          · rw [if_neg hj, if_neg (by omega)]

theorem withTo_listOf {k : Int} {l : List (Int × Int)} {last : Int} (hl : attrsFrom k last l = true) (x : Int × Int) (lay : Bool) : ∀ m, withTo l x lay m = listOf (fun j => if (j : Int) == x.1 then (if lay then some x.2 else none) else if (lookL l (j : Int)).2 then some (lookL l (j : Int)).1 else none) m
  | 0 => rfl
  | m + 1 => by
    rw [withTo, listOf, withTo_listOf hl x lay m, withAt]
    congr 1
    by_cases e : (m : Int) = x.1
    · have e' : ((m : Int) == x.1) = true := by simpa using e
      rw [if_pos e', if_pos e']
      cases lay
      · rfl
      · obtain ⟨x1, x2⟩ := x
        dsimp only at e
        subst e
        rfl
    · have e' : ((m : Int) == x.1) = false := by simpa using e
      rw [e', if_neg (by simp), ofName_look hl]
      simp only [Bool.false_eq_true, if_false]
      cases (lookL l (m : Int)).2 <;> rfl
theorem look_fits {k nm : Int} : ∀ {l : List (Int × Int)} {last : Int}, attrsFrom k last l = true → (lookL l nm).2 = true → attrFitsB k nm (lookL l nm).1 = true
  | [], _, _, h => by simp [lookL_nil] at h
  | a :: l, last, hl, h => by
    rw [attrsFrom, Bool.and_eq_true, Bool.not_eq_true', Bool.or_eq_false_iff, Bool.not_eq_false'] at hl
    rw [lookL_cons] at h ⊢
    by_cases hn : nm ≤ a.1
    · rw [if_pos hn] at h ⊢
      by_cases e : a.1 = nm
      · have e' : (a.1 == nm) = true := by simpa using e
        rw [if_pos e', ← e]
        exact hl.1.2
      · have e' : (a.1 == nm) = false := by simpa using e
        rw [e'] at h
        simp at h
    · rw [if_neg hn] at h ⊢
      exact look_fits hl.2 h
theorem ext_nat {k : Int} {l m : List (Int × Int)} (hl : attrsFrom k (-1) l = true) (hm : attrsFrom k (-1) m = true) (h : ∀ j : Nat, j < 10 → lookL l (j : Int) = lookL m (j : Int)) : l = m :=
  look_ext hl hm (fun nm => by
    by_cases h0 : nm ≤ -1
    · rw [look_gone h0 hl, look_gone h0 hm]
    · by_cases h10 : 10 ≤ nm
      · rw [look_far h10 hl, look_far h10 hm]
      · obtain ⟨j, rfl⟩ : ∃ j : Nat, nm = j := ⟨nm.toNat, by omega⟩
        exact h j (by omega))
theorem with_put {k : Int} {l : List (Int × Int)} (hl : attrsFrom k (-1) l = true) {x : Int × Int} (hx : attrFitsB k x.1 x.2 = true) : withTo l x true 10 = putL l x := by
  have hn := fits_name hx
  obtain ⟨h1, _, h3⟩ := listOf_spec (k := k) (f := fun j => if (j : Int) == x.1 then (if true then some x.2 else none) else if (lookL l (j : Int)).2 then some (lookL l (j : Int)).1 else none) (fun j v hv => by
    by_cases e : (j : Int) = x.1
    · rw [if_pos (by simpa using e), if_pos rfl] at hv
      obtain rfl := Option.some.inj hv
      rw [e]; exact hx
    · rw [if_neg (by simpa using e)] at hv
      cases hk : (lookL l (j : Int)).2
      · rw [hk, if_neg (by simp)] at hv; cases hv
      · rw [hk, if_pos rfl] at hv
        obtain rfl := Option.some.inj hv
        exact look_fits hl hk) 10
  rw [withTo_listOf hl]
  refine ext_nat h1 (put_fits hx (by omega) hl) (fun j hj => ?_)
  rw [h3 j, if_pos hj]
  by_cases e : (j : Int) = x.1
  · rw [if_pos (by simpa using e), if_pos rfl, e, look_put]
  · rw [if_neg (by simpa using e), look_put_ne x e]
    cases hk : (lookL l (j : Int)).2
    · rw [if_neg (by simp)]
      rw [lookL] at hk ⊢
      split at hk
      · cases hk
      · rename_i h; rw [if_neg h]
    · rw [if_pos rfl]; exact Prod.ext rfl hk.symm
end Go.Proofs.Ytbfomnkapnlgeaa
