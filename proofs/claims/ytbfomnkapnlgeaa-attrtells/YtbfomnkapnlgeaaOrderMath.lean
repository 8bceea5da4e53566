/- In whatever order attributes are set, the same are the same. -/
import Derived.Test.YtbfomnkapnlgeaaBackMath
namespace Go.Proofs.Ytbfomnkapnlgeaa
open Go.RowKit

theorem put_fits {k : Int} {x : Int × Int} (hx : attrFitsB k x.1 x.2 = true) : ∀ {l : List (Int × Int)} {last : Int}, last < x.1 → attrsFrom k last l = true → attrsFrom k last (putL l x) = true
  | [], last, h, _ => by
    rw [putL_nil, attrsFrom, hx, decide_eq_false (by omega)]; rfl
  | a :: l, last, h, hl => by
    have hl' := hl
    rw [attrsFrom, Bool.and_eq_true, Bool.not_eq_true', Bool.or_eq_false_iff, decide_eq_false_iff_not] at hl
    rw [putL_cons]
    by_cases hle : x.1 ≤ a.1
    · rw [if_pos hle]
      by_cases e : a.1 = x.1
      · rw [if_pos (by simpa using e), attrsFrom, hx, decide_eq_false (by omega)]
        rw [e] at hl
        exact hl.2
      · rw [if_neg (by simpa using e), attrsFrom, hx, decide_eq_false (by omega), attrsFrom, decide_eq_false (by omega)]
        simp only [Bool.not_true, Bool.or_false, Bool.not_false, Bool.true_and]
        rw [hl.1.2, hl.2]; rfl
    · rw [if_neg hle, attrsFrom, Bool.and_eq_true, Bool.not_eq_true', Bool.or_eq_false_iff, decide_eq_false_iff_not]
      exact ⟨hl.1, put_fits hx (by omega) hl.2⟩
theorem put_bad {k : Int} {x : Int × Int} (hx : attrFitsB k x.1 x.2 = false) : ∀ {l : List (Int × Int)} {last : Int}, attrsFrom k last (putL l x) = false
  | [], last => by rw [putL_nil, attrsFrom, hx]; simp
  | a :: l, last => by
    rw [putL_cons]
    by_cases hle : x.1 ≤ a.1
    · rw [if_pos hle]
      by_cases e : a.1 = x.1
      · rw [if_pos (by simpa using e), attrsFrom, hx]; simp
      · rw [if_neg (by simpa using e), attrsFrom, hx]; simp
    · rw [if_neg hle, attrsFrom, put_bad hx]; simp
theorem fits_name {k : Int} {p q : Int} (h : attrFitsB k p q = true) : 0 ≤ p ∧ p < 10 := by
  simp only [attrFitsB, Bool.and_eq_true, Bool.not_eq_true', Bool.or_eq_false_iff, decide_eq_false_iff_not] at h
  omega
theorem look_far {k nm : Int} (h : 10 ≤ nm) : ∀ {l : List (Int × Int)} {last : Int}, attrsFrom k last l = true → lookL l nm = (0, false)
  | [], _, _ => rfl
  | a :: l, last, hl => by
    rw [attrsFrom, Bool.and_eq_true, Bool.not_eq_true', Bool.or_eq_false_iff, Bool.not_eq_false'] at hl
    have := fits_name hl.1.2
    rw [lookL_cons, if_neg (by omega)]
    exact look_far h hl.2
theorem look_ext {k : Int} : ∀ {l m : List (Int × Int)} {last : Int}, attrsFrom k last l = true → attrsFrom k last m = true → (∀ nm, lookL l nm = lookL m nm) → l = m
  | [], [], _, _, _, _ => rfl
  | [], b :: m, last, _, _, h => by
    have := h b.1
    rw [lookL_cons, if_pos (Int.le_refl _), if_pos (by simp), lookL_nil] at this
    simp at this
  | a :: l, [], last, _, _, h => by
    have := h a.1
    rw [lookL_cons, if_pos (Int.le_refl _), if_pos (by simp), lookL_nil] at this
    simp at this
  | a :: l, b :: m, last, hl, hm, h => by
    rw [attrsFrom, Bool.and_eq_true] at hl hm
    have ha := h a.1
    have hb := h b.1
    have ha2 : lookL (a :: l) a.1 = (a.2, true) := by rw [lookL_cons, if_pos (Int.le_refl _), if_pos (by simp)]
    have hb2 : lookL (b :: m) b.1 = (b.2, true) := by rw [lookL_cons, if_pos (Int.le_refl _), if_pos (by simp)]
    rw [ha2, lookL_cons] at ha
    rw [hb2, lookL_cons] at hb
    have e1 : a.1 = b.1 := by
      by_cases h1 : a.1 ≤ b.1
      · rw [if_pos h1] at ha
        by_cases e : b.1 = a.1
        · exact e.symm
        · rw [if_neg (by simpa using e)] at ha; simp at ha
      · rw [if_pos (by omega)] at hb
        by_cases e : a.1 = b.1
        · exact e
        · rw [if_neg (by simpa using e)] at hb; simp at hb
    have e2 : a.2 = b.2 := by
      rw [if_pos (by omega), if_pos (by simp [e1])] at ha
      simpa using ha
    have hab : a = b := Prod.ext e1 e2
    subst hab
    have := look_ext hl.2 hm.2 (fun nm => by
      by_cases hn : nm ≤ a.1
      · rw [look_gone hn hl.2, look_gone hn hm.2]
      · have := h nm
        rwa [lookL_cons, lookL_cons, if_neg hn, if_neg hn] at this)
    rw [this]

/-- The tree of AttrOrder: one element, with attributes. -/
def TA (s : List (Int × Int)) : List Nd := [⟨0, 0, -1, [], -1, -1, []⟩, ⟨1, 0, -1, [], -1, -1, s⟩]
theorem TA_with (s t : List (Int × Int)) : withAttrs (TA s) 1 t = TA t := rfl
theorem TA_attrs (s : List (Int × Int)) : (nd (TA s) 1).attrs = s := rfl
theorem TA_kind (s : List (Int × Int)) : (nd (TA s) 1).kind = 1 := rfl
theorem TA_nil : mayB (TA []) = true := by decide +kernel
theorem TA_may (s : List (Int × Int)) : mayB (TA s) = attrsFrom 1 (-1) s := by
  cases h : attrsFrom 1 (-1) s
  · cases hm : mayB (TA s)
    · rfl
    · have := may_attrs hm (m := 1) (by show 1 < 2; decide)
      rw [TA_attrs, TA_kind, h] at this
      cases this
  · exact may_withAttrs TA_nil (n := 1) (by show 1 < 2; decide) h
theorem TA_fault {s : List (Int × Int)} (h : attrsFrom 1 (-1) s = true) : faultE (TA s) 1 = 0 := by
  rw [faultE, TA_may, h]; rfl
theorem TA_setE {s : List (Int × Int)} (h : attrsFrom 1 (-1) s = true) (x : Int × Int) : setE (TA s) 1 x = if attrFitsB 1 x.1 x.2 then 0 else 7 := by
  rw [setE, TA_fault h]
  show (if (0 : Int) != 0 then _ else if (nd (TA s) 1).kind != 1 && (nd (TA s) 1).kind != 3 then 3 else if mayB (withAttrs (TA s) 1 (putL (nd (TA s) 1).attrs x)) then 0 else 7) = _
  rw [TA_with, TA_attrs, TA_kind, TA_may]
  cases hx : attrFitsB 1 x.1 x.2
  · rw [put_bad hx]; rfl
  · rw [put_fits hx (by have := fits_name hx; omega) h]; rfl
theorem TA_setR {s : List (Int × Int)} (h : attrsFrom 1 (-1) s = true) {x : Int × Int} (hx : attrFitsB 1 x.1 x.2 = false) : setR (TA s) 1 x = TA s := by
  rw [setR, TA_setE h, hx]; rfl

/-- What stands once k attributes have been tried. -/
def OrderOk (l : List (Int × Int)) (k : Nat) (s : List (Int × Int)) (L : Nat → Nat) : Prop :=
  attrsFrom 1 (-1) s = true ∧ ∀ j, j < 10 → (L j = 0 ∧ lookL s (j : Int) = (0, false)) ∨
    (∃ m, L j = m + 1 ∧ m < k ∧ (l.getD m (0, 0)).1 = (j : Int) ∧ attrFitsB 1 (l.getD m (0, 0)).1 (l.getD m (0, 0)).2 = true ∧ lookL s (j : Int) = ((l.getD m (0, 0)).2, true))
theorem order_start (l : List (Int × Int)) : OrderOk l 0 [] (fun _ => 0) := ⟨rfl, fun _ _ => Or.inl ⟨rfl, rfl⟩⟩
theorem order_skip {l : List (Int × Int)} {k : Nat} {s : List (Int × Int)} {L : Nat → Nat} (h : OrderOk l k s L) : OrderOk l (k + 1) s L :=
  ⟨h.1, fun j hj => (h.2 j hj).imp id (fun ⟨m, h1, h2, h3⟩ => ⟨m, h1, by omega, h3⟩)⟩
theorem order_put {l : List (Int × Int)} {k : Nat} {s : List (Int × Int)} {L : Nat → Nat} (h : OrderOk l k s L) {p : Nat} {q : Int} (hx : l.getD k (0, 0) = ((p : Int), q)) (hf : attrFitsB 1 (p : Int) q = true) :
    OrderOk l (k + 1) (putL s ((p : Int), q)) (fun j => if j = p then k + 1 else L j) := by
  have hn := fits_name hf
  refine ⟨put_fits (x := ((p : Int), q)) hf (by show (-1 : Int) < p; omega) h.1, fun j hj => ?_⟩
  by_cases e : j = p
  · subst e
    refine Or.inr ⟨k, by simp, by omega, by rw [hx], by rw [hx]; exact hf, ?_⟩
    rw [hx]
    exact look_put ((j : Int), q) s
  · have hne : (j : Int) ≠ ((p : Int), q).1 := by show (j : Int) ≠ (p : Int); omega
    simp only [if_neg e]
    rw [look_put_ne _ hne]
    exact (h.2 j hj).imp id (fun ⟨m, h1, h2, h3⟩ => ⟨m, h1, by omega, h3⟩)

/-- What stands once the names from j on have been laid anew. -/
def AgainOk (j : Nat) (s t : List (Int × Int)) : Prop := attrsFrom 1 (-1) t = true ∧ ∀ m : Nat, m < 10 → lookL t (m : Int) = if m < j then (0, false) else lookL s (m : Int)
theorem again_start (s : List (Int × Int)) : AgainOk 10 s [] := ⟨rfl, fun m hm => by rw [if_pos hm]; rfl⟩
theorem again_skip {j : Nat} {s t : List (Int × Int)} (h : AgainOk (j + 1) s t) (h0 : lookL s (j : Int) = (0, false)) : AgainOk j s t := by
  refine ⟨h.1, fun m hm => ?_⟩
  rw [h.2 m hm]
  by_cases e : m = j
  · subst e; rw [if_pos (by omega), if_neg (by omega), h0]
  · by_cases h1 : m < j
    · rw [if_pos (by omega), if_pos h1]
    · rw [if_neg (by omega), if_neg h1]
theorem again_put {j : Nat} {s t : List (Int × Int)} {q : Int} (h : AgainOk (j + 1) s t) (hl : lookL s (j : Int) = (q, true)) (hf : attrFitsB 1 (j : Int) q = true) : AgainOk j s (putL t ((j : Int), q)) := by
  refine ⟨put_fits (x := ((j : Int), q)) hf (by show (-1 : Int) < j; omega) h.1, fun m hm => ?_⟩
  by_cases e : m = j
  · subst e
    rw [if_neg (by omega), hl]
    exact look_put ((m : Int), q) t
  · have hne : (m : Int) ≠ ((j : Int), q).1 := by show (m : Int) ≠ (j : Int); omega
    rw [look_put_ne _ hne, h.2 m hm]
    by_cases h1 : m < j
    · rw [if_pos (by omega), if_pos h1]
    · rw [if_neg (by omega), if_neg h1]
theorem again_end {s t : List (Int × Int)} (hs : attrsFrom 1 (-1) s = true) (h : AgainOk 0 s t) : s = t := by
  refine look_ext hs h.1 (fun nm => ?_)
  by_cases h0 : nm ≤ -1
  · rw [look_gone h0 hs, look_gone h0 h.1]
  · by_cases h10 : 10 ≤ nm
    · rw [look_far h10 hs, look_far h10 h.1]
    · obtain ⟨m, rfl⟩ : ∃ m : Nat, nm = m := ⟨nm.toNat, by omega⟩
      rw [h.2 m (by omega), if_neg (by omega)]
theorem put_len (l : List (Int × Int)) (x : Int × Int) : (putL l x).length ≤ l.length + 1 := putL_length l x
end Go.Proofs.Ytbfomnkapnlgeaa
