/- What ListenOnce rests on: what may be stays so under Add and Drop, and how often one is there. -/
import Derived.Test.YtahnkhgaopaaoabLParts
namespace Go.Proofs.Ytahnkhgaopaaoab
open Go.RowKit

theorem has_anyB (h : Hr) : ∀ l : List Hr, hasB l h = l.any (fun a => oneH a h)
  | [] => by simp [hasB, findL]
  | a :: l => by
    have ih := has_anyB h l
    cases ha : oneH a h
    · rw [List.any_cons, ha, Bool.false_or, ← ih]
      simp [hasB, findL, ha]
    · simp [hasB, findL, ha]
/-- What may be: at most 64, each of which may be, no two of which are one. -/
def okH (l : List Hr) : Prop := l.length ≤ 64 ∧ (∀ x ∈ l, mayH x = true) ∧ l.Pairwise (fun a b => oneH a b = false)
theorem ok_nil : okH [] := ⟨by simp, by simp, .nil⟩
theorem ok_bad {l : List Hr} (h : okH l) {j : Nat} (hj : j < l.length) : badH l j = false := by
  obtain ⟨_, hm, hp⟩ := h
  unfold badH
  rw [hm _ (getD_memH hj), has_anyB, Bool.not_true, Bool.false_or, List.any_eq_false]
  intro x hx
  obtain ⟨i, hi, e⟩ := List.getElem_of_mem hx
  have hi' : i < j := by rw [List.length_take] at hi; omega
  have := List.pairwise_iff_getElem.mp hp i j (by omega) hj hi'
  rw [List.getElem_take] at e
  rw [List.getD_eq_getElem?_getD, List.getElem?_eq_getElem hj, ← e]
  simpa using this
theorem ok_check {l : List Hr} (h : okH l) : checkE l 64 = 0 := by
  unfold checkE
  have h1 : (List.range l.length).any (badH l) = false := by
    rw [List.any_eq_false]
    intro j hj
    rw [ok_bad h (List.mem_range.mp hj)]
    simp
  have h2 : (List.range l.length).any (fun j => farH 64 (l.getD j hrD)) = false := by
    rw [List.any_eq_false]
    intro j hj
    have := h.2.1 _ (getD_memH (List.mem_range.mp hj))
    rw [mayH_le] at this
    simp only [Bool.and_eq_true, decide_eq_true_eq] at this
    simp only [farH, decide_eq_true_eq]
    omega
  rw [if_neg (by have := h.1; omega), h1, h2]
  simp
theorem ok_add {l : List Hr} (h : okH l) (x : Hr) : okH (addL l x) := by
  unfold addL
  split
  · rename_i e
    simp only [Bool.and_eq_true, Bool.not_eq_true', decide_eq_true_eq] at e
    obtain ⟨⟨hm, hh⟩, hl⟩ := e
    refine ⟨by simp; omega, ?_, ?_⟩
    · intro y hy
      rcases List.mem_append.mp hy with hy | hy
      · exact h.2.1 y hy
      · rw [List.mem_singleton.mp hy]; exact hm
    · rw [List.pairwise_append]
      refine ⟨h.2.2, by simp, ?_⟩
      intro a ha b hb
      rw [List.mem_singleton.mp hb]
      rw [has_anyB, List.any_eq_false] at hh
      simpa using hh a ha
  · exact h
theorem cut_sub (l : List Hr) (i : Nat) : (cutL l i).Sublist l := by
  unfold cutL
  rw [← List.eraseIdx_eq_take_drop_succ]
  exact List.eraseIdx_sublist _ _
theorem ok_sub {l m : List Hr} (h : okH l) (s : m.Sublist l) : okH m :=
  ⟨Nat.le_trans s.length_le h.1, fun x hx => h.2.1 x (s.subset hx), h.2.2.sublist s⟩
theorem ok_drop {l : List Hr} (h : okH l) (x : Hr) : okH (dropL l x) := by
  unfold dropL
  split
  · exact ok_sub h (cut_sub _ _)
  · exact h
theorem one_trans {a b h : Hr} (h1 : oneH a h = true) (h2 : oneH b h = true) : oneH a b = true := by
  simp only [oneH, Bool.and_eq_true, beq_iff_eq] at *
  obtain ⟨⟨⟨e1, e2⟩, e3⟩, e4⟩ := h1
  obtain ⟨⟨⟨f1, f2⟩, f3⟩, f4⟩ := h2
  exact ⟨⟨⟨e1.trans f1.symm, e2.trans f2.symm⟩, e3.trans f3.symm⟩, e4.trans f4.symm⟩
/-- How many of l are one with h. -/
def oneN (l : List Hr) (h : Hr) : Nat := (l.filter (fun a => oneH a h)).length
theorem one_none {l : List Hr} {h : Hr} (e : hasB l h = false) : oneN l h = 0 := by
  rw [has_anyB, List.any_eq_false] at e
  unfold oneN
  rw [List.length_eq_zero_iff, List.filter_eq_nil_iff]
  exact e
theorem one_le {h : Hr} : ∀ {l : List Hr}, l.Pairwise (fun a b => oneH a b = false) → oneN l h ≤ 1
  | [], _ => by simp [oneN]
  | a :: l, hp => by
    rw [List.pairwise_cons] at hp
    cases ha : oneH a h
    · have := one_le (h := h) hp.2
      simpa [oneN, ha] using this
    · have : oneN l h = 0 := one_none (by
        rw [has_anyB, List.any_eq_false]
        intro b hb hb'
        have := hp.1 b hb
        rw [one_trans ha hb'] at this
        cases this)
      simp only [oneN] at this
      simp [oneN, ha, this]
theorem one_pos {h : Hr} {l : List Hr} (e : hasB l h = true) : 0 < oneN l h := by
  rw [has_anyB, List.any_eq_true] at e
  obtain ⟨x, hx, hx'⟩ := e
  exact List.length_pos_of_mem (List.mem_filter.mpr ⟨hx, hx'⟩)
theorem add_one {l : List Hr} {h : Hr} (ho : okH l) (e : addE l h = 0) : oneN (addL l h) h = 1 := by
  have h1 := one_le (h := h) (ok_add ho h).2.2
  have h2 : hasB (addL l h) h = true := by
    unfold addE at e
    split at e
    · rename_i hm
      split at e
      · rename_i hh
        simp [addL, hh]
      · rename_i hh
        split at e
        · omega
        · rename_i hl
          have : addL l h = l ++ [h] := by simp [addL, hm, hh]; omega
          rw [this, has_anyB]
          simp [one_refl]
    · omega
  have h3 := one_pos h2
  omega
theorem find_one {h : Hr} : ∀ {l : List Hr}, findL h l < l.length → oneN l h = oneN (cutL l (findL h l)) h + 1
  | [], e => by simp at e
  | a :: l, e => by
    cases ha : oneH a h
    · have hf : findL h (a :: l) = findL h l + 1 := by simp [findL, ha]
      rw [hf] at e ⊢
      have := find_one (h := h) (l := l) (by simpa using e)
      simp only [oneN, cutL] at this
      simp [oneN, cutL, ha, this]
    · simp [findL, ha, oneN, cutL]
theorem drop_one {l : List Hr} {h : Hr} (ho : okH l) (e : dropE l h = 0) : oneN (dropL l h) h = 0 := by
  have h1 := one_le (h := h) ho.2.2
  unfold dropE at e
  split at e
  · rename_i hm
    split at e
    · rename_i hh
      have hf : findL h l < l.length := by simpa [hasB] using hh
      have := find_one hf
      have hd : dropL l h = cutL l (findL h l) := by simp [dropL, hm, hh]
      rw [hd]
      omega
    · omega
  · omega
/-- How many of the first k are one with h. -/
def oneK (l : List Hr) (h : Hr) (k : Nat) : Nat := oneN (l.take k) h
theorem oneK_zero (l : List Hr) (h : Hr) : oneK l h 0 = 0 := by simp [oneK, oneN]
theorem oneK_all (l : List Hr) (h : Hr) : oneK l h l.length = oneN l h := by simp [oneK]
theorem oneK_succ {l : List Hr} {h : Hr} {k : Nat} (hk : k < l.length) : oneK l h (k + 1) = oneK l h k + if oneH (l.getD k hrD) h then 1 else 0 := by
  unfold oneK oneN
  rw [List.take_add_one, List.getElem?_eq_getElem hk, List.filter_append, List.length_append, List.getD_eq_getElem?_getD, List.getElem?_eq_getElem hk]
  cases e : oneH l[k] h <;> simp [e]
theorem oneK_le (l : List Hr) (h : Hr) (k : Nat) : oneK l h k ≤ k := by
  unfold oneK oneN
  exact Nat.le_trans (List.length_filter_le _ _) (by rw [List.length_take]; omega)
/-- One's own once put in: it is h when it is one with h. -/
theorem once_eq (x h : Hr) : decide (({ x with once := h.once } : Hr) = h) = oneH x h := by
  obtain ⟨a, b, c, d, e⟩ := x
  obtain ⟨a', b', c', d', e'⟩ := h
  simp only [oneH, Hr.mk.injEq, true_and]
  rw [Bool.eq_iff_iff]
  simp only [decide_eq_true_eq, Bool.and_eq_true, beq_iff_eq]
  constructor
  · rintro ⟨h1, h2, h3, h4⟩; exact ⟨⟨⟨h1, h2⟩, h3⟩, h4⟩
  · rintro ⟨⟨⟨h1, h2⟩, h3⟩, h4⟩; exact ⟨h1, h2, h3, h4⟩
end Go.Proofs.Ytahnkhgaopaaoab
