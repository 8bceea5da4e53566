/- The document's own Check and Drop of layer 8. -/
import Derived.Test.YtpmacpbhdgigfaaGreatHear6
namespace Go.Proofs.YtpmacpbhdgigfaaGreat.L8
open Go.RowKit

theorem find_take {h : Hr} : ∀ {l : List Hr} {k : Nat}, k ≤ l.length → ((findL h l < k) ↔ hasB (l.take k) h = true)
  | [], k, hk => by simp at hk; subst hk; simp [hasB, findL]
  | a :: l, 0, _ => by simp [hasB, findL]
  | a :: l, k + 1, hk => by
    have ih := find_take (h := h) (l := l) (k := k) (by simpa using hk)
    cases ha : oneH a h
    · have e1 : findL h (a :: l) = findL h l + 1 := by simp [findL, ha]
      have e2 : findL h ((a :: l).take (k + 1)) = findL h (l.take k) + 1 := by simp [findL, ha]
      have e3 : ((a :: l).take (k + 1)).length = (l.take k).length + 1 := by simp
      unfold hasB at ih ⊢
      rw [e1, e2, e3]
      rw [decide_eq_true_eq] at ih ⊢
      constructor
      · intro h; have := ih.mp (by omega); omega
      · intro h; have := ih.mpr (by omega); omega
    · have e1 : findL h (a :: l) = 0 := by simp [findL, ha]
      have e2 : findL h ((a :: l).take (k + 1)) = 0 := by simp [findL, ha]
      unfold hasB
      rw [e1, e2]
      simp
theorem one_refl (x : Hr) : oneH x x = true := by simp [oneH]
theorem find_self {l : List Hr} {k : Nat} (_hk : k < l.length) : findL (l.getD k hrD) l ≤ k := by
  rcases Nat.lt_or_ge k (findL (l.getD k hrD) l) with h | h
  · exfalso
    have : ∀ {m : List Hr} {x : Hr} {j : Nat}, j < findL x m → oneH (m.getD j hrD) x = false := by
      intro m
      induction m with
      | nil => intro x j hj; simp [findL] at hj
      | cons a m ih =>
        intro x j hj
        cases ha : oneH a x
        · simp only [findL, ha, Bool.false_eq_true, if_false] at hj
          cases j with
          | zero => simpa using ha
          | succ j => simpa using ih (x := x) (j := j) (by omega)
        · simp [findL, ha] at hj
    have h2 := this h
    rw [one_refl] at h2
    cases h2
  · exact h
theorem place_lt {l : List Hr} {k : Nat} (hk : k < l.length) : decide (findI l (l.getD k hrD) < (k : Int)) = hasB (l.take k) (l.getD k hrD) := by
  have h1 := find_self hk
  have h2 : hasB l (l.getD k hrD) = true := by unfold hasB; rw [decide_eq_true_iff]; omega
  rw [findI_has, h2, Bool.eq_iff_iff, decide_eq_true_iff, ← find_take (by omega : k ≤ l.length)]
  simp

end Go.Proofs.YtpmacpbhdgigfaaGreat.L8
