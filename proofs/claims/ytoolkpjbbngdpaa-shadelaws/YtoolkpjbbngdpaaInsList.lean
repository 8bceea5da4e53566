/- Plain lists: what slices.Insert and slices.Delete make of a row. Imports nothing of the program. -/
namespace Go.Proofs.Ytoolkpjbbngdpaa

theorem getElem?_app3 {α : Type} (A B C : List α) (j : Nat) : (A ++ B ++ C)[j]? = if j < A.length then A[j]? else if j < A.length + B.length then B[j - A.length]? else C[j - A.length - B.length]? := by
  rw [List.append_assoc]
  by_cases h1 : j < A.length
  · rw [if_pos h1, List.getElem?_append_left h1]
  · rw [if_neg h1, List.getElem?_append_right (by omega)]
    by_cases h2 : j < A.length + B.length
    · rw [if_pos h2, List.getElem?_append_left (by omega)]
    · rw [if_neg h2, List.getElem?_append_right (by omega)]

theorem ins_final {α : Type} (c1 xs cs : List α) (S a b : Nat) (hcs : cs.length = S) (hab : a ≤ b) (hxl : xs.length = b) (hl : b + S ≤ c1.length) (h1 : ∀ j, j < a → c1[j]? = xs[j]?) (h2 : ∀ j, a + S ≤ j → j < b + S → c1[j]? = xs[j - S]?) :
    (c1.take a ++ cs ++ c1.drop (a + cs.length)).take (b + S) = xs.take a ++ cs ++ xs.drop a := by
  have e1 : (c1.take a).length = a := by rw [List.length_take]; omega
  have e2 : (xs.take a).length = a := by rw [List.length_take]; omega
  apply List.ext_getElem?
  intro j
  rw [getElem?_app3 (xs.take a), List.getElem?_take, getElem?_app3 (c1.take a), e1, e2, hcs]
  by_cases h : j < b + S
  · rw [if_pos h]
    by_cases k1 : j < a
    · rw [if_pos k1, if_pos k1, List.getElem?_take, if_pos k1, List.getElem?_take, if_pos k1]
      exact h1 j k1
    · rw [if_neg k1, if_neg k1]
      by_cases k2 : j < a + S
      · rw [if_pos k2, if_pos k2]
      · rw [if_neg k2, if_neg k2, List.getElem?_drop, List.getElem?_drop, show a + S + (j - a - S) = j by omega, h2 j (by omega) h]
        congr 1
        omega
  · rw [if_neg h, if_neg (by omega), if_neg (by omega), List.getElem?_eq_none]
    simp only [List.length_drop, hxl]
    omega

/-- In place: what stood from a on is moved up by S, and cs laid there. -/
theorem ins_list {α : Type} (cur xs cs : List α) (S a b : Nat) (hcs : cs.length = S) (hab : a ≤ b) (hlen : b + S ≤ cur.length) (hxs : cur.take b = xs) :
    ((((cur.take (a + S) ++ xs.drop a ++ cur.drop (a + S + (xs.drop a).length))).take a ++ cs ++ ((cur.take (a + S) ++ xs.drop a ++ cur.drop (a + S + (xs.drop a).length))).drop (a + cs.length)).take (b + S)) = xs.take a ++ cs ++ xs.drop a := by
  have hxl : xs.length = b := by rw [← hxs, List.length_take]; omega
  have hxd : (xs.drop a).length = b - a := by rw [List.length_drop, hxl]
  have hta : (cur.take (a + S)).length = a + S := by rw [List.length_take]; omega
  have hc : ∀ j, j < b → cur[j]? = xs[j]? := fun j hj => by rw [← hxs, List.getElem?_take, if_pos hj]
  refine ins_final _ xs cs S a b hcs hab hxl ?_ ?_ ?_
  · simp only [List.length_append, List.length_take, List.length_drop, hxl]; omega
  · intro j hj
    rw [getElem?_app3, hta, if_pos (by omega), List.getElem?_take, if_pos (by omega)]
    exact hc j (by omega)
  · intro j h1 h2
    rw [getElem?_app3, hta, if_neg (by omega), hxd, if_pos (by omega), List.getElem?_drop]
    congr 1
    omega

/-- In a new row: the first a cells, zeros; cs laid at a, what stood from a on behind it. -/
theorem ins_list_grow {α : Type} (xs cs Z : List α) (S a b : Nat) (hcs : cs.length = S) (hab : a ≤ b) (hxl : xs.length = b) :
    ((((xs.take a ++ Z).take a ++ cs ++ (xs.take a ++ Z).drop (a + cs.length)).take (a + S) ++ xs.drop a ++ ((xs.take a ++ Z).take a ++ cs ++ (xs.take a ++ Z).drop (a + cs.length)).drop (a + S + (xs.drop a).length)).take (b + S)) = xs.take a ++ cs ++ xs.drop a := by
  have hta : (xs.take a).length = a := by rw [List.length_take]; omega
  have e1 : (xs.take a ++ Z).take a = xs.take a := by rw [List.take_append_of_le_length (by omega), List.take_take, Nat.min_self]
  rw [e1]
  have e2 : (xs.take a ++ cs ++ (xs.take a ++ Z).drop (a + cs.length)).take (a + S) = xs.take a ++ cs := by
    rw [List.take_append_of_le_length (by simp only [List.length_append, hta, hcs]; omega), List.take_of_length_le (by simp only [List.length_append, hta, hcs]; omega)]
  rw [e2, List.take_append_of_le_length (by simp only [List.length_append, hta, hcs, List.length_drop]; omega), List.take_of_length_le (by simp only [List.length_append, hta, hcs, List.length_drop]; omega)]
end Go.Proofs.Ytoolkpjbbngdpaa
