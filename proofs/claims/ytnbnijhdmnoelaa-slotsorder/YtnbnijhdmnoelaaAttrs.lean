/- attrKind, attrValues, attrFits and attrsFit of package tree: each returns what its Lean twin says. -/
import Derived.Test.YtnbnijhdmnoelaaTree
namespace Go.Proofs.Ytnbnijhdmnoelaa
open Go.RowKit

def attrKindI (n : Int) : Int := if n == 7 || n == 8 then 3 else 1
def attrLow (n : Int) : Int := if n == 0 then -2147483648 else if n == 4 then 0 else if n == 6 then 1 else 0
def attrHigh (n : Int) : Int := if n == 0 then 2147483647 else if n == 4 then 2147483647 else if n == 6 then 3 else if n == 9 then 63 else 0
def attrFitsB (k n v : Int) : Bool := !(decide (n < 0) || decide (10 ≤ n) || k != attrKindI n) && (decide (attrLow n ≤ v) && decide (v ≤ attrHigh n))
def attrsFrom (k last : Int) : List (Int × Int) → Bool
  | [] => true
  | a :: l => !(decide (a.1 ≤ last) || !attrFitsB k a.1 a.2) && attrsFrom k a.1 l

set_option maxHeartbeats 400000 in
theorem attrKind_any (n : Int) (w : World) :
    Calls Try.prog 139 #[.int .i64 n] w fun e w' => e = .returned (.int .i64 (attrKindI n)) ∧ w' = w := by
  cases h : (n == 7)
  · cases h' : (n == 8)
    all_goals
      go_enter Try.func139, Try.ntmps139
      go_wp2
      go_ret
      exact ⟨ret_int (by simp only [attrKindI, h, h', Bool.or_self, Bool.or_true, Bool.false_eq_true, if_false, if_true]), rfl⟩
  · go_enter Try.func139, Try.ntmps139
    go_wp2
    go_ret
    exact ⟨ret_int (by simp only [attrKindI, h, Bool.true_or, if_true]), rfl⟩

theorem ret_ints {a b a' b' : Int} (h : a = a') (h' : b = b') : Ending.returned (.tuple #[.int .i64 a, .int .i64 b]) = .returned (.tuple #[.int .i64 a', .int .i64 b']) := by rw [h, h']

set_option maxHeartbeats 800000 in
theorem attrValues_any (n : Int) (w : World) :
    Calls Try.prog 140 #[.int .i64 n] w fun e w' => e = .returned (.tuple #[.int .i64 (attrLow n), .int .i64 (attrHigh n)]) ∧ w' = w := by
  cases h0 : (n == 0)
  · cases h4 : (n == 4)
    · cases h6 : (n == 6)
      · cases h9 : (n == 9)
        all_goals
          go_enter Try.func140, Try.ntmps140
          go_wp2
          go_ret2
          exact ⟨ret_ints (by simp only [attrLow, h0, h4, h6, Bool.false_eq_true, if_false]) (by simp only [attrHigh, h0, h4, h6, h9, Bool.false_eq_true, if_false, if_true]), rfl⟩
      · go_enter Try.func140, Try.ntmps140
        go_wp2
        go_ret2
        exact ⟨ret_ints (by simp only [attrLow, h0, h4, h6, Bool.false_eq_true, if_false, if_true]) (by simp only [attrHigh, h0, h4, h6, Bool.false_eq_true, if_false, if_true]), rfl⟩
    · go_enter Try.func140, Try.ntmps140
      go_wp2
      go_ret2
      exact ⟨ret_ints (by simp only [attrLow, h0, h4, Bool.false_eq_true, if_false, if_true]) (by simp only [attrHigh, h0, h4, Bool.false_eq_true, if_false, if_true]), rfl⟩
  · go_enter Try.func140, Try.ntmps140
    go_wp2
    go_ret2
    exact ⟨ret_ints (by simp only [attrLow, h0, if_true]) (by simp only [attrHigh, h0, if_true]), rfl⟩

set_option maxHeartbeats 1000000 in
theorem attrFits_any (k n v : Int) (w : World) :
    Calls Try.prog 137 #[.int .i64 k, .agg #[.int .i64 n, .int .i64 v]] w fun e w' => e = .returned (.bool (attrFitsB k n v)) ∧ Below w.heap.size w w' := by
  have hB : ∀ o, Below w.heap.size w (w.alloc o) := fun o => (Below.refl _ w).alloc (Nat.le_refl _) o
  cases h1 : decide (n < 0)
  · cases h2 : decide (10 ≤ n)
    · cases h3 : (k != attrKindI n)
      · cases h4 : decide (attrLow n ≤ v)
        all_goals
          go_enter Try.func137, Try.ntmps137
          go_wp2_with (first | (go_at_call 139; refine (attrKind_any _ _).mono ?_; rintro e w1 ⟨rfl, rfl⟩) | (go_at_call 140; refine (attrValues_any _ _).mono ?_; rintro e w1 ⟨rfl, rfl⟩))
          go_ret
          exact ⟨ret_bool (by simp only [attrFitsB, h1, h2, h3, h4, Bool.or_self, Bool.not_false, Bool.true_and, Bool.false_and]), hB _⟩
      · go_enter Try.func137, Try.ntmps137
        go_wp2_with (first | (go_at_call 139; refine (attrKind_any _ _).mono ?_; rintro e w1 ⟨rfl, rfl⟩) | (go_at_call 140; refine (attrValues_any _ _).mono ?_; rintro e w1 ⟨rfl, rfl⟩))
        go_ret
        exact ⟨ret_bool (by simp only [attrFitsB, h3, Bool.or_true, Bool.not_true, Bool.false_and]), hB _⟩
    · go_enter Try.func137, Try.ntmps137
      go_wp2_with (first | (go_at_call 139; refine (attrKind_any _ _).mono ?_; rintro e w1 ⟨rfl, rfl⟩) | (go_at_call 140; refine (attrValues_any _ _).mono ?_; rintro e w1 ⟨rfl, rfl⟩))
      go_ret
      exact ⟨ret_bool (by simp only [attrFitsB, h2, Bool.or_true, Bool.true_or, Bool.not_true, Bool.false_and]), hB _⟩
  · go_enter Try.func137, Try.ntmps137
    go_wp2_with (first | (go_at_call 139; refine (attrKind_any _ _).mono ?_; rintro e w1 ⟨rfl, rfl⟩) | (go_at_call 140; refine (attrValues_any _ _).mono ?_; rintro e w1 ⟨rfl, rfl⟩))
    go_ret
    exact ⟨ret_bool (by simp only [attrFitsB, h1, Bool.true_or, Bool.not_true, Bool.false_and]), hB _⟩

end Go.Proofs.Ytnbnijhdmnoelaa
