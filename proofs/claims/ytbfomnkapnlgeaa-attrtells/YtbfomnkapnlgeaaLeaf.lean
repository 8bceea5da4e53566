/- The small functions of packages tree and attr that only compute: each returns what its Lean twin says, and leaves the world as it is. -/
import Derived.Test.YtbfomnkapnlgeaaRows
import Derived.WalkKit
import Derived.WalkSpells
import Derived.WalkLawsBesides
namespace Go.Proofs.Ytbfomnkapnlgeaa
open Go.RowKit

def isDigitB (r : Int) : Bool := decide (48 ≤ r) && decide (r ≤ 57)
def isSignB (r : Int) : Bool := r == 45 || r == 43
def signOfI (r : Int) : Int := if r == 45 then -1 else 1
def isBlankB (r : Int) : Bool := r == 32 || r == 9 || r == 10 || r == 12 || r == 13

set_option maxHeartbeats 400000 in
theorem isDigit_any (r : Int) (w : World) :
    Calls Try.prog 69 #[.int .i32 r] w fun e w' => e = .returned (.bool (isDigitB r)) ∧ w' = w := by
  by_cases h : 48 ≤ r
  · go_enter Try.func69, Try.ntmps69
    go_wp2
    go_ret
    exact ⟨by simp [isDigitB, h], rfl⟩
  · have hd : decide (48 ≤ r) = false := by simpa using h
    go_enter Try.func69, Try.ntmps69
    go_wp2
    go_ret
    exact ⟨by simp [isDigitB, hd], rfl⟩

set_option maxHeartbeats 400000 in
theorem isSign_any (r : Int) (w : World) :
    Calls Try.prog 70 #[.int .i32 r] w fun e w' => e = .returned (.bool (isSignB r)) ∧ w' = w := by
  cases h : (r == 45)
  · go_enter Try.func70, Try.ntmps70
    go_wp2
    go_ret
    exact ⟨by simp [isSignB, h], rfl⟩
  · go_enter Try.func70, Try.ntmps70
    go_wp2
    go_ret
    exact ⟨by simp [isSignB, h], rfl⟩

set_option maxHeartbeats 400000 in
theorem signOf_any (r : Int) (w : World) :
    Calls Try.prog 71 #[.int .i32 r] w fun e w' => e = .returned (.int .i64 (signOfI r)) ∧ w' = w := by
  cases h : (r == 45)
  · go_enter Try.func71, Try.ntmps71
    go_wp2
    go_ret
    exact ⟨by simp [signOfI, h], rfl⟩
  · go_enter Try.func71, Try.ntmps71
    go_wp2
    go_ret
    exact ⟨by simp [signOfI, h], rfl⟩

set_option maxHeartbeats 800000 in
theorem isBlank_any (r : Int) (w : World) :
    Calls Try.prog 72 #[.int .i32 r] w fun e w' => e = .returned (.bool (isBlankB r)) ∧ w' = w := by
  go_enter Try.func72, Try.ntmps72
  go_wp2
  all_goals
    go_ret
    exact ⟨by simp [isBlankB, *], rfl⟩
end Go.Proofs.Ytbfomnkapnlgeaa
