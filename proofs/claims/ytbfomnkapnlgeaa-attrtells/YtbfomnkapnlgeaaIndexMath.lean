/- The plain mathematics of attr.Index: a machine over bytes, and what it comes to. Imports nothing of the program. -/
import Derived.Test.YtbfomnkapnlgeaaLeaf
namespace Go.Proofs.Ytbfomnkapnlgeaa

/-- The machine's state: how far it has read, the sign, the size. -/
structure St where
  state : Int
  sign : Int
  size : Int

def St.ok (x : St) : Prop := (x.state = 0 ∨ x.state = 1 ∨ x.state = 2) ∧ (x.sign = 1 ∨ x.sign = -1) ∧ 0 ≤ x.size ∧ x.size ≤ 2147483648

/-- One rune: none, where the reading breaks off. -/
def St.step (x : St) (r : Int) : Option St :=
  if isDigitB r then some ⟨2, x.sign, min (x.size * 10 + (r - 48)) 2147483648⟩
  else if x.state == 0 && isSignB r then some ⟨1, signOfI r, x.size⟩
  else if x.state == 0 && isBlankB r then some x
  else none

def St.run (x : St) : List UInt8 → St
  | [] => x
  | b :: l => match x.step b.toNat with
    | some y => y.run l
    | none => x

def idx (l : List UInt8) : Int × Bool :=
  let x := St.run ⟨0, 1, 0⟩ l
  if x.state == 2 then (min (x.sign * x.size) 2147483647, true) else (0, false)

theorem St.step_high (x : St) (r : Int) (h : 128 ≤ r) : x.step r = none := by
  have h1 : isDigitB r = false := by simp [isDigitB]; omega
  have h2 : isSignB r = false := by simp [isSignB]; omega
  have h3 : isBlankB r = false := by simp [isBlankB]; omega
  simp [St.step, h1, h2, h3]

theorem St.ok_step {x y : St} {r : Int} (h : x.ok) (e : x.step r = some y) : y.ok := by
  obtain ⟨h1, h2, h3, h4⟩ := h
  unfold St.step at e
  split at e
  · rename_i hd
    simp [isDigitB] at hd
    simp only [Option.some.injEq] at e
    subst e
    exact ⟨.inr (.inr rfl), h2, by show 0 ≤ min _ _; omega, by show min _ _ ≤ _; omega⟩
  · split at e
    · simp only [Option.some.injEq] at e
      subst e
      refine ⟨.inr (.inl rfl), ?_, h3, h4⟩
      simp only [signOfI]
      split <;> simp
    · split at e
      · simp only [Option.some.injEq] at e
        subst e
        exact ⟨h1, h2, h3, h4⟩
      · cases e

end Go.Proofs.Ytbfomnkapnlgeaa
