/- Going up in a tree that may be: the whole way; the document's own Above. -/
import Derived.Test.YtpmacpbhdgigfaaGreatBits2
namespace Go.Proofs.YtpmacpbhdgigfaaGreat
open Go.RowKit

/-- All above a node. -/
def upsL (T : List Nd) (n : Nat) : List Nat := ups T T.length n
theorem upsL_none {T : List Nd} {n : Nat} (h : (overI (nd T n) == -1) = true) : upsL T n = [] := ups_none h
theorem upsL_some {T : List Nd} (hm : mayB T = true) {n m : Nat} (hn : n < T.length) (h : overI (nd T n) = (m : Int)) : upsL T n = m :: upsL T m ∧ m < T.length := by
  have hup := mayB_upOk hm
  have hml := fine_up (mayB_fine hm) hn h
  have hl : hasLoopB T = false := by
    rw [mayB] at hm
    simp only [Bool.and_eq_true] at hm
    simpa using hm.2.2.2.2
  have e1 := ends_of_noLoop hup hl hn
  have hne : (overI (nd T n) == -1) = false := by rw [h]; simp
  refine ⟨?_, hml⟩
  unfold upsL
  rw [← ups_stable hup hn e1 (T.length + 1) (by omega), ups, hne, h]
  simp

def aboveB (T : List Nd) (a : Int) (n : Nat) : Bool := ((n : Int) == a) || isAncB T a n
theorem aboveB_hit {T : List Nd} {a : Int} {n : Nat} (h : (a == (n : Int)) = true) : aboveB T a n = true := by
  have : (n : Int) = a := by simpa using Eq.symm (by simpa using h : a = (n : Int))
  simp [aboveB, this]
theorem aboveB_none {T : List Nd} {a : Int} {n : Nat} (h : (a == (n : Int)) = false) (he : (overI (nd T n) == -1) = true) : aboveB T a n = false := by
  have hne : ((n : Int) == a) = false := by
    have : ¬ a = (n : Int) := by simpa using h
    simp; omega
  have := upsL_none he
  unfold upsL at this
  rw [aboveB, isAncB, this, hne]; rfl
theorem aboveB_some {T : List Nd} (hm : mayB T = true) {a : Int} {n m : Nat} (hn : n < T.length) (h : (a == (n : Int)) = false) (he : overI (nd T n) = (m : Int)) : aboveB T a n = aboveB T a m := by
  have hne : ((n : Int) == a) = false := by
    have : ¬ a = (n : Int) := by simpa using h
    simp; omega
  have := (upsL_some hm hn he).1
  unfold upsL at this
  rw [aboveB, isAncB, this, hne, aboveB, isAncB]
  simp

end Go.Proofs.YtpmacpbhdgigfaaGreat
