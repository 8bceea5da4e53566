/- WReg: drawn regions: a table of what pure operations yield, stages of those that make or write memory. -/
import Derived.Test.YtclhimodopgeoaaGreatTC7
namespace Go.Proofs.YtclhimodopgeoaaGreat
open Go.RowKit

def upZ (z : Nat → Value) (i : Nat) (v : Value) : Nat → Value := fun k => if k = i then v else z k
theorem upZ_same {z : Nat → Value} {i : Nat} {v : Value} (e : z i = v) : upZ z i v = z := funext fun k => by
  unfold upZ
  by_cases q : k = i
  · subst q; rw [if_pos rfl]; exact e.symm
  · rw [if_neg q]
def TabZ (n : Nat) (P : Nat → Value → World → Prop) (l : Array Bool) (z : Nat → Value) (U : World) : Prop := ∀ d, d < n → l.getD d true = true → P d (z d) U
section
variable {n : Nat} {P : Nat → Value → World → Prop} {l : Array Bool} {z : Nat → Value} {U U' : World} {i : Nat} {v : Value}
theorem TabZ.fill (hz : TabZ n P l z U) (e : z i = v) : TabZ n P l (upZ z i v) U := by rw [upZ_same e]; exact hz
theorem TabZ.step (hz : TabZ n P l z U) (hv : P i v U) : TabZ n P (l.setIfInBounds i true) (upZ z i v) U := by
  intro d hd h
  unfold upZ
  by_cases q : d = i
  · subst q; rw [if_pos rfl]; exact hv
  · rw [if_neg q]; exact hz d hd (set_getD (by omega) h)
theorem TabZ.mono (hz : TabZ n P l z U) (hm : ∀ d s, P d s U → P d s U') : TabZ n P l z U' := fun d hd h => hm d _ (hz d hd h)
theorem TabZ.start : TabZ n P (Array.replicate n false) z U := fun d hd h => by simp [Array.getD_eq_getD_getElem?, hd] at h
theorem flag_ne {c : Nat} (h : i ≠ c) : (l.setIfInBounds i true).getD c true = l.getD c true := by
  rw [Array.getD_eq_getD_getElem?, Array.getD_eq_getD_getElem?, Array.getElem?_setIfInBounds_ne h]
theorem flag_ne' {c : Nat} {b : Bool} (h : i ≠ c) (e : l.getD c true = b) : (l.setIfInBounds i true).getD c true = b := (flag_ne h).trans e
theorem flag_self : (l.setIfInBounds i true).getD i true = true := by
  rw [Array.getD_eq_getD_getElem?]
  by_cases h : i < l.size
  · rw [Array.getElem?_setIfInBounds_self_of_lt h]; rfl
  · rw [Array.getElem?_eq_none (by simp; omega)]; rfl
end
/-- What pure operations yield. -/
def PureP (vals : List Value) (pure : List Bool) (d : Nat) (s : Value) (_ : World) : Prop := if pure.getD d false then s = vals.getD d undef else True
end Go.Proofs.YtclhimodopgeoaaGreat

