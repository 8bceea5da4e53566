/- A table of what each operation of a drawn region yields. -/
import Derived.Test.YtclhimodopgeoaaGreatTB6
import Derived.Test.YtclhimodopgeoaaGreatXTopFixS
namespace Go.Proofs.YtclhimodopgeoaaGreat
open Go.RowKit

def upZ (z : Nat → Value) (i : Nat) (v : Value) : Nat → Value := fun k => if k = i then v else z k
theorem upZ_same {z : Nat → Value} {i : Nat} {v : Value} (e : z i = v) : upZ z i v = z := funext fun k => by
  unfold upZ
  by_cases q : k = i
  · subst q; rw [if_pos rfl]; exact e.symm
  · rw [if_neg q]
def TabZ (n : Nat) (P : Nat → Value → World → Prop) (l : Array Bool) (z : Nat → Value) (U : World) : Prop := ∀ d, d < n → l.getD d true = true → P d (z d) U
section
variable {n : Nat} {P : Nat → Value → World → Prop} {l : Array Bool} {z : Nat → Value} {U U' : World} {i : Nat} {v : Value}
theorem TabZ.fill (hz : TabZ n P l z U) (e : z i = v) : TabZ n P l (upZ z i v) U := by rw [upZ_same e]; exact hz
theorem TabZ.step (hz : TabZ n P l z U) (hv : P i v U) : TabZ n P (l.setIfInBounds i true) (upZ z i v) U := by
  intro d hd h
  unfold upZ
  by_cases q : d = i
  · subst q; rw [if_pos rfl]; exact hv
  · rw [if_neg q]; exact hz d hd (set_getD (by omega) h)
theorem TabZ.mono (hz : TabZ n P l z U) (hm : ∀ d s, P d s U → P d s U') : TabZ n P l z U' := fun d hd h => hm d _ (hz d hd h)
theorem TabZ.start : TabZ n P (Array.replicate n false) z U := fun d hd h => by simp [Array.getD_eq_getD_getElem?, hd] at h
end
def R29P (vals : List Value) (V : Vw) (d : Nat) (s : Value) (U : World) : Prop :=
  if d = 11 then ∃ na nc, s = .slice na (fixPs V).length nc ∧ IntsAt U (.slice na (fixPs V).length nc) (nodesL' (fixPs V))
  else s = vals.getD d undef
theorem R29P.mono {vals : List Value} {V : Vw} {U U' : World} (hb : Below U.heap.size U U') : ∀ d s, R29P vals V d s U → R29P vals V d s U' := fun d s h => by
  unfold R29P at h ⊢
  by_cases q : d = 11
  · rw [if_pos q] at h ⊢
    obtain ⟨na, nc, e, hv⟩ := h
    exact ⟨na, nc, e, hv.below hb⟩
  · rw [if_neg q] at h ⊢
    exact h
end Go.Proofs.YtclhimodopgeoaaGreat

