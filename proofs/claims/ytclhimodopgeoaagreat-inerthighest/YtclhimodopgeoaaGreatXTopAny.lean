/- Dialog, Popup and Close of package top, of any small view: which error, and which view. -/
import Derived.Test.YtclhimodopgeoaaGreatTE8
import Derived.Test.YtclhimodopgeoaaGreatTE9
namespace Go.Proofs.YtclhimodopgeoaaGreat
open Go.RowKit

def dlgE (V : Vw) (n : Int) : Int := if checkV V = 0 then (if isNodeB V.tree.length n then (if dlgB V.tree n then (if containsB (openedL V) n then 9 else 0) else 3) else 2) else checkV V
def dlgW (V : Vw) (n : Int) (m : Bool) : Vw := if checkV V = 0 then (if dlgE V n = 0 then (if m then { V with modal := V.modal ++ [n], top := V.top ++ [n] } else { V with op := V.op ++ [n] }) else V) else emptyV
def closeE (V : Vw) (n : Int) : Int := if checkV V = 0 then (if isNodeB V.tree.length n then (if containsB (openedL V) n then 0 else 9) else 2) else checkV V
def closeW (V : Vw) (n : Int) : Vw := if checkV V = 0 then (if closeE V n = 0 then closeL V n else V) else emptyV
theorem dlgE_zero {V : Vw} {n : Int} (hck : checkV V = 0) (h : dlgE V n = 0) : dlgB V.tree n = true ∧ n ∉ openedL V := by
  simp only [dlgE, if_pos hck] at h
  by_cases hn : isNodeB V.tree.length n = true
  · by_cases hd : dlgB V.tree n = true
    · by_cases ho : containsB (openedL V) n = true
      · rw [if_pos hn, if_pos hd, if_pos ho] at h; cases h
      · exact ⟨hd, contains_no.mp (by simpa using ho)⟩
    · rw [if_pos hn, if_neg hd] at h; cases h
  · rw [if_neg hn] at h; cases h
theorem dlg_may {V : Vw} {n : Int} {m : Bool} (hck : checkV V = 0) (h : dlgE V n = 0) : checkV (dlgW V n m) = 0 ∧ closeE (dlgW V n m) n = 0 ∧ closeW (dlgW V n m) n = V := by
  obtain ⟨hd, ho⟩ := dlgE_zero hck h
  obtain ⟨hm, hM⟩ := check_iff.mp hck
  have ht : n ∉ V.top := fun hx => ho (top_opened hM hx)
  have hnode : isNodeB V.tree.length n = true := by
    unfold dlgB at hd
    simp only [Bool.and_eq_true] at hd
    exact hd.1
  cases m
  · have e : dlgW V n false = { V with op := V.op ++ [n] } := by simp [dlgW, hck, h]
    have hc : checkV (dlgW V n false) = 0 := by rw [e]; exact check_iff.mpr ⟨hm, may_open hM hd ho⟩
    have hce : closeE (dlgW V n false) n = 0 := by
      have : containsB (openedL (dlgW V n false)) n = true := by rw [contains_yes, mem_opened, e]; exact .inl (by simp)
      have h2 : isNodeB (dlgW V n false).tree.length n = true := by rw [e]; exact hnode
      simp [closeE, hc, this, h2]
    refine ⟨hc, hce, ?_⟩
    rw [closeW, if_pos hc, if_pos hce, e]
    exact close_open ho ht
  · have e : dlgW V n true = { V with modal := V.modal ++ [n], top := V.top ++ [n] } := by simp [dlgW, hck, h]
    have hc : checkV (dlgW V n true) = 0 := by rw [e]; exact check_iff.mpr ⟨hm, may_modal hM hd ho⟩
    have hce : closeE (dlgW V n true) n = 0 := by
      have : containsB (openedL (dlgW V n true)) n = true := by rw [contains_yes, mem_opened, e]; exact .inr (.inl (by simp))
      have h2 : isNodeB (dlgW V n true).tree.length n = true := by rw [e]; exact hnode
      simp [closeE, hc, this, h2]
    refine ⟨hc, hce, ?_⟩
    rw [closeW, if_pos hc, if_pos hce, e]
    exact close_modal ho ht
theorem dlg_tree {V : Vw} {n : Int} {m : Bool} (hck : checkV V = 0) : (dlgW V n m).tree = V.tree := by
  unfold dlgW
  rw [if_pos hck]
  split
  · cases m <;> rfl
  · rfl
end Go.Proofs.YtclhimodopgeoaaGreat

