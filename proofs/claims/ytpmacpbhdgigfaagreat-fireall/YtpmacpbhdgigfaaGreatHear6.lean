/- listen.Check. -/
import Derived.Test.YtpmacpbhdgigfaaGreatHear5
namespace Go.Proofs.YtpmacpbhdgigfaaGreat.L8
open Go.RowKit

def badH (l : List Hr) (j : Nat) : Bool := !mayH (l.getD j hrD) || hasB (l.take j) (l.getD j hrD)
def farH (nodes : Int) (h : Hr) : Bool := decide (nodes ≤ h.node)
def checkE (l : List Hr) (nodes : Int) : Int := if 64 < l.length then 1 else if (List.range l.length).any (badH l) then 1 else if (List.range l.length).any (fun j => farH nodes (l.getD j hrD)) then 2 else 0
theorem hears_take {w : World} {b off cap k : Nat} {l : List Hr} {n : Nat} (h : HearsAt w (.slice (some ⟨b, off, none⟩) n cap) l) (hk : k ≤ l.length) : HearsAt w (.slice (some ⟨b, off, none⟩) k cap) (l.take k) := by
  obtain ⟨a, c, e, hc, hd⟩ := h
  simp only [Value.slice.injEq] at e
  obtain ⟨rfl, rfl, rfl⟩ := e
  have hlen : (l.take k).length = k := by rw [List.length_take]; omega
  refine ⟨some ⟨b, off, none⟩, cap, by rw [hlen], by omega, fun h0 => ?_⟩
  obtain ⟨b', off', e', hd'⟩ := hd (by omega)
  refine ⟨b', off', e', fun j hj => ?_⟩
  have hjk : j < k := by omega
  have : (l.take k).getD j hrD = l.getD j hrD := by
    rw [List.getD_eq_getElem?_getD, List.getD_eq_getElem?_getD, List.getElem?_take_of_lt hjk]
  rw [this]
  exact hd' j (by omega)
theorem any_range {n : Nat} {p : Nat → Bool} {k : Nat} (hk : k < n) (h : p k = true) : (List.range n).any p = true := List.any_eq_true.mpr ⟨k, List.mem_range.mpr hk, h⟩
theorem any_range_no {n : Nat} {p : Nat → Bool} (h : ∀ j, j < n → p j = false) : (List.range n).any p = false := by
  rw [List.any_eq_false]
  intro x hx
  rw [h x (List.mem_range.mp hx)]; simp

end Go.Proofs.YtpmacpbhdgigfaaGreat.L8
