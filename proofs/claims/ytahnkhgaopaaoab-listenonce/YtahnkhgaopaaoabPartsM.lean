/- The mathematics of ListenParts: listeners by node, type and phase. -/
import Derived.Test.YtahnkhgaopaaoabHear7
namespace Go.Proofs.Ytahnkhgaopaaoab
open Go.RowKit

def sameK (a b : Hr) : Bool := hearsP a.node a.type a.cap b
theorem sameK_iff {a b : Hr} : sameK a b = true ↔ b.node = a.node ∧ b.type = a.type ∧ b.cap = a.cap := by
  unfold sameK hearsP
  simp [and_assoc]
theorem sameK_refl (a : Hr) : sameK a a = true := sameK_iff.mpr ⟨rfl, rfl, rfl⟩
/-- The place of the first one of the same node, type and phase. -/
def firstK (x : Hr) : List Hr → Nat
  | [] => 0
  | a :: l => if sameK x a then 0 else firstK x l + 1
theorem firstK_hit {x : Hr} : ∀ {l : List Hr} {k : Nat}, k < l.length → sameK x (l.getD k hrD) = true → (∀ j, j < k → sameK x (l.getD j hrD) = false) → firstK x l = k
  | [], k, hk, _, _ => by simp at hk
  | a :: l, 0, _, h1, _ => by
    have : sameK x a = true := by simpa using h1
    simp [firstK, this]
  | a :: l, k + 1, hk, h1, h2 => by
    have ha : sameK x a = false := by simpa using h2 0 (by omega)
    have := firstK_hit (x := x) (l := l) (k := k) (by simpa using hk) (by simpa using h1) (fun j hj => by simpa using h2 (j + 1) (by omega))
    simp [firstK, ha, this]
theorem firstK_spec {x : Hr} : ∀ {l : List Hr}, firstK x l < l.length → sameK x (l.getD (firstK x l) hrD) = true
  | [], h => by simp at h
  | a :: l, h => by
    cases ha : sameK x a
    · have e : firstK x (a :: l) = firstK x l + 1 := by simp [firstK, ha]
      rw [e] at h ⊢
      have := firstK_spec (x := x) (l := l) (by simpa using h)
      simpa using this
    · have e : firstK x (a :: l) = 0 := by simp [firstK, ha]
      rw [e]; simpa using ha
theorem firstK_before {x : Hr} : ∀ {l : List Hr} {j : Nat}, j < firstK x l → sameK x (l.getD j hrD) = false
  | [], j, h => by simp [firstK] at h
  | a :: l, j, h => by
    cases ha : sameK x a
    · have e : firstK x (a :: l) = firstK x l + 1 := by simp [firstK, ha]
      rw [e] at h
      cases j with
      | zero => simpa using ha
      | succ j => simpa using firstK_before (x := x) (l := l) (j := j) (by omega)
    · simp [firstK, ha] at h
theorem firstK_lt {x : Hr} : ∀ {l : List Hr}, x ∈ l → firstK x l < l.length
  | a :: l, h => by
    cases ha : sameK x a
    · have e : firstK x (a :: l) = firstK x l + 1 := by simp [firstK, ha]
      rcases List.mem_cons.mp h with rfl | h
      · rw [sameK_refl] at ha; cases ha
      · have := firstK_lt h
        rw [e]; simpa using this
    · have e : firstK x (a :: l) = 0 := by simp [firstK, ha]
      rw [e]; simp
/-- How many have the first one of their kind ahead of place k. -/
def cntK (l : List Hr) (k : Nat) : Nat := (l.filter fun x => decide (firstK x l < k)).length
theorem cntK_zero (l : List Hr) : cntK l 0 = 0 := by simp [cntK]
theorem cntK_all (l : List Hr) : cntK l l.length = l.length := by
  unfold cntK
  rw [List.filter_eq_self.mpr]
  intro x hx
  simpa using firstK_lt hx
theorem filter_split (l : List Hr) (p q r : Hr → Bool) (h : ∀ x ∈ l, p x = (q x || r x)) (hd : ∀ x ∈ l, q x = true → r x = false) : (l.filter p).length = (l.filter q).length + (l.filter r).length := by
  induction l with
  | nil => rfl
  | cons a l ih =>
    have ih' := ih (fun x hx => h x (List.mem_cons_of_mem _ hx)) (fun x hx => hd x (List.mem_cons_of_mem _ hx))
    have h1 := h a (List.mem_cons_self ..)
    have h2 := hd a (List.mem_cons_self ..)
    cases hq : q a <;> cases hr : r a
    · simp [h1, hq, hr, ih']
    · simp [h1, hq, hr, ih']; omega
    · simp [h1, hq, hr, ih']; omega
    · rw [h2 hq] at hr; cases hr
theorem cntK_succ {l : List Hr} {k : Nat} (hk : k < l.length) : cntK l (k + 1) = cntK l k + (if firstK (l.getD k hrD) l = k then (forL l (l.getD k hrD).node (l.getD k hrD).type (l.getD k hrD).cap).length else 0) := by
  have hs : (l.filter fun x => decide (firstK x l < k + 1)).length = (l.filter fun x => decide (firstK x l < k)).length + (l.filter fun x => decide (firstK x l = k)).length := by
    apply filter_split
    · intro x _
      rw [Bool.eq_iff_iff]; simp; omega
    · intro x _ h
      simp at h ⊢; omega
  unfold cntK
  rw [hs]
  congr 1
  have hkey : ∀ x ∈ l, firstK x l = k → sameK x (l.getD k hrD) = true := fun x hx h => by
    have := firstK_spec (firstK_lt hx)
    rwa [h] at this
  split
  · rename_i hf
    unfold forL
    congr 1
    apply List.filter_congr
    intro x hx
    rw [Bool.eq_iff_iff, decide_eq_true_iff]
    constructor
    · intro h
      have h1 := sameK_iff.mp (hkey x hx h)
      exact sameK_iff.mpr ⟨h1.1.symm, h1.2.1.symm, h1.2.2.symm⟩
    · intro h
      have h1 := sameK_iff.mp (show sameK (l.getD k hrD) x = true from h)
      refine firstK_hit hk (sameK_iff.mpr ⟨h1.1.symm, h1.2.1.symm, h1.2.2.symm⟩) (fun j hj => ?_)
      have h2 := firstK_before (x := l.getD k hrD) (l := l) (j := j) (by omega)
      cases h3 : sameK x (l.getD j hrD)
      · rfl
      · have h4 := sameK_iff.mp h3
        have h5 : sameK (l.getD k hrD) (l.getD j hrD) = true := sameK_iff.mpr ⟨h4.1.trans h1.1, h4.2.1.trans h1.2.1, h4.2.2.trans h1.2.2⟩
        rw [h5] at h2; cases h2
  · rename_i hf
    rw [List.length_eq_zero_iff, List.filter_eq_nil_iff]
    intro x hx h
    have hx2 : firstK x l = k := by simpa using h
    apply hf
    have h1 := sameK_iff.mp (hkey x hx hx2)
    refine firstK_hit hk (sameK_refl _) (fun j hj => ?_)
    have h2 := firstK_before (x := x) (l := l) (j := j) (by omega)
    cases h3 : sameK (l.getD k hrD) (l.getD j hrD)
    · rfl
    · have h4 := sameK_iff.mp h3
      have h5 : sameK x (l.getD j hrD) = true := sameK_iff.mpr ⟨h4.1.trans h1.1, h4.2.1.trans h1.2.1, h4.2.2.trans h1.2.2⟩
      rw [h5] at h2; cases h2
end Go.Proofs.Ytahnkhgaopaaoab
