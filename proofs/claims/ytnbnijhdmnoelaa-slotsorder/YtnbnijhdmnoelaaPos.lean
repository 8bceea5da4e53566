/- Places in a list of numbers. Plain mathematics. -/
namespace Go.Proofs.Ytnbnijhdmnoelaa

/-- The first place of x; the length, if it is not there. -/
def pos (x : Nat) : List Nat → Nat
  | [] => 0
  | a :: l => if x = a then 0 else pos x l + 1
theorem pos_mem {x : Nat} : ∀ {l : List Nat}, x ∈ l ↔ pos x l < l.length
  | [] => by simp [pos]
  | a :: l => by
    have ih := pos_mem (x := x) (l := l)
    by_cases e : x = a
    · subst e; simp [pos]
    · simp [pos, e, ih]
theorem pos_not {x : Nat} : ∀ {l : List Nat}, x ∉ l → pos x l = l.length
  | [], _ => rfl
  | a :: l, h => by
    have e : x ≠ a := fun e => h (e ▸ List.mem_cons_self ..)
    have := pos_not (x := x) (l := l) (fun h' => h (List.mem_cons_of_mem _ h'))
    simp [pos, e, this]
theorem pos_left {x : Nat} : ∀ {p : List Nat} (s : List Nat), x ∈ p → pos x (p ++ s) = pos x p
  | [], s, h => by simp at h
  | a :: p, s, h => by
    by_cases e : x = a
    · subst e; simp [pos]
    · have := pos_left (x := x) (p := p) s (by simpa [e] using h)
      simp [pos, e, this]
theorem pos_right {x : Nat} : ∀ {p : List Nat} (s : List Nat), x ∉ p → pos x (p ++ s) = p.length + pos x s
  | [], s, h => by simp
  | a :: p, s, h => by
    have e : x ≠ a := fun e => h (e ▸ List.mem_cons_self ..)
    have := pos_right (x := x) (p := p) s (fun h' => h (List.mem_cons_of_mem _ h'))
    simp [pos, e, this]; omega
theorem pos_get {x : Nat} : ∀ {l : List Nat}, x ∈ l → l[pos x l]? = some x
  | [], h => by simp at h
  | a :: l, h => by
    by_cases e : x = a
    · subst e; simp [pos]
    · have := pos_get (x := x) (l := l) (by simpa [e] using h)
      simp [pos, e, this]
theorem pos_inj {x y : Nat} {l : List Nat} (hx : x ∈ l) (hy : y ∈ l) (h : pos x l = pos y l) : x = y := by
  have h1 := pos_get hx
  have h2 := pos_get hy
  rw [h] at h1
  rw [h1] at h2
  injection h2
/-- Who stands ahead. -/
def scan (a b : Nat) : List Nat → Bool
  | [] => false
  | x :: l => if x = a then true else if x = b then false else scan a b l
theorem scan_pos {a b : Nat} (hab : a ≠ b) : ∀ {l : List Nat}, a ∈ l → scan a b l = decide (pos a l < pos b l)
  | [], h => by simp at h
  | x :: l, h => by
    by_cases e : x = a
    · subst e
      have : b ≠ x := fun e => hab e.symm
      simp [scan, pos, this]
    · by_cases e' : x = b
      · subst e'; simp [scan, pos, e]
      · have ih := scan_pos hab (l := l) (by
          rcases List.mem_cons.mp h with h | h
          · exact absurd h.symm e
          · exact h)
        have e1 : ¬ a = x := fun q => e q.symm
        have e2 : ¬ b = x := fun q => e' q.symm
        simp [scan, pos, e, e', e1, e2, ih]
theorem scan_none {a b : Nat} : ∀ {l : List Nat}, a ∉ l → scan a b l = false
  | [], _ => rfl
  | x :: l, h => by
    have e : x ≠ a := fun e => h (e ▸ List.mem_cons_self ..)
    have ih := scan_none (a := a) (b := b) (l := l) (fun h' => h (List.mem_cons_of_mem _ h'))
    rw [scan, if_neg e, ih]; split <;> rfl
theorem pos_ahead {a b : Nat} {p r : List Nat} (hn : (p ++ a :: r).Nodup) (hb : b ∈ r) : pos a (p ++ a :: r) < pos b (p ++ a :: r) := by
  rw [List.nodup_append] at hn
  obtain ⟨_, h2, h3⟩ := hn
  have ha : a ∉ p := fun h => h3 a h a (List.mem_cons_self ..) rfl
  have hbp : b ∉ p := fun h => h3 b h b (List.mem_cons_of_mem _ hb) rfl
  rw [List.nodup_cons] at h2
  have hne : b ≠ a := fun e => h2.1 (e ▸ hb)
  rw [pos_right _ ha, pos_right _ hbp]
  simp [pos, hne]
end Go.Proofs.Ytnbnijhdmnoelaa
