/- The way back: where the document's answer says that a tree may be, package tree says so too. -/
import Derived.Test.YtnbnijhdmnoelaaMayEq
namespace Go.Proofs.Ytnbnijhdmnoelaa
open Go.RowKit

theorem kidsRun_runs {T : List Nd} {p : Nat} : ∀ {l : List Int} {P : Nat → Bool}, (∀ k, k ∈ l → kidFine T p k ∧ P k.toNat = false) → l.Nodup → ∃ P', kidsRun T p l P = some P' ∧ (∀ j, P' j = true ↔ P j = true ∨ (j : Int) ∈ l)
  | [], P, _, _ => ⟨P, rfl, fun j => by simp⟩
  | k :: l, P, h, hd => by
    rw [List.nodup_cons] at hd
    obtain ⟨hf, hp⟩ := h k (by simp)
    obtain ⟨m, hm, _⟩ := isNodeB_true hf.1
    have hb : kidBad T p P k = false := kidBad_false.mpr ⟨hf, hp⟩
    obtain ⟨P', h1, h2⟩ := kidsRun_runs (l := l) (P := setP P k.toNat) (fun k' hk' => by
      obtain ⟨hf', hp'⟩ := h k' (List.mem_cons_of_mem _ hk')
      obtain ⟨m', hm', _⟩ := isNodeB_true hf'.1
      refine ⟨hf', ?_⟩
      have hne : k' ≠ k := fun e => hd.1 (e ▸ hk')
      simp only [setP, hp', Bool.false_or, beq_eq_false_iff_ne]
      omega) hd.2
    refine ⟨P', by rw [kidsRun, hb, if_neg (by simp)]; exact h1, fun j => ?_⟩
    rw [h2 j]
    simp only [setP, Bool.or_eq_true, beq_iff_eq, List.mem_cons]
    constructor
    · rintro ((h | h) | h)
      · exact Or.inl h
      · exact Or.inr (Or.inl (by omega))
      · exact Or.inr (Or.inr h)
    · rintro (h | h | h)
      · exact Or.inl (Or.inl h)
      · exact Or.inl (Or.inr (by omega))
      · exact Or.inr h
theorem nodesFrom_runs {T : List Nd} : ∀ {m n : Nat} {P : Nat → Bool},
    (∀ i, n ≤ i → i < n + m → ((nd T i).kind == 2 && decide (0 < (nd T i).kids.length)) = false ∧ (∀ k, k ∈ (nd T i).kids → kidFine T i k) ∧ (nd T i).kids.Nodup) →
    (∀ j, P j = true → ∃ i, i < n ∧ (nd T j).parent = (i : Int)) →
    ∃ P', nodesFrom T m n P = some P' ∧ (∀ j, P' j = true ↔ P j = true ∨ ∃ i, n ≤ i ∧ i < n + m ∧ (j : Int) ∈ (nd T i).kids)
  | 0, n, P, _, _ => ⟨P, rfl, fun j => ⟨Or.inl, fun h => h.elim id (fun ⟨i, h1, h2, _⟩ => by omega)⟩⟩
  | m + 1, n, P, h, hP => by
    obtain ⟨h1, h2, h3⟩ := h n (Nat.le_refl _) (by omega)
    obtain ⟨Q, hQ, hQj⟩ := kidsRun_runs (T := T) (p := n) (l := (nd T n).kids) (P := P) (fun k hk => ⟨h2 k hk, by
      cases hp : P k.toNat
      · rfl
      · obtain ⟨i, hi, he⟩ := hP _ hp
        have := (h2 k hk).2.2
        omega⟩) h3
    have hr : nodeRun T n P = some Q := by rw [nodeRun, h1, if_neg (by simp)]; exact hQ
    obtain ⟨P', g1, g2⟩ := nodesFrom_runs (m := m) (n := n + 1) (P := Q) (fun i hi1 hi2 => h i (by omega) (by omega)) (fun j hj => by
      rcases (hQj j).mp hj with hp | hp
      · obtain ⟨i, hi, he⟩ := hP j hp
        exact ⟨i, by omega, he⟩
      · have := (h2 _ hp).2.2
        rw [Int.toNat_natCast] at this
        exact ⟨n, by omega, this⟩)
    refine ⟨P', by rw [nodesFrom, hr]; exact g1, fun j => ?_⟩
    rw [g2 j, hQj j]
    constructor
    · rintro ((h | h) | ⟨i, h4, h5, h6⟩)
      · exact Or.inl h
      · exact Or.inr ⟨n, Nat.le_refl _, by omega, h⟩
      · exact Or.inr ⟨i, by omega, by omega, h6⟩
    · rintro (h | ⟨i, h4, h5, h6⟩)
      · exact Or.inl (Or.inl h)
      · by_cases e : i = n
        · subst e; exact Or.inl (Or.inr h6)
        · exact Or.inr ⟨i, by omega, by omega, h6⟩

theorem nodup_of_count {l : List Int} (h : ∀ k, k ∈ l → countN l k = 1) : l.Nodup := by
  induction l with
  | nil => exact List.nodup_nil
  | cons a l ih =>
    rw [List.nodup_cons]
    have ha := h a (by simp)
    rw [countN_cons, if_pos (by simp)] at ha
    have hm : a ∉ l := fun hm => by
      have : countN l a ≠ 0 := fun h0 => by
        rw [countN, List.length_eq_zero_iff, List.filter_eq_nil_iff] at h0
        exact h0 a hm (by simp)
      omega
    refine ⟨hm, ih (fun k hk => ?_)⟩
    have := h k (List.mem_cons_of_mem _ hk)
    rw [countN_cons, if_neg (by simp; rintro rfl; exact hm hk)] at this
    omega
theorem mem_of_count {l : List Int} {k : Int} (h : countN l k = 1) : k ∈ l := by
  by_cases hm : k ∈ l
  · exact hm
  · rw [countN_zero hm] at h; cases h

/-- Who comes back to himself never comes to an end. -/
theorem ups_steps {T : List Nd} (hup : UpOk T) : ∀ {m n x : Nat}, n < T.length → x ∈ ups T m n → ∃ d, 1 ≤ d ∧ ∀ f, endsF T (f + d) n = endsF T f x ∨ (f = 0 ∧ True)
  | 0, n, x, _, h => by simp [ups] at h
  | m + 1, n, x, hn, h => by
    rw [ups] at h
    cases he : (overI (nd T n) == -1)
    · rw [he, if_neg (by simp)] at h
      rcases hup n hn with h1 | h1
      · rw [he] at h1; cases h1
      · obtain ⟨u, hu, hul⟩ := isNodeB_true h1
        rw [hu, Int.toNat_natCast] at h
        have step : ∀ f, endsF T (f + 1) n = endsF T f u := fun f => by
          have hne : ((n : Int) == -1) = false := by simp
          rw [endsF, hne, Int.toNat_natCast, hu]; rfl
        rcases List.mem_cons.mp h with rfl | h
        · exact ⟨1, Nat.le_refl _, fun f => Or.inl (step f)⟩
        · obtain ⟨d, hd, hs⟩ := ups_steps hup hul h
          refine ⟨d + 1, by omega, fun f => ?_⟩
          rw [show f + (d + 1) = (f + d) + 1 by omega, step]
          exact hs f
    · rw [he, if_pos rfl] at h
      simp at h
theorem ends_mono {T : List Nd} : ∀ {f : Nat} {n : Int}, endsF T f n = true → endsF T (f + 1) n = true
  | 0, n, h => by simp [endsF] at h
  | f + 1, n, h => by
    rw [endsF] at h ⊢
    cases hn : (n == -1)
    · rw [hn, Bool.false_or] at h
      rw [Bool.false_or]
      exact ends_mono h
    · rfl
theorem ends_mono' {T : List Nd} {f : Nat} {n : Int} (h : endsF T f n = true) : ∀ g, f ≤ g → endsF T g n = true
  | 0, hg => by obtain rfl : f = 0 := by omega
                exact h
  | g + 1, hg => by
    by_cases e : f = g + 1
    · exact e ▸ h
    · exact ends_mono (ends_mono' h g (by omega))
theorem noLoop_of_ends {T : List Nd} (hup : UpOk T) (h : ∀ n, n < T.length → endsF T (T.length + 1) n = true) : hasLoopB T = false := by
  rw [hasLoopB, Bool.not_eq_false', allB_true]
  intro n hn
  rw [isAncB, Bool.not_eq_true', List.any_eq_false]
  intro x hx he
  obtain rfl : x = n := by
    have e : (x : Int) = n := by simpa using he
    omega
  obtain ⟨d, hd, hs⟩ := ups_steps hup hn hx
  have hno : ∀ f, endsF T f x = false := fun f => by
    induction f using Nat.strongRecOn with
    | _ f ih =>
      cases hf : endsF T f x
      · rfl
      · by_cases hfd : f ≤ d
        · have h1 := ends_mono' hf (1 + d) (by omega)
          rcases hs 1 with h2 | ⟨h2, _⟩
          · rw [h2] at h1
            have hne : ((x : Int) == -1) = false := by simp
            rw [endsF, hne, endsF] at h1
            simp at h1
          · cases h2
        · have h3 := hs (f - d)
          rw [show f - d + d = f by omega, ih (f - d) (by omega)] at h3
          rcases h3 with h3 | h3
          · rw [hf] at h3; cases h3
          · omega
  have := h x hn
  rw [hno] at this
  cases this

theorem may_of_refMay {T : List Nd} (h : refMayB T = true) : mayB T = true := by
  rw [refMayB] at h
  simp only [Bool.and_eq_true] at h
  obtain ⟨h1, h64, hn, he⟩ := h
  have hnode := allB_true.mp hn
  have hup := refNode_upOk hnode
  have hparts : ∀ n, n < T.length → kindFitsB (nd T n) n = true ∧ attrsFrom (nd T n).kind (-1) (nd T n).attrs = true ∧ refKidsB T n = true ∧ shadowB T n = true := fun n hlt => by
    have := hnode n hlt
    simp only [refNodeB, Bool.and_eq_true] at this
    exact ⟨this.1.1.1, this.1.1.2, this.1.2, this.2⟩
  have hkid : ∀ i, i < T.length → (∀ k, k ∈ (nd T i).kids → kidFine T i k ∧ countN (nd T i).kids k = 1) ∧ ((nd T i).kind == 2 && decide (0 < (nd T i).kids.length)) = false ∧ ((nd T i).parent = -1 ∨ ∃ q : Nat, q < T.length ∧ (nd T i).parent = (q : Int) ∧ countN (nd T q).kids (i : Int) = 1) := fun i hi => by
    have hk := (hparts i hi).2.2.1
    simp only [refKidsB, Bool.and_eq_true, List.all_eq_true, Bool.not_eq_true', Bool.or_eq_true, beq_iff_eq] at hk
    obtain ⟨⟨a1, a2⟩, a3⟩ := hk
    refine ⟨fun k hk => ?_, ?_, ?_⟩
    · have := a1 k hk
      simp only [kidOkB, Bool.and_eq_true, Bool.or_eq_true, beq_iff_eq] at this
      obtain ⟨⟨⟨b1, b2⟩, b3⟩, b4⟩ := this
      exact ⟨⟨b1, by simp only [canBeKidB, Bool.or_eq_true, beq_iff_eq]; exact b4, b3⟩, by omega⟩
    · rw [← a2]
      congr 1
      exact decide_eq_decide.mpr (by omega)
    · rcases a3 with h | ⟨h, h'⟩
      · exact Or.inl h
      · obtain ⟨q, hq, hql⟩ := isNodeB_true h
        rw [hq, Int.toNat_natCast] at h'
        exact Or.inr ⟨q, hql, hq, by omega⟩
  have hfit : kidsFitB T = true := by
    obtain ⟨P, hP, hPj⟩ := nodesFrom_runs (T := T) (m := T.length) (n := 0) (P := fun _ => false) (fun i _ hi => ⟨(hkid i (by omega)).2.1, fun k hk => ((hkid i (by omega)).1 k hk).1, nodup_of_count (fun k hk => ((hkid i (by omega)).1 k hk).2)⟩) (fun j hj => by cases hj)
    rw [kidsFitB, hP]
    refine allB_true.mpr (fun n hlt => ?_)
    simp only [looseB, Bool.not_eq_true', Bool.and_eq_false_iff, Bool.not_eq_false', bne_eq_false_iff_eq]
    rcases (hkid n hlt).2.2 with h | ⟨q, hq, _, hc⟩
    · exact Or.inr h
    · exact Or.inl ((hPj n).mpr (Or.inr ⟨q, Nat.zero_le _, by omega, mem_of_count hc⟩))
  rw [mayB, h1, h64, hfit, noLoop_of_ends hup (allB_true.mp he)]
  simp only [Bool.true_and, Bool.not_false, Bool.and_true]
  refine allB_true.mpr (fun n hlt => ?_)
  obtain ⟨p1, p2, p3, p4⟩ := hparts n hlt
  have hp3 : (nd T n).kind = 3 → (nd T n).parent = -1 := fun h3 => by
    rcases (hkid n hlt).2.2 with h | ⟨q, hq, hqp, hc⟩
    · exact h
    · have := (((hkid q hq).1 _ (mem_of_count hc)).1).2.1
      rw [Int.toNat_natCast, h3] at this
      exact absurd this (by decide)
  rw [shadowB_of hp3, Bool.and_eq_true] at p4
  simp only [nodeBad, p1, p2, p4.1, p4.2]
  rfl

theorem refMay_eq (T : List Nd) : refMayB T = mayB T := by
  rw [Bool.eq_iff_iff]
  exact ⟨may_of_refMay, refMay_of_may⟩
end Go.Proofs.Ytnbnijhdmnoelaa
