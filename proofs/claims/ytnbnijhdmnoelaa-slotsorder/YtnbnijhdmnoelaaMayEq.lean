/- What package tree says of a tree that may be, and what the document's answer says: the same. -/
import Derived.Test.YtnbnijhdmnoelaaRefE
namespace Go.Proofs.Ytnbnijhdmnoelaa
open Go.RowKit

def kidFine (T : List Nd) (p : Nat) (k : Int) : Prop := isNodeB T.length k = true ∧ canBeKidB (nd T k.toNat).kind = true ∧ (nd T k.toNat).parent = (p : Int)

theorem kidBad_false {T : List Nd} {p : Nat} {P : Nat → Bool} {k : Int} : kidBad T p P k = false ↔ kidFine T p k ∧ P k.toNat = false := by
  simp only [kidBad, kidFine, Bool.or_eq_false_iff, Bool.not_eq_false', bne_eq_false_iff_eq, and_assoc]

theorem kidsRun_some {T : List Nd} {p : Nat} : ∀ {l : List Int} {P P' : Nat → Bool}, kidsRun T p l P = some P' →
    (∀ k, k ∈ l → kidFine T p k ∧ P k.toNat = false) ∧ l.Nodup ∧ (∀ j, P' j = true → P j = true ∨ (j : Int) ∈ l)
  | [], P, P', h => by
    rw [kidsRun] at h
    obtain rfl := Option.some.inj h
    exact ⟨fun k hk => absurd hk (by simp), List.nodup_nil, fun j hj => Or.inl hj⟩
  | k :: l, P, P', h => by
    rw [kidsRun] at h
    cases hb : kidBad T p P k
    · rw [hb, if_neg (by simp)] at h
      obtain ⟨h1, h2, h3⟩ := kidsRun_some h
      obtain ⟨hf, hp⟩ := kidBad_false.mp hb
      refine ⟨fun k' hk' => ?_, List.nodup_cons.mpr ⟨fun hm => ?_, h2⟩, fun j hj => ?_⟩
      · rcases List.mem_cons.mp hk' with rfl | hm
        · exact ⟨hf, hp⟩
        · have := (h1 k' hm).2
          simp only [setP, Bool.or_eq_false_iff] at this
          exact ⟨(h1 k' hm).1, this.1⟩
      · have := (h1 k hm).2
        simp [setP] at this
      · rcases h3 j hj with h | h
        · simp only [setP, Bool.or_eq_true, beq_iff_eq] at h
          rcases h with h | h
          · exact Or.inl h
          · obtain ⟨m, hm, _⟩ := isNodeB_true hf.1
            exact Or.inr (List.mem_cons.mpr (Or.inl (by omega)))
        · exact Or.inr (List.mem_cons_of_mem _ h)
    · rw [hb, if_pos rfl] at h
      cases h

theorem nodesFrom_some {T : List Nd} : ∀ {m n : Nat} {P P' : Nat → Bool}, nodesFrom T m n P = some P' →
    (∀ i, n ≤ i → i < n + m → ((nd T i).kind == 2 && decide (0 < (nd T i).kids.length)) = false ∧ (∀ k, k ∈ (nd T i).kids → kidFine T i k) ∧ (nd T i).kids.Nodup) ∧
    (∀ j, P' j = true → P j = true ∨ ∃ i, n ≤ i ∧ i < n + m ∧ (j : Int) ∈ (nd T i).kids)
  | 0, n, P, P', h => by
    rw [nodesFrom] at h
    obtain rfl := Option.some.inj h
    exact ⟨fun i h1 h2 => by omega, fun j hj => Or.inl hj⟩
  | m + 1, n, P, P', h => by
    rw [nodesFrom] at h
    cases hr : nodeRun T n P with
    | none => rw [hr] at h; cases h
    | some Q =>
      rw [hr] at h
      obtain ⟨h1, h2⟩ := nodesFrom_some h
      rw [nodeRun] at hr
      cases hb : ((nd T n).kind == 2 && decide (0 < (nd T n).kids.length))
      · rw [hb, if_neg (by simp)] at hr
        obtain ⟨g1, g2, g3⟩ := kidsRun_some hr
        refine ⟨fun i hi1 hi2 => ?_, fun j hj => ?_⟩
        · by_cases e : i = n
          · subst e
            exact ⟨hb, fun k hk => (g1 k hk).1, g2⟩
          · exact h1 i (by omega) (by omega)
        · rcases h2 j hj with h | ⟨i, hi1, hi2, hi3⟩
          · rcases g3 j h with h | h
            · exact Or.inl h
            · exact Or.inr ⟨n, Nat.le_refl _, by omega, h⟩
          · exact Or.inr ⟨i, by omega, by omega, hi3⟩
      · rw [hb, if_pos rfl] at hr
        cases hr

theorem countN_zero {l : List Int} {k : Int} (h : k ∉ l) : countN l k = 0 := by
  rw [countN, List.length_eq_zero_iff, List.filter_eq_nil_iff]
  intro x hx
  simp only [beq_iff_eq]
  rintro rfl
  exact h hx
theorem countN_cons (a : Int) (l : List Int) (k : Int) : countN (a :: l) k = (if a == k then 1 else 0) + countN l k := by
  rw [countN, List.filter_cons]
  cases h : (a == k)
  · simp [countN]
  · simp [countN]; omega
theorem countN_one {l : List Int} {k : Int} (hn : l.Nodup) (h : k ∈ l) : countN l k = 1 := by
  induction l with
  | nil => simp at h
  | cons a l ih =>
    rw [List.nodup_cons] at hn
    rw [countN_cons]
    by_cases e : a = k
    · subst e
      rw [countN_zero hn.1]; simp
    · rcases List.mem_cons.mp h with h | h
      · exact absurd h.symm e
      · rw [ih hn.2 h, if_neg (by simpa using e)]

/-- The kids of a tree that may be. -/
theorem kidsFit_spec {T : List Nd} (h : kidsFitB T = true) :
    (∀ i, i < T.length → ((nd T i).kind == 2 && decide (0 < (nd T i).kids.length)) = false ∧ (∀ k, k ∈ (nd T i).kids → kidFine T i k) ∧ (nd T i).kids.Nodup) ∧
    (∀ n, n < T.length → (nd T n).parent = -1 ∨ ∃ i, i < T.length ∧ (n : Int) ∈ (nd T i).kids) := by
  rw [kidsFitB] at h
  cases hr : nodesFrom T T.length 0 (fun _ => false) with
  | none => rw [hr] at h; cases h
  | some P =>
    rw [hr] at h
    obtain ⟨h1, h2⟩ := nodesFrom_some hr
    refine ⟨fun i hi => h1 i (Nat.zero_le _) (by omega), fun n hn => ?_⟩
    have := allB_true.mp h n hn
    simp only [looseB, Bool.not_eq_true', Bool.and_eq_false_iff, Bool.not_eq_false', bne_eq_false_iff_eq] at this
    rcases this with h | h
    · rcases h2 n h with h | ⟨i, _, hi, hm⟩
      · cases h
      · exact Or.inr ⟨i, by omega, hm⟩
    · exact Or.inl h

/-! Going up. -/
theorem ups_mono {T : List Nd} : ∀ {m n x : Nat}, x ∈ ups T m n → x ∈ ups T (m + 1) n
  | 0, n, x, h => by simp [ups] at h
  | m + 1, n, x, h => by
    rw [ups] at h ⊢
    cases he : (overI (nd T n) == -1)
    · rw [he, if_neg (by simp)] at h
      rw [if_neg (by simp)]
      rcases List.mem_cons.mp h with h | h
      · exact List.mem_cons.mpr (Or.inl h)
      · exact List.mem_cons_of_mem _ (ups_mono h)
    · rw [he, if_pos rfl] at h
      simp at h
theorem ups_lt {T : List Nd} (hup : UpOk T) : ∀ {m n x : Nat}, n < T.length → x ∈ ups T m n → x < T.length
  | 0, n, x, _, h => by simp [ups] at h
  | m + 1, n, x, hn, h => by
    rw [ups] at h
    cases he : (overI (nd T n) == -1)
    · rw [he, if_neg (by simp)] at h
      rcases hup n hn with h1 | h1
      · rw [he] at h1; cases h1
      · obtain ⟨u, hu, hul⟩ := isNodeB_true h1
        rw [hu, Int.toNat_natCast] at h
        rcases List.mem_cons.mp h with rfl | h
        · exact hul
        · exact ups_lt hup hul h
    · rw [he, if_pos rfl] at h
      simp at h
theorem ups_loop {T : List Nd} (hup : UpOk T) : ∀ {m n : Nat}, n < T.length → ¬ (n :: ups T m n).Nodup → ∃ x, x < T.length ∧ x ∈ ups T m x
  | 0, n, _, h => by simp [ups] at h
  | m + 1, n, hn, h => by
    by_cases hm : n ∈ ups T (m + 1) n
    · exact ⟨n, hn, hm⟩
    · have h2 : ¬ (ups T (m + 1) n).Nodup := fun h' => h (List.nodup_cons.mpr ⟨hm, h'⟩)
      rw [ups] at h2
      cases he : (overI (nd T n) == -1)
      · rw [he, if_neg (by simp)] at h2
        rcases hup n hn with h1 | h1
        · rw [he] at h1; cases h1
        · obtain ⟨u, hu, hul⟩ := isNodeB_true h1
          rw [hu, Int.toNat_natCast] at h2
          obtain ⟨x, hx, hxm⟩ := ups_loop hup hul h2
          exact ⟨x, hx, ups_mono hxm⟩
      · rw [he, if_pos rfl] at h2
        exact absurd List.nodup_nil h2
theorem pigeon : ∀ (n : Nat) (l : List Nat), l.Nodup → (∀ x, x ∈ l → x < n) → l.length ≤ n
  | 0, l, _, h => by
    cases l with
    | nil => simp
    | cons a l => exact absurd (h a (by simp)) (by omega)
  | n + 1, l, hd, h => by
    by_cases hm : n ∈ l
    · have := pigeon n (l.erase n) (hd.erase n) (fun x hx => by
        have hne : x ≠ n := fun e => by subst e; exact hd.not_mem_erase hx
        have := h x (List.mem_of_mem_erase hx)
        omega)
      rw [List.length_erase_of_mem hm] at this
      omega
    · have := pigeon n l hd (fun x hx => by
        have hne : x ≠ n := fun e => by subst e; exact hm hx
        have := h x hx
        omega)
      omega
theorem ends_length {T : List Nd} (hup : UpOk T) : ∀ {m n : Nat}, n < T.length → endsF T (m + 1) n = false → (ups T m n).length = m
  | 0, n, _, _ => by simp [ups]
  | m + 1, n, hn, h => by
    rw [endsF, Bool.or_eq_false_iff, Int.toNat_natCast] at h
    obtain ⟨_, h⟩ := h
    rcases overI_ok hup hn with h1 | ⟨u, hu, hul⟩
    · rw [h1, endsF] at h
      simp at h
    · rw [hu] at h
      rw [ups, hu, if_neg (by simp), Int.toNat_natCast, List.length_cons, ends_length hup hul h]

theorem ends_of_noLoop {T : List Nd} (hup : UpOk T) (h : hasLoopB T = false) {n : Nat} (hn : n < T.length) : endsF T (T.length + 1) n = true := by
  cases he : endsF T (T.length + 1) n
  · have hl := ends_length hup hn he
    obtain ⟨x, hx, hm⟩ := ups_loop (m := T.length) hup hn (fun hd => by
      have := pigeon T.length _ hd (fun y hy => by
        rcases List.mem_cons.mp hy with rfl | hy
        · exact hn
        · exact ups_lt hup hn hy)
      rw [List.length_cons, hl] at this
      omega)
    rw [hasLoopB, Bool.not_eq_false', allB_true] at h
    have := h x hx
    rw [isAncB, Bool.not_eq_true', List.any_eq_false] at this
    exact absurd (by simp) (this x hm)
  · rfl

theorem shadowB_of {T : List Nd} {n : Nat} (h3 : (nd T n).kind = 3 → (nd T n).parent = -1) : shadowB T n = (hostFitsB T n && rootFitsB T n) := by
  rw [shadowB, hostFitsB, rootFitsB]
  by_cases hk3 : (nd T n).kind = 3
  · have e1 : ((nd T n).kind == 3) = true := by simp [hk3]
    have e2 : ((nd T n).kind != 3) = false := by simp [hk3]
    have e3 : ((nd T n).kind != 1) = true := by simp [hk3]
    rw [e1, e2, e3, h3 hk3]
    simp only [if_true, Bool.true_or, Bool.false_eq_true, if_false]
    cases ((nd T n).root == -1) <;> simp
  · have e1 : ((nd T n).kind == 3) = false := by simp [hk3]
    have e2 : ((nd T n).kind != 3) = true := by simp [hk3]
    rw [e1, e2]
    simp only [if_true, Bool.false_eq_true, if_false]
    by_cases hk1 : (nd T n).kind = 1
    · have e3 : ((nd T n).kind != 1) = false := by simp [hk1]
      have e4 : ((nd T n).kind == 1) = true := by simp [hk1]
      rw [e3, e4]
      cases ((nd T n).root == -1) <;> simp
    · have e3 : ((nd T n).kind != 1) = true := by simp [hk1]
      have e4 : ((nd T n).kind == 1) = false := by simp [hk1]
      rw [e3, e4]
      simp

theorem kidFine_ok {T : List Nd} {i : Nat} (hd : (nd T i).kids.Nodup) {k : Int} (hk : k ∈ (nd T i).kids) (h : kidFine T i k) : kidOkB T i k = true := by
  obtain ⟨h1, h2, h3⟩ := h
  rw [kidOkB, h1, countN_one hd hk, h3]
  simpa [canBeKidB] using h2

theorem refMay_of_may {T : List Nd} (h : mayB T = true) : refMayB T = true := by
  rw [mayB] at h
  simp only [Bool.and_eq_true] at h
  obtain ⟨h1, h64, hn, hk, hl⟩ := h
  rw [Bool.not_eq_true'] at hl
  obtain ⟨hkids, hpar⟩ := kidsFit_spec hk
  have hnode : ∀ n, n < T.length → refNodeB T n = true := fun n hlt => by
    have hb := allB_true.mp hn n hlt
    simp only [nodeBad, Bool.not_eq_true', Bool.or_eq_false_iff, Bool.not_eq_false'] at hb
    obtain ⟨⟨⟨hkf, hhf⟩, hrf⟩, haf⟩ := hb
    obtain ⟨k1, k2, k3⟩ := hkids n hlt
    have hp3 : (nd T n).kind = 3 → (nd T n).parent = -1 := fun h3 => by
      rcases hpar n hlt with h | ⟨i, hi, hm⟩
      · exact h
      · have := ((hkids i hi).2.1 _ hm).2.1
        rw [Int.toNat_natCast, h3] at this
        exact absurd this (by decide)
    have hkk : refKidsB T n = true := by
      rw [refKidsB]
      have a1 : (nd T n).kids.all (kidOkB T n) = true := List.all_eq_true.mpr (fun k hk => kidFine_ok k3 hk (k2 k hk))
      have a2 : ((nd T n).kind == 2 && decide (0 < ((nd T n).kids.length : Int))) = false := by
        rw [← k1]
        congr 1
        exact decide_eq_decide.mpr (by omega)
      rw [a1, a2]
      rcases hpar n hlt with h | ⟨i, hi, hm⟩
      · rw [h]; rfl
      · have hf := (hkids i hi).2.1 _ hm
        have hpi : (nd T n).parent = (i : Int) := by simpa using hf.2.2
        have hin : isNodeB T.length (i : Int) = true := by simp [isNodeB]; omega
        rw [hpi, hin, Int.toNat_natCast, countN_one (hkids i hi).2.2 hm]
        simp
    rw [refNodeB, hkf, haf, hkk, shadowB_of hp3, hhf, hrf]
    rfl
  have hup := refNode_upOk hnode
  rw [refMayB, h1, h64, allB_true.mpr hnode]
  simp only [Bool.true_and]
  exact allB_true.mpr (fun n hlt => ends_of_noLoop hup hl hlt)
end Go.Proofs.Ytnbnijhdmnoelaa
