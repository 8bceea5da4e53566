/- What package tree says of a tree that may be, and what the document's answer says: the same. The way back: where the document's answer says that a tree may be, package tree says so too. Rows of numbers in memory; slices.Clone at numbers. What a tree that may be is, as facts about its nodes: the pure part of layer 1. Small laws of no program: copy and append of rows whose elements have several cells, and where the new row lies. append onto a row of the call's own, of any slice, nil too. -/
import Derived.Test.YtpmacpbhdgigfaaGreatRefT
import Derived.Test.YtpmacpbhdgigfaaGreatMay
import Derived.Lib.AppendZeros
import Derived.Lib.Overlaps
import Derived.Laws.CopyOwn
import Derived.Deep.RegionLaw
import Derived.Deep.QuietTactic
import Derived.BigQuiet
import Derived.Laws.AppendOwnNone
namespace Go.Proofs.YtpmacpbhdgigfaaGreat
open Go.RowKit

def kidFine (T : List Nd) (p : Nat) (k : Int) : Prop := isNodeB T.length k = true ∧ canBeKidB (nd T k.toNat).kind = true ∧ (nd T k.toNat).parent = (p : Int)

theorem kidBad_false {T : List Nd} {p : Nat} {P : Nat → Bool} {k : Int} : kidBad T p P k = false ↔ kidFine T p k ∧ P k.toNat = false := by
  simp only [kidBad, kidFine, Bool.or_eq_false_iff, Bool.not_eq_false', bne_eq_false_iff_eq, and_assoc]

theorem kidsRun_some {T : List Nd} {p : Nat} : ∀ {l : List Int} {P P' : Nat → Bool}, kidsRun T p l P = some P' →
    (∀ k, k ∈ l → kidFine T p k ∧ P k.toNat = false) ∧ l.Nodup ∧ (∀ j, P' j = true → P j = true ∨ (j : Int) ∈ l)
  | [], P, P', h => by
    rw [kidsRun] at h
    obtain rfl := Option.some.inj h
    exact ⟨fun k hk => absurd hk (by simp), List.nodup_nil, fun j hj => Or.inl hj⟩
  | k :: l, P, P', h => by
    rw [kidsRun] at h
    cases hb : kidBad T p P k
    · rw [hb, if_neg (by simp)] at h
      obtain ⟨h1, h2, h3⟩ := kidsRun_some h
      obtain ⟨hf, hp⟩ := kidBad_false.mp hb
      refine ⟨fun k' hk' => ?_, List.nodup_cons.mpr ⟨fun hm => ?_, h2⟩, fun j hj => ?_⟩
      · rcases List.mem_cons.mp hk' with rfl | hm
        · exact ⟨hf, hp⟩
        · have := (h1 k' hm).2
          simp only [setP, Bool.or_eq_false_iff] at this
          exact ⟨(h1 k' hm).1, this.1⟩
      · have := (h1 k hm).2
        simp [setP] at this
      · rcases h3 j hj with h | h
        · simp only [setP, Bool.or_eq_true, beq_iff_eq] at h
          rcases h with h | h
          · exact Or.inl h
          · obtain ⟨m, hm, _⟩ := isNodeB_true hf.1
            exact Or.inr (List.mem_cons.mpr (Or.inl (by omega)))
        · exact Or.inr (List.mem_cons_of_mem _ h)
    · rw [hb, if_pos rfl] at h
      cases h

theorem nodesFrom_some {T : List Nd} : ∀ {m n : Nat} {P P' : Nat → Bool}, nodesFrom T m n P = some P' →
    (∀ i, n ≤ i → i < n + m → ((nd T i).kind == 2 && decide (0 < (nd T i).kids.length)) = false ∧ (∀ k, k ∈ (nd T i).kids → kidFine T i k) ∧ (nd T i).kids.Nodup) ∧
    (∀ j, P' j = true → P j = true ∨ ∃ i, n ≤ i ∧ i < n + m ∧ (j : Int) ∈ (nd T i).kids)
  | 0, n, P, P', h => by
    rw [nodesFrom] at h
    obtain rfl := Option.some.inj h
    exact ⟨fun i h1 h2 => by omega, fun j hj => Or.inl hj⟩
  | m + 1, n, P, P', h => by
    rw [nodesFrom] at h
    cases hr : nodeRun T n P with
    | none => rw [hr] at h; cases h
    | some Q =>
      rw [hr] at h
      obtain ⟨h1, h2⟩ := nodesFrom_some h
      rw [nodeRun] at hr
      cases hb : ((nd T n).kind == 2 && decide (0 < (nd T n).kids.length))
      · rw [hb, if_neg (by simp)] at hr
        obtain ⟨g1, g2, g3⟩ := kidsRun_some hr
        refine ⟨fun i hi1 hi2 => ?_, fun j hj => ?_⟩
        · by_cases e : i = n
          · subst e
            exact ⟨hb, fun k hk => (g1 k hk).1, g2⟩
          · exact h1 i (by omega) (by omega)
        · rcases h2 j hj with h | ⟨i, hi1, hi2, hi3⟩
          · rcases g3 j h with h | h
            · exact Or.inl h
            · exact Or.inr ⟨n, Nat.le_refl _, by omega, h⟩
          · exact Or.inr ⟨i, by omega, by omega, hi3⟩
      · rw [hb, if_pos rfl] at hr
        cases hr

theorem countN_zero {l : List Int} {k : Int} (h : k ∉ l) : countN l k = 0 := by
  rw [countN, List.length_eq_zero_iff, List.filter_eq_nil_iff]
  intro x hx
  simp only [beq_iff_eq]
  rintro rfl
  exact h hx
theorem countN_cons (a : Int) (l : List Int) (k : Int) : countN (a :: l) k = (if a == k then 1 else 0) + countN l k := by
  rw [countN, List.filter_cons]
  cases h : (a == k)
  · simp [countN]
  · simp [countN]; omega
theorem countN_one {l : List Int} {k : Int} (hn : l.Nodup) (h : k ∈ l) : countN l k = 1 := by
  induction l with
  | nil => simp at h
  | cons a l ih =>
    rw [List.nodup_cons] at hn
    rw [countN_cons]
    by_cases e : a = k
    · subst e
      rw [countN_zero hn.1]; simp
    · rcases List.mem_cons.mp h with h | h
      · exact absurd h.symm e
      · rw [ih hn.2 h, if_neg (by simpa using e)]

/-- The kids of a tree that may be. -/
theorem kidsFit_spec {T : List Nd} (h : kidsFitB T = true) :
    (∀ i, i < T.length → ((nd T i).kind == 2 && decide (0 < (nd T i).kids.length)) = false ∧ (∀ k, k ∈ (nd T i).kids → kidFine T i k) ∧ (nd T i).kids.Nodup) ∧
    (∀ n, n < T.length → (nd T n).parent = -1 ∨ ∃ i, i < T.length ∧ (n : Int) ∈ (nd T i).kids) := by
  rw [kidsFitB] at h
  cases hr : nodesFrom T T.length 0 (fun _ => false) with
  | none => rw [hr] at h; cases h
  | some P =>
    rw [hr] at h
    obtain ⟨h1, h2⟩ := nodesFrom_some hr
    refine ⟨fun i hi => h1 i (Nat.zero_le _) (by omega), fun n hn => ?_⟩
    have := allB_true.mp h n hn
    simp only [looseB, Bool.not_eq_true', Bool.and_eq_false_iff, Bool.not_eq_false', bne_eq_false_iff_eq] at this
    rcases this with h | h
    · rcases h2 n h with h | ⟨i, _, hi, hm⟩
      · cases h
      · exact Or.inr ⟨i, by omega, hm⟩
    · exact Or.inl h

/-! Going up. -/
theorem ups_mono {T : List Nd} : ∀ {m n x : Nat}, x ∈ ups T m n → x ∈ ups T (m + 1) n
  | 0, n, x, h => by simp [ups] at h
  | m + 1, n, x, h => by
    rw [ups] at h ⊢
    cases he : (overI (nd T n) == -1)
    · rw [he, if_neg (by simp)] at h
      rw [if_neg (by simp)]
      rcases List.mem_cons.mp h with h | h
      · exact List.mem_cons.mpr (Or.inl h)
      · exact List.mem_cons_of_mem _ (ups_mono h)
    · rw [he, if_pos rfl] at h
      simp at h
theorem ups_lt {T : List Nd} (hup : UpOk T) : ∀ {m n x : Nat}, n < T.length → x ∈ ups T m n → x < T.length
  | 0, n, x, _, h => by simp [ups] at h
  | m + 1, n, x, hn, h => by
    rw [ups] at h
    cases he : (overI (nd T n) == -1)
    · rw [he, if_neg (by simp)] at h
      rcases hup n hn with h1 | h1
      · rw [he] at h1; cases h1
      · obtain ⟨u, hu, hul⟩ := isNodeB_true h1
        rw [hu, Int.toNat_natCast] at h
        rcases List.mem_cons.mp h with rfl | h
        · exact hul
        · exact ups_lt hup hul h
    · rw [he, if_pos rfl] at h
      simp at h
theorem ups_loop {T : List Nd} (hup : UpOk T) : ∀ {m n : Nat}, n < T.length → ¬ (n :: ups T m n).Nodup → ∃ x, x < T.length ∧ x ∈ ups T m x
  | 0, n, _, h => by simp [ups] at h
  | m + 1, n, hn, h => by
    by_cases hm : n ∈ ups T (m + 1) n
    · exact ⟨n, hn, hm⟩
    · have h2 : ¬ (ups T (m + 1) n).Nodup := fun h' => h (List.nodup_cons.mpr ⟨hm, h'⟩)
      rw [ups] at h2
      cases he : (overI (nd T n) == -1)
      · rw [he, if_neg (by simp)] at h2
        rcases hup n hn with h1 | h1
        · rw [he] at h1; cases h1
        · obtain ⟨u, hu, hul⟩ := isNodeB_true h1
          rw [hu, Int.toNat_natCast] at h2
          obtain ⟨x, hx, hxm⟩ := ups_loop hup hul h2
          exact ⟨x, hx, ups_mono hxm⟩
      · rw [he, if_pos rfl] at h2
        exact absurd List.nodup_nil h2
theorem pigeon : ∀ (n : Nat) (l : List Nat), l.Nodup → (∀ x, x ∈ l → x < n) → l.length ≤ n
  | 0, l, _, h => by
    cases l with
    | nil => simp
    | cons a l => exact absurd (h a (by simp)) (by omega)
  | n + 1, l, hd, h => by
    by_cases hm : n ∈ l
    · have := pigeon n (l.erase n) (hd.erase n) (fun x hx => by
        have hne : x ≠ n := fun e => by subst e; exact hd.not_mem_erase hx
        have := h x (List.mem_of_mem_erase hx)
        omega)
      rw [List.length_erase_of_mem hm] at this
      omega
    · have := pigeon n l hd (fun x hx => by
        have hne : x ≠ n := fun e => by subst e; exact hm hx
        have := h x hx
        omega)
      omega
theorem ends_length {T : List Nd} (hup : UpOk T) : ∀ {m n : Nat}, n < T.length → endsF T (m + 1) n = false → (ups T m n).length = m
  | 0, n, _, _ => by simp [ups]
  | m + 1, n, hn, h => by
    rw [endsF, Bool.or_eq_false_iff, Int.toNat_natCast] at h
    obtain ⟨_, h⟩ := h
    rcases overI_ok hup hn with h1 | ⟨u, hu, hul⟩
    · rw [h1, endsF] at h
      simp at h
    · rw [hu] at h
      rw [ups, hu, if_neg (by simp), Int.toNat_natCast, List.length_cons, ends_length hup hul h]

theorem ends_of_noLoop {T : List Nd} (hup : UpOk T) (h : hasLoopB T = false) {n : Nat} (hn : n < T.length) : endsF T (T.length + 1) n = true := by
  cases he : endsF T (T.length + 1) n
  · have hl := ends_length hup hn he
    obtain ⟨x, hx, hm⟩ := ups_loop (m := T.length) hup hn (fun hd => by
      have := pigeon T.length _ hd (fun y hy => by
        rcases List.mem_cons.mp hy with rfl | hy
        · exact hn
        · exact ups_lt hup hn hy)
      rw [List.length_cons, hl] at this
      omega)
    rw [hasLoopB, Bool.not_eq_false', allB_true] at h
    have := h x hx
    rw [isAncB, Bool.not_eq_true', List.any_eq_false] at this
    exact absurd (by simp) (this x hm)
  · rfl

theorem shadowB_of {T : List Nd} {n : Nat} (h3 : (nd T n).kind = 3 → (nd T n).parent = -1) : shadowB T n = (hostFitsB T n && rootFitsB T n) := by
  rw [shadowB, hostFitsB, rootFitsB]
  by_cases hk3 : (nd T n).kind = 3
  · have e1 : ((nd T n).kind == 3) = true := by simp [hk3]
    have e2 : ((nd T n).kind != 3) = false := by simp [hk3]
    have e3 : ((nd T n).kind != 1) = true := by simp [hk3]
    rw [e1, e2, e3, h3 hk3]
    simp only [if_true, Bool.true_or, Bool.false_eq_true, if_false]
    cases ((nd T n).root == -1) <;> simp
  · have e1 : ((nd T n).kind == 3) = false := by simp [hk3]
    have e2 : ((nd T n).kind != 3) = true := by simp [hk3]
    rw [e1, e2]
    simp only [if_true, Bool.false_eq_true, if_false]
    by_cases hk1 : (nd T n).kind = 1
    · have e3 : ((nd T n).kind != 1) = false := by simp [hk1]
      have e4 : ((nd T n).kind == 1) = true := by simp [hk1]
      rw [e3, e4]
      cases ((nd T n).root == -1) <;> simp
    · have e3 : ((nd T n).kind != 1) = true := by simp [hk1]
      have e4 : ((nd T n).kind == 1) = false := by simp [hk1]
      rw [e3, e4]
      simp

theorem kidFine_ok {T : List Nd} {i : Nat} (hd : (nd T i).kids.Nodup) {k : Int} (hk : k ∈ (nd T i).kids) (h : kidFine T i k) : kidOkB T i k = true := by
  obtain ⟨h1, h2, h3⟩ := h
  rw [kidOkB, h1, countN_one hd hk, h3]
  simpa [canBeKidB] using h2

theorem refMay_of_may {T : List Nd} (h : mayB T = true) : refMayB T = true := by
  rw [mayB] at h
  simp only [Bool.and_eq_true] at h
  obtain ⟨h1, h64, hn, hk, hl⟩ := h
  rw [Bool.not_eq_true'] at hl
  obtain ⟨hkids, hpar⟩ := kidsFit_spec hk
  have hnode : ∀ n, n < T.length → refNodeB T n = true := fun n hlt => by
    have hb := allB_true.mp hn n hlt
    simp only [nodeBad, Bool.not_eq_true', Bool.or_eq_false_iff, Bool.not_eq_false'] at hb
    obtain ⟨⟨⟨hkf, hhf⟩, hrf⟩, haf⟩ := hb
    obtain ⟨k1, k2, k3⟩ := hkids n hlt
    have hp3 : (nd T n).kind = 3 → (nd T n).parent = -1 := fun h3 => by
      rcases hpar n hlt with h | ⟨i, hi, hm⟩
      · exact h
      · have := ((hkids i hi).2.1 _ hm).2.1
        rw [Int.toNat_natCast, h3] at this
        exact absurd this (by decide)
    have hkk : refKidsB T n = true := by
      rw [refKidsB]
      have a1 : (nd T n).kids.all (kidOkB T n) = true := List.all_eq_true.mpr (fun k hk => kidFine_ok k3 hk (k2 k hk))
      have a2 : ((nd T n).kind == 2 && decide (0 < ((nd T n).kids.length : Int))) = false := by
        rw [← k1]
        congr 1
        exact decide_eq_decide.mpr (by omega)
      rw [a1, a2]
      rcases hpar n hlt with h | ⟨i, hi, hm⟩
      · rw [h]; rfl
      · have hf := (hkids i hi).2.1 _ hm
        have hpi : (nd T n).parent = (i : Int) := by simpa using hf.2.2
        have hin : isNodeB T.length (i : Int) = true := by simp [isNodeB]; omega
        rw [hpi, hin, Int.toNat_natCast, countN_one (hkids i hi).2.2 hm]
        simp
    rw [refNodeB, hkf, haf, hkk, shadowB_of hp3, hhf, hrf]
    rfl
  have hup := refNode_upOk hnode
  rw [refMayB, h1, h64, allB_true.mpr hnode]
  simp only [Bool.true_and]
  exact allB_true.mpr (fun n hlt => ends_of_noLoop hup hl hlt)
end Go.Proofs.YtpmacpbhdgigfaaGreat
namespace Go.Proofs.YtpmacpbhdgigfaaGreat
open Go.RowKit

theorem kidsRun_runs {T : List Nd} {p : Nat} : ∀ {l : List Int} {P : Nat → Bool}, (∀ k, k ∈ l → kidFine T p k ∧ P k.toNat = false) → l.Nodup → ∃ P', kidsRun T p l P = some P' ∧ (∀ j, P' j = true ↔ P j = true ∨ (j : Int) ∈ l)
  | [], P, _, _ => ⟨P, rfl, fun j => by simp⟩
  | k :: l, P, h, hd => by
    rw [List.nodup_cons] at hd
    obtain ⟨hf, hp⟩ := h k (by simp)
    obtain ⟨m, hm, _⟩ := isNodeB_true hf.1
    have hb : kidBad T p P k = false := kidBad_false.mpr ⟨hf, hp⟩
    obtain ⟨P', h1, h2⟩ := kidsRun_runs (l := l) (P := setP P k.toNat) (fun k' hk' => by
      obtain ⟨hf', hp'⟩ := h k' (List.mem_cons_of_mem _ hk')
      obtain ⟨m', hm', _⟩ := isNodeB_true hf'.1
      refine ⟨hf', ?_⟩
      have hne : k' ≠ k := fun e => hd.1 (e ▸ hk')
      simp only [setP, hp', Bool.false_or, beq_eq_false_iff_ne]
      omega) hd.2
    refine ⟨P', by rw [kidsRun, hb, if_neg (by simp)]; exact h1, fun j => ?_⟩
    rw [h2 j]
    simp only [setP, Bool.or_eq_true, beq_iff_eq, List.mem_cons]
    constructor
    · rintro ((h | h) | h)
      · exact Or.inl h
      · exact Or.inr (Or.inl (by omega))
      · exact Or.inr (Or.inr h)
    · rintro (h | h | h)
      · exact Or.inl (Or.inl h)
      · exact Or.inl (Or.inr (by omega))
      · exact Or.inr h
theorem nodesFrom_runs {T : List Nd} : ∀ {m n : Nat} {P : Nat → Bool},
    (∀ i, n ≤ i → i < n + m → ((nd T i).kind == 2 && decide (0 < (nd T i).kids.length)) = false ∧ (∀ k, k ∈ (nd T i).kids → kidFine T i k) ∧ (nd T i).kids.Nodup) →
    (∀ j, P j = true → ∃ i, i < n ∧ (nd T j).parent = (i : Int)) →
    ∃ P', nodesFrom T m n P = some P' ∧ (∀ j, P' j = true ↔ P j = true ∨ ∃ i, n ≤ i ∧ i < n + m ∧ (j : Int) ∈ (nd T i).kids)
  | 0, n, P, _, _ => ⟨P, rfl, fun j => ⟨Or.inl, fun h => h.elim id (fun ⟨i, h1, h2, _⟩ => by omega)⟩⟩
  | m + 1, n, P, h, hP => by
    obtain ⟨h1, h2, h3⟩ := h n (Nat.le_refl _) (by omega)
    obtain ⟨Q, hQ, hQj⟩ := kidsRun_runs (T := T) (p := n) (l := (nd T n).kids) (P := P) (fun k hk => ⟨h2 k hk, by
      cases hp : P k.toNat
      · rfl
      · obtain ⟨i, hi, he⟩ := hP _ hp
        have := (h2 k hk).2.2
        omega⟩) h3
    have hr : nodeRun T n P = some Q := by rw [nodeRun, h1, if_neg (by simp)]; exact hQ
    obtain ⟨P', g1, g2⟩ := nodesFrom_runs (m := m) (n := n + 1) (P := Q) (fun i hi1 hi2 => h i (by omega) (by omega)) (fun j hj => by
      rcases (hQj j).mp hj with hp | hp
      · obtain ⟨i, hi, he⟩ := hP j hp
        exact ⟨i, by omega, he⟩
      · have := (h2 _ hp).2.2
        rw [Int.toNat_natCast] at this
        exact ⟨n, by omega, this⟩)
    refine ⟨P', by rw [nodesFrom, hr]; exact g1, fun j => ?_⟩
    rw [g2 j, hQj j]
    constructor
    · rintro ((h | h) | ⟨i, h4, h5, h6⟩)
      · exact Or.inl h
      · exact Or.inr ⟨n, Nat.le_refl _, by omega, h⟩
      · exact Or.inr ⟨i, by omega, by omega, h6⟩
    · rintro (h | ⟨i, h4, h5, h6⟩)
      · exact Or.inl (Or.inl h)
      · by_cases e : i = n
        · subst e; exact Or.inl (Or.inr h6)
        · exact Or.inr ⟨i, by omega, by omega, h6⟩

theorem nodup_of_count {l : List Int} (h : ∀ k, k ∈ l → countN l k = 1) : l.Nodup := by
  induction l with
  | nil => exact List.nodup_nil
  | cons a l ih =>
    rw [List.nodup_cons]
    have ha := h a (by simp)
    rw [countN_cons, if_pos (by simp)] at ha
    have hm : a ∉ l := fun hm => by
      have : countN l a ≠ 0 := fun h0 => by
        rw [countN, List.length_eq_zero_iff, List.filter_eq_nil_iff] at h0
        exact h0 a hm (by simp)
      omega
    refine ⟨hm, ih (fun k hk => ?_)⟩
    have := h k (List.mem_cons_of_mem _ hk)
    rw [countN_cons, if_neg (by simp; rintro rfl; exact hm hk)] at this
    omega
theorem mem_of_count {l : List Int} {k : Int} (h : countN l k = 1) : k ∈ l := by
  by_cases hm : k ∈ l
  · exact hm
  · rw [countN_zero hm] at h; cases h

/-- Who comes back to himself never comes to an end. -/
theorem ups_steps {T : List Nd} (hup : UpOk T) : ∀ {m n x : Nat}, n < T.length → x ∈ ups T m n → ∃ d, 1 ≤ d ∧ ∀ f, endsF T (f + d) n = endsF T f x ∨ (f = 0 ∧ True)
  | 0, n, x, _, h => by simp [ups] at h
  | m + 1, n, x, hn, h => by
    rw [ups] at h
    cases he : (overI (nd T n) == -1)
    · rw [he, if_neg (by simp)] at h
      rcases hup n hn with h1 | h1
      · rw [he] at h1; cases h1
      · obtain ⟨u, hu, hul⟩ := isNodeB_true h1
        rw [hu, Int.toNat_natCast] at h
        have step : ∀ f, endsF T (f + 1) n = endsF T f u := fun f => by
          have hne : ((n : Int) == -1) = false := by simp
          rw [endsF, hne, Int.toNat_natCast, hu]; rfl
        rcases List.mem_cons.mp h with rfl | h
        · exact ⟨1, Nat.le_refl _, fun f => Or.inl (step f)⟩
        · obtain ⟨d, hd, hs⟩ := ups_steps hup hul h
          refine ⟨d + 1, by omega, fun f => ?_⟩
          rw [show f + (d + 1) = (f + d) + 1 by omega, step]
          exact hs f
    · rw [he, if_pos rfl] at h
      simp at h
theorem ends_mono {T : List Nd} : ∀ {f : Nat} {n : Int}, endsF T f n = true → endsF T (f + 1) n = true
  | 0, n, h => by simp [endsF] at h
  | f + 1, n, h => by
    rw [endsF] at h ⊢
    cases hn : (n == -1)
    · rw [hn, Bool.false_or] at h
      rw [Bool.false_or]
      exact ends_mono h
    · rfl
theorem ends_mono' {T : List Nd} {f : Nat} {n : Int} (h : endsF T f n = true) : ∀ g, f ≤ g → endsF T g n = true
  | 0, hg => by obtain rfl : f = 0 := by omega
                exact h
  | g + 1, hg => by
    by_cases e : f = g + 1
    · exact e ▸ h
    · exact ends_mono (ends_mono' h g (by omega))
theorem noLoop_of_ends {T : List Nd} (hup : UpOk T) (h : ∀ n, n < T.length → endsF T (T.length + 1) n = true) : hasLoopB T = false := by
  rw [hasLoopB, Bool.not_eq_false', allB_true]
  intro n hn
  rw [isAncB, Bool.not_eq_true', List.any_eq_false]
  intro x hx he
  obtain rfl : x = n := by
    have e : (x : Int) = n := by simpa using he
    omega
  obtain ⟨d, hd, hs⟩ := ups_steps hup hn hx
  have hno : ∀ f, endsF T f x = false := fun f => by
    induction f using Nat.strongRecOn with
    | _ f ih =>
      cases hf : endsF T f x
      · rfl
      · by_cases hfd : f ≤ d
        · have h1 := ends_mono' hf (1 + d) (by omega)
          rcases hs 1 with h2 | ⟨h2, _⟩
          · rw [h2] at h1
            have hne : ((x : Int) == -1) = false := by simp
            rw [endsF, hne, endsF] at h1
            simp at h1
          · cases h2
        · have h3 := hs (f - d)
          rw [show f - d + d = f by omega, ih (f - d) (by omega)] at h3
          rcases h3 with h3 | h3
          · rw [hf] at h3; cases h3
          · omega
  have := h x hn
  rw [hno] at this
  cases this

theorem may_of_refMay {T : List Nd} (h : refMayB T = true) : mayB T = true := by
  rw [refMayB] at h
  simp only [Bool.and_eq_true] at h
  obtain ⟨h1, h64, hn, he⟩ := h
  have hnode := allB_true.mp hn
  have hup := refNode_upOk hnode
  have hparts : ∀ n, n < T.length → kindFitsB (nd T n) n = true ∧ attrsFrom (nd T n).kind (-1) (nd T n).attrs = true ∧ refKidsB T n = true ∧ shadowB T n = true := fun n hlt => by
    have := hnode n hlt
    simp only [refNodeB, Bool.and_eq_true] at this
    exact ⟨this.1.1.1, this.1.1.2, this.1.2, this.2⟩
  have hkid : ∀ i, i < T.length → (∀ k, k ∈ (nd T i).kids → kidFine T i k ∧ countN (nd T i).kids k = 1) ∧ ((nd T i).kind == 2 && decide (0 < (nd T i).kids.length)) = false ∧ ((nd T i).parent = -1 ∨ ∃ q : Nat, q < T.length ∧ (nd T i).parent = (q : Int) ∧ countN (nd T q).kids (i : Int) = 1) := fun i hi => by
    have hk := (hparts i hi).2.2.1
    simp only [refKidsB, Bool.and_eq_true, List.all_eq_true, Bool.not_eq_true', Bool.or_eq_true, beq_iff_eq] at hk
    obtain ⟨⟨a1, a2⟩, a3⟩ := hk
    refine ⟨fun k hk => ?_, ?_, ?_⟩
    · have := a1 k hk
      simp only [kidOkB, Bool.and_eq_true, Bool.or_eq_true, beq_iff_eq] at this
      obtain ⟨⟨⟨b1, b2⟩, b3⟩, b4⟩ := this
      exact ⟨⟨b1, by simp only [canBeKidB, Bool.or_eq_true, beq_iff_eq]; exact b4, b3⟩, by omega⟩
    · rw [← a2]
      congr 1
      exact decide_eq_decide.mpr (by omega)
    · rcases a3 with h | ⟨h, h'⟩
      · exact Or.inl h
      · obtain ⟨q, hq, hql⟩ := isNodeB_true h
        rw [hq, Int.toNat_natCast] at h'
        exact Or.inr ⟨q, hql, hq, by omega⟩
  have hfit : kidsFitB T = true := by
    obtain ⟨P, hP, hPj⟩ := nodesFrom_runs (T := T) (m := T.length) (n := 0) (P := fun _ => false) (fun i _ hi => ⟨(hkid i (by omega)).2.1, fun k hk => ((hkid i (by omega)).1 k hk).1, nodup_of_count (fun k hk => ((hkid i (by omega)).1 k hk).2)⟩) (fun j hj => by cases hj)
    rw [kidsFitB, hP]
    refine allB_true.mpr (fun n hlt => ?_)
    simp only [looseB, Bool.not_eq_true', Bool.and_eq_false_iff, Bool.not_eq_false', bne_eq_false_iff_eq]
    rcases (hkid n hlt).2.2 with h | ⟨q, hq, _, hc⟩
    · exact Or.inr h
    · exact Or.inl ((hPj n).mpr (Or.inr ⟨q, Nat.zero_le _, by omega, mem_of_count hc⟩))
  rw [mayB, h1, h64, hfit, noLoop_of_ends hup (allB_true.mp he)]
  simp only [Bool.true_and, Bool.not_false, Bool.and_true]
  refine allB_true.mpr (fun n hlt => ?_)
  obtain ⟨p1, p2, p3, p4⟩ := hparts n hlt
  have hp3 : (nd T n).kind = 3 → (nd T n).parent = -1 := fun h3 => by
    rcases (hkid n hlt).2.2 with h | ⟨q, hq, hqp, hc⟩
    · exact h
    · have := (((hkid q hq).1 _ (mem_of_count hc)).1).2.1
      rw [Int.toNat_natCast, h3] at this
      exact absurd this (by decide)
  rw [shadowB_of hp3, Bool.and_eq_true] at p4
  simp only [nodeBad, p1, p2, p4.1, p4.2]
  rfl

theorem refMay_eq (T : List Nd) : refMayB T = mayB T := by
  rw [Bool.eq_iff_iff]
  exact ⟨may_of_refMay, refMay_of_may⟩
end Go.Proofs.YtpmacpbhdgigfaaGreat
namespace Go.Proofs.YtpmacpbhdgigfaaGreat
open Go.RowKit
theorem cell_kept' {w : World} {o : Obj} {a : Addr} {v : Value} (h : w.cell? a = some v) : (w.alloc o).cell? a = some v :=
  (World.cell?_alloc_lt _ _ _ (below_of_cell h)).trans h
theorem infoT3 : (Tryz.prog.info? 3).map (fun i => (i.zero, i.size, i.bytes)) = some (some (.int .i64 0), 1, 8) := by kernel_rfl
/-- Two slices lie in two blocks. -/
def Apart (a b : Value) : Prop := ∀ k, a.ownBlock = some k → b.ownBlock ≠ some k
theorem Apart.symm {a b : Value} (h : Apart a b) : Apart b a := fun k hb ha => h k ha hb
def intCells (l : List Int) : List Value := l.map fun x => .int .i64 x
def attrCells : List (Int × Int) → List Value
  | [] => []
  | a :: l => .int .i64 a.1 :: .int .i64 a.2 :: attrCells l
theorem intCells_length (l : List Int) : (intCells l).length = l.length * 1 := by simp [intCells]
theorem attrCells_length : ∀ l : List (Int × Int), (attrCells l).length = l.length * 2
  | [] => rfl
  | a :: l => by simp [attrCells, attrCells_length l]; omega
theorem intCells_one (l : List Int) : ∀ u ∈ intCells l, u.oneCell' = true := by
  intro u hu
  simp only [intCells, List.mem_map] at hu
  obtain ⟨x, _, rfl⟩ := hu
  rfl
theorem intCells_at {l : List Int} {j : Nat} (h : j < l.length) : (intCells l)[j]? = some (.int .i64 (l.getD j 0)) := by
  simp [intCells, List.getElem?_eq_getElem h]
theorem attrCells_at : ∀ {l : List (Int × Int)} {j : Nat}, j < l.length → (attrCells l)[j * 2]? = some (.int .i64 (l.getD j (0, 0)).1) ∧ (attrCells l)[j * 2 + 1]? = some (.int .i64 (l.getD j (0, 0)).2)
  | [], j, h => by simp at h
  | a :: l, 0, h => by simp [attrCells]
  | a :: l, j + 1, h => by
    have ih := attrCells_at (l := l) (j := j) (by simpa using h)
    rw [show (j + 1) * 2 = j * 2 + 1 + 1 by omega]
    simp only [attrCells, List.getElem?_cons_succ, List.getD_cons_succ]
    exact ih
theorem addr_add (b o j : Nat) : (⟨b, o, none⟩ : Addr).add j = ⟨b, o + j, none⟩ := by unfold Addr.add; split <;> simp_all
theorem IntsAt.cells {w : World} {a : Addr} {n cap : Nat} {l : List Int} (h : IntsAt w (.slice (some a) n cap) l) : n = l.length ∧ ∀ j u, (intCells l)[j]? = some u → w.cell? (a.add j) = some u := by
  obtain ⟨a', cap', hv, hc⟩ := h
  simp only [Value.slice.injEq] at hv
  obtain ⟨rfl, rfl, rfl⟩ := hv
  refine ⟨rfl, fun j u hu => ?_⟩
  have hj : j < l.length := by
    have := (List.getElem?_eq_some_iff.1 hu).1
    simpa [intCells] using this
  obtain ⟨b, off, hb, hd⟩ := hc (by omega)
  simp only [Option.some.injEq] at hb
  subst hb
  rw [addr_add, hd j hj, ← hu, intCells_at hj]
theorem AttrsAt.cells {w : World} {a : Addr} {n cap : Nat} {l : List (Int × Int)} (h : AttrsAt w (.slice (some a) n cap) l) : n = l.length ∧ ∀ j u, (attrCells l)[j]? = some u → w.cell? (a.add j) = some u := by
  obtain ⟨a', cap', hv, hc⟩ := h
  simp only [Value.slice.injEq] at hv
  obtain ⟨rfl, rfl, rfl⟩ := hv
  refine ⟨rfl, fun j u hu => ?_⟩
  have hj : j < l.length * 2 := by
    have := (List.getElem?_eq_some_iff.1 hu).1
    rwa [attrCells_length] at this
  obtain ⟨b, off, hb, hd⟩ := hc (by omega)
  simp only [Option.some.injEq] at hb
  subst hb
  rw [addr_add, ← hu]
  have e1 := attrCells_at (l := l) (j := j / 2) (by omega)
  have e2 := hd (j / 2) (by omega)
  rcases Nat.mod_two_eq_zero_or_one j with h0 | h0
  · have ej : j / 2 * 2 = j := by omega
    rw [ej] at e1 e2
    rw [e1.1]; exact e2.1
  · have ej : j / 2 * 2 + 1 = j := by omega
    have ej' : off + j / 2 * 2 + 1 = off + j := by omega
    rw [ej] at e1
    rw [ej'] at e2
    rw [e1.2]; exact e2.2
theorem ownsRow_base {w : World} {base base' : Nat} {e : TypeId} {size : Nat} {v : Value} {n : Nat} {xs : List Value} (h : w.ownsRow base e size v n xs) (hb : base' ≤ base) : w.ownsRow base' e size v n xs := by
  refine ⟨h.1, ?_⟩
  rcases h.2 with h | ⟨g, cap, cur, a, b, r⟩
  · exact .inl h
  · exact .inr ⟨g, cap, cur, a, by omega, r⟩
theorem ownsRow_below {w w' : World} {base : Nat} {e : TypeId} {size : Nat} {v : Value} {n : Nat} {xs : List Value} {K : Nat} (h : w.ownsRow base e size v n xs) (hb : Below K w w') (hk : ∀ g, v.ownBlock = some g → g < K) : w'.ownsRow base e size v n xs := by
  refine ⟨h.1, ?_⟩
  rcases h.2 with h | ⟨g, cap, cur, rfl, b, hg, r⟩
  · exact .inl h
  · exact .inr ⟨g, cap, cur, rfl, b, by rw [hb.block g (hk g rfl)]; exact hg, r⟩
theorem ownsRow_shape {w : World} {base : Nat} {e : TypeId} {size : Nat} {v : Value} {n : Nat} {xs : List Value} (h : w.ownsRow base e size v n xs) : ∃ a c, v = .slice a n c := by
  rcases h.2 with ⟨rfl, rfl⟩ | ⟨g, cap, cur, rfl, r⟩
  · exact ⟨_, _, rfl⟩
  · exact ⟨_, _, rfl⟩
theorem ownsRow_ints {w : World} {base : Nat} {v : Value} {l : List Int} (h : w.ownsRow base 3 1 v l.length (intCells l)) : IntsAt w v l := by
  rcases h.2 with ⟨rfl, h0⟩ | ⟨g, cap, cur, rfl, hb, hg, hn, hm, hs, ht⟩
  · exact ⟨none, 0, by rw [h0], fun h => by omega⟩
  · refine ⟨_, cap, rfl, fun _ => ⟨g, 0, rfl, fun j hj => ?_⟩⟩
    rw [Nat.zero_add, h.cellAt j (by omega), intCells_at hj]
theorem ownsRow_kept_set {w : World} {base : Nat} {e : TypeId} {size : Nat} {v : Value} {n : Nat} {xs : List Value} {g j : Nat} {u : Value} (h : w.ownsRow base e size v n xs) (hne : v.ownBlock ≠ some g) : (w.setCell ⟨g, j, none⟩ u).ownsRow base e size v n xs :=
  h.kept (row := some g) ⟨rfl, rfl, rfl, by simp, fun k _ hk => heap_setCell_other w ⟨g, j, none⟩ k u (fun e => hk (by simp [e]))⟩ (.inr hne)
theorem ownsRow_some {w : World} {base : Nat} {e : TypeId} {size : Nat} {v : Value} {n : Nat} {xs : List Value} (h : w.ownsRow base e size v n xs) (h0 : 0 < n) : ∃ g cap, v = .slice (some ⟨g, 0, none⟩) n cap := by
  rcases h.2 with ⟨_, h1⟩ | ⟨g, cap, cur, hv, _⟩
  · omega
  · exact ⟨g, cap, hv⟩
theorem TreeAt.shape {w : World} {v : Value} {T : List Nd} (h : TreeAt w v T) : ∃ a c, v = .slice a T.length c := let ⟨a, c, h, _⟩ := h; ⟨a, c, h⟩
theorem mayB_pos {T : List Nd} (h : mayB T = true) : 1 ≤ T.length ∧ T.length ≤ 64 := by
  simp only [mayB, Bool.and_eq_true, decide_eq_true_eq] at h
  exact ⟨h.1, h.2.1⟩
theorem treeAt_nil (w : World) : TreeAt w (.slice none 0 0) [] := ⟨none, 0, rfl, fun h => by simp at h⟩

end Go.Proofs.YtpmacpbhdgigfaaGreat
namespace Go.Proofs.YtpmacpbhdgigfaaGreat
open Go.RowKit

/-- A tree that may be. -/
structure Fine (T : List Nd) : Prop where
  pos : 1 ≤ T.length
  le : T.length ≤ 64
  kind : ∀ n, n < T.length → kindFitsB (nd T n) n = true
  host : ∀ n, n < T.length → hostFitsB T n = true
  root : ∀ n, n < T.length → rootFitsB T n = true
  attrs : ∀ n, n < T.length → attrsFrom (nd T n).kind (-1) (nd T n).attrs = true
  text : ∀ n, n < T.length → (nd T n).kind = 2 → (nd T n).kids = []
  kid : ∀ p, p < T.length → ∀ k, k ∈ (nd T p).kids → kidFine T p k
  nodup : ∀ p, p < T.length → (nd T p).kids.Nodup
  par : ∀ n, n < T.length → (nd T n).parent = -1 ∨ ∃ p, p < T.length ∧ (nd T n).parent = (p : Int) ∧ (n : Int) ∈ (nd T p).kids
  rank : ∃ r : Nat → Nat, ∀ n m : Nat, n < T.length → m < T.length → overI (nd T n) = (m : Int) → r m < r n

theorem mayB_upOk {T : List Nd} (h : mayB T = true) : UpOk T := by
  rw [mayB] at h
  simp only [Bool.and_eq_true] at h
  exact upOk_of h.2.2.1 h.2.2.2.1

/-- Once one has come to nobody, more steps tell nothing new. -/
theorem ups_stable {T : List Nd} (hup : UpOk T) : ∀ {k n : Nat}, n < T.length → endsF T (k + 1) n = true → ∀ m, k ≤ m → ups T m n = ups T k n
  | 0, n, hn, h, m, _ => by
    have hne : ((n : Int) == -1) = false := by simp
    rw [endsF, hne, endsF] at h
    simp at h
  | k + 1, n, hn, h, m, hm => by
    obtain ⟨m, rfl⟩ : ∃ m', m = m' + 1 := ⟨m - 1, by omega⟩
    have hne : ((n : Int) == -1) = false := by simp
    rw [endsF, hne] at h
    simp only [Int.toNat_natCast] at h
    rw [ups, ups]
    cases he : (overI (nd T n) == -1)
    · simp only [Bool.false_eq_true, if_false]
      rcases hup n hn with h1 | h1
      · rw [he] at h1; cases h1
      · obtain ⟨q, hq, hql⟩ := isNodeB_true h1
        rw [hq] at h ⊢
        rw [Int.toNat_natCast, ups_stable hup hql h m (by omega)]
    · rfl

theorem mayB_fine {T : List Nd} (h : mayB T = true) : Fine T := by
  have hup := mayB_upOk h
  have h' := h
  rw [mayB] at h
  simp only [Bool.and_eq_true, decide_eq_true_eq] at h
  obtain ⟨h1, h64, hn, hk, hl⟩ := h
  rw [Bool.not_eq_true'] at hl
  obtain ⟨hkids, hpar⟩ := kidsFit_spec hk
  have hb : ∀ n, n < T.length → (kindFitsB (nd T n) n = true ∧ hostFitsB T n = true) ∧ rootFitsB T n = true ∧ attrsFrom (nd T n).kind (-1) (nd T n).attrs = true := fun n hlt => by
    have hb := allB_true.mp hn n hlt
    simp only [nodeBad, Bool.not_eq_true', Bool.or_eq_false_iff, Bool.not_eq_false'] at hb
    exact ⟨⟨hb.1.1.1, hb.1.1.2⟩, hb.1.2, hb.2⟩
  refine ⟨h1, h64, fun n hn => (hb n hn).1.1, fun n hn => (hb n hn).1.2, fun n hn => (hb n hn).2.1, fun n hn => (hb n hn).2.2, fun n hn h2 => ?_, fun p hp => (hkids p hp).2.1, fun p hp => (hkids p hp).2.2, fun n hn => ?_, ?_⟩
  · have := (hkids n hn).1
    rw [h2] at this
    simpa using this
  · rcases hpar n hn with h | ⟨i, hi, hm⟩
    · exact Or.inl h
    · have hf := (hkids i hi).2.1 _ hm
      exact Or.inr ⟨i, hi, by simpa using hf.2.2, hm⟩
  · refine ⟨fun n => (ups T T.length n).length, fun n m hn hm he => ?_⟩
    have e1 := ends_of_noLoop hup hl hn
    have e2 := ends_of_noLoop hup hl hm
    have hne : (overI (nd T n) == -1) = false := by rw [he]; simp
    have s : ups T (T.length + 1) n = ups T T.length n := ups_stable hup hn e1 _ (by omega)
    show (ups T T.length m).length < (ups T T.length n).length
    rw [← s, ups, hne, he]
    simp

theorem ups_rank {T : List Nd} (hup : UpOk T) {r : Nat → Nat} (hr : ∀ n m : Nat, n < T.length → m < T.length → overI (nd T n) = (m : Int) → r m < r n) : ∀ {k n x : Nat}, n < T.length → x ∈ ups T k n → r x < r n
  | 0, n, x, _, h => by simp [ups] at h
  | k + 1, n, x, hn, h => by
    rw [ups] at h
    cases he : (overI (nd T n) == -1)
    · rw [he, if_neg (by simp)] at h
      rcases hup n hn with h1 | h1
      · rw [he] at h1; cases h1
      · obtain ⟨q, hq, hql⟩ := isNodeB_true h1
        have := hr n q hn hql hq
        rw [hq, Int.toNat_natCast] at h
        rcases List.mem_cons.mp h with rfl | h
        · exact this
        · have := ups_rank hup hr hql h; omega
    · rw [he, if_pos rfl] at h
      simp at h

theorem fine_mayB {T : List Nd} (h : Fine T) : mayB T = true := by
  have hnode : allB T.length (fun n => !nodeBad T n) = true := allB_true.mpr fun n hn => by
    simp only [nodeBad, h.kind n hn, h.host n hn, h.root n hn, h.attrs n hn]; rfl
  have hfit : kidsFitB T = true := by
    obtain ⟨P, hP, hPj⟩ := nodesFrom_runs (T := T) (m := T.length) (n := 0) (P := fun _ => false) (fun i _ hi => ⟨by
      by_cases e : (nd T i).kind = 2
      · rw [h.text i (by omega) e]; simp
      · simp [e], h.kid i (by omega), h.nodup i (by omega)⟩) (fun j hj => by cases hj)
    rw [kidsFitB, hP]
    refine allB_true.mpr (fun n hlt => ?_)
    simp only [looseB, Bool.not_eq_true', Bool.and_eq_false_iff, Bool.not_eq_false', bne_eq_false_iff_eq]
    rcases h.par n hlt with h | ⟨q, hq, _, hc⟩
    · exact Or.inr h
    · exact Or.inl ((hPj n).mpr (Or.inr ⟨q, Nat.zero_le _, by omega, hc⟩))
  have hup : UpOk T := upOk_of hnode hfit
  have hloop : hasLoopB T = false := by
    obtain ⟨r, hr⟩ := h.rank
    rw [hasLoopB, Bool.not_eq_false', allB_true]
    intro n hn
    rw [isAncB, Bool.not_eq_true', List.any_eq_false]
    intro x hx he
    have e : (x : Int) = n := by simpa using he
    obtain rfl : x = n := by omega
    have := ups_rank hup hr hn hx
    omega
  rw [mayB, hnode, hfit, hloop]
  have h1 := h.pos
  have h2 := h.le
  simp [h1, h2]

theorem mayB_iff {T : List Nd} : mayB T = true ↔ Fine T := ⟨mayB_fine, fine_mayB⟩

/-- x lies below c, or is c. -/
inductive Sub (T : List Nd) (c : Nat) : Nat → Prop
  | refl : Sub T c c
  | step {x y : Nat} : overI (nd T x) = (y : Int) → Sub T c y → Sub T c x

theorem sub_ups {T : List Nd} (hup : UpOk T) {c x : Nat} (h : Sub T c x) (hx : x < T.length) : x = c ∨ ∃ k, c ∈ ups T k x := by
  induction h with
  | refl => exact Or.inl rfl
  | @step x y he hs ih =>
    have hy : y < T.length := by
      rcases hup x hx with h | h
      · rw [he] at h; simp at h
      · rw [he] at h; simp [isNodeB] at h; omega
    have hne : (overI (nd T x) == -1) = false := by rw [he]; simp
    rcases ih hy with rfl | ⟨k, hk⟩
    · exact Or.inr ⟨1, by rw [ups, hne, he]; simp⟩
    · exact Or.inr ⟨k + 1, by rw [ups, hne, he]; simp [hk]⟩

theorem sub_anc {T : List Nd} (h : mayB T = true) {c x : Nat} (hs : Sub T c x) (hx : x < T.length) : x = c ∨ isAncB T c x = true := by
  have hup := mayB_upOk h
  rcases sub_ups hup hs hx with e | ⟨k, hk⟩
  · exact Or.inl e
  · right
    have hl : hasLoopB T = false := by
      rw [mayB] at h
      simp only [Bool.and_eq_true] at h
      simpa using h.2.2.2.2
    have e1 := ends_of_noLoop hup hl hx
    have hm : ∀ d, c ∈ ups T (k + d) x := fun d => by
      induction d with
      | zero => exact hk
      | succ d ih => exact ups_mono ih
    have := hm T.length
    rw [ups_stable hup hx e1 _ (by omega)] at this
    rw [isAncB, List.any_eq_true]
    exact ⟨c, this, by simp⟩
end Go.Proofs.YtpmacpbhdgigfaaGreat
namespace Go.Proofs.YtpmacpbhdgigfaaGreat
open Go.RowKit
variable {P : Program}

theorem run_copy_sz (w : World) (dT sT ty elem : TypeId) (size g o dLen dCap : Nat) (a : Addr) (sLen sCap : Nat) (cur : Array Value) (t : TypeId) (cs : List Value)
    (hu : P.underlying dT = some (.slice elem)) (hs : (P.info? elem).map (·.size) = some size)
    (hg : w.heap[g]? = some (.cells cur t (0, 0))) (hn : cs.length = Nat.min sLen dLen * size)
    (hsrc : ∀ j v, cs[j]? = some v → w.cell? (a.add j) = some v) (hfit : o + cs.length ≤ cur.size) (h1 : ∀ v ∈ cs, v.oneCell' = true) :
    (Builtin.copy_ #[dT, sT] ty #[.slice (some ⟨g, o, none⟩) dLen dCap, .slice (some a) sLen sCap]).run P w =
      .ok (goInt (Nat.min sLen dLen)) (w.setRow g (cur.toList.take o ++ cs ++ cur.toList.drop (o + cs.length)).toArray) := by
  have hf := run_firstCells_some (P := P) w size (Nat.min sLen dLen) a sLen sCap cs hn hsrc
  have hst := run_storeCells_at P g o t cs 0 cur w hg (by simpa using hfit) h1
  simp only [Nat.add_zero] at hst
  cases hq : P.info? elem with
  | none => simp [hq] at hs
  | some i =>
    have hi : i.size = size := by simpa [hq] using hs
    simp [Builtin.copy_, run_underlying hu, Builtin.lenOf, sizeOf, typeInfo, hq, hi, hf, hst]

theorem wpList_copy_run (w : World) {ops : Array Oper} {rest : List Oper} {o : Oper} {a : Act} {Q : Exit → Act → World → Prop} (hgd : o.guard = none) (d s : Operand) (dT sT : TypeId)
    (ho : o.op = .call { callee := .builtin .copy, args := #[d, s], argTypes := #[dT, sT] }) (vd vs : Value) (hd : a.eval d = vd) (hs : a.eval s = vs)
    (v' : Value) (w' : World) (hr : (Builtin.copy_ #[dT, sT] o.type #[vd, vs]).run P w = .ok v' w') (h : wpList P ops Q rest (a.put o.dst v') w') : wpList P ops Q (o :: rest) a w := by
  refine wpList_plain hgd fun K hK => ?_
  unfold Oper.wp
  simp [execOp, ho, resolve, invoke, builtin, hd, hs, hr, Result.andThen]
  exact hK _ _ h

theorem step_copy_run (w : World) {ops : Array Oper} {o : Oper} {a : Act} {K : Act → World → Prop} {Q : Exit → Act → World → Prop} {E : Prop} (hgd : o.guard = none) (d s : Operand) (dT sT : TypeId)
    (ho : o.op = .call { callee := .builtin .copy, args := #[d, s], argTypes := #[dT, sT] }) (vd vs : Value) (hd : a.eval d = vd) (hs : a.eval s = vs)
    (v' : Value) (w' : World) (hr : (Builtin.copy_ #[dT, sT] o.type #[vd, vs]).run P w = .ok v' w') (h : K (a.put o.dst v') w') :
    if Region.wanted o (yielded ops a.tmps) = true then Oper.wp P o a w K Q else E := by
  have hw : Region.wanted o (yielded ops a.tmps) = true := by simp [Region.wanted, hgd]
  rw [if_pos hw]
  unfold Oper.wp
  simp [execOp, ho, resolve, invoke, builtin, hd, hs, hr, Result.andThen]
  exact h

theorem step_append_run (w : World) {ops : Array Oper} {o : Oper} {a : Act} {K : Act → World → Prop} {Q : Exit → Act → World → Prop} {E : Prop} (hgd : o.guard = none) (d s : Operand) (dT sT : TypeId)
    (ho : o.op = .call { callee := .builtin .append, args := #[d, s], argTypes := #[dT, sT] }) (vd vs : Value) (hd : a.eval d = vd) (hs : a.eval s = vs)
    (v' : Value) (w' : World) (hr : (Builtin.append_ #[dT, sT] o.type #[vd, vs]).run P w = .ok v' w') (h : K (a.put o.dst v') w') :
    if Region.wanted o (yielded ops a.tmps) = true then Oper.wp P o a w K Q else E := by
  have hw : Region.wanted o (yielded ops a.tmps) = true := by simp [Region.wanted, hgd]
  rw [if_pos hw]
  exact Lib.wp_append_run w d s dT sT ho vd vs hd hs v' w' hr h

/-- append onto a row of one's own; and where the new row lies. -/
theorem append_own_fresh (w : World) (base : Nat) (t ty e : TypeId) (i : TypeInfo) (z : Value) (size bytes : Nat) (ht : P.underlying t = some (.slice e)) (hi : P.info? e = some i) (hz : i.zero = some z)
    (hsize : i.size = size) (hby : i.bytes = bytes) (hzs : z.cells.size = size) (hsz : 0 < size)
    (v : Value) (n : Nat) (xs : List Value) (hown : w.ownsRow base e size v n xs)
    (a : Addr) (m c : Nat) (news : List Value) (hl : news.length = m * size) (hnews : ∀ j u, news[j]? = some u → w.cell? (a.add j) = some u) (h1 : ∀ u ∈ news, u.oneCell' = true)
    (h63 : n + m ≤ maxLen) (hbytes : (n + m) * bytes ≤ 140737488355328) (hbase : base ≤ w.heap.size) :
    ∃ v' w', (Builtin.append_ #[t, t] ty #[v, .slice (some a) m c]).run P w = .ok v' w' ∧ w'.ownsRow base e size v' (n + m) (xs ++ news) ∧ w.grownBy w' v.ownBlock ∧
      (∀ k, v'.ownBlock = some k → v.ownBlock = some k ∨ w.heap.size ≤ k) := by
  obtain ⟨v', w', hr, ho, hg, hnil⟩ := run_append_own (P := P) w base t ty e i z size bytes ht hi hz hsize hby hzs hsz v n xs hown a m c news hl hnews h1 h63 hbytes hbase
  refine ⟨v', w', hr, ho, hg, ?_⟩
  have hsmall : n + m ≤ 9223372036854775807 := by simp only [maxLen] at h63; omega
  subst hsize
  subst hby
  rcases hown.2 with ⟨rfl, rfl⟩ | ⟨g, cap, cur, rfl, hbg, hgg, hnc, hcm, hcs, htake⟩
  · by_cases hm : m = 0
    · rw [hnil.2 ⟨rfl, hm⟩]
      intro k hk
      cases hk
    · have hr' := run_append_nil (P := P) w t ty e i z ht hi hz a m c news hl hnews (by omega) (by omega) (by have hb := hbytes; simp only [Nat.zero_add] at hb; omega)
      rw [hr'] at hr
      simp only [Result.ok.injEq] at hr
      rw [← hr.1]
      intro k hk
      simp [Value.ownBlock] at hk
      exact .inr (by omega)
  · by_cases hroom : n + m ≤ cap
    · have hfit : n * i.size + news.length ≤ cur.size := by rw [hl, hcs, ← Nat.add_mul]; exact Nat.mul_le_mul_right _ hroom
      have hr' := run_append_room (P := P) w t ty e i ht hi g n cap cur hgg a m c news hl hnews h1 hroom hfit
      rw [hr'] at hr
      simp only [Result.ok.injEq] at hr
      rw [← hr.1]
      intro k hk
      exact .inl hk
    · have holds : ∀ j u, xs[j]? = some u → w.cell? ((⟨g, 0, none⟩ : Addr).add j) = some u := hown.cells (g := g) rfl
      have hr' := run_append_grow (P := P) w t ty e i z ht hi hz ⟨g, 0, none⟩ n cap xs hown.1 holds a m c news hl hnews (by omega) (by omega) (growslice_fits (by omega) hbytes)
      rw [hr'] at hr
      simp only [Result.ok.injEq] at hr
      rw [← hr.1]
      intro k hk
      simp [Value.ownBlock] at hk
      exact .inr (by omega)

/-- 'append(s[:i], make(S, m)...)' where there is no room: a new row: the first i elements, then zeros. -/
theorem run_append_zeros_grow (w : World) (t tn ty e : TypeId) (i : TypeInfo) (z : Value) (k kn : IntKind) (ht : P.underlying t = some (.slice e)) (htn : P.underlying tn = some (.int kn)) (hi : P.info? e = some i) (hz : i.zero = some z)
    (a : Addr) (n cap m : Nat) (xs : List Value) (hl : xs.length = n * i.size) (hxs : ∀ j u, xs[j]? = some u → w.cell? (a.add j) = some u) (h0 : 0 < m) (hs : 0 < i.size)
    (hgrow : cap < n + m) (hsmall : n + m ≤ 1000000) (hby : i.bytes ≤ 1000) :
    (Builtin.append_ #[t, tn] ty #[.slice (some a) n cap, .int k m]).run P w =
      .ok (.slice (some ⟨w.heap.size, 0, none⟩) (n + m) (grownCap w (n + m) cap e)) (w.drew.alloc (.cells (xs.toArray ++ Builtin.zeroCells z.cells m ++ Builtin.zeroCells z.cells (grownCap w (n + m) cap e - (n + m))) e)) := by
  have hm : m ≠ 0 := by omega
  have hw : IntKind.i64.wrap (m : Int) = m := by rw [IntKind.wrap_i64]; omega
  have hprod : (n + m) * i.bytes ≤ 1000000000 := Nat.mul_le_mul hsmall hby
  have hprod' : m * i.bytes ≤ 1000000000 := Nat.le_trans (Nat.mul_le_mul_right _ (by omega)) hprod
  have h63' : ¬ (9223372036854775807 < ((n : Int) + (m : Int))) := by omega
  have h48' : ¬ (281474976710656 < Builtin.nextslicecap (n + m) cap * i.bytes) := by
    have := growslice_fits (need := n + m) (old := cap) (bytes := i.bytes) hgrow (by omega)
    omega
  have h48i : ¬ (281474976710656 < (m : Int) * (i.bytes : Int)) := by
    rw [← Int.natCast_mul]
    omega
  have hneg : ¬ ((m : Int) < 0) := by omega
  have hns : ¬ (m * i.size = 0) := Nat.mul_ne_zero hm (by omega)
  have hroom : ¬ (n + m ≤ cap) := by omega
  have hf : (Builtin.firstCells i.size n (.slice (some a) n cap)).run P w.drew = .ok xs.toArray w.drew := run_firstCells_some (P := P) w.drew i.size n a n cap xs hl (by simpa using hxs)
  simp [Builtin.append_, run_underlying ht, run_underlying htn, sizeOf, typeInfo, zeroValue, hi, hz, asInt, asIntOf, hw, hneg, hns, h63', h48', h48i, hroom, Question.forced, hf, newRow, grownCap]
end Go.Proofs.YtpmacpbhdgigfaaGreat
namespace Go.Proofs.YtpmacpbhdgigfaaGreat
open Go.RowKit

theorem run_append_owned_nil {P : Program} {w : World} (base : Nat) (t ty e : TypeId) (i : TypeInfo) (size c : Nat) (ht : P.underlying t = some (.slice e)) (hi : P.info? e = some i)
    (v : Value) (n : Nat) (xs : List Value) (hown : w.ownsRow base e size v n xs) :
    (Builtin.append_ #[t, t] ty #[v, .slice none 0 c]).run P w = .ok v w := by
  rcases hown.2 with ⟨rfl, rfl⟩ | ⟨g, cap, cur, rfl, _, _, hnc, _⟩
  · simp [Builtin.append_, run_underlying ht, sizeOf, typeInfo, hi, Builtin.lenOf, Builtin.firstCells]
  · simp [Builtin.append_, run_underlying ht, sizeOf, typeInfo, hi, Builtin.lenOf, Builtin.firstCells, hnc, storeCells]

/-- What an appended slice holds: cells in memory, or nothing. -/
def Holds (w : World) (u : Value) (m : Nat) (news : List Value) : Prop :=
  (∃ ad c, u = .slice (some ad) m c ∧ ∀ j x, news[j]? = some x → w.cell? (ad.add j) = some x) ∨ (∃ c, u = .slice none 0 c ∧ m = 0 ∧ news = [])

theorem append_any {P : Program} (w : World) (base : Nat) (t ty e : TypeId) (i : TypeInfo) (z : Value) (size bytes : Nat) (ht : P.underlying t = some (.slice e)) (hi : P.info? e = some i) (hz : i.zero = some z)
    (hsize : i.size = size) (hby : i.bytes = bytes) (hzs : z.cells.size = size) (hsz : 0 < size)
    (v : Value) (n : Nat) (xs : List Value) (hown : w.ownsRow base e size v n xs)
    (u : Value) (m : Nat) (news : List Value) (hu : Holds w u m news) (hl : news.length = m * size) (h1 : ∀ x ∈ news, x.oneCell' = true)
    (h63 : n + m ≤ maxLen) (hbytes : (n + m) * bytes ≤ 140737488355328) (hbase : base ≤ w.heap.size) :
    ∃ v' w', (Builtin.append_ #[t, t] ty #[v, u]).run P w = .ok v' w' ∧ w'.ownsRow base e size v' (n + m) (xs ++ news) ∧ w.grownBy w' v.ownBlock ∧
      (∀ k, v'.ownBlock = some k → v.ownBlock = some k ∨ w.heap.size ≤ k) := by
  rcases hu with ⟨ad, c, rfl, hc⟩ | ⟨c, rfl, rfl, rfl⟩
  · exact append_own_fresh w base t ty e i z size bytes ht hi hz hsize hby hzs hsz v n xs hown ad m c news hl hc h1 h63 hbytes hbase
  · exact ⟨v, w, run_append_owned_nil base t ty e i size c ht hi v n xs hown, by rw [List.append_nil]; exact hown, ⟨rfl, rfl, rfl, Nat.le_refl _, fun _ _ _ => rfl⟩, fun k hk => .inl hk⟩

theorem wpList_append_any {P : Program} {w : World} {ops : Array Oper} {rest : List Oper} {o : Oper} {a : Act} {Q : Exit → Act → World → Prop} (hgd : o.guard = none) (s x : Operand) (t : TypeId)
    (ho : o.op = .call { callee := .builtin .append, args := #[s, x], argTypes := #[t, t] })
    (base : Nat) (e : TypeId) (i : TypeInfo) (z : Value) (size bytes : Nat) (ht : P.underlying t = some (.slice e)) (hi : P.info? e = some i) (hz : i.zero = some z)
    (hsize : i.size = size) (hby : i.bytes = bytes) (hzs : z.cells.size = size) (hsz : 0 < size)
    (v : Value) (n : Nat) (xs : List Value) (hs : a.eval s = v) (hown : w.ownsRow base e size v n xs)
    (u : Value) (m : Nat) (news : List Value) (hx : a.eval x = u) (hu : Holds w u m news) (hl : news.length = m * size) (h1 : ∀ x ∈ news, x.oneCell' = true)
    (h63 : n + m ≤ maxLen) (hbytes : (n + m) * bytes ≤ 140737488355328) (hbase : base ≤ w.heap.size)
    (h : ∀ v' w', w'.ownsRow base e size v' (n + m) (xs ++ news) → w.grownBy w' v.ownBlock → (∀ k, v'.ownBlock = some k → v.ownBlock = some k ∨ w.heap.size ≤ k) → wpList P ops Q rest (a.put o.dst v') w') : wpList P ops Q (o :: rest) a w := by
  refine wpList_plain hgd fun K hK => ?_
  obtain ⟨v', w', hrun, h2, h3, h4⟩ := append_any (P := P) w base t o.type e i z size bytes ht hi hz hsize hby hzs hsz v n xs hown u m news hu hl h1 h63 hbytes hbase
  unfold Oper.wp
  simp [execOp, ho, resolve, invoke, builtin, hs, hx, hrun, Result.andThen]
  exact hK _ _ (h v' w' h2 h3 h4)

theorem ints_holds {w : World} {v : Value} {l : List Int} (h : IntsAt w v l) : Holds w v l.length (intCells l) := by
  obtain ⟨a, cap, rfl, hc⟩ := h
  cases a with
  | none =>
    have h0 : l = [] := by
      cases l with
      | nil => rfl
      | cons a l => obtain ⟨b, off, e, _⟩ := hc (by simp); cases e
    subst h0
    exact .inr ⟨cap, rfl, rfl, rfl⟩
  | some ad =>
    obtain ⟨_, h2⟩ := IntsAt.cells (w := w) (a := ad) (n := l.length) (cap := cap) (l := l) ⟨some ad, cap, rfl, hc⟩
    exact .inl ⟨ad, cap, rfl, h2⟩
theorem attrs_holds {w : World} {v : Value} {l : List (Int × Int)} (h : AttrsAt w v l) : Holds w v l.length (attrCells l) := by
  obtain ⟨a, cap, rfl, hc⟩ := h
  cases a with
  | none =>
    have h0 : l = [] := by
      cases l with
      | nil => rfl
      | cons a l => obtain ⟨b, off, e, _⟩ := hc (by simp); cases e
    subst h0
    exact .inr ⟨cap, rfl, rfl, rfl⟩
  | some ad =>
    obtain ⟨_, h2⟩ := AttrsAt.cells (w := w) (a := ad) (n := l.length) (cap := cap) (l := l) ⟨some ad, cap, rfl, hc⟩
    exact .inl ⟨ad, cap, rfl, h2⟩
end Go.Proofs.YtpmacpbhdgigfaaGreat
