/- Part 2 of what the laws of layer 10 lean on. -/
import Derived.Lib.AppendZeros
import Derived.Lib.Overlaps
import Derived.Laws.CopyOwn
import Derived.Deep.RegionLaw
import Derived.Deep.QuietTactic
import Derived.BigQuiet
import Derived.Laws.AppendOwnNone
import Derived.Deep.RegionWith
import Derived.WalkMore
import Derived.ScopeJumps
import Derived.Test.YtclhimodopgeoaaGreatTC1
namespace Go.Proofs.YtclhimodopgeoaaGreat
open Go.RowKit

def kidFine (T : List Nd) (p : Nat) (k : Int) : Prop := isNodeB T.length k = true ∧ canBeKidB (nd T k.toNat).kind = true ∧ (nd T k.toNat).parent = (p : Int)

theorem kidBad_false {T : List Nd} {p : Nat} {P : Nat → Bool} {k : Int} : kidBad T p P k = false ↔ kidFine T p k ∧ P k.toNat = false := by
  simp only [kidBad, kidFine, Bool.or_eq_false_iff, Bool.not_eq_false', bne_eq_false_iff_eq, and_assoc]

theorem kidsRun_some {T : List Nd} {p : Nat} : ∀ {l : List Int} {P P' : Nat → Bool}, kidsRun T p l P = some P' →
    (∀ k, k ∈ l → kidFine T p k ∧ P k.toNat = false) ∧ l.Nodup ∧ (∀ j, P' j = true → P j = true ∨ (j : Int) ∈ l)
  | [], P, P', h => by
    rw [kidsRun] at h
    obtain rfl := Option.some.inj h
    exact ⟨fun k hk => absurd hk (by simp), List.nodup_nil, fun j hj => Or.inl hj⟩
  | k :: l, P, P', h => by
    rw [kidsRun] at h
    cases hb : kidBad T p P k
    · rw [hb, if_neg (by simp)] at h
      obtain ⟨h1, h2, h3⟩ := kidsRun_some h
      obtain ⟨hf, hp⟩ := kidBad_false.mp hb
      refine ⟨fun k' hk' => ?_, List.nodup_cons.mpr ⟨fun hm => ?_, h2⟩, fun j hj => ?_⟩
      · rcases List.mem_cons.mp hk' with rfl | hm
        · exact ⟨hf, hp⟩
        · have := (h1 k' hm).2
          simp only [setP, Bool.or_eq_false_iff] at this
          exact ⟨(h1 k' hm).1, this.1⟩
      · have := (h1 k hm).2
        simp [setP] at this
      · rcases h3 j hj with h | h
        · simp only [setP, Bool.or_eq_true, beq_iff_eq] at h
          rcases h with h | h
          · exact Or.inl h
          · obtain ⟨m, hm, _⟩ := isNodeB_true hf.1
            exact Or.inr (List.mem_cons.mpr (Or.inl (by omega)))
        · exact Or.inr (List.mem_cons_of_mem _ h)
    · rw [hb, if_pos rfl] at h
      cases h

theorem nodesFrom_some {T : List Nd} : ∀ {m n : Nat} {P P' : Nat → Bool}, nodesFrom T m n P = some P' →
    (∀ i, n ≤ i → i < n + m → ((nd T i).kind == 2 && decide (0 < (nd T i).kids.length)) = false ∧ (∀ k, k ∈ (nd T i).kids → kidFine T i k) ∧ (nd T i).kids.Nodup) ∧
    (∀ j, P' j = true → P j = true ∨ ∃ i, n ≤ i ∧ i < n + m ∧ (j : Int) ∈ (nd T i).kids)
  | 0, n, P, P', h => by
    rw [nodesFrom] at h
    obtain rfl := Option.some.inj h
    exact ⟨fun i h1 h2 => by omega, fun j hj => Or.inl hj⟩
  | m + 1, n, P, P', h => by
    rw [nodesFrom] at h
    cases hr : nodeRun T n P with
    | none => rw [hr] at h; cases h
    | some Q =>
      rw [hr] at h
      obtain ⟨h1, h2⟩ := nodesFrom_some h
      rw [nodeRun] at hr
      cases hb : ((nd T n).kind == 2 && decide (0 < (nd T n).kids.length))
      · rw [hb, if_neg (by simp)] at hr
        obtain ⟨g1, g2, g3⟩ := kidsRun_some hr
        refine ⟨fun i hi1 hi2 => ?_, fun j hj => ?_⟩
        · by_cases e : i = n
          · subst e
            exact ⟨hb, fun k hk => (g1 k hk).1, g2⟩
          · exact h1 i (by omega) (by omega)
        · rcases h2 j hj with h | ⟨i, hi1, hi2, hi3⟩
          · rcases g3 j h with h | h
            · exact Or.inl h
            · exact Or.inr ⟨n, Nat.le_refl _, by omega, h⟩
          · exact Or.inr ⟨i, by omega, by omega, hi3⟩
      · rw [hb, if_pos rfl] at hr
        cases hr

theorem countN_zero {l : List Int} {k : Int} (h : k ∉ l) : countN l k = 0 := by
  rw [countN, List.length_eq_zero_iff, List.filter_eq_nil_iff]
  intro x hx
  simp only [beq_iff_eq]
  rintro rfl
  exact h hx
theorem countN_cons (a : Int) (l : List Int) (k : Int) : countN (a :: l) k = (if a == k then 1 else 0) + countN l k := by
  rw [countN, List.filter_cons]
  cases h : (a == k)
  · simp [countN]
  · simp [countN]; omega
theorem countN_one {l : List Int} {k : Int} (hn : l.Nodup) (h : k ∈ l) : countN l k = 1 := by
  induction l with
  | nil => simp at h
  | cons a l ih =>
    rw [List.nodup_cons] at hn
    rw [countN_cons]
    by_cases e : a = k
    · subst e
      rw [countN_zero hn.1]; simp
    · rcases List.mem_cons.mp h with h | h
      · exact absurd h.symm e
      · rw [ih hn.2 h, if_neg (by simpa using e)]

/-- The kids of a tree that may be. -/
theorem kidsFit_spec {T : List Nd} (h : kidsFitB T = true) :
    (∀ i, i < T.length → ((nd T i).kind == 2 && decide (0 < (nd T i).kids.length)) = false ∧ (∀ k, k ∈ (nd T i).kids → kidFine T i k) ∧ (nd T i).kids.Nodup) ∧
    (∀ n, n < T.length → (nd T n).parent = -1 ∨ ∃ i, i < T.length ∧ (n : Int) ∈ (nd T i).kids) := by
  rw [kidsFitB] at h
  cases hr : nodesFrom T T.length 0 (fun _ => false) with
  | none => rw [hr] at h; cases h
  | some P =>
    rw [hr] at h
    obtain ⟨h1, h2⟩ := nodesFrom_some hr
    refine ⟨fun i hi => h1 i (Nat.zero_le _) (by omega), fun n hn => ?_⟩
    have := allB_true.mp h n hn
    simp only [looseB, Bool.not_eq_true', Bool.and_eq_false_iff, Bool.not_eq_false', bne_eq_false_iff_eq] at this
    rcases this with h | h
    · rcases h2 n h with h | ⟨i, _, hi, hm⟩
      · cases h
      · exact Or.inr ⟨i, by omega, hm⟩
    · exact Or.inl h

theorem ups_mono {T : List Nd} : ∀ {m n x : Nat}, x ∈ ups T m n → x ∈ ups T (m + 1) n
  | 0, n, x, h => by simp [ups] at h
  | m + 1, n, x, h => by
    rw [ups] at h ⊢
    cases he : (overI (nd T n) == -1)
    · rw [he, if_neg (by simp)] at h
      rw [if_neg (by simp)]
      rcases List.mem_cons.mp h with h | h
      · exact List.mem_cons.mpr (Or.inl h)
      · exact List.mem_cons_of_mem _ (ups_mono h)
    · rw [he, if_pos rfl] at h
      simp at h
theorem ups_lt {T : List Nd} (hup : UpOk T) : ∀ {m n x : Nat}, n < T.length → x ∈ ups T m n → x < T.length
  | 0, n, x, _, h => by simp [ups] at h
  | m + 1, n, x, hn, h => by
    rw [ups] at h
    cases he : (overI (nd T n) == -1)
    · rw [he, if_neg (by simp)] at h
      rcases hup n hn with h1 | h1
      · rw [he] at h1; cases h1
      · obtain ⟨u, hu, hul⟩ := isNodeB_true h1
        rw [hu, Int.toNat_natCast] at h
        rcases List.mem_cons.mp h with rfl | h
        · exact hul
        · exact ups_lt hup hul h
    · rw [he, if_pos rfl] at h
      simp at h
theorem ups_loop {T : List Nd} (hup : UpOk T) : ∀ {m n : Nat}, n < T.length → ¬ (n :: ups T m n).Nodup → ∃ x, x < T.length ∧ x ∈ ups T m x
  | 0, n, _, h => by simp [ups] at h
  | m + 1, n, hn, h => by
    by_cases hm : n ∈ ups T (m + 1) n
    · exact ⟨n, hn, hm⟩
    · have h2 : ¬ (ups T (m + 1) n).Nodup := fun h' => h (List.nodup_cons.mpr ⟨hm, h'⟩)
      rw [ups] at h2
      cases he : (overI (nd T n) == -1)
      · rw [he, if_neg (by simp)] at h2
        rcases hup n hn with h1 | h1
        · rw [he] at h1; cases h1
        · obtain ⟨u, hu, hul⟩ := isNodeB_true h1
          rw [hu, Int.toNat_natCast] at h2
          obtain ⟨x, hx, hxm⟩ := ups_loop hup hul h2
          exact ⟨x, hx, ups_mono hxm⟩
      · rw [he, if_pos rfl] at h2
        exact absurd List.nodup_nil h2
theorem pigeon : ∀ (n : Nat) (l : List Nat), l.Nodup → (∀ x, x ∈ l → x < n) → l.length ≤ n
  | 0, l, _, h => by
    cases l with
    | nil => simp
    | cons a l => exact absurd (h a (by simp)) (by omega)
  | n + 1, l, hd, h => by
    by_cases hm : n ∈ l
    · have := pigeon n (l.erase n) (hd.erase n) (fun x hx => by
        have hne : x ≠ n := fun e => by subst e; exact hd.not_mem_erase hx
        have := h x (List.mem_of_mem_erase hx)
        omega)
      rw [List.length_erase_of_mem hm] at this
      omega
    · have := pigeon n l hd (fun x hx => by
        have hne : x ≠ n := fun e => by subst e; exact hm hx
        have := h x hx
        omega)
      omega
theorem ends_length {T : List Nd} (hup : UpOk T) : ∀ {m n : Nat}, n < T.length → endsF T (m + 1) n = false → (ups T m n).length = m
  | 0, n, _, _ => by simp [ups]
  | m + 1, n, hn, h => by
    rw [endsF, Bool.or_eq_false_iff, Int.toNat_natCast] at h
    obtain ⟨_, h⟩ := h
    rcases overI_ok hup hn with h1 | ⟨u, hu, hul⟩
    · rw [h1, endsF] at h
      simp at h
    · rw [hu] at h
      rw [ups, hu, if_neg (by simp), Int.toNat_natCast, List.length_cons, ends_length hup hul h]

theorem ends_of_noLoop {T : List Nd} (hup : UpOk T) (h : hasLoopB T = false) {n : Nat} (hn : n < T.length) : endsF T (T.length + 1) n = true := by
  cases he : endsF T (T.length + 1) n
  · have hl := ends_length hup hn he
    obtain ⟨x, hx, hm⟩ := ups_loop (m := T.length) hup hn (fun hd => by
      have := pigeon T.length _ hd (fun y hy => by
        rcases List.mem_cons.mp hy with rfl | hy
        · exact hn
        · exact ups_lt hup hn hy)
      rw [List.length_cons, hl] at this
      omega)
    rw [hasLoopB, Bool.not_eq_false', allB_true] at h
    have := h x hx
    rw [isAncB, Bool.not_eq_true', List.any_eq_false] at this
    exact absurd (by simp) (this x hm)
  · rfl

theorem shadowB_of {T : List Nd} {n : Nat} (h3 : (nd T n).kind = 3 → (nd T n).parent = -1) : shadowB T n = (hostFitsB T n && rootFitsB T n) := by
  rw [shadowB, hostFitsB, rootFitsB]
  by_cases hk3 : (nd T n).kind = 3
  · have e1 : ((nd T n).kind == 3) = true := by simp [hk3]
    have e2 : ((nd T n).kind != 3) = false := by simp [hk3]
    have e3 : ((nd T n).kind != 1) = true := by simp [hk3]
    rw [e1, e2, e3, h3 hk3]
    simp only [if_true, Bool.true_or, Bool.false_eq_true, if_false]
    cases ((nd T n).root == -1) <;> simp
  · have e1 : ((nd T n).kind == 3) = false := by simp [hk3]
    have e2 : ((nd T n).kind != 3) = true := by simp [hk3]
    rw [e1, e2]
    simp only [if_true, Bool.false_eq_true, if_false]
    by_cases hk1 : (nd T n).kind = 1
    · have e3 : ((nd T n).kind != 1) = false := by simp [hk1]
      have e4 : ((nd T n).kind == 1) = true := by simp [hk1]
      rw [e3, e4]
      cases ((nd T n).root == -1) <;> simp
    · have e3 : ((nd T n).kind != 1) = true := by simp [hk1]
      have e4 : ((nd T n).kind == 1) = false := by simp [hk1]
      rw [e3, e4]
      simp

theorem kidFine_ok {T : List Nd} {i : Nat} (hd : (nd T i).kids.Nodup) {k : Int} (hk : k ∈ (nd T i).kids) (h : kidFine T i k) : kidOkB T i k = true := by
  obtain ⟨h1, h2, h3⟩ := h
  rw [kidOkB, h1, countN_one hd hk, h3]
  simpa [canBeKidB] using h2

theorem refMay_of_may {T : List Nd} (h : mayB T = true) : refMayB T = true := by
  rw [mayB] at h
  simp only [Bool.and_eq_true] at h
  obtain ⟨h1, h64, hn, hk, hl⟩ := h
  rw [Bool.not_eq_true'] at hl
  obtain ⟨hkids, hpar⟩ := kidsFit_spec hk
  have hnode : ∀ n, n < T.length → refNodeB T n = true := fun n hlt => by
    have hb := allB_true.mp hn n hlt
    simp only [nodeBad, Bool.not_eq_true', Bool.or_eq_false_iff, Bool.not_eq_false'] at hb
    obtain ⟨⟨⟨hkf, hhf⟩, hrf⟩, haf⟩ := hb
    obtain ⟨k1, k2, k3⟩ := hkids n hlt
    have hp3 : (nd T n).kind = 3 → (nd T n).parent = -1 := fun h3 => by
      rcases hpar n hlt with h | ⟨i, hi, hm⟩
      · exact h
      · have := ((hkids i hi).2.1 _ hm).2.1
        rw [Int.toNat_natCast, h3] at this
        exact absurd this (by decide)
    have hkk : refKidsB T n = true := by
      rw [refKidsB]
      have a1 : (nd T n).kids.all (kidOkB T n) = true := List.all_eq_true.mpr (fun k hk => kidFine_ok k3 hk (k2 k hk))
      have a2 : ((nd T n).kind == 2 && decide (0 < ((nd T n).kids.length : Int))) = false := by
        rw [← k1]
        congr 1
        exact decide_eq_decide.mpr (by omega)
      rw [a1, a2]
      rcases hpar n hlt with h | ⟨i, hi, hm⟩
      · rw [h]; rfl
      · have hf := (hkids i hi).2.1 _ hm
        have hpi : (nd T n).parent = (i : Int) := by simpa using hf.2.2
        have hin : isNodeB T.length (i : Int) = true := by simp [isNodeB]; omega
        rw [hpi, hin, Int.toNat_natCast, countN_one (hkids i hi).2.2 hm]
        simp
    rw [refNodeB, hkf, haf, hkk, shadowB_of hp3, hhf, hrf]
    rfl
  have hup := refNode_upOk hnode
  rw [refMayB, h1, h64, allB_true.mpr hnode]
  simp only [Bool.true_and]
  exact allB_true.mpr (fun n hlt => ends_of_noLoop hup hl hlt)
end Go.Proofs.YtclhimodopgeoaaGreat
namespace Go.Proofs.YtclhimodopgeoaaGreat
open Go.RowKit

theorem kidsRun_runs {T : List Nd} {p : Nat} : ∀ {l : List Int} {P : Nat → Bool}, (∀ k, k ∈ l → kidFine T p k ∧ P k.toNat = false) → l.Nodup → ∃ P', kidsRun T p l P = some P' ∧ (∀ j, P' j = true ↔ P j = true ∨ (j : Int) ∈ l)
  | [], P, _, _ => ⟨P, rfl, fun j => by simp⟩
  | k :: l, P, h, hd => by
    rw [List.nodup_cons] at hd
    obtain ⟨hf, hp⟩ := h k (by simp)
    obtain ⟨m, hm, _⟩ := isNodeB_true hf.1
    have hb : kidBad T p P k = false := kidBad_false.mpr ⟨hf, hp⟩
    obtain ⟨P', h1, h2⟩ := kidsRun_runs (l := l) (P := setP P k.toNat) (fun k' hk' => by
      obtain ⟨hf', hp'⟩ := h k' (List.mem_cons_of_mem _ hk')
      obtain ⟨m', hm', _⟩ := isNodeB_true hf'.1
      refine ⟨hf', ?_⟩
      have hne : k' ≠ k := fun e => hd.1 (e ▸ hk')
      simp only [setP, hp', Bool.false_or, beq_eq_false_iff_ne]
      omega) hd.2
    refine ⟨P', by rw [kidsRun, hb, if_neg (by simp)]; exact h1, fun j => ?_⟩
    rw [h2 j]
    simp only [setP, Bool.or_eq_true, beq_iff_eq, List.mem_cons]
    constructor
    · rintro ((h | h) | h)
      · exact Or.inl h
      · exact Or.inr (Or.inl (by omega))
      · exact Or.inr (Or.inr h)
    · rintro (h | h | h)
      · exact Or.inl (Or.inl h)
      · exact Or.inl (Or.inr (by omega))
      · exact Or.inr h
theorem nodesFrom_runs {T : List Nd} : ∀ {m n : Nat} {P : Nat → Bool},
    (∀ i, n ≤ i → i < n + m → ((nd T i).kind == 2 && decide (0 < (nd T i).kids.length)) = false ∧ (∀ k, k ∈ (nd T i).kids → kidFine T i k) ∧ (nd T i).kids.Nodup) →
    (∀ j, P j = true → ∃ i, i < n ∧ (nd T j).parent = (i : Int)) →
    ∃ P', nodesFrom T m n P = some P' ∧ (∀ j, P' j = true ↔ P j = true ∨ ∃ i, n ≤ i ∧ i < n + m ∧ (j : Int) ∈ (nd T i).kids)
  | 0, n, P, _, _ => ⟨P, rfl, fun j => ⟨Or.inl, fun h => h.elim id (fun ⟨i, h1, h2, _⟩ => by omega)⟩⟩
  | m + 1, n, P, h, hP => by
    obtain ⟨h1, h2, h3⟩ := h n (Nat.le_refl _) (by omega)
    obtain ⟨Q, hQ, hQj⟩ := kidsRun_runs (T := T) (p := n) (l := (nd T n).kids) (P := P) (fun k hk => ⟨h2 k hk, by
      cases hp : P k.toNat
      · rfl
      · obtain ⟨i, hi, he⟩ := hP _ hp
        have := (h2 k hk).2.2
        omega⟩) h3
    have hr : nodeRun T n P = some Q := by rw [nodeRun, h1, if_neg (by simp)]; exact hQ
    obtain ⟨P', g1, g2⟩ := nodesFrom_runs (m := m) (n := n + 1) (P := Q) (fun i hi1 hi2 => h i (by omega) (by omega)) (fun j hj => by
      rcases (hQj j).mp hj with hp | hp
      · obtain ⟨i, hi, he⟩ := hP j hp
        exact ⟨i, by omega, he⟩
      · have := (h2 _ hp).2.2
        rw [Int.toNat_natCast] at this
        exact ⟨n, by omega, this⟩)
    refine ⟨P', by rw [nodesFrom, hr]; exact g1, fun j => ?_⟩
    rw [g2 j, hQj j]
    constructor
    · rintro ((h | h) | ⟨i, h4, h5, h6⟩)
      · exact Or.inl h
      · exact Or.inr ⟨n, Nat.le_refl _, by omega, h⟩
      · exact Or.inr ⟨i, by omega, by omega, h6⟩
    · rintro (h | ⟨i, h4, h5, h6⟩)
      · exact Or.inl (Or.inl h)
      · by_cases e : i = n
        · subst e; exact Or.inl (Or.inr h6)
        · exact Or.inr ⟨i, by omega, by omega, h6⟩

theorem nodup_of_count {l : List Int} (h : ∀ k, k ∈ l → countN l k = 1) : l.Nodup := by
  induction l with
  | nil => exact List.nodup_nil
  | cons a l ih =>
    rw [List.nodup_cons]
    have ha := h a (by simp)
    rw [countN_cons, if_pos (by simp)] at ha
    have hm : a ∉ l := fun hm => by
      have : countN l a ≠ 0 := fun h0 => by
        rw [countN, List.length_eq_zero_iff, List.filter_eq_nil_iff] at h0
        exact h0 a hm (by simp)
      omega
    refine ⟨hm, ih (fun k hk => ?_)⟩
    have := h k (List.mem_cons_of_mem _ hk)
    rw [countN_cons, if_neg (by simp; rintro rfl; exact hm hk)] at this
    omega
theorem mem_of_count {l : List Int} {k : Int} (h : countN l k = 1) : k ∈ l := by
  by_cases hm : k ∈ l
  · exact hm
  · rw [countN_zero hm] at h; cases h

/-- Who comes back to himself never comes to an end. -/
theorem ups_steps {T : List Nd} (hup : UpOk T) : ∀ {m n x : Nat}, n < T.length → x ∈ ups T m n → ∃ d, 1 ≤ d ∧ ∀ f, endsF T (f + d) n = endsF T f x ∨ (f = 0 ∧ True)
  | 0, n, x, _, h => by simp [ups] at h
  | m + 1, n, x, hn, h => by
    rw [ups] at h
    cases he : (overI (nd T n) == -1)
    · rw [he, if_neg (by simp)] at h
      rcases hup n hn with h1 | h1
      · rw [he] at h1; cases h1
      · obtain ⟨u, hu, hul⟩ := isNodeB_true h1
        rw [hu, Int.toNat_natCast] at h
        have step : ∀ f, endsF T (f + 1) n = endsF T f u := fun f => by
          have hne : ((n : Int) == -1) = false := by simp
          rw [endsF, hne, Int.toNat_natCast, hu]; rfl
        rcases List.mem_cons.mp h with rfl | h
        · exact ⟨1, Nat.le_refl _, fun f => Or.inl (step f)⟩
        · obtain ⟨d, hd, hs⟩ := ups_steps hup hul h
          refine ⟨d + 1, by omega, fun f => ?_⟩
          rw [show f + (d + 1) = (f + d) + 1 by omega, step]
          exact hs f
    · rw [he, if_pos rfl] at h
      simp at h
theorem ends_mono {T : List Nd} : ∀ {f : Nat} {n : Int}, endsF T f n = true → endsF T (f + 1) n = true
  | 0, n, h => by simp [endsF] at h
  | f + 1, n, h => by
    rw [endsF] at h ⊢
    cases hn : (n == -1)
    · rw [hn, Bool.false_or] at h
      rw [Bool.false_or]
      exact ends_mono h
    · rfl
theorem ends_mono' {T : List Nd} {f : Nat} {n : Int} (h : endsF T f n = true) : ∀ g, f ≤ g → endsF T g n = true
  | 0, hg => by obtain rfl : f = 0 := by omega
                exact h
  | g + 1, hg => by
    by_cases e : f = g + 1
    · exact e ▸ h
    · exact ends_mono (ends_mono' h g (by omega))
theorem noLoop_of_ends {T : List Nd} (hup : UpOk T) (h : ∀ n, n < T.length → endsF T (T.length + 1) n = true) : hasLoopB T = false := by
  rw [hasLoopB, Bool.not_eq_false', allB_true]
  intro n hn
  rw [isAncB, Bool.not_eq_true', List.any_eq_false]
  intro x hx he
  obtain rfl : x = n := by
    have e : (x : Int) = n := by simpa using he
    omega
  obtain ⟨d, hd, hs⟩ := ups_steps hup hn hx
  have hno : ∀ f, endsF T f x = false := fun f => by
    induction f using Nat.strongRecOn with
    | _ f ih =>
      cases hf : endsF T f x
      · rfl
      · by_cases hfd : f ≤ d
        · have h1 := ends_mono' hf (1 + d) (by omega)
          rcases hs 1 with h2 | ⟨h2, _⟩
          · rw [h2] at h1
            have hne : ((x : Int) == -1) = false := by simp
            rw [endsF, hne, endsF] at h1
            simp at h1
          · cases h2
        · have h3 := hs (f - d)
          rw [show f - d + d = f by omega, ih (f - d) (by omega)] at h3
          rcases h3 with h3 | h3
          · rw [hf] at h3; cases h3
          · omega
  have := h x hn
  rw [hno] at this
  cases this

theorem may_of_refMay {T : List Nd} (h : refMayB T = true) : mayB T = true := by
  rw [refMayB] at h
  simp only [Bool.and_eq_true] at h
  obtain ⟨h1, h64, hn, he⟩ := h
  have hnode := allB_true.mp hn
  have hup := refNode_upOk hnode
  have hparts : ∀ n, n < T.length → kindFitsB (nd T n) n = true ∧ attrsFrom (nd T n).kind (-1) (nd T n).attrs = true ∧ refKidsB T n = true ∧ shadowB T n = true := fun n hlt => by
    have := hnode n hlt
    simp only [refNodeB, Bool.and_eq_true] at this
    exact ⟨this.1.1.1, this.1.1.2, this.1.2, this.2⟩
  have hkid : ∀ i, i < T.length → (∀ k, k ∈ (nd T i).kids → kidFine T i k ∧ countN (nd T i).kids k = 1) ∧ ((nd T i).kind == 2 && decide (0 < (nd T i).kids.length)) = false ∧ ((nd T i).parent = -1 ∨ ∃ q : Nat, q < T.length ∧ (nd T i).parent = (q : Int) ∧ countN (nd T q).kids (i : Int) = 1) := fun i hi => by
    have hk := (hparts i hi).2.2.1
    simp only [refKidsB, Bool.and_eq_true, List.all_eq_true, Bool.not_eq_true', Bool.or_eq_true, beq_iff_eq] at hk
    obtain ⟨⟨a1, a2⟩, a3⟩ := hk
    refine ⟨fun k hk => ?_, ?_, ?_⟩
    · have := a1 k hk
      simp only [kidOkB, Bool.and_eq_true, Bool.or_eq_true, beq_iff_eq] at this
      obtain ⟨⟨⟨b1, b2⟩, b3⟩, b4⟩ := this
      exact ⟨⟨b1, by simp only [canBeKidB, Bool.or_eq_true, beq_iff_eq]; exact b4, b3⟩, by omega⟩
    · rw [← a2]
      congr 1
      exact decide_eq_decide.mpr (by omega)
    · rcases a3 with h | ⟨h, h'⟩
      · exact Or.inl h
      · obtain ⟨q, hq, hql⟩ := isNodeB_true h
        rw [hq, Int.toNat_natCast] at h'
        exact Or.inr ⟨q, hql, hq, by omega⟩
  have hfit : kidsFitB T = true := by
    obtain ⟨P, hP, hPj⟩ := nodesFrom_runs (T := T) (m := T.length) (n := 0) (P := fun _ => false) (fun i _ hi => ⟨(hkid i (by omega)).2.1, fun k hk => ((hkid i (by omega)).1 k hk).1, nodup_of_count (fun k hk => ((hkid i (by omega)).1 k hk).2)⟩) (fun j hj => by cases hj)
    rw [kidsFitB, hP]
    refine allB_true.mpr (fun n hlt => ?_)
    simp only [looseB, Bool.not_eq_true', Bool.and_eq_false_iff, Bool.not_eq_false', bne_eq_false_iff_eq]
    rcases (hkid n hlt).2.2 with h | ⟨q, hq, _, hc⟩
    · exact Or.inr h
    · exact Or.inl ((hPj n).mpr (Or.inr ⟨q, Nat.zero_le _, by omega, mem_of_count hc⟩))
  rw [mayB, h1, h64, hfit, noLoop_of_ends hup (allB_true.mp he)]
  simp only [Bool.true_and, Bool.not_false, Bool.and_true]
  refine allB_true.mpr (fun n hlt => ?_)
  obtain ⟨p1, p2, p3, p4⟩ := hparts n hlt
  have hp3 : (nd T n).kind = 3 → (nd T n).parent = -1 := fun h3 => by
    rcases (hkid n hlt).2.2 with h | ⟨q, hq, hqp, hc⟩
    · exact h
    · have := (((hkid q hq).1 _ (mem_of_count hc)).1).2.1
      rw [Int.toNat_natCast, h3] at this
      exact absurd this (by decide)
  rw [shadowB_of hp3, Bool.and_eq_true] at p4
  simp only [nodeBad, p1, p2, p4.1, p4.2]
  rfl

theorem refMay_eq (T : List Nd) : refMayB T = mayB T := by
  rw [Bool.eq_iff_iff]
  exact ⟨may_of_refMay, refMay_of_may⟩
end Go.Proofs.YtclhimodopgeoaaGreat
namespace Go.Proofs.YtclhimodopgeoaaGreat
open Go.RowKit
theorem cell_kept' {w : World} {o : Obj} {a : Addr} {v : Value} (h : w.cell? a = some v) : (w.alloc o).cell? a = some v :=
  (World.cell?_alloc_lt _ _ _ (below_of_cell h)).trans h
theorem infoT3 : (Tryz.prog.info? 3).map (fun i => (i.zero, i.size, i.bytes)) = some (some (.int .i64 0), 1, 8) := by kernel_rfl
/-- Two slices lie in two blocks. -/
def Apart (a b : Value) : Prop := ∀ k, a.ownBlock = some k → b.ownBlock ≠ some k
theorem Apart.symm {a b : Value} (h : Apart a b) : Apart b a := fun k hb ha => h k ha hb
def intCells (l : List Int) : List Value := l.map fun x => .int .i64 x
def attrCells : List (Int × Int) → List Value
  | [] => []
  | a :: l => .int .i64 a.1 :: .int .i64 a.2 :: attrCells l
theorem intCells_length (l : List Int) : (intCells l).length = l.length * 1 := by simp [intCells]
theorem attrCells_length : ∀ l : List (Int × Int), (attrCells l).length = l.length * 2
  | [] => rfl
  | a :: l => by simp [attrCells, attrCells_length l]; omega
theorem intCells_one (l : List Int) : ∀ u ∈ intCells l, u.oneCell' = true := by
  intro u hu
  simp only [intCells, List.mem_map] at hu
  obtain ⟨x, _, rfl⟩ := hu
  rfl
theorem intCells_at {l : List Int} {j : Nat} (h : j < l.length) : (intCells l)[j]? = some (.int .i64 (l.getD j 0)) := by
  simp [intCells, List.getElem?_eq_getElem h]
theorem attrCells_at : ∀ {l : List (Int × Int)} {j : Nat}, j < l.length → (attrCells l)[j * 2]? = some (.int .i64 (l.getD j (0, 0)).1) ∧ (attrCells l)[j * 2 + 1]? = some (.int .i64 (l.getD j (0, 0)).2)
  | [], j, h => by simp at h
  | a :: l, 0, h => by simp [attrCells]
  | a :: l, j + 1, h => by
    have ih := attrCells_at (l := l) (j := j) (by simpa using h)
    rw [show (j + 1) * 2 = j * 2 + 1 + 1 by omega]
    simp only [attrCells, List.getElem?_cons_succ, List.getD_cons_succ]
    exact ih
theorem addr_add (b o j : Nat) : (⟨b, o, none⟩ : Addr).add j = ⟨b, o + j, none⟩ := by unfold Addr.add; split <;> simp_all
theorem IntsAt.cells {w : World} {a : Addr} {n cap : Nat} {l : List Int} (h : IntsAt w (.slice (some a) n cap) l) : n = l.length ∧ ∀ j u, (intCells l)[j]? = some u → w.cell? (a.add j) = some u := by
  obtain ⟨a', cap', hv, hc⟩ := h
  simp only [Value.slice.injEq] at hv
  obtain ⟨rfl, rfl, rfl⟩ := hv
  refine ⟨rfl, fun j u hu => ?_⟩
  have hj : j < l.length := by
    have := (List.getElem?_eq_some_iff.1 hu).1
    simpa [intCells] using this
  obtain ⟨b, off, hb, hd⟩ := hc (by omega)
  simp only [Option.some.injEq] at hb
  subst hb
  rw [addr_add, hd j hj, ← hu, intCells_at hj]
theorem AttrsAt.cells {w : World} {a : Addr} {n cap : Nat} {l : List (Int × Int)} (h : AttrsAt w (.slice (some a) n cap) l) : n = l.length ∧ ∀ j u, (attrCells l)[j]? = some u → w.cell? (a.add j) = some u := by
  obtain ⟨a', cap', hv, hc⟩ := h
  simp only [Value.slice.injEq] at hv
  obtain ⟨rfl, rfl, rfl⟩ := hv
  refine ⟨rfl, fun j u hu => ?_⟩
  have hj : j < l.length * 2 := by
    have := (List.getElem?_eq_some_iff.1 hu).1
    rwa [attrCells_length] at this
  obtain ⟨b, off, hb, hd⟩ := hc (by omega)
  simp only [Option.some.injEq] at hb
  subst hb
  rw [addr_add, ← hu]
  have e1 := attrCells_at (l := l) (j := j / 2) (by omega)
  have e2 := hd (j / 2) (by omega)
  rcases Nat.mod_two_eq_zero_or_one j with h0 | h0
  · have ej : j / 2 * 2 = j := by omega
    rw [ej] at e1 e2
    rw [e1.1]; exact e2.1
  · have ej : j / 2 * 2 + 1 = j := by omega
    have ej' : off + j / 2 * 2 + 1 = off + j := by omega
    rw [ej] at e1
    rw [ej'] at e2
    rw [e1.2]; exact e2.2
theorem ownsRow_base {w : World} {base base' : Nat} {e : TypeId} {size : Nat} {v : Value} {n : Nat} {xs : List Value} (h : w.ownsRow base e size v n xs) (hb : base' ≤ base) : w.ownsRow base' e size v n xs := by
  refine ⟨h.1, ?_⟩
  rcases h.2 with h | ⟨g, cap, cur, a, b, r⟩
  · exact .inl h
  · exact .inr ⟨g, cap, cur, a, by omega, r⟩
theorem ownsRow_below {w w' : World} {base : Nat} {e : TypeId} {size : Nat} {v : Value} {n : Nat} {xs : List Value} {K : Nat} (h : w.ownsRow base e size v n xs) (hb : Below K w w') (hk : ∀ g, v.ownBlock = some g → g < K) : w'.ownsRow base e size v n xs := by
  refine ⟨h.1, ?_⟩
  rcases h.2 with h | ⟨g, cap, cur, rfl, b, hg, r⟩
  · exact .inl h
  · exact .inr ⟨g, cap, cur, rfl, b, by rw [hb.block g (hk g rfl)]; exact hg, r⟩
theorem ownsRow_shape {w : World} {base : Nat} {e : TypeId} {size : Nat} {v : Value} {n : Nat} {xs : List Value} (h : w.ownsRow base e size v n xs) : ∃ a c, v = .slice a n c := by
  rcases h.2 with ⟨rfl, rfl⟩ | ⟨g, cap, cur, rfl, r⟩
  · exact ⟨_, _, rfl⟩
  · exact ⟨_, _, rfl⟩
theorem ownsRow_ints {w : World} {base : Nat} {v : Value} {l : List Int} (h : w.ownsRow base 3 1 v l.length (intCells l)) : IntsAt w v l := by
  rcases h.2 with ⟨rfl, h0⟩ | ⟨g, cap, cur, rfl, hb, hg, hn, hm, hs, ht⟩
  · exact ⟨none, 0, by rw [h0], fun h => by omega⟩
  · refine ⟨_, cap, rfl, fun _ => ⟨g, 0, rfl, fun j hj => ?_⟩⟩
    rw [Nat.zero_add, h.cellAt j (by omega), intCells_at hj]
theorem ownsRow_kept_set {w : World} {base : Nat} {e : TypeId} {size : Nat} {v : Value} {n : Nat} {xs : List Value} {g j : Nat} {u : Value} (h : w.ownsRow base e size v n xs) (hne : v.ownBlock ≠ some g) : (w.setCell ⟨g, j, none⟩ u).ownsRow base e size v n xs :=
  h.kept (row := some g) ⟨rfl, rfl, rfl, by simp, fun k _ hk => heap_setCell_other w ⟨g, j, none⟩ k u (fun e => hk (by simp [e]))⟩ (.inr hne)
theorem ownsRow_some {w : World} {base : Nat} {e : TypeId} {size : Nat} {v : Value} {n : Nat} {xs : List Value} (h : w.ownsRow base e size v n xs) (h0 : 0 < n) : ∃ g cap, v = .slice (some ⟨g, 0, none⟩) n cap := by
  rcases h.2 with ⟨_, h1⟩ | ⟨g, cap, cur, hv, _⟩
  · omega
  · exact ⟨g, cap, hv⟩
theorem TreeAt.shape {w : World} {v : Value} {T : List Nd} (h : TreeAt w v T) : ∃ a c, v = .slice a T.length c := let ⟨a, c, h, _⟩ := h; ⟨a, c, h⟩
theorem mayB_pos {T : List Nd} (h : mayB T = true) : 1 ≤ T.length ∧ T.length ≤ 64 := by
  simp only [mayB, Bool.and_eq_true, decide_eq_true_eq] at h
  exact ⟨h.1, h.2.1⟩
end Go.Proofs.YtclhimodopgeoaaGreat
namespace Go.Proofs.YtclhimodopgeoaaGreat
open Go.RowKit

/-- A tree that may be. -/
structure Fine (T : List Nd) : Prop where
  pos : 1 ≤ T.length
  le : T.length ≤ 64
  kind : ∀ n, n < T.length → kindFitsB (nd T n) n = true
  host : ∀ n, n < T.length → hostFitsB T n = true
  root : ∀ n, n < T.length → rootFitsB T n = true
  attrs : ∀ n, n < T.length → attrsFrom (nd T n).kind (-1) (nd T n).attrs = true
  text : ∀ n, n < T.length → (nd T n).kind = 2 → (nd T n).kids = []
  kid : ∀ p, p < T.length → ∀ k, k ∈ (nd T p).kids → kidFine T p k
  nodup : ∀ p, p < T.length → (nd T p).kids.Nodup
  par : ∀ n, n < T.length → (nd T n).parent = -1 ∨ ∃ p, p < T.length ∧ (nd T n).parent = (p : Int) ∧ (n : Int) ∈ (nd T p).kids
  rank : ∃ r : Nat → Nat, ∀ n m : Nat, n < T.length → m < T.length → overI (nd T n) = (m : Int) → r m < r n

theorem mayB_upOk {T : List Nd} (h : mayB T = true) : UpOk T := by
  rw [mayB] at h
  simp only [Bool.and_eq_true] at h
  exact upOk_of h.2.2.1 h.2.2.2.1

/-- Once one has come to nobody, more steps tell nothing new. -/
theorem ups_stable {T : List Nd} (hup : UpOk T) : ∀ {k n : Nat}, n < T.length → endsF T (k + 1) n = true → ∀ m, k ≤ m → ups T m n = ups T k n
  | 0, n, hn, h, m, _ => by
    have hne : ((n : Int) == -1) = false := by simp
    rw [endsF, hne, endsF] at h
    simp at h
  | k + 1, n, hn, h, m, hm => by
    obtain ⟨m, rfl⟩ : ∃ m', m = m' + 1 := ⟨m - 1, by omega⟩
    have hne : ((n : Int) == -1) = false := by simp
    rw [endsF, hne] at h
    simp only [Int.toNat_natCast] at h
    rw [ups, ups]
    cases he : (overI (nd T n) == -1)
    · simp only [Bool.false_eq_true, if_false]
      rcases hup n hn with h1 | h1
      · rw [he] at h1; cases h1
      · obtain ⟨q, hq, hql⟩ := isNodeB_true h1
        rw [hq] at h ⊢
        rw [Int.toNat_natCast, ups_stable hup hql h m (by omega)]
    · rfl

theorem mayB_fine {T : List Nd} (h : mayB T = true) : Fine T := by
  have hup := mayB_upOk h
  have h' := h
  rw [mayB] at h
  simp only [Bool.and_eq_true, decide_eq_true_eq] at h
  obtain ⟨h1, h64, hn, hk, hl⟩ := h
  rw [Bool.not_eq_true'] at hl
  obtain ⟨hkids, hpar⟩ := kidsFit_spec hk
  have hb : ∀ n, n < T.length → (kindFitsB (nd T n) n = true ∧ hostFitsB T n = true) ∧ rootFitsB T n = true ∧ attrsFrom (nd T n).kind (-1) (nd T n).attrs = true := fun n hlt => by
    have hb := allB_true.mp hn n hlt
    simp only [nodeBad, Bool.not_eq_true', Bool.or_eq_false_iff, Bool.not_eq_false'] at hb
    exact ⟨⟨hb.1.1.1, hb.1.1.2⟩, hb.1.2, hb.2⟩
  refine ⟨h1, h64, fun n hn => (hb n hn).1.1, fun n hn => (hb n hn).1.2, fun n hn => (hb n hn).2.1, fun n hn => (hb n hn).2.2, fun n hn h2 => ?_, fun p hp => (hkids p hp).2.1, fun p hp => (hkids p hp).2.2, fun n hn => ?_, ?_⟩
  · have := (hkids n hn).1
    rw [h2] at this
    simpa using this
  · rcases hpar n hn with h | ⟨i, hi, hm⟩
    · exact Or.inl h
    · have hf := (hkids i hi).2.1 _ hm
      exact Or.inr ⟨i, hi, by simpa using hf.2.2, hm⟩
  · refine ⟨fun n => (ups T T.length n).length, fun n m hn hm he => ?_⟩
    have e1 := ends_of_noLoop hup hl hn
    have e2 := ends_of_noLoop hup hl hm
    have hne : (overI (nd T n) == -1) = false := by rw [he]; simp
    have s : ups T (T.length + 1) n = ups T T.length n := ups_stable hup hn e1 _ (by omega)
    show (ups T T.length m).length < (ups T T.length n).length
    rw [← s, ups, hne, he]
    simp

theorem ups_rank {T : List Nd} (hup : UpOk T) {r : Nat → Nat} (hr : ∀ n m : Nat, n < T.length → m < T.length → overI (nd T n) = (m : Int) → r m < r n) : ∀ {k n x : Nat}, n < T.length → x ∈ ups T k n → r x < r n
  | 0, n, x, _, h => by simp [ups] at h
  | k + 1, n, x, hn, h => by
    rw [ups] at h
    cases he : (overI (nd T n) == -1)
    · rw [he, if_neg (by simp)] at h
      rcases hup n hn with h1 | h1
      · rw [he] at h1; cases h1
      · obtain ⟨q, hq, hql⟩ := isNodeB_true h1
        have := hr n q hn hql hq
        rw [hq, Int.toNat_natCast] at h
        rcases List.mem_cons.mp h with rfl | h
        · exact this
        · have := ups_rank hup hr hql h; omega
    · rw [he, if_pos rfl] at h
      simp at h

theorem fine_mayB {T : List Nd} (h : Fine T) : mayB T = true := by
  have hnode : allB T.length (fun n => !nodeBad T n) = true := allB_true.mpr fun n hn => by
    simp only [nodeBad, h.kind n hn, h.host n hn, h.root n hn, h.attrs n hn]; rfl
  have hfit : kidsFitB T = true := by
    obtain ⟨P, hP, hPj⟩ := nodesFrom_runs (T := T) (m := T.length) (n := 0) (P := fun _ => false) (fun i _ hi => ⟨by
      by_cases e : (nd T i).kind = 2
      · rw [h.text i (by omega) e]; simp
      · simp [e], h.kid i (by omega), h.nodup i (by omega)⟩) (fun j hj => by cases hj)
    rw [kidsFitB, hP]
    refine allB_true.mpr (fun n hlt => ?_)
    simp only [looseB, Bool.not_eq_true', Bool.and_eq_false_iff, Bool.not_eq_false', bne_eq_false_iff_eq]
    rcases h.par n hlt with h | ⟨q, hq, _, hc⟩
    · exact Or.inr h
    · exact Or.inl ((hPj n).mpr (Or.inr ⟨q, Nat.zero_le _, by omega, hc⟩))
  have hup : UpOk T := upOk_of hnode hfit
  have hloop : hasLoopB T = false := by
    obtain ⟨r, hr⟩ := h.rank
    rw [hasLoopB, Bool.not_eq_false', allB_true]
    intro n hn
    rw [isAncB, Bool.not_eq_true', List.any_eq_false]
    intro x hx he
    have e : (x : Int) = n := by simpa using he
    obtain rfl : x = n := by omega
    have := ups_rank hup hr hn hx
    omega
  rw [mayB, hnode, hfit, hloop]
  have h1 := h.pos
  have h2 := h.le
  simp [h1, h2]

end Go.Proofs.YtclhimodopgeoaaGreat
namespace Go.Proofs.YtclhimodopgeoaaGreat
open Go.RowKit
variable {P : Program}

/-- append onto a row of one's own; and where the new row lies. -/
theorem append_own_fresh (w : World) (base : Nat) (t ty e : TypeId) (i : TypeInfo) (z : Value) (size bytes : Nat) (ht : P.underlying t = some (.slice e)) (hi : P.info? e = some i) (hz : i.zero = some z)
    (hsize : i.size = size) (hby : i.bytes = bytes) (hzs : z.cells.size = size) (hsz : 0 < size)
    (v : Value) (n : Nat) (xs : List Value) (hown : w.ownsRow base e size v n xs)
    (a : Addr) (m c : Nat) (news : List Value) (hl : news.length = m * size) (hnews : ∀ j u, news[j]? = some u → w.cell? (a.add j) = some u) (h1 : ∀ u ∈ news, u.oneCell' = true)
    (h63 : n + m ≤ maxLen) (hbytes : (n + m) * bytes ≤ 140737488355328) (hbase : base ≤ w.heap.size) :
    ∃ v' w', (Builtin.append_ #[t, t] ty #[v, .slice (some a) m c]).run P w = .ok v' w' ∧ w'.ownsRow base e size v' (n + m) (xs ++ news) ∧ w.grownBy w' v.ownBlock ∧
      (∀ k, v'.ownBlock = some k → v.ownBlock = some k ∨ w.heap.size ≤ k) := by
  obtain ⟨v', w', hr, ho, hg, hnil⟩ := run_append_own (P := P) w base t ty e i z size bytes ht hi hz hsize hby hzs hsz v n xs hown a m c news hl hnews h1 h63 hbytes hbase
  refine ⟨v', w', hr, ho, hg, ?_⟩
  have hsmall : n + m ≤ 9223372036854775807 := by simp only [maxLen] at h63; omega
  subst hsize
  subst hby
  rcases hown.2 with ⟨rfl, rfl⟩ | ⟨g, cap, cur, rfl, hbg, hgg, hnc, hcm, hcs, htake⟩
  · by_cases hm : m = 0
    · rw [hnil.2 ⟨rfl, hm⟩]
      intro k hk
      cases hk
    · have hr' := run_append_nil (P := P) w t ty e i z ht hi hz a m c news hl hnews (by omega) (by omega) (by have hb := hbytes; simp only [Nat.zero_add] at hb; omega)
      rw [hr'] at hr
      simp only [Result.ok.injEq] at hr
      rw [← hr.1]
      intro k hk
      simp [Value.ownBlock] at hk
      exact .inr (by omega)
  · by_cases hroom : n + m ≤ cap
    · have hfit : n * i.size + news.length ≤ cur.size := by rw [hl, hcs, ← Nat.add_mul]; exact Nat.mul_le_mul_right _ hroom
      have hr' := run_append_room (P := P) w t ty e i ht hi g n cap cur hgg a m c news hl hnews h1 hroom hfit
      rw [hr'] at hr
      simp only [Result.ok.injEq] at hr
      rw [← hr.1]
      intro k hk
      exact .inl hk
    · have holds : ∀ j u, xs[j]? = some u → w.cell? ((⟨g, 0, none⟩ : Addr).add j) = some u := hown.cells (g := g) rfl
      have hr' := run_append_grow (P := P) w t ty e i z ht hi hz ⟨g, 0, none⟩ n cap xs hown.1 holds a m c news hl hnews (by omega) (by omega) (growslice_fits (by omega) hbytes)
      rw [hr'] at hr
      simp only [Result.ok.injEq] at hr
      rw [← hr.1]
      intro k hk
      simp [Value.ownBlock] at hk
      exact .inr (by omega)

end Go.Proofs.YtclhimodopgeoaaGreat
namespace Go.Proofs.YtclhimodopgeoaaGreat
open Go.RowKit

theorem run_append_owned_nil {P : Program} {w : World} (base : Nat) (t ty e : TypeId) (i : TypeInfo) (size c : Nat) (ht : P.underlying t = some (.slice e)) (hi : P.info? e = some i)
    (v : Value) (n : Nat) (xs : List Value) (hown : w.ownsRow base e size v n xs) :
    (Builtin.append_ #[t, t] ty #[v, .slice none 0 c]).run P w = .ok v w := by
  rcases hown.2 with ⟨rfl, rfl⟩ | ⟨g, cap, cur, rfl, _, _, hnc, _⟩
  · simp [Builtin.append_, run_underlying ht, sizeOf, typeInfo, hi, Builtin.lenOf, Builtin.firstCells]
  · simp [Builtin.append_, run_underlying ht, sizeOf, typeInfo, hi, Builtin.lenOf, Builtin.firstCells, hnc, storeCells]

/-- What an appended slice holds: cells in memory, or nothing. -/
def Holds (w : World) (u : Value) (m : Nat) (news : List Value) : Prop :=
  (∃ ad c, u = .slice (some ad) m c ∧ ∀ j x, news[j]? = some x → w.cell? (ad.add j) = some x) ∨ (∃ c, u = .slice none 0 c ∧ m = 0 ∧ news = [])

theorem append_any {P : Program} (w : World) (base : Nat) (t ty e : TypeId) (i : TypeInfo) (z : Value) (size bytes : Nat) (ht : P.underlying t = some (.slice e)) (hi : P.info? e = some i) (hz : i.zero = some z)
    (hsize : i.size = size) (hby : i.bytes = bytes) (hzs : z.cells.size = size) (hsz : 0 < size)
    (v : Value) (n : Nat) (xs : List Value) (hown : w.ownsRow base e size v n xs)
    (u : Value) (m : Nat) (news : List Value) (hu : Holds w u m news) (hl : news.length = m * size) (h1 : ∀ x ∈ news, x.oneCell' = true)
    (h63 : n + m ≤ maxLen) (hbytes : (n + m) * bytes ≤ 140737488355328) (hbase : base ≤ w.heap.size) :
    ∃ v' w', (Builtin.append_ #[t, t] ty #[v, u]).run P w = .ok v' w' ∧ w'.ownsRow base e size v' (n + m) (xs ++ news) ∧ w.grownBy w' v.ownBlock ∧
      (∀ k, v'.ownBlock = some k → v.ownBlock = some k ∨ w.heap.size ≤ k) := by
  rcases hu with ⟨ad, c, rfl, hc⟩ | ⟨c, rfl, rfl, rfl⟩
  · exact append_own_fresh w base t ty e i z size bytes ht hi hz hsize hby hzs hsz v n xs hown ad m c news hl hc h1 h63 hbytes hbase
  · exact ⟨v, w, run_append_owned_nil base t ty e i size c ht hi v n xs hown, by rw [List.append_nil]; exact hown, ⟨rfl, rfl, rfl, Nat.le_refl _, fun _ _ _ => rfl⟩, fun k hk => .inl hk⟩

theorem wpList_append_any {P : Program} {w : World} {ops : Array Oper} {rest : List Oper} {o : Oper} {a : Act} {Q : Exit → Act → World → Prop} (hgd : o.guard = none) (s x : Operand) (t : TypeId)
    (ho : o.op = .call { callee := .builtin .append, args := #[s, x], argTypes := #[t, t] })
    (base : Nat) (e : TypeId) (i : TypeInfo) (z : Value) (size bytes : Nat) (ht : P.underlying t = some (.slice e)) (hi : P.info? e = some i) (hz : i.zero = some z)
    (hsize : i.size = size) (hby : i.bytes = bytes) (hzs : z.cells.size = size) (hsz : 0 < size)
    (v : Value) (n : Nat) (xs : List Value) (hs : a.eval s = v) (hown : w.ownsRow base e size v n xs)
    (u : Value) (m : Nat) (news : List Value) (hx : a.eval x = u) (hu : Holds w u m news) (hl : news.length = m * size) (h1 : ∀ x ∈ news, x.oneCell' = true)
    (h63 : n + m ≤ maxLen) (hbytes : (n + m) * bytes ≤ 140737488355328) (hbase : base ≤ w.heap.size)
    (h : ∀ v' w', w'.ownsRow base e size v' (n + m) (xs ++ news) → w.grownBy w' v.ownBlock → (∀ k, v'.ownBlock = some k → v.ownBlock = some k ∨ w.heap.size ≤ k) → wpList P ops Q rest (a.put o.dst v') w') : wpList P ops Q (o :: rest) a w := by
  refine wpList_plain hgd fun K hK => ?_
  obtain ⟨v', w', hrun, h2, h3, h4⟩ := append_any (P := P) w base t o.type e i z size bytes ht hi hz hsize hby hzs hsz v n xs hown u m news hu hl h1 h63 hbytes hbase
  unfold Oper.wp
  simp [execOp, ho, resolve, invoke, builtin, hs, hx, hrun, Result.andThen]
  exact hK _ _ (h v' w' h2 h3 h4)

theorem ints_holds {w : World} {v : Value} {l : List Int} (h : IntsAt w v l) : Holds w v l.length (intCells l) := by
  obtain ⟨a, cap, rfl, hc⟩ := h
  cases a with
  | none =>
    have h0 : l = [] := by
      cases l with
      | nil => rfl
      | cons a l => obtain ⟨b, off, e, _⟩ := hc (by simp); cases e
    subst h0
    exact .inr ⟨cap, rfl, rfl, rfl⟩
  | some ad =>
    obtain ⟨_, h2⟩ := IntsAt.cells (w := w) (a := ad) (n := l.length) (cap := cap) (l := l) ⟨some ad, cap, rfl, hc⟩
    exact .inl ⟨ad, cap, rfl, h2⟩
end Go.Proofs.YtclhimodopgeoaaGreat

namespace Go.Proofs.YtclhimodopgeoaaGreat
open Go.RowKit
theorem IntsAt.shape {w : World} {v : Value} {l : List Int} (h : IntsAt w v l) : ∃ a c, v = .slice a l.length c := by
  obtain ⟨a, cap, rfl, _⟩ := h
  exact ⟨a, cap, rfl⟩
theorem AttrsAt.shape {w : World} {v : Value} {l : List (Int × Int)} (h : AttrsAt w v l) : ∃ a c, v = .slice a l.length c := by
  obtain ⟨a, cap, rfl, _⟩ := h
  exact ⟨a, cap, rfl⟩
def idxL (x : Int) : List Int → Nat
  | [] => 0
  | a :: l => if x == a then 0 else idxL x l + 1
def indexI (l : List Int) (x : Int) : Int := if idxL x l < l.length then (idxL x l : Int) else -1
theorem idxL_mem {x : Int} : ∀ {l : List Int}, x ∈ l → idxL x l < l.length
  | [], h => by simp at h
  | a :: l, h => by
    simp only [idxL]
    cases e : (x == a)
    · rcases List.mem_cons.mp h with rfl | h
      · simp at e
      · have := idxL_mem h
        simp; omega
    · simp
theorem idx_hit {x : Int} : ∀ {l : List Int} {k : Nat}, k < l.length → (∀ j, j < k → (x == l.getD j 0) = false) → (x == l.getD k 0) = true → idxL x l = k
  | [], k, h, _, _ => by simp at h
  | a :: l, 0, _, _, h => by
    have h : (x == a) = true := by simpa using h
    simp only [idxL, h, if_true]
  | a :: l, k + 1, h, hb, hk => by
    have h0 : (x == a) = false := by have := hb 0 (by omega); simpa using this
    simp only [idxL, h0, Bool.false_eq_true, if_false]
    rw [idx_hit (l := l) (k := k) (by simpa using h) (fun j hj => by have := hb (j + 1) (by omega); simpa using this) (by simpa using hk)]
theorem idx_miss {x : Int} : ∀ {l : List Int}, (∀ j, j < l.length → (x == l.getD j 0) = false) → idxL x l = l.length
  | [], _ => rfl
  | a :: l, hb => by
    have h0 : (x == a) = false := by have := hb 0 (by simp); simpa using this
    simp only [idxL, h0, Bool.false_eq_true, if_false]
    rw [idx_miss (l := l) (fun j hj => by have := hb (j + 1) (by simpa using hj); simpa using this)]
    simp
set_option maxRecDepth 100000 in
set_option maxHeartbeats 1000000 in
theorem sliceIndex_any (l : List Int) (v : Value) (x : Int) (w : World) (hI : IntsAt w v l) (hl : l.length ≤ 1000000) :
    Calls Tryz.prog 115 #[v, .int .i64 x] w fun e w' => e = .returned (.int .i64 (indexI l x)) ∧ w' = w := by
  obtain ⟨a, cap, rfl, hc⟩ := hI
  go_enter Tryz.func115, Tryz.ntmps115
  go_wp2_with fail
  go_loopw [8] (fun i wr => ∃ k : Nat, k ≤ l.length ∧ i = .int .i64 k ∧ wr = w ∧ ∀ j, j < k → (x == l.getD j 0) = false) (fun i _ => l.length - (intOf i).toNat)
  case atStart => exact ⟨0, Nat.zero_le _, rfl, rfl, fun j h => by omega⟩
  case round =>
    obtain ⟨k, hk, rfl, rfl, hno⟩ := hrel
    have HN := hideG hno
    clear hno
    by_cases hlt : k < l.length
    · obtain ⟨b, off, rfl, hd⟩ := hc (by omega)
      have c1 := hd k hlt
      clear hd hc
      cases hx : (x == l.getD k 0)
      · have HX := hideG hx
        generalize l.getD k 0 = y at hx c1
        go_wp2_with fail
        go_roundw
        case rel =>
          refine ⟨k + 1, by omega, by go_num, trivial, fun j hj => ?_⟩
          by_cases e : j = k
          · rw [e]; exact HX.out
          · exact HN.out j (by omega)
        case measure => simp [intOf]; omega
      · have HX := hideG (idx_hit hlt HN.out hx)
        generalize l.getD k 0 = y at hx c1
        go_wp2_with fail
        go_ret
        exact ⟨ret_int (by rw [indexI, HX.out, if_pos hlt]), rfl⟩
    · clear hc
      have hke : k = l.length := by omega
      subst hke
      go_wp2_with fail
      go_ret
      exact ⟨ret_int (by rw [indexI, idx_miss HN.out, if_neg (by omega)]), rfl⟩
theorem list_ext_getD {l m : List Int} (hl : l.length = m.length) (h : ∀ j, j < l.length → l.getD j 0 = m.getD j 0) : l = m := by
  apply List.ext_getElem hl
  intro j h1 h2
  have := h j h1
  simpa [List.getD_eq_getElem?_getD, List.getElem?_eq_getElem h1, List.getElem?_eq_getElem h2] using this
def smallB (T : List Nd) : Bool := decide (T.length ≤ 70) && T.all fun x => decide (x.kids.length ≤ 80) && decide (x.attrs.length ≤ 20)
theorem smallB_of {T : List Nd} (h : T.length ≤ 70) (hx : ∀ j, j < T.length → (nd T j).kids.length ≤ 80 ∧ (nd T j).attrs.length ≤ 20) : smallB T = true := by
  simp only [smallB, Bool.and_eq_true, decide_eq_true_eq, List.all_eq_true]
  refine ⟨h, fun x hm => ?_⟩
  obtain ⟨j, hj, rfl⟩ := List.mem_iff_getElem.mp hm
  have := hx j hj
  simpa [nd, List.getD_eq_getElem?_getD, List.getElem?_eq_getElem hj] using this
theorem smallB_at {T : List Nd} (h : smallB T = true) : T.length ≤ 70 ∧ ∀ j, j < T.length → (nd T j).kids.length ≤ 80 ∧ (nd T j).attrs.length ≤ 20 := by
  simp only [smallB, Bool.and_eq_true, decide_eq_true_eq, List.all_eq_true] at h
  refine ⟨h.1, fun j hj => ?_⟩
  have := h.2 T[j] (List.getElem_mem hj)
  simpa [nd, List.getD_eq_getElem?_getD, List.getElem?_eq_getElem hj] using this
theorem smallB_len {T : List Nd} (h : ¬ T.length ≤ 70) : smallB T = false := by simp [smallB]; omega
theorem smallB_bad {T : List Nd} {j : Nat} (hj : j < T.length) (h : ¬ ((nd T j).kids.length ≤ 80 ∧ (nd T j).attrs.length ≤ 20)) : smallB T = false := by
  cases hs : smallB T
  · rfl
  · exact absurd ((smallB_at hs).2 j hj) h
set_option maxRecDepth 100000 in
set_option maxHeartbeats 1000000 in
theorem refSmall_any (T : List Nd) (v : Value) (w : World) (hT : TreeAt w v T) :
    Calls Tryz.prog 42 #[v] w fun e w' => e = .returned (.bool (smallB T)) ∧ w' = w := by
  have HT : Hid (TreeAt w v T) := hT
  obtain ⟨a, cap, rfl, _⟩ := hT
  by_cases h70 : T.length ≤ 70
  · go_enter Tryz.func42, Tryz.ntmps42
    go_wp2_with fail
    go_loopw [3] (fun i wr => ∃ k : Nat, k ≤ T.length ∧ i = .int .i64 k ∧ wr = w ∧ (∀ j, j < k → (nd T j).kids.length ≤ 80 ∧ (nd T j).attrs.length ≤ 20)) (fun i _ => T.length - (intOf i).toNat)
    case atStart => exact ⟨0, Nat.zero_le _, rfl, rfl, fun j h => by omega⟩
    case round =>
      obtain ⟨k, hk, rfl, rfl, hEq⟩ := hrel
      have HE : Hid (∀ j, j < k → (nd T j).kids.length ≤ 80 ∧ (nd T j).attrs.length ≤ 20) := hEq
      clear hEq
      by_cases hlt : k < T.length
      · obtain ⟨b, off, cap', hv, hc⟩ := HT.out.at (by omega)
        obtain ⟨rfl, rfl⟩ : a = some ⟨b, off, none⟩ ∧ cap = cap' := by simpa using hv
        obtain ⟨kv, av, hN⟩ := hc k hlt
        have c3 := hN.kidsc
        have c6 := hN.attrsc
        obtain ⟨ka, kc, rfl, _⟩ := hN.kids
        obtain ⟨aa, ac, rfl, _⟩ := hN.attrs
        clear hN hc hv
        by_cases hk8 : (nd T k).kids.length ≤ 80
        · by_cases ha2 : (nd T k).attrs.length ≤ 20
          · go_wp2_with fail
            go_roundw
            case rel =>
              refine ⟨k + 1, by omega, by go_num, trivial, fun j hj => ?_⟩
              by_cases h : j = k
              · subst h; exact ⟨hk8, ha2⟩
              · exact HE.out j (by omega)
            case measure => simp [intOf]; omega
          · go_wp2_with fail
            go_ret
            exact ⟨ret_bool (Eq.symm (smallB_bad hlt (fun h => ha2 h.2))), rfl⟩
        · go_wp2_with fail
          go_ret
          exact ⟨ret_bool (Eq.symm (smallB_bad hlt (fun h => hk8 h.1))), rfl⟩
      · go_wp2_with fail
        go_ret
        refine ⟨ret_bool ?_, rfl⟩
        rw [smallB_of h70 (fun j hj => HE.out j (by omega))]
        simp; omega
  · go_enter Tryz.func42, Tryz.ntmps42
    go_wp2_with fail
    go_loopw [3] (fun i wr => i = .int .i64 0 ∧ wr = w) (fun _ _ => 0)
    case atStart => exact ⟨rfl, rfl⟩
    case round =>
      obtain ⟨rfl, rfl⟩ := hrel
      by_cases h0 : 0 < T.length
      · go_wp2_with fail
        go_ret
        refine ⟨ret_bool ?_, rfl⟩
        rw [smallB_len h70]
        simp; omega
      · omega
/-- No list of kids is long. -/
theorem fine_short {T : List Nd} (h : Fine T) {n : Nat} (hn : n < T.length) : (nd T n).kids.length ≤ 64 := by
  have hnd := h.nodup n hn
  have hk := h.kid n hn
  have h1 : ((nd T n).kids.map Int.toNat).Nodup := by
    have : ∀ l : List Int, l.Nodup → (∀ k ∈ l, 0 ≤ k) → (l.map Int.toNat).Nodup := by
      intro l hl hp
      induction l with
      | nil => simp
      | cons a l ih =>
        rw [List.nodup_cons] at hl
        rw [List.map_cons, List.nodup_cons]
        refine ⟨fun hm => ?_, ih hl.2 (fun k hk => hp k (List.mem_cons_of_mem _ hk))⟩
        obtain ⟨x, hx, he⟩ := List.mem_map.mp hm
        have h1 := hp a (List.mem_cons_self ..)
        have h2 := hp x (List.mem_cons_of_mem _ hx)
        have : x = a := by omega
        exact hl.1 (this ▸ hx)
    exact this _ hnd (fun k hk' => by
      obtain ⟨m, hm, _⟩ := isNodeB_true (hk k hk').1
      omega)
  have h2 := pigeon T.length _ h1 (fun x hx => by
    obtain ⟨k, hk', rfl⟩ := List.mem_map.mp hx
    obtain ⟨m, hm, hl⟩ := isNodeB_true (hk k hk').1
    omega)
  rw [List.length_map] at h2
  have := h.le
  omega
def HostP (T : List Nd) (n : Nat) : Prop := ((nd T n).kind ≠ 3 ∧ (nd T n).host = -1) ∨ ((nd T n).kind = 3 ∧ ∃ h : Nat, h < T.length ∧ (nd T n).host = (h : Int) ∧ (nd T h).kind = 1 ∧ (nd T h).root = (n : Int))
def RootP (T : List Nd) (n : Nat) : Prop := (nd T n).root = -1 ∨ ((nd T n).kind = 1 ∧ ∃ r : Nat, r < T.length ∧ (nd T n).root = (r : Int) ∧ (nd T r).kind = 3 ∧ (nd T r).host = (n : Int))
def KidP (T : List Nd) (p : Nat) (k : Int) : Prop := ∃ m : Nat, k = m ∧ m < T.length ∧ canBeKidB (nd T m).kind = true ∧ (nd T m).parent = (p : Int)
theorem hostP_iff {T : List Nd} {n : Nat} : hostFitsB T n = true ↔ HostP T n := by
  unfold hostFitsB HostP
  by_cases hk : (nd T n).kind = 3
  · rw [hk]
    simp only [bne_self_eq_false, Bool.false_eq_true, if_false, Bool.and_eq_true, beq_iff_eq]
    constructor
    · rintro ⟨⟨h1, h2⟩, h3⟩
      obtain ⟨m, hm, hl⟩ := isNodeB_true h1
      rw [hm, Int.toNat_natCast] at h2 h3
      exact .inr ⟨trivial, m, hl, hm, h2, h3⟩
    · rintro (⟨h, _⟩ | ⟨_, m, hl, hm, h2, h3⟩)
      · exact absurd rfl h
      · rw [hm, Int.toNat_natCast]
        exact ⟨⟨by simp [isNodeB]; omega, h2⟩, h3⟩
  · have e : ((nd T n).kind != 3) = true := by simpa using hk
    rw [e]
    simp only [if_true, beq_iff_eq]
    constructor
    · intro h; exact .inl ⟨hk, h⟩
    · rintro (⟨_, h⟩ | ⟨h, _⟩)
      · exact h
      · exact absurd h hk
theorem rootP_iff {T : List Nd} {n : Nat} : rootFitsB T n = true ↔ RootP T n := by
  unfold rootFitsB RootP
  by_cases hr : (nd T n).root = -1
  · rw [hr]; simp
  · by_cases hk : (nd T n).kind = 1
    · have e : ((nd T n).kind != 1 || (nd T n).root == -1) = false := by simp [hk, hr]
      rw [e]
      simp only [Bool.false_eq_true, if_false, Bool.and_eq_true, beq_iff_eq]
      constructor
      · rintro ⟨⟨h1, h2⟩, h3⟩
        obtain ⟨m, hm, hl⟩ := isNodeB_true h1
        rw [hm, Int.toNat_natCast] at h2 h3
        exact .inr ⟨hk, m, hl, hm, h2, h3⟩
      · rintro (h | ⟨_, m, hl, hm, h2, h3⟩)
        · exact absurd h hr
        · rw [hm, Int.toNat_natCast]
          exact ⟨⟨by simp [isNodeB]; omega, h2⟩, h3⟩
    · have e : ((nd T n).kind != 1 || (nd T n).root == -1) = true := by simp [hk]
      rw [e]
      simp only [if_true, beq_iff_eq]
      constructor
      · intro h; exact absurd h hr
      · rintro (h | ⟨h, _⟩)
        · exact h
        · exact absurd h hk
theorem kidP_iff {T : List Nd} {p : Nat} {k : Int} : kidFine T p k ↔ KidP T p k := by
  constructor
  · rintro ⟨h1, h2, h3⟩
    obtain ⟨m, rfl, hl⟩ := isNodeB_true h1
    rw [Int.toNat_natCast] at h2 h3
    exact ⟨m, rfl, hl, h2, h3⟩
  · rintro ⟨m, rfl, hl, h2, h3⟩
    exact ⟨by simp [isNodeB]; omega, by rwa [Int.toNat_natCast], by rwa [Int.toNat_natCast]⟩
/-- Two trees of the same nodes, but for kids and parents. -/
theorem fine_up {T : List Nd} (h : Fine T) {n m : Nat} (hn : n < T.length) (e : overI (nd T n) = (m : Int)) : m < T.length := by
  have hup := mayB_upOk (fine_mayB h)
  rcases hup n hn with h1 | h1
  · rw [e] at h1; simp at h1
  · rw [e] at h1
    obtain ⟨q, hq, hl⟩ := isNodeB_true h1
    omega
theorem over_parent {x : Nd} (h : x.kind ≠ 3) : overI x = x.parent := by
  unfold overI
  have : (x.kind == 3) = false := by simpa using h
  rw [this]; rfl
theorem kid_not_shadow {k : Int} (h : canBeKidB k = true) : k ≠ 3 := by
  rintro rfl
  exact absurd h (by decide)
theorem nd_mem {T : List Nd} {n : Nat} (h : n < T.length) : nd T n ∈ T := by
  unfold nd
  rw [List.getD_eq_getElem?_getD, List.getElem?_eq_getElem h]
  exact List.getElem_mem h
def shortB (T : List Nd) : Bool := T.all fun x => decide (x.kids.length ≤ 1000) && decide (x.attrs.length ≤ 1000)
theorem sane_of {T : List Nd} (h : shortB T = true) : Sane T := fun n hn => by
  have := List.all_eq_true.mp h _ (nd_mem hn)
  simp only [Bool.and_eq_true, decide_eq_true_eq] at this
  omega
theorem ints_new1 (w : World) (x : Int) : IntsAt (w.alloc (.cells #[.int .i64 x] 3)) (.slice (some ⟨w.heap.size, 0, none⟩) 1 1) [x] := by
  refine ⟨_, 1, rfl, fun _ => ⟨w.heap.size, 0, rfl, fun j hj => ?_⟩⟩
  match j, hj with
  | 0, _ => simp
theorem small_sane {T : List Nd} (h : smallB T = true) : Sane T := fun n hn => by have := (smallB_at h).2 n hn; omega
theorem fine_host {T : List Nd} (hF : Fine T) {n : Nat} (hn : n < T.length) (e : (nd T n).kind = 3) : ∃ h : Nat, h < T.length ∧ (nd T n).host = (h : Int) ∧ (nd T h).kind = 1 ∧ (nd T h).root = (n : Int) := by
  have h := hF.host n hn
  rw [hostFitsB, e] at h
  simp only [bne_self_eq_false, Bool.false_eq_true, if_false, Bool.and_eq_true, beq_iff_eq] at h
  obtain ⟨⟨h1, h2⟩, h3⟩ := h
  obtain ⟨m, hm, hl⟩ := isNodeB_true h1
  rw [hm, Int.toNat_natCast] at h2 h3
  exact ⟨m, hl, hm, h2, h3⟩
theorem refMay_walk (T : List Nd) (hS : Sane T) (v : Value) (w : World) (hT : TreeAt w v T) :
    Calls Tryz.prog 38 #[v] w fun e w' => e = .returned (.bool (mayB T)) ∧ Below w.heap.size w w' := by
  rw [← refMay_eq]; exact refMay_any T hS v w hT
theorem intCells_snoc (l : List Int) (x : Int) : intCells l ++ [.int .i64 x] = intCells (l ++ [x]) := by simp [intCells]
theorem row_new1 (w : World) (x : Int) : Holds (w.alloc (.cells #[.int .i64 x] 3)) (.slice (some ⟨w.heap.size, 0, none⟩) 1 1) 1 [.int .i64 x] := by
  refine .inl ⟨⟨w.heap.size, 0, none⟩, 1, rfl, fun j u hj => ?_⟩
  rw [addr_add, Nat.zero_add, World.cell?_alloc_at _ _ _ _ (by simp)]
  simpa using hj

end Go.Proofs.YtclhimodopgeoaaGreat

namespace Go.Proofs.YtclhimodopgeoaaGreat
open Go.RowKit Go.Shelf

/-- The block of the row whose slice stands in cell X. -/
def ownX (X : Nat) (W : World) : Option Nat := (W.cell? ⟨X, 0, none⟩).bind Value.ownBlock
theorem ownX_block {X : Nat} {A B : World} (h : B.heap[X]? = A.heap[X]?) : ownX X B = ownX X A := by
  unfold ownX; rw [World.cell?_of_block (a := ⟨X, 0, none⟩) h]

/-- All lies as it lay, but what E names, and the row of X; that row is the old one, or new. -/
structure Kd (E : Nat → Prop) (X : Nat) (A B : World) : Prop where
  os : B.os = A.os
  tape : B.tape = A.tape
  output : B.output = A.output
  size : A.heap.size ≤ B.heap.size
  block : ∀ k, k < A.heap.size → ¬ E k → ownX X A ≠ some k → B.heap[k]? = A.heap[k]?
  own : ∀ g, ownX X B = some g → ownX X A = some g ∨ (A.heap.size ≤ g ∧ g < B.heap.size)

variable {E E' : Nat → Prop} {X : Nat} {A B C : World}
theorem Kd.refl (E : Nat → Prop) (X : Nat) (A : World) : Kd E X A A := ⟨rfl, rfl, rfl, Nat.le_refl _, fun _ _ _ _ => rfl, fun _ h => .inl h⟩
theorem Kd.trans (h : Kd E X A B) (k : Kd E X B C) : Kd E X A C := by
  refine ⟨k.os.trans h.os, k.tape.trans h.tape, k.output.trans h.output, Nat.le_trans h.size k.size, fun j hj he ho => ?_, fun g hg => ?_⟩
  · have h1 := h.block j hj he ho
    refine (k.block j (Nat.lt_of_lt_of_le hj h.size) he (fun e => ?_)).trans h1
    rcases h.own j e with e' | ⟨e', _⟩
    · exact ho e'
    · omega
  · have s1 := h.size
    have s2 := k.size
    rcases k.own g hg with e | ⟨e1, e2⟩
    · rcases h.own g e with e | ⟨e1, e2⟩
      · exact .inl e
      · exact .inr ⟨e1, by omega⟩
    · exact .inr ⟨by omega, e2⟩
theorem Kd.mono (h : Kd E X A B) (he : ∀ k, E k → E' k) : Kd E' X A B := ⟨h.os, h.tape, h.output, h.size, fun k hk hn ho => h.block k hk (fun e => hn (he k e)) ho, h.own⟩
theorem Kd.putObj (W : World) {l : Nat} (o : Obj) (hl : E l) (hX : l ≠ X) : Kd E X W (W.putObj l o) := by
  have hb : ∀ k, k ≠ l → (W.putObj l o).heap[k]? = W.heap[k]? := fun k hk => World.putObj_heap_other hk
  refine ⟨rfl, rfl, rfl, by simp, fun k _ he _ => hb k (fun e => he (e ▸ hl)), fun g hg => .inl ?_⟩
  rw [ownX_block (hb X (fun e => hX e.symm))] at hg
  exact hg
theorem Kd.alloc (W : World) (o : Obj) (hX : X < W.heap.size) : Kd E X W (W.alloc o) := by
  have hb := (Below.refl W.heap.size W).alloc (Nat.le_refl _) o
  refine ⟨hb.os, hb.tape, hb.output, hb.size, fun k hk _ _ => hb.block k hk, fun g hg => .inl ?_⟩
  rw [ownX_block (hb.block X hX)] at hg
  exact hg
/-- What lies in a block that no round touches. -/
def Held (E : Nat → Prop) (X : Nat) (W : World) (k : Nat) : Prop := k < W.heap.size ∧ ¬ E k ∧ ownX X W ≠ some k
theorem Held.kd {k : Nat} (h : Held E X A k) (hk : Kd E X A B) : Held E X B k := by
  refine ⟨Nat.lt_of_lt_of_le h.1 hk.size, h.2.1, fun e => ?_⟩
  rcases hk.own k e with e' | ⟨e', _⟩
  · exact h.2.2 e'
  · have := h.1; omega
theorem Held.cell {k o : Nat} {v : Value} (h : Held E X A k) (hk : Kd E X A B) (hc : A.cell? ⟨k, o, none⟩ = some v) : B.cell? ⟨k, o, none⟩ = some v :=
  (World.cell?_of_block (a := ⟨k, o, none⟩) (hk.block k h.1 h.2.1 h.2.2)).trans hc
theorem Kd.below {b0 : Nat} (h : Kd E X A B) (hE : ∀ k, E k → b0 ≤ k) (ho : ∀ g, ownX X A = some g → b0 ≤ g) (hs : b0 ≤ A.heap.size) : Below b0 A B :=
  ⟨h.os, h.tape, h.output, h.size, fun k hk => h.block k (by omega) (fun e => by have := hE k e; omega) (fun e => by have := ho k e; omega)⟩
theorem kd_own {β : Type} {w : World} (hX : X < w.heap.size) : OwnFrom w.heap.size (fun (_ : β) W => Kd E X w W) := by
  intro s W W' row h hg hr
  have hne : ∀ k, k < w.heap.size → some k ≠ row := fun k hk e => by have := (hr k e.symm).1; omega
  have hb : ∀ k, k < w.heap.size → W'.heap[k]? = W.heap[k]? := fun k hk => hg.block k (Nat.lt_of_lt_of_le hk h.size) (hne k hk)
  have hs := hg.size
  refine ⟨hg.os.trans h.os, hg.tape.trans h.tape, hg.output.trans h.output, Nat.le_trans h.size hs, fun k hk he ho => (hb k hk).trans (h.block k hk he ho), fun g hg' => ?_⟩
  rw [ownX_block (hb X hX)] at hg'
  rcases h.own g hg' with e | ⟨e1, e2⟩
  · exact .inl e
  · exact .inr ⟨e1, by omega⟩

/-- What an iterator does for every loop whose rounds touch no more than that. -/
def DeepSeq {α : Type} (P : Program) (gf : Nat) (lb : Array Value) (encs : α → Array Value) (X M : Nat) (E : Nat → Prop) (xs : List α) (W : World) : Prop :=
  ∀ (m l : Nat) (J Jx : List α → World → Prop), OwnFrom M J → OwnFrom M Jx →
    (∀ (m : Nat) (pre : List α) (x : α) (W1 : World), J pre W1 → pre.length < xs.length → YieldAt Fence.wide m P l (encs x) W1 fun e W' =>
      (e = .returned (.bool true) ∧ J (pre ++ [x]) W' ∧ Kd E X W1 W') ∨ (e = .returned (.bool false) ∧ Jx (pre ++ [x]) W' ∧ Kd E X W1 W')) →
    J [] W → CallsIn Fence.wide m P gf (#[.func (.yield l) #[] #[]] ++ lb) W fun e W' => (∃ v, e = .returned v) ∧ (J xs W' ∨ ∃ pre, pre <+: xs ∧ Jx pre W')

/-- How a round's body may be left. -/
def deepPost {α : Type} (E : Nat → Prop) (X : Nat) (I : List α → World → Prop) (Ix : Code → List α → World → Prop) (xs : List α) (W : World) : Exit → Act → World → Prop
  | .normal, _, W' => Kd E X W W' ∧ I xs W'
  | .ret, _, W' => Kd E X W W' ∧ Ix .ret xs W'
  | .exit id, _, W' => Kd E X W W' ∧ Ix (.exit id) xs W'
  | _, _, _ => False

theorem range_deep {P : Program} {α : Type} {g : Operand} {ps : Array Tmp} {assign body : Code} {Q : Exit → Act → World → Prop} {a : Act} {w : World} {n : Nat}
    {gf : Nat} {lb : Array Value} (hg : a.eval g = .func (.func gf) #[] lb) (eg : ∀ args w, (callFunc gf args).run P w = .ok (.enter gf args) w)
    (encs : α → Array Value) (hps : ∀ x, (encs x).size = ps.size) (X : Nat) (E : Nat → Prop) (hE : ∀ k, E k → k < w.heap.size) (hX : X < w.heap.size) (hXo : ∀ g, ownX X w = some g → g < w.heap.size)
    (xs : List α) (hseq : ∀ W1, Below w.heap.size w W1 → W1.heap.size = w.heap.size + 2 → DeepSeq P gf lb encs X (w.heap.size + 2) (fun k => E k ∨ k = w.heap.size + 1) xs W1)
    (I : List α → World → Prop) (Ix : Code → List α → World → Prop) (hI : OwnFrom w.heap.size I) (hIx : ∀ c, OwnFrom w.heap.size (Ix c)) (h0 : I [] w) (a₁ : α → Act)
    (hassign : ∀ (l m : Nat) (x : α) (W : World) (K : Act → World → Prop), K (a₁ x) W →
      assign.wpIn (Fence.wide.inRound l) m P (Exit.then K (fun _ _ _ => False)) { tmps := (ps.zip (encs x)).foldl (fun t (p, v) => t.setIfInBounds p v) a.tmps, defers := [] } W)
    (hbody : ∀ (l m : Nat) (pre : List α) (x : α) (W : World), I pre W → pre.length < xs.length → body.wpIn (Fence.wide.inRound l) m P (deepPost E X I Ix (pre ++ [x]) W) (a₁ x) W)
    (hdone : ∀ (W : World), I xs W → W.heap[w.heap.size]? = some (.deferred (some [])) → ownX X W ≠ some w.heap.size → Q .normal { a with defers := { target := .collected w.heap.size, args := #[] } :: a.defers } W)
    (hstop : ∀ (c : Code) (pre : List α) (W : World), pre <+: xs → Ix c pre W → W.heap[w.heap.size]? = some (.deferred (some [])) → ownX X W ≠ some w.heap.size → c.wpIn Fence.wide n P Q { a with defers := { target := .collected w.heap.size, args := #[] } :: a.defers } W) :
    (Code.rangeFunc g ps assign body).wpIn Fence.wide n P Q a w := by
  refine wpIn_rangeFunc ?_
  intro fn hfn
  obtain ⟨rec, hrec⟩ : ∃ rec : LoopState → Option Code → Loop, rec = fun st pe => { state := st, pending := pe, fn, tmps := a.tmps, params := ps, assign, body, defers := w.heap.size } := ⟨_, rfl⟩
  obtain ⟨W1, hW1⟩ : ∃ W1, (w.alloc (.deferred (some []))).alloc (.loop (rec .ready none)) = W1 := ⟨_, rfl⟩
  have hB1 : Below w.heap.size w W1 := by
    rw [← hW1]; exact ((Below.refl _ w).alloc (Nat.le_refl _) _).alloc (by simp) _
  have hs1 : W1.heap.size = w.heap.size + 2 := by rw [← hW1]; simp
  have hL1 : W1.heap[w.heap.size + 1]? = some (.loop (rec .ready none)) := by
    rw [← hW1]
    have := World.alloc_heap_new (w.alloc (.deferred (some []))) (.loop (rec .ready none))
    rwa [World.size_alloc] at this
  have hD1 : W1.heap[w.heap.size]? = some (.deferred (some [])) := by
    rw [← hW1]; exact (Below.heap_alloc _ _ _ (by simp)).trans (World.alloc_heap_new w _)
  have hI1 : I [] W1 := by rw [← hW1]; exact hI.alloc _ (hI.alloc _ h0)
  have hX1 : ownX X W1 = ownX X w := ownX_block (hB1.block X hX)
  have hLX : w.heap.size + 1 ≠ X := by omega
  have hj : ∀ {K : List α → World → Prop} (r : Loop), OwnFrom w.heap.size K → OwnFrom (w.heap.size + 2) (fun pre W => K pre W ∧ W.heap[w.heap.size + 1]? = some (.loop r) ∧ W.heap[w.heap.size]? = some (.deferred (some [])) ∧ ownX X W ≠ some (w.heap.size + 1) ∧ ownX X W ≠ some w.heap.size) := by
    intro K r hK s W W' row h hgr hr
    obtain ⟨h1, h2, h3, h4, h5⟩ := h
    have hlt : w.heap.size + 1 < W.heap.size := (Array.getElem?_eq_some_iff.1 h2).1
    have hb : ∀ k, k < w.heap.size + 2 → W'.heap[k]? = W.heap[k]? := fun k hk => hgr.block k (by omega) (fun e => by have := (hr k e.symm).1; omega)
    refine ⟨hK s W W' row h1 hgr (fun r e => ⟨by have := (hr r e).1; omega, (hr r e).2⟩), (hb _ (by omega)).trans h2, (hb _ (by omega)).trans h3, ?_, ?_⟩
    · rw [ownX_block (hb X (by omega))]; exact h4
    · rw [ownX_block (hb X (by omega))]; exact h5
  have hjx : OwnFrom (w.heap.size + 2) (fun pre W => ∃ c, Ix c pre W ∧ W.heap[w.heap.size + 1]? = some (.loop (rec .done (some c))) ∧ W.heap[w.heap.size]? = some (.deferred (some [])) ∧ ownX X W ≠ some (w.heap.size + 1) ∧ ownX X W ≠ some w.heap.size) := by
    rintro s W W' row ⟨c, h⟩ hgr hr
    exact ⟨c, hj _ (hIx c) s W W' row h hgr hr⟩
  refine ⟨w.heap.size + 1, [{ target := .collected w.heap.size, args := #[] }], W1, { target := .fn (.func gf) lb, args := #[.func (.yield (w.heap.size + 1)) #[] #[]] }, W1, gf,
    #[.func (.yield (w.heap.size + 1)) #[] #[]] ++ lb, W1, ?_, ?_, fun _ _ => trivial, ?_, fun h => (by cases h), ?_⟩
  · rw [← hW1, hrec]; exact run_enterLoop_outer _ _ _ _ _
  · simp only [resolve, hg]
    simp [go_sem]
  · simp [invoke, go_sem, eg]
  · refine (hseq W1 hB1 hs1 (n - 1) (w.heap.size + 1) _ _ (hj (rec .ready none) hI) hjx ?_ ⟨hI1, hL1, hD1, ?_, ?_⟩).mono ?_
    · rintro m pre x W ⟨hi, hl, hd, ho1, ho2⟩ hlen
      have hlt : w.heap.size + 1 < W.heap.size := (Array.getElem?_eq_some_iff.1 hl).1
      have hy := run_yield (P := P) (args := encs x) hl (by rw [hrec]; exact hps x)
      rw [hrec] at hy
      refine ⟨fn, _, assign, body, hy, roundIn_of_wpIn hfn (hassign _ _ x W _ ⟨_, run_beginRound hl (by rw [hrec]), ?_⟩)⟩
      obtain ⟨W2, hW2⟩ : ∃ W2, W.putObj (w.heap.size + 1) (.loop { rec .ready none with state := .busy }) = W2 := ⟨_, rfl⟩
      have hl2 : W2.heap[w.heap.size + 1]? = some (.loop { rec .ready none with state := .busy }) := by rw [← hW2]; exact World.putObj_heap_same hlt
      have hd2 : W2.heap[w.heap.size]? = some (.deferred (some [])) := by rw [← hW2]; exact (World.putObj_heap_other (by omega)).trans hd
      have hs2 : w.heap.size + 1 < W2.heap.size := (Array.getElem?_eq_some_iff.1 hl2).1
      have hx2 : ownX X W2 = ownX X W := by rw [← hW2]; exact ownX_block (World.putObj_heap_other (by omega))
      have hk2 : Kd (fun k => E k ∨ k = w.heap.size + 1) X W W2 := by rw [← hW2]; exact Kd.putObj W _ (.inr rfl) hLX
      have hi2 : I pre W2 := by rw [← hW2]; exact hI.putObj _ hi (by omega) hl rfl
      rw [hW2]
      refine wpIn_mono (hbody _ _ pre x W2 hi2 hlen) ?_
      have fin : ∀ (jump : Option Code) (W3 : World), Kd E X W2 W3 → W3.heap[w.heap.size + 1]? = some (.loop { rec .ready none with state := .busy }) ∧
          (Instr.endRound (w.heap.size + 1) jump).run P W3 = .ok (.bool jump.isNone) (W3.putObj (w.heap.size + 1) (.loop (rec (if jump.isNone then .ready else .done) jump))) ∧
          ((W3.putObj (w.heap.size + 1) (.loop (rec (if jump.isNone then .ready else .done) jump))).heap[w.heap.size + 1]? = some (.loop (rec (if jump.isNone then .ready else .done) jump)) ∧
          (W3.putObj (w.heap.size + 1) (.loop (rec (if jump.isNone then .ready else .done) jump))).heap[w.heap.size]? = some (.deferred (some [])) ∧
          ownX X (W3.putObj (w.heap.size + 1) (.loop (rec (if jump.isNone then .ready else .done) jump))) ≠ some (w.heap.size + 1) ∧ ownX X (W3.putObj (w.heap.size + 1) (.loop (rec (if jump.isNone then .ready else .done) jump))) ≠ some w.heap.size) ∧
          Kd (fun k => E k ∨ k = w.heap.size + 1) X W (W3.putObj (w.heap.size + 1) (.loop (rec (if jump.isNone then .ready else .done) jump))) := fun jump W3 hk3 => by
        have keep : ∀ k, k = w.heap.size + 1 ∨ k = w.heap.size → W3.heap[k]? = W2.heap[k]? ∧ ownX X W3 ≠ some k := fun k hk => by
          have ho : ownX X W2 ≠ some k := by rw [hx2]; rcases hk with rfl | rfl <;> assumption
          refine ⟨hk3.block k (by omega) (fun e => by have := hE k e; omega) ho, fun e => ?_⟩
          rcases hk3.own k e with e' | ⟨e', _⟩
          · exact ho e'
          · omega
        have hl3 := (keep _ (.inl rfl)).1.trans hl2
        have hd3 := (keep _ (.inr rfl)).1.trans hd2
        have hr := run_endRound (P := P) jump hl3
        rw [hrec] at hr
        have hxx : ∀ o, ownX X (W3.putObj (w.heap.size + 1) o) = ownX X W3 := fun o => ownX_block (World.putObj_heap_other (by omega))
        refine ⟨hl3, by rw [hrec]; exact hr, ⟨World.putObj_heap_same (Array.getElem?_eq_some_iff.1 hl3).1, (World.putObj_heap_other (by omega)).trans hd3, ?_, ?_⟩, ?_⟩
        · rw [hxx]; exact (keep _ (.inl rfl)).2
        · rw [hxx]; exact (keep _ (.inr rfl)).2
        · exact (hk2.trans (hk3.mono (fun _ h => .inl h))).trans (Kd.putObj W3 _ (.inr rfl) hLX)
      rintro e a3 W3 hp
      cases e with
      | normal =>
        obtain ⟨hk3, hi3⟩ := hp
        obtain ⟨hl3, hr, h4, h5⟩ := fin none W3 hk3
        exact ⟨_, _, hr, .inl ⟨rfl, ⟨hI.putObj _ hi3 (by omega) hl3 rfl, h4⟩, h5⟩⟩
      | ret =>
        obtain ⟨hk3, hi3⟩ := hp
        obtain ⟨hl3, hr, h4, h5⟩ := fin (some .ret) W3 hk3
        exact ⟨_, _, hr, .inr ⟨rfl, ⟨.ret, (hIx _).putObj _ hi3 (by omega) hl3 rfl, h4⟩, h5⟩⟩
      | exit id =>
        obtain ⟨hk3, hi3⟩ := hp
        obtain ⟨hl3, hr, h4, h5⟩ := fin (some (.exit id)) W3 hk3
        exact ⟨_, _, hr, .inr ⟨rfl, ⟨.exit id, (hIx _).putObj _ hi3 (by omega) hl3 rfl, h4⟩, h5⟩⟩
      | goto t => exact hp.elim
      | panic ch => exact hp.elim
      | outgrown => exact hp.elim
    · rw [hX1]; intro e; have := hXo _ e; omega
    · rw [hX1]; intro e; have := hXo _ e; omega
    · have fin : ∀ (W : World) (o : Obj), W.heap[w.heap.size]? = some (.deferred (some [])) → ownX X W ≠ some w.heap.size → (W.putObj (w.heap.size + 1) o).heap[w.heap.size]? = some (.deferred (some [])) ∧ ownX X (W.putObj (w.heap.size + 1) o) ≠ some w.heap.size := fun W o h1 h2 =>
        ⟨(World.putObj_heap_other (by omega)).trans h1, by rw [ownX_block (World.putObj_heap_other (by omega))]; exact h2⟩
      rintro e W2 ⟨⟨v, rfl⟩, (⟨hi, hl, hk, _, ho⟩ | ⟨pre, hSp, c, hi, hl, hk, _, ho⟩)⟩
      · refine ⟨none, _, (by have := run_endLoop (P := P) hl (by rw [hrec]; simp); rw [hrec] at this; exact this), ?_⟩
        exact hdone _ (hI.putObj _ hi (by omega) hl rfl) (fin _ _ hk ho).1 (fin _ _ hk ho).2
      · refine ⟨some c, _, (by have := run_endLoop (P := P) hl (by rw [hrec]; simp); rw [hrec] at this; exact this), ?_⟩
        exact hstop c pre _ hSp ((hIx c).putObj _ hi (by omega) hl rfl) (fin _ _ hk ho).1 (fin _ _ hk ho).2

/-- A frame that leaves with several marks: each block is open still. -/
theorem leaves_marks {P : Program} {F : Fence} {n : Nat} {fn : Func} {tmps : Array Value} {R : Ending → World → Prop} (K : World → Prop) : ∀ (Ds : List Nat) (w : World), Ds.Nodup → (∀ D ∈ Ds, w.heap[D]? = some (.deferred (some []))) →
    (∀ (D : Nat) (w : World), D ∈ Ds → w.heap[D]? = some (.deferred (some [])) → K w → K (w.putObj D (.deferred none))) → K w → (∀ w, K w → LeavesInM F n P fn tmps R [] .returning w) →
    LeavesInM F n P fn tmps R (Ds.map fun D => { target := .collected D, args := #[] }) .returning w
  | [], w, _, _, _, hK, hf => hf w hK
  | D :: Ds, w, hn, ho, hs, hK, hf => by
    obtain ⟨h1, h2⟩ := List.nodup_cons.mp hn
    have hD := ho D (List.mem_cons_self ..)
    refine ⟨by simp, .inl ⟨D, _, rfl, run_takeDeferred hD, ?_⟩⟩
    refine leaves_marks K Ds _ h2 (fun D' hD' => ?_) (fun D' w' hD' => hs D' w' (List.mem_cons_of_mem _ hD')) (hs D w (List.mem_cons_self ..) hD hK) hf
    exact (World.putObj_heap_other (fun e => by subst e; exact h1 hD')).trans (ho D' (List.mem_cons_of_mem _ hD'))
end Go.Proofs.YtclhimodopgeoaaGreat

namespace Go.Proofs.YtclhimodopgeoaaGreat
open Go.RowKit

/-- All above a node. -/
def upsL (T : List Nd) (n : Nat) : List Nat := ups T T.length n
theorem upsL_none {T : List Nd} {n : Nat} (h : (overI (nd T n) == -1) = true) : upsL T n = [] := ups_none h
theorem upsL_some {T : List Nd} (hm : mayB T = true) {n m : Nat} (hn : n < T.length) (h : overI (nd T n) = (m : Int)) : upsL T n = m :: upsL T m ∧ m < T.length := by
  have hup := mayB_upOk hm
  have hml := fine_up (mayB_fine hm) hn h
  have hl : hasLoopB T = false := by
    rw [mayB] at hm
    simp only [Bool.and_eq_true] at hm
    simpa using hm.2.2.2.2
  have e1 := ends_of_noLoop hup hl hn
  have hne : (overI (nd T n) == -1) = false := by rw [h]; simp
  refine ⟨?_, hml⟩
  unfold upsL
  rw [← ups_stable hup hn e1 (T.length + 1) (by omega), ups, hne, h]
  simp

end Go.Proofs.YtclhimodopgeoaaGreat

namespace Go.Proofs.YtclhimodopgeoaaGreat
open Go.RowKit Go.Shelf

attribute [local go_sem] Oper.semAt_some

def parsF (T : List Nd) : Nat → Nat → List Nat
  | 0, _ => []
  | m + 1, n => n :: (if (nd T n).parent == -1 then [] else parsF T m (nd T n).parent.toNat)
/-- A node, its parent, that one's parent, and so on. -/
def pars (T : List Nd) (n : Nat) : List Nat := parsF T (T.length + 1) n

theorem fine_shadow_parent {T : List Nd} (h : Fine T) {n : Nat} (hn : n < T.length) (hk : (nd T n).kind = 3) : (nd T n).parent = -1 := by
  rcases h.par n hn with e | ⟨p, hp, e, hm⟩
  · exact e
  · obtain ⟨m, e1, _, hkk, _⟩ := kidP_iff.mp (h.kid p hp _ hm)
    obtain rfl : n = m := by omega
    exact absurd hk (kid_not_shadow hkk)
theorem over_of_parent {T : List Nd} (h : Fine T) {n m : Nat} (hn : n < T.length) (e : (nd T n).parent = (m : Int)) : overI (nd T n) = (m : Int) := by
  by_cases hk : (nd T n).kind = 3
  · rw [fine_shadow_parent h hn hk] at e; omega
  · rw [over_parent hk]; exact e
theorem parent_cases {T : List Nd} (h : Fine T) {n : Nat} (hn : n < T.length) : (((nd T n).parent == -1) = true) ∨ (((nd T n).parent == -1) = false ∧ ∃ m : Nat, m < T.length ∧ (nd T n).parent = (m : Int)) := by
  rcases h.par n hn with e | ⟨p, hp, e, _⟩
  · exact .inl (by simp [e])
  · exact .inr ⟨by simp [e], p, hp, e⟩

theorem upsL_le (T : List Nd) (n : Nat) : (upsL T n).length ≤ T.length := by
  have : ∀ k n, (ups T k n).length ≤ k := fun k => by
    induction k with
    | zero => intro n; simp [ups]
    | succ k ih =>
      intro n
      rw [ups]
      split
      · simp
      · have := ih (overI (nd T n)).toNat
        simp; omega
  exact this _ _
theorem parsF_stable {T : List Nd} (hm : mayB T = true) : ∀ {k n : Nat}, n < T.length → (upsL T n).length < k → ∀ j, k ≤ j → parsF T j n = parsF T k n
  | 0, n, _, h, _, _ => by omega
  | k + 1, n, hn, h, j, hj => by
    obtain ⟨j, rfl⟩ : ∃ j', j = j' + 1 := ⟨j - 1, by omega⟩
    rw [parsF, parsF]
    rcases parent_cases (mayB_fine hm) hn with e | ⟨e, m, hml, hpm⟩
    · rw [e]; rfl
    · rw [e, hpm, Int.toNat_natCast]
      have hs := (upsL_some hm hn (over_of_parent (mayB_fine hm) hn hpm)).1
      rw [hs, List.length_cons] at h
      rw [parsF_stable hm hml (k := k) (by omega) j (by omega)]
theorem pars_none {T : List Nd} {n : Nat} (h : ((nd T n).parent == -1) = true) : pars T n = [n] := by
  rw [pars, parsF, h]; rfl
theorem pars_some {T : List Nd} (hm : mayB T = true) {n m : Nat} (hn : n < T.length) (h : (nd T n).parent = (m : Int)) : pars T n = n :: pars T m := by
  have hov := upsL_some hm hn (over_of_parent (mayB_fine hm) hn h)
  have hne : ((nd T n).parent == -1) = false := by rw [h]; simp
  have hle := upsL_le T n
  rw [hov.1, List.length_cons] at hle
  rw [pars, parsF, hne, h, Int.toNat_natCast, pars, parsF_stable hm hov.2 (k := T.length) (by omega) (T.length + 1) (by omega)]
  rfl
theorem parsF_len (T : List Nd) : ∀ (k n : Nat), (parsF T k n).length ≤ k
  | 0, _ => by simp [parsF]
  | k + 1, n => by
    rw [parsF]
    split
    · simp
    · have := parsF_len T k (nd T n).parent.toNat
      simp; omega
theorem pars_le (T : List Nd) (n : Nat) : (pars T n).length ≤ T.length + 1 := parsF_len T _ n
theorem pars_ne (T : List Nd) (n : Nat) : pars T n ≠ [] := by rw [pars, parsF]; simp
theorem oup_in (a : Option Addr) (len cap : Nat) (n : Int) (m : Nat) (w : World) :
    CallsIn Fence.wide m Tryz.prog 186 #[.slice a len cap, .int .i64 n] w fun e w' => e = .returned (.func (.func 194) #[] #[.pointer (some ⟨w.heap.size + 1, 0, none⟩), .pointer (some ⟨w.heap.size, 0, none⟩)]) ∧ w' = (w.alloc (.cells #[.slice a len cap] 23)).alloc (.cells #[.int .i64 n] 3) := by
  refine callsIn_of_wp Tryz.func186 rfl trivial ?_ rfl
  simp only [Tryz.ntmps186, List.size_toArray, List.length_cons, List.length_nil, Nat.reduceAdd, Nat.reduceSub, Array.replicate_succ, Array.replicate_zero, List.push_toArray, List.append_toArray, List.nil_append, List.cons_append]
  gi_wp2
  go_ret
  exact ⟨rfl, rfl⟩

/-- Blocks below N are what they were, but for block X. -/
structure But (N X : Nat) (A B : World) : Prop where
  size : A.heap.size ≤ B.heap.size
  block : ∀ k, k < N → k ≠ X → B.heap[k]? = A.heap[k]?
theorem But.refl (N X : Nat) (A : World) : But N X A A := ⟨Nat.le_refl _, fun _ _ _ => rfl⟩
theorem But.trans {N X : Nat} {A B C : World} (h : But N X A B) (k : But N X B C) : But N X A C := ⟨Nat.le_trans h.size k.size, fun j hj hx => (k.block j hj hx).trans (h.block j hj hx)⟩
theorem But.of_below {N X K : Nat} {A B : World} (h : Below K A B) (hK : N ≤ K) : But N X A B := ⟨h.size, fun j hj _ => h.block j (by omega)⟩
theorem But.cell {N X : Nat} {A B : World} (h : But N X A B) {b o : Nat} (hb : b < N) (hx : b ≠ X) : B.cell? ⟨b, o, none⟩ = A.cell? ⟨b, o, none⟩ := World.cell?_of_block (a := ⟨b, o, none⟩) (h.block b hb hx)
theorem But.setCell {N X o : Nat} {A B : World} (h : But N X A B) (u : Value) : But N X A (B.setCell ⟨X, o, none⟩ u) :=
  ⟨by simpa using h.size, fun j hj hx => (heap_setCell_other B ⟨X, o, none⟩ j u (fun e => hx e)).trans (h.block j hj hx)⟩
theorem but_b {N X : Nat} {w : World} (hn : N ≤ w.heap.size) (W : World) (l : Nat) (o o' : Obj) (hl : w.heap.size ≤ l) (h : W.heap[l]? = some o) (hc : o.isCells = false) (hw : o.isWalk = false) : But N X W (W.putObj l o') :=
  But.of_below (belowK_b hn W l o o' hl h hc hw) (Nat.le_refl _)
theorem TreeAt.but {w A B : World} {v : Value} {T : List Nd} {N X : Nat} (h : TreeAt w v T) (hA : Below w.heap.size w A) (hb : But N X A B) (hN : w.heap.size ≤ N) (hX : w.heap.size ≤ X) : TreeAt B v T :=
  by
    obtain ⟨a, cap, rfl, hc⟩ := h
    have key : ∀ {b o : Nat} {u : Value}, w.cell? ⟨b, o, none⟩ = some u → B.cell? ⟨b, o, none⟩ = some u := fun {b o u} hu => by
      have hlt : b < w.heap.size := below_of_cell hu
      rw [hb.cell (by omega) (by omega)]
      exact cell_below hA hu
    refine ⟨a, cap, rfl, fun h0 => ?_⟩
    obtain ⟨b, off, rfl, hd⟩ := hc h0
    refine ⟨b, off, rfl, fun n hn => ?_⟩
    obtain ⟨kv, av, g0, g1, g2, g3, g4, g5, g6, gk, ga⟩ := hd n hn
    refine ⟨kv, av, key g0, key g1, key g2, key g3, key g4, key g5, key g6, ?_, ?_⟩
    · obtain ⟨a, cap, rfl, hk⟩ := gk
      refine ⟨a, cap, rfl, fun h0 => ?_⟩
      obtain ⟨b, off, rfl, hd⟩ := hk h0
      exact ⟨b, off, rfl, fun j hj => key (hd j hj)⟩
    · obtain ⟨a, cap, rfl, hk⟩ := ga
      refine ⟨a, cap, rfl, fun h0 => ?_⟩
      obtain ⟨b, off, rfl, hd⟩ := hk h0
      exact ⟨b, off, rfl, fun j hj => ⟨key (hd j hj).1, key (hd j hj).2⟩⟩

/-- What the iterator reads, however the world has turned. -/
def Reads (R : World → World → Prop) (w2 : World) (v : Value) (T : List Nd) (n : Nat) (Bn Bt : Nat) : Prop :=
  ∀ W, R w2 W → TreeAt W v T ∧ W.cell? ⟨Bn, 0, none⟩ = some (.int .i64 (n : Int)) ∧ W.cell? ⟨Bt, 0, none⟩ = some v

set_option maxRecDepth 100000 in
set_option maxHeartbeats 2000000 in
theorem oup1_in (T : List Nd) (hm : mayB T = true) (v : Value) (n : Nat) (hn : n < T.length) (l Bn Bt : Nat) (w2 : World) (R : World → World → Prop) (hRt : ∀ {A B C : World}, R A B → R B C → R A C) (hF : Reads R w2 v T n Bn Bt)
    (hv : ∃ b off cap, v = .slice (some ⟨b, off, none⟩) T.length cap) (J Jx : List Nat → World → Prop)
    (hY : ∀ pre x W, J pre W → pre.length < T.length + 1 → YieldAt Fence.wide 4 Tryz.prog l #[.int .i64 ((x : Nat) : Int)] W fun e W' =>
      (e = .returned (.bool true) ∧ J (pre ++ [x]) W' ∧ R W W') ∨ (e = .returned (.bool false) ∧ Jx (pre ++ [x]) W'))
    (W : World) (hW : R w2 W) (h0 : J [] W) :
    CallsIn Fence.wide 5 Tryz.prog 194 #[.func (.yield l) #[] #[], .pointer (some ⟨Bn, 0, none⟩), .pointer (some ⟨Bt, 0, none⟩)] W fun e W' => (∃ v, e = .returned v) ∧
      ((∃ ys, ys = pars T n ∧ J ys W') ∨ (∃ pre, pre <+: pars T n ∧ Jx pre W')) := by
  obtain ⟨b, off, cap, rfl⟩ := hv
  have cBn := (hF W hW).2.1
  have HF : Hid (Reads R w2 (.slice (some ⟨b, off, none⟩) T.length cap) T n Bn Bt) := hF
  have HM : Hid (mayB T = true) := hm
  have hpos := mayB_pos hm
  clear hF hm
  refine callsIn_of_wp Tryz.func194 rfl trivial ?_ rfl
  simp only [Tryz.ntmps194, List.size_toArray, List.length_cons, List.length_nil, Nat.reduceAdd, Nat.reduceSub, Array.replicate_succ, Array.replicate_zero, List.push_toArray, List.append_toArray, List.nil_append, List.cons_append]
  gi_wp2
  gi_loopw [4] (fun t wr => ∃ pre : List Nat, J pre wr ∧ R w2 wr ∧ ((∃ at_ : Nat, at_ < T.length ∧ t = .int .i64 (at_ : Int) ∧ pars T n = pre ++ pars T at_) ∨ (t = .int .i64 (-1) ∧ pars T n = pre)))
    (fun t _ => if intOf t = -1 then 0 else (upsL T (intOf t).toNat).length + 1)
  case atStart => exact ⟨[], h0, hW, .inl ⟨n, hn, rfl, rfl⟩⟩
  case round =>
    obtain ⟨pre, hJs, hB, hrel⟩ := hrel
    rcases hrel with ⟨at_, hat, rfl, hpars⟩ | ⟨rfl, hpars⟩
    · have HP : Hid (pars T n = pre ++ pars T at_) := hpars
      clear hpars cBn
      have hat1 : ((at_ : Int) != -1) = true := by simp
      have hlenp : pre.length < T.length + 1 := by
        have h1 := pars_le T n
        have h2 := List.length_pos_iff.mpr (pars_ne T at_)
        rw [HP.out, List.length_append] at h1
        omega
      obtain ⟨fn, tmps, assign, body, hy, hR⟩ := hY pre at_ _ hJs hlenp
      gi_wp2
      refine hR.mono ?_
      rintro e W3 (⟨rfl, hJ3, hk3⟩ | ⟨rfl, hJx3⟩)
      · have hB3 := hRt hB hk3
        obtain ⟨hT3, _, cBt'⟩ := HF.out W3 hB3
        obtain ⟨b', off', cap', hv', hc⟩ := hT3.at (by omega)
        simp only [Value.slice.injEq, Option.some.injEq, Addr.mk.injEq, and_true, true_and] at hv'
        obtain ⟨⟨rfl, rfl⟩, rfl⟩ := hv'
        obtain ⟨kv, av, hN⟩ := hc at_ hat
        have g2 := hN.parent
        clear hN hc hT3
        rcases parent_cases (mayB_fine HM.out) hat with e | ⟨e, m, hml, hpm⟩
        · have hpe : (nd T at_).parent = -1 := by simpa using e
          rw [hpe] at g2
          have HQ := hideG (pars_none e)
          clear e hpe
          gi_wp2
          go_roundw
          case rel => exact ⟨pre ++ [at_], hJ3, hB3, .inr ⟨rfl, by rw [HP.out, HQ.out]⟩⟩
          case measure =>
            have h2 : ¬ ((at_ : Int) = -1) := by omega
            simp [intOf, h2]
        · rw [hpm] at g2
          have HQ := hideG (pars_some HM.out hat hpm)
          have HL := hideG (upsL_some HM.out hat (over_of_parent (mayB_fine HM.out) hat hpm)).1
          clear e hpm
          gi_wp2
          go_roundw
          case rel => exact ⟨pre ++ [at_], hJ3, hB3, .inl ⟨m, hml, rfl, by rw [HP.out, HQ.out]; simp⟩⟩
          case measure =>
            have h2 : ¬ ((at_ : Int) = -1) := by omega
            simp only [intOf, if_neg h2, Int.toNat_natCast, HL.out]
            simp
      · gi_wp2
        refine bodyPost_ret (results_none rfl _ _ _) rfl ?_
        refine ⟨⟨_, rfl⟩, .inr ⟨pre ++ [at_], ?_, hJx3⟩⟩
        rw [HP.out]
        have : ∃ r, pars T at_ = at_ :: r := by rw [pars, parsF]; exact ⟨_, rfl⟩
        obtain ⟨r, hr⟩ := this
        exact ⟨r, by rw [hr]; simp⟩
    · gi_wp2
      go_end0
      exact ⟨⟨_, rfl⟩, .inl ⟨pre, hpars.symm, hJs⟩⟩

theorem oup_stops (T : List Nd) (hm : mayB T = true) (v : Value) (n : Nat) (hn : n < T.length) (Bn Bt : Nat) (w2 : World) (R : World → World → Prop) (hRt : ∀ {A B C : World}, R A B → R B C → R A C) (hR0 : ∀ W, Below w2.heap.size w2 W → R w2 W) (hF : Reads R w2 v T n Bn Bt)
    (hv : ∃ b off cap, v = .slice (some ⟨b, off, none⟩) T.length cap) :
    SeqStopsK Fence.wide 5 Tryz.prog 194 #[.pointer (some ⟨Bn, 0, none⟩), .pointer (some ⟨Bt, 0, none⟩)] (fun x : Nat => #[Value.int .i64 (x : Int)]) R (fun ys => ys = pars T n) (fun pre => pre <+: pars T n) (T.length + 1) w2 :=
  fun l J Jx W hW _ _ hY h0 => oup1_in T hm v n hn l Bn Bt w2 R hRt hF hv J Jx hY W (hR0 W hW) h0
end Go.Proofs.YtclhimodopgeoaaGreat
namespace Go.Proofs.YtclhimodopgeoaaGreat
open Go.RowKit Go.Shelf

attribute [local go_sem] Oper.semAt_some

def knownB (T : List Nd) (l : List Int) : Bool := mayB T && l.all (isNodeB T.length)

set_option maxRecDepth 100000 in
set_option maxHeartbeats 2000000 in
theorem known_any (T : List Nd) (hS : Sane T) (v : Value) (l : List Int) (u : Value) (w : World) (hT : TreeAt w v T) (hI : IntsAt w u l) (hl : l.length ≤ 1000) :
    Calls Tryz.prog 168 #[v, u] w fun e w' => e = .returned (.bool (knownB T l)) ∧ Below w.heap.size w w' := by
  obtain ⟨a, cap, rfl⟩ := hT.shape
  have HT := hideG hT
  have HS := hideG hS
  obtain ⟨ua, uc, rfl, hc⟩ := hI
  have HC := hideG hc
  clear hT hS hc
  cases hm : mayB T
  · have hck : checkE T = 1 := by simp only [checkE, hm, Bool.false_eq_true, if_false]
    have HK := hideG (show knownB T l = false by simp [knownB, hm])
    go_enter Tryz.func168, Tryz.ntmps168
    go_wp2_with (go_at_call 63; refine (check_any T HS.out _ _ HT.out).mono ?_; rintro e w1 ⟨rfl, hb1⟩)
    go_ret
    exact ⟨ret_bool HK.out.symm, hb1⟩
  · have hck : checkE T = 0 := by simp only [checkE, hm, if_true]
    have hpos := mayB_pos hm
    go_enter Tryz.func168, Tryz.ntmps168
    go_wp2_with (go_at_call 63; refine (check_any T HS.out _ _ HT.out).mono ?_; rintro e w1 ⟨rfl, hb1⟩)
    have HB1 := hideG hb1
    clear hb1
    go_loopw [12] (fun i wr => ∃ k : Nat, k ≤ l.length ∧ i = .int .i64 k ∧ wr = w1 ∧ ∀ j, j < k → isNodeB T.length (l.getD j 0) = true) (fun i _ => l.length - (intOf i).toNat)
    case atStart => exact ⟨0, Nat.zero_le _, rfl, rfl, fun j h => by omega⟩
    case round =>
      obtain ⟨k, hk, rfl, rfl, hall⟩ := hrel
      have HA := hideG hall
      clear hall
      by_cases hlt : k < l.length
      · obtain ⟨b, off, rfl, hd⟩ := HC.out (by omega)
        have c1 := cell_below HB1.out (hd k hlt)
        clear hd
        have hmem : l.getD k 0 ∈ l := by
          rw [List.getD_eq_getElem?_getD, List.getElem?_eq_getElem hlt]; exact List.getElem_mem hlt
        cases hx : isNodeB T.length (l.getD k 0)
        · have HK := hideG (show knownB T l = false by
            rw [knownB, hm, Bool.true_and]
            cases h : l.all (isNodeB T.length)
            · rfl
            · rw [List.all_eq_true.mp h _ hmem] at hx; cases hx)
          generalize l.getD k 0 = x at *
          have hor : x < 0 ∨ (¬ x < 0 ∧ (T.length : Int) ≤ x) := by
            simp only [isNodeB, Bool.and_eq_false_iff, decide_eq_false_iff_not] at hx
            omega
          rcases hor with h1 | ⟨h1, h2⟩
          all_goals
            go_wp2_with fail
            go_ret
            exact ⟨ret_bool HK.out.symm, HB1.out⟩
        · have HX := hideG hx
          have hx' := hx
          generalize hg : l.getD k 0 = x at *
          have HG := hideG hg
          simp only [isNodeB, Bool.and_eq_true, decide_eq_true_eq] at hx'
          have h1 : ¬ x < 0 := by omega
          have h2 : ¬ (T.length : Int) ≤ x := by omega
          clear hx hx' hg
          go_wp2_with fail
          go_roundw
          case rel =>
            refine ⟨k + 1, by omega, by go_num, trivial, fun j hj => ?_⟩
            by_cases e : j = k
            · rw [e, HG.out]; exact HX.out
            · exact HA.out j (by omega)
          case measure => simp [intOf]; omega
      · have HK := hideG (show knownB T l = true by
          rw [knownB, hm, Bool.true_and, List.all_eq_true]
          intro x hx
          obtain ⟨j, hj, rfl⟩ := List.getElem_of_mem hx
          have := HA.out j (by omega)
          rwa [List.getD_eq_getElem?_getD, List.getElem?_eq_getElem hj] at this)
        go_wp2_with fail
        go_ret
        exact ⟨ret_bool HK.out.symm, HB1.out⟩

/-- The last one of a node's parents. -/
def topN (T : List Nd) (n : Nat) : Nat := (pars T n).getLastD n

set_option maxRecDepth 100000 in
set_option maxHeartbeats 2000000 in
theorem last_in (T : List Nd) (hm : mayB T = true) (v : Value) (n : Nat) (hn : n < T.length) (w : World) (hT : TreeAt w v T) :
    CallsIn Fence.wide 6 Tryz.prog 169 #[v, .int .i64 n] w fun e W' => e = .returned (.int .i64 (topN T n : Int)) ∧ Below w.heap.size w W' := by
  obtain ⟨b, off, cap, hv, hc⟩ := hT.at (by omega)
  clear hc
  have HT : Hid (TreeAt w v T) := hT
  clear hT
  subst hv
  refine callsIn_of_wp_marks Tryz.func169 rfl trivial ?_ rfl
  simp only [Tryz.ntmps169, List.size_toArray, List.length_cons, List.length_nil, Nat.reduceAdd, Nat.reduceSub, Array.replicate_succ, Array.replicate_zero, List.push_toArray, List.append_toArray, List.nil_append, List.cons_append]
  gi_wp2_with (refine ⟨trivial, ?_⟩; gi_at_call 186; refine (oup_in _ _ _ _ _ _).mono ?_; rintro e w' ⟨rfl, rfl⟩)
  have c0 := cell_new_l w (.int .i64 (n : Int)) 3
  have c1 := cell_new_l (w.alloc (.cells #[.int .i64 (n : Int)] 3)) (.slice (some ⟨b, off, none⟩) T.length cap) 23
  have c2 := cell_new_l ((w.alloc (.cells #[.int .i64 (n : Int)] 3)).alloc (.cells #[.slice (some ⟨b, off, none⟩) T.length cap] 23)) (.int .i64 (n : Int)) 3
  simp only [World.size_alloc] at c1 c2
  have hB0 : Below w.heap.size w (((w.alloc (.cells #[.int .i64 (n : Int)] 3)).alloc (.cells #[.slice (some ⟨b, off, none⟩) T.length cap] 23)).alloc (.cells #[.int .i64 (n : Int)] 3)) :=
    (((Below.refl _ w).alloc (Nat.le_refl _) _).alloc (by simp) _).alloc (by simp; omega) _
  have hsz : (((w.alloc (.cells #[.int .i64 (n : Int)] 3)).alloc (.cells #[.slice (some ⟨b, off, none⟩) T.length cap] 23)).alloc (.cells #[.int .i64 (n : Int)] 3)).heap.size = w.heap.size + 1 + 1 + 1 := by simp
  have hF : Reads (But (((w.alloc (.cells #[.int .i64 (n : Int)] 3)).alloc (.cells #[.slice (some ⟨b, off, none⟩) T.length cap] 23)).alloc (.cells #[.int .i64 (n : Int)] 3)).heap.size w.heap.size) (((w.alloc (.cells #[.int .i64 (n : Int)] 3)).alloc (.cells #[.slice (some ⟨b, off, none⟩) T.length cap] 23)).alloc (.cells #[.int .i64 (n : Int)] 3)) (.slice (some ⟨b, off, none⟩) T.length cap) T n (w.heap.size + 1 + 1) (w.heap.size + 1) := fun W hW => ⟨HT.out.but hB0 hW (by omega) (Nat.le_refl _), (hW.cell (by omega) (by omega)).trans c2.1, (hW.cell (by omega) (by omega)).trans (cell_alloc_l _ c1.1)⟩
  refine wpIn_rangeFunc_ownF rfl (by omega) (gf := 194) (lb := #[.pointer (some ⟨w.heap.size + 1 + 1, 0, none⟩), .pointer (some ⟨w.heap.size + 1, 0, none⟩)]) rfl trivial (enters_of Tryz.func194 (by kernel_rfl) rfl)
    (oup_stops T hm _ n hn (w.heap.size + 1 + 1) (w.heap.size + 1) _ (But (((w.alloc (.cells #[.int .i64 (n : Int)] 3)).alloc (.cells #[.slice (some ⟨b, off, none⟩) T.length cap] 23)).alloc (.cells #[.int .i64 (n : Int)] 3)).heap.size w.heap.size) But.trans (fun W hW => But.of_below hW (Nat.le_refl _)) hF ⟨b, off, cap, rfl⟩) But.trans (but_b (Nat.le_refl _)) (Below.refl _ _) (fun _ => rfl)
    (fun pre W => (W.cell? ⟨w.heap.size, 0, none⟩ = some (.int .i64 ((pre.getLastD n : Nat) : Int)) ∧ W.frozen? ⟨w.heap.size, 0, none⟩ = false) ∧ Below w.heap.size w W)
    (fun _ _ _ => False)
    (OwnFrom.and (Own.from (fun s A B row hs hg hr => ⟨cell_kept hs.1 hg hr, (frozen_kept hs.1 hg hr).trans hs.2⟩) _) (ownFrom_below (Nat.le_refl _) (by simp; omega)))
    (fun c => fun s A B row hs _ _ => hs.elim)
    ⟨⟨cell_alloc_l _ (cell_alloc_l _ c0.1), frozen_alloc_l _ (cell_alloc_l _ c0.1) (frozen_alloc_l _ c0.1 c0.2)⟩, hB0⟩
    (fun x => { tmps := #[.slice (some ⟨b, off, none⟩) T.length cap, .int .i64 (n : Int), undef, undef, .int .i64 0, .pointer (some ⟨w.heap.size, 0, none⟩), .int .i64 (x : Int), .int .i64 (n : Int), .slice (some ⟨b, off, none⟩) T.length cap, .int .i64 (n : Int),
      .func (.func 194) #[] #[.pointer (some ⟨w.heap.size + 1 + 1, 0, none⟩), .pointer (some ⟨w.heap.size + 1, 0, none⟩)], .int .i64 (x : Int), undef, undef], defers := [] }) ?assign ?body ?done ?stop
  case assign =>
    intro l x W K hK
    gi_wp2
    exact hK
  case body =>
    rintro l pre x W ⟨⟨hc, hf⟩, hB⟩ _
    gi_wp2
    refine ⟨KeepsOthers.setCell _ _ _, (But.refl _ _ W).setCell _, ⟨?_, by rw [World.frozen?_setCell]; exact hf⟩, hB.setCell (p := ⟨w.heap.size, 0, none⟩) (by simp) _⟩
    rw [World.cell?_setCell_same' _ _ _ (by rw [hc]; rfl)]
    simp
  case done =>
    rintro D ys W hD rfl ⟨⟨hc, hf⟩, hB⟩ hK
    gi_wp2
    refine ⟨by simp, .inl ⟨_, _, rfl, run_takeDeferred hK, ?_⟩⟩
    refine ⟨.int .i64 (topN T n : Int), ?_, rfl, hB.trans (belowK_b (w := w) (Nat.le_refl _) _ D _ _ (by simp at hD; omega) hK rfl rfl)⟩
    simp [results, Tryz.f169, go_sem, topN]
  case stop =>
    rintro D c pre W hD hpre h hK
    exact h.elim

theorem last_any (T : List Nd) (hm : mayB T = true) (v : Value) (n : Nat) (hn : n < T.length) (w : World) (hT : TreeAt w v T) :
    Calls Tryz.prog 169 #[v, .int .i64 n] w fun e W' => e = .returned (.int .i64 (topN T n : Int)) ∧ Below w.heap.size w W' := callsIn_wide.1 (last_in T hm v n hn w hT)

/-- order.Top: of a tree that may be, and a node of it; else -1. -/
def topI (T : List Nd) (n : Int) : Int := if knownB T [n] then (topN T n.toNat : Int) else -1

set_option maxRecDepth 100000 in
set_option maxHeartbeats 2000000 in
theorem orderTop_any (T : List Nd) (hS : Sane T) (v : Value) (n : Int) (w : World) (hT : TreeAt w v T) :
    Calls Tryz.prog 146 #[v, .int .i64 n] w fun e w' => e = .returned (.int .i64 (topI T n)) ∧ Below w.heap.size w w' := by
  obtain ⟨a, cap, rfl⟩ := hT.shape
  have HA := hideG ((Below.refl _ w).alloc (Nat.le_refl _) (.cells #[.int .i64 n] 3))
  have HT := hideG (hT.below HA.out)
  have HT0 := hideG hT
  have HS := hideG hS
  clear hT hS
  cases hk : knownB T [n]
  · have HQ := hideG (show topI T n = -1 by simp [topI, hk])
    go_enter Tryz.func146, Tryz.ntmps146
    go_wp2_with (go_at_call 168; refine (known_any T HS.out _ [n] _ _ HT.out (ints_new1 _ _) (by simp)).mono ?_; rintro e w1 ⟨rfl, hb1⟩; simp only [World.size_alloc] at hb1)
    go_ret
    exact ⟨ret_int HQ.out.symm, HA.out.trans (hb1.mono (by omega))⟩
  · have hk' := hk
    simp only [knownB, List.all_cons, List.all_nil, Bool.and_true, Bool.and_eq_true] at hk'
    obtain ⟨hm, hi⟩ := hk'
    obtain ⟨m, rfl, hml⟩ := isNodeB_true hi
    have HQ := hideG (show topI T m = (topN T m : Int) by simp [topI, hk])
    have HM := hideG hm
    clear hm hi
    go_enter Tryz.func146, Tryz.ntmps146
    go_wp2_with (first | (go_at_call 168; refine (known_any T HS.out _ [(m : Int)] _ _ HT.out (ints_new1 _ _) (by simp)).mono ?_; rintro e w1 ⟨rfl, hb1⟩; simp only [World.size_alloc] at hb1; have HB1 := hideG (HA.out.trans (hb1.mono (by omega))); clear hb1) | (go_at_call 169; refine (last_any T HM.out _ m hml _ (HT0.out.below HB1.out)).mono ?_; rintro e w2 ⟨rfl, hb2⟩; have HB2 := hideG (HB1.out.trans (hb2.mono HB1.out.size)); clear hb2))
    go_ret
    exact ⟨ret_int HQ.out.symm, HB2.out⟩
end Go.Proofs.YtclhimodopgeoaaGreat
namespace Go.Proofs.YtclhimodopgeoaaGreat
open Go.RowKit Go.Shelf

attribute [local go_sem] Oper.semAt_some

def natCells (l : List Nat) : List Value := intCells (l.map fun (x : Nat) => (x : Int))
theorem natCells_snoc (l : List Nat) (x : Nat) : natCells l ++ [.int .i64 (x : Int)] = natCells (l ++ [x]) := by simp [natCells, intCells]

/-- A row that nobody writes stays, whatever the book-keeping does. -/
theorem ownsRow_walk {A B : World} {base : Nat} {e : TypeId} {size : Nat} {v : Value} {n : Nat} {xs : List Value} {row : Option Nat} (h : A.ownsRow base e size v n xs) (hg : A.grownBy B row) (hr : ∀ r, row = some r → ∃ o : Obj, A.heap[r]? = some o ∧ o.isCells = false) : B.ownsRow base e size v n xs := by
  refine h.kept hg ?_
  rcases h.2 with ⟨rfl, _⟩ | ⟨g, cap, cur, rfl, _, hcur, _⟩
  · exact .inl rfl
  · right
    intro e'
    obtain ⟨o, ho, hc⟩ := hr g e'.symm
    rw [hcur] at ho
    injection ho with ho
    subst ho
    simp [Obj.isCells] at hc

end Go.Proofs.YtclhimodopgeoaaGreat
namespace Go.Proofs.YtclhimodopgeoaaGreat
open Go.RowKit

theorem topN_none {T : List Nd} {n : Nat} (h : ((nd T n).parent == -1) = true) : topN T n = n := by rw [topN, pars_none h]; rfl
theorem topN_some {T : List Nd} (hm : mayB T = true) {n m : Nat} (hn : n < T.length) (h : (nd T n).parent = (m : Int)) : topN T n = topN T m := by
  rw [topN, pars_some hm hn h, topN]
  have : ∃ r, pars T m = m :: r := by rw [pars, parsF]; exact ⟨_, rfl⟩
  obtain ⟨r, hr⟩ := this
  rw [hr]
  cases r <;> simp [List.getLastD]
theorem fine_nohost {T : List Nd} (h : Fine T) {n : Nat} (hn : n < T.length) (hk : (nd T n).kind ≠ 3) : (nd T n).host = -1 := by
  rcases hostP_iff.mp (h.host n hn) with ⟨_, e⟩ | ⟨e, _⟩
  · exact e
  · exact absurd e hk

/-- All above a node are its parents, and, if the last one is a shadow, its host and all above that. -/
theorem sup_split {T : List Nd} (hm : mayB T = true) : ∀ {n : Nat}, n < T.length → topN T n < T.length ∧ (∃ i, pars T n = i ++ [topN T n]) ∧
    (((nd T (topN T n)).kind ≠ 3 ∧ (nd T (topN T n)).host = -1 ∧ n :: upsL T n = pars T n) ∨ ((nd T (topN T n)).kind = 3 ∧ ∃ h : Nat, h < T.length ∧ (nd T (topN T n)).host = (h : Int) ∧ n :: upsL T n = pars T n ++ (h :: upsL T h))) := by
  intro n hn
  generalize hk : (upsL T n).length = k
  induction k using Nat.strongRecOn generalizing n with
  | _ k ih =>
    have hF := mayB_fine hm
    rcases parent_cases hF hn with e | ⟨e, m, hml, hpm⟩
    · have hp : (nd T n).parent = -1 := by simpa using e
      rw [topN_none e, pars_none e]
      refine ⟨hn, ⟨[], rfl⟩, ?_⟩
      by_cases h3 : (nd T n).kind = 3
      · obtain ⟨h, hl, h1, _, _⟩ := fine_host hF hn h3
        have ho : overI (nd T n) = (h : Int) := by unfold overI; rw [h3]; exact h1
        exact .inr ⟨h3, h, hl, h1, by rw [(upsL_some hm hn ho).1]; rfl⟩
      · have ho : (overI (nd T n) == -1) = true := by rw [over_parent h3, hp]; rfl
        exact .inl ⟨h3, fine_nohost hF hn h3, by rw [upsL_none ho]⟩
    · have hov := over_of_parent hF hn hpm
      have hs := (upsL_some hm hn hov).1
      obtain ⟨h1, ⟨i, h2⟩, h3⟩ := ih (upsL T m).length (by rw [← hk, hs]; simp) hml rfl
      rw [topN_some hm hn hpm, pars_some hm hn hpm, hs]
      refine ⟨h1, ⟨n :: i, by rw [h2]; rfl⟩, ?_⟩
      rcases h3 with ⟨a1, a2, a3⟩ | ⟨a1, h, a2, a3, a4⟩
      · exact .inl ⟨a1, a2, by rw [a3]⟩
      · exact .inr ⟨a1, h, a2, a3, by rw [a4]; rfl⟩
def castL (l : List Nat) : List Int := l.map fun (x : Nat) => (x : Int)
theorem castL_append (a b : List Nat) : castL (a ++ b) = castL a ++ castL b := by simp [castL]
theorem castL_length (a : List Nat) : (castL a).length = a.length := by simp [castL]
/-- shade.Up. -/
def supI (T : List Nd) (n : Int) : List Int := if knownB T [n] then castL (n.toNat :: upsL T n.toNat) else []

theorem known_one {T : List Nd} {n : Int} (h : knownB T [n] = true) : mayB T = true ∧ ∃ m : Nat, n = m ∧ m < T.length := by
  simp only [knownB, List.all_cons, List.all_nil, Bool.and_true, Bool.and_eq_true] at h
  exact ⟨h.1, isNodeB_true h.2⟩
theorem known_of {T : List Nd} (hm : mayB T = true) {n : Nat} (hn : n < T.length) : knownB T [(n : Int)] = true := by
  simp only [knownB, hm, List.all_cons, List.all_nil, Bool.and_true, Bool.true_and, isNodeB, Bool.and_eq_true, decide_eq_true_eq]
  omega

def containsB (l : List Int) (x : Int) : Bool := decide (x ∈ l)
theorem index_ge {l : List Int} {x : Int} : decide (0 ≤ indexI l x) = containsB l x := by
  unfold indexI containsB
  by_cases h : x ∈ l
  · have := idxL_mem h
    rw [if_pos this]
    simp [h]
  · have : ¬ idxL x l < l.length := fun hlt => h (by
      have : ∀ l : List Int, idxL x l < l.length → x ∈ l := by
        intro l
        induction l with
        | nil => intro h; simp at h
        | cons a l ih =>
          intro h
          simp only [idxL] at h
          cases e : (x == a)
          · rw [e] at h; simp at h; exact List.mem_cons_of_mem _ (ih h)
          · have : x = a := by simpa using e
            rw [this]; exact List.mem_cons_self ..
      exact this l hlt)
    rw [if_neg this]
    simp [h]

set_option maxHeartbeats 800000 in
theorem contains_any (l : List Int) (v : Value) (x : Int) (w : World) (hI : IntsAt w v l) (hl : l.length ≤ 1000000) :
    Calls Tryz.prog 73 #[v, .int .i64 x] w fun e w' => e = .returned (.bool (containsB l x)) ∧ w' = w := by
  obtain ⟨a, cap, rfl⟩ := hI.shape
  have H := hideG hI
  have HQ := hideG (index_ge (l := l) (x := x))
  clear hI
  go_enter Tryz.func73, Tryz.ntmps73
  go_wp2_with (go_at_call 115; refine (sliceIndex_any l _ _ _ H.out hl).mono ?_; rintro e w1 ⟨rfl, rfl⟩)
  go_ret
  exact ⟨ret_bool HQ.out, rfl⟩

end Go.Proofs.YtclhimodopgeoaaGreat
namespace Go.Proofs.YtclhimodopgeoaaGreat
open Go.RowKit

def aboveS (T : List Nd) (a b : Int) : Bool := containsB (supI T b) a
def hostS (T : List Nd) (n : Int) : Int := if knownB T [n] then (nd T (topN T n.toNat)).host else -1

def retF (T : List Nd) (H : List Int) : Nat → Nat → Nat
  | 0, a => a
  | k + 1, a => if (nd T (topN T a)).kind != 3 || containsB H (topN T a) then a else retF T H k (nd T (topN T a)).host.toNat
def ret (T : List Nd) (H : List Int) (a : Nat) : Nat := retF T H (T.length + 1) a
end Go.Proofs.YtclhimodopgeoaaGreat
namespace Go.Proofs.YtclhimodopgeoaaGreat
open Go.RowKit

end Go.Proofs.YtclhimodopgeoaaGreat
namespace Go.Proofs.YtclhimodopgeoaaGreat
open Go.RowKit

def slF (T : List Nd) : Nat → Nat → List Nat
  | 0, _ => []
  | k + 1, n => n :: ((if (nd T n).root == -1 then [] else slF T k (nd T n).root.toNat) ++ (nd T n).kids.flatMap fun x => slF T k x.toNat)
/-- A node, all in its shadow, all below its kids. -/
def sl (T : List Nd) (n : Nat) : List Nat := slF T (T.length + 1) n

theorem over_kid {T : List Nd} (h : Fine T) {n : Nat} (hn : n < T.length) {x : Int} (hx : x ∈ (nd T n).kids) : ∃ m : Nat, x = m ∧ m < T.length ∧ overI (nd T m) = (n : Int) := by
  obtain ⟨m, rfl, hml, hk, hp⟩ := kidP_iff.mp (h.kid n hn x hx)
  exact ⟨m, rfl, hml, by rw [over_parent (kid_not_shadow hk)]; exact hp⟩
theorem over_root {T : List Nd} (h : Fine T) {n : Nat} (hn : n < T.length) (hr : ((nd T n).root == -1) = false) : ∃ m : Nat, (nd T n).root = m ∧ m < T.length ∧ overI (nd T m) = (n : Int) := by
  rcases rootP_iff.mp (h.root n hn) with e | ⟨_, r, hrl, e, hk, hh⟩
  · rw [e] at hr; simp at hr
  · exact ⟨r, e, hrl, by unfold overI; rw [hk]; exact hh⟩

theorem slF_stable {T : List Nd} (hm : mayB T = true) : ∀ {k n : Nat}, n < T.length → T.length < k + (upsL T n).length → ∀ j, k ≤ j → slF T j n = slF T k n
  | 0, n, _, h, _, _ => by have := upsL_le T n; omega
  | k + 1, n, hn, h, j, hj => by
    obtain ⟨j, rfl⟩ : ∃ j', j = j' + 1 := ⟨j - 1, by omega⟩
    have hF := mayB_fine hm
    have step : ∀ m : Nat, m < T.length → overI (nd T m) = (n : Int) → slF T j m = slF T k m := fun m hml ho => by
      have hs := (upsL_some hm hml ho).1
      refine slF_stable hm hml ?_ j (by omega)
      rw [hs, List.length_cons]; omega
    rw [slF, slF]
    congr 1
    congr 1
    · cases hr : ((nd T n).root == -1)
      · obtain ⟨m, e, hml, ho⟩ := over_root hF hn hr
        rw [e, Int.toNat_natCast, step m hml ho]
      · rfl
    · rw [List.flatMap_def, List.flatMap_def]
      congr 1
      apply List.map_congr_left
      intro x hx
      obtain ⟨m, rfl, hml, ho⟩ := over_kid hF hn hx
      rw [Int.toNat_natCast, step m hml ho]
theorem sl_eq {T : List Nd} (hm : mayB T = true) {n : Nat} (hn : n < T.length) : sl T n = n :: ((if (nd T n).root == -1 then [] else sl T (nd T n).root.toNat) ++ (nd T n).kids.flatMap fun x => sl T x.toNat) := by
  have hF := mayB_fine hm
  have step : ∀ m : Nat, m < T.length → overI (nd T m) = (n : Int) → slF T T.length m = sl T m := fun m hml ho => by
    have hs := (upsL_some hm hml ho).1
    refine (slF_stable hm hml ?_ (T.length + 1) (by omega)).symm
    rw [hs, List.length_cons]; omega
  rw [sl, slF]
  congr 1
  congr 1
  · cases hr : ((nd T n).root == -1)
    · obtain ⟨m, e, hml, ho⟩ := over_root hF hn hr
      rw [e, Int.toNat_natCast, step m hml ho]
    · rfl
  · rw [List.flatMap_def, List.flatMap_def]
    congr 1
    apply List.map_congr_left
    intro x hx
    obtain ⟨m, rfl, hml, ho⟩ := over_kid hF hn hx
    rw [Int.toNat_natCast, step m hml ho]

theorem flat_take {l : List Int} {k : Nat} (h : k < l.length) (f : Int → List Nat) : (l.take (k + 1)).flatMap f = (l.take k).flatMap f ++ f (l.getD k 0) := by
  rw [List.take_add_one, List.getElem?_eq_getElem h, List.flatMap_append, List.getD_eq_getElem?_getD, List.getElem?_eq_getElem h]
  simp
theorem flat_le {l : List Int} (k : Nat) (f : Int → List Nat) : ((l.take k).flatMap f).length ≤ (l.flatMap f).length := by
  conv => rhs; rw [← List.take_append_drop k l, List.flatMap_append, List.length_append]
  omega

end Go.Proofs.YtclhimodopgeoaaGreat
namespace Go.Proofs.YtclhimodopgeoaaGreat
open Go.RowKit

def slI (T : List Nd) (n : Int) : List Int := if knownB T [n] then castL (sl T n.toNat) else []

end Go.Proofs.YtclhimodopgeoaaGreat

namespace Go.Proofs.YtclhimodopgeoaaGreat
open Go.RowKit Go.Shelf

attribute [local go_sem] Oper.semAt_some

def dnF (T : List Nd) : Nat → Nat → List Nat
  | 0, _ => []
  | k + 1, n => n :: (nd T n).kids.flatMap fun x => dnF T k x.toNat
/-- A node, and all below its kids. -/
def dn (T : List Nd) (n : Nat) : List Nat := dnF T (T.length + 1) n

theorem dnF_stable {T : List Nd} (hm : mayB T = true) : ∀ {k n : Nat}, n < T.length → T.length < k + (upsL T n).length → ∀ j, k ≤ j → dnF T j n = dnF T k n
  | 0, n, _, h, _, _ => by have := upsL_le T n; omega
  | k + 1, n, hn, h, j, hj => by
    obtain ⟨j, rfl⟩ : ∃ j', j = j' + 1 := ⟨j - 1, by omega⟩
    rw [dnF, dnF, List.flatMap_def, List.flatMap_def]
    congr 2
    apply List.map_congr_left
    intro x hx
    obtain ⟨m, rfl, hml, ho⟩ := over_kid (mayB_fine hm) hn hx
    have hs := (upsL_some hm hml ho).1
    rw [Int.toNat_natCast]
    refine dnF_stable hm hml ?_ j (by omega)
    rw [hs, List.length_cons]; omega
theorem dn_eq {T : List Nd} (hm : mayB T = true) {n : Nat} (hn : n < T.length) : dn T n = n :: (nd T n).kids.flatMap fun x => dn T x.toNat := by
  rw [dn, dnF, List.flatMap_def, List.flatMap_def]
  congr 2
  apply List.map_congr_left
  intro x hx
  obtain ⟨m, rfl, hml, ho⟩ := over_kid (mayB_fine hm) hn hx
  have hs := (upsL_some hm hml ho).1
  rw [Int.toNat_natCast]
  refine (dnF_stable hm hml ?_ (T.length + 1) (by omega)).symm
  rw [hs, List.length_cons]; omega

theorem odown_in (a : Option Addr) (len cap : Nat) (n : Int) (m : Nat) (w : World) :
    CallsIn Fence.wide m Tryz.prog 222 #[.slice a len cap, .int .i64 n] w fun e w' => e = .returned (.func (.func 223) #[] #[.pointer (some ⟨w.heap.size + 1, 0, none⟩), .pointer (some ⟨w.heap.size, 0, none⟩)]) ∧ w' = (w.alloc (.cells #[.slice a len cap] 23)).alloc (.cells #[.int .i64 n] 3) := by
  refine callsIn_of_wp Tryz.func222 rfl trivial ?_ rfl
  simp only [Tryz.ntmps222, List.size_toArray, List.length_cons, List.length_nil, Nat.reduceAdd, Nat.reduceSub, Array.replicate_succ, Array.replicate_zero, List.push_toArray, List.append_toArray, List.nil_append, List.cons_append]
  gi_wp2
  go_ret
  exact ⟨rfl, rfl⟩

/-- A mark of a range over a function. -/
def mark (D : Nat) : Deferred := { target := .collected D, args := #[] }

set_option maxRecDepth 100000 in
set_option maxHeartbeats 4000000 in
theorem down1_in (T : List Nd) (hm : mayB T = true) (tb to tc : Nat) (w0 : World) (hT : TreeAt w0 (.slice (some ⟨tb, to, none⟩) T.length tc) T) (X : Nat) : ∀ (d n : Nat), n < T.length → T.length < d + (upsL T n).length →
    ∀ (E : Nat → Prop) (M Bn Bt : Nat) (W : World), (∀ k, E k → w0.heap.size ≤ k ∧ k < M) → M ≤ W.heap.size → X < M → Below w0.heap.size w0 W → (∀ g, ownX X W = some g → w0.heap.size ≤ g ∧ g < W.heap.size) →
    Held E X W Bn → Held E X W Bt → W.cell? ⟨Bn, 0, none⟩ = some (.int .i64 (n : Int)) → W.cell? ⟨Bt, 0, none⟩ = some (.slice (some ⟨tb, to, none⟩) T.length tc) →
    DeepSeq Tryz.prog 223 #[.pointer (some ⟨Bn, 0, none⟩), .pointer (some ⟨Bt, 0, none⟩)] (fun x : Nat => #[Value.int .i64 (x : Int)]) X M E (dn T n) W
  | 0, n, hn, h => by have := upsL_le T n; omega
  | d + 1, n, hn, hd => by
    intro E M Bn Bt W hE hMW hXM hB hown hBn hBt cn ct m l J Jx hJ hJx hY h0
    refine callsIn_wide.2 ((callsIn_wide (n := 5)).1 ?_)
    have hF := mayB_fine hm
    have hdn := dn_eq hm hn
    have hpos := mayB_pos hm
    have ih := down1_in T hm tb to tc w0 hT X d
    -- the box of yield
    obtain ⟨Wa, hWa⟩ : ∃ Wa, W.alloc (.cells #[.func (.yield l) #[] #[]] 69) = Wa := ⟨_, rfl⟩
    have hka : Kd E X W Wa := by rw [← hWa]; exact Kd.alloc W _ (by omega)
    have hsa : Wa.heap.size = W.heap.size + 1 := by rw [← hWa]; simp
    have hoa : ownX X Wa = ownX X W := by rw [← hWa]; exact ownX_block (((Below.refl W.heap.size W).alloc (Nat.le_refl _) _).block X (by omega))
    have hyb : Held E X Wa W.heap.size := ⟨by omega, fun e => by have := hE _ e; omega, by rw [hoa]; intro e; have := hown _ e; omega⟩
    have cya : Wa.cell? ⟨W.heap.size, 0, none⟩ = some (.func (.yield l) #[] #[]) := by rw [← hWa]; exact (cell_new_l W _ _).1
    have cna := hBn.cell hka cn
    have cta := hBt.cell hka ct
    have hBna := hBn.kd hka
    have hBta := hBt.kd hka
    have hBa : Below w0.heap.size w0 Wa := by rw [← hWa]; exact hB.alloc hB.size _
    have hJa : J [] Wa := by rw [← hWa]; exact hJ.alloc _ h0
    have h1l : ([] : List Nat).length < (dn T n).length := by rw [hdn]; simp
    obtain ⟨fn, tmps, assign, body, hy, hR⟩ := hY 4 [] n Wa hJa h1l
    have HR := hideG hR
    clear hR
    refine callsIn_of_wp_marks Tryz.func223 rfl trivial ?_ rfl
    simp only [Tryz.ntmps223, List.size_toArray, List.length_cons, List.length_nil, Nat.reduceAdd, Nat.reduceSub, Array.replicate_succ, Array.replicate_zero, List.push_toArray, List.append_toArray, List.nil_append, List.cons_append]
    gi_wp2
    refine HR.out.mono ?_
    clear HR hy
    rintro e W1 (⟨rfl, hJ1, hk1⟩ | ⟨rfl, hJx1, hk1⟩)
    · have ct1 := hBta.cell hk1 cta
      have cn1 := hBna.cell hk1 cna
      have hE0 : ∀ k, E k → w0.heap.size ≤ k := fun k e => (hE k e).1
      have hb0 := hB.size
      have hBB : ∀ V, Kd E X Wa V → Below w0.heap.size w0 V := fun V hV => hBa.trans (hV.below hE0 (fun g hg => by rw [hoa] at hg; exact (hown g hg).1) (by omega))
      have HBB := hideG hBB
      have hOV : ∀ V, Kd E X Wa V → ∀ g, ownX X V = some g → w0.heap.size ≤ g ∧ g < V.heap.size := fun V hV g hg => by
        have hs := hV.size
        rcases hV.own g hg with e | ⟨e1, e2⟩
        · rw [hoa] at e
          have := hown g e
          omega
        · omega
      have HOV := hideG hOV
      have hT1 := hT.below (hBB W1 hk1)
      obtain ⟨tb', to', tc', htv, hct⟩ := hT1.at (by omega)
      simp only [Value.slice.injEq, Option.some.injEq, Addr.mk.injEq, and_true, true_and] at htv
      obtain ⟨⟨rfl, rfl⟩, rfl⟩ := htv
      obtain ⟨kv, av, hN⟩ := hct n hn
      have g3 := hN.kidsc
      obtain ⟨kka, kkc, hkv⟩ := hN.kids.shape
      subst hkv
      have h64 := fine_short hF hn
      have HKI := hideG (show ∀ V, Kd E X W1 V → IntsAt V (.slice kka (nd T n).kids.length kkc) (nd T n).kids from fun V hV => by
        obtain ⟨b2, o2, c2, htv, hct⟩ := hT.at (by omega)
        simp only [Value.slice.injEq, Option.some.injEq, Addr.mk.injEq, and_true, true_and] at htv
        obtain ⟨⟨rfl, rfl⟩, rfl⟩ := htv
        obtain ⟨kv0, av0, hN0⟩ := hct n hn
        have e1 := cell_below (HBB.out W1 hk1) hN0.kidsc
        rw [g3] at e1
        injection e1 with e1
        rw [e1]
        exact hN0.kids.below (HBB.out V (hk1.trans hV)))
      clear hct hN hT1 hBB hOV
      have HK1 := hideG hk1
      have HJ1 := hideG hJ1
      have HIH := hideG ih
      clear hk1 hJ1 ih
      gi_wp2
      clear g3 ct1 cn1
      refine wpIn_loop (fun a' V => ∃ (k : Nat) (Ds : List Nat) (u4 u5 u6 u7 u8 u9 u10 u11 u12 u13 u14 u18 u19 u20 u21 u22 u23 u24 u25 u26 u27 u28 u29 : Value), a' = { tmps := #[.func (.yield l) #[] #[], .pointer (some ⟨Bn, 0, none⟩), .pointer (some ⟨Bt, 0, none⟩), .pointer (some ⟨W.heap.size, 0, none⟩), u4, u5, u6, u7, u8, u9, u10, u11, u12, u13, u14, .slice kka (nd T n).kids.length kkc, .int .i64 ((nd T n).kids.length : Int), .int .i64 (k : Int), u18, u19, u20, u21, u22, u23, u24, u25, u26, u27, u28, u29], defers := Ds.map mark } ∧ k ≤ (nd T n).kids.length ∧ J (n :: ((nd T n).kids.take k).flatMap fun x => dn T x.toNat) V ∧ Kd E X W1 V ∧ Ds.Nodup ∧ ∀ D ∈ Ds, W.heap.size ≤ D ∧ Held E X V D ∧ V.heap[D]? = some (.deferred (some []))) (fun a' _ => (nd T n).kids.length - (intOf (a'.tmps.getD 17 undef)).toNat) ?_ ?_
      · exact ⟨0, [], _, _, _, _, _, _, _, _, _, _, _, _, _, _, _, _, _, _, _, _, _, _, _, rfl, Nat.zero_le _, by simpa using HJ1.out, Kd.refl _ _ _, List.nodup_nil, fun D h => by cases h⟩
      · rintro a' V ⟨k, Ds, u4, u5, u6, u7, u8, u9, u10, u11, u12, u13, u14, u18, u19, u20, u21, u22, u23, u24, u25, u26, u27, u28, u29, rfl, hkl, hJV, hKV, hnd, hDs⟩
        have HJV := hideG hJV
        have HKV := hideG hKV
        have HND := hideG hnd
        have HDS := hideG hDs
        have hKaV := HK1.out.trans hKV
        have HKaV := hideG hKaV
        have ctV := hBta.cell hKaV cta
        have cyV := hyb.cell hKaV cya
        have hsV := hKaV.size
        have hXV : X < V.heap.size := by omega
        have hEV : ∀ k, E k → k < V.heap.size := fun k e => by have := (hE k e).2; omega
        have HEV := hideG hEV
        clear hJV hKV hnd hDs hKaV hEV
        by_cases hlt : k < (nd T n).kids.length
        · have hki := HKI.out V HKV.out
          obtain ⟨a1, c1, hv1, hd1⟩ := hki
          simp only [Value.slice.injEq, true_and] at hv1
          obtain ⟨rfl, rfl⟩ := hv1
          obtain ⟨kb, koff, rfl, hdd⟩ := hd1 (by omega)
          have ck := hdd k hlt
          have hst := flat_take hlt (fun x => dn T x.toNat)
          have hxk : (nd T n).kids.getD k 0 ∈ (nd T n).kids := by
            rw [List.getD_eq_getElem?_getD, List.getElem?_eq_getElem hlt]; exact List.getElem_mem hlt
          obtain ⟨q, hxq, hql, hoq⟩ := over_kid hF hn hxk
          rw [hxq] at ck
          rw [hxq, Int.toNat_natCast] at hst
          have hpre : ∃ post, dn T n = (n :: ((nd T n).kids.take k).flatMap fun x => dn T x.toNat) ++ dn T q ++ post := by
            refine ⟨((nd T n).kids.drop (k + 1)).flatMap fun x => dn T x.toNat, ?_⟩
            rw [hdn]
            conv => lhs; rw [← List.take_append_drop (k + 1) (nd T n).kids, List.flatMap_append, hst]
            simp
          obtain ⟨post, hpost⟩ := hpre
          have HP := hideG hpost
          have HST := hideG hst
          have hsq := (upsL_some hm hql hoq).1
          have hdq : T.length < d + (upsL T q).length := by rw [hsq, List.length_cons]; omega
          clear hd1 hdd hxk hxq hst hpost hsq
          generalize hpre0 : (n :: ((nd T n).kids.take k).flatMap fun x => dn T x.toNat) = pre0 at *
          gi_wp2_with (refine ⟨trivial, ?_⟩; gi_at_call 222; refine (odown_in _ _ _ _ _ _).mono ?_; rintro e w' ⟨rfl, rfl⟩)
          obtain ⟨V2, hV2⟩ : ∃ V2, (V.alloc (.cells #[.slice (some ⟨tb, to, none⟩) T.length tc] 23)).alloc (.cells #[.int .i64 (q : Int)] 3) = V2 := ⟨_, rfl⟩
          have hs2 : V2.heap.size = V.heap.size + 2 := by rw [← hV2]; simp
          have hk2 : Kd E X V V2 := by rw [← hV2]; exact (Kd.alloc V _ hXV).trans (Kd.alloc _ _ (by simp; omega))
          have hJ2 : J pre0 V2 := by rw [← hV2]; exact hJ.alloc _ (hJ.alloc _ HJV.out)
          have d1 := cell_new_l V (.slice (some ⟨tb, to, none⟩) T.length tc) 23
          have d2 := cell_new_l (V.alloc (.cells #[.slice (some ⟨tb, to, none⟩) T.length tc] 23)) (.int .i64 (q : Int)) 3
          simp only [World.size_alloc] at d2
          have cT2 : V2.cell? ⟨V.heap.size, 0, none⟩ = some (.slice (some ⟨tb, to, none⟩) T.length tc) := by rw [← hV2]; exact cell_alloc_l _ d1.1
          have cN2 : V2.cell? ⟨V.heap.size + 1, 0, none⟩ = some (.int .i64 (q : Int)) := by rw [← hV2]; exact d2.1
          have hB2 : Below V.heap.size V V2 := by rw [← hV2]; exact ((Below.refl _ V).alloc (Nat.le_refl _) _).alloc (by simp) _
          have hx2 : ownX X V2 = ownX X V := ownX_block (hB2.block X hXV)
          rw [hV2]
          clear d1 d2 hV2
          have hKa2 := HKaV.out.trans hk2
          have hO2 := HOV.out V2 hKa2
          have hOV' := HOV.out V HKaV.out
          refine range_deep rfl (enters_of Tryz.func223 (by kernel_rfl) rfl) (fun x : Nat => #[Value.int .i64 (x : Int)]) (fun _ => rfl) X E (fun k e => by have := HEV.out k e; omega) (by omega) (fun g hg => (hO2 g hg).2) (dn T q) ?seq
            (fun pre U => J (pre0 ++ pre) U ∧ Kd E X V2 U) (fun c pre U => c = .ret ∧ Jx (pre0 ++ pre) U ∧ Kd E X V2 U) ?hI ?hIx ⟨by simpa using hJ2, Kd.refl _ _ _⟩
            (fun x => { tmps := #[.func (.yield l) #[] #[], .pointer (some ⟨Bn, 0, none⟩), .pointer (some ⟨Bt, 0, none⟩), .pointer (some ⟨W.heap.size, 0, none⟩), u4, .int .i64 (q : Int), .int .i64 (x : Int), u7, u8, u9, u10, u11, u12, u13, u14, .slice (some ⟨kb, koff, none⟩) (nd T n).kids.length kkc, .int .i64 ((nd T n).kids.length : Int), .int .i64 (k : Int), .bool true, .pointer (some ⟨kb, koff + k, none⟩), .int .i64 (q : Int), .slice (some ⟨tb, to, none⟩) T.length tc, .int .i64 (q : Int), .func (.func 223) #[] #[.pointer (some ⟨V.heap.size + 1, 0, none⟩), .pointer (some ⟨V.heap.size, 0, none⟩)], .int .i64 (x : Int), u25, u26, u27, u28, u29], defers := [] }) ?assign ?body ?done ?stop
          case seq =>
            intro U hBU hsU
            have hoU : ownX X U = ownX X V2 := ownX_block (hBU.block X (by omega))
            have hno : ∀ j, V.heap.size ≤ j → j < V.heap.size + 2 → Held (fun k => E k ∨ k = V2.heap.size + 1) X U j := fun j h1 h2 => by
              refine ⟨by omega, ?_, ?_⟩
              · rintro (e | e)
                · have := HEV.out j e; omega
                · omega
              · rw [hoU, hx2]; intro e; have := hOV' j e; omega
            refine HIH.out q hql hdq _ _ (V.heap.size + 1) V.heap.size U ?_ (by omega) (by omega) ((HBB.out V2 hKa2).trans (hBU.mono (by omega))) ?_ (hno _ (by omega) (by omega)) (hno _ (by omega) (by omega)) (cell_below hBU cN2) (cell_below hBU cT2)
            · rintro j (e | e)
              · have := hE j e; have := HEV.out j e; omega
              · omega
            · intro g hg
              rw [hoU] at hg
              have := hO2 g hg
              omega
          case hI =>
            exact OwnFrom.and (fun s A B row h hg hr => hJ (pre0 ++ s) A B row h hg (fun r e => ⟨by have := (hr r e).1; omega, (hr r e).2⟩)) (kd_own (by omega))
          case hIx =>
            rintro c s A B row ⟨h1, h2, h3⟩ hg hr
            exact ⟨h1, hJx (pre0 ++ s) A B row h2 hg (fun r e => ⟨by have := (hr r e).1; omega, (hr r e).2⟩), kd_own (β := Unit) (by omega) () A B row h3 hg hr⟩
          case assign =>
            intro l' m' x U K hK
            gi_wp2
            exact hK
          case body =>
            rintro l' m' pre x U ⟨hJU, hKU⟩ hlen
            have hlen2 : (pre0 ++ pre).length < (dn T n).length := by rw [HP.out]; simp; omega
            have cyU := hyb.cell (hKa2.trans hKU) cya
            obtain ⟨fn', tmps', assign', body', hy', hR'⟩ := hY (m' - 1) (pre0 ++ pre) x U hJU hlen2
            have HR' := hideG hR'
            clear hR'
            gi_wp2
            refine ⟨fun h => (by cases h), RoundIn.mono (F := Fence.wide.inRound l') HR'.out ?_⟩
            rintro e U3 (⟨rfl, hJ3, hk3⟩ | ⟨rfl, hJ3, hk3⟩)
            · gi_wp2
              exact ⟨hk3, by rw [← List.append_assoc]; exact hJ3, hKU.trans hk3⟩
            · gi_wp2
              exact ⟨hk3, rfl, by rw [← List.append_assoc]; exact hJ3, hKU.trans hk3⟩
          case done =>
            rintro U ⟨hJU, hKU⟩ hD hoD
            have hDU : ∀ D ∈ V2.heap.size :: Ds, W.heap.size ≤ D ∧ Held E X U D ∧ U.heap[D]? = some (.deferred (some [])) := by
              intro D hD'
              rcases List.mem_cons.mp hD' with rfl | hD'
              · exact ⟨by omega, ⟨(Array.getElem?_eq_some_iff.1 hD).1, fun e => by have := HEV.out _ e; omega, hoD⟩, hD⟩
              · obtain ⟨h1, h2, h3⟩ := HDS.out D hD'
                have h2' := h2.kd hk2
                exact ⟨h1, h2'.kd hKU, (hKU.block D h2'.1 h2'.2.1 h2'.2.2).trans ((hk2.block D h2.1 h2.2.1 h2.2.2).trans h3)⟩
            have hnd' : (V2.heap.size :: Ds).Nodup := List.nodup_cons.mpr ⟨fun h => by have := (HDS.out _ h).2.1.1; omega, HND.out⟩
            have hfl : n :: ((nd T n).kids.take (k + 1)).flatMap (fun x => dn T x.toNat) = pre0 ++ dn T q := by rw [HST.out, ← hpre0]; simp
            have HDU := hideG hDU
            have HND' := hideG hnd'
            have HFL := hideG hfl
            clear hDU hnd' hfl
            gi_wp2
            have e1 : (k : Int) + 1 = ((k + 1 : Nat) : Int) := by omega
            rw [e1]
            refine ⟨⟨k + 1, V2.heap.size :: Ds, _, _, _, _, _, _, _, _, _, _, _, _, _, _, _, _, _, _, _, _, _, _, _, rfl, by omega, by rw [HFL.out]; exact hJU, (HKV.out.trans hk2).trans hKU, HND'.out, HDU.out⟩, ?_⟩
            simp [intOf]; omega
          case stop =>
            rintro c pre U hpp ⟨rfl, hJU, hKU⟩ hD hoD
            have hDU : ∀ D ∈ V2.heap.size :: Ds, U.heap[D]? = some (.deferred (some [])) := by
              intro D hD'
              rcases List.mem_cons.mp hD' with rfl | hD'
              · exact hD
              · obtain ⟨h1, h2, h3⟩ := HDS.out D hD'
                have h2' := h2.kd hk2
                exact (hKU.block D h2'.1 h2'.2.1 h2'.2.2).trans ((hk2.block D h2.1 h2.2.1 h2.2.2).trans h3)
            have hge : ∀ D ∈ V2.heap.size :: Ds, M ≤ D := by
              intro D hD'
              rcases List.mem_cons.mp hD' with rfl | hD'
              · omega
              · have := (HDS.out D hD').1; omega
            have hnd' : (V2.heap.size :: Ds).Nodup := List.nodup_cons.mpr ⟨fun h => by have := (HDS.out _ h).2.1.1; omega, HND.out⟩
            have hpx : pre0 ++ pre <+: dn T n := by
              obtain ⟨r, hr⟩ := hpp
              exact ⟨r ++ post, by rw [HP.out, ← hr]; simp⟩
            gi_wp2
            exact leaves_marks (fun w => Jx (pre0 ++ pre) w) (V2.heap.size :: Ds) U hnd' hDU (fun D w hD' ho hK => hJx.putObj _ hK (hge D hD') ho rfl) hJU (fun w hK => ⟨_, results_none rfl _ _ _, ⟨_, rfl⟩, .inr ⟨pre0 ++ pre, hpx, hK⟩⟩)
        · have hke : k = (nd T n).kids.length := by omega
          subst hke
          have hall : n :: ((nd T n).kids.take (nd T n).kids.length).flatMap (fun x => dn T x.toNat) = dn T n := by rw [List.take_length, hdn]
          rw [hall] at HJV
          have hDV : ∀ D ∈ Ds, V.heap[D]? = some (.deferred (some [])) := fun D h => (HDS.out D h).2.2
          have hge : ∀ D ∈ Ds, M ≤ D := fun D h => by have := (HDS.out D h).1; omega
          have HDV := hideG hDV
          have HGE := hideG hge
          clear hDV hge hall
          gi_wp2
          exact leaves_marks (fun w => J (dn T n) w) Ds V HND.out HDV.out (fun D w hD' ho hK => hJ.putObj _ hK (HGE.out D hD') ho rfl) HJV.out (fun w hK => ⟨_, results_none rfl _ _ _, ⟨_, rfl⟩, .inl hK⟩)
    · gi_wp2
      exact ⟨_, results_none rfl _ _ _, ⟨_, rfl⟩, .inr ⟨[n], ⟨(nd T n).kids.flatMap fun x => dn T x.toNat, by rw [hdn]; rfl⟩, hJx1⟩⟩
end Go.Proofs.YtclhimodopgeoaaGreat

