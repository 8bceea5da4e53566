/- Part 2 of what the laws of layer 10 lean on. -/
import Derived.Lib.AppendZeros
import Derived.Lib.Overlaps
import Derived.Laws.CopyOwn
import Derived.Deep.RegionLaw
import Derived.Deep.QuietTactic
import Derived.BigQuiet
import Derived.Laws.AppendOwnNone
import Derived.Deep.RegionWith
import Derived.WalkMore
import Derived.ScopeJumps
import Derived.RangeFuncCalls
import Derived.Deep.RegionHeld3
import Derived.Test.YtclhimodopgeoaaGreatTB1
namespace Go.Proofs.YtclhimodopgeoaaGreat
open Go.RowKit

def kidFine (T : List Nd) (p : Nat) (k : Int) : Prop := isNodeB T.length k = true ∧ canBeKidB (nd T k.toNat).kind = true ∧ (nd T k.toNat).parent = (p : Int)

theorem kidBad_false {T : List Nd} {p : Nat} {P : Nat → Bool} {k : Int} : kidBad T p P k = false ↔ kidFine T p k ∧ P k.toNat = false := by
  simp only [kidBad, kidFine, Bool.or_eq_false_iff, Bool.not_eq_false', bne_eq_false_iff_eq, and_assoc]

theorem kidsRun_some {T : List Nd} {p : Nat} : ∀ {l : List Int} {P P' : Nat → Bool}, kidsRun T p l P = some P' →
    (∀ k, k ∈ l → kidFine T p k ∧ P k.toNat = false) ∧ l.Nodup ∧ (∀ j, P' j = true → P j = true ∨ (j : Int) ∈ l)
  | [], P, P', h => by
    rw [kidsRun] at h
    obtain rfl := Option.some.inj h
    exact ⟨fun k hk => absurd hk (by simp), List.nodup_nil, fun j hj => Or.inl hj⟩
  | k :: l, P, P', h => by
    rw [kidsRun] at h
    cases hb : kidBad T p P k
    · rw [hb, if_neg (by simp)] at h
      obtain ⟨h1, h2, h3⟩ := kidsRun_some h
      obtain ⟨hf, hp⟩ := kidBad_false.mp hb
      refine ⟨fun k' hk' => ?_, List.nodup_cons.mpr ⟨fun hm => ?_, h2⟩, fun j hj => ?_⟩
      · rcases List.mem_cons.mp hk' with rfl | hm
        · exact ⟨hf, hp⟩
        · have := (h1 k' hm).2
          simp only [setP, Bool.or_eq_false_iff] at this
          exact ⟨(h1 k' hm).1, this.1⟩
      · have := (h1 k hm).2
        simp [setP] at this
      · rcases h3 j hj with h | h
        · simp only [setP, Bool.or_eq_true, beq_iff_eq] at h
          rcases h with h | h
          · exact Or.inl h
          · obtain ⟨m, hm, _⟩ := isNodeB_true hf.1
            exact Or.inr (List.mem_cons.mpr (Or.inl (by omega)))
        · exact Or.inr (List.mem_cons_of_mem _ h)
    · rw [hb, if_pos rfl] at h
      cases h

theorem nodesFrom_some {T : List Nd} : ∀ {m n : Nat} {P P' : Nat → Bool}, nodesFrom T m n P = some P' →
    (∀ i, n ≤ i → i < n + m → ((nd T i).kind == 2 && decide (0 < (nd T i).kids.length)) = false ∧ (∀ k, k ∈ (nd T i).kids → kidFine T i k) ∧ (nd T i).kids.Nodup) ∧
    (∀ j, P' j = true → P j = true ∨ ∃ i, n ≤ i ∧ i < n + m ∧ (j : Int) ∈ (nd T i).kids)
  | 0, n, P, P', h => by
    rw [nodesFrom] at h
    obtain rfl := Option.some.inj h
    exact ⟨fun i h1 h2 => by omega, fun j hj => Or.inl hj⟩
  | m + 1, n, P, P', h => by
    rw [nodesFrom] at h
    cases hr : nodeRun T n P with
    | none => rw [hr] at h; cases h
    | some Q =>
      rw [hr] at h
      obtain ⟨h1, h2⟩ := nodesFrom_some h
      rw [nodeRun] at hr
      cases hb : ((nd T n).kind == 2 && decide (0 < (nd T n).kids.length))
      · rw [hb, if_neg (by simp)] at hr
        obtain ⟨g1, g2, g3⟩ := kidsRun_some hr
        refine ⟨fun i hi1 hi2 => ?_, fun j hj => ?_⟩
        · by_cases e : i = n
          · subst e
            exact ⟨hb, fun k hk => (g1 k hk).1, g2⟩
          · exact h1 i (by omega) (by omega)
        · rcases h2 j hj with h | ⟨i, hi1, hi2, hi3⟩
          · rcases g3 j h with h | h
            · exact Or.inl h
            · exact Or.inr ⟨n, Nat.le_refl _, by omega, h⟩
          · exact Or.inr ⟨i, by omega, by omega, hi3⟩
      · rw [hb, if_pos rfl] at hr
        cases hr

theorem countN_zero {l : List Int} {k : Int} (h : k ∉ l) : countN l k = 0 := by
  rw [countN, List.length_eq_zero_iff, List.filter_eq_nil_iff]
  intro x hx
  simp only [beq_iff_eq]
  rintro rfl
  exact h hx
theorem countN_cons (a : Int) (l : List Int) (k : Int) : countN (a :: l) k = (if a == k then 1 else 0) + countN l k := by
  rw [countN, List.filter_cons]
  cases h : (a == k)
  · simp [countN]
  · simp [countN]; omega
theorem countN_one {l : List Int} {k : Int} (hn : l.Nodup) (h : k ∈ l) : countN l k = 1 := by
  induction l with
  | nil => simp at h
  | cons a l ih =>
    rw [List.nodup_cons] at hn
    rw [countN_cons]
    by_cases e : a = k
    · subst e
      rw [countN_zero hn.1]; simp
    · rcases List.mem_cons.mp h with h | h
      · exact absurd h.symm e
      · rw [ih hn.2 h, if_neg (by simpa using e)]

/-- The kids of a tree that may be. -/
theorem kidsFit_spec {T : List Nd} (h : kidsFitB T = true) :
    (∀ i, i < T.length → ((nd T i).kind == 2 && decide (0 < (nd T i).kids.length)) = false ∧ (∀ k, k ∈ (nd T i).kids → kidFine T i k) ∧ (nd T i).kids.Nodup) ∧
    (∀ n, n < T.length → (nd T n).parent = -1 ∨ ∃ i, i < T.length ∧ (n : Int) ∈ (nd T i).kids) := by
  rw [kidsFitB] at h
  cases hr : nodesFrom T T.length 0 (fun _ => false) with
  | none => rw [hr] at h; cases h
  | some P =>
    rw [hr] at h
    obtain ⟨h1, h2⟩ := nodesFrom_some hr
    refine ⟨fun i hi => h1 i (Nat.zero_le _) (by omega), fun n hn => ?_⟩
    have := allB_true.mp h n hn
    simp only [looseB, Bool.not_eq_true', Bool.and_eq_false_iff, Bool.not_eq_false', bne_eq_false_iff_eq] at this
    rcases this with h | h
    · rcases h2 n h with h | ⟨i, _, hi, hm⟩
      · cases h
      · exact Or.inr ⟨i, by omega, hm⟩
    · exact Or.inl h

theorem ups_mono {T : List Nd} : ∀ {m n x : Nat}, x ∈ ups T m n → x ∈ ups T (m + 1) n
  | 0, n, x, h => by simp [ups] at h
  | m + 1, n, x, h => by
    rw [ups] at h ⊢
    cases he : (overI (nd T n) == -1)
    · rw [he, if_neg (by simp)] at h
      rw [if_neg (by simp)]
      rcases List.mem_cons.mp h with h | h
      · exact List.mem_cons.mpr (Or.inl h)
      · exact List.mem_cons_of_mem _ (ups_mono h)
    · rw [he, if_pos rfl] at h
      simp at h
theorem ups_lt {T : List Nd} (hup : UpOk T) : ∀ {m n x : Nat}, n < T.length → x ∈ ups T m n → x < T.length
  | 0, n, x, _, h => by simp [ups] at h
  | m + 1, n, x, hn, h => by
    rw [ups] at h
    cases he : (overI (nd T n) == -1)
    · rw [he, if_neg (by simp)] at h
      rcases hup n hn with h1 | h1
      · rw [he] at h1; cases h1
      · obtain ⟨u, hu, hul⟩ := isNodeB_true h1
        rw [hu, Int.toNat_natCast] at h
        rcases List.mem_cons.mp h with rfl | h
        · exact hul
        · exact ups_lt hup hul h
    · rw [he, if_pos rfl] at h
      simp at h
theorem ups_loop {T : List Nd} (hup : UpOk T) : ∀ {m n : Nat}, n < T.length → ¬ (n :: ups T m n).Nodup → ∃ x, x < T.length ∧ x ∈ ups T m x
  | 0, n, _, h => by simp [ups] at h
  | m + 1, n, hn, h => by
    by_cases hm : n ∈ ups T (m + 1) n
    · exact ⟨n, hn, hm⟩
    · have h2 : ¬ (ups T (m + 1) n).Nodup := fun h' => h (List.nodup_cons.mpr ⟨hm, h'⟩)
      rw [ups] at h2
      cases he : (overI (nd T n) == -1)
      · rw [he, if_neg (by simp)] at h2
        rcases hup n hn with h1 | h1
        · rw [he] at h1; cases h1
        · obtain ⟨u, hu, hul⟩ := isNodeB_true h1
          rw [hu, Int.toNat_natCast] at h2
          obtain ⟨x, hx, hxm⟩ := ups_loop hup hul h2
          exact ⟨x, hx, ups_mono hxm⟩
      · rw [he, if_pos rfl] at h2
        exact absurd List.nodup_nil h2
theorem pigeon : ∀ (n : Nat) (l : List Nat), l.Nodup → (∀ x, x ∈ l → x < n) → l.length ≤ n
  | 0, l, _, h => by
    cases l with
    | nil => simp
    | cons a l => exact absurd (h a (by simp)) (by omega)
  | n + 1, l, hd, h => by
    by_cases hm : n ∈ l
    · have := pigeon n (l.erase n) (hd.erase n) (fun x hx => by
        have hne : x ≠ n := fun e => by subst e; exact hd.not_mem_erase hx
        have := h x (List.mem_of_mem_erase hx)
        omega)
      rw [List.length_erase_of_mem hm] at this
      omega
    · have := pigeon n l hd (fun x hx => by
        have hne : x ≠ n := fun e => by subst e; exact hm hx
        have := h x hx
        omega)
      omega
theorem ends_length {T : List Nd} (hup : UpOk T) : ∀ {m n : Nat}, n < T.length → endsF T (m + 1) n = false → (ups T m n).length = m
  | 0, n, _, _ => by simp [ups]
  | m + 1, n, hn, h => by
    rw [endsF, Bool.or_eq_false_iff, Int.toNat_natCast] at h
    obtain ⟨_, h⟩ := h
    rcases overI_ok hup hn with h1 | ⟨u, hu, hul⟩
    · rw [h1, endsF] at h
      simp at h
    · rw [hu] at h
      rw [ups, hu, if_neg (by simp), Int.toNat_natCast, List.length_cons, ends_length hup hul h]

theorem ends_of_noLoop {T : List Nd} (hup : UpOk T) (h : hasLoopB T = false) {n : Nat} (hn : n < T.length) : endsF T (T.length + 1) n = true := by
  cases he : endsF T (T.length + 1) n
  · have hl := ends_length hup hn he
    obtain ⟨x, hx, hm⟩ := ups_loop (m := T.length) hup hn (fun hd => by
      have := pigeon T.length _ hd (fun y hy => by
        rcases List.mem_cons.mp hy with rfl | hy
        · exact hn
        · exact ups_lt hup hn hy)
      rw [List.length_cons, hl] at this
      omega)
    rw [hasLoopB, Bool.not_eq_false', allB_true] at h
    have := h x hx
    rw [isAncB, Bool.not_eq_true', List.any_eq_false] at this
    exact absurd (by simp) (this x hm)
  · rfl

theorem shadowB_of {T : List Nd} {n : Nat} (h3 : (nd T n).kind = 3 → (nd T n).parent = -1) : shadowB T n = (hostFitsB T n && rootFitsB T n) := by
  rw [shadowB, hostFitsB, rootFitsB]
  by_cases hk3 : (nd T n).kind = 3
  · have e1 : ((nd T n).kind == 3) = true := by simp [hk3]
    have e2 : ((nd T n).kind != 3) = false := by simp [hk3]
    have e3 : ((nd T n).kind != 1) = true := by simp [hk3]
    rw [e1, e2, e3, h3 hk3]
    simp only [if_true, Bool.true_or, Bool.false_eq_true, if_false]
    cases ((nd T n).root == -1) <;> simp
  · have e1 : ((nd T n).kind == 3) = false := by simp [hk3]
    have e2 : ((nd T n).kind != 3) = true := by simp [hk3]
    rw [e1, e2]
    simp only [if_true, Bool.false_eq_true, if_false]
    by_cases hk1 : (nd T n).kind = 1
    · have e3 : ((nd T n).kind != 1) = false := by simp [hk1]
      have e4 : ((nd T n).kind == 1) = true := by simp [hk1]
      rw [e3, e4]
      cases ((nd T n).root == -1) <;> simp
    · have e3 : ((nd T n).kind != 1) = true := by simp [hk1]
      have e4 : ((nd T n).kind == 1) = false := by simp [hk1]
      rw [e3, e4]
      simp

theorem kidFine_ok {T : List Nd} {i : Nat} (hd : (nd T i).kids.Nodup) {k : Int} (hk : k ∈ (nd T i).kids) (h : kidFine T i k) : kidOkB T i k = true := by
  obtain ⟨h1, h2, h3⟩ := h
  rw [kidOkB, h1, countN_one hd hk, h3]
  simpa [canBeKidB] using h2

theorem refMay_of_may {T : List Nd} (h : mayB T = true) : refMayB T = true := by
  rw [mayB] at h
  simp only [Bool.and_eq_true] at h
  obtain ⟨h1, h64, hn, hk, hl⟩ := h
  rw [Bool.not_eq_true'] at hl
  obtain ⟨hkids, hpar⟩ := kidsFit_spec hk
  have hnode : ∀ n, n < T.length → refNodeB T n = true := fun n hlt => by
    have hb := allB_true.mp hn n hlt
    simp only [nodeBad, Bool.not_eq_true', Bool.or_eq_false_iff, Bool.not_eq_false'] at hb
    obtain ⟨⟨⟨hkf, hhf⟩, hrf⟩, haf⟩ := hb
    obtain ⟨k1, k2, k3⟩ := hkids n hlt
    have hp3 : (nd T n).kind = 3 → (nd T n).parent = -1 := fun h3 => by
      rcases hpar n hlt with h | ⟨i, hi, hm⟩
      · exact h
      · have := ((hkids i hi).2.1 _ hm).2.1
        rw [Int.toNat_natCast, h3] at this
        exact absurd this (by decide)
    have hkk : refKidsB T n = true := by
      rw [refKidsB]
      have a1 : (nd T n).kids.all (kidOkB T n) = true := List.all_eq_true.mpr (fun k hk => kidFine_ok k3 hk (k2 k hk))
      have a2 : ((nd T n).kind == 2 && decide (0 < ((nd T n).kids.length : Int))) = false := by
        rw [← k1]
        congr 1
        exact decide_eq_decide.mpr (by omega)
      rw [a1, a2]
      rcases hpar n hlt with h | ⟨i, hi, hm⟩
      · rw [h]; rfl
      · have hf := (hkids i hi).2.1 _ hm
        have hpi : (nd T n).parent = (i : Int) := by simpa using hf.2.2
        have hin : isNodeB T.length (i : Int) = true := by simp [isNodeB]; omega
        rw [hpi, hin, Int.toNat_natCast, countN_one (hkids i hi).2.2 hm]
        simp
    rw [refNodeB, hkf, haf, hkk, shadowB_of hp3, hhf, hrf]
    rfl
  have hup := refNode_upOk hnode
  rw [refMayB, h1, h64, allB_true.mpr hnode]
  simp only [Bool.true_and]
  exact allB_true.mpr (fun n hlt => ends_of_noLoop hup hl hlt)
end Go.Proofs.YtclhimodopgeoaaGreat
namespace Go.Proofs.YtclhimodopgeoaaGreat
open Go.RowKit

theorem kidsRun_runs {T : List Nd} {p : Nat} : ∀ {l : List Int} {P : Nat → Bool}, (∀ k, k ∈ l → kidFine T p k ∧ P k.toNat = false) → l.Nodup → ∃ P', kidsRun T p l P = some P' ∧ (∀ j, P' j = true ↔ P j = true ∨ (j : Int) ∈ l)
  | [], P, _, _ => ⟨P, rfl, fun j => by simp⟩
  | k :: l, P, h, hd => by
    rw [List.nodup_cons] at hd
    obtain ⟨hf, hp⟩ := h k (by simp)
    obtain ⟨m, hm, _⟩ := isNodeB_true hf.1
    have hb : kidBad T p P k = false := kidBad_false.mpr ⟨hf, hp⟩
    obtain ⟨P', h1, h2⟩ := kidsRun_runs (l := l) (P := setP P k.toNat) (fun k' hk' => by
      obtain ⟨hf', hp'⟩ := h k' (List.mem_cons_of_mem _ hk')
      obtain ⟨m', hm', _⟩ := isNodeB_true hf'.1
      refine ⟨hf', ?_⟩
      have hne : k' ≠ k := fun e => hd.1 (e ▸ hk')
      simp only [setP, hp', Bool.false_or, beq_eq_false_iff_ne]
      omega) hd.2
    refine ⟨P', by rw [kidsRun, hb, if_neg (by simp)]; exact h1, fun j => ?_⟩
    rw [h2 j]
    simp only [setP, Bool.or_eq_true, beq_iff_eq, List.mem_cons]
    constructor
    · rintro ((h | h) | h)
      · exact Or.inl h
      · exact Or.inr (Or.inl (by omega))
      · exact Or.inr (Or.inr h)
    · rintro (h | h | h)
      · exact Or.inl (Or.inl h)
      · exact Or.inl (Or.inr (by omega))
      · exact Or.inr h
theorem nodesFrom_runs {T : List Nd} : ∀ {m n : Nat} {P : Nat → Bool},
    (∀ i, n ≤ i → i < n + m → ((nd T i).kind == 2 && decide (0 < (nd T i).kids.length)) = false ∧ (∀ k, k ∈ (nd T i).kids → kidFine T i k) ∧ (nd T i).kids.Nodup) →
    (∀ j, P j = true → ∃ i, i < n ∧ (nd T j).parent = (i : Int)) →
    ∃ P', nodesFrom T m n P = some P' ∧ (∀ j, P' j = true ↔ P j = true ∨ ∃ i, n ≤ i ∧ i < n + m ∧ (j : Int) ∈ (nd T i).kids)
  | 0, n, P, _, _ => ⟨P, rfl, fun j => ⟨Or.inl, fun h => h.elim id (fun ⟨i, h1, h2, _⟩ => by omega)⟩⟩
  | m + 1, n, P, h, hP => by
    obtain ⟨h1, h2, h3⟩ := h n (Nat.le_refl _) (by omega)
    obtain ⟨Q, hQ, hQj⟩ := kidsRun_runs (T := T) (p := n) (l := (nd T n).kids) (P := P) (fun k hk => ⟨h2 k hk, by
      cases hp : P k.toNat
      · rfl
      · obtain ⟨i, hi, he⟩ := hP _ hp
        have := (h2 k hk).2.2
        omega⟩) h3
    have hr : nodeRun T n P = some Q := by rw [nodeRun, h1, if_neg (by simp)]; exact hQ
    obtain ⟨P', g1, g2⟩ := nodesFrom_runs (m := m) (n := n + 1) (P := Q) (fun i hi1 hi2 => h i (by omega) (by omega)) (fun j hj => by
      rcases (hQj j).mp hj with hp | hp
      · obtain ⟨i, hi, he⟩ := hP j hp
        exact ⟨i, by omega, he⟩
      · have := (h2 _ hp).2.2
        rw [Int.toNat_natCast] at this
        exact ⟨n, by omega, this⟩)
    refine ⟨P', by rw [nodesFrom, hr]; exact g1, fun j => ?_⟩
    rw [g2 j, hQj j]
    constructor
    · rintro ((h | h) | ⟨i, h4, h5, h6⟩)
      · exact Or.inl h
      · exact Or.inr ⟨n, Nat.le_refl _, by omega, h⟩
      · exact Or.inr ⟨i, by omega, by omega, h6⟩
    · rintro (h | ⟨i, h4, h5, h6⟩)
      · exact Or.inl (Or.inl h)
      · by_cases e : i = n
        · subst e; exact Or.inl (Or.inr h6)
        · exact Or.inr ⟨i, by omega, by omega, h6⟩

theorem nodup_of_count {l : List Int} (h : ∀ k, k ∈ l → countN l k = 1) : l.Nodup := by
  induction l with
  | nil => exact List.nodup_nil
  | cons a l ih =>
    rw [List.nodup_cons]
    have ha := h a (by simp)
    rw [countN_cons, if_pos (by simp)] at ha
    have hm : a ∉ l := fun hm => by
      have : countN l a ≠ 0 := fun h0 => by
        rw [countN, List.length_eq_zero_iff, List.filter_eq_nil_iff] at h0
        exact h0 a hm (by simp)
      omega
    refine ⟨hm, ih (fun k hk => ?_)⟩
    have := h k (List.mem_cons_of_mem _ hk)
    rw [countN_cons, if_neg (by simp; rintro rfl; exact hm hk)] at this
    omega
theorem mem_of_count {l : List Int} {k : Int} (h : countN l k = 1) : k ∈ l := by
  by_cases hm : k ∈ l
  · exact hm
  · rw [countN_zero hm] at h; cases h

/-- Who comes back to himself never comes to an end. -/
theorem ups_steps {T : List Nd} (hup : UpOk T) : ∀ {m n x : Nat}, n < T.length → x ∈ ups T m n → ∃ d, 1 ≤ d ∧ ∀ f, endsF T (f + d) n = endsF T f x ∨ (f = 0 ∧ True)
  | 0, n, x, _, h => by simp [ups] at h
  | m + 1, n, x, hn, h => by
    rw [ups] at h
    cases he : (overI (nd T n) == -1)
    · rw [he, if_neg (by simp)] at h
      rcases hup n hn with h1 | h1
      · rw [he] at h1; cases h1
      · obtain ⟨u, hu, hul⟩ := isNodeB_true h1
        rw [hu, Int.toNat_natCast] at h
        have step : ∀ f, endsF T (f + 1) n = endsF T f u := fun f => by
          have hne : ((n : Int) == -1) = false := by simp
          rw [endsF, hne, Int.toNat_natCast, hu]; rfl
        rcases List.mem_cons.mp h with rfl | h
        · exact ⟨1, Nat.le_refl _, fun f => Or.inl (step f)⟩
        · obtain ⟨d, hd, hs⟩ := ups_steps hup hul h
          refine ⟨d + 1, by omega, fun f => ?_⟩
          rw [show f + (d + 1) = (f + d) + 1 by omega, step]
          exact hs f
    · rw [he, if_pos rfl] at h
      simp at h
theorem ends_mono {T : List Nd} : ∀ {f : Nat} {n : Int}, endsF T f n = true → endsF T (f + 1) n = true
  | 0, n, h => by simp [endsF] at h
  | f + 1, n, h => by
    rw [endsF] at h ⊢
    cases hn : (n == -1)
    · rw [hn, Bool.false_or] at h
      rw [Bool.false_or]
      exact ends_mono h
    · rfl
theorem ends_mono' {T : List Nd} {f : Nat} {n : Int} (h : endsF T f n = true) : ∀ g, f ≤ g → endsF T g n = true
  | 0, hg => by obtain rfl : f = 0 := by omega
                exact h
  | g + 1, hg => by
    by_cases e : f = g + 1
    · exact e ▸ h
    · exact ends_mono (ends_mono' h g (by omega))
theorem noLoop_of_ends {T : List Nd} (hup : UpOk T) (h : ∀ n, n < T.length → endsF T (T.length + 1) n = true) : hasLoopB T = false := by
  rw [hasLoopB, Bool.not_eq_false', allB_true]
  intro n hn
  rw [isAncB, Bool.not_eq_true', List.any_eq_false]
  intro x hx he
  obtain rfl : x = n := by
    have e : (x : Int) = n := by simpa using he
    omega
  obtain ⟨d, hd, hs⟩ := ups_steps hup hn hx
  have hno : ∀ f, endsF T f x = false := fun f => by
    induction f using Nat.strongRecOn with
    | _ f ih =>
      cases hf : endsF T f x
      · rfl
      · by_cases hfd : f ≤ d
        · have h1 := ends_mono' hf (1 + d) (by omega)
          rcases hs 1 with h2 | ⟨h2, _⟩
          · rw [h2] at h1
            have hne : ((x : Int) == -1) = false := by simp
            rw [endsF, hne, endsF] at h1
            simp at h1
          · cases h2
        · have h3 := hs (f - d)
          rw [show f - d + d = f by omega, ih (f - d) (by omega)] at h3
          rcases h3 with h3 | h3
          · rw [hf] at h3; cases h3
          · omega
  have := h x hn
  rw [hno] at this
  cases this

theorem may_of_refMay {T : List Nd} (h : refMayB T = true) : mayB T = true := by
  rw [refMayB] at h
  simp only [Bool.and_eq_true] at h
  obtain ⟨h1, h64, hn, he⟩ := h
  have hnode := allB_true.mp hn
  have hup := refNode_upOk hnode
  have hparts : ∀ n, n < T.length → kindFitsB (nd T n) n = true ∧ attrsFrom (nd T n).kind (-1) (nd T n).attrs = true ∧ refKidsB T n = true ∧ shadowB T n = true := fun n hlt => by
    have := hnode n hlt
    simp only [refNodeB, Bool.and_eq_true] at this
    exact ⟨this.1.1.1, this.1.1.2, this.1.2, this.2⟩
  have hkid : ∀ i, i < T.length → (∀ k, k ∈ (nd T i).kids → kidFine T i k ∧ countN (nd T i).kids k = 1) ∧ ((nd T i).kind == 2 && decide (0 < (nd T i).kids.length)) = false ∧ ((nd T i).parent = -1 ∨ ∃ q : Nat, q < T.length ∧ (nd T i).parent = (q : Int) ∧ countN (nd T q).kids (i : Int) = 1) := fun i hi => by
    have hk := (hparts i hi).2.2.1
    simp only [refKidsB, Bool.and_eq_true, List.all_eq_true, Bool.not_eq_true', Bool.or_eq_true, beq_iff_eq] at hk
    obtain ⟨⟨a1, a2⟩, a3⟩ := hk
    refine ⟨fun k hk => ?_, ?_, ?_⟩
    · have := a1 k hk
      simp only [kidOkB, Bool.and_eq_true, Bool.or_eq_true, beq_iff_eq] at this
      obtain ⟨⟨⟨b1, b2⟩, b3⟩, b4⟩ := this
      exact ⟨⟨b1, by simp only [canBeKidB, Bool.or_eq_true, beq_iff_eq]; exact b4, b3⟩, by omega⟩
    · rw [← a2]
      congr 1
      exact decide_eq_decide.mpr (by omega)
    · rcases a3 with h | ⟨h, h'⟩
      · exact Or.inl h
      · obtain ⟨q, hq, hql⟩ := isNodeB_true h
        rw [hq, Int.toNat_natCast] at h'
        exact Or.inr ⟨q, hql, hq, by omega⟩
  have hfit : kidsFitB T = true := by
    obtain ⟨P, hP, hPj⟩ := nodesFrom_runs (T := T) (m := T.length) (n := 0) (P := fun _ => false) (fun i _ hi => ⟨(hkid i (by omega)).2.1, fun k hk => ((hkid i (by omega)).1 k hk).1, nodup_of_count (fun k hk => ((hkid i (by omega)).1 k hk).2)⟩) (fun j hj => by cases hj)
    rw [kidsFitB, hP]
    refine allB_true.mpr (fun n hlt => ?_)
    simp only [looseB, Bool.not_eq_true', Bool.and_eq_false_iff, Bool.not_eq_false', bne_eq_false_iff_eq]
    rcases (hkid n hlt).2.2 with h | ⟨q, hq, _, hc⟩
    · exact Or.inr h
    · exact Or.inl ((hPj n).mpr (Or.inr ⟨q, Nat.zero_le _, by omega, mem_of_count hc⟩))
  rw [mayB, h1, h64, hfit, noLoop_of_ends hup (allB_true.mp he)]
  simp only [Bool.true_and, Bool.not_false, Bool.and_true]
  refine allB_true.mpr (fun n hlt => ?_)
  obtain ⟨p1, p2, p3, p4⟩ := hparts n hlt
  have hp3 : (nd T n).kind = 3 → (nd T n).parent = -1 := fun h3 => by
    rcases (hkid n hlt).2.2 with h | ⟨q, hq, hqp, hc⟩
    · exact h
    · have := (((hkid q hq).1 _ (mem_of_count hc)).1).2.1
      rw [Int.toNat_natCast, h3] at this
      exact absurd this (by decide)
  rw [shadowB_of hp3, Bool.and_eq_true] at p4
  simp only [nodeBad, p1, p2, p4.1, p4.2]
  rfl

theorem refMay_eq (T : List Nd) : refMayB T = mayB T := by
  rw [Bool.eq_iff_iff]
  exact ⟨may_of_refMay, refMay_of_may⟩
end Go.Proofs.YtclhimodopgeoaaGreat
namespace Go.Proofs.YtclhimodopgeoaaGreat
open Go.RowKit
theorem cell_kept' {w : World} {o : Obj} {a : Addr} {v : Value} (h : w.cell? a = some v) : (w.alloc o).cell? a = some v :=
  (World.cell?_alloc_lt _ _ _ (below_of_cell h)).trans h
theorem infoT3 : (Tryz.prog.info? 3).map (fun i => (i.zero, i.size, i.bytes)) = some (some (.int .i64 0), 1, 8) := by kernel_rfl
/-- Two slices lie in two blocks. -/
def Apart (a b : Value) : Prop := ∀ k, a.ownBlock = some k → b.ownBlock ≠ some k
theorem Apart.symm {a b : Value} (h : Apart a b) : Apart b a := fun k hb ha => h k ha hb
def intCells (l : List Int) : List Value := l.map fun x => .int .i64 x
def attrCells : List (Int × Int) → List Value
  | [] => []
  | a :: l => .int .i64 a.1 :: .int .i64 a.2 :: attrCells l
theorem intCells_length (l : List Int) : (intCells l).length = l.length * 1 := by simp [intCells]
theorem attrCells_length : ∀ l : List (Int × Int), (attrCells l).length = l.length * 2
  | [] => rfl
  | a :: l => by simp [attrCells, attrCells_length l]; omega
theorem intCells_one (l : List Int) : ∀ u ∈ intCells l, u.oneCell' = true := by
  intro u hu
  simp only [intCells, List.mem_map] at hu
  obtain ⟨x, _, rfl⟩ := hu
  rfl
theorem intCells_at {l : List Int} {j : Nat} (h : j < l.length) : (intCells l)[j]? = some (.int .i64 (l.getD j 0)) := by
  simp [intCells, List.getElem?_eq_getElem h]
theorem attrCells_at : ∀ {l : List (Int × Int)} {j : Nat}, j < l.length → (attrCells l)[j * 2]? = some (.int .i64 (l.getD j (0, 0)).1) ∧ (attrCells l)[j * 2 + 1]? = some (.int .i64 (l.getD j (0, 0)).2)
  | [], j, h => by simp at h
  | a :: l, 0, h => by simp [attrCells]
  | a :: l, j + 1, h => by
    have ih := attrCells_at (l := l) (j := j) (by simpa using h)
    rw [show (j + 1) * 2 = j * 2 + 1 + 1 by omega]
    simp only [attrCells, List.getElem?_cons_succ, List.getD_cons_succ]
    exact ih
theorem addr_add (b o j : Nat) : (⟨b, o, none⟩ : Addr).add j = ⟨b, o + j, none⟩ := by unfold Addr.add; split <;> simp_all
theorem IntsAt.cells {w : World} {a : Addr} {n cap : Nat} {l : List Int} (h : IntsAt w (.slice (some a) n cap) l) : n = l.length ∧ ∀ j u, (intCells l)[j]? = some u → w.cell? (a.add j) = some u := by
  obtain ⟨a', cap', hv, hc⟩ := h
  simp only [Value.slice.injEq] at hv
  obtain ⟨rfl, rfl, rfl⟩ := hv
  refine ⟨rfl, fun j u hu => ?_⟩
  have hj : j < l.length := by
    have := (List.getElem?_eq_some_iff.1 hu).1
    simpa [intCells] using this
  obtain ⟨b, off, hb, hd⟩ := hc (by omega)
  simp only [Option.some.injEq] at hb
  subst hb
  rw [addr_add, hd j hj, ← hu, intCells_at hj]
theorem AttrsAt.cells {w : World} {a : Addr} {n cap : Nat} {l : List (Int × Int)} (h : AttrsAt w (.slice (some a) n cap) l) : n = l.length ∧ ∀ j u, (attrCells l)[j]? = some u → w.cell? (a.add j) = some u := by
  obtain ⟨a', cap', hv, hc⟩ := h
  simp only [Value.slice.injEq] at hv
  obtain ⟨rfl, rfl, rfl⟩ := hv
  refine ⟨rfl, fun j u hu => ?_⟩
  have hj : j < l.length * 2 := by
    have := (List.getElem?_eq_some_iff.1 hu).1
    rwa [attrCells_length] at this
  obtain ⟨b, off, hb, hd⟩ := hc (by omega)
  simp only [Option.some.injEq] at hb
  subst hb
  rw [addr_add, ← hu]
  have e1 := attrCells_at (l := l) (j := j / 2) (by omega)
  have e2 := hd (j / 2) (by omega)
  rcases Nat.mod_two_eq_zero_or_one j with h0 | h0
  · have ej : j / 2 * 2 = j := by omega
    rw [ej] at e1 e2
    rw [e1.1]; exact e2.1
  · have ej : j / 2 * 2 + 1 = j := by omega
    have ej' : off + j / 2 * 2 + 1 = off + j := by omega
    rw [ej] at e1
    rw [ej'] at e2
    rw [e1.2]; exact e2.2
theorem ownsRow_base {w : World} {base base' : Nat} {e : TypeId} {size : Nat} {v : Value} {n : Nat} {xs : List Value} (h : w.ownsRow base e size v n xs) (hb : base' ≤ base) : w.ownsRow base' e size v n xs := by
  refine ⟨h.1, ?_⟩
  rcases h.2 with h | ⟨g, cap, cur, a, b, r⟩
  · exact .inl h
  · exact .inr ⟨g, cap, cur, a, by omega, r⟩
theorem ownsRow_below {w w' : World} {base : Nat} {e : TypeId} {size : Nat} {v : Value} {n : Nat} {xs : List Value} {K : Nat} (h : w.ownsRow base e size v n xs) (hb : Below K w w') (hk : ∀ g, v.ownBlock = some g → g < K) : w'.ownsRow base e size v n xs := by
  refine ⟨h.1, ?_⟩
  rcases h.2 with h | ⟨g, cap, cur, rfl, b, hg, r⟩
  · exact .inl h
  · exact .inr ⟨g, cap, cur, rfl, b, by rw [hb.block g (hk g rfl)]; exact hg, r⟩
theorem ownsRow_shape {w : World} {base : Nat} {e : TypeId} {size : Nat} {v : Value} {n : Nat} {xs : List Value} (h : w.ownsRow base e size v n xs) : ∃ a c, v = .slice a n c := by
  rcases h.2 with ⟨rfl, rfl⟩ | ⟨g, cap, cur, rfl, r⟩
  · exact ⟨_, _, rfl⟩
  · exact ⟨_, _, rfl⟩
theorem ownsRow_ints {w : World} {base : Nat} {v : Value} {l : List Int} (h : w.ownsRow base 3 1 v l.length (intCells l)) : IntsAt w v l := by
  rcases h.2 with ⟨rfl, h0⟩ | ⟨g, cap, cur, rfl, hb, hg, hn, hm, hs, ht⟩
  · exact ⟨none, 0, by rw [h0], fun h => by omega⟩
  · refine ⟨_, cap, rfl, fun _ => ⟨g, 0, rfl, fun j hj => ?_⟩⟩
    rw [Nat.zero_add, h.cellAt j (by omega), intCells_at hj]
theorem ownsRow_kept_set {w : World} {base : Nat} {e : TypeId} {size : Nat} {v : Value} {n : Nat} {xs : List Value} {g j : Nat} {u : Value} (h : w.ownsRow base e size v n xs) (hne : v.ownBlock ≠ some g) : (w.setCell ⟨g, j, none⟩ u).ownsRow base e size v n xs :=
  h.kept (row := some g) ⟨rfl, rfl, rfl, by simp, fun k _ hk => heap_setCell_other w ⟨g, j, none⟩ k u (fun e => hk (by simp [e]))⟩ (.inr hne)
theorem ownsRow_some {w : World} {base : Nat} {e : TypeId} {size : Nat} {v : Value} {n : Nat} {xs : List Value} (h : w.ownsRow base e size v n xs) (h0 : 0 < n) : ∃ g cap, v = .slice (some ⟨g, 0, none⟩) n cap := by
  rcases h.2 with ⟨_, h1⟩ | ⟨g, cap, cur, hv, _⟩
  · omega
  · exact ⟨g, cap, hv⟩
theorem TreeAt.shape {w : World} {v : Value} {T : List Nd} (h : TreeAt w v T) : ∃ a c, v = .slice a T.length c := let ⟨a, c, h, _⟩ := h; ⟨a, c, h⟩
theorem mayB_pos {T : List Nd} (h : mayB T = true) : 1 ≤ T.length ∧ T.length ≤ 64 := by
  simp only [mayB, Bool.and_eq_true, decide_eq_true_eq] at h
  exact ⟨h.1, h.2.1⟩
end Go.Proofs.YtclhimodopgeoaaGreat
namespace Go.Proofs.YtclhimodopgeoaaGreat
open Go.RowKit

/-- A tree that may be. -/
structure Fine (T : List Nd) : Prop where
  pos : 1 ≤ T.length
  le : T.length ≤ 64
  kind : ∀ n, n < T.length → kindFitsB (nd T n) n = true
  host : ∀ n, n < T.length → hostFitsB T n = true
  root : ∀ n, n < T.length → rootFitsB T n = true
  attrs : ∀ n, n < T.length → attrsFrom (nd T n).kind (-1) (nd T n).attrs = true
  text : ∀ n, n < T.length → (nd T n).kind = 2 → (nd T n).kids = []
  kid : ∀ p, p < T.length → ∀ k, k ∈ (nd T p).kids → kidFine T p k
  nodup : ∀ p, p < T.length → (nd T p).kids.Nodup
  par : ∀ n, n < T.length → (nd T n).parent = -1 ∨ ∃ p, p < T.length ∧ (nd T n).parent = (p : Int) ∧ (n : Int) ∈ (nd T p).kids
  rank : ∃ r : Nat → Nat, ∀ n m : Nat, n < T.length → m < T.length → overI (nd T n) = (m : Int) → r m < r n

theorem mayB_upOk {T : List Nd} (h : mayB T = true) : UpOk T := by
  rw [mayB] at h
  simp only [Bool.and_eq_true] at h
  exact upOk_of h.2.2.1 h.2.2.2.1

/-- Once one has come to nobody, more steps tell nothing new. -/
theorem ups_stable {T : List Nd} (hup : UpOk T) : ∀ {k n : Nat}, n < T.length → endsF T (k + 1) n = true → ∀ m, k ≤ m → ups T m n = ups T k n
  | 0, n, hn, h, m, _ => by
    have hne : ((n : Int) == -1) = false := by simp
    rw [endsF, hne, endsF] at h
    simp at h
  | k + 1, n, hn, h, m, hm => by
    obtain ⟨m, rfl⟩ : ∃ m', m = m' + 1 := ⟨m - 1, by omega⟩
    have hne : ((n : Int) == -1) = false := by simp
    rw [endsF, hne] at h
    simp only [Int.toNat_natCast] at h
    rw [ups, ups]
    cases he : (overI (nd T n) == -1)
    · simp only [Bool.false_eq_true, if_false]
      rcases hup n hn with h1 | h1
      · rw [he] at h1; cases h1
      · obtain ⟨q, hq, hql⟩ := isNodeB_true h1
        rw [hq] at h ⊢
        rw [Int.toNat_natCast, ups_stable hup hql h m (by omega)]
    · rfl

theorem mayB_fine {T : List Nd} (h : mayB T = true) : Fine T := by
  have hup := mayB_upOk h
  have h' := h
  rw [mayB] at h
  simp only [Bool.and_eq_true, decide_eq_true_eq] at h
  obtain ⟨h1, h64, hn, hk, hl⟩ := h
  rw [Bool.not_eq_true'] at hl
  obtain ⟨hkids, hpar⟩ := kidsFit_spec hk
  have hb : ∀ n, n < T.length → (kindFitsB (nd T n) n = true ∧ hostFitsB T n = true) ∧ rootFitsB T n = true ∧ attrsFrom (nd T n).kind (-1) (nd T n).attrs = true := fun n hlt => by
    have hb := allB_true.mp hn n hlt
    simp only [nodeBad, Bool.not_eq_true', Bool.or_eq_false_iff, Bool.not_eq_false'] at hb
    exact ⟨⟨hb.1.1.1, hb.1.1.2⟩, hb.1.2, hb.2⟩
  refine ⟨h1, h64, fun n hn => (hb n hn).1.1, fun n hn => (hb n hn).1.2, fun n hn => (hb n hn).2.1, fun n hn => (hb n hn).2.2, fun n hn h2 => ?_, fun p hp => (hkids p hp).2.1, fun p hp => (hkids p hp).2.2, fun n hn => ?_, ?_⟩
  · have := (hkids n hn).1
    rw [h2] at this
    simpa using this
  · rcases hpar n hn with h | ⟨i, hi, hm⟩
    · exact Or.inl h
    · have hf := (hkids i hi).2.1 _ hm
      exact Or.inr ⟨i, hi, by simpa using hf.2.2, hm⟩
  · refine ⟨fun n => (ups T T.length n).length, fun n m hn hm he => ?_⟩
    have e1 := ends_of_noLoop hup hl hn
    have e2 := ends_of_noLoop hup hl hm
    have hne : (overI (nd T n) == -1) = false := by rw [he]; simp
    have s : ups T (T.length + 1) n = ups T T.length n := ups_stable hup hn e1 _ (by omega)
    show (ups T T.length m).length < (ups T T.length n).length
    rw [← s, ups, hne, he]
    simp

theorem ups_rank {T : List Nd} (hup : UpOk T) {r : Nat → Nat} (hr : ∀ n m : Nat, n < T.length → m < T.length → overI (nd T n) = (m : Int) → r m < r n) : ∀ {k n x : Nat}, n < T.length → x ∈ ups T k n → r x < r n
  | 0, n, x, _, h => by simp [ups] at h
  | k + 1, n, x, hn, h => by
    rw [ups] at h
    cases he : (overI (nd T n) == -1)
    · rw [he, if_neg (by simp)] at h
      rcases hup n hn with h1 | h1
      · rw [he] at h1; cases h1
      · obtain ⟨q, hq, hql⟩ := isNodeB_true h1
        have := hr n q hn hql hq
        rw [hq, Int.toNat_natCast] at h
        rcases List.mem_cons.mp h with rfl | h
        · exact this
        · have := ups_rank hup hr hql h; omega
    · rw [he, if_pos rfl] at h
      simp at h

theorem fine_mayB {T : List Nd} (h : Fine T) : mayB T = true := by
  have hnode : allB T.length (fun n => !nodeBad T n) = true := allB_true.mpr fun n hn => by
    simp only [nodeBad, h.kind n hn, h.host n hn, h.root n hn, h.attrs n hn]; rfl
  have hfit : kidsFitB T = true := by
    obtain ⟨P, hP, hPj⟩ := nodesFrom_runs (T := T) (m := T.length) (n := 0) (P := fun _ => false) (fun i _ hi => ⟨by
      by_cases e : (nd T i).kind = 2
      · rw [h.text i (by omega) e]; simp
      · simp [e], h.kid i (by omega), h.nodup i (by omega)⟩) (fun j hj => by cases hj)
    rw [kidsFitB, hP]
    refine allB_true.mpr (fun n hlt => ?_)
    simp only [looseB, Bool.not_eq_true', Bool.and_eq_false_iff, Bool.not_eq_false', bne_eq_false_iff_eq]
    rcases h.par n hlt with h | ⟨q, hq, _, hc⟩
    · exact Or.inr h
    · exact Or.inl ((hPj n).mpr (Or.inr ⟨q, Nat.zero_le _, by omega, hc⟩))
  have hup : UpOk T := upOk_of hnode hfit
  have hloop : hasLoopB T = false := by
    obtain ⟨r, hr⟩ := h.rank
    rw [hasLoopB, Bool.not_eq_false', allB_true]
    intro n hn
    rw [isAncB, Bool.not_eq_true', List.any_eq_false]
    intro x hx he
    have e : (x : Int) = n := by simpa using he
    obtain rfl : x = n := by omega
    have := ups_rank hup hr hn hx
    omega
  rw [mayB, hnode, hfit, hloop]
  have h1 := h.pos
  have h2 := h.le
  simp [h1, h2]

end Go.Proofs.YtclhimodopgeoaaGreat
namespace Go.Proofs.YtclhimodopgeoaaGreat
open Go.RowKit
variable {P : Program}

/-- append onto a row of one's own; and where the new row lies. -/
theorem append_own_fresh (w : World) (base : Nat) (t ty e : TypeId) (i : TypeInfo) (z : Value) (size bytes : Nat) (ht : P.underlying t = some (.slice e)) (hi : P.info? e = some i) (hz : i.zero = some z)
    (hsize : i.size = size) (hby : i.bytes = bytes) (hzs : z.cells.size = size) (hsz : 0 < size)
    (v : Value) (n : Nat) (xs : List Value) (hown : w.ownsRow base e size v n xs)
    (a : Addr) (m c : Nat) (news : List Value) (hl : news.length = m * size) (hnews : ∀ j u, news[j]? = some u → w.cell? (a.add j) = some u) (h1 : ∀ u ∈ news, u.oneCell' = true)
    (h63 : n + m ≤ maxLen) (hbytes : (n + m) * bytes ≤ 140737488355328) (hbase : base ≤ w.heap.size) :
    ∃ v' w', (Builtin.append_ #[t, t] ty #[v, .slice (some a) m c]).run P w = .ok v' w' ∧ w'.ownsRow base e size v' (n + m) (xs ++ news) ∧ w.grownBy w' v.ownBlock ∧
      (∀ k, v'.ownBlock = some k → v.ownBlock = some k ∨ w.heap.size ≤ k) := by
  obtain ⟨v', w', hr, ho, hg, hnil⟩ := run_append_own (P := P) w base t ty e i z size bytes ht hi hz hsize hby hzs hsz v n xs hown a m c news hl hnews h1 h63 hbytes hbase
  refine ⟨v', w', hr, ho, hg, ?_⟩
  have hsmall : n + m ≤ 9223372036854775807 := by simp only [maxLen] at h63; omega
  subst hsize
  subst hby
  rcases hown.2 with ⟨rfl, rfl⟩ | ⟨g, cap, cur, rfl, hbg, hgg, hnc, hcm, hcs, htake⟩
  · by_cases hm : m = 0
    · rw [hnil.2 ⟨rfl, hm⟩]
      intro k hk
      cases hk
    · have hr' := run_append_nil (P := P) w t ty e i z ht hi hz a m c news hl hnews (by omega) (by omega) (by have hb := hbytes; simp only [Nat.zero_add] at hb; omega)
      rw [hr'] at hr
      simp only [Result.ok.injEq] at hr
      rw [← hr.1]
      intro k hk
      simp [Value.ownBlock] at hk
      exact .inr (by omega)
  · by_cases hroom : n + m ≤ cap
    · have hfit : n * i.size + news.length ≤ cur.size := by rw [hl, hcs, ← Nat.add_mul]; exact Nat.mul_le_mul_right _ hroom
      have hr' := run_append_room (P := P) w t ty e i ht hi g n cap cur hgg a m c news hl hnews h1 hroom hfit
      rw [hr'] at hr
      simp only [Result.ok.injEq] at hr
      rw [← hr.1]
      intro k hk
      exact .inl hk
    · have holds : ∀ j u, xs[j]? = some u → w.cell? ((⟨g, 0, none⟩ : Addr).add j) = some u := hown.cells (g := g) rfl
      have hr' := run_append_grow (P := P) w t ty e i z ht hi hz ⟨g, 0, none⟩ n cap xs hown.1 holds a m c news hl hnews (by omega) (by omega) (growslice_fits (by omega) hbytes)
      rw [hr'] at hr
      simp only [Result.ok.injEq] at hr
      rw [← hr.1]
      intro k hk
      simp [Value.ownBlock] at hk
      exact .inr (by omega)

end Go.Proofs.YtclhimodopgeoaaGreat
namespace Go.Proofs.YtclhimodopgeoaaGreat
open Go.RowKit

theorem run_append_owned_nil {P : Program} {w : World} (base : Nat) (t ty e : TypeId) (i : TypeInfo) (size c : Nat) (ht : P.underlying t = some (.slice e)) (hi : P.info? e = some i)
    (v : Value) (n : Nat) (xs : List Value) (hown : w.ownsRow base e size v n xs) :
    (Builtin.append_ #[t, t] ty #[v, .slice none 0 c]).run P w = .ok v w := by
  rcases hown.2 with ⟨rfl, rfl⟩ | ⟨g, cap, cur, rfl, _, _, hnc, _⟩
  · simp [Builtin.append_, run_underlying ht, sizeOf, typeInfo, hi, Builtin.lenOf, Builtin.firstCells]
  · simp [Builtin.append_, run_underlying ht, sizeOf, typeInfo, hi, Builtin.lenOf, Builtin.firstCells, hnc, storeCells]

/-- What an appended slice holds: cells in memory, or nothing. -/
def Holds (w : World) (u : Value) (m : Nat) (news : List Value) : Prop :=
  (∃ ad c, u = .slice (some ad) m c ∧ ∀ j x, news[j]? = some x → w.cell? (ad.add j) = some x) ∨ (∃ c, u = .slice none 0 c ∧ m = 0 ∧ news = [])

theorem append_any {P : Program} (w : World) (base : Nat) (t ty e : TypeId) (i : TypeInfo) (z : Value) (size bytes : Nat) (ht : P.underlying t = some (.slice e)) (hi : P.info? e = some i) (hz : i.zero = some z)
    (hsize : i.size = size) (hby : i.bytes = bytes) (hzs : z.cells.size = size) (hsz : 0 < size)
    (v : Value) (n : Nat) (xs : List Value) (hown : w.ownsRow base e size v n xs)
    (u : Value) (m : Nat) (news : List Value) (hu : Holds w u m news) (hl : news.length = m * size) (h1 : ∀ x ∈ news, x.oneCell' = true)
    (h63 : n + m ≤ maxLen) (hbytes : (n + m) * bytes ≤ 140737488355328) (hbase : base ≤ w.heap.size) :
    ∃ v' w', (Builtin.append_ #[t, t] ty #[v, u]).run P w = .ok v' w' ∧ w'.ownsRow base e size v' (n + m) (xs ++ news) ∧ w.grownBy w' v.ownBlock ∧
      (∀ k, v'.ownBlock = some k → v.ownBlock = some k ∨ w.heap.size ≤ k) := by
  rcases hu with ⟨ad, c, rfl, hc⟩ | ⟨c, rfl, rfl, rfl⟩
  · exact append_own_fresh w base t ty e i z size bytes ht hi hz hsize hby hzs hsz v n xs hown ad m c news hl hc h1 h63 hbytes hbase
  · exact ⟨v, w, run_append_owned_nil base t ty e i size c ht hi v n xs hown, by rw [List.append_nil]; exact hown, ⟨rfl, rfl, rfl, Nat.le_refl _, fun _ _ _ => rfl⟩, fun k hk => .inl hk⟩

theorem wpList_append_any {P : Program} {w : World} {ops : Array Oper} {rest : List Oper} {o : Oper} {a : Act} {Q : Exit → Act → World → Prop} (hgd : o.guard = none) (s x : Operand) (t : TypeId)
    (ho : o.op = .call { callee := .builtin .append, args := #[s, x], argTypes := #[t, t] })
    (base : Nat) (e : TypeId) (i : TypeInfo) (z : Value) (size bytes : Nat) (ht : P.underlying t = some (.slice e)) (hi : P.info? e = some i) (hz : i.zero = some z)
    (hsize : i.size = size) (hby : i.bytes = bytes) (hzs : z.cells.size = size) (hsz : 0 < size)
    (v : Value) (n : Nat) (xs : List Value) (hs : a.eval s = v) (hown : w.ownsRow base e size v n xs)
    (u : Value) (m : Nat) (news : List Value) (hx : a.eval x = u) (hu : Holds w u m news) (hl : news.length = m * size) (h1 : ∀ x ∈ news, x.oneCell' = true)
    (h63 : n + m ≤ maxLen) (hbytes : (n + m) * bytes ≤ 140737488355328) (hbase : base ≤ w.heap.size)
    (h : ∀ v' w', w'.ownsRow base e size v' (n + m) (xs ++ news) → w.grownBy w' v.ownBlock → (∀ k, v'.ownBlock = some k → v.ownBlock = some k ∨ w.heap.size ≤ k) → wpList P ops Q rest (a.put o.dst v') w') : wpList P ops Q (o :: rest) a w := by
  refine wpList_plain hgd fun K hK => ?_
  obtain ⟨v', w', hrun, h2, h3, h4⟩ := append_any (P := P) w base t o.type e i z size bytes ht hi hz hsize hby hzs hsz v n xs hown u m news hu hl h1 h63 hbytes hbase
  unfold Oper.wp
  simp [execOp, ho, resolve, invoke, builtin, hs, hx, hrun, Result.andThen]
  exact hK _ _ (h v' w' h2 h3 h4)

theorem ints_holds {w : World} {v : Value} {l : List Int} (h : IntsAt w v l) : Holds w v l.length (intCells l) := by
  obtain ⟨a, cap, rfl, hc⟩ := h
  cases a with
  | none =>
    have h0 : l = [] := by
      cases l with
      | nil => rfl
      | cons a l => obtain ⟨b, off, e, _⟩ := hc (by simp); cases e
    subst h0
    exact .inr ⟨cap, rfl, rfl, rfl⟩
  | some ad =>
    obtain ⟨_, h2⟩ := IntsAt.cells (w := w) (a := ad) (n := l.length) (cap := cap) (l := l) ⟨some ad, cap, rfl, hc⟩
    exact .inl ⟨ad, cap, rfl, h2⟩
theorem attrs_holds {w : World} {v : Value} {l : List (Int × Int)} (h : AttrsAt w v l) : Holds w v l.length (attrCells l) := by
  obtain ⟨a, cap, rfl, hc⟩ := h
  cases a with
  | none =>
    have h0 : l = [] := by
      cases l with
      | nil => rfl
      | cons a l => obtain ⟨b, off, e, _⟩ := hc (by simp); cases e
    subst h0
    exact .inr ⟨cap, rfl, rfl, rfl⟩
  | some ad =>
    obtain ⟨_, h2⟩ := AttrsAt.cells (w := w) (a := ad) (n := l.length) (cap := cap) (l := l) ⟨some ad, cap, rfl, hc⟩
    exact .inl ⟨ad, cap, rfl, h2⟩
end Go.Proofs.YtclhimodopgeoaaGreat

namespace Go.Proofs.YtclhimodopgeoaaGreat
open Go.RowKit
theorem IntsAt.shape {w : World} {v : Value} {l : List Int} (h : IntsAt w v l) : ∃ a c, v = .slice a l.length c := by
  obtain ⟨a, cap, rfl, _⟩ := h
  exact ⟨a, cap, rfl⟩
theorem AttrsAt.shape {w : World} {v : Value} {l : List (Int × Int)} (h : AttrsAt w v l) : ∃ a c, v = .slice a l.length c := by
  obtain ⟨a, cap, rfl, _⟩ := h
  exact ⟨a, cap, rfl⟩
def idxL (x : Int) : List Int → Nat
  | [] => 0
  | a :: l => if x == a then 0 else idxL x l + 1
def indexI (l : List Int) (x : Int) : Int := if idxL x l < l.length then (idxL x l : Int) else -1
theorem idxL_mem {x : Int} : ∀ {l : List Int}, x ∈ l → idxL x l < l.length
  | [], h => by simp at h
  | a :: l, h => by
    simp only [idxL]
    cases e : (x == a)
    · rcases List.mem_cons.mp h with rfl | h
      · simp at e
      · have := idxL_mem h
        simp; omega
    · simp
theorem idx_hit {x : Int} : ∀ {l : List Int} {k : Nat}, k < l.length → (∀ j, j < k → (x == l.getD j 0) = false) → (x == l.getD k 0) = true → idxL x l = k
  | [], k, h, _, _ => by simp at h
  | a :: l, 0, _, _, h => by
    have h : (x == a) = true := by simpa using h
    simp only [idxL, h, if_true]
  | a :: l, k + 1, h, hb, hk => by
    have h0 : (x == a) = false := by have := hb 0 (by omega); simpa using this
    simp only [idxL, h0, Bool.false_eq_true, if_false]
    rw [idx_hit (l := l) (k := k) (by simpa using h) (fun j hj => by have := hb (j + 1) (by omega); simpa using this) (by simpa using hk)]
theorem idx_miss {x : Int} : ∀ {l : List Int}, (∀ j, j < l.length → (x == l.getD j 0) = false) → idxL x l = l.length
  | [], _ => rfl
  | a :: l, hb => by
    have h0 : (x == a) = false := by have := hb 0 (by simp); simpa using this
    simp only [idxL, h0, Bool.false_eq_true, if_false]
    rw [idx_miss (l := l) (fun j hj => by have := hb (j + 1) (by simpa using hj); simpa using this)]
    simp
set_option maxRecDepth 100000 in
set_option maxHeartbeats 1000000 in
theorem sliceIndex_any (l : List Int) (v : Value) (x : Int) (w : World) (hI : IntsAt w v l) (hl : l.length ≤ 1000000) :
    Calls Tryz.prog 115 #[v, .int .i64 x] w fun e w' => e = .returned (.int .i64 (indexI l x)) ∧ w' = w := by
  obtain ⟨a, cap, rfl, hc⟩ := hI
  go_enter Tryz.func115, Tryz.ntmps115
  go_wp2_with fail
  go_loopw [8] (fun i wr => ∃ k : Nat, k ≤ l.length ∧ i = .int .i64 k ∧ wr = w ∧ ∀ j, j < k → (x == l.getD j 0) = false) (fun i _ => l.length - (intOf i).toNat)
  case atStart => exact ⟨0, Nat.zero_le _, rfl, rfl, fun j h => by omega⟩
  case round =>
    obtain ⟨k, hk, rfl, rfl, hno⟩ := hrel
    have HN := hideG hno
    clear hno
    by_cases hlt : k < l.length
    · obtain ⟨b, off, rfl, hd⟩ := hc (by omega)
      have c1 := hd k hlt
      clear hd hc
      cases hx : (x == l.getD k 0)
      · have HX := hideG hx
        generalize l.getD k 0 = y at hx c1
        go_wp2_with fail
        go_roundw
        case rel =>
          refine ⟨k + 1, by omega, by go_num, trivial, fun j hj => ?_⟩
          by_cases e : j = k
          · rw [e]; exact HX.out
          · exact HN.out j (by omega)
        case measure => simp [intOf]; omega
      · have HX := hideG (idx_hit hlt HN.out hx)
        generalize l.getD k 0 = y at hx c1
        go_wp2_with fail
        go_ret
        exact ⟨ret_int (by rw [indexI, HX.out, if_pos hlt]), rfl⟩
    · clear hc
      have hke : k = l.length := by omega
      subst hke
      go_wp2_with fail
      go_ret
      exact ⟨ret_int (by rw [indexI, idx_miss HN.out, if_neg (by omega)]), rfl⟩
theorem list_ext_getD {l m : List Int} (hl : l.length = m.length) (h : ∀ j, j < l.length → l.getD j 0 = m.getD j 0) : l = m := by
  apply List.ext_getElem hl
  intro j h1 h2
  have := h j h1
  simpa [List.getD_eq_getElem?_getD, List.getElem?_eq_getElem h1, List.getElem?_eq_getElem h2] using this
def smallB (T : List Nd) : Bool := decide (T.length ≤ 70) && T.all fun x => decide (x.kids.length ≤ 80) && decide (x.attrs.length ≤ 20)
theorem smallB_of {T : List Nd} (h : T.length ≤ 70) (hx : ∀ j, j < T.length → (nd T j).kids.length ≤ 80 ∧ (nd T j).attrs.length ≤ 20) : smallB T = true := by
  simp only [smallB, Bool.and_eq_true, decide_eq_true_eq, List.all_eq_true]
  refine ⟨h, fun x hm => ?_⟩
  obtain ⟨j, hj, rfl⟩ := List.mem_iff_getElem.mp hm
  have := hx j hj
  simpa [nd, List.getD_eq_getElem?_getD, List.getElem?_eq_getElem hj] using this
theorem smallB_at {T : List Nd} (h : smallB T = true) : T.length ≤ 70 ∧ ∀ j, j < T.length → (nd T j).kids.length ≤ 80 ∧ (nd T j).attrs.length ≤ 20 := by
  simp only [smallB, Bool.and_eq_true, decide_eq_true_eq, List.all_eq_true] at h
  refine ⟨h.1, fun j hj => ?_⟩
  have := h.2 T[j] (List.getElem_mem hj)
  simpa [nd, List.getD_eq_getElem?_getD, List.getElem?_eq_getElem hj] using this
theorem smallB_len {T : List Nd} (h : ¬ T.length ≤ 70) : smallB T = false := by simp [smallB]; omega
theorem smallB_bad {T : List Nd} {j : Nat} (hj : j < T.length) (h : ¬ ((nd T j).kids.length ≤ 80 ∧ (nd T j).attrs.length ≤ 20)) : smallB T = false := by
  cases hs : smallB T
  · rfl
  · exact absurd ((smallB_at hs).2 j hj) h
set_option maxRecDepth 100000 in
set_option maxHeartbeats 1000000 in
theorem refSmall_any (T : List Nd) (v : Value) (w : World) (hT : TreeAt w v T) :
    Calls Tryz.prog 42 #[v] w fun e w' => e = .returned (.bool (smallB T)) ∧ w' = w := by
  have HT : Hid (TreeAt w v T) := hT
  obtain ⟨a, cap, rfl, _⟩ := hT
  by_cases h70 : T.length ≤ 70
  · go_enter Tryz.func42, Tryz.ntmps42
    go_wp2_with fail
    go_loopw [3] (fun i wr => ∃ k : Nat, k ≤ T.length ∧ i = .int .i64 k ∧ wr = w ∧ (∀ j, j < k → (nd T j).kids.length ≤ 80 ∧ (nd T j).attrs.length ≤ 20)) (fun i _ => T.length - (intOf i).toNat)
    case atStart => exact ⟨0, Nat.zero_le _, rfl, rfl, fun j h => by omega⟩
    case round =>
      obtain ⟨k, hk, rfl, rfl, hEq⟩ := hrel
      have HE : Hid (∀ j, j < k → (nd T j).kids.length ≤ 80 ∧ (nd T j).attrs.length ≤ 20) := hEq
      clear hEq
      by_cases hlt : k < T.length
      · obtain ⟨b, off, cap', hv, hc⟩ := HT.out.at (by omega)
        obtain ⟨rfl, rfl⟩ : a = some ⟨b, off, none⟩ ∧ cap = cap' := by simpa using hv
        obtain ⟨kv, av, hN⟩ := hc k hlt
        have c3 := hN.kidsc
        have c6 := hN.attrsc
        obtain ⟨ka, kc, rfl, _⟩ := hN.kids
        obtain ⟨aa, ac, rfl, _⟩ := hN.attrs
        clear hN hc hv
        by_cases hk8 : (nd T k).kids.length ≤ 80
        · by_cases ha2 : (nd T k).attrs.length ≤ 20
          · go_wp2_with fail
            go_roundw
            case rel =>
              refine ⟨k + 1, by omega, by go_num, trivial, fun j hj => ?_⟩
              by_cases h : j = k
              · subst h; exact ⟨hk8, ha2⟩
              · exact HE.out j (by omega)
            case measure => simp [intOf]; omega
          · go_wp2_with fail
            go_ret
            exact ⟨ret_bool (Eq.symm (smallB_bad hlt (fun h => ha2 h.2))), rfl⟩
        · go_wp2_with fail
          go_ret
          exact ⟨ret_bool (Eq.symm (smallB_bad hlt (fun h => hk8 h.1))), rfl⟩
      · go_wp2_with fail
        go_ret
        refine ⟨ret_bool ?_, rfl⟩
        rw [smallB_of h70 (fun j hj => HE.out j (by omega))]
        simp; omega
  · go_enter Tryz.func42, Tryz.ntmps42
    go_wp2_with fail
    go_loopw [3] (fun i wr => i = .int .i64 0 ∧ wr = w) (fun _ _ => 0)
    case atStart => exact ⟨rfl, rfl⟩
    case round =>
      obtain ⟨rfl, rfl⟩ := hrel
      by_cases h0 : 0 < T.length
      · go_wp2_with fail
        go_ret
        refine ⟨ret_bool ?_, rfl⟩
        rw [smallB_len h70]
        simp; omega
      · omega
/-- No list of kids is long. -/
theorem fine_short {T : List Nd} (h : Fine T) {n : Nat} (hn : n < T.length) : (nd T n).kids.length ≤ 64 := by
  have hnd := h.nodup n hn
  have hk := h.kid n hn
  have h1 : ((nd T n).kids.map Int.toNat).Nodup := by
    have : ∀ l : List Int, l.Nodup → (∀ k ∈ l, 0 ≤ k) → (l.map Int.toNat).Nodup := by
      intro l hl hp
      induction l with
      | nil => simp
      | cons a l ih =>
        rw [List.nodup_cons] at hl
        rw [List.map_cons, List.nodup_cons]
        refine ⟨fun hm => ?_, ih hl.2 (fun k hk => hp k (List.mem_cons_of_mem _ hk))⟩
        obtain ⟨x, hx, he⟩ := List.mem_map.mp hm
        have h1 := hp a (List.mem_cons_self ..)
        have h2 := hp x (List.mem_cons_of_mem _ hx)
        have : x = a := by omega
        exact hl.1 (this ▸ hx)
    exact this _ hnd (fun k hk' => by
      obtain ⟨m, hm, _⟩ := isNodeB_true (hk k hk').1
      omega)
  have h2 := pigeon T.length _ h1 (fun x hx => by
    obtain ⟨k, hk', rfl⟩ := List.mem_map.mp hx
    obtain ⟨m, hm, hl⟩ := isNodeB_true (hk k hk').1
    omega)
  rw [List.length_map] at h2
  have := h.le
  omega
def RootP (T : List Nd) (n : Nat) : Prop := (nd T n).root = -1 ∨ ((nd T n).kind = 1 ∧ ∃ r : Nat, r < T.length ∧ (nd T n).root = (r : Int) ∧ (nd T r).kind = 3 ∧ (nd T r).host = (n : Int))
def KidP (T : List Nd) (p : Nat) (k : Int) : Prop := ∃ m : Nat, k = m ∧ m < T.length ∧ canBeKidB (nd T m).kind = true ∧ (nd T m).parent = (p : Int)
theorem rootP_iff {T : List Nd} {n : Nat} : rootFitsB T n = true ↔ RootP T n := by
  unfold rootFitsB RootP
  by_cases hr : (nd T n).root = -1
  · rw [hr]; simp
  · by_cases hk : (nd T n).kind = 1
    · have e : ((nd T n).kind != 1 || (nd T n).root == -1) = false := by simp [hk, hr]
      rw [e]
      simp only [Bool.false_eq_true, if_false, Bool.and_eq_true, beq_iff_eq]
      constructor
      · rintro ⟨⟨h1, h2⟩, h3⟩
        obtain ⟨m, hm, hl⟩ := isNodeB_true h1
        rw [hm, Int.toNat_natCast] at h2 h3
        exact .inr ⟨hk, m, hl, hm, h2, h3⟩
      · rintro (h | ⟨_, m, hl, hm, h2, h3⟩)
        · exact absurd h hr
        · rw [hm, Int.toNat_natCast]
          exact ⟨⟨by simp [isNodeB]; omega, h2⟩, h3⟩
    · have e : ((nd T n).kind != 1 || (nd T n).root == -1) = true := by simp [hk]
      rw [e]
      simp only [if_true, beq_iff_eq]
      constructor
      · intro h; exact absurd h hr
      · rintro (h | ⟨h, _⟩)
        · exact h
        · exact absurd h hk
theorem kidP_iff {T : List Nd} {p : Nat} {k : Int} : kidFine T p k ↔ KidP T p k := by
  constructor
  · rintro ⟨h1, h2, h3⟩
    obtain ⟨m, rfl, hl⟩ := isNodeB_true h1
    rw [Int.toNat_natCast] at h2 h3
    exact ⟨m, rfl, hl, h2, h3⟩
  · rintro ⟨m, rfl, hl, h2, h3⟩
    exact ⟨by simp [isNodeB]; omega, by rwa [Int.toNat_natCast], by rwa [Int.toNat_natCast]⟩
/-- Two trees of the same nodes, but for kids and parents. -/
theorem fine_up {T : List Nd} (h : Fine T) {n m : Nat} (hn : n < T.length) (e : overI (nd T n) = (m : Int)) : m < T.length := by
  have hup := mayB_upOk (fine_mayB h)
  rcases hup n hn with h1 | h1
  · rw [e] at h1; simp at h1
  · rw [e] at h1
    obtain ⟨q, hq, hl⟩ := isNodeB_true h1
    omega
theorem over_parent {x : Nd} (h : x.kind ≠ 3) : overI x = x.parent := by
  unfold overI
  have : (x.kind == 3) = false := by simpa using h
  rw [this]; rfl
theorem kid_not_shadow {k : Int} (h : canBeKidB k = true) : k ≠ 3 := by
  rintro rfl
  exact absurd h (by decide)
theorem nd_mem {T : List Nd} {n : Nat} (h : n < T.length) : nd T n ∈ T := by
  unfold nd
  rw [List.getD_eq_getElem?_getD, List.getElem?_eq_getElem h]
  exact List.getElem_mem h
def shortB (T : List Nd) : Bool := T.all fun x => decide (x.kids.length ≤ 1000) && decide (x.attrs.length ≤ 1000)
theorem sane_of {T : List Nd} (h : shortB T = true) : Sane T := fun n hn => by
  have := List.all_eq_true.mp h _ (nd_mem hn)
  simp only [Bool.and_eq_true, decide_eq_true_eq] at this
  omega
theorem ints_new1 (w : World) (x : Int) : IntsAt (w.alloc (.cells #[.int .i64 x] 3)) (.slice (some ⟨w.heap.size, 0, none⟩) 1 1) [x] := by
  refine ⟨_, 1, rfl, fun _ => ⟨w.heap.size, 0, rfl, fun j hj => ?_⟩⟩
  match j, hj with
  | 0, _ => simp
theorem small_sane {T : List Nd} (h : smallB T = true) : Sane T := fun n hn => by have := (smallB_at h).2 n hn; omega
theorem fine_host {T : List Nd} (hF : Fine T) {n : Nat} (hn : n < T.length) (e : (nd T n).kind = 3) : ∃ h : Nat, h < T.length ∧ (nd T n).host = (h : Int) ∧ (nd T h).kind = 1 ∧ (nd T h).root = (n : Int) := by
  have h := hF.host n hn
  rw [hostFitsB, e] at h
  simp only [bne_self_eq_false, Bool.false_eq_true, if_false, Bool.and_eq_true, beq_iff_eq] at h
  obtain ⟨⟨h1, h2⟩, h3⟩ := h
  obtain ⟨m, hm, hl⟩ := isNodeB_true h1
  rw [hm, Int.toNat_natCast] at h2 h3
  exact ⟨m, hl, hm, h2, h3⟩
theorem refMay_walk (T : List Nd) (hS : Sane T) (v : Value) (w : World) (hT : TreeAt w v T) :
    Calls Tryz.prog 38 #[v] w fun e w' => e = .returned (.bool (mayB T)) ∧ Below w.heap.size w w' := by
  rw [← refMay_eq]; exact refMay_any T hS v w hT
theorem intCells_snoc (l : List Int) (x : Int) : intCells l ++ [.int .i64 x] = intCells (l ++ [x]) := by simp [intCells]
theorem row_new1 (w : World) (x : Int) : Holds (w.alloc (.cells #[.int .i64 x] 3)) (.slice (some ⟨w.heap.size, 0, none⟩) 1 1) 1 [.int .i64 x] := by
  refine .inl ⟨⟨w.heap.size, 0, none⟩, 1, rfl, fun j u hj => ?_⟩
  rw [addr_add, Nat.zero_add, World.cell?_alloc_at _ _ _ _ (by simp)]
  simpa using hj

end Go.Proofs.YtclhimodopgeoaaGreat

namespace Go.Proofs.YtclhimodopgeoaaGreat
open Go.RowKit Go.Shelf

/-- The block of the row whose slice stands in cell X. -/
def ownX (X : Nat) (W : World) : Option Nat := (W.cell? ⟨X, 0, none⟩).bind Value.ownBlock
theorem ownX_block {X : Nat} {A B : World} (h : B.heap[X]? = A.heap[X]?) : ownX X B = ownX X A := by
  unfold ownX; rw [World.cell?_of_block (a := ⟨X, 0, none⟩) h]

/-- All lies as it lay, but what E names, and the row of X; that row is the old one, or new. -/
structure Kd (E : Nat → Prop) (X : Nat) (A B : World) : Prop where
  os : B.os = A.os
  tape : B.tape = A.tape
  output : B.output = A.output
  size : A.heap.size ≤ B.heap.size
  block : ∀ k, k < A.heap.size → ¬ E k → ownX X A ≠ some k → B.heap[k]? = A.heap[k]?
  own : ∀ g, ownX X B = some g → ownX X A = some g ∨ (A.heap.size ≤ g ∧ g < B.heap.size)

variable {E E' : Nat → Prop} {X : Nat} {A B C : World}
theorem Kd.refl (E : Nat → Prop) (X : Nat) (A : World) : Kd E X A A := ⟨rfl, rfl, rfl, Nat.le_refl _, fun _ _ _ _ => rfl, fun _ h => .inl h⟩
theorem Kd.trans (h : Kd E X A B) (k : Kd E X B C) : Kd E X A C := by
  refine ⟨k.os.trans h.os, k.tape.trans h.tape, k.output.trans h.output, Nat.le_trans h.size k.size, fun j hj he ho => ?_, fun g hg => ?_⟩
  · have h1 := h.block j hj he ho
    refine (k.block j (Nat.lt_of_lt_of_le hj h.size) he (fun e => ?_)).trans h1
    rcases h.own j e with e' | ⟨e', _⟩
    · exact ho e'
    · omega
  · have s1 := h.size
    have s2 := k.size
    rcases k.own g hg with e | ⟨e1, e2⟩
    · rcases h.own g e with e | ⟨e1, e2⟩
      · exact .inl e
      · exact .inr ⟨e1, by omega⟩
    · exact .inr ⟨by omega, e2⟩
theorem Kd.mono (h : Kd E X A B) (he : ∀ k, E k → E' k) : Kd E' X A B := ⟨h.os, h.tape, h.output, h.size, fun k hk hn ho => h.block k hk (fun e => hn (he k e)) ho, h.own⟩
theorem Kd.putObj (W : World) {l : Nat} (o : Obj) (hl : E l) (hX : l ≠ X) : Kd E X W (W.putObj l o) := by
  have hb : ∀ k, k ≠ l → (W.putObj l o).heap[k]? = W.heap[k]? := fun k hk => World.putObj_heap_other hk
  refine ⟨rfl, rfl, rfl, by simp, fun k _ he _ => hb k (fun e => he (e ▸ hl)), fun g hg => .inl ?_⟩
  rw [ownX_block (hb X (fun e => hX e.symm))] at hg
  exact hg
theorem Kd.alloc (W : World) (o : Obj) (hX : X < W.heap.size) : Kd E X W (W.alloc o) := by
  have hb := (Below.refl W.heap.size W).alloc (Nat.le_refl _) o
  refine ⟨hb.os, hb.tape, hb.output, hb.size, fun k hk _ _ => hb.block k hk, fun g hg => .inl ?_⟩
  rw [ownX_block (hb.block X hX)] at hg
  exact hg
/-- What lies in a block that no round touches. -/
def Held (E : Nat → Prop) (X : Nat) (W : World) (k : Nat) : Prop := k < W.heap.size ∧ ¬ E k ∧ ownX X W ≠ some k
theorem Held.kd {k : Nat} (h : Held E X A k) (hk : Kd E X A B) : Held E X B k := by
  refine ⟨Nat.lt_of_lt_of_le h.1 hk.size, h.2.1, fun e => ?_⟩
  rcases hk.own k e with e' | ⟨e', _⟩
  · exact h.2.2 e'
  · have := h.1; omega
theorem Held.cell {k o : Nat} {v : Value} (h : Held E X A k) (hk : Kd E X A B) (hc : A.cell? ⟨k, o, none⟩ = some v) : B.cell? ⟨k, o, none⟩ = some v :=
  (World.cell?_of_block (a := ⟨k, o, none⟩) (hk.block k h.1 h.2.1 h.2.2)).trans hc
theorem Kd.below {b0 : Nat} (h : Kd E X A B) (hE : ∀ k, E k → b0 ≤ k) (ho : ∀ g, ownX X A = some g → b0 ≤ g) (hs : b0 ≤ A.heap.size) : Below b0 A B :=
  ⟨h.os, h.tape, h.output, h.size, fun k hk => h.block k (by omega) (fun e => by have := hE k e; omega) (fun e => by have := ho k e; omega)⟩
end Go.Proofs.YtclhimodopgeoaaGreat

namespace Go.Proofs.YtclhimodopgeoaaGreat
open Go.RowKit

/-- All above a node. -/
def upsL (T : List Nd) (n : Nat) : List Nat := ups T T.length n
theorem upsL_none {T : List Nd} {n : Nat} (h : (overI (nd T n) == -1) = true) : upsL T n = [] := ups_none h
theorem upsL_some {T : List Nd} (hm : mayB T = true) {n m : Nat} (hn : n < T.length) (h : overI (nd T n) = (m : Int)) : upsL T n = m :: upsL T m ∧ m < T.length := by
  have hup := mayB_upOk hm
  have hml := fine_up (mayB_fine hm) hn h
  have hl : hasLoopB T = false := by
    rw [mayB] at hm
    simp only [Bool.and_eq_true] at hm
    simpa using hm.2.2.2.2
  have e1 := ends_of_noLoop hup hl hn
  have hne : (overI (nd T n) == -1) = false := by rw [h]; simp
  refine ⟨?_, hml⟩
  unfold upsL
  rw [← ups_stable hup hn e1 (T.length + 1) (by omega), ups, hne, h]
  simp

end Go.Proofs.YtclhimodopgeoaaGreat

namespace Go.Proofs.YtclhimodopgeoaaGreat
open Go.RowKit Go.Shelf

attribute [local go_sem] Oper.semAt_some

def parsF (T : List Nd) : Nat → Nat → List Nat
  | 0, _ => []
  | m + 1, n => n :: (if (nd T n).parent == -1 then [] else parsF T m (nd T n).parent.toNat)
/-- A node, its parent, that one's parent, and so on. -/
def pars (T : List Nd) (n : Nat) : List Nat := parsF T (T.length + 1) n

theorem fine_shadow_parent {T : List Nd} (h : Fine T) {n : Nat} (hn : n < T.length) (hk : (nd T n).kind = 3) : (nd T n).parent = -1 := by
  rcases h.par n hn with e | ⟨p, hp, e, hm⟩
  · exact e
  · obtain ⟨m, e1, _, hkk, _⟩ := kidP_iff.mp (h.kid p hp _ hm)
    obtain rfl : n = m := by omega
    exact absurd hk (kid_not_shadow hkk)
theorem over_of_parent {T : List Nd} (h : Fine T) {n m : Nat} (hn : n < T.length) (e : (nd T n).parent = (m : Int)) : overI (nd T n) = (m : Int) := by
  by_cases hk : (nd T n).kind = 3
  · rw [fine_shadow_parent h hn hk] at e; omega
  · rw [over_parent hk]; exact e
theorem parent_cases {T : List Nd} (h : Fine T) {n : Nat} (hn : n < T.length) : (((nd T n).parent == -1) = true) ∨ (((nd T n).parent == -1) = false ∧ ∃ m : Nat, m < T.length ∧ (nd T n).parent = (m : Int)) := by
  rcases h.par n hn with e | ⟨p, hp, e, _⟩
  · exact .inl (by simp [e])
  · exact .inr ⟨by simp [e], p, hp, e⟩

theorem upsL_le (T : List Nd) (n : Nat) : (upsL T n).length ≤ T.length := by
  have : ∀ k n, (ups T k n).length ≤ k := fun k => by
    induction k with
    | zero => intro n; simp [ups]
    | succ k ih =>
      intro n
      rw [ups]
      split
      · simp
      · have := ih (overI (nd T n)).toNat
        simp; omega
  exact this _ _
theorem parsF_stable {T : List Nd} (hm : mayB T = true) : ∀ {k n : Nat}, n < T.length → (upsL T n).length < k → ∀ j, k ≤ j → parsF T j n = parsF T k n
  | 0, n, _, h, _, _ => by omega
  | k + 1, n, hn, h, j, hj => by
    obtain ⟨j, rfl⟩ : ∃ j', j = j' + 1 := ⟨j - 1, by omega⟩
    rw [parsF, parsF]
    rcases parent_cases (mayB_fine hm) hn with e | ⟨e, m, hml, hpm⟩
    · rw [e]; rfl
    · rw [e, hpm, Int.toNat_natCast]
      have hs := (upsL_some hm hn (over_of_parent (mayB_fine hm) hn hpm)).1
      rw [hs, List.length_cons] at h
      rw [parsF_stable hm hml (k := k) (by omega) j (by omega)]
theorem pars_none {T : List Nd} {n : Nat} (h : ((nd T n).parent == -1) = true) : pars T n = [n] := by
  rw [pars, parsF, h]; rfl
theorem pars_some {T : List Nd} (hm : mayB T = true) {n m : Nat} (hn : n < T.length) (h : (nd T n).parent = (m : Int)) : pars T n = n :: pars T m := by
  have hov := upsL_some hm hn (over_of_parent (mayB_fine hm) hn h)
  have hne : ((nd T n).parent == -1) = false := by rw [h]; simp
  have hle := upsL_le T n
  rw [hov.1, List.length_cons] at hle
  rw [pars, parsF, hne, h, Int.toNat_natCast, pars, parsF_stable hm hov.2 (k := T.length) (by omega) (T.length + 1) (by omega)]
  rfl
theorem parsF_len (T : List Nd) : ∀ (k n : Nat), (parsF T k n).length ≤ k
  | 0, _ => by simp [parsF]
  | k + 1, n => by
    rw [parsF]
    split
    · simp
    · have := parsF_len T k (nd T n).parent.toNat
      simp; omega
theorem pars_le (T : List Nd) (n : Nat) : (pars T n).length ≤ T.length + 1 := parsF_len T _ n
theorem pars_ne (T : List Nd) (n : Nat) : pars T n ≠ [] := by rw [pars, parsF]; simp
theorem oup_in (a : Option Addr) (len cap : Nat) (n : Int) (m : Nat) (w : World) :
    CallsIn Fence.wide m Tryz.prog 186 #[.slice a len cap, .int .i64 n] w fun e w' => e = .returned (.func (.func 194) #[] #[.pointer (some ⟨w.heap.size + 1, 0, none⟩), .pointer (some ⟨w.heap.size, 0, none⟩)]) ∧ w' = (w.alloc (.cells #[.slice a len cap] 23)).alloc (.cells #[.int .i64 n] 3) := by
  refine callsIn_of_wp Tryz.func186 rfl trivial ?_ rfl
  simp only [Tryz.ntmps186, List.size_toArray, List.length_cons, List.length_nil, Nat.reduceAdd, Nat.reduceSub, Array.replicate_succ, Array.replicate_zero, List.push_toArray, List.append_toArray, List.nil_append, List.cons_append]
  gi_wp2
  go_ret
  exact ⟨rfl, rfl⟩

/-- Blocks below N are what they were, but for block X. -/
structure But (N X : Nat) (A B : World) : Prop where
  size : A.heap.size ≤ B.heap.size
  block : ∀ k, k < N → k ≠ X → B.heap[k]? = A.heap[k]?
theorem But.refl (N X : Nat) (A : World) : But N X A A := ⟨Nat.le_refl _, fun _ _ _ => rfl⟩
theorem But.trans {N X : Nat} {A B C : World} (h : But N X A B) (k : But N X B C) : But N X A C := ⟨Nat.le_trans h.size k.size, fun j hj hx => (k.block j hj hx).trans (h.block j hj hx)⟩
theorem But.of_below {N X K : Nat} {A B : World} (h : Below K A B) (hK : N ≤ K) : But N X A B := ⟨h.size, fun j hj _ => h.block j (by omega)⟩
theorem But.cell {N X : Nat} {A B : World} (h : But N X A B) {b o : Nat} (hb : b < N) (hx : b ≠ X) : B.cell? ⟨b, o, none⟩ = A.cell? ⟨b, o, none⟩ := World.cell?_of_block (a := ⟨b, o, none⟩) (h.block b hb hx)
theorem But.setCell {N X o : Nat} {A B : World} (h : But N X A B) (u : Value) : But N X A (B.setCell ⟨X, o, none⟩ u) :=
  ⟨by simpa using h.size, fun j hj hx => (heap_setCell_other B ⟨X, o, none⟩ j u (fun e => hx e)).trans (h.block j hj hx)⟩
theorem but_b {N X : Nat} {w : World} (hn : N ≤ w.heap.size) (W : World) (l : Nat) (o o' : Obj) (hl : w.heap.size ≤ l) (h : W.heap[l]? = some o) (hc : o.isCells = false) (hw : o.isWalk = false) : But N X W (W.putObj l o') :=
  But.of_below (belowK_b hn W l o o' hl h hc hw) (Nat.le_refl _)
theorem TreeAt.but {w A B : World} {v : Value} {T : List Nd} {N X : Nat} (h : TreeAt w v T) (hA : Below w.heap.size w A) (hb : But N X A B) (hN : w.heap.size ≤ N) (hX : w.heap.size ≤ X) : TreeAt B v T :=
  by
    obtain ⟨a, cap, rfl, hc⟩ := h
    have key : ∀ {b o : Nat} {u : Value}, w.cell? ⟨b, o, none⟩ = some u → B.cell? ⟨b, o, none⟩ = some u := fun {b o u} hu => by
      have hlt : b < w.heap.size := below_of_cell hu
      rw [hb.cell (by omega) (by omega)]
      exact cell_below hA hu
    refine ⟨a, cap, rfl, fun h0 => ?_⟩
    obtain ⟨b, off, rfl, hd⟩ := hc h0
    refine ⟨b, off, rfl, fun n hn => ?_⟩
    obtain ⟨kv, av, g0, g1, g2, g3, g4, g5, g6, gk, ga⟩ := hd n hn
    refine ⟨kv, av, key g0, key g1, key g2, key g3, key g4, key g5, key g6, ?_, ?_⟩
    · obtain ⟨a, cap, rfl, hk⟩ := gk
      refine ⟨a, cap, rfl, fun h0 => ?_⟩
      obtain ⟨b, off, rfl, hd⟩ := hk h0
      exact ⟨b, off, rfl, fun j hj => key (hd j hj)⟩
    · obtain ⟨a, cap, rfl, hk⟩ := ga
      refine ⟨a, cap, rfl, fun h0 => ?_⟩
      obtain ⟨b, off, rfl, hd⟩ := hk h0
      exact ⟨b, off, rfl, fun j hj => ⟨key (hd j hj).1, key (hd j hj).2⟩⟩

/-- What the iterator reads, however the world has turned. -/
def Reads (R : World → World → Prop) (w2 : World) (v : Value) (T : List Nd) (n : Nat) (Bn Bt : Nat) : Prop :=
  ∀ W, R w2 W → TreeAt W v T ∧ W.cell? ⟨Bn, 0, none⟩ = some (.int .i64 (n : Int)) ∧ W.cell? ⟨Bt, 0, none⟩ = some v

set_option maxRecDepth 100000 in
set_option maxHeartbeats 2000000 in
theorem oup1_in (T : List Nd) (hm : mayB T = true) (v : Value) (n : Nat) (hn : n < T.length) (l Bn Bt : Nat) (w2 : World) (R : World → World → Prop) (hRt : ∀ {A B C : World}, R A B → R B C → R A C) (hF : Reads R w2 v T n Bn Bt)
    (hv : ∃ b off cap, v = .slice (some ⟨b, off, none⟩) T.length cap) (J Jx : List Nat → World → Prop)
    (hY : ∀ pre x W, J pre W → pre.length < T.length + 1 → YieldAt Fence.wide 4 Tryz.prog l #[.int .i64 ((x : Nat) : Int)] W fun e W' =>
      (e = .returned (.bool true) ∧ J (pre ++ [x]) W' ∧ R W W') ∨ (e = .returned (.bool false) ∧ Jx (pre ++ [x]) W'))
    (W : World) (hW : R w2 W) (h0 : J [] W) :
    CallsIn Fence.wide 5 Tryz.prog 194 #[.func (.yield l) #[] #[], .pointer (some ⟨Bn, 0, none⟩), .pointer (some ⟨Bt, 0, none⟩)] W fun e W' => (∃ v, e = .returned v) ∧
      ((∃ ys, ys = pars T n ∧ J ys W') ∨ (∃ pre, pre <+: pars T n ∧ Jx pre W')) := by
  obtain ⟨b, off, cap, rfl⟩ := hv
  have cBn := (hF W hW).2.1
  have HF : Hid (Reads R w2 (.slice (some ⟨b, off, none⟩) T.length cap) T n Bn Bt) := hF
  have HM : Hid (mayB T = true) := hm
  have hpos := mayB_pos hm
  clear hF hm
  refine callsIn_of_wp Tryz.func194 rfl trivial ?_ rfl
  simp only [Tryz.ntmps194, List.size_toArray, List.length_cons, List.length_nil, Nat.reduceAdd, Nat.reduceSub, Array.replicate_succ, Array.replicate_zero, List.push_toArray, List.append_toArray, List.nil_append, List.cons_append]
  gi_wp2
  gi_loopw [4] (fun t wr => ∃ pre : List Nat, J pre wr ∧ R w2 wr ∧ ((∃ at_ : Nat, at_ < T.length ∧ t = .int .i64 (at_ : Int) ∧ pars T n = pre ++ pars T at_) ∨ (t = .int .i64 (-1) ∧ pars T n = pre)))
    (fun t _ => if intOf t = -1 then 0 else (upsL T (intOf t).toNat).length + 1)
  case atStart => exact ⟨[], h0, hW, .inl ⟨n, hn, rfl, rfl⟩⟩
  case round =>
    obtain ⟨pre, hJs, hB, hrel⟩ := hrel
    rcases hrel with ⟨at_, hat, rfl, hpars⟩ | ⟨rfl, hpars⟩
    · have HP : Hid (pars T n = pre ++ pars T at_) := hpars
      clear hpars cBn
      have hat1 : ((at_ : Int) != -1) = true := by simp
      have hlenp : pre.length < T.length + 1 := by
        have h1 := pars_le T n
        have h2 := List.length_pos_iff.mpr (pars_ne T at_)
        rw [HP.out, List.length_append] at h1
        omega
      obtain ⟨fn, tmps, assign, body, hy, hR⟩ := hY pre at_ _ hJs hlenp
      gi_wp2
      refine hR.mono ?_
      rintro e W3 (⟨rfl, hJ3, hk3⟩ | ⟨rfl, hJx3⟩)
      · have hB3 := hRt hB hk3
        obtain ⟨hT3, _, cBt'⟩ := HF.out W3 hB3
        obtain ⟨b', off', cap', hv', hc⟩ := hT3.at (by omega)
        simp only [Value.slice.injEq, Option.some.injEq, Addr.mk.injEq, and_true, true_and] at hv'
        obtain ⟨⟨rfl, rfl⟩, rfl⟩ := hv'
        obtain ⟨kv, av, hN⟩ := hc at_ hat
        have g2 := hN.parent
        clear hN hc hT3
        rcases parent_cases (mayB_fine HM.out) hat with e | ⟨e, m, hml, hpm⟩
        · have hpe : (nd T at_).parent = -1 := by simpa using e
          rw [hpe] at g2
          have HQ := hideG (pars_none e)
          clear e hpe
          gi_wp2
          go_roundw
          case rel => exact ⟨pre ++ [at_], hJ3, hB3, .inr ⟨rfl, by rw [HP.out, HQ.out]⟩⟩
          case measure =>
            have h2 : ¬ ((at_ : Int) = -1) := by omega
            simp [intOf, h2]
        · rw [hpm] at g2
          have HQ := hideG (pars_some HM.out hat hpm)
          have HL := hideG (upsL_some HM.out hat (over_of_parent (mayB_fine HM.out) hat hpm)).1
          clear e hpm
          gi_wp2
          go_roundw
          case rel => exact ⟨pre ++ [at_], hJ3, hB3, .inl ⟨m, hml, rfl, by rw [HP.out, HQ.out]; simp⟩⟩
          case measure =>
            have h2 : ¬ ((at_ : Int) = -1) := by omega
            simp only [intOf, if_neg h2, Int.toNat_natCast, HL.out]
            simp
      · gi_wp2
        refine bodyPost_ret (results_none rfl _ _ _) rfl ?_
        refine ⟨⟨_, rfl⟩, .inr ⟨pre ++ [at_], ?_, hJx3⟩⟩
        rw [HP.out]
        have : ∃ r, pars T at_ = at_ :: r := by rw [pars, parsF]; exact ⟨_, rfl⟩
        obtain ⟨r, hr⟩ := this
        exact ⟨r, by rw [hr]; simp⟩
    · gi_wp2
      go_end0
      exact ⟨⟨_, rfl⟩, .inl ⟨pre, hpars.symm, hJs⟩⟩

theorem oup_stops (T : List Nd) (hm : mayB T = true) (v : Value) (n : Nat) (hn : n < T.length) (Bn Bt : Nat) (w2 : World) (R : World → World → Prop) (hRt : ∀ {A B C : World}, R A B → R B C → R A C) (hR0 : ∀ W, Below w2.heap.size w2 W → R w2 W) (hF : Reads R w2 v T n Bn Bt)
    (hv : ∃ b off cap, v = .slice (some ⟨b, off, none⟩) T.length cap) :
    SeqStopsK Fence.wide 5 Tryz.prog 194 #[.pointer (some ⟨Bn, 0, none⟩), .pointer (some ⟨Bt, 0, none⟩)] (fun x : Nat => #[Value.int .i64 (x : Int)]) R (fun ys => ys = pars T n) (fun pre => pre <+: pars T n) (T.length + 1) w2 :=
  fun l J Jx W hW _ _ hY h0 => oup1_in T hm v n hn l Bn Bt w2 R hRt hF hv J Jx hY W (hR0 W hW) h0
end Go.Proofs.YtclhimodopgeoaaGreat
namespace Go.Proofs.YtclhimodopgeoaaGreat
open Go.RowKit Go.Shelf

attribute [local go_sem] Oper.semAt_some

def knownB (T : List Nd) (l : List Int) : Bool := mayB T && l.all (isNodeB T.length)

set_option maxRecDepth 100000 in
set_option maxHeartbeats 2000000 in
theorem known_any (T : List Nd) (hS : Sane T) (v : Value) (l : List Int) (u : Value) (w : World) (hT : TreeAt w v T) (hI : IntsAt w u l) (hl : l.length ≤ 1000) :
    Calls Tryz.prog 168 #[v, u] w fun e w' => e = .returned (.bool (knownB T l)) ∧ Below w.heap.size w w' := by
  obtain ⟨a, cap, rfl⟩ := hT.shape
  have HT := hideG hT
  have HS := hideG hS
  obtain ⟨ua, uc, rfl, hc⟩ := hI
  have HC := hideG hc
  clear hT hS hc
  cases hm : mayB T
  · have hck : checkE T = 1 := by simp only [checkE, hm, Bool.false_eq_true, if_false]
    have HK := hideG (show knownB T l = false by simp [knownB, hm])
    go_enter Tryz.func168, Tryz.ntmps168
    go_wp2_with (go_at_call 63; refine (check_any T HS.out _ _ HT.out).mono ?_; rintro e w1 ⟨rfl, hb1⟩)
    go_ret
    exact ⟨ret_bool HK.out.symm, hb1⟩
  · have hck : checkE T = 0 := by simp only [checkE, hm, if_true]
    have hpos := mayB_pos hm
    go_enter Tryz.func168, Tryz.ntmps168
    go_wp2_with (go_at_call 63; refine (check_any T HS.out _ _ HT.out).mono ?_; rintro e w1 ⟨rfl, hb1⟩)
    have HB1 := hideG hb1
    clear hb1
    go_loopw [12] (fun i wr => ∃ k : Nat, k ≤ l.length ∧ i = .int .i64 k ∧ wr = w1 ∧ ∀ j, j < k → isNodeB T.length (l.getD j 0) = true) (fun i _ => l.length - (intOf i).toNat)
    case atStart => exact ⟨0, Nat.zero_le _, rfl, rfl, fun j h => by omega⟩
    case round =>
      obtain ⟨k, hk, rfl, rfl, hall⟩ := hrel
      have HA := hideG hall
      clear hall
      by_cases hlt : k < l.length
      · obtain ⟨b, off, rfl, hd⟩ := HC.out (by omega)
        have c1 := cell_below HB1.out (hd k hlt)
        clear hd
        have hmem : l.getD k 0 ∈ l := by
          rw [List.getD_eq_getElem?_getD, List.getElem?_eq_getElem hlt]; exact List.getElem_mem hlt
        cases hx : isNodeB T.length (l.getD k 0)
        · have HK := hideG (show knownB T l = false by
            rw [knownB, hm, Bool.true_and]
            cases h : l.all (isNodeB T.length)
            · rfl
            · rw [List.all_eq_true.mp h _ hmem] at hx; cases hx)
          generalize l.getD k 0 = x at *
          have hor : x < 0 ∨ (¬ x < 0 ∧ (T.length : Int) ≤ x) := by
            simp only [isNodeB, Bool.and_eq_false_iff, decide_eq_false_iff_not] at hx
            omega
          rcases hor with h1 | ⟨h1, h2⟩
          all_goals
            go_wp2_with fail
            go_ret
            exact ⟨ret_bool HK.out.symm, HB1.out⟩
        · have HX := hideG hx
          have hx' := hx
          generalize hg : l.getD k 0 = x at *
          have HG := hideG hg
          simp only [isNodeB, Bool.and_eq_true, decide_eq_true_eq] at hx'
          have h1 : ¬ x < 0 := by omega
          have h2 : ¬ (T.length : Int) ≤ x := by omega
          clear hx hx' hg
          go_wp2_with fail
          go_roundw
          case rel =>
            refine ⟨k + 1, by omega, by go_num, trivial, fun j hj => ?_⟩
            by_cases e : j = k
            · rw [e, HG.out]; exact HX.out
            · exact HA.out j (by omega)
          case measure => simp [intOf]; omega
      · have HK := hideG (show knownB T l = true by
          rw [knownB, hm, Bool.true_and, List.all_eq_true]
          intro x hx
          obtain ⟨j, hj, rfl⟩ := List.getElem_of_mem hx
          have := HA.out j (by omega)
          rwa [List.getD_eq_getElem?_getD, List.getElem?_eq_getElem hj] at this)
        go_wp2_with fail
        go_ret
        exact ⟨ret_bool HK.out.symm, HB1.out⟩

/-- The last one of a node's parents. -/
def topN (T : List Nd) (n : Nat) : Nat := (pars T n).getLastD n

set_option maxRecDepth 100000 in
set_option maxHeartbeats 2000000 in
theorem last_in (T : List Nd) (hm : mayB T = true) (v : Value) (n : Nat) (hn : n < T.length) (w : World) (hT : TreeAt w v T) :
    CallsIn Fence.wide 6 Tryz.prog 169 #[v, .int .i64 n] w fun e W' => e = .returned (.int .i64 (topN T n : Int)) ∧ Below w.heap.size w W' := by
  obtain ⟨b, off, cap, hv, hc⟩ := hT.at (by omega)
  clear hc
  have HT : Hid (TreeAt w v T) := hT
  clear hT
  subst hv
  refine callsIn_of_wp_marks Tryz.func169 rfl trivial ?_ rfl
  simp only [Tryz.ntmps169, List.size_toArray, List.length_cons, List.length_nil, Nat.reduceAdd, Nat.reduceSub, Array.replicate_succ, Array.replicate_zero, List.push_toArray, List.append_toArray, List.nil_append, List.cons_append]
  gi_wp2_with (refine ⟨trivial, ?_⟩; gi_at_call 186; refine (oup_in _ _ _ _ _ _).mono ?_; rintro e w' ⟨rfl, rfl⟩)
  have c0 := cell_new_l w (.int .i64 (n : Int)) 3
  have c1 := cell_new_l (w.alloc (.cells #[.int .i64 (n : Int)] 3)) (.slice (some ⟨b, off, none⟩) T.length cap) 23
  have c2 := cell_new_l ((w.alloc (.cells #[.int .i64 (n : Int)] 3)).alloc (.cells #[.slice (some ⟨b, off, none⟩) T.length cap] 23)) (.int .i64 (n : Int)) 3
  simp only [World.size_alloc] at c1 c2
  have hB0 : Below w.heap.size w (((w.alloc (.cells #[.int .i64 (n : Int)] 3)).alloc (.cells #[.slice (some ⟨b, off, none⟩) T.length cap] 23)).alloc (.cells #[.int .i64 (n : Int)] 3)) :=
    (((Below.refl _ w).alloc (Nat.le_refl _) _).alloc (by simp) _).alloc (by simp; omega) _
  have hsz : (((w.alloc (.cells #[.int .i64 (n : Int)] 3)).alloc (.cells #[.slice (some ⟨b, off, none⟩) T.length cap] 23)).alloc (.cells #[.int .i64 (n : Int)] 3)).heap.size = w.heap.size + 1 + 1 + 1 := by simp
  have hF : Reads (But (((w.alloc (.cells #[.int .i64 (n : Int)] 3)).alloc (.cells #[.slice (some ⟨b, off, none⟩) T.length cap] 23)).alloc (.cells #[.int .i64 (n : Int)] 3)).heap.size w.heap.size) (((w.alloc (.cells #[.int .i64 (n : Int)] 3)).alloc (.cells #[.slice (some ⟨b, off, none⟩) T.length cap] 23)).alloc (.cells #[.int .i64 (n : Int)] 3)) (.slice (some ⟨b, off, none⟩) T.length cap) T n (w.heap.size + 1 + 1) (w.heap.size + 1) := fun W hW => ⟨HT.out.but hB0 hW (by omega) (Nat.le_refl _), (hW.cell (by omega) (by omega)).trans c2.1, (hW.cell (by omega) (by omega)).trans (cell_alloc_l _ c1.1)⟩
  refine wpIn_rangeFunc_ownF rfl (by omega) (gf := 194) (lb := #[.pointer (some ⟨w.heap.size + 1 + 1, 0, none⟩), .pointer (some ⟨w.heap.size + 1, 0, none⟩)]) rfl trivial (enters_of Tryz.func194 (by kernel_rfl) rfl)
    (oup_stops T hm _ n hn (w.heap.size + 1 + 1) (w.heap.size + 1) _ (But (((w.alloc (.cells #[.int .i64 (n : Int)] 3)).alloc (.cells #[.slice (some ⟨b, off, none⟩) T.length cap] 23)).alloc (.cells #[.int .i64 (n : Int)] 3)).heap.size w.heap.size) But.trans (fun W hW => But.of_below hW (Nat.le_refl _)) hF ⟨b, off, cap, rfl⟩) But.trans (but_b (Nat.le_refl _)) (Below.refl _ _) (fun _ => rfl)
    (fun pre W => (W.cell? ⟨w.heap.size, 0, none⟩ = some (.int .i64 ((pre.getLastD n : Nat) : Int)) ∧ W.frozen? ⟨w.heap.size, 0, none⟩ = false) ∧ Below w.heap.size w W)
    (fun _ _ _ => False)
    (OwnFrom.and (Own.from (fun s A B row hs hg hr => ⟨cell_kept hs.1 hg hr, (frozen_kept hs.1 hg hr).trans hs.2⟩) _) (ownFrom_below (Nat.le_refl _) (by simp; omega)))
    (fun c => fun s A B row hs _ _ => hs.elim)
    ⟨⟨cell_alloc_l _ (cell_alloc_l _ c0.1), frozen_alloc_l _ (cell_alloc_l _ c0.1) (frozen_alloc_l _ c0.1 c0.2)⟩, hB0⟩
    (fun x => { tmps := #[.slice (some ⟨b, off, none⟩) T.length cap, .int .i64 (n : Int), undef, undef, .int .i64 0, .pointer (some ⟨w.heap.size, 0, none⟩), .int .i64 (x : Int), .int .i64 (n : Int), .slice (some ⟨b, off, none⟩) T.length cap, .int .i64 (n : Int),
      .func (.func 194) #[] #[.pointer (some ⟨w.heap.size + 1 + 1, 0, none⟩), .pointer (some ⟨w.heap.size + 1, 0, none⟩)], .int .i64 (x : Int), undef, undef], defers := [] }) ?assign ?body ?done ?stop
  case assign =>
    intro l x W K hK
    gi_wp2
    exact hK
  case body =>
    rintro l pre x W ⟨⟨hc, hf⟩, hB⟩ _
    gi_wp2
    refine ⟨KeepsOthers.setCell _ _ _, (But.refl _ _ W).setCell _, ⟨?_, by rw [World.frozen?_setCell]; exact hf⟩, hB.setCell (p := ⟨w.heap.size, 0, none⟩) (by simp) _⟩
    rw [World.cell?_setCell_same' _ _ _ (by rw [hc]; rfl)]
    simp
  case done =>
    rintro D ys W hD rfl ⟨⟨hc, hf⟩, hB⟩ hK
    gi_wp2
    refine ⟨by simp, .inl ⟨_, _, rfl, run_takeDeferred hK, ?_⟩⟩
    refine ⟨.int .i64 (topN T n : Int), ?_, rfl, hB.trans (belowK_b (w := w) (Nat.le_refl _) _ D _ _ (by simp at hD; omega) hK rfl rfl)⟩
    simp [results, Tryz.f169, go_sem, topN]
  case stop =>
    rintro D c pre W hD hpre h hK
    exact h.elim

theorem last_any (T : List Nd) (hm : mayB T = true) (v : Value) (n : Nat) (hn : n < T.length) (w : World) (hT : TreeAt w v T) :
    Calls Tryz.prog 169 #[v, .int .i64 n] w fun e W' => e = .returned (.int .i64 (topN T n : Int)) ∧ Below w.heap.size w W' := callsIn_wide.1 (last_in T hm v n hn w hT)

/-- order.Top: of a tree that may be, and a node of it; else -1. -/
def topI (T : List Nd) (n : Int) : Int := if knownB T [n] then (topN T n.toNat : Int) else -1

set_option maxRecDepth 100000 in
set_option maxHeartbeats 2000000 in
theorem orderTop_any (T : List Nd) (hS : Sane T) (v : Value) (n : Int) (w : World) (hT : TreeAt w v T) :
    Calls Tryz.prog 146 #[v, .int .i64 n] w fun e w' => e = .returned (.int .i64 (topI T n)) ∧ Below w.heap.size w w' := by
  obtain ⟨a, cap, rfl⟩ := hT.shape
  have HA := hideG ((Below.refl _ w).alloc (Nat.le_refl _) (.cells #[.int .i64 n] 3))
  have HT := hideG (hT.below HA.out)
  have HT0 := hideG hT
  have HS := hideG hS
  clear hT hS
  cases hk : knownB T [n]
  · have HQ := hideG (show topI T n = -1 by simp [topI, hk])
    go_enter Tryz.func146, Tryz.ntmps146
    go_wp2_with (go_at_call 168; refine (known_any T HS.out _ [n] _ _ HT.out (ints_new1 _ _) (by simp)).mono ?_; rintro e w1 ⟨rfl, hb1⟩; simp only [World.size_alloc] at hb1)
    go_ret
    exact ⟨ret_int HQ.out.symm, HA.out.trans (hb1.mono (by omega))⟩
  · have hk' := hk
    simp only [knownB, List.all_cons, List.all_nil, Bool.and_true, Bool.and_eq_true] at hk'
    obtain ⟨hm, hi⟩ := hk'
    obtain ⟨m, rfl, hml⟩ := isNodeB_true hi
    have HQ := hideG (show topI T m = (topN T m : Int) by simp [topI, hk])
    have HM := hideG hm
    clear hm hi
    go_enter Tryz.func146, Tryz.ntmps146
    go_wp2_with (first | (go_at_call 168; refine (known_any T HS.out _ [(m : Int)] _ _ HT.out (ints_new1 _ _) (by simp)).mono ?_; rintro e w1 ⟨rfl, hb1⟩; simp only [World.size_alloc] at hb1; have HB1 := hideG (HA.out.trans (hb1.mono (by omega))); clear hb1) | (go_at_call 169; refine (last_any T HM.out _ m hml _ (HT0.out.below HB1.out)).mono ?_; rintro e w2 ⟨rfl, hb2⟩; have HB2 := hideG (HB1.out.trans (hb2.mono HB1.out.size)); clear hb2))
    go_ret
    exact ⟨ret_int HQ.out.symm, HB2.out⟩
end Go.Proofs.YtclhimodopgeoaaGreat
namespace Go.Proofs.YtclhimodopgeoaaGreat
open Go.RowKit Go.Shelf

attribute [local go_sem] Oper.semAt_some

/-- A row that nobody writes stays, whatever the book-keeping does. -/
theorem ownsRow_walk {A B : World} {base : Nat} {e : TypeId} {size : Nat} {v : Value} {n : Nat} {xs : List Value} {row : Option Nat} (h : A.ownsRow base e size v n xs) (hg : A.grownBy B row) (hr : ∀ r, row = some r → ∃ o : Obj, A.heap[r]? = some o ∧ o.isCells = false) : B.ownsRow base e size v n xs := by
  refine h.kept hg ?_
  rcases h.2 with ⟨rfl, _⟩ | ⟨g, cap, cur, rfl, _, hcur, _⟩
  · exact .inl rfl
  · right
    intro e'
    obtain ⟨o, ho, hc⟩ := hr g e'.symm
    rw [hcur] at ho
    injection ho with ho
    subst ho
    simp [Obj.isCells] at hc

end Go.Proofs.YtclhimodopgeoaaGreat
namespace Go.Proofs.YtclhimodopgeoaaGreat
open Go.RowKit

def castL (l : List Nat) : List Int := l.map fun (x : Nat) => (x : Int)
theorem castL_append (a b : List Nat) : castL (a ++ b) = castL a ++ castL b := by simp [castL]
theorem castL_length (a : List Nat) : (castL a).length = a.length := by simp [castL]
/-- shade.Up. -/
def supI (T : List Nd) (n : Int) : List Int := if knownB T [n] then castL (n.toNat :: upsL T n.toNat) else []

theorem known_one {T : List Nd} {n : Int} (h : knownB T [n] = true) : mayB T = true ∧ ∃ m : Nat, n = m ∧ m < T.length := by
  simp only [knownB, List.all_cons, List.all_nil, Bool.and_true, Bool.and_eq_true] at h
  exact ⟨h.1, isNodeB_true h.2⟩
theorem known_of {T : List Nd} (hm : mayB T = true) {n : Nat} (hn : n < T.length) : knownB T [(n : Int)] = true := by
  simp only [knownB, hm, List.all_cons, List.all_nil, Bool.and_true, Bool.true_and, isNodeB, Bool.and_eq_true, decide_eq_true_eq]
  omega

def containsB (l : List Int) (x : Int) : Bool := decide (x ∈ l)
theorem index_ge {l : List Int} {x : Int} : decide (0 ≤ indexI l x) = containsB l x := by
  unfold indexI containsB
  by_cases h : x ∈ l
  · have := idxL_mem h
    rw [if_pos this]
    simp [h]
  · have : ¬ idxL x l < l.length := fun hlt => h (by
      have : ∀ l : List Int, idxL x l < l.length → x ∈ l := by
        intro l
        induction l with
        | nil => intro h; simp at h
        | cons a l ih =>
          intro h
          simp only [idxL] at h
          cases e : (x == a)
          · rw [e] at h; simp at h; exact List.mem_cons_of_mem _ (ih h)
          · have : x = a := by simpa using e
            rw [this]; exact List.mem_cons_self ..
      exact this l hlt)
    rw [if_neg this]
    simp [h]

set_option maxHeartbeats 800000 in
theorem contains_any (l : List Int) (v : Value) (x : Int) (w : World) (hI : IntsAt w v l) (hl : l.length ≤ 1000000) :
    Calls Tryz.prog 73 #[v, .int .i64 x] w fun e w' => e = .returned (.bool (containsB l x)) ∧ w' = w := by
  obtain ⟨a, cap, rfl⟩ := hI.shape
  have H := hideG hI
  have HQ := hideG (index_ge (l := l) (x := x))
  clear hI
  go_enter Tryz.func73, Tryz.ntmps73
  go_wp2_with (go_at_call 115; refine (sliceIndex_any l _ _ _ H.out hl).mono ?_; rintro e w1 ⟨rfl, rfl⟩)
  go_ret
  exact ⟨ret_bool HQ.out, rfl⟩

end Go.Proofs.YtclhimodopgeoaaGreat
namespace Go.Proofs.YtclhimodopgeoaaGreat
open Go.RowKit

def aboveS (T : List Nd) (a b : Int) : Bool := containsB (supI T b) a
def retF (T : List Nd) (H : List Int) : Nat → Nat → Nat
  | 0, a => a
  | k + 1, a => if (nd T (topN T a)).kind != 3 || containsB H (topN T a) then a else retF T H k (nd T (topN T a)).host.toNat
def ret (T : List Nd) (H : List Int) (a : Nat) : Nat := retF T H (T.length + 1) a
end Go.Proofs.YtclhimodopgeoaaGreat
namespace Go.Proofs.YtclhimodopgeoaaGreat
open Go.RowKit

end Go.Proofs.YtclhimodopgeoaaGreat
namespace Go.Proofs.YtclhimodopgeoaaGreat
open Go.RowKit

def slF (T : List Nd) : Nat → Nat → List Nat
  | 0, _ => []
  | k + 1, n => n :: ((if (nd T n).root == -1 then [] else slF T k (nd T n).root.toNat) ++ (nd T n).kids.flatMap fun x => slF T k x.toNat)
/-- A node, all in its shadow, all below its kids. -/
def sl (T : List Nd) (n : Nat) : List Nat := slF T (T.length + 1) n

theorem over_kid {T : List Nd} (h : Fine T) {n : Nat} (hn : n < T.length) {x : Int} (hx : x ∈ (nd T n).kids) : ∃ m : Nat, x = m ∧ m < T.length ∧ overI (nd T m) = (n : Int) := by
  obtain ⟨m, rfl, hml, hk, hp⟩ := kidP_iff.mp (h.kid n hn x hx)
  exact ⟨m, rfl, hml, by rw [over_parent (kid_not_shadow hk)]; exact hp⟩
theorem over_root {T : List Nd} (h : Fine T) {n : Nat} (hn : n < T.length) (hr : ((nd T n).root == -1) = false) : ∃ m : Nat, (nd T n).root = m ∧ m < T.length ∧ overI (nd T m) = (n : Int) := by
  rcases rootP_iff.mp (h.root n hn) with e | ⟨_, r, hrl, e, hk, hh⟩
  · rw [e] at hr; simp at hr
  · exact ⟨r, e, hrl, by unfold overI; rw [hk]; exact hh⟩

theorem slF_stable {T : List Nd} (hm : mayB T = true) : ∀ {k n : Nat}, n < T.length → T.length < k + (upsL T n).length → ∀ j, k ≤ j → slF T j n = slF T k n
  | 0, n, _, h, _, _ => by have := upsL_le T n; omega
  | k + 1, n, hn, h, j, hj => by
    obtain ⟨j, rfl⟩ : ∃ j', j = j' + 1 := ⟨j - 1, by omega⟩
    have hF := mayB_fine hm
    have step : ∀ m : Nat, m < T.length → overI (nd T m) = (n : Int) → slF T j m = slF T k m := fun m hml ho => by
      have hs := (upsL_some hm hml ho).1
      refine slF_stable hm hml ?_ j (by omega)
      rw [hs, List.length_cons]; omega
    rw [slF, slF]
    congr 1
    congr 1
    · cases hr : ((nd T n).root == -1)
      · obtain ⟨m, e, hml, ho⟩ := over_root hF hn hr
        rw [e, Int.toNat_natCast, step m hml ho]
      · rfl
    · rw [List.flatMap_def, List.flatMap_def]
      congr 1
      apply List.map_congr_left
      intro x hx
      obtain ⟨m, rfl, hml, ho⟩ := over_kid hF hn hx
      rw [Int.toNat_natCast, step m hml ho]
theorem sl_eq {T : List Nd} (hm : mayB T = true) {n : Nat} (hn : n < T.length) : sl T n = n :: ((if (nd T n).root == -1 then [] else sl T (nd T n).root.toNat) ++ (nd T n).kids.flatMap fun x => sl T x.toNat) := by
  have hF := mayB_fine hm
  have step : ∀ m : Nat, m < T.length → overI (nd T m) = (n : Int) → slF T T.length m = sl T m := fun m hml ho => by
    have hs := (upsL_some hm hml ho).1
    refine (slF_stable hm hml ?_ (T.length + 1) (by omega)).symm
    rw [hs, List.length_cons]; omega
  rw [sl, slF]
  congr 1
  congr 1
  · cases hr : ((nd T n).root == -1)
    · obtain ⟨m, e, hml, ho⟩ := over_root hF hn hr
      rw [e, Int.toNat_natCast, step m hml ho]
    · rfl
  · rw [List.flatMap_def, List.flatMap_def]
    congr 1
    apply List.map_congr_left
    intro x hx
    obtain ⟨m, rfl, hml, ho⟩ := over_kid hF hn hx
    rw [Int.toNat_natCast, step m hml ho]

theorem flat_take {l : List Int} {k : Nat} (h : k < l.length) (f : Int → List Nat) : (l.take (k + 1)).flatMap f = (l.take k).flatMap f ++ f (l.getD k 0) := by
  rw [List.take_add_one, List.getElem?_eq_getElem h, List.flatMap_append, List.getD_eq_getElem?_getD, List.getElem?_eq_getElem h]
  simp
theorem flat_le {l : List Int} (k : Nat) (f : Int → List Nat) : ((l.take k).flatMap f).length ≤ (l.flatMap f).length := by
  conv => rhs; rw [← List.take_append_drop k l, List.flatMap_append, List.length_append]
  omega

end Go.Proofs.YtclhimodopgeoaaGreat
namespace Go.Proofs.YtclhimodopgeoaaGreat
open Go.RowKit

def slI (T : List Nd) (n : Int) : List Int := if knownB T [n] then castL (sl T n.toNat) else []

end Go.Proofs.YtclhimodopgeoaaGreat

namespace Go.Proofs.YtclhimodopgeoaaGreat
open Go.RowKit

end Go.Proofs.YtclhimodopgeoaaGreat
namespace Go.Proofs.YtclhimodopgeoaaGreat
open Go.RowKit

/-- A node, and all above it. -/
def supN (T : List Nd) (n : Nat) : List Nat := n :: upsL T n

theorem supI_known {T : List Nd} (hm : mayB T = true) {n : Nat} (hn : n < T.length) : supI T (n : Int) = castL (supN T n) := by
  unfold supI
  rw [known_of hm hn, if_pos rfl, Int.toNat_natCast]; rfl
theorem mem_castL {l : List Nat} {x : Nat} : (x : Int) ∈ castL l ↔ x ∈ l := by
  unfold castL
  rw [List.mem_map]
  constructor
  · rintro ⟨y, hy, e⟩
    have : y = x := by omega
    exact this ▸ hy
  · intro h; exact ⟨x, h, rfl⟩
theorem above_iff {T : List Nd} (hm : mayB T = true) {a b : Nat} (hb : b < T.length) : aboveS T (a : Int) (b : Int) = true ↔ a ∈ supN T b := by
  unfold aboveS containsB
  rw [supI_known hm hb, decide_eq_true_eq, mem_castL]
theorem over_cases {T : List Nd} (hm : mayB T = true) {n : Nat} (hn : n < T.length) : ((overI (nd T n) == -1) = true) ∨ ∃ m : Nat, m < T.length ∧ overI (nd T n) = (m : Int) := by
  rcases mayB_upOk hm n hn with h | h
  · exact .inl h
  · obtain ⟨m, e, hl⟩ := isNodeB_true h
    exact .inr ⟨m, hl, e⟩
end Go.Proofs.YtclhimodopgeoaaGreat

namespace Go.Proofs.YtclhimodopgeoaaGreat

theorem pigeonF : ∀ (n : Nat) (l : List Nat), l.Nodup → (∀ x ∈ l, x < n) → l.length ≤ n := by
  intro n
  induction n with
  | zero =>
    intro l _ h
    cases l with
    | nil => simp
    | cons a l => exact absurd (h a (List.mem_cons_self ..)) (by omega)
  | succ n ih =>
    intro l hl h
    by_cases hn : n ∈ l
    · have h1 : (l.erase n).length = l.length - 1 := List.length_erase_of_mem hn
      have h2 : (l.erase n).Nodup := hl.erase n
      have h3 := ih (l.erase n) h2 (fun x hx => by
        have hx1 := List.mem_of_mem_erase hx
        have hne : x ≠ n := fun e => by
          subst e
          exact (List.Nodup.not_mem_erase hl) hx
        have := h x hx1
        omega)
      have : 0 < l.length := List.length_pos_of_mem hn
      omega
    · have := ih l hl (fun x hx => by
        have h1 := h x hx
        have h2 : x ≠ n := fun e => hn (e ▸ hx)
        omega)
      omega

/-- ch: a node's kids; D: a node and all below it; U: a node and all above it; rk: how deep. -/
structure Forest (L : Nat) (ch D U : Nat → List Nat) (rk : Nat → Nat) : Prop where
  deq : ∀ n, n < L → D n = n :: (ch n).flatMap D
  lt : ∀ n, n < L → ∀ m, m ∈ ch n → m < L
  nd : ∀ n, n < L → (ch n).Nodup
  up : ∀ n, n < L → ∀ m, m ∈ ch n → U m = m :: U n
  top : ∀ n, n < L → U n = [n] ∨ ∃ m, m < L ∧ n ∈ ch m
  rank : ∀ n, n < L → ∀ m, m ∈ ch n → rk n < rk m

namespace Forest
variable {L : Nat} {ch D U : Nat → List Nat} {rk : Nat → Nat}

theorem u_cases (F : Forest L ch D U rk) {n : Nat} (hn : n < L) : U n = [n] ∨ ∃ m, m < L ∧ n ∈ ch m ∧ U n = n :: U m := by
  rcases F.top n hn with h | ⟨m, hm, h⟩
  · exact .inl h
  · exact .inr ⟨m, hm, h, F.up m hm n h⟩
theorem u_self (F : Forest L ch D U rk) {n : Nat} (hn : n < L) : n ∈ U n := by
  rcases F.u_cases hn with h | ⟨m, _, _, h⟩ <;> rw [h] <;> exact List.mem_cons_self ..
theorem u_suffix (F : Forest L ch D U rk) {n x : Nat} (hn : n < L) (hx : x ∈ U n) : ∃ p, U n = p ++ U x ∧ x < L ∧ rk x ≤ rk n := by
  generalize hk : rk n = k
  induction k using Nat.strongRecOn generalizing n with
  | _ k ih =>
    rcases F.u_cases hn with h | ⟨m, hm, hc, h⟩
    · rw [h] at hx
      have : x = n := by simpa using hx
      subst this
      exact ⟨[], rfl, hn, by omega⟩
    · rw [h] at hx
      rcases List.mem_cons.mp hx with rfl | hx
      · exact ⟨[], rfl, hn, by omega⟩
      · have hr := F.rank m hm n hc
        obtain ⟨p, hp, h2, h3⟩ := ih (rk m) (by omega) hm hx rfl
        exact ⟨n :: p, by rw [h, hp]; rfl, h2, by omega⟩
theorem u_trans (F : Forest L ch D U rk) {a b c : Nat} (hc : c < L) (h1 : a ∈ U b) (h2 : b ∈ U c) : a ∈ U c := by
  obtain ⟨p, hp, _⟩ := F.u_suffix hc h2
  rw [hp]; exact List.mem_append.mpr (.inr h1)
theorem u_rank (F : Forest L ch D U rk) {a b : Nat} (hb : b < L) (h : a ∈ U b) : a = b ∨ rk a < rk b := by
  rcases F.u_cases hb with e | ⟨m, hm, hc, e⟩
  · rw [e] at h; exact .inl (by simpa using h)
  · rw [e] at h
    rcases List.mem_cons.mp h with rfl | h
    · exact .inl rfl
    · obtain ⟨_, _, _, h3⟩ := F.u_suffix hm h
      have := F.rank m hm b hc
      exact .inr (by omega)
theorem u_kid (F : Forest L ch D U rk) {n m : Nat} (hn : n < L) (hm : m ∈ ch n) : n ∈ U m := by
  rw [F.up n hn m hm]; exact List.mem_cons_of_mem _ (F.u_self hn)
/-- Of two above one node one is above the other. -/
theorem u_linear (F : Forest L ch D U rk) {a b x : Nat} (hx : x < L) (ha : a ∈ U x) (hb : b ∈ U x) : a ∈ U b ∨ b ∈ U a := by
  obtain ⟨p, hp, hal, _⟩ := F.u_suffix hx ha
  obtain ⟨q, hq, hbl, _⟩ := F.u_suffix hx hb
  rw [hp] at hq
  have h1 : a ∈ U a := F.u_self hal
  have h2 : b ∈ U b := F.u_self hbl
  rcases List.append_eq_append_iff.mp hq with ⟨r, _, h⟩ | ⟨r, _, h⟩
  · exact .inr (by rw [h]; exact List.mem_append.mpr (.inr h2))
  · exact .inl (by rw [h]; exact List.mem_append.mpr (.inr h1))

/-- What may be shown of kids first may be shown of all. -/
theorem down_ind (F : Forest L ch D U rk) (hB : ∃ B, ∀ n, n < L → rk n ≤ B) {P : Nat → Prop} (h : ∀ n, n < L → (∀ m, m ∈ ch n → P m) → P n) {n : Nat} (hn : n < L) : P n := by
  obtain ⟨B, hB⟩ := hB
  generalize hk : B - rk n = k
  induction k using Nat.strongRecOn generalizing n with
  | _ k ih =>
    refine h n hn (fun m hm => ?_)
    have h1 := F.lt n hn m hm
    have h2 := F.rank n hn m hm
    have h3 := hB m h1
    exact ih (B - rk m) (by omega) h1 rfl

theorem bounded (rk : Nat → Nat) (L : Nat) : ∃ B, ∀ n, n < L → rk n ≤ B := by
  induction L with
  | zero => exact ⟨0, fun n h => by omega⟩
  | succ L ih =>
    obtain ⟨B, hB⟩ := ih
    refine ⟨B + rk L, fun n h => ?_⟩
    by_cases e : n = L
    · subst e; omega
    · have := hB n (by omega); omega

/-- Whoever is below lies there with all below it, one behind the other. -/
theorem d_segment (F : Forest L ch D U rk) {n : Nat} (hn : n < L) : ∀ {x : Nat}, x ∈ D n → x < L ∧ n ∈ U x ∧ ∃ p s, D n = p ++ D x ++ s := by
  refine F.down_ind (P := fun n => ∀ {x : Nat}, x ∈ D n → x < L ∧ n ∈ U x ∧ ∃ p s, D n = p ++ D x ++ s) (bounded rk L) ?_ hn
  intro n hn ih x hx
  rw [F.deq n hn] at hx
  rcases List.mem_cons.mp hx with rfl | hx
  · exact ⟨hn, F.u_self hn, [], [], by simp⟩
  · obtain ⟨q, hq, hxq⟩ := List.mem_flatMap.mp hx
    obtain ⟨h1, h2, p, s, h3⟩ := ih q hq hxq
    refine ⟨h1, F.u_trans h1 (F.u_kid hn hq) h2, ?_⟩
    obtain ⟨l1, l2, hl⟩ := List.append_of_mem hq
    refine ⟨n :: l1.flatMap D ++ p, s ++ l2.flatMap D, ?_⟩
    rw [F.deq n hn, hl, List.flatMap_append, List.flatMap_cons, h3]
    simp
theorem d_lt (F : Forest L ch D U rk) {n x : Nat} (hn : n < L) (hx : x ∈ D n) : x < L := (F.d_segment hn hx).1
theorem d_self (F : Forest L ch D U rk) {n : Nat} (hn : n < L) : n ∈ D n := by rw [F.deq n hn]; exact List.mem_cons_self ..
theorem d_trans (F : Forest L ch D U rk) {n m x : Nat} (hn : n < L) (h1 : m ∈ D n) (h2 : x ∈ D m) : x ∈ D n := by
  obtain ⟨_, _, p, s, h⟩ := F.d_segment hn h1
  rw [h]; simp [h2]
/-- A node is below just those that are above it. -/
theorem mem_d (F : Forest L ch D U rk) {n x : Nat} (hn : n < L) (hx : x < L) : x ∈ D n ↔ n ∈ U x := by
  refine ⟨fun h => (F.d_segment hn h).2.1, fun h => ?_⟩
  generalize hk : rk x = k
  induction k using Nat.strongRecOn generalizing x with
  | _ k ih =>
    rcases F.u_cases hx with e | ⟨m, hm, hc, e⟩
    · rw [e] at h
      have : n = x := by simpa using h
      subst this
      exact F.d_self hn
    · rw [e] at h
      rcases List.mem_cons.mp h with rfl | h
      · exact F.d_self hn
      · have hr := F.rank m hm x hc
        have h1 := ih (rk m) (by omega) hm h rfl
        refine F.d_trans hn h1 ?_
        rw [F.deq m hm]
        exact List.mem_cons_of_mem _ (List.mem_flatMap.mpr ⟨x, hc, F.d_self hx⟩)
theorem d_nodup (F : Forest L ch D U rk) {n : Nat} (hn : n < L) : (D n).Nodup := by
  refine F.down_ind (P := fun n => (D n).Nodup) (bounded rk L) ?_ hn
  intro n hn ih
  rw [F.deq n hn, List.nodup_cons]
  refine ⟨fun h => ?_, ?_⟩
  · obtain ⟨q, hq, hx⟩ := List.mem_flatMap.mp h
    have h1 := (F.d_segment (F.lt n hn q hq) hx).2.1
    have hr := F.rank n hn q hq
    rcases F.u_rank hn h1 with e | e
    · subst e; omega
    · omega
  · show List.Pairwise _ _
    rw [List.pairwise_flatMap]
    refine ⟨fun q hq => ih q hq, ?_⟩
    have hnd := F.nd n hn
    refine List.Pairwise.imp_of_mem (fun {a b} ha hb hab x hx y hy => ?_) hnd
    rintro rfl
    have hal := F.lt n hn a ha
    have hbl := F.lt n hn b hb
    obtain ⟨hxl, h1, _⟩ := F.d_segment hal hx
    obtain ⟨_, h2, _⟩ := F.d_segment hbl hy
    have key : ∀ {c d : Nat}, c ∈ ch n → d ∈ ch n → c ≠ d → c ∈ U d → False := fun {c d} hc hd hcd h => by
      rw [F.up n hn d hd] at h
      rcases List.mem_cons.mp h with e | h
      · exact hcd e
      · have := F.u_rank hn h
        have hr := F.rank n hn c hc
        rcases this with e | e
        · subst e; omega
        · omega
    rcases F.u_linear hxl h1 h2 with h | h
    · exact key ha hb hab h
    · exact key hb ha (fun e => hab e.symm) h
theorem d_len (F : Forest L ch D U rk) {n : Nat} (hn : n < L) : (D n).length ≤ L := pigeonF L _ (F.d_nodup hn) (fun _ hx => F.d_lt hn hx)
end Forest
end Go.Proofs.YtclhimodopgeoaaGreat
namespace Go.Proofs.YtclhimodopgeoaaGreat

/-- The first place of x; the length, if it is not there. -/
def pos (x : Nat) : List Nat → Nat
  | [] => 0
  | a :: l => if x = a then 0 else pos x l + 1
end Go.Proofs.YtclhimodopgeoaaGreat
namespace Go.Proofs.YtclhimodopgeoaaGreat
open Go.RowKit

def chK (T : List Nd) (n : Nat) : List Nat := (nd T n).kids.map Int.toNat
theorem map_nodup : ∀ {l : List Int}, l.Nodup → (∀ k ∈ l, 0 ≤ k) → (l.map Int.toNat).Nodup
  | [], _, _ => by simp
  | a :: l, hl, hp => by
    rw [List.nodup_cons] at hl
    rw [List.map_cons, List.nodup_cons]
    refine ⟨fun hm => ?_, map_nodup hl.2 (fun k hk => hp k (List.mem_cons_of_mem _ hk))⟩
    obtain ⟨x, hx, he⟩ := List.mem_map.mp hm
    have h1 := hp a (List.mem_cons_self ..)
    have h2 := hp x (List.mem_cons_of_mem _ hx)
    have : x = a := by omega
    exact hl.1 (this ▸ hx)
theorem mem_chK {T : List Nd} (hF : Fine T) {n m : Nat} (hn : n < T.length) (h : m ∈ chK T n) : m < T.length ∧ (m : Int) ∈ (nd T n).kids ∧ canBeKidB (nd T m).kind = true ∧ (nd T m).parent = (n : Int) := by
  obtain ⟨x, hx, rfl⟩ := List.mem_map.mp h
  obtain ⟨q, rfl, hql, hk, hp⟩ := kidP_iff.mp (hF.kid n hn x hx)
  rw [Int.toNat_natCast]
  exact ⟨hql, hx, hk, hp⟩
theorem chK_nodup {T : List Nd} (hF : Fine T) {n : Nat} (hn : n < T.length) : (chK T n).Nodup :=
  map_nodup (hF.nodup n hn) (fun k hk => by obtain ⟨q, rfl, _⟩ := kidP_iff.mp (hF.kid n hn k hk); omega)
def chS (T : List Nd) (n : Nat) : List Nat := (if (nd T n).root == -1 then [] else [(nd T n).root.toNat]) ++ chK T n
theorem root_facts {T : List Nd} (hF : Fine T) {n : Nat} (hn : n < T.length) (hr : ((nd T n).root == -1) = false) : ∃ m : Nat, (nd T n).root = (m : Int) ∧ m < T.length ∧ (nd T m).kind = 3 ∧ (nd T m).host = (n : Int) := by
  rcases rootP_iff.mp (hF.root n hn) with e | ⟨_, r, hrl, e, hk, hh⟩
  · rw [e] at hr; simp at hr
  · exact ⟨r, e, hrl, hk, hh⟩
theorem mem_chS {T : List Nd} (hF : Fine T) {n m : Nat} (hn : n < T.length) (h : m ∈ chS T n) : m < T.length ∧ overI (nd T m) = (n : Int) := by
  rcases List.mem_append.mp h with h | h
  · cases hr : ((nd T n).root == -1)
    · rw [hr] at h
      obtain ⟨q, e, hql, hk, hh⟩ := root_facts hF hn hr
      have : m = q := by simpa [e] using h
      subst this
      exact ⟨hql, by unfold overI; rw [hk]; exact hh⟩
    · rw [hr] at h; simp at h
  · obtain ⟨h1, _, h3, h4⟩ := mem_chK hF hn h
    exact ⟨h1, by rw [over_parent (kid_not_shadow h3)]; exact h4⟩
theorem forest4 {T : List Nd} (hm : mayB T = true) : Forest T.length (chS T) (sl T) (supN T) (fun n => (upsL T n).length) := by
  have hF := mayB_fine hm
  refine ⟨fun n hn => ?_, fun n hn m h => (mem_chS hF hn h).1, fun n hn => ?_, fun n hn m h => ?_, fun n hn => ?_, fun n hn m h => ?_⟩
  · rw [sl_eq hm hn, chS, chK, List.flatMap_append, List.flatMap_map]
    cases hr : ((nd T n).root == -1) <;> simp
  · unfold chS
    cases hr : ((nd T n).root == -1)
    · obtain ⟨q, e, hql, hk, hh⟩ := root_facts hF hn hr
      simp only [Bool.false_eq_true, if_false, List.singleton_append, List.nodup_cons, e, Int.toNat_natCast]
      refine ⟨fun h => ?_, chK_nodup hF hn⟩
      exact kid_not_shadow (mem_chK hF hn h).2.2.1 hk
    · simpa using chK_nodup hF hn
  · obtain ⟨h1, h2⟩ := mem_chS hF hn h
    show m :: upsL T m = m :: (n :: upsL T n)
    rw [(upsL_some hm h1 h2).1]
  · rcases over_cases hm hn with e | ⟨p, hp, e⟩
    · exact .inl (by show n :: upsL T n = [n]; rw [upsL_none e])
    · refine .inr ⟨p, hp, ?_⟩
      unfold chS
      rw [List.mem_append]
      by_cases hk : (nd T n).kind = 3
      · obtain ⟨h, hl, h1, _, h2⟩ := fine_host hF hn hk
        have hph : h = p := by unfold overI at e; rw [hk] at e; simp at e; omega
        subst hph
        left
        rw [h2]
        have : ((n : Int) == -1) = false := by simp
        simp [this]
      · right
        rw [over_parent hk] at e
        rcases hF.par n hn with e' | ⟨q, hq, e', hmem⟩
        · omega
        · have : q = p := by omega
          subst this
          exact List.mem_map.mpr ⟨(n : Int), hmem, by simp⟩
  · obtain ⟨h1, h2⟩ := mem_chS hF hn h
    simp [(upsL_some hm h1 h2).1]

end Go.Proofs.YtclhimodopgeoaaGreat

namespace Go.Proofs.YtclhimodopgeoaaGreat
open Go.RowKit

def allocs (w : World) (os : List Obj) : World := os.foldl World.alloc w
theorem allocs_below (w : World) (os : List Obj) : Below w.heap.size w (allocs w os) := by
  induction os generalizing w with
  | nil => exact Below.refl _ _
  | cons o os ih => exact ((Below.refl _ w).alloc (Nat.le_refl _) o).trans ((ih (w.alloc o)).mono (by simp))
theorem allocs_at (w : World) (os : List Obj) (i : Nat) (o : Obj) (h : os[i]? = some o) : (allocs w os).heap[w.heap.size + i]? = some o := by
  induction os generalizing w i with
  | nil => simp at h
  | cons p os ih =>
    cases i with
    | zero =>
      simp at h; subst h
      have hb := (allocs_below (w.alloc p) os).block w.heap.size (by simp)
      exact hb.trans (World.alloc_heap_new w p)
    | succ i =>
      have := ih (w.alloc p) i (by simpa using h)
      rw [World.size_alloc] at this
      rw [show w.heap.size + (i + 1) = w.heap.size + 1 + i by omega]
      exact this

theorem cell_of_cells {U : World} {g : Nat} {cs : Array Value} {t : TypeId} (h : U.heap[g]? = some (.cells cs t)) {j : Nat} {u : Value} (hj : cs[j]? = some u) : U.cell? ⟨g, j, none⟩ = some u := by
  simp [World.cell?, h, hj]
theorem ints_lit {U : World} {g : Nat} (l : List Int) {cs : Array Value} (h : U.heap[g]? = some (.cells cs 3)) (hc : cs = (intCells l).toArray) : IntsAt U (.slice (some ⟨g, 0, none⟩) l.length l.length) l := by
  refine ⟨_, l.length, rfl, fun _ => ⟨g, 0, rfl, fun j hj => ?_⟩⟩
  subst hc
  rw [Nat.zero_add]
  exact cell_of_cells h (by simp [intCells_at hj])
theorem attrs_lit {U : World} {g : Nat} {t : TypeId} (l : List (Int × Int)) {cs : Array Value} (h : U.heap[g]? = some (.cells cs t)) (hc : cs = (attrCells l).toArray) : AttrsAt U (.slice (some ⟨g, 0, none⟩) l.length l.length) l := by
  refine ⟨_, l.length, rfl, fun _ => ⟨g, 0, rfl, fun j hj => ?_⟩⟩
  subst hc
  have := attrCells_at hj
  rw [Nat.zero_add]
  exact ⟨cell_of_cells h (by simp [this.1]), cell_of_cells h (by simp [this.2])⟩
theorem ints_none (U : World) : IntsAt U (.slice none 0 0) [] := ⟨none, 0, rfl, fun h => by simp at h⟩
theorem attrs_none (U : World) : AttrsAt U (.slice none 0 0) [] := ⟨none, 0, rfl, fun h => by simp at h⟩

def nodesL : List (Nd × Value × Value) → List Value
  | [] => []
  | (x, kv, av) :: r => .int .i64 x.kind :: .int .i64 x.tag :: .int .i64 x.parent :: kv :: .int .i64 x.host :: .int .i64 x.root :: av :: nodesL r
theorem nodesL_at : ∀ (r : List (Nd × Value × Value)) (n : Nat) (x : Nd) (kv av : Value), r[n]? = some (x, kv, av) →
    (nodesL r)[n * 7]? = some (.int .i64 x.kind) ∧ (nodesL r)[n * 7 + 1]? = some (.int .i64 x.tag) ∧ (nodesL r)[n * 7 + 2]? = some (.int .i64 x.parent) ∧ (nodesL r)[n * 7 + 3]? = some kv ∧ (nodesL r)[n * 7 + 4]? = some (.int .i64 x.host) ∧ (nodesL r)[n * 7 + 5]? = some (.int .i64 x.root) ∧ (nodesL r)[n * 7 + 6]? = some av
  | [], n, x, kv, av, h => by simp at h
  | (y, kv', av') :: r, 0, x, kv, av, h => by
    simp only [List.getElem?_cons_zero, Option.some.injEq, Prod.mk.injEq] at h
    obtain ⟨rfl, rfl, rfl⟩ := h
    simp [nodesL]
  | (y, kv', av') :: r, n + 1, x, kv, av, h => by
    have ih := nodesL_at r n x kv av (by simpa using h)
    have e : ∀ j, (n + 1) * 7 + j = n * 7 + j + 1 + 1 + 1 + 1 + 1 + 1 + 1 := fun j => by omega
    have e0 : (n + 1) * 7 = n * 7 + 1 + 1 + 1 + 1 + 1 + 1 + 1 := by omega
    rw [e, e, e, e, e, e, e0]
    simpa only [nodesL, List.getElem?_cons_succ] using ih
/-- The tree whose nodes a block holds. -/
theorem tree_lit {U : World} {g : Nat} {cs : Array Value} (r : List (Nd × Value × Value)) (h : U.heap[g]? = some (.cells cs 57)) (hc : cs = (nodesL r).toArray) (hr : ∀ p ∈ r, IntsAt U p.2.1 p.1.kids ∧ AttrsAt U p.2.2 p.1.attrs) :
    TreeAt U (.slice (some ⟨g, 0, none⟩) r.length r.length) (r.map (·.1)) := by
  subst hc
  refine ⟨_, r.length, by simp, fun _ => ⟨g, 0, rfl, fun n hn => ?_⟩⟩
  have hn' : n < r.length := by simpa using hn
  obtain ⟨x, kv, av⟩ : Nd × Value × Value := r[n]
  obtain ⟨x, kv, av, hx⟩ : ∃ x kv av, r[n]? = some (x, kv, av) := ⟨r[n].1, r[n].2.1, r[n].2.2, List.getElem?_eq_getElem hn'⟩
  have hnd : nd (r.map (·.1)) n = x := by
    unfold nd
    rw [List.getD_eq_getElem?_getD, List.getElem?_map, hx]; rfl
  obtain ⟨h0, h1, h2, h3, h4, h5, h6⟩ := nodesL_at r n x kv av hx
  obtain ⟨hk, ha⟩ := hr (x, kv, av) (List.mem_of_getElem? hx)
  rw [hnd, Nat.zero_add]
  have f : ∀ {j : Nat} {u : Value}, (nodesL r)[j]? = some u → U.cell? ⟨g, j, none⟩ = some u := fun hj => cell_of_cells h (by simpa using hj)
  exact ⟨kv, av, f h0, f h1, f h2, f h3, f h4, f h5, f h6, hk, ha⟩
end Go.Proofs.YtclhimodopgeoaaGreat

namespace Go.Proofs.YtclhimodopgeoaaGreat
open Go.RowKit

end Go.Proofs.YtclhimodopgeoaaGreat
namespace Go.Proofs.YtclhimodopgeoaaGreat
open Go.RowKit Go.Shelf

attribute [local go_sem] Oper.semAt_some

end Go.Proofs.YtclhimodopgeoaaGreat
namespace Go.Proofs.YtclhimodopgeoaaGreat
open Go.RowKit Go.Shelf

attribute [local go_sem] Oper.semAt_some

end Go.Proofs.YtclhimodopgeoaaGreat
namespace Go.Proofs.YtclhimodopgeoaaGreat
open Go.RowKit Go.Shelf

attribute [local go_sem] Oper.semAt_some

end Go.Proofs.YtclhimodopgeoaaGreat
namespace Go.Proofs.YtclhimodopgeoaaGreat
open Go.RowKit Go.Shelf

attribute [local go_sem] Oper.semAt_some

end Go.Proofs.YtclhimodopgeoaaGreat
namespace Go.Proofs.YtclhimodopgeoaaGreat
open Go.RowKit

theorem contains_castL {l : List Nat} {x : Nat} : containsB (castL l) (x : Int) = decide (x ∈ l) := by
  unfold containsB; exact decide_eq_decide.mpr mem_castL
end Go.Proofs.YtclhimodopgeoaaGreat
namespace Go.Proofs.YtclhimodopgeoaaGreat
open Go.RowKit

end Go.Proofs.YtclhimodopgeoaaGreat
namespace Go.Proofs.YtclhimodopgeoaaGreat
open Go.RowKit

end Go.Proofs.YtclhimodopgeoaaGreat
namespace Go.Proofs.YtclhimodopgeoaaGreat
open Go.RowKit

theorem below_drewN {B : Nat} {a w : World} (h : Below B a w) (n : Nat) : Below B a (w.drewN n) := h.trans ⟨rfl, rfl, rfl, Nat.le_refl _, fun _ _ => rfl⟩

end Go.Proofs.YtclhimodopgeoaaGreat
namespace Go.Proofs.YtclhimodopgeoaaGreat
open Go.RowKit

end Go.Proofs.YtclhimodopgeoaaGreat

namespace Go.Proofs.YtclhimodopgeoaaGreat
open Go.RowKit
theorem below_drewNA {B : Nat} {a w : World} (h : Below B a w) (n : Nat) : Below B a (w.drewN n) := h.trans ⟨rfl, rfl, rfl, Nat.le_refl _, fun _ _ => rfl⟩

def searchL (name : Int) : List (Int × Int) → Nat × Bool
  | [] => (0, false)
  | a :: l => if name ≤ a.1 then (0, a.1 == name) else ((searchL name l).1 + 1, (searchL name l).2)

theorem search_hit {name : Int} : ∀ {l : List (Int × Int)} {k : Nat}, k < l.length → (∀ j, j < k → (l.getD j (0, 0)).1 < name) → name ≤ (l.getD k (0, 0)).1 → searchL name l = (k, (l.getD k (0, 0)).1 == name)
  | [], k, h, _, _ => by simp at h
  | a :: l, 0, _, _, h => by simp only [searchL]; rw [if_pos (by simpa using h)]; rfl
  | a :: l, k + 1, h, hb, hk => by
    have h0 := hb 0 (by omega)
    simp only [searchL]
    rw [if_neg (by simp at h0; omega), search_hit (l := l) (k := k) (by simpa using h) (fun j hj => by have := hb (j + 1) (by omega); simpa using this) (by simpa using hk)]
    simp
theorem search_miss {name : Int} : ∀ {l : List (Int × Int)}, (∀ j, j < l.length → (l.getD j (0, 0)).1 < name) → searchL name l = (l.length, false)
  | [], _ => rfl
  | a :: l, hb => by
    have h0 := hb 0 (by simp)
    simp only [searchL]
    rw [if_neg (by simp at h0; omega), search_miss (l := l) (fun j hj => by have := hb (j + 1) (by simpa using hj); simpa using this)]
    simp

theorem ret_ib {a a' : Int} {b b' : Bool} (h : a = a') (h' : b = b') : Ending.returned (.tuple #[.int .i64 a, .bool b]) = .returned (.tuple #[.int .i64 a', .bool b']) := by rw [h, h']

set_option maxRecDepth 100000 in
set_option maxHeartbeats 1000000 in
theorem search_any (l : List (Int × Int)) (v : Value) (name : Int) (w : World) (hA : AttrsAt w v l) (hl : l.length ≤ 1000000) :
    Calls Tryz.prog 171 #[v, .int .i64 name] w fun e w' => e = .returned (.tuple #[.int .i64 (searchL name l).1, .bool (searchL name l).2]) ∧ Below w.heap.size w w' := by
  obtain ⟨a, cap, rfl, hc⟩ := hA
  have HC : Hid (0 < l.length → ∃ b off, a = some ⟨b, off, none⟩ ∧ ∀ j, j < l.length → w.cell? ⟨b, off + j * 2, none⟩ = some (.int .i64 (l.getD j (0, 0)).1) ∧ w.cell? ⟨b, off + j * 2 + 1, none⟩ = some (.int .i64 (l.getD j (0, 0)).2)) := hc
  clear hc
  go_enter Tryz.func171, Tryz.ntmps171
  go_wp2_with fail
  go_loopw [10] (fun i wr => ∃ k : Nat, k ≤ l.length ∧ i = .int .i64 k ∧ (∀ j, j < k → (l.getD j (0, 0)).1 < name) ∧ Below w.heap.size w wr) (fun i _ => l.length - (intOf i).toNat)
  case atStart => exact ⟨0, Nat.zero_le _, rfl, fun j h => by omega, Below.refl _ _⟩
  case round =>
    obtain ⟨k, hk, rfl, hno, hB⟩ := hrel
    have HN : Hid (∀ j, j < k → (l.getD j (0, 0)).1 < name) := hno
    clear hno
    by_cases hlt : k < l.length
    · obtain ⟨b, off, rfl, hd⟩ := HC.out (by omega)
      obtain ⟨c1, c2⟩ := hd k hlt
      have hbz : b < w.heap.size := below_of_cell c1
      have g1 := (hB.cell (p := ⟨b, off + k * 2, none⟩) hbz).trans c1
      have g2 := (hB.cell (p := ⟨b, off + k * 2 + 1, none⟩) hbz).trans c2
      have hbz' : b < wr.heap.size := by have := hB.size; omega
      generalize hA : l.getD k (0, 0) = A at *
      obtain ⟨A1, A2⟩ := A
      have HA : Hid (l.getD k (0, 0) = (A1, A2)) := hA
      dsimp only at g1 g2
      clear hd c1 c2 hA
      by_cases hle : name ≤ A1
      · go_wp2_with fail
        go_quiet (fail)
        go_wp2_with fail
        go_ret2
        have e := search_hit hlt HN.out (by rw [HA.out]; exact hle)
        rw [HA.out] at e
        exact ⟨ret_ib (by rw [e]) (by rw [e]), below_drewNA (hB.alloc hB.size _) _⟩
      · go_wp2_with fail
        go_roundw
        case rel =>
          refine ⟨k + 1, by omega, by go_num, fun j hj => ?_, hB.alloc hB.size _⟩
          by_cases e : j = k
          · subst e; rw [HA.out]; show A1 < name; omega
          · exact HN.out j (by omega)
        case measure => simp [intOf]; omega
    · have hke : k = l.length := by omega
      subst hke
      go_wp2_with fail
      go_ret2
      have e := search_miss HN.out
      exact ⟨ret_ib (by rw [e]) (by rw [e]), hB⟩

def faultE (T : List Nd) (n : Int) : Int := if mayB T then (if isNodeB T.length n then 0 else 2) else 1
def getL (T : List Nd) (n : Int) (nm : Int) : Int × Bool :=
  if faultE T n != 0 then (0, false)
  else if (searchL nm (nd T n.toNat).attrs).2 then (((nd T n.toNat).attrs.getD (searchL nm (nd T n.toNat).attrs).1 (0, 0)).2, true) else (0, false)

theorem searchL_lt' {nm : Int} : ∀ {l : List (Int × Int)}, (searchL nm l).2 = true → (searchL nm l).1 < l.length
  | [], h => by simp [searchL] at h
  | a :: l, h => by
    simp only [searchL] at h ⊢
    split at h
    · rename_i hle; rw [if_pos hle]; simp
    · rename_i hle
      rw [if_neg hle]
      have := searchL_lt' h
      simp
      omega

set_option maxHeartbeats 800000 in
theorem fault_any (T : List Nd) (hS : Sane T) (v : Value) (n : Int) (w : World) (hT : TreeAt w v T) :
    Calls Tryz.prog 170 #[v, .int .i64 n] w fun e w' => e = .returned (.int .i64 (faultE T n)) ∧ Below w.heap.size w w' := by
  obtain ⟨a, cap, rfl⟩ := hT.shape
  have HT := hideG hT
  have HS := hideG hS
  clear hT hS
  cases hm : mayB T
  · have hck : checkE T = 1 := by simp only [checkE, hm, Bool.false_eq_true, if_false]
    go_enter Tryz.func170, Tryz.ntmps170
    go_wp2_with (go_at_call 63; refine (check_any T HS.out _ _ HT.out).mono ?_; rintro e w1 ⟨rfl, hb1⟩)
    go_ret
    exact ⟨ret_int (by simp only [faultE, hm, Bool.false_eq_true, if_false]), hb1⟩
  · have hck : checkE T = 0 := by simp only [checkE, hm, if_true]
    have hpos := mayB_pos hm
    have hlen : (T.length : Int) ≤ 64 := by omega
    by_cases h0 : n < 0
    · have hi : isNodeB T.length n = false := by simp [isNodeB]; omega
      go_enter Tryz.func170, Tryz.ntmps170
      go_wp2_with (go_at_call 63; refine (check_any T HS.out _ _ HT.out).mono ?_; rintro e w1 ⟨rfl, hb1⟩)
      go_ret
      exact ⟨ret_int (by simp only [faultE, hm, hi, Bool.false_eq_true, if_true, if_false]), hb1⟩
    · have hd : decide (n < 0) = false := by simpa using h0
      by_cases h1 : (T.length : Int) ≤ n
      · have hi : isNodeB T.length n = false := by simp [isNodeB]; omega
        go_enter Tryz.func170, Tryz.ntmps170
        go_wp2_with (go_at_call 63; refine (check_any T HS.out _ _ HT.out).mono ?_; rintro e w1 ⟨rfl, hb1⟩)
        go_ret
        exact ⟨ret_int (by simp only [faultE, hm, hi, Bool.false_eq_true, if_true, if_false]), hb1⟩
      · have hi : isNodeB T.length n = true := by simp [isNodeB]; omega
        have hd1 : decide ((T.length : Int) ≤ n) = false := by simpa using h1
        go_enter Tryz.func170, Tryz.ntmps170
        go_wp2_with (go_at_call 63; refine (check_any T HS.out _ _ HT.out).mono ?_; rintro e w1 ⟨rfl, hb1⟩)
        go_ret
        exact ⟨ret_int (by simp only [faultE, hm, hi, if_true]), hb1⟩

set_option maxRecDepth 100000 in
set_option maxHeartbeats 800000 in
theorem get_any (T : List Nd) (hS : Sane T) (v : Value) (n nm : Int) (w : World) (hT : TreeAt w v T) :
    Calls Tryz.prog 148 #[v, .int .i64 n, .int .i64 nm] w fun e w' => e = .returned (.tuple #[.int .i64 (getL T n nm).1, .bool (getL T n nm).2]) ∧ Below w.heap.size w w' := by
  obtain ⟨a, cap, rfl⟩ := hT.shape
  have HT := hideG hT
  have HS := hideG hS
  clear hT hS
  cases hf : (faultE T n != 0)
  · have hmn : mayB T = true ∧ isNodeB T.length n = true := by
      simp only [faultE] at hf
      cases hm : mayB T
      · simp [hm] at hf
      · cases hi : isNodeB T.length n
        · simp [hm, hi] at hf
        · exact ⟨rfl, rfl⟩
    obtain ⟨k, rfl, hk⟩ := isNodeB_true hmn.2
    have hg : getL T k nm = if (searchL nm (nd T k).attrs).2 then (((nd T k).attrs.getD (searchL nm (nd T k).attrs).1 (0, 0)).2, true) else (0, false) := by
      simp only [getL, hf, Bool.false_eq_true, if_false, Int.toNat_natCast]
    have HG := hideG hg
    have hs2 := (HS.out k hk).2
    obtain ⟨b, off, cap', hv, hc⟩ := HT.out.at (by omega)
    simp only [Value.slice.injEq, true_and] at hv
    obtain ⟨rfl, rfl⟩ := hv
    obtain ⟨kv, av, hN⟩ := hc k hk
    have c6 := hN.attrsc
    have hAt := hN.attrs
    have hbz : b < w.heap.size := below_of_cell c6
    obtain ⟨aa, ac, rfl⟩ := hN.attrs.shape
    have HA := hideG hAt
    clear hc hN hg hAt hmn
    cases hs : (searchL nm (nd T k).attrs).2
    · go_enter Tryz.func148, Tryz.ntmps148
      go_wp2_with (first | (go_at_call 170; refine (fault_any T HS.out _ _ _ HT.out).mono ?_; rintro e w1 ⟨rfl, hb1⟩; have g6 := (hb1.cell (p := ⟨b, off + k * 7 + 6, none⟩) hbz).trans c6; have HA1 := hideG (HA.out.below hb1)) | (go_at_call 171; refine (search_any (nd T k).attrs _ _ _ HA1.out hs2).mono ?_; rintro e w2 ⟨rfl, hb2⟩; rw [hs]))
      go_ret2
      exact ⟨ret_ib (by rw [HG.out, hs]; rfl) (by rw [HG.out, hs]; rfl), hb1.trans (hb2.mono hb1.size)⟩
    · have hlt := searchL_lt' hs
      obtain ⟨q, hq⟩ : ∃ q, (searchL nm (nd T k).attrs).1 = q := ⟨_, rfl⟩
      rw [hq] at hlt
      have HQ := hideG hq
      clear hq
      obtain ⟨a', c', hv', hd⟩ := HA.out
      simp only [Value.slice.injEq, true_and] at hv'
      obtain ⟨rfl, rfl⟩ := hv'
      obtain ⟨ab, aoff, rfl, hd2⟩ := hd (by omega)
      obtain ⟨_, c2⟩ := hd2 q hlt
      have hab : ab < w.heap.size := below_of_cell c2
      clear hd hd2
      go_enter Tryz.func148, Tryz.ntmps148
      go_wp2_with (first | (go_at_call 170; refine (fault_any T HS.out _ _ _ HT.out).mono ?_; rintro e w1 ⟨rfl, hb1⟩; have g6 := (hb1.cell (p := ⟨b, off + k * 7 + 6, none⟩) hbz).trans c6; have HA1 := hideG (HA.out.below hb1); have g2 := (hb1.cell (p := ⟨ab, aoff + q * 2 + 1, none⟩) hab).trans c2; have hz1 := hb1.size) | (go_at_call 171; refine (search_any (nd T k).attrs _ _ _ HA1.out hs2).mono ?_; rintro e w2 ⟨rfl, hb2⟩; rw [hs, HQ.out]; have i6 := (hb2.cell (p := ⟨b, off + k * 7 + 6, none⟩) (by simp; omega)).trans g6; have i2 := (hb2.cell (p := ⟨ab, aoff + q * 2 + 1, none⟩) (by simp; omega)).trans g2))
      go_ret2
      exact ⟨ret_ib (by rw [HG.out, hs, HQ.out]; simp [hlt]) (by rw [HG.out, hs]; rfl), hb1.trans (hb2.mono hb1.size)⟩
  · go_enter Tryz.func148, Tryz.ntmps148
    go_wp2_with (go_at_call 170; refine (fault_any T HS.out _ _ _ HT.out).mono ?_; rintro e w1 ⟨rfl, hb1⟩)
    go_ret2
    exact ⟨ret_ib (by simp only [getL, hf, if_true]) (by simp only [getL, hf, if_true]), hb1⟩

set_option maxHeartbeats 400000 in
theorem has_any (T : List Nd) (hS : Sane T) (v : Value) (n nm : Int) (w : World) (hT : TreeAt w v T) :
    Calls Tryz.prog 112 #[v, .int .i64 n, .int .i64 nm] w fun e w' => e = .returned (.bool (getL T n nm).2) ∧ Below w.heap.size w w' := by
  obtain ⟨a, cap, rfl⟩ := hT.shape
  have HT := hideG hT
  have HS := hideG hS
  clear hT hS
  go_enter Tryz.func112, Tryz.ntmps112
  go_wp2_with (go_at_call 148; refine (get_any T HS.out _ _ _ _ HT.out).mono ?_; rintro e w1 ⟨rfl, hb1⟩)
  go_ret
  exact ⟨rfl, hb1⟩

def lookL (l : List (Int × Int)) (nm : Int) : Int × Bool :=
  if (searchL nm l).2 then ((l.getD (searchL nm l).1 (0, 0)).2, true) else (0, false)
theorem lookL_cons (a : Int × Int) (l : List (Int × Int)) (nm : Int) : lookL (a :: l) nm = if nm ≤ a.1 then (if a.1 == nm then (a.2, true) else (0, false)) else lookL l nm := by
  rw [lookL, searchL]
  by_cases h : nm ≤ a.1
  · rw [if_pos h, if_pos h]; rfl
  · rw [if_neg h, if_neg h, lookL]; simp
theorem may_attrs {T : List Nd} (hm : mayB T = true) {m : Nat} (hlt : m < T.length) : attrsFrom (nd T m).kind (-1) (nd T m).attrs = true := (mayB_fine hm).attrs m hlt
theorem getL_ok {T : List Nd} {n : Nat} (hm : mayB T = true) (hn : n < T.length) (nm : Int) : getL T n nm = lookL (nd T n).attrs nm := by
  have hi : isNodeB T.length (n : Int) = true := by simp [isNodeB]; omega
  rw [getL, faultE, hm, hi, lookL, Int.toNat_natCast]
  rfl

/-- The first attribute of a name. -/
def firstL (nm : Int) : List (Int × Int) → Int × Bool
  | [] => (0, false)
  | a :: l => if a.1 == nm then (a.2, true) else firstL nm l
theorem first_drop {l : List (Int × Int)} {k : Nat} (h : k < l.length) (nm : Int) : firstL nm (l.drop k) = if (l.getD k (0, 0)).1 == nm then ((l.getD k (0, 0)).2, true) else firstL nm (l.drop (k + 1)) := by
  rw [List.drop_eq_getElem_cons h, firstL, List.getD_eq_getElem?_getD, List.getElem?_eq_getElem h, Option.getD_some]
theorem first_gone {k last nm : Int} (h : nm ≤ last) : ∀ {l : List (Int × Int)}, attrsFrom k last l = true → firstL nm l = (0, false)
  | [], _ => rfl
  | a :: l, hl => by
    rw [attrsFrom, Bool.and_eq_true, Bool.not_eq_true', Bool.or_eq_false_iff, decide_eq_false_iff_not] at hl
    rw [firstL, if_neg (by simp; omega)]
    exact first_gone (by omega) hl.2
theorem first_look {k nm : Int} : ∀ {l : List (Int × Int)} {last : Int}, attrsFrom k last l = true → firstL nm l = lookL l nm
  | [], _, _ => rfl
  | a :: l, last, hl => by
    rw [attrsFrom, Bool.and_eq_true] at hl
    rw [firstL, lookL_cons]
    by_cases e : a.1 = nm
    · rw [if_pos (by simpa using e), if_pos (by omega), if_pos (by simpa using e)]
    · rw [if_neg (by simpa using e)]
      by_cases hn : nm ≤ a.1
      · rw [if_pos hn, if_neg (by simpa using e)]
        exact first_gone hn hl.2
      · rw [if_neg hn]
        exact first_look hl.2

def refGetL (T : List Nd) (n nm : Int) : Int × Bool := if isNodeB T.length n then firstL nm (nd T n.toNat).attrs else (0, false)
theorem refGet_eq {T : List Nd} (hm : mayB T = true) (n nm : Int) : refGetL T n nm = getL T n nm := by
  rw [refGetL]
  cases hi : isNodeB T.length n
  · rw [getL, faultE, hm, hi]; rfl
  · obtain ⟨k, rfl, hk⟩ := isNodeB_true hi
    rw [if_pos rfl, Int.toNat_natCast, getL_ok hm hk]
    exact first_look (may_attrs hm hk)

end Go.Proofs.YtclhimodopgeoaaGreat
namespace Go.Proofs.YtclhimodopgeoaaGreat
open Go.RowKit

end Go.Proofs.YtclhimodopgeoaaGreat
namespace Go.Proofs.YtclhimodopgeoaaGreat
open Go.RowKit

end Go.Proofs.YtclhimodopgeoaaGreat
namespace Go.Proofs.YtclhimodopgeoaaGreat
open Go.RowKit

end Go.Proofs.YtclhimodopgeoaaGreat
namespace Go.Proofs.YtclhimodopgeoaaGreat
open Go.RowKit

end Go.Proofs.YtclhimodopgeoaaGreat
namespace Go.Proofs.YtclhimodopgeoaaGreat
open Go.RowKit Go.Shelf

attribute [local go_sem] Oper.semAt_some

theorem Kd.of_below {E : Nat → Prop} {X : Nat} {A B : World} (hX : X < A.heap.size) (h : Below A.heap.size A B) : Kd E X A B :=
  ⟨h.os, h.tape, h.output, h.size, fun k hk _ _ => h.block k hk, fun g hg => .inl (by rw [ownX_block (h.block X hX)] at hg; exact hg)⟩
end Go.Proofs.YtclhimodopgeoaaGreat
namespace Go.Proofs.YtclhimodopgeoaaGreat
open Go.RowKit Go.Shelf

attribute [local go_sem] Oper.semAt_some

end Go.Proofs.YtclhimodopgeoaaGreat

namespace Go.Proofs.YtclhimodopgeoaaGreat
open Go.RowKit

end Go.Proofs.YtclhimodopgeoaaGreat
namespace Go.Proofs.YtclhimodopgeoaaGreat
open Go.RowKit

end Go.Proofs.YtclhimodopgeoaaGreat
namespace Go.Proofs.YtclhimodopgeoaaGreat
open Go.RowKit

theorem filter_takeI {l : List Int} {k : Nat} (h : k < l.length) (p : Int → Bool) : (l.take (k + 1)).filter p = (l.take k).filter p ++ (if p (l.getD k 0) then [l.getD k 0] else []) := by
  rw [List.take_succ_eq_append_getElem h, List.filter_append, List.getD_eq_getElem?_getD, List.getElem?_eq_getElem h]
  congr 1
  simp only [Option.getD_some, List.filter_cons, List.filter_nil]
end Go.Proofs.YtclhimodopgeoaaGreat
namespace Go.Proofs.YtclhimodopgeoaaGreat
open Go.RowKit

end Go.Proofs.YtclhimodopgeoaaGreat

