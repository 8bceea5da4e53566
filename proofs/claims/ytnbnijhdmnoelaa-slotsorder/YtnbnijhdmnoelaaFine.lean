/- What a tree that may be is, as facts about its nodes: the pure part of layer 1. -/
import Derived.Test.YtnbnijhdmnoelaaMayEq2
import Derived.Test.YtnbnijhdmnoelaaBits1
namespace Go.Proofs.Ytnbnijhdmnoelaa
open Go.RowKit

/-- A tree that may be. -/
structure Fine (T : List Nd) : Prop where
  pos : 1 ≤ T.length
  le : T.length ≤ 64
  kind : ∀ n, n < T.length → kindFitsB (nd T n) n = true
  host : ∀ n, n < T.length → hostFitsB T n = true
  root : ∀ n, n < T.length → rootFitsB T n = true
  attrs : ∀ n, n < T.length → attrsFrom (nd T n).kind (-1) (nd T n).attrs = true
  text : ∀ n, n < T.length → (nd T n).kind = 2 → (nd T n).kids = []
  kid : ∀ p, p < T.length → ∀ k, k ∈ (nd T p).kids → kidFine T p k
  nodup : ∀ p, p < T.length → (nd T p).kids.Nodup
  par : ∀ n, n < T.length → (nd T n).parent = -1 ∨ ∃ p, p < T.length ∧ (nd T n).parent = (p : Int) ∧ (n : Int) ∈ (nd T p).kids
  rank : ∃ r : Nat → Nat, ∀ n m : Nat, n < T.length → m < T.length → overI (nd T n) = (m : Int) → r m < r n

theorem mayB_upOk {T : List Nd} (h : mayB T = true) : UpOk T := by
  rw [mayB] at h
  simp only [Bool.and_eq_true] at h
  exact upOk_of h.2.2.1 h.2.2.2.1

/-- Once one has come to nobody, more steps tell nothing new. -/
theorem ups_stable {T : List Nd} (hup : UpOk T) : ∀ {k n : Nat}, n < T.length → endsF T (k + 1) n = true → ∀ m, k ≤ m → ups T m n = ups T k n
  | 0, n, hn, h, m, _ => by
    have hne : ((n : Int) == -1) = false := by simp
    rw [endsF, hne, endsF] at h
    simp at h
  | k + 1, n, hn, h, m, hm => by
    obtain ⟨m, rfl⟩ : ∃ m', m = m' + 1 := ⟨m - 1, by omega⟩
    have hne : ((n : Int) == -1) = false := by simp
    rw [endsF, hne] at h
    simp only [Int.toNat_natCast] at h
    rw [ups, ups]
    cases he : (overI (nd T n) == -1)
    · simp only [Bool.false_eq_true, if_false]
      rcases hup n hn with h1 | h1
      · rw [he] at h1; cases h1
      · obtain ⟨q, hq, hql⟩ := isNodeB_true h1
        rw [hq] at h ⊢
        rw [Int.toNat_natCast, ups_stable hup hql h m (by omega)]
    · rfl

theorem mayB_fine {T : List Nd} (h : mayB T = true) : Fine T := by
  have hup := mayB_upOk h
  have h' := h
  rw [mayB] at h
  simp only [Bool.and_eq_true, decide_eq_true_eq] at h
  obtain ⟨h1, h64, hn, hk, hl⟩ := h
  rw [Bool.not_eq_true'] at hl
  obtain ⟨hkids, hpar⟩ := kidsFit_spec hk
  have hb : ∀ n, n < T.length → (kindFitsB (nd T n) n = true ∧ hostFitsB T n = true) ∧ rootFitsB T n = true ∧ attrsFrom (nd T n).kind (-1) (nd T n).attrs = true := fun n hlt => by
    have hb := allB_true.mp hn n hlt
    simp only [nodeBad, Bool.not_eq_true', Bool.or_eq_false_iff, Bool.not_eq_false'] at hb
    exact ⟨⟨hb.1.1.1, hb.1.1.2⟩, hb.1.2, hb.2⟩
  refine ⟨h1, h64, fun n hn => (hb n hn).1.1, fun n hn => (hb n hn).1.2, fun n hn => (hb n hn).2.1, fun n hn => (hb n hn).2.2, fun n hn h2 => ?_, fun p hp => (hkids p hp).2.1, fun p hp => (hkids p hp).2.2, fun n hn => ?_, ?_⟩
  · have := (hkids n hn).1
    rw [h2] at this
    simpa using this
  · rcases hpar n hn with h | ⟨i, hi, hm⟩
    · exact Or.inl h
    · have hf := (hkids i hi).2.1 _ hm
      exact Or.inr ⟨i, hi, by simpa using hf.2.2, hm⟩
  · refine ⟨fun n => (ups T T.length n).length, fun n m hn hm he => ?_⟩
    have e1 := ends_of_noLoop hup hl hn
    have e2 := ends_of_noLoop hup hl hm
    have hne : (overI (nd T n) == -1) = false := by rw [he]; simp
    have s : ups T (T.length + 1) n = ups T T.length n := ups_stable hup hn e1 _ (by omega)
    show (ups T T.length m).length < (ups T T.length n).length
    rw [← s, ups, hne, he]
    simp

theorem ups_rank {T : List Nd} (hup : UpOk T) {r : Nat → Nat} (hr : ∀ n m : Nat, n < T.length → m < T.length → overI (nd T n) = (m : Int) → r m < r n) : ∀ {k n x : Nat}, n < T.length → x ∈ ups T k n → r x < r n
  | 0, n, x, _, h => by simp [ups] at h
  | k + 1, n, x, hn, h => by
    rw [ups] at h
    cases he : (overI (nd T n) == -1)
    · rw [he, if_neg (by simp)] at h
      rcases hup n hn with h1 | h1
      · rw [he] at h1; cases h1
      · obtain ⟨q, hq, hql⟩ := isNodeB_true h1
        have := hr n q hn hql hq
        rw [hq, Int.toNat_natCast] at h
        rcases List.mem_cons.mp h with rfl | h
        · exact this
        · have := ups_rank hup hr hql h; omega
    · rw [he, if_pos rfl] at h
      simp at h

theorem fine_mayB {T : List Nd} (h : Fine T) : mayB T = true := by
  have hnode : allB T.length (fun n => !nodeBad T n) = true := allB_true.mpr fun n hn => by
    simp only [nodeBad, h.kind n hn, h.host n hn, h.root n hn, h.attrs n hn]; rfl
  have hfit : kidsFitB T = true := by
    obtain ⟨P, hP, hPj⟩ := nodesFrom_runs (T := T) (m := T.length) (n := 0) (P := fun _ => false) (fun i _ hi => ⟨by
      by_cases e : (nd T i).kind = 2
      · rw [h.text i (by omega) e]; simp
      · simp [e], h.kid i (by omega), h.nodup i (by omega)⟩) (fun j hj => by cases hj)
    rw [kidsFitB, hP]
    refine allB_true.mpr (fun n hlt => ?_)
    simp only [looseB, Bool.not_eq_true', Bool.and_eq_false_iff, Bool.not_eq_false', bne_eq_false_iff_eq]
    rcases h.par n hlt with h | ⟨q, hq, _, hc⟩
    · exact Or.inr h
    · exact Or.inl ((hPj n).mpr (Or.inr ⟨q, Nat.zero_le _, by omega, hc⟩))
  have hup : UpOk T := upOk_of hnode hfit
  have hloop : hasLoopB T = false := by
    obtain ⟨r, hr⟩ := h.rank
    rw [hasLoopB, Bool.not_eq_false', allB_true]
    intro n hn
    rw [isAncB, Bool.not_eq_true', List.any_eq_false]
    intro x hx he
    have e : (x : Int) = n := by simpa using he
    obtain rfl : x = n := by omega
    have := ups_rank hup hr hn hx
    omega
  rw [mayB, hnode, hfit, hloop]
  have h1 := h.pos
  have h2 := h.le
  simp [h1, h2]

theorem mayB_iff {T : List Nd} : mayB T = true ↔ Fine T := ⟨mayB_fine, fine_mayB⟩

/-- x lies below c, or is c. -/
inductive Sub (T : List Nd) (c : Nat) : Nat → Prop
  | refl : Sub T c c
  | step {x y : Nat} : overI (nd T x) = (y : Int) → Sub T c y → Sub T c x

theorem sub_ups {T : List Nd} (hup : UpOk T) {c x : Nat} (h : Sub T c x) (hx : x < T.length) : x = c ∨ ∃ k, c ∈ ups T k x := by
  induction h with
  | refl => exact Or.inl rfl
  | @step x y he hs ih =>
    have hy : y < T.length := by
      rcases hup x hx with h | h
      · rw [he] at h; simp at h
      · rw [he] at h; simp [isNodeB] at h; omega
    have hne : (overI (nd T x) == -1) = false := by rw [he]; simp
    rcases ih hy with rfl | ⟨k, hk⟩
    · exact Or.inr ⟨1, by rw [ups, hne, he]; simp⟩
    · exact Or.inr ⟨k + 1, by rw [ups, hne, he]; simp [hk]⟩

theorem sub_anc {T : List Nd} (h : mayB T = true) {c x : Nat} (hs : Sub T c x) (hx : x < T.length) : x = c ∨ isAncB T c x = true := by
  have hup := mayB_upOk h
  rcases sub_ups hup hs hx with e | ⟨k, hk⟩
  · exact Or.inl e
  · right
    have hl : hasLoopB T = false := by
      rw [mayB] at h
      simp only [Bool.and_eq_true] at h
      simpa using h.2.2.2.2
    have e1 := ends_of_noLoop hup hl hx
    have hm : ∀ d, c ∈ ups T (k + d) x := fun d => by
      induction d with
      | zero => exact hk
      | succ d ih => exact ups_mono ih
    have := hm T.length
    rw [ups_stable hup hx e1 _ (by omega)] at this
    rw [isAncB, List.any_eq_true]
    exact ⟨c, this, by simp⟩
end Go.Proofs.Ytnbnijhdmnoelaa
