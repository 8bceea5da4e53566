/- Who is inert, said as the law of layer 12 on modal dialogs says it. -/
import Derived.Test.YtclhimodopgeoaaGreatXIn6
namespace Go.Proofs.YtclhimodopgeoaaGreat
open Go.RowKit

theorem any_up {T : List Nd} (hm : mayB T = true) {a : Nat} : ∀ (r n : Nat), rkF T n ≤ r → n < T.length → a ∈ upF T n →
    ((((castL (upF T n)).take (endI (castL (upF T n)) (a : Int))).any fun x => (refGetL T x 3).2) = true ↔ ∃ j, (refGetL T ((j : Nat) : Int) 3).2 = true ∧ j ∈ upF T n ∧ a ∈ upF T j) := by
  have key : ∀ {n : Nat} {l : List Nat}, n < T.length → upF T n = n :: l → (∀ x, x ∈ l → rkF T x < rkF T n) → n = a →
      ((((castL (upF T n)).take (endI (castL (upF T n)) (a : Int))).any fun x => (refGetL T x 3).2) = true ↔ ∃ j, (refGetL T ((j : Nat) : Int) 3).2 = true ∧ j ∈ upF T n ∧ a ∈ upF T j) := by
    intro n l hn e hl hna
    subst hna
    have e2 : castL (upF T n) = (n : Int) :: castL l := by rw [e]; rfl
    rw [e2, endI_cons, if_pos (by simp), List.take_succ_cons, List.take_zero, List.any_cons, List.any_nil, Bool.or_false]
    constructor
    · intro h; exact ⟨n, h, by rw [e]; simp, by rw [e]; simp⟩
    · rintro ⟨j, h, hj, hnj⟩
      rw [e] at hj
      rcases List.mem_cons.mp hj with rfl | hj
      · exact h
      · have h1 := hl j hj
        have hjl : j < T.length := (upF_rank hm _ n (Nat.le_refl _) hn j (by rw [e]; simp [hj])).1
        have h2 := (upF_rank hm _ j (Nat.le_refl _) hjl n hnj).2
        omega
  intro r
  induction r with
  | zero =>
    intro n hr hn ha
    rcases (fitsF hm).par n hn with e | ⟨p, hp, e, _⟩
    · have hu := upF_none hn e
      have hna : n = a := by rw [hu] at ha; simp at ha; exact ha.symm
      exact key hn hu (fun x h => by simp at h) hna
    · have := (upF_some hm hn e).2.2; omega
  | succ r ih =>
    intro n hr hn ha
    rcases (fitsF hm).par n hn with e | ⟨p, hp, e, _⟩
    · have hu := upF_none hn e
      have hna : n = a := by rw [hu] at ha; simp at ha; exact ha.symm
      exact key hn hu (fun x h => by simp at h) hna
    · obtain ⟨h1, h2, h3⟩ := upF_some hm hn e
      by_cases hna : n = a
      · refine key hn h2 (fun x hx => ?_) hna
        have := (upF_rank hm _ p (Nat.le_refl _) h1 x hx).2
        omega
      · have ha' : a ∈ upF T p := by
          rw [h2] at ha
          rcases List.mem_cons.mp ha with h | h
          · exact absurd h.symm hna
          · exact h
        have IH := ih p (by omega) h1 ha'
        have e2 : castL (upF T n) = (n : Int) :: castL (upF T p) := by rw [h2]; rfl
        rw [e2, endI_cons, if_neg (by simp; omega), List.take_succ_cons, List.any_cons, Bool.or_eq_true, IH]
        constructor
        · rintro (h | ⟨j, hj, hj1, hj2⟩)
          · exact ⟨n, h, by rw [h2]; simp, ha⟩
          · exact ⟨j, hj, by rw [h2]; simp [hj1], hj2⟩
        · rintro ⟨j, hj, hj1, hj2⟩
          rw [h2] at hj1
          rcases List.mem_cons.mp hj1 with rfl | hj1
          · exact .inl hj
          · exact .inr ⟨j, hj, hj1, hj2⟩
theorem endI_out {l : List Int} {h : Int} (hn : h ∉ l) : endI l h = l.length := by
  induction l with
  | nil => exact Nat.le_zero.mp (endI_le [] h)
  | cons x l ih =>
    rw [endI_cons, if_neg, ih]
    · rfl
    · intro q; exact hn (by simp [q])
    · intro q; rw [beq_iff_eq] at q; exact hn (by simp [q])
def cMB (T : List Nd) (h : Int) (wi : Bool) (n j : Nat) : Bool := (refGetL T (j : Int) 3).2 && (fabvB T (j : Int) n && ((!wi || h == -1) || fabvB T h j))
def mMB (T : List Nd) (h : Int) (wi : Bool) (n k : Nat) : Bool := (List.range k).any (cMB T h wi n)
theorem mMB_zero (T : List Nd) (h : Int) (wi : Bool) (n : Nat) : mMB T h wi n 0 = false := rfl
theorem mMB_succ (T : List Nd) (h : Int) (wi : Bool) (n k : Nat) : mMB T h wi n (k + 1) = (mMB T h wi n k || cMB T h wi n k) := by
  unfold mMB
  rw [List.range_succ, List.any_append]
  simp
theorem mMB_iff {T : List Nd} {h : Int} {wi : Bool} {n k : Nat} : mMB T h wi n k = true ↔ ∃ j, j < k ∧ cMB T h wi n j = true := by
  unfold mMB
  rw [List.any_eq_true]
  constructor
  · rintro ⟨j, h1, h2⟩; exact ⟨j, List.mem_range.mp h1, h2⟩
  · rintro ⟨j, h1, h2⟩; exact ⟨j, List.mem_range.mpr h1, h2⟩
/-- Who is not below the highest modal dialog is inert. -/
theorem in_out {V : Vw} (hm : mayB V.tree = true) {n : Nat} (hn : n < V.tree.length) (h1 : highV V ≠ -1) (h2 : fabvB V.tree (highV V) n = false) (h0 : n ≠ 0) : blockedB (highV V) (upI6 V.tree n) = true ∧ inB V n = true := by
  have hb : blockedB (highV V) (upI6 V.tree n) = true := by
    rw [blocked_eq hm hn, h2]
    have q1 : (highV V != -1) = true := by rw [bne_iff_ne]; exact h1
    have q2 : ((n : Int) != 0) = true := by rw [bne_iff_ne]; omega
    rw [q1, q2]; rfl
  exact ⟨hb, by unfold inB; rw [hb]; rfl⟩
theorem in_mark {V : Vw} (hm : mayB V.tree = true) {n : Nat} (hn : n < V.tree.length) {wi : Bool} (hw : wi = (highV V == -1 || fabvB V.tree (highV V) n)) (hc : wi = true ∨ n = 0) (hnode : highV V ≠ -1 → ∃ a : Nat, highV V = (a : Int)) : inB V n = mMB V.tree (highV V) wi n V.tree.length := by
  have hb : blockedB (highV V) (upI6 V.tree n) = false := by
    rw [blocked_eq hm hn]
    by_cases q1 : highV V = -1
    · rw [q1]; rfl
    · rcases hc with q | q
      · have : fabvB V.tree (highV V) n = true := by
          rw [hw, Bool.or_eq_true] at q
          rcases q with q | q
          · exact absurd (beq_iff_eq.mp q) q1
          · exact q
        rw [this]; simp
      · subst q; simp
  unfold inB
  rw [hb, Bool.false_or, under_up hm hn, Bool.eq_iff_iff, mMB_iff]
  by_cases hf : fabvB V.tree (highV V) n = true ∧ highV V ≠ -1
  · obtain ⟨hf, hh⟩ := hf
    obtain ⟨a, ha⟩ := hnode hh
    rw [ha] at hf hw ⊢
    have hwt : wi = true := by rw [hw, hf, Bool.or_true]
    have hne : (((a : Int)) == -1) = false := by rw [beq_eq_false_iff_ne]; omega
    rw [show upI6 V.tree n = castL (upF V.tree n) from rfl, any_up hm _ n (Nat.le_refl _) hn (fabv_mem.mp hf)]
    constructor
    · rintro ⟨j, h1, h2, h3⟩
      exact ⟨j, up_nodes hm hn j h2, by unfold cMB; rw [h1, fabv_mem.mpr h2, fabv_mem.mpr h3]; simp⟩
    · rintro ⟨j, _, h2⟩
      unfold cMB at h2
      rw [hwt, hne] at h2
      simp only [Bool.not_true, Bool.false_or, Bool.and_eq_true] at h2
      exact ⟨j, h2.1, fabv_mem.mp h2.2.1, fabv_mem.mp h2.2.2⟩
  · have hout : highV V ∉ upI6 V.tree n := by
      intro hx
      refine hf ⟨?_, fun e => ?_⟩
      · rw [← up_contains]; unfold containsB; exact decide_eq_true hx
      · rw [e] at hx
        unfold upI6 castL at hx
        obtain ⟨y, _, e2⟩ := List.mem_map.mp hx
        omega
    rw [endI_out hout, List.take_length, List.any_eq_true]
    have hfree : ((!wi || highV V == -1)) = true := by
      by_cases q : highV V = -1
      · rw [q]; simp
      · have q2 : fabvB V.tree (highV V) n = false := by
          cases e : fabvB V.tree (highV V) n with
          | false => rfl
          | true => exact absurd ⟨e, q⟩ hf
        have q3 : (highV V == -1) = false := by rw [beq_eq_false_iff_ne]; exact q
        rw [hw, q2, q3]; rfl
    constructor
    · rintro ⟨x, h1, h2⟩
      unfold upI6 castL at h1
      obtain ⟨j, hj, rfl⟩ := List.mem_map.mp h1
      exact ⟨j, up_nodes hm hn j hj, by unfold cMB; rw [h2, fabv_mem.mpr hj, hfree]; rfl⟩
    · rintro ⟨j, _, h2⟩
      unfold cMB at h2
      simp only [Bool.and_eq_true] at h2
      exact ⟨(j : Int), by unfold upI6 castL; exact List.mem_map.mpr ⟨j, fabv_mem.mp h2.2.1, rfl⟩, h2.1⟩
theorem allIn_has {V : Vw} {n k : Nat} (hn : n < k) : containsB (allIn V k) (n : Int) = inB V n := by
  unfold containsB allIn castL
  rw [Bool.eq_iff_iff, decide_eq_true_iff, List.mem_map]
  constructor
  · rintro ⟨j, hj, e⟩
    have : j = n := by omega
    subst this
    exact (List.mem_filter.mp hj).2
  · intro h; exact ⟨n, List.mem_filter.mpr ⟨List.mem_range.mpr hn, h⟩, rfl⟩
end Go.Proofs.YtclhimodopgeoaaGreat

