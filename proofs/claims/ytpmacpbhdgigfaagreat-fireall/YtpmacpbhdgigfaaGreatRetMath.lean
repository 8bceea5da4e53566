/- The document's own Both, Up and Top of layer 3; going up, as an order. What is told of a node to another one: the pure part of layer 4. -/
import Derived.Test.YtpmacpbhdgigfaaGreatShade
namespace Go.Proofs.YtpmacpbhdgigfaaGreat
open Go.RowKit

def bothB (T : List Nd) (a b : Int) : Bool := mayB T && isNodeB T.length a && isNodeB T.length b

set_option maxHeartbeats 1000000 in
theorem refBoth_any (T : List Nd) (hS : Sane T) (v : Value) (a b : Int) (w : World) (hT : TreeAt w v T) :
    Calls Tryz.prog 68 #[v, .int .i64 a, .int .i64 b] w fun e w' => e = .returned (.bool (bothB T a b)) ∧ Below w.heap.size w w' := by
  obtain ⟨ta, tc, rfl⟩ := hT.shape
  have HT := hideG hT
  have HS := hideG hS
  clear hT hS
  cases hm : mayB T
  · have HQ := hideG (show bothB T a b = false by simp [bothB, hm])
    go_enter Tryz.func68, Tryz.ntmps68
    go_wp2_with (go_at_call 44; refine (refMay_walk T HS.out _ _ HT.out).mono ?_; rintro e w1 ⟨rfl, hb1⟩)
    go_ret
    exact ⟨ret_bool HQ.out.symm, hb1⟩
  · cases ha : isNodeB T.length a
    · have HQ := hideG (show bothB T a b = false by simp [bothB, ha])
      go_enter Tryz.func68, Tryz.ntmps68
      go_wp2_with (first | (go_at_call 44; refine (refMay_walk T HS.out _ _ HT.out).mono ?_; rintro e w1 ⟨rfl, hb1⟩) | (go_at_call 53; refine (refIs_any _ _ _ _ _).mono ?_; rintro e w2 ⟨rfl, hw⟩; subst hw))
      go_ret
      exact ⟨ret_bool HQ.out.symm, hb1⟩
    · have HQ := hideG (show bothB T a b = isNodeB T.length b by simp [bothB, ha, hm])
      go_enter Tryz.func68, Tryz.ntmps68
      go_wp2_with (first | (go_at_call 44; refine (refMay_walk T HS.out _ _ HT.out).mono ?_; rintro e w1 ⟨rfl, hb1⟩) | (go_at_call 53; refine (refIs_any _ _ _ _ _).mono ?_; rintro e w2 ⟨rfl, hw⟩; subst hw))
      go_ret
      exact ⟨ret_bool HQ.out.symm, hb1⟩

end Go.Proofs.YtpmacpbhdgigfaaGreat
namespace Go.Proofs.YtpmacpbhdgigfaaGreat
open Go.RowKit

/-- A node, and all above it. -/
def supN (T : List Nd) (n : Nat) : List Nat := n :: upsL T n

theorem supI_known {T : List Nd} (hm : mayB T = true) {n : Nat} (hn : n < T.length) : supI T (n : Int) = castL (supN T n) := by
  unfold supI
  rw [known_of hm hn, if_pos rfl, Int.toNat_natCast]; rfl
theorem mem_castL {l : List Nat} {x : Nat} : (x : Int) ∈ castL l ↔ x ∈ l := by
  unfold castL
  rw [List.mem_map]
  constructor
  · rintro ⟨y, hy, e⟩
    have : y = x := by omega
    exact this ▸ hy
  · intro h; exact ⟨x, h, rfl⟩
theorem above_iff {T : List Nd} (hm : mayB T = true) {a b : Nat} (hb : b < T.length) : aboveS T (a : Int) (b : Int) = true ↔ a ∈ supN T b := by
  unfold aboveS containsB
  rw [supI_known hm hb, decide_eq_true_eq, mem_castL]
theorem contains_iff {T : List Nd} (hm : mayB T = true) {a b : Nat} (hb : b < T.length) : containsB (supI T (b : Int)) (a : Int) = true ↔ a ∈ supN T b := above_iff hm hb

theorem upsL_lt {T : List Nd} (hm : mayB T = true) {n x : Nat} (hn : n < T.length) (h : x ∈ supN T n) : x < T.length := by
  rcases List.mem_cons.mp h with rfl | h
  · exact hn
  · exact ups_lt (mayB_upOk hm) hn h
theorem over_cases {T : List Nd} (hm : mayB T = true) {n : Nat} (hn : n < T.length) : ((overI (nd T n) == -1) = true) ∨ ∃ m : Nat, m < T.length ∧ overI (nd T n) = (m : Int) := by
  rcases mayB_upOk hm n hn with h | h
  · exact .inl h
  · obtain ⟨m, e, hl⟩ := isNodeB_true h
    exact .inr ⟨m, hl, e⟩
/-- Whoever is above has all above it above, too. -/
theorem sup_suffix {T : List Nd} (hm : mayB T = true) : ∀ {a x : Nat}, a < T.length → x ∈ supN T a → ∃ pre, supN T a = pre ++ supN T x := by
  intro a x ha hx
  generalize hk : (upsL T a).length = k
  induction k using Nat.strongRecOn generalizing a with
  | _ k ih =>
    rcases List.mem_cons.mp hx with rfl | hx'
    · exact ⟨[], rfl⟩
    · rcases over_cases hm ha with e | ⟨m, hml, e⟩
      · rw [upsL_none e] at hx'; simp at hx'
      · have hs := (upsL_some hm ha e).1
        have hx2 : x ∈ supN T m := by unfold supN; rw [← hs]; exact hx'
        obtain ⟨pre, hp⟩ := ih (upsL T m).length (by rw [← hk, hs]; simp) hml hx2 rfl
        exact ⟨a :: pre, by show a :: upsL T a = _; rw [hs]; show a :: supN T m = _; rw [hp]; rfl⟩
theorem sup_trans {T : List Nd} (hm : mayB T = true) {a b c : Nat} (hc : c < T.length) (h1 : a ∈ supN T b) (h2 : b ∈ supN T c) : a ∈ supN T c := by
  obtain ⟨pre, hp⟩ := sup_suffix hm hc h2
  rw [hp]; exact List.mem_append.mpr (.inr h1)
theorem sup_self (T : List Nd) (a : Nat) : a ∈ supN T a := List.mem_cons_self ..
theorem top_mem {T : List Nd} (hm : mayB T = true) {a : Nat} (ha : a < T.length) : topN T a ∈ supN T a := by
  obtain ⟨_, ⟨i, hi⟩, h3⟩ := sup_split hm ha
  have ht : topN T a ∈ pars T a := by rw [hi]; simp
  rcases h3 with ⟨_, _, e⟩ | ⟨_, h, _, _, e⟩
  · show topN T a ∈ a :: upsL T a; rw [e]; exact ht
  · show topN T a ∈ a :: upsL T a; rw [e]; exact List.mem_append.mpr (.inl ht)
theorem fine_hostroot {T : List Nd} (hm : mayB T = true) {t g : Nat} (ht : t < T.length) (hk : (nd T t).kind = 3) (hh : (nd T t).host = (g : Int)) : (nd T g).root = (t : Int) := by
  obtain ⟨h, hl, e1, _, e2⟩ := fine_host (mayB_fine hm) ht hk
  have : h = g := by omega
  exact this ▸ e2

theorem ret_facts {T : List Nd} (hm : mayB T = true) (H : List Int) : ∀ {a : Nat}, a < T.length →
    ret T H a < T.length ∧ ret T H a ∈ supN T a ∧ ((nd T (topN T (ret T H a))).kind != 3 || containsB H (topN T (ret T H a))) = true ∧ (ret T H a = a ∨ ((nd T (ret T H a)).root != -1) = true) := by
  intro a ha
  generalize hk : (upsL T a).length = k
  induction k using Nat.strongRecOn generalizing a with
  | _ k ih =>
    cases hc : ((nd T (topN T a)).kind != 3 || containsB H (topN T a))
    · obtain ⟨htl, _, hspl⟩ := sup_split hm ha
      rcases hspl with ⟨h3, _⟩ | ⟨h3, g, hgl, hh, heq⟩
      · simp [h3] at hc
      · have hlt := upsL_host heq
        rw [ret_step hm hc hgl hh hlt]
        obtain ⟨i1, i2, i3, i4⟩ := ih (upsL T g).length (by omega) hgl rfl
        refine ⟨i1, ?_, i3, .inr ?_⟩
        · show _ ∈ a :: upsL T a
          rw [heq]; exact List.mem_append.mpr (.inr i2)
        · rcases i4 with e | e
          · rw [e, fine_hostroot hm htl h3 hh]; simp
          · exact e
    · rw [ret_stop hc]
      exact ⟨ha, sup_self T a, hc, .inl rfl⟩
theorem retI_known {T : List Nd} (hm : mayB T = true) {a b : Nat} (ha : a < T.length) (hb : b < T.length) : retI T (a : Int) (b : Int) = (ret T (supI T b) a : Int) := by
  unfold retI
  rw [known_of hm ha, known_of hm hb, Int.toNat_natCast]; rfl
theorem ret_self {T : List Nd} (hm : mayB T = true) {a : Nat} (ha : a < T.length) : ret T (supI T a) a = a := by
  apply ret_stop
  rw [(contains_iff hm ha).mpr (top_mem hm ha), Bool.or_true]
/-- Told to somebody further out. -/
theorem ret_nested {T : List Nd} (hm : mayB T = true) {b c : Nat} (hb : b < T.length) (hc : c < T.length) (hcb : c ∈ supN T b) : ∀ {a : Nat}, a < T.length → ret T (supI T c) (ret T (supI T b) a) = ret T (supI T c) a := by
  intro a ha
  generalize hk : (upsL T a).length = k
  induction k using Nat.strongRecOn generalizing a with
  | _ k ih =>
    cases hs : ((nd T (topN T a)).kind != 3 || containsB (supI T (b : Int)) (topN T a))
    · obtain ⟨htl, _, hspl⟩ := sup_split hm ha
      rcases hspl with ⟨h3, _⟩ | ⟨h3, g, hgl, hh, heq⟩
      · simp [h3] at hs
      · have hlt := upsL_host heq
        have hs2 : ((nd T (topN T a)).kind != 3 || containsB (supI T (c : Int)) (topN T a)) = false := by
          simp only [Bool.or_eq_false_iff] at hs ⊢
          refine ⟨hs.1, ?_⟩
          cases hx : containsB (supI T (c : Int)) (topN T a)
          · rfl
          · have := (contains_iff hm hb).mpr (sup_trans hm hb ((contains_iff hm hc).mp hx) hcb)
            rw [hs.2] at this; cases this
        rw [ret_step hm hs hgl hh hlt, ret_step hm hs2 hgl hh hlt]
        exact ih (upsL T g).length (by omega) hgl rfl
    · rw [ret_stop hs]
theorem both_true {T : List Nd} {a b : Int} (h : bothB T a b = true) : mayB T = true ∧ (∃ x : Nat, a = x ∧ x < T.length) ∧ ∃ y : Nat, b = y ∧ y < T.length := by
  simp only [bothB, Bool.and_eq_true] at h
  exact ⟨h.1.1, isNodeB_true h.1.2, isNodeB_true h.2⟩
end Go.Proofs.YtpmacpbhdgigfaaGreat
