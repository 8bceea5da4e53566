/- The document's own Insert: it answers as the program's. -/
import Derived.Deep.RegionWith
import Derived.Test.YtoolkpjbbngdpaaRefRemove
import Derived.Test.YtoolkpjbbngdpaaSame2
namespace Go.Proofs.Ytoolkpjbbngdpaa
open Go.RowKit

/-- A list, and c ahead of b in it. -/
def insB (l : List Int) (b c : Int) : List Int := l.flatMap fun k => if k == b then [c, k] else [k]
theorem insB_take {l : List Int} {k : Nat} (h : k < l.length) (b c : Int) : insB (l.take (k + 1)) b c = insB (l.take k) b c ++ (if l.getD k 0 == b then [c, l.getD k 0] else [l.getD k 0]) := by
  unfold insB
  rw [List.take_add_one, List.getElem?_eq_getElem h, List.flatMap_append, List.getD_eq_getElem?_getD, List.getElem?_eq_getElem h]
  simp
theorem insB_none {b c : Int} : ∀ {l : List Int}, b ∉ l → insB l b c = l
  | [], _ => rfl
  | a :: l, h => by
    have hne : (a == b) = false := by
      simp only [List.mem_cons, not_or] at h
      simp only [beq_eq_false_iff_ne, ne_eq]
      exact fun e => h.1 e.symm
    have ih := insB_none (c := c) (l := l) (fun hm => h (List.mem_cons_of_mem _ hm))
    unfold insB at ih ⊢
    rw [List.flatMap_cons, hne, ih]; rfl
theorem insB_some {b c : Int} : ∀ {l : List Int}, l.Nodup → b ∈ l → insB l b c = insL l (idxL b l) c
  | [], _, h => by simp at h
  | a :: l, hn, h => by
    rw [List.nodup_cons] at hn
    cases e : (b == a)
    · have hne : b ≠ a := by simpa using e
      have hab : (a == b) = false := by simp only [beq_eq_false_iff_ne, ne_eq]; exact fun e => hne e.symm
      have hm : b ∈ l := by
        rcases List.mem_cons.mp h with h | h
        · exact absurd h hne
        · exact h
      have ih := insB_some (c := c) hn.2 hm
      unfold insB insL at ih
      unfold insB insL
      simp only [idxL, e, Bool.false_eq_true, if_false, List.take_succ_cons, List.drop_succ_cons, List.cons_append]
      rw [List.flatMap_cons, hab, ih]; rfl
    · have he : b = a := by simpa using e
      subst he
      have := insB_none (c := c) hn.1
      unfold insB at this ⊢
      unfold insL
      simp only [idxL, e, if_true, List.take_zero, List.drop_zero, List.nil_append]
      rw [List.flatMap_cons, this]; simp
theorem insB_len (l : List Int) (b c : Int) : (insB l b c).length ≤ l.length * 2 := by
  unfold insB
  induction l with
  | nil => simp
  | cons a l ih =>
    rw [List.flatMap_cons, List.length_append, List.length_cons]
    split
    · simp only [List.length_cons, List.length_nil]; omega
    · simp only [List.length_cons, List.length_nil]; omega

/-- What the document's Insert makes of a tree in which the child is nobody's kid. -/
def finL (U : List Nd) (p c : Nat) (b : Int) : List Nd := withParent (withKids U p (insB (nd U p).kids b c ++ (if b == -1 then [(c : Int)] else []))) c p

theorem lay_list {l : List Int} (hn : l.Nodup) (h0 : ∀ k ∈ l, 0 ≤ k) {b : Int} (hb : b = -1 ∨ b ∈ l) (c : Int) : insB l b c ++ (if b == -1 then [c] else []) = insL l (if b == -1 then l.length else idxL b l) c := by
  rcases hb with rfl | hb
  · rw [insB_none (fun hm => by have := h0 _ hm; omega)]
    simp [insL]
  · have hne : (b == -1) = false := by
      have := h0 _ hb
      simp only [beq_eq_false_iff_ne, ne_eq]; omega
    rw [hne, insB_some hn hb]; simp

/-- Where the child had no parent. -/
theorem fin_none {T : List Nd} (h : Fine T) {p c : Nat} {b : Int} (e : insertF T p c b = 0) (hbc : (b == (c : Int)) = false) (hpc : (nd T c).parent = -1) : finL T p c b = insertL T p c b := by
  obtain ⟨p', c', e1, e2, hp, hc, h2, hk, hcp, han, hb⟩ := insertF_zero e
  obtain rfl : p = p' := by omega
  obtain rfl : c = c' := by omega
  have hbs := before_stays h hc hcp hb (by simpa using hbc)
  rw [takeL_none hpc] at hbs
  unfold insertL finL
  rw [hbc, takeL_none hpc]
  simp only [Bool.false_eq_true, if_false]
  unfold layL layAt
  rw [lay_list (h.nodup p hp) (fun k hk => by obtain ⟨m, rfl, _⟩ := kidP_iff.mp (h.kid p hp k hk); omega) hbs]
theorem fin_some {T : List Nd} (h : Fine T) {p c q : Nat} {b : Int} (e : insertF T p c b = 0) (hbc : (b == (c : Int)) = false) (hq : q < T.length) (hqe : (nd T c).parent = (q : Int)) (hm : (c : Int) ∈ (nd T q).kids) : finL (withKids T q (withoutL (nd T q).kids c)) p c b = insertL T p c b := by
  obtain ⟨p', c', e1, e2, hp, hc, h2, hk, hcp, han, hb⟩ := insertF_zero e
  obtain rfl : p = p' := by omega
  obtain rfl : c = c' := by omega
  have hbs := before_stays h hc hcp hb (by simpa using hbc)
  have hft := (fine_take h hc).1
  have htl := takeL_length T c
  have hkids : (nd (takeL T c) p).kids = (nd (withKids T q (withoutL (nd T q).kids c)) p).kids := by
    rw [takeL_without h hq hqe hm, nd_withParent _ _ _ (by rw [withKids_length]; exact hc), if_neg (fun e => hcp e.symm)]
  have hlist := lay_list (hft.nodup p (by rw [htl]; exact hp)) (fun k hk => by obtain ⟨m, rfl, _⟩ := kidP_iff.mp (hft.kid p (by rw [htl]; exact hp) k hk); omega) hbs (c : Int)
  unfold insertL finL
  rw [hbc]
  simp only [Bool.false_eq_true, if_false]
  rw [← hkids, hlist]
  unfold layL layAt
  refine tree_ext (by simp only [withParent_length, withKids_length, htl]) (fun n hn => ?_)
  have hlen : (withKids T q (withoutL (nd T q).kids c)).length = T.length := withKids_length _ _ _
  simp only [withParent_length, withKids_length] at hn
  rw [nd_withParent _ _ _ (by rw [withKids_length, hlen]; exact hc), nd_withParent _ _ _ (by rw [withKids_length, htl]; exact hc), nd_withKids _ p _ (by rw [hlen]; exact hp), nd_withKids _ p _ (by rw [hlen]; exact hp), nd_withKids _ p _ (by rw [htl]; exact hp), nd_withKids _ p _ (by rw [htl]; exact hp), if_neg hcp, if_neg hcp]
  have ht : ∀ m, nd (takeL T c) m = if m = c then { nd (withKids T q (withoutL (nd T q).kids c)) c with parent := -1 } else nd (withKids T q (withoutL (nd T q).kids c)) m := fun m => by
    rw [takeL_without h hq hqe hm, nd_withParent _ _ _ (by rw [withKids_length]; exact hc)]
  by_cases h1 : n = c
  · subst h1
    rw [if_pos rfl, if_pos rfl, ht, if_pos rfl]
  · rw [if_neg h1, if_neg h1]
    by_cases h3 : n = p
    · subst h3
      rw [if_pos rfl, if_pos rfl, ht, if_neg h1]
    · rw [if_neg h3, if_neg h3, ht, if_neg h1]
end Go.Proofs.Ytoolkpjbbngdpaa
