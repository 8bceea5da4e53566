/- Slots, and who lies in one, stand in the tree's order. -/
import Derived.Test.YtnbnijhdmnoelaaS5Hosts
namespace Go.Proofs.Ytnbnijhdmnoelaa
open Go.RowKit

theorem split_two {l : List Nat} {i j : Nat} (hi : i < l.length) (hj : j < l.length) (hij : i < j) : ∃ P Q, l = P ++ l[i] :: Q ∧ l[j] ∈ Q := by
  refine ⟨l.take i, l.drop (i + 1), by simp, ?_⟩
  rw [List.mem_iff_getElem]
  refine ⟨j - (i + 1), by simp; omega, ?_⟩
  rw [List.getElem_drop]
  congr 1
  omega
theorem pos_pairwise {l : List Nat} (h : l.Nodup) : l.Pairwise fun a b => pos a l < pos b l := by
  rw [List.pairwise_iff_getElem]
  intro i j hi hj hij
  obtain ⟨P, Q, e, hb⟩ := split_two hi hj hij
  generalize l[i] = a at *
  generalize l[j] = b at *
  rw [e] at h ⊢
  exact pos_ahead h hb
/-- The kids of a node, in their order, are before one another. -/
theorem kids_bef {T : List Nd} (hm : mayB T = true) {h : Nat} (hh : h < T.length) : (chK T h).Pairwise fun a b => befN T a b = true := by
  have F := forest3 hm
  rw [List.pairwise_iff_getElem]
  intro i j hi hj hij
  obtain ⟨P, Q, e, hbQ⟩ := split_two hi hj hij
  have ha : (chK T h)[i] ∈ chK T h := List.getElem_mem hi
  have hb : (chK T h)[j] ∈ chK T h := List.getElem_mem hj
  generalize (chK T h)[i] = a at *
  generalize (chK T h)[j] = b at *
  have hal := F.lt h hh a ha
  have hbl := F.lt h hh b hb
  have hta := top_eq hm hal (F.u_kid hh ha)
  have htb := top_eq hm hbl (F.u_kid hh hb)
  have htl := top_lt hm hh
  obtain ⟨_, _, p, s, hseg⟩ := F.d_segment htl ((mem_top hm hh hh).mpr rfl)
  have hnd := F.d_nodup htl
  have hsh : dn T (topN T h) = (p ++ h :: P.flatMap (dn T)) ++ a :: ((chK T a).flatMap (dn T) ++ Q.flatMap (dn T) ++ s) := by
    rw [hseg, F.deq h hh, e, List.flatMap_append, List.flatMap_cons, F.deq a hal]
    simp
  have hbm : b ∈ (chK T a).flatMap (dn T) ++ Q.flatMap (dn T) ++ s := by
    refine List.mem_append.mpr (.inl (List.mem_append.mpr (.inr ?_)))
    exact List.mem_flatMap.mpr ⟨b, hbQ, F.d_self hbl⟩
  have key : pos a (dn T (topN T h)) < pos b (dn T (topN T h)) := by
    rw [hsh] at hnd ⊢
    exact pos_ahead hnd hbm
  simp only [befN, posT, ← hta, ← htb, Bool.and_eq_true, decide_eq_true_eq]
  exact ⟨trivial, key⟩
/-- The slots of a shadow, in their order, are before one another. -/
theorem slots_bef {T : List Nd} (hm : mayB T = true) {r : Nat} (hr : r < T.length) (hk : (nd T r).kind = 3) : (slotsN T r).Pairwise fun a b => befN T a b = true := by
  have F := forest3 hm
  have h1 := pos_pairwise (F.d_nodup hr)
  have h2 : (dn T r).Pairwise fun a b => befN T a b = true := by
    refine h1.imp_of_mem ?_
    intro a b ha hb hlt
    obtain ⟨hal, hpa, _⟩ := F.d_segment hr ha
    obtain ⟨hbl, hpb, _⟩ := F.d_segment hr hb
    have hta : topN T a = r := by rw [← top_eq hm hal hpa, top_shadow hm hr hk]
    have htb : topN T b = r := by rw [← top_eq hm hbl hpb, top_shadow hm hr hk]
    simp only [befN, posT, hta, htb, Bool.and_eq_true, decide_eq_true_eq]
    exact ⟨trivial, hlt⟩
  exact h2.filter _
theorem pair_at {l : List Int} {R : Int → Int → Prop} (h : l.Pairwise R) {i : Nat} (hi : i + 1 < l.length) : R (l.getD i 0) (l.getD (i + 1) 0) := by
  have := (List.pairwise_iff_getElem.mp h) i (i + 1) (by omega) hi (by omega)
  rw [List.getD_eq_getElem?_getD, List.getElem?_eq_getElem (by omega : i < l.length), List.getD_eq_getElem?_getD, List.getElem?_eq_getElem hi]
  exact this
theorem getD_memI {l : List Int} {i : Nat} (hi : i < l.length) : l.getD i 0 ∈ l := by
  rw [List.getD_eq_getElem?_getD, List.getElem?_eq_getElem hi]; exact List.getElem_mem hi
/-- Two neighbours in what lies in a slot. -/
theorem asg_pairs {T : List Nd} (hm : mayB T = true) {s : Nat} (hs : s < T.length) : ∃ h : Nat, (∀ i, i < (asgI T (s : Int)).length → ∃ a : Nat, (asgI T (s : Int)).getD i 0 = (a : Int) ∧ a < T.length ∧ (nd T a).parent = (h : Int)) ∧ ∀ i, i + 1 < (asgI T (s : Int)).length → befN T ((asgI T (s : Int)).getD i 0).toNat ((asgI T (s : Int)).getD (i + 1) 0).toNat = true := by
  unfold asgI
  split
  · rename_i hc
    rw [Int.toNat_natCast] at hc ⊢
    simp only [Bool.and_eq_true] at hc
    have hk : (nd T (topN T s)).kind = 3 := by simpa using hc.1.2
    obtain ⟨q, hql, hho, _, _⟩ := fine_host (mayB_fine hm) (top_lt hm hs) hk
    rw [hho, Int.toNat_natCast]
    refine ⟨q, fun i hi => ?_, fun i hi => ?_⟩
    · have hmem := getD_memI hi
      unfold asgN at hmem
      obtain ⟨m, e, hml, _, hp⟩ := kidP_iff.mp ((mayB_fine hm).kid q hql _ (List.mem_filter.mp hmem).1)
      exact ⟨m, e, hml, hp⟩
    · exact pair_at ((List.pairwise_map.mp (kids_bef hm hql)).filter _) hi
  · exact ⟨0, fun i hi => by simp at hi, fun i hi => by simp at hi⟩
/-- Two neighbours among the slots of a shadow. -/
theorem all_pairs {T : List Nd} (hm : mayB T = true) {s : Nat} (hs : s < T.length) : (∀ i, i < (allI T (s : Int)).length → ∃ a : Nat, (allI T (s : Int)).getD i 0 = (a : Int) ∧ a < T.length) ∧ ∀ i, i + 1 < (allI T (s : Int)).length → befN T ((allI T (s : Int)).getD i 0).toNat ((allI T (s : Int)).getD (i + 1) 0).toNat = true := by
  unfold allI
  split
  · rename_i hc
    rw [Int.toNat_natCast] at hc ⊢
    simp only [Bool.and_eq_true] at hc
    have hk : (nd T s).kind = 3 := by simpa using hc.2
    refine ⟨fun i hi => ?_, fun i hi => ?_⟩
    · rw [castL_length] at hi
      refine ⟨(slotsN T s).getD i 0, castL_getD _ hi, ?_⟩
      exact (forest3 hm).d_lt hs (List.mem_filter.mp (getD_mem hi)).1
    · have hi' := hi
      rw [castL_length] at hi'
      rw [castL_getD _ (by omega : i < _), castL_getD _ hi', Int.toNat_natCast, Int.toNat_natCast]
      have := (List.pairwise_iff_getElem.mp (slots_bef hm hs hk)) i (i + 1) (by omega) hi' (by omega)
      rw [List.getD_eq_getElem?_getD, List.getElem?_eq_getElem (by omega : i < (slotsN T s).length), List.getD_eq_getElem?_getD, List.getElem?_eq_getElem hi']
      exact this
  · exact ⟨fun i hi => by simp at hi, fun i hi => by simp at hi⟩
theorem all_leI {T : List Nd} {s : Int} : (allI T s).length ≤ 64 := by
  unfold allI
  split
  · rename_i hc
    simp only [Bool.and_eq_true] at hc
    obtain ⟨hm, n, rfl, hn⟩ := known_one hc.1
    rw [Int.toNat_natCast, castL_length]
    exact slotsN_le hm hn
  · simp
end Go.Proofs.Ytnbnijhdmnoelaa
