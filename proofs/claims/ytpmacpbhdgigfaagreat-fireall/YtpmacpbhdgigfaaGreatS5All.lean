/- SlotsTell, walked. SlotsOnce, walked. SlotsNone, walked. SlotsHosts, walked. Slots, and who lies in one, stand in the tree's order. Of two slots of one name, the later one takes nobody. -/
import Derived.Test.YtpmacpbhdgigfaaGreatSlotsR
namespace Go.Proofs.YtpmacpbhdgigfaaGreat
open Go.RowKit

theorem asgN_le {T : List Nd} (hm : mayB T = true) {r h : Nat} (hh : h < T.length) (s : Int) : (asgN T r h s).length ≤ 64 := by
  have h1 := List.length_filter_le (fun k => placeI T r k == s) (nd T h).kids
  have h2 := fine_short (mayB_fine hm) hh
  unfold asgN; omega
theorem asgI_le {T : List Nd} (s : Int) : (asgI T s).length ≤ 64 := by
  unfold asgI
  split
  · rename_i h
    simp only [Bool.and_eq_true] at h
    obtain ⟨⟨hk, h3⟩, _⟩ := h
    obtain ⟨hm, n, rfl, hn⟩ := known_one hk
    rw [Int.toNat_natCast] at h3 ⊢
    have htl := top_lt hm hn
    obtain ⟨h, hhl, hho, _, _⟩ := fine_host (mayB_fine hm) htl (by simpa using h3)
    rw [hho, Int.toNat_natCast]
    exact asgN_le hm hhl _
  · simp
theorem ofI_known {T : List Nd} (hm : mayB T = true) {n : Nat} (hn : n < T.length) : ofI T (n : Int) = ofN T n := by
  unfold ofI; rw [known_of hm hn, if_pos rfl, Int.toNat_natCast]

end Go.Proofs.YtpmacpbhdgigfaaGreat
namespace Go.Proofs.YtpmacpbhdgigfaaGreat
open Go.RowKit

theorem place_mem {T : List Nd} {r : Nat} {k : Int} {s : Nat} (h : placeI T r k = (s : Int)) : s ∈ slotsN T r := by
  cases hman : manB T (r : Int)
  · rw [place_nam hman] at h
    unfold byNameI at h
    split at h
    · omega
    · rename_i hge
      have hlt : (indexI (namesI T r) (nameI T k)).toNat < (slotsN T r).length := by
        have : indexI (namesI T r) (nameI T k) < ((namesI T r).length : Int) := by
          unfold indexI at hge ⊢
          split <;> omega
        rw [namesI_len] at this
        omega
      rw [castL_getD _ hlt] at h
      have : (slotsN T r).getD (indexI (namesI T r) (nameI T k)).toNat 0 = s := by omega
      rw [← this]; exact getD_mem hlt
  · rw [place_man hman] at h
    unfold byNumI at h
    split at h
    · rename_i hc
      rw [Bool.and_eq_true] at hc
      rw [h] at hc
      have := hc.2
      rw [contains_castL] at this
      exact of_decide_eq_true this
    · omega
/-- Who lies in a slot, by the slot and by the kid. -/
theorem asg_iff {T : List Nd} (hm : mayB T = true) {n s : Nat} (hn : n < T.length) (hs : s < T.length) : (n : Int) ∈ asgI T (s : Int) ↔ ofN T n = (s : Int) := by
  constructor
  · intro h
    unfold asgI at h
    split at h
    · rename_i hc
      rw [Int.toNat_natCast] at h hc
      simp only [Bool.and_eq_true] at hc
      have hk : (nd T (topN T s)).kind = 3 := by simpa using hc.1.2
      have htl := top_lt hm hs
      obtain ⟨q, hql, hho, _, _⟩ := fine_host (mayB_fine hm) htl hk
      rw [hho, Int.toNat_natCast] at h
      unfold asgN at h
      obtain ⟨h1, h2⟩ := List.mem_filter.mp h
      obtain ⟨m, e, _, hof⟩ := of_kid hm htl hk hho hql h1
      have : n = m := by omega
      subst this
      rw [hof]; simpa using h2
    · simp at h
  · intro h
    unfold ofN at h
    split at h
    · omega
    · rename_i hp
      split at h
      · omega
      · rename_i hr
        have hp' : ((nd T n).parent == -1) = false := by simpa using hp
        have hr' : ((nd T (nd T n).parent.toNat).root == -1) = false := by simpa using hr
        rcases (mayB_fine hm).par n hn with e | ⟨p, hpl, e, hmem⟩
        · rw [e] at hp'; simp at hp'
        · rw [e, Int.toNat_natCast] at h hr'
          obtain ⟨r, hrr, hrl, hk, hho⟩ := root_facts (mayB_fine hm) hpl hr'
          rw [hrr, Int.toNat_natCast] at h
          have hsm := place_mem h
          obtain ⟨hsd, htag⟩ := List.mem_filter.mp hsm
          obtain ⟨_, hpar, _⟩ := (forest3 hm).d_segment hrl hsd
          have ht : topN T s = r := by rw [← top_eq hm hs hpar, top_shadow hm hrl hk]
          unfold asgI
          rw [known_of hm hs, Int.toNat_natCast, ht, hk, htag, hho, Int.toNat_natCast]
          show (n : Int) ∈ asgN T r p (s : Int)
          unfold asgN
          refine List.mem_filter.mpr ⟨hmem, ?_⟩
          rw [h]; simp
theorem asg_contains {T : List Nd} (hm : mayB T = true) {n s : Nat} (hn : n < T.length) (hs : s < T.length) : containsB (asgI T (s : Int)) (n : Int) = (ofN T n == (s : Int)) := by
  unfold containsB
  cases h : (ofN T n == (s : Int))
  · exact decide_eq_false (fun h' => by rw [(asg_iff hm hn hs).mp h'] at h; simp at h)
  · exact decide_eq_true ((asg_iff hm hn hs).mpr (by simpa using h))
/-- Whoever lies in a slot is a kid of the slot's host. -/
theorem of_facts {T : List Nd} (hm : mayB T = true) {n s : Nat} (hn : n < T.length) (hs : s < T.length) (h : ofN T n = (s : Int)) : ∃ p : Nat, p < T.length ∧ (nd T n).parent = (p : Int) ∧ (nd T p).root = (topN T s : Int) := by
  unfold ofN at h
  split at h
  · omega
  · rename_i hp
    split at h
    · omega
    · rename_i hr
      have hp' : ((nd T n).parent == -1) = false := by simpa using hp
      have hr' : ((nd T (nd T n).parent.toNat).root == -1) = false := by simpa using hr
      rcases (mayB_fine hm).par n hn with e | ⟨p, hpl, e, hmem⟩
      · rw [e] at hp'; simp at hp'
      · rw [e, Int.toNat_natCast] at h hr'
        obtain ⟨r, hrr, hrl, hk, hho⟩ := root_facts (mayB_fine hm) hpl hr'
        rw [hrr, Int.toNat_natCast] at h
        obtain ⟨hsd, htag⟩ := List.mem_filter.mp (place_mem h)
        obtain ⟨_, hpar, _⟩ := (forest3 hm).d_segment hrl hsd
        have ht : topN T s = r := by rw [← top_eq hm hs hpar, top_shadow hm hrl hk]
        exact ⟨p, hpl, e, by rw [hrr, ht]⟩

end Go.Proofs.YtpmacpbhdgigfaaGreat
namespace Go.Proofs.YtpmacpbhdgigfaaGreat
open Go.RowKit

theorem place_none {T : List Nd} {r : Nat} {k : Int} (h : slotsN T r = []) : placeI T r k = -1 := by
  cases hman : manB T (r : Int)
  · rw [place_nam hman]
    unfold byNameI
    have : indexI (namesI T r) (nameI T k) < 0 := by
      have h0 : namesI T r = [] := by unfold namesI; rw [h]; rfl
      rw [h0]; simp [indexI]
    rw [if_pos this]
  · rw [place_man hman, h]
    simp [byNumI, castL, containsB]
theorem kid_none {T : List Nd} (hm : mayB T = true) {k : Nat} (hk : k < T.length) {r : Nat} (hr : (nd T k).root = (r : Int)) (h : slotsN T r = []) {x : Int} (hx : x ∈ (nd T k).kids) : ∃ m : Nat, x = m ∧ m < T.length ∧ ofI T x = -1 := by
  obtain ⟨r', hrr, hrl, hkind, hho⟩ := root_facts (mayB_fine hm) hk (by rw [hr]; simp)
  have : r' = r := by omega
  subst this
  obtain ⟨m, rfl, hml, hof⟩ := of_kid hm hrl hkind hho hk hx
  exact ⟨m, rfl, hml, by rw [ofI_known hm hml, hof, place_none h]⟩
theorem asg_none {T : List Nd} (hm : mayB T = true) {k : Nat} (hk : k < T.length) (h : ((nd T (topN T k)).kind == 3 && (nd T k).tag == 3) = false) : asgI T (k : Int) = [] := by
  unfold asgI
  rw [known_of hm hk, Int.toNat_natCast, Bool.true_and, h]; rfl
theorem all_root {T : List Nd} (hm : mayB T = true) {r : Nat} (hr : r < T.length) (hk : (nd T r).kind = 3) : allI T (r : Int) = castL (slotsN T r) := by
  unfold allI
  rw [known_of hm hr, Int.toNat_natCast, hk]; rfl

end Go.Proofs.YtpmacpbhdgigfaaGreat
namespace Go.Proofs.YtpmacpbhdgigfaaGreat
open Go.RowKit

/-- A text has no attributes. -/
theorem text_attrs {T : List Nd} (hm : mayB T = true) {m : Nat} (hl : m < T.length) (h : (nd T m).kind = 2) : (nd T m).attrs = [] := by
  have ht := may_attrs hm hl
  rw [h] at ht
  cases ha : (nd T m).attrs with
  | nil => rfl
  | cons a l =>
    rw [ha] at ht
    simp only [attrsFrom, Bool.and_eq_true, Bool.not_eq_true', Bool.or_eq_false_iff, Bool.not_eq_false'] at ht
    have hf := ht.1.2
    unfold attrFitsB attrKindI at hf
    split at hf <;> simp at hf
theorem text_get {T : List Nd} (hm : mayB T = true) {m : Nat} (hl : m < T.length) (h : (nd T m).kind = 2) (nm : Int) : getL T (m : Int) nm = (0, false) := by
  rw [getL_ok hm hl, text_attrs hm hl h]; rfl
theorem place_text {T : List Nd} (hm : mayB T = true) {a b : Nat} (ha : a < T.length) (hb : b < T.length) (h1 : (nd T a).kind = 2) (h2 : (nd T b).kind = 2) (r : Nat) : placeI T r (a : Int) = placeI T r (b : Int) := by
  unfold placeI placeV byNumI byNameI nameI
  rw [text_get hm ha h1, text_get hm hb h2, text_get hm ha h1, text_get hm hb h2]
theorem place_cases (T : List Nd) (r : Nat) (k : Int) : placeI T r k = -1 ∨ containsB (castL (slotsN T r)) (placeI T r k) = true := by
  cases hman : manB T (r : Int)
  · rw [place_nam hman]
    unfold byNameI
    split
    · exact Or.inl rfl
    · rename_i hge
      refine Or.inr ?_
      have hlt : (indexI (namesI T r) (nameI T k)).toNat < (slotsN T r).length := by
        have : indexI (namesI T r) (nameI T k) < ((namesI T r).length : Int) := by
          unfold indexI at hge ⊢
          split <;> omega
        rw [namesI_len] at this
        omega
      rw [castL_getD _ hlt, contains_castL]
      exact decide_eq_true (getD_mem hlt)
  · rw [place_man hman]
    unfold byNumI
    split
    · rename_i hc
      rw [Bool.and_eq_true] at hc
      exact Or.inr hc.2
    · exact Or.inl rfl
theorem of_root {T : List Nd} {n p r : Nat} (hp : (nd T n).parent = (p : Int)) (hr : (nd T p).root = (r : Int)) : ofN T n = placeI T r (n : Int) := by
  unfold ofN
  have e1 : ((nd T n).parent == -1) = false := by rw [hp]; simp
  have e2 : ((nd T p).root == -1) = false := by rw [hr]; simp
  rw [e1, hp, Int.toNat_natCast, e2, hr, Int.toNat_natCast]; rfl
theorem all_le {T : List Nd} (hm : mayB T = true) {r : Nat} (hr : r < T.length) (hk : (nd T r).kind = 3) : (allI T (r : Int)).length ≤ 1000000 := by
  rw [all_root hm hr hk, castL_length]
  have := slotsN_le hm hr
  omega

end Go.Proofs.YtpmacpbhdgigfaaGreat
namespace Go.Proofs.YtpmacpbhdgigfaaGreat
open Go.RowKit

theorem split_two {l : List Nat} {i j : Nat} (hi : i < l.length) (hj : j < l.length) (hij : i < j) : ∃ P Q, l = P ++ l[i] :: Q ∧ l[j] ∈ Q := by
  refine ⟨l.take i, l.drop (i + 1), by simp, ?_⟩
  rw [List.mem_iff_getElem]
  refine ⟨j - (i + 1), by simp; omega, ?_⟩
  rw [List.getElem_drop]
  congr 1
  omega
theorem pos_pairwise {l : List Nat} (h : l.Nodup) : l.Pairwise fun a b => pos a l < pos b l := by
  rw [List.pairwise_iff_getElem]
  intro i j hi hj hij
  obtain ⟨P, Q, e, hb⟩ := split_two hi hj hij
  generalize l[i] = a at *
  generalize l[j] = b at *
  rw [e] at h ⊢
  exact pos_ahead h hb
/-- The kids of a node, in their order, are before one another. -/
theorem kids_bef {T : List Nd} (hm : mayB T = true) {h : Nat} (hh : h < T.length) : (chK T h).Pairwise fun a b => befN T a b = true := by
  have F := forest3 hm
  rw [List.pairwise_iff_getElem]
  intro i j hi hj hij
  obtain ⟨P, Q, e, hbQ⟩ := split_two hi hj hij
  have ha : (chK T h)[i] ∈ chK T h := List.getElem_mem hi
  have hb : (chK T h)[j] ∈ chK T h := List.getElem_mem hj
  generalize (chK T h)[i] = a at *
  generalize (chK T h)[j] = b at *
  have hal := F.lt h hh a ha
  have hbl := F.lt h hh b hb
  have hta := top_eq hm hal (F.u_kid hh ha)
  have htb := top_eq hm hbl (F.u_kid hh hb)
  have htl := top_lt hm hh
  obtain ⟨_, _, p, s, hseg⟩ := F.d_segment htl ((mem_top hm hh hh).mpr rfl)
  have hnd := F.d_nodup htl
  have hsh : dn T (topN T h) = (p ++ h :: P.flatMap (dn T)) ++ a :: ((chK T a).flatMap (dn T) ++ Q.flatMap (dn T) ++ s) := by
    rw [hseg, F.deq h hh, e, List.flatMap_append, List.flatMap_cons, F.deq a hal]
    simp
  have hbm : b ∈ (chK T a).flatMap (dn T) ++ Q.flatMap (dn T) ++ s := by
    refine List.mem_append.mpr (.inl (List.mem_append.mpr (.inr ?_)))
    exact List.mem_flatMap.mpr ⟨b, hbQ, F.d_self hbl⟩
  have key : pos a (dn T (topN T h)) < pos b (dn T (topN T h)) := by
    rw [hsh] at hnd ⊢
    exact pos_ahead hnd hbm
  simp only [befN, posT, ← hta, ← htb, Bool.and_eq_true, decide_eq_true_eq]
  exact ⟨trivial, key⟩
/-- The slots of a shadow, in their order, are before one another. -/
theorem slots_bef {T : List Nd} (hm : mayB T = true) {r : Nat} (hr : r < T.length) (hk : (nd T r).kind = 3) : (slotsN T r).Pairwise fun a b => befN T a b = true := by
  have F := forest3 hm
  have h1 := pos_pairwise (F.d_nodup hr)
  have h2 : (dn T r).Pairwise fun a b => befN T a b = true := by
    refine h1.imp_of_mem ?_
    intro a b ha hb hlt
    obtain ⟨hal, hpa, _⟩ := F.d_segment hr ha
    obtain ⟨hbl, hpb, _⟩ := F.d_segment hr hb
    have hta : topN T a = r := by rw [← top_eq hm hal hpa, top_shadow hm hr hk]
    have htb : topN T b = r := by rw [← top_eq hm hbl hpb, top_shadow hm hr hk]
    simp only [befN, posT, hta, htb, Bool.and_eq_true, decide_eq_true_eq]
    exact ⟨trivial, hlt⟩
  exact h2.filter _
theorem pair_at {l : List Int} {R : Int → Int → Prop} (h : l.Pairwise R) {i : Nat} (hi : i + 1 < l.length) : R (l.getD i 0) (l.getD (i + 1) 0) := by
  have := (List.pairwise_iff_getElem.mp h) i (i + 1) (by omega) hi (by omega)
  rw [List.getD_eq_getElem?_getD, List.getElem?_eq_getElem (by omega : i < l.length), List.getD_eq_getElem?_getD, List.getElem?_eq_getElem hi]
  exact this
theorem getD_memI {l : List Int} {i : Nat} (hi : i < l.length) : l.getD i 0 ∈ l := by
  rw [List.getD_eq_getElem?_getD, List.getElem?_eq_getElem hi]; exact List.getElem_mem hi
/-- Two neighbours in what lies in a slot. -/
theorem asg_pairs {T : List Nd} (hm : mayB T = true) {s : Nat} (hs : s < T.length) : ∃ h : Nat, (∀ i, i < (asgI T (s : Int)).length → ∃ a : Nat, (asgI T (s : Int)).getD i 0 = (a : Int) ∧ a < T.length ∧ (nd T a).parent = (h : Int)) ∧ ∀ i, i + 1 < (asgI T (s : Int)).length → befN T ((asgI T (s : Int)).getD i 0).toNat ((asgI T (s : Int)).getD (i + 1) 0).toNat = true := by
  unfold asgI
  split
  · rename_i hc
    rw [Int.toNat_natCast] at hc ⊢
    simp only [Bool.and_eq_true] at hc
    have hk : (nd T (topN T s)).kind = 3 := by simpa using hc.1.2
    obtain ⟨q, hql, hho, _, _⟩ := fine_host (mayB_fine hm) (top_lt hm hs) hk
    rw [hho, Int.toNat_natCast]
    refine ⟨q, fun i hi => ?_, fun i hi => ?_⟩
    · have hmem := getD_memI hi
      unfold asgN at hmem
      obtain ⟨m, e, hml, _, hp⟩ := kidP_iff.mp ((mayB_fine hm).kid q hql _ (List.mem_filter.mp hmem).1)
      exact ⟨m, e, hml, hp⟩
    · exact pair_at ((List.pairwise_map.mp (kids_bef hm hql)).filter _) hi
  · exact ⟨0, fun i hi => by simp at hi, fun i hi => by simp at hi⟩
/-- Two neighbours among the slots of a shadow. -/
theorem all_pairs {T : List Nd} (hm : mayB T = true) {s : Nat} (hs : s < T.length) : (∀ i, i < (allI T (s : Int)).length → ∃ a : Nat, (allI T (s : Int)).getD i 0 = (a : Int) ∧ a < T.length) ∧ ∀ i, i + 1 < (allI T (s : Int)).length → befN T ((allI T (s : Int)).getD i 0).toNat ((allI T (s : Int)).getD (i + 1) 0).toNat = true := by
  unfold allI
  split
  · rename_i hc
    rw [Int.toNat_natCast] at hc ⊢
    simp only [Bool.and_eq_true] at hc
    have hk : (nd T s).kind = 3 := by simpa using hc.2
    refine ⟨fun i hi => ?_, fun i hi => ?_⟩
    · rw [castL_length] at hi
      refine ⟨(slotsN T s).getD i 0, castL_getD _ hi, ?_⟩
      exact (forest3 hm).d_lt hs (List.mem_filter.mp (getD_mem hi)).1
    · have hi' := hi
      rw [castL_length] at hi'
      rw [castL_getD _ (by omega : i < _), castL_getD _ hi', Int.toNat_natCast, Int.toNat_natCast]
      have := (List.pairwise_iff_getElem.mp (slots_bef hm hs hk)) i (i + 1) (by omega) hi' (by omega)
      rw [List.getD_eq_getElem?_getD, List.getElem?_eq_getElem (by omega : i < (slotsN T s).length), List.getD_eq_getElem?_getD, List.getElem?_eq_getElem hi']
      exact this
  · exact ⟨fun i hi => by simp at hi, fun i hi => by simp at hi⟩
theorem all_leI {T : List Nd} {s : Int} : (allI T s).length ≤ 64 := by
  unfold allI
  split
  · rename_i hc
    simp only [Bool.and_eq_true] at hc
    obtain ⟨hm, n, rfl, hn⟩ := known_one hc.1
    rw [Int.toNat_natCast, castL_length]
    exact slotsN_le hm hn
  · simp
end Go.Proofs.YtpmacpbhdgigfaaGreat
namespace Go.Proofs.YtpmacpbhdgigfaaGreat
open Go.RowKit

theorem idxL_first {x : Int} : ∀ {l : List Int} {k : Nat}, k < l.length → l.getD k 0 = x → idxL x l ≤ k
  | [], k, h, _ => by simp at h
  | a :: l, 0, _, e => by
    have : a = x := by simpa using e
    simp [idxL, this]
  | a :: l, k + 1, h, e => by
    have := idxL_first (x := x) (l := l) (k := k) (by simpa using h) (by simpa using e)
    unfold idxL
    split <;> omega
theorem idxL_get {x : Int} : ∀ {l : List Int}, idxL x l < l.length → l.getD (idxL x l) 0 = x
  | [], h => by simp at h
  | a :: l, h => by
    cases e : (x == a)
    · have h1 : idxL x (a :: l) = idxL x l + 1 := by simp [idxL, e]
      rw [h1] at h ⊢
      have := idxL_get (x := x) (l := l) (by simpa using h)
      simpa using this
    · have h1 : idxL x (a :: l) = 0 := by simp [idxL, e]
      rw [h1]
      have : x = a := by simpa using e
      simp [this]
theorem asg_later {T : List Nd} (hm : mayB T = true) {r : Nat} (hr : r < T.length) (hk : (nd T r).kind = 3) (hman : manB T (r : Int) = false) {i k : Nat} (hki : k < i) (hi : i < (slotsN T r).length) (hnm : nameI T (((slotsN T r).getD i 0 : Nat) : Int) = nameI T (((slotsN T r).getD k 0 : Nat) : Int)) : asgI T (((slotsN T r).getD i 0 : Nat) : Int) = [] := by
  have F := forest3 hm
  have hsm : (slotsN T r).getD i 0 ∈ dn T r ∧ ((nd T ((slotsN T r).getD i 0)).tag == 3) = true := List.mem_filter.mp (getD_mem hi)
  obtain ⟨hsl, hpar, _⟩ := F.d_segment hr hsm.1
  have ht : topN T ((slotsN T r).getD i 0) = r := by rw [← top_eq hm hsl hpar, top_shadow hm hr hk]
  apply List.eq_nil_iff_forall_not_mem.mpr
  intro x hx
  have hx' := hx
  unfold asgI at hx'
  rw [known_of hm hsl, Int.toNat_natCast, ht, hk, hsm.2] at hx'
  have hx2 : x ∈ asgN T r (nd T r).host.toNat (((slotsN T r).getD i 0 : Nat) : Int) := hx'
  unfold asgN at hx2
  have hp := (List.mem_filter.mp hx2).2
  have hpl : placeI T r x = (((slotsN T r).getD i 0 : Nat) : Int) := by simpa using hp
  rw [place_nam hman] at hpl
  unfold byNameI at hpl
  split at hpl
  · omega
  · rename_i hge
    have hlt : idxL (nameI T x) (namesI T r) < (namesI T r).length := by
      unfold indexI at hge
      split at hge
      · assumption
      · omega
    have hix : indexI (namesI T r) (nameI T x) = (idxL (nameI T x) (namesI T r) : Int) := by
      unfold indexI; rw [if_pos hlt]
    rw [hix, Int.toNat_natCast] at hpl
    rw [namesI_len] at hlt
    rw [castL_getD _ hlt] at hpl
    have hnd : (slotsN T r).Nodup := (F.d_nodup hr).filter _
    have hij : idxL (nameI T x) (namesI T r) = i := by
      have h1 : (slotsN T r).getD (idxL (nameI T x) (namesI T r)) 0 = (slotsN T r).getD i 0 := by omega
      rw [List.getD_eq_getElem?_getD, List.getElem?_eq_getElem hlt, List.getD_eq_getElem?_getD, List.getElem?_eq_getElem hi] at h1
      exact (List.getElem_inj hnd).mp h1
    have hname : (namesI T r).getD i 0 = nameI T x := by
      have hmem := idxL_get (x := nameI T x) (l := namesI T r) (by rw [namesI_len]; exact hlt)
      rw [hij] at hmem
      exact hmem
    rw [names_getD hi, hnm, ← names_getD (by omega : k < (slotsN T r).length)] at hname
    have := idxL_first (by rw [namesI_len]; omega) hname
    omega
end Go.Proofs.YtpmacpbhdgigfaaGreat
