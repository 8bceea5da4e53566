/- The tree by parents, and the tree by parents and hosts, as forests: the pure part of layers 3 and 4. -/
import Derived.Test.YtnbnijhdmnoelaaDown
import Derived.Test.YtnbnijhdmnoelaaRetMath
import Derived.Test.YtnbnijhdmnoelaaForest
import Derived.Test.YtnbnijhdmnoelaaPos
namespace Go.Proofs.Ytnbnijhdmnoelaa
open Go.RowKit

def chK (T : List Nd) (n : Nat) : List Nat := (nd T n).kids.map Int.toNat
theorem map_nodup : ∀ {l : List Int}, l.Nodup → (∀ k ∈ l, 0 ≤ k) → (l.map Int.toNat).Nodup
  | [], _, _ => by simp
  | a :: l, hl, hp => by
    rw [List.nodup_cons] at hl
    rw [List.map_cons, List.nodup_cons]
    refine ⟨fun hm => ?_, map_nodup hl.2 (fun k hk => hp k (List.mem_cons_of_mem _ hk))⟩
    obtain ⟨x, hx, he⟩ := List.mem_map.mp hm
    have h1 := hp a (List.mem_cons_self ..)
    have h2 := hp x (List.mem_cons_of_mem _ hx)
    have : x = a := by omega
    exact hl.1 (this ▸ hx)
theorem mem_chK {T : List Nd} (hF : Fine T) {n m : Nat} (hn : n < T.length) (h : m ∈ chK T n) : m < T.length ∧ (m : Int) ∈ (nd T n).kids ∧ canBeKidB (nd T m).kind = true ∧ (nd T m).parent = (n : Int) := by
  obtain ⟨x, hx, rfl⟩ := List.mem_map.mp h
  obtain ⟨q, rfl, hql, hk, hp⟩ := kidP_iff.mp (hF.kid n hn x hx)
  rw [Int.toNat_natCast]
  exact ⟨hql, hx, hk, hp⟩
theorem chK_nodup {T : List Nd} (hF : Fine T) {n : Nat} (hn : n < T.length) : (chK T n).Nodup :=
  map_nodup (hF.nodup n hn) (fun k hk => by obtain ⟨q, rfl, _⟩ := kidP_iff.mp (hF.kid n hn k hk); omega)
theorem forest3 {T : List Nd} (hm : mayB T = true) : Forest T.length (chK T) (dn T) (pars T) (fun n => (upsL T n).length) := by
  have hF := mayB_fine hm
  refine ⟨fun n hn => ?_, fun n hn m h => (mem_chK hF hn h).1, fun n hn => chK_nodup hF hn, fun n hn m h => ?_, fun n hn => ?_, fun n hn m h => ?_⟩
  · rw [dn_eq hm hn, chK, List.flatMap_map]
  · obtain ⟨h1, _, _, h4⟩ := mem_chK hF hn h
    exact pars_some hm h1 h4
  · rcases hF.par n hn with e | ⟨p, hp, e, hmem⟩
    · exact .inl (pars_none (by rw [e]; rfl))
    · exact .inr ⟨p, hp, List.mem_map.mpr ⟨(n : Int), hmem, by simp⟩⟩
  · obtain ⟨h1, _, h3, h4⟩ := mem_chK hF hn h
    have := (upsL_some hm h1 (over_of_parent hF h1 h4)).1
    simp [this]

def chS (T : List Nd) (n : Nat) : List Nat := (if (nd T n).root == -1 then [] else [(nd T n).root.toNat]) ++ chK T n
theorem root_facts {T : List Nd} (hF : Fine T) {n : Nat} (hn : n < T.length) (hr : ((nd T n).root == -1) = false) : ∃ m : Nat, (nd T n).root = (m : Int) ∧ m < T.length ∧ (nd T m).kind = 3 ∧ (nd T m).host = (n : Int) := by
  rcases rootP_iff.mp (hF.root n hn) with e | ⟨_, r, hrl, e, hk, hh⟩
  · rw [e] at hr; simp at hr
  · exact ⟨r, e, hrl, hk, hh⟩
theorem mem_chS {T : List Nd} (hF : Fine T) {n m : Nat} (hn : n < T.length) (h : m ∈ chS T n) : m < T.length ∧ overI (nd T m) = (n : Int) := by
  rcases List.mem_append.mp h with h | h
  · cases hr : ((nd T n).root == -1)
    · rw [hr] at h
      obtain ⟨q, e, hql, hk, hh⟩ := root_facts hF hn hr
      have : m = q := by simpa [e] using h
      subst this
      exact ⟨hql, by unfold overI; rw [hk]; exact hh⟩
    · rw [hr] at h; simp at h
  · obtain ⟨h1, _, h3, h4⟩ := mem_chK hF hn h
    exact ⟨h1, by rw [over_parent (kid_not_shadow h3)]; exact h4⟩
theorem forest4 {T : List Nd} (hm : mayB T = true) : Forest T.length (chS T) (sl T) (supN T) (fun n => (upsL T n).length) := by
  have hF := mayB_fine hm
  refine ⟨fun n hn => ?_, fun n hn m h => (mem_chS hF hn h).1, fun n hn => ?_, fun n hn m h => ?_, fun n hn => ?_, fun n hn m h => ?_⟩
  · rw [sl_eq hm hn, chS, chK, List.flatMap_append, List.flatMap_map]
    cases hr : ((nd T n).root == -1) <;> simp
  · unfold chS
    cases hr : ((nd T n).root == -1)
    · obtain ⟨q, e, hql, hk, hh⟩ := root_facts hF hn hr
      simp only [Bool.false_eq_true, if_false, List.singleton_append, List.nodup_cons, e, Int.toNat_natCast]
      refine ⟨fun h => ?_, chK_nodup hF hn⟩
      exact kid_not_shadow (mem_chK hF hn h).2.2.1 hk
    · simpa using chK_nodup hF hn
  · obtain ⟨h1, h2⟩ := mem_chS hF hn h
    show m :: upsL T m = m :: (n :: upsL T n)
    rw [(upsL_some hm h1 h2).1]
  · rcases over_cases hm hn with e | ⟨p, hp, e⟩
    · exact .inl (by show n :: upsL T n = [n]; rw [upsL_none e])
    · refine .inr ⟨p, hp, ?_⟩
      unfold chS
      rw [List.mem_append]
      by_cases hk : (nd T n).kind = 3
      · obtain ⟨h, hl, h1, _, h2⟩ := fine_host hF hn hk
        have hph : h = p := by unfold overI at e; rw [hk] at e; simp at e; omega
        subst hph
        left
        rw [h2]
        have : ((n : Int) == -1) = false := by simp
        simp [this]
      · right
        rw [over_parent hk] at e
        rcases hF.par n hn with e' | ⟨q, hq, e', hmem⟩
        · omega
        · have : q = p := by omega
          subst this
          exact List.mem_map.mpr ⟨(n : Int), hmem, by simp⟩
  · obtain ⟨h1, h2⟩ := mem_chS hF hn h
    simp [(upsL_some hm h1 h2).1]

theorem idx_pos (x : Nat) : ∀ l : List Nat, idxL (x : Int) (castL l) = pos x l
  | [] => rfl
  | a :: l => by
    have ih := idx_pos x l
    by_cases e : x = a
    · subst e; simp [castL, idxL, pos]
    · have : ((x : Int) == (a : Int)) = false := by simp; omega
      simp only [castL, List.map_cons, idxL, this, pos, e, if_false]
      simpa [castL] using ih

theorem top_in {T : List Nd} (hm : mayB T = true) {a : Nat} (ha : a < T.length) : topN T a ∈ pars T a := by
  obtain ⟨_, ⟨i, hi⟩, _⟩ := sup_split hm ha
  rw [hi]; simp
theorem top_lt {T : List Nd} (hm : mayB T = true) {a : Nat} (ha : a < T.length) : topN T a < T.length := (sup_split hm ha).1
theorem top_eq {T : List Nd} (hm : mayB T = true) {a x : Nat} (ha : a < T.length) (hx : x ∈ pars T a) : topN T x = topN T a := by
  obtain ⟨p, hp, hxl, _⟩ := (forest3 hm).u_suffix ha hx
  obtain ⟨_, ⟨i, hi⟩, _⟩ := sup_split hm ha
  obtain ⟨_, ⟨j, hj⟩, _⟩ := sup_split hm hxl
  rw [hi, hj, ← List.append_assoc] at hp
  have := congrArg List.getLast? hp
  simp at this
  exact this.symm
theorem mem_top {T : List Nd} (hm : mayB T = true) {a x : Nat} (ha : a < T.length) (hx : x < T.length) : x ∈ dn T (topN T a) ↔ topN T x = topN T a := by
  rw [(forest3 hm).mem_d (top_lt hm ha) hx]
  constructor
  · intro h
    have h1 := top_eq hm hx h
    have h2 := top_eq hm ha (top_in hm ha)
    omega
  · intro h
    rw [← h]; exact top_in hm hx
/-- A node's place among all of its top. -/
def posT (T : List Nd) (a : Nat) : Nat := pos a (dn T (topN T a))
/-- Before, of two nodes. -/
def befN (T : List Nd) (a b : Nat) : Bool := decide (topN T a = topN T b) && decide (posT T a < posT T b)
theorem posT_inj {T : List Nd} (hm : mayB T = true) {a b : Nat} (ha : a < T.length) (hb : b < T.length) (ht : topN T a = topN T b) (h : posT T a = posT T b) : a = b := by
  unfold posT at h
  rw [← ht] at h
  exact pos_inj ((mem_top hm ha ha).mpr rfl) ((mem_top hm ha hb).mpr ht.symm) h
theorem bef_asym {T : List Nd} {a b : Nat} (h : befN T a b = true) : befN T b a = false := by
  simp only [befN, Bool.and_eq_true, decide_eq_true_eq] at h
  simp [befN]; omega
theorem bef_total {T : List Nd} (hm : mayB T = true) {a b : Nat} (ha : a < T.length) (hb : b < T.length) : (topN T a = topN T b) ↔ (a = b ∨ befN T a b = true ∨ befN T b a = true) := by
  constructor
  · intro h
    by_cases e : a = b
    · exact .inl e
    · right
      have : posT T a ≠ posT T b := fun h' => e (posT_inj hm ha hb h h')
      simp only [befN, Bool.and_eq_true, decide_eq_true_eq]
      omega
  · rintro (rfl | h | h)
    · rfl
    · simp only [befN, Bool.and_eq_true, decide_eq_true_eq] at h; exact h.1
    · simp only [befN, Bool.and_eq_true, decide_eq_true_eq] at h; exact h.1.symm
theorem bef_trans {T : List Nd} {a b c : Nat} (h1 : befN T a b = true) (h2 : befN T b c = true) : befN T a c = true := by
  simp only [befN, Bool.and_eq_true, decide_eq_true_eq] at h1 h2 ⊢
  omega
/-- A node stands ahead of all that it is above. -/
theorem dn_ahead {T : List Nd} (hm : mayB T = true) {a b n : Nat} (hn : n < T.length) (ha : a ∈ dn T n) (hb : b ∈ dn T a) (hne : a ≠ b) : pos a (dn T n) < pos b (dn T n) := by
  have F := forest3 hm
  obtain ⟨hal, _, p, s, h⟩ := F.d_segment hn ha
  have hnd := F.d_nodup hn
  rw [h, F.deq a hal] at hnd ⊢
  rw [F.deq a hal] at hb
  have hbr : b ∈ (chK T a).flatMap (dn T) := by
    rcases List.mem_cons.mp hb with e | hb
    · exact absurd e.symm hne
    · exact hb
  have hsh : p ++ a :: (chK T a).flatMap (dn T) ++ s = p ++ a :: ((chK T a).flatMap (dn T) ++ s) := by simp
  rw [hsh] at hnd ⊢
  exact pos_ahead hnd (List.mem_append.mpr (.inl hbr))
theorem bef_above {T : List Nd} (hm : mayB T = true) {a b : Nat} (ha : a < T.length) (hb : b < T.length) (hne : a ≠ b) (h : a ∈ pars T b) : befN T a b = true := by
  have ht := top_eq hm hb h
  have F := forest3 hm
  have h1 := dn_ahead hm (top_lt hm ha) ((mem_top hm ha ha).mpr rfl) ((F.mem_d ha hb).mpr h) hne
  have h2 : posT T a < posT T b := by
    show pos a (dn T (topN T a)) < pos b (dn T (topN T b))
    rw [← ht]; exact h1
  unfold befN
  rw [decide_eq_true ht, decide_eq_true h2]; rfl
theorem scan_bef {T : List Nd} (hm : mayB T = true) {a b : Nat} (ha : a < T.length) (_hb : b < T.length) (hne : a ≠ b) (ht : topN T a = topN T b) : scan a b (dn T (topN T a)) = befN T a b := by
  rw [scan_pos hne ((mem_top hm ha ha).mpr rfl)]
  unfold befN posT
  rw [decide_eq_true ht, Bool.true_and, ← ht]
/-- The first one above a that is above b, too. -/
def comN (T : List Nd) (a b : Nat) : Option Nat := (pars T a).find? (fun x => decide (x ∈ pars T b))
def comI (T : List Nd) (a b : Nat) : Int := match comN T a b with | some x => (x : Int) | none => -1
theorem com_some {T : List Nd} (hm : mayB T = true) {a b x : Nat} (ha : a < T.length) (h : comN T a b = some x) : x < T.length ∧ x ∈ pars T a ∧ x ∈ pars T b ∧ ∀ y, y ∈ pars T a → y ∈ pars T b → y ∈ pars T x := by
  unfold comN at h
  obtain ⟨h1, xs, ys, h2, h3⟩ := List.find?_eq_some_iff_append.mp h
  have hxa : x ∈ pars T a := by rw [h2]; simp
  refine ⟨(forest3 hm).u_lt ha hxa, hxa, of_decide_eq_true h1, fun y hya hyb => ?_⟩
  obtain ⟨p, hp, hxl, _⟩ := (forest3 hm).u_suffix ha hxa
  rw [hp] at hya
  rcases List.mem_append.mp hya with hy | hy
  · exfalso
    -- p is xs: both stand ahead of the first x
    have hnd := (forest3 hm).u_nodup ha
    have hhead : ∃ r, pars T x = x :: r := ⟨_, rfl⟩
    obtain ⟨r, hr⟩ := hhead
    have he : p ++ x :: r = xs ++ x :: ys := by rw [← hr, ← hp, h2]
    rw [hp, hr] at hnd
    have hpa : p = xs := by
      have q1 : x ∉ p := fun hx => by
        rw [List.nodup_append] at hnd
        exact hnd.2.2 x hx x (List.mem_cons_self ..) rfl
      have q2 : x ∉ xs := fun hx => by
        have := h3 x hx
        rw [h1] at this; simp at this
      have l1 : pos x (p ++ x :: r) = p.length := by rw [pos_right _ q1]; simp [pos]
      have l2 : pos x (xs ++ x :: ys) = xs.length := by rw [pos_right _ q2]; simp [pos]
      rw [he, l2] at l1
      exact List.append_inj_left he l1.symm
    subst hpa
    have := h3 y hy
    simp [hyb] at this
  · exact hy
theorem com_none {T : List Nd} {a b : Nat} (h : comN T a b = none) : ∀ y, y ∈ pars T a → y ∉ pars T b := by
  unfold comN at h
  intro y hy hb
  have := List.find?_eq_none.mp h y hy
  simp [hb] at this
theorem com_symm {T : List Nd} (hm : mayB T = true) {a b : Nat} (ha : a < T.length) (hb : b < T.length) : comN T a b = comN T b a := by
  cases h1 : comN T a b with
  | none =>
    cases h2 : comN T b a with
    | none => rfl
    | some y =>
      obtain ⟨_, q1, q2, _⟩ := com_some hm hb h2
      exact absurd q1 (com_none h1 y q2)
  | some x =>
    obtain ⟨x0, x1, x2, x3⟩ := com_some hm ha h1
    cases h2 : comN T b a with
    | none => exact absurd x1 (com_none h2 x x2)
    | some y =>
      obtain ⟨y0, y1, y2, y3⟩ := com_some hm hb h2
      congr 1
      exact (forest3 hm).u_antisym x0 y0 (y3 x x2 x1) (x3 y y2 y1)
theorem com_top {T : List Nd} (hm : mayB T = true) {a b : Nat} (ha : a < T.length) (hb : b < T.length) : (∃ x, comN T a b = some x) ↔ topN T a = topN T b := by
  constructor
  · rintro ⟨x, h⟩
    obtain ⟨_, x1, x2, _⟩ := com_some hm ha h
    rw [← top_eq hm ha x1, top_eq hm hb x2]
  · intro h
    cases h1 : comN T a b with
    | none => exact absurd (h ▸ top_in hm hb) (com_none h1 _ (top_in hm ha))
    | some x => exact ⟨x, rfl⟩
end Go.Proofs.Ytnbnijhdmnoelaa
