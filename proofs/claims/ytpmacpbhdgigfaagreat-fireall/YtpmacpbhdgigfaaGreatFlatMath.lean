/- The flat tree as a forest: the pure part of layer 6. -/
import Derived.Test.YtpmacpbhdgigfaaGreatS5All
namespace Go.Proofs.YtpmacpbhdgigfaaGreat
open Go.RowKit

theorem flat_congr {f g : Nat → List Nat} : ∀ {l : List Nat}, (∀ x ∈ l, f x = g x) → l.flatMap f = l.flatMap g
  | [], _ => rfl
  | a :: l, h => by
    rw [List.flatMap_cons, List.flatMap_cons, h a (List.mem_cons_self ..), flat_congr (fun x hx => h x (List.mem_cons_of_mem _ hx))]
/-- A way up, by parents. -/
def upG (par : Nat → Int) : Nat → Nat → List Nat
  | 0, n => [n]
  | k + 1, n => n :: (if par n == -1 then [] else upG par k (par n).toNat)
/-- A walk down, by kids. -/
def dnG (ch : Nat → List Nat) : Nat → Nat → List Nat
  | 0, n => [n]
  | k + 1, n => n :: (ch n).flatMap (dnG ch k)

/-- Kids and parents that fit. -/
structure Fits (L : Nat) (ch : Nat → List Nat) (par : Nat → Int) (rk : Nat → Nat) : Prop where
  lt : ∀ n, n < L → ∀ m, m ∈ ch n → m < L
  nd : ∀ n, n < L → (ch n).Nodup
  kid : ∀ n, n < L → ∀ m, m ∈ ch n → par m = (n : Int)
  par : ∀ m, m < L → par m = -1 ∨ ∃ n, n < L ∧ par m = (n : Int) ∧ m ∈ ch n
  rank : ∀ n, n < L → ∀ m, m ∈ ch n → rk n < rk m
  le : ∀ n, n < L → rk n < L

namespace Fits
variable {L : Nat} {ch : Nat → List Nat} {par : Nat → Int} {rk : Nat → Nat}

theorem up_stable (F : Fits L ch par rk) : ∀ {k n : Nat}, n < L → rk n ≤ k → upG par (k + 1) n = upG par k n
  | 0, n, hn, h => by
    rcases F.par n hn with e | ⟨p, hp, _, hmem⟩
    · simp [upG, e]
    · have := F.rank p hp n hmem; omega
  | k + 1, n, hn, h => by
    rcases F.par n hn with e | ⟨p, hp, e, hmem⟩
    · simp [upG, e]
    · have hr := F.rank p hp n hmem
      have hne : (par n == -1) = false := by rw [e]; simp
      rw [upG, hne, e, Int.toNat_natCast, up_stable F hp (by omega : rk p ≤ k), upG, hne, e, Int.toNat_natCast]
theorem dn_stable (F : Fits L ch par rk) : ∀ {k n : Nat}, n < L → L ≤ k + 1 + rk n → dnG ch (k + 1) n = dnG ch k n
  | 0, n, hn, h => by
    have : ch n = [] := by
      apply List.eq_nil_iff_forall_not_mem.mpr
      intro m hm
      have := F.rank n hn m hm
      have := F.le m (F.lt n hn m hm)
      omega
    simp [dnG, this]
  | k + 1, n, hn, h => by
    rw [dnG, dnG]
    congr 1
    apply flat_congr
    intro m hm
    have := F.rank n hn m hm
    exact dn_stable F (F.lt n hn m hm) (by omega)
theorem forest (F : Fits L ch par rk) : Forest L ch (dnG ch L) (upG par L) rk := by
  refine ⟨fun n hn => ?_, F.lt, F.nd, fun n hn m hm => ?_, fun n hn => ?_, F.rank⟩
  · obtain ⟨k, rfl⟩ : ∃ k, L = k + 1 := ⟨L - 1, by omega⟩
    rw [dnG]
    congr 1
    apply flat_congr
    intro m hm
    have := F.rank n hn m hm
    exact (dn_stable F (F.lt n hn m hm) (by omega)).symm
  · obtain ⟨k, rfl⟩ : ∃ k, L = k + 1 := ⟨L - 1, by omega⟩
    have hml := F.lt n hn m hm
    have e := F.kid n hn m hm
    have hr := F.rank n hn m hm
    have hle := F.le m hml
    have hne : (par m == -1) = false := by rw [e]; simp
    rw [upG, hne, e, Int.toNat_natCast, up_stable F hn (by omega)]; rfl
  · obtain ⟨k, rfl⟩ : ∃ k, L = k + 1 := ⟨L - 1, by omega⟩
    rcases F.par n hn with e | ⟨p, hp, _, hmem⟩
    · left; simp [upG, e]
    · exact .inr ⟨p, hp, hmem⟩
end Fits

namespace Forest
variable {L : Nat} {ch D U : Nat → List Nat} {rk : Nat → Nat}
def topU (U : Nat → List Nat) (n : Nat) : Nat := (U n).getLastD n
theorem topU_mem (F : Forest L ch D U rk) {n : Nat} (hn : n < L) : topU U n ∈ U n := by
  unfold topU
  rw [List.getLastD_eq_getLast?]
  cases h : (U n).getLast? with
  | none =>
    have := List.getLast?_eq_none_iff.mp h
    have h2 := F.u_self hn
    rw [this] at h2; simp at h2
  | some x => exact List.mem_of_getLast? h
theorem topU_eq (F : Forest L ch D U rk) {n x : Nat} (hn : n < L) (hx : x ∈ U n) : topU U x = topU U n := by
  obtain ⟨p, hp, hxl, _⟩ := F.u_suffix hn hx
  have hs := F.u_self hxl
  unfold topU
  rw [hp, List.getLastD_eq_getLast?, List.getLastD_eq_getLast?, List.getLast?_append]
  cases h : (U x).getLast? with
  | none =>
    have := List.getLast?_eq_none_iff.mp h
    rw [this] at hs; simp at hs
  | some y => simp
/-- A node's place in the walk down from its top. -/
def posU (D U : Nat → List Nat) (n : Nat) : Nat := pos n (D (topU U n))
theorem posU_lt (F : Forest L ch D U rk) {n : Nat} (hn : n < L) : posU D U n < L := by
  have h1 := F.topU_mem hn
  have h2 := F.u_lt hn h1
  have h3 := pos_mem.mp ((F.mem_d h2 hn).mpr h1)
  have h4 := F.d_len h2
  unfold posU
  omega
theorem ahead_in (F : Forest L ch D U rk) {t p n : Nat} (ht : t < L) (hp : p ∈ D t) (hn : n ∈ D p) (hne : p ≠ n) : pos p (D t) < pos n (D t) := by
  obtain ⟨hpl, _, q, s, hD⟩ := F.d_segment ht hp
  have hnd := F.d_nodup ht
  rw [F.deq p hpl] at hn hD
  have hn' : n ∈ (ch p).flatMap D := by
    rcases List.mem_cons.mp hn with e | h
    · exact absurd e.symm hne
    · exact h
  have e : D t = q ++ p :: ((ch p).flatMap D ++ s) := by rw [hD]; simp
  rw [e] at hnd ⊢
  exact pos_ahead hnd (List.mem_append.mpr (.inl hn'))
theorem posU_anc (F : Forest L ch D U rk) {p n : Nat} (hn : n < L) (h : p ∈ U n) (hne : p ≠ n) : posU D U p < posU D U n := by
  have hpl := F.u_lt hn h
  have htm := F.topU_mem hpl
  have htl := F.u_lt hpl htm
  unfold posU
  rw [← F.topU_eq hn h]
  exact F.ahead_in htl ((F.mem_d htl hpl).mpr htm) ((F.mem_d hpl hn).mpr h) hne
theorem posU_sib (F : Forest L ch D U rk) {p a b x y : Nat} {l1 l2 : List Nat} (hp : p < L) (hc : ch p = l1 ++ l2) (ha : a ∈ l1) (hb : b ∈ l2) (hx : x ∈ D a) (hy : y ∈ D b) : posU D U x < posU D U y := by
  have hal := F.lt p hp a (by rw [hc]; exact List.mem_append.mpr (.inl ha))
  have hbl := F.lt p hp b (by rw [hc]; exact List.mem_append.mpr (.inr hb))
  obtain ⟨hxl, hxa, _⟩ := F.d_segment hal hx
  obtain ⟨hyl, hyb, _⟩ := F.d_segment hbl hy
  have hpx : p ∈ U x := F.u_trans hxl (F.u_kid hp (by rw [hc]; exact List.mem_append.mpr (.inl ha))) hxa
  have hpy : p ∈ U y := F.u_trans hyl (F.u_kid hp (by rw [hc]; exact List.mem_append.mpr (.inr hb))) hyb
  have htm := F.topU_mem hp
  have htl := F.u_lt hp htm
  unfold posU
  rw [← F.topU_eq hxl hpx, ← F.topU_eq hyl hpy]
  obtain ⟨_, _, q, s, hD⟩ := F.d_segment htl ((F.mem_d htl hp).mpr htm)
  have hnd := F.d_nodup htl
  rw [F.deq p hp, hc, List.flatMap_append] at hD
  have e : D (topU U p) = (q ++ p :: l1.flatMap D) ++ (l2.flatMap D ++ s) := by rw [hD]; simp
  have hx1 : x ∈ q ++ p :: l1.flatMap D := by
    rw [List.mem_append, List.mem_cons, List.mem_flatMap]; exact .inr (.inr ⟨a, ha, hx⟩)
  have hy1 : y ∈ l2.flatMap D ++ s := by
    rw [List.mem_append, List.mem_flatMap]; exact .inl ⟨b, hb, hy⟩
  rw [e] at hnd ⊢
  have hyn : y ∉ q ++ p :: l1.flatMap D := fun h => (List.nodup_append.mp hnd).2.2 y h y hy1 rfl
  rw [pos_left _ hx1, pos_right _ hyn]
  have := pos_mem.mp hx1
  omega
/-- Two forests of the same kids are the same. -/
theorem ext {ch' D' U' : Nat → List Nat} {rk' : Nat → Nat} (F : Forest L ch D U rk) (G : Forest L ch' D' U' rk') (h : ∀ n, n < L → ch n = ch' n) : (∀ n, n < L → D n = D' n) ∧ ∀ n, n < L → U n = U' n := by
  constructor
  · intro n hn
    refine F.down_ind (P := fun n => D n = D' n) (bounded rk L) ?_ hn
    intro n hn ih
    rw [F.deq n hn, G.deq n hn, ← h n hn]
    congr 1
    exact flat_congr (fun m hm => ih m hm)
  · intro n hn
    generalize hk : rk n = k
    induction k using Nat.strongRecOn generalizing n with
    | _ k ih =>
      rcases F.u_cases hn with e | ⟨m, hm, hc, e⟩
      · rcases G.u_cases hn with e' | ⟨m, hm, hc, _⟩
        · rw [e, e']
        · rw [← h m hm] at hc
          have := F.up m hm n hc
          rw [e] at this
          have h2 := F.u_self hm
          simp at this
          rw [this] at h2; simp at h2
      · have hr := F.rank m hm n hc
        rw [e, ih (rk m) (by omega) m hm rfl, G.up m hm n (by rw [← h m hm]; exact hc)]
end Forest

/-- The kids of a node in the flat tree. -/
def kidsF (T : List Nd) (n : Nat) : List Int :=
  if (nd T n).kind == 3 then []
  else if (nd T n).root == -1 then (if (asgI T (n : Int)).length == 0 then (nd T n).kids else asgI T (n : Int))
  else (nd T (nd T n).root.toNat).kids
/-- The slot that shows a node. -/
def showF (T : List Nd) (n : Nat) : Int := if ofN T n == -1 then -1 else if (nd T (ofN T n).toNat).root == -1 then ofN T n else -1
/-- The parent of a node in the flat tree. -/
def parF (T : List Nd) (n : Nat) : Int :=
  if (nd T n).parent == -1 then -1
  else if (nd T (nd T n).parent.toNat).kind == 3 then hostS T (n : Int)
  else if (nd T (nd T n).parent.toNat).root == -1 then (if (asgI T (nd T n).parent).length == 0 then (nd T n).parent else -1)
  else showF T n
def chF (T : List Nd) (n : Nat) : List Nat := (kidsF T n).map Int.toNat

theorem place_range (T : List Nd) (r : Nat) (k : Int) : placeI T r k = -1 ∨ ∃ s : Nat, placeI T r k = (s : Int) := by
  cases hman : manB T (r : Int)
  · rw [place_nam hman]
    unfold byNameI
    split
    · exact Or.inl rfl
    · rename_i hge
      refine Or.inr ?_
      have hlt : (indexI (namesI T r) (nameI T k)).toNat < (slotsN T r).length := by
        have : indexI (namesI T r) (nameI T k) < ((namesI T r).length : Int) := by
          unfold indexI at hge ⊢
          split <;> omega
        rw [namesI_len] at this
        omega
      exact ⟨_, castL_getD _ hlt⟩
  · rw [place_man hman]
    unfold byNumI
    split
    · rename_i hc
      rw [Bool.and_eq_true] at hc
      refine Or.inr ?_
      have h2 := of_decide_eq_true hc.2
      obtain ⟨x, _, e⟩ := List.mem_map.mp h2
      exact ⟨x, e.symm⟩
    · exact Or.inl rfl
theorem top_kid {T : List Nd} (hm : mayB T = true) {m r : Nat} (hml : m < T.length) (hr : r < T.length) (hk : (nd T r).kind = 3) (hp : (nd T m).parent = (r : Int)) : topN T m = r := by
  have h1 : r ∈ pars T m := by
    rw [pars_some hm hml hp]
    exact List.mem_cons_of_mem _ ((forest3 hm).u_self hr)
  rw [← top_eq hm hml h1, top_shadow hm hr hk]
theorem ofN_cases {T : List Nd} (hm : mayB T = true) {n : Nat} (hn : n < T.length) : ofN T n = -1 ∨ ∃ s p r : Nat, ofN T n = (s : Int) ∧ s < T.length ∧ p < T.length ∧ r < T.length ∧ (nd T n).parent = (p : Int) ∧ (n : Int) ∈ (nd T p).kids ∧ (nd T p).root = (r : Int) ∧ (nd T r).kind = 3 ∧ (nd T r).host = (p : Int) ∧ s ∈ dn T r ∧ ((nd T s).tag == 3) = true := by
  have hF := mayB_fine hm
  rcases hF.par n hn with e | ⟨p, hpl, e, hmem⟩
  · left; unfold ofN; rw [e]; rfl
  · have e1 : ((nd T n).parent == -1) = false := by rw [e]; simp
    cases hr : ((nd T p).root == -1)
    · obtain ⟨r, hrr, hrl, hk, hho⟩ := root_facts hF hpl hr
      have hof : ofN T n = placeI T r (n : Int) := by
        unfold ofN; rw [e1, e, Int.toNat_natCast, hr, hrr, Int.toNat_natCast]; rfl
      rcases place_range T r (n : Int) with h | ⟨s, h⟩
      · left; rw [hof, h]
      · right
        have hsm := place_mem h
        obtain ⟨hsd, htag⟩ := List.mem_filter.mp hsm
        exact ⟨s, p, r, by rw [hof, h], (forest3 hm).d_lt hrl hsd, hpl, hrl, e, hmem, hrr, hk, hho, hsd, htag⟩
    · left; unfold ofN; rw [e1, e, Int.toNat_natCast, hr]; rfl

theorem asg_facts {T : List Nd} (hm : mayB T = true) {n : Nat} (hn : n < T.length) {x : Int} (hx : x ∈ asgI T (n : Int)) : ∃ m : Nat, x = (m : Int) ∧ m < T.length ∧ ofN T m = (n : Int) := by
  have hx' := hx
  unfold asgI at hx
  split at hx
  · rename_i hc
    simp only [Bool.and_eq_true, Int.toNat_natCast] at hc hx
    have hk : (nd T (topN T n)).kind = 3 := by simpa using hc.1.2
    have htl := top_lt hm hn
    obtain ⟨q, hql, hho, _, _⟩ := fine_host (mayB_fine hm) htl hk
    rw [hho, Int.toNat_natCast] at hx
    obtain ⟨m, e, hml, _⟩ := of_kid hm htl hk hho hql (List.mem_filter.mp hx).1
    subst e
    exact ⟨m, rfl, hml, (asg_iff hm hml hn).mp hx'⟩
  · simp at hx
theorem asg_nodup {T : List Nd} (hm : mayB T = true) {n : Nat} (hn : n < T.length) : (asgI T (n : Int)).Nodup := by
  unfold asgI
  split
  · rename_i hc
    simp only [Bool.and_eq_true, Int.toNat_natCast] at hc ⊢
    have hk : (nd T (topN T n)).kind = 3 := by simpa using hc.1.2
    have htl := top_lt hm hn
    obtain ⟨q, hql, hho, _, _⟩ := fine_host (mayB_fine hm) htl hk
    rw [hho, Int.toNat_natCast]
    exact ((mayB_fine hm).nodup q hql).filter _
  · simp
/-- Who is a kid in the flat tree, by cases. -/
theorem kidsF_cases {T : List Nd} (hm : mayB T = true) {n : Nat} (hn : n < T.length) {x : Int} (hx : x ∈ kidsF T n) : ∃ m : Nat, x = (m : Int) ∧ m < T.length ∧ (nd T n).kind ≠ 3 ∧ canBeKidB (nd T m).kind = true ∧
    ((∃ r : Nat, r < T.length ∧ (nd T n).root = (r : Int) ∧ (nd T r).kind = 3 ∧ (nd T r).host = (n : Int) ∧ (nd T m).parent = (r : Int)) ∨
     ((nd T n).root = -1 ∧ ofN T m = (n : Int)) ∨ ((nd T n).root = -1 ∧ asgI T (n : Int) = [] ∧ (nd T m).parent = (n : Int))) := by
  have hF := mayB_fine hm
  unfold kidsF at hx
  split at hx
  · simp at hx
  · rename_i hk
    have hk3 : (nd T n).kind ≠ 3 := by simpa using hk
    split at hx
    · rename_i hr
      have hr1 : (nd T n).root = -1 := by simpa using hr
      split at hx
      · rename_i he
        have he1 : asgI T (n : Int) = [] := by
          have : (asgI T (n : Int)).length = 0 := by simpa using he
          exact List.length_eq_zero_iff.mp this
        obtain ⟨m, rfl, hml, hc, hp⟩ := kidP_iff.mp (hF.kid n hn x hx)
        exact ⟨m, rfl, hml, hk3, hc, .inr (.inr ⟨hr1, he1, hp⟩)⟩
      · obtain ⟨m, rfl, hml, hof⟩ := asg_facts hm hn hx
        rcases ofN_cases hm hml with h | ⟨s, p, r, _, _, hpl, _, _, hmem, _⟩
        · rw [h] at hof; omega
        · obtain ⟨m', e, _, hc, _⟩ := kidP_iff.mp (hF.kid p hpl _ hmem)
          have : m' = m := by omega
          subst this
          exact ⟨m', rfl, hml, hk3, hc, .inr (.inl ⟨hr1, hof⟩)⟩
    · rename_i hr
      obtain ⟨r, hrr, hrl, hkr, hho⟩ := root_facts hF hn (by simpa using hr)
      rw [hrr, Int.toNat_natCast] at hx
      obtain ⟨m, rfl, hml, hc, hp⟩ := kidP_iff.mp (hF.kid r hrl x hx)
      exact ⟨m, rfl, hml, hk3, hc, .inl ⟨r, hrl, hrr, hkr, hho, hp⟩⟩
theorem kind_one {T : List Nd} (hm : mayB T = true) {p r : Nat} (hp : p < T.length) (hr : (nd T p).root = (r : Int)) : (nd T p).kind = 1 := by
  rcases rootP_iff.mp ((mayB_fine hm).root p hp) with e | ⟨h, _⟩
  · omega
  · exact h
theorem parF_kid {T : List Nd} (hm : mayB T = true) {n m : Nat} (hn : n < T.length) (hml : m < T.length) (hx : (m : Int) ∈ kidsF T n) : parF T m = (n : Int) := by
  obtain ⟨m', e, _, hk3, _, hc⟩ := kidsF_cases hm hn hx
  have : m' = m := by omega
  subst this
  rcases hc with ⟨r, hrl, hrr, hkr, hho, hp⟩ | ⟨hr1, hof⟩ | ⟨hr1, he, hp⟩
  · have e1 : ((nd T m').parent == -1) = false := by rw [hp]; simp
    unfold parF
    rw [e1, hp, Int.toNat_natCast, hkr]
    show hostS T (m' : Int) = _
    unfold hostS
    rw [known_of hm hml, Int.toNat_natCast, top_kid hm hml hrl hkr hp, hho]; rfl
  · rcases ofN_cases hm hml with h | ⟨s, p, r, hs, _, hpl, hrl, hp, _, hrr, hkr, _, _, _⟩
    · rw [h] at hof; omega
    · have e1 : ((nd T m').parent == -1) = false := by rw [hp]; simp
      have hk1 := kind_one hm hpl hrr
      have e3 : ((nd T p).root == -1) = false := by rw [hrr]; simp
      unfold parF
      rw [e1, hp, Int.toNat_natCast, hk1, e3]
      show showF T m' = _
      unfold showF
      have e4 : ((n : Int) == -1) = false := by simp
      rw [hof, e4, Int.toNat_natCast, hr1]; rfl
  · have e1 : ((nd T m').parent == -1) = false := by rw [hp]; simp
    have e2 : ((nd T n).kind == 3) = false := by simpa using hk3
    unfold parF
    rw [e1, hp, Int.toNat_natCast, e2, hr1, he]; rfl
theorem parF_cases {T : List Nd} (hm : mayB T = true) {m : Nat} (hml : m < T.length) : parF T m = -1 ∨ ∃ n, n < T.length ∧ parF T m = (n : Int) ∧ (m : Int) ∈ kidsF T n := by
  have hF := mayB_fine hm
  rcases hF.par m hml with e | ⟨p, hpl, e, hmem⟩
  · left; unfold parF; rw [e]; rfl
  · have e1 : ((nd T m).parent == -1) = false := by rw [e]; simp
    cases hk : ((nd T p).kind == 3)
    · cases hr : ((nd T p).root == -1)
      · have hpar : parF T m = showF T m := by
          unfold parF; rw [e1, e, Int.toNat_natCast, hk, hr]; rfl
        rcases ofN_cases hm hml with h | ⟨s, p', r, hs, hsl, hpl', hrl, hp', _, hrr, hkr, hho, hsd, htag⟩
        · left; rw [hpar]; unfold showF; rw [h]; rfl
        · have e4 : ((s : Int) == -1) = false := by simp
          cases hsr : ((nd T s).root == -1)
          · left; rw [hpar]; unfold showF; rw [hs, e4, Int.toNat_natCast, hsr]; rfl
          · right
            refine ⟨s, hsl, ?_, ?_⟩
            · rw [hpar]; unfold showF; rw [hs, e4, Int.toNat_natCast, hsr]; rfl
            · have hin := (asg_iff hm hml hsl).mpr hs
              have htg : (nd T s).tag = 3 := by simpa using htag
              have hk1 := tag_elem hm hsl htg
              have hne : ((asgI T (s : Int)).length == 0) = false := by
                have := List.length_pos_of_mem hin
                simp; intro h; rw [h] at hin; simp at hin
              unfold kidsF
              rw [hk1, hsr, hne]
              exact hin
      · cases ha : ((asgI T (p : Int)).length == 0)
        · left; unfold parF; rw [e1, e, Int.toNat_natCast, hk, hr, ha]; rfl
        · right
          refine ⟨p, hpl, ?_, ?_⟩
          · unfold parF; rw [e1, e, Int.toNat_natCast, hk, hr, ha]; rfl
          · unfold kidsF; rw [hk, hr, ha]; exact hmem
    · right
      have hk3 : (nd T p).kind = 3 := by simpa using hk
      obtain ⟨h, hhl, hho, hk1, hroot⟩ := fine_host hF hpl hk3
      refine ⟨h, hhl, ?_, ?_⟩
      · unfold parF
        rw [e1, e, Int.toNat_natCast, hk]
        show hostS T (m : Int) = _
        unfold hostS
        rw [known_of hm hml, Int.toNat_natCast, top_kid hm hml hpl hk3 e, hho]; rfl
      · have e5 : ((p : Int) == -1) = false := by simp
        unfold kidsF
        rw [hk1, hroot, e5, Int.toNat_natCast]
        exact hmem
theorem pars_sup {T : List Nd} (hm : mayB T = true) {n x : Nat} (hn : n < T.length) (h : x ∈ pars T n) : x ∈ supN T n := by
  obtain ⟨_, _, h1⟩ := sup_split hm hn
  unfold supN
  rcases h1 with ⟨_, _, e⟩ | ⟨_, q, _, _, e⟩
  · rw [e]; exact h
  · rw [e]; exact List.mem_append.mpr (.inl h)
def rkF (T : List Nd) (n : Nat) : Nat := Forest.posU (sl T) (supN T) n
theorem sup_step {T : List Nd} (hm : mayB T = true) {m p : Nat} (hml : m < T.length) (hp : (nd T m).parent = (p : Int)) : p ∈ supN T m := by
  have := upsL_some hm hml (over_of_parent (mayB_fine hm) hml hp)
  unfold supN
  rw [this.1]; simp
theorem rkF_kid {T : List Nd} (hm : mayB T = true) {n m : Nat} (hn : n < T.length) (hml : m < T.length) (hx : (m : Int) ∈ kidsF T n) : rkF T n < rkF T m := by
  have F := forest4 hm
  have hF := mayB_fine hm
  obtain ⟨m', e, _, hk3, _, hc⟩ := kidsF_cases hm hn hx
  have : m' = m := by omega
  subst this
  rcases hc with ⟨r, hrl, hrr, hkr, hho, hp⟩ | ⟨hr1, hof⟩ | ⟨hr1, he, hp⟩
  · have h1 := sup_step hm hml hp
    have h2 : n ∈ supN T r := by
      have h3 : overI (nd T r) = (n : Int) := by unfold overI; rw [hkr]; exact hho
      have := upsL_some hm hrl h3
      unfold supN
      rw [this.1]; simp
    have h4 : r ∈ chS T n := by
      have e5 : ((r : Int) == -1) = false := by simp
      unfold chS; rw [hrr, e5]; simp
    have hlt : rkF T n < rkF T r := F.posU_anc hrl h2 (fun e => by subst e; exact hk3 hkr)
    have hne : r ≠ m' := fun e => by
      subst e
      have h5 := F.rank n hn r h4
      rcases hF.par r hrl with e' | ⟨q, hq, e', hmem⟩
      · omega
      · obtain ⟨z, ez, _, hcz, _⟩ := kidP_iff.mp (hF.kid q hq _ hmem)
        have : z = r := by omega
        subst this
        exact kid_not_shadow hcz hkr
    have := F.posU_anc hml h1 hne
    have h6 : rkF T r < rkF T m' := this
    omega
  · rcases ofN_cases hm hml with h | ⟨s, p, r, hs, hsl, hpl, hrl, hp, hmem, hrr, hkr, hho, hsd, htag⟩
    · rw [h] at hof; omega
    · have hsn : s = n := by omega
      subst hsn
      have e5 : ((r : Int) == -1) = false := by simp
      have hch : chS T p = [r] ++ chK T p := by unfold chS; rw [hrr, e5]; simp
      have hx1 : s ∈ sl T r := by
        refine (F.mem_d hrl hsl).mpr ?_
        obtain ⟨_, hpar, _⟩ := (forest3 hm).d_segment hrl hsd
        exact pars_sup hm hsl hpar
      exact F.posU_sib hpl hch (List.mem_singleton.mpr rfl) (List.mem_map.mpr ⟨(m' : Int), hmem, by simp⟩) hx1 (F.d_self hml)
  · have h1 := sup_step hm hml hp
    have hne : n ≠ m' := fun e => by
      subst e
      have := upsL_some hm hml (over_of_parent hF hml hp)
      have h7 := congrArg List.length this.1
      simp at h7
    exact F.posU_anc hml h1 hne
theorem mem_chF {T : List Nd} (hm : mayB T = true) {n m : Nat} (hn : n < T.length) : m ∈ chF T n ↔ m < T.length ∧ (m : Int) ∈ kidsF T n := by
  constructor
  · intro h
    obtain ⟨x, hx, rfl⟩ := List.mem_map.mp h
    obtain ⟨m, rfl, hml, _⟩ := kidsF_cases hm hn hx
    exact ⟨by simpa using hml, by simpa using hx⟩
  · rintro ⟨_, h⟩
    exact List.mem_map.mpr ⟨(m : Int), h, by simp⟩
theorem kidsF_nodup {T : List Nd} (hm : mayB T = true) {n : Nat} (hn : n < T.length) : (kidsF T n).Nodup := by
  have hF := mayB_fine hm
  unfold kidsF
  split
  · simp
  · split
    · split
      · exact hF.nodup n hn
      · exact asg_nodup hm hn
    · rename_i hr
      obtain ⟨r, hrr, hrl, _⟩ := root_facts hF hn (by simpa using hr)
      rw [hrr, Int.toNat_natCast]
      exact hF.nodup r hrl
theorem fitsF {T : List Nd} (hm : mayB T = true) : Fits T.length (chF T) (parF T) (rkF T) := by
  refine ⟨fun n hn m h => ((mem_chF hm hn).mp h).1, fun n hn => ?_, fun n hn m h => ?_, fun m hml => ?_, fun n hn m h => ?_, fun n hn => (forest4 hm).posU_lt hn⟩
  · exact map_nodup (kidsF_nodup hm hn) (fun k hk => by obtain ⟨q, rfl, _⟩ := kidsF_cases hm hn hk; omega)
  · obtain ⟨h1, h2⟩ := (mem_chF hm hn).mp h
    exact parF_kid hm hn h1 h2
  · rcases parF_cases hm hml with e | ⟨n, hn, e, h⟩
    · exact .inl e
    · exact .inr ⟨n, hn, e, (mem_chF hm hn).mpr ⟨hml, h⟩⟩
  · obtain ⟨h1, h2⟩ := (mem_chF hm hn).mp h
    exact rkF_kid hm hn h1 h2
/-- A node and all above it, a node and all below it, in the flat tree. -/
def upF (T : List Nd) (n : Nat) : List Nat := upG (parF T) T.length n
def dnFl (T : List Nd) (n : Nat) : List Nat := dnG (chF T) T.length n
theorem forest6 {T : List Nd} (hm : mayB T = true) : Forest T.length (chF T) (dnFl T) (upF T) (rkF T) := (fitsF hm).forest
end Go.Proofs.YtpmacpbhdgigfaaGreat
