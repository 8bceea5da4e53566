/- Part 4 of what the laws of layer 10 lean on. -/
import Derived.WalkKit
import Derived.WalkSpells
import Derived.WalkLawsBesides
import Derived.BigQuiet
import Derived.Lib.AppendZeros
import Derived.Lib.Overlaps
import Derived.Laws.CopyOwn
import Derived.Deep.RegionLaw
import Derived.Deep.QuietTactic
import Derived.Laws.AppendOwnNone
import Derived.Deep.RegionWith
import Derived.RangeFuncCalls
import Derived.Deep.RegionHeld3
import Derived.OrdersIn
import Derived.TacticsIn
import Derived.RangeFuncNested
import Derived.Deep.LoopGhost
import Derived.Laws.StructEq
import Derived.Test.YtclhimodopgeoaaGreatTC3
namespace Go.Proofs.YtclhimodopgeoaaGreat
open Go.RowKit

theorem flat_congr {f g : Nat → List Nat} : ∀ {l : List Nat}, (∀ x ∈ l, f x = g x) → l.flatMap f = l.flatMap g
  | [], _ => rfl
  | a :: l, h => by
    rw [List.flatMap_cons, List.flatMap_cons, h a (List.mem_cons_self ..), flat_congr (fun x hx => h x (List.mem_cons_of_mem _ hx))]
/-- A way up, by parents. -/
def upG (par : Nat → Int) : Nat → Nat → List Nat
  | 0, n => [n]
  | k + 1, n => n :: (if par n == -1 then [] else upG par k (par n).toNat)
/-- A walk down, by kids. -/
def dnG (ch : Nat → List Nat) : Nat → Nat → List Nat
  | 0, n => [n]
  | k + 1, n => n :: (ch n).flatMap (dnG ch k)

/-- Kids and parents that fit. -/
structure Fits (L : Nat) (ch : Nat → List Nat) (par : Nat → Int) (rk : Nat → Nat) : Prop where
  lt : ∀ n, n < L → ∀ m, m ∈ ch n → m < L
  nd : ∀ n, n < L → (ch n).Nodup
  kid : ∀ n, n < L → ∀ m, m ∈ ch n → par m = (n : Int)
  par : ∀ m, m < L → par m = -1 ∨ ∃ n, n < L ∧ par m = (n : Int) ∧ m ∈ ch n
  rank : ∀ n, n < L → ∀ m, m ∈ ch n → rk n < rk m
  le : ∀ n, n < L → rk n < L

namespace Fits
variable {L : Nat} {ch : Nat → List Nat} {par : Nat → Int} {rk : Nat → Nat}

theorem up_stable (F : Fits L ch par rk) : ∀ {k n : Nat}, n < L → rk n ≤ k → upG par (k + 1) n = upG par k n
  | 0, n, hn, h => by
    rcases F.par n hn with e | ⟨p, hp, _, hmem⟩
    · simp [upG, e]
    · have := F.rank p hp n hmem; omega
  | k + 1, n, hn, h => by
    rcases F.par n hn with e | ⟨p, hp, e, hmem⟩
    · simp [upG, e]
    · have hr := F.rank p hp n hmem
      have hne : (par n == -1) = false := by rw [e]; simp
      rw [upG, hne, e, Int.toNat_natCast, up_stable F hp (by omega : rk p ≤ k), upG, hne, e, Int.toNat_natCast]
theorem dn_stable (F : Fits L ch par rk) : ∀ {k n : Nat}, n < L → L ≤ k + 1 + rk n → dnG ch (k + 1) n = dnG ch k n
  | 0, n, hn, h => by
    have : ch n = [] := by
      apply List.eq_nil_iff_forall_not_mem.mpr
      intro m hm
      have := F.rank n hn m hm
      have := F.le m (F.lt n hn m hm)
      omega
    simp [dnG, this]
  | k + 1, n, hn, h => by
    rw [dnG, dnG]
    congr 1
    apply flat_congr
    intro m hm
    have := F.rank n hn m hm
    exact dn_stable F (F.lt n hn m hm) (by omega)
theorem forest (F : Fits L ch par rk) : Forest L ch (dnG ch L) (upG par L) rk := by
  refine ⟨fun n hn => ?_, F.lt, F.nd, fun n hn m hm => ?_, fun n hn => ?_, F.rank⟩
  · obtain ⟨k, rfl⟩ : ∃ k, L = k + 1 := ⟨L - 1, by omega⟩
    rw [dnG]
    congr 1
    apply flat_congr
    intro m hm
    have := F.rank n hn m hm
    exact (dn_stable F (F.lt n hn m hm) (by omega)).symm
  · obtain ⟨k, rfl⟩ : ∃ k, L = k + 1 := ⟨L - 1, by omega⟩
    have hml := F.lt n hn m hm
    have e := F.kid n hn m hm
    have hr := F.rank n hn m hm
    have hle := F.le m hml
    have hne : (par m == -1) = false := by rw [e]; simp
    rw [upG, hne, e, Int.toNat_natCast, up_stable F hn (by omega)]; rfl
  · obtain ⟨k, rfl⟩ : ∃ k, L = k + 1 := ⟨L - 1, by omega⟩
    rcases F.par n hn with e | ⟨p, hp, _, hmem⟩
    · left; simp [upG, e]
    · exact .inr ⟨p, hp, hmem⟩
end Fits

namespace Forest
variable {L : Nat} {ch D U : Nat → List Nat} {rk : Nat → Nat}
def topU (U : Nat → List Nat) (n : Nat) : Nat := (U n).getLastD n
theorem topU_mem (F : Forest L ch D U rk) {n : Nat} (hn : n < L) : topU U n ∈ U n := by
  unfold topU
  rw [List.getLastD_eq_getLast?]
  cases h : (U n).getLast? with
  | none =>
    have := List.getLast?_eq_none_iff.mp h
    have h2 := F.u_self hn
    rw [this] at h2; simp at h2
  | some x => exact List.mem_of_getLast? h
theorem topU_eq (F : Forest L ch D U rk) {n x : Nat} (hn : n < L) (hx : x ∈ U n) : topU U x = topU U n := by
  obtain ⟨p, hp, hxl, _⟩ := F.u_suffix hn hx
  have hs := F.u_self hxl
  unfold topU
  rw [hp, List.getLastD_eq_getLast?, List.getLastD_eq_getLast?, List.getLast?_append]
  cases h : (U x).getLast? with
  | none =>
    have := List.getLast?_eq_none_iff.mp h
    rw [this] at hs; simp at hs
  | some y => simp
/-- A node's place in the walk down from its top. -/
def posU (D U : Nat → List Nat) (n : Nat) : Nat := pos n (D (topU U n))
theorem posU_lt (F : Forest L ch D U rk) {n : Nat} (hn : n < L) : posU D U n < L := by
  have h1 := F.topU_mem hn
  have h2 := F.u_lt hn h1
  have h3 := pos_mem.mp ((F.mem_d h2 hn).mpr h1)
  have h4 := F.d_len h2
  unfold posU
  omega
theorem ahead_in (F : Forest L ch D U rk) {t p n : Nat} (ht : t < L) (hp : p ∈ D t) (hn : n ∈ D p) (hne : p ≠ n) : pos p (D t) < pos n (D t) := by
  obtain ⟨hpl, _, q, s, hD⟩ := F.d_segment ht hp
  have hnd := F.d_nodup ht
  rw [F.deq p hpl] at hn hD
  have hn' : n ∈ (ch p).flatMap D := by
    rcases List.mem_cons.mp hn with e | h
    · exact absurd e.symm hne
    · exact h
  have e : D t = q ++ p :: ((ch p).flatMap D ++ s) := by rw [hD]; simp
  rw [e] at hnd ⊢
  exact pos_ahead hnd (List.mem_append.mpr (.inl hn'))
theorem posU_anc (F : Forest L ch D U rk) {p n : Nat} (hn : n < L) (h : p ∈ U n) (hne : p ≠ n) : posU D U p < posU D U n := by
  have hpl := F.u_lt hn h
  have htm := F.topU_mem hpl
  have htl := F.u_lt hpl htm
  unfold posU
  rw [← F.topU_eq hn h]
  exact F.ahead_in htl ((F.mem_d htl hpl).mpr htm) ((F.mem_d hpl hn).mpr h) hne
theorem posU_sib (F : Forest L ch D U rk) {p a b x y : Nat} {l1 l2 : List Nat} (hp : p < L) (hc : ch p = l1 ++ l2) (ha : a ∈ l1) (hb : b ∈ l2) (hx : x ∈ D a) (hy : y ∈ D b) : posU D U x < posU D U y := by
  have hal := F.lt p hp a (by rw [hc]; exact List.mem_append.mpr (.inl ha))
  have hbl := F.lt p hp b (by rw [hc]; exact List.mem_append.mpr (.inr hb))
  obtain ⟨hxl, hxa, _⟩ := F.d_segment hal hx
  obtain ⟨hyl, hyb, _⟩ := F.d_segment hbl hy
  have hpx : p ∈ U x := F.u_trans hxl (F.u_kid hp (by rw [hc]; exact List.mem_append.mpr (.inl ha))) hxa
  have hpy : p ∈ U y := F.u_trans hyl (F.u_kid hp (by rw [hc]; exact List.mem_append.mpr (.inr hb))) hyb
  have htm := F.topU_mem hp
  have htl := F.u_lt hp htm
  unfold posU
  rw [← F.topU_eq hxl hpx, ← F.topU_eq hyl hpy]
  obtain ⟨_, _, q, s, hD⟩ := F.d_segment htl ((F.mem_d htl hp).mpr htm)
  have hnd := F.d_nodup htl
  rw [F.deq p hp, hc, List.flatMap_append] at hD
  have e : D (topU U p) = (q ++ p :: l1.flatMap D) ++ (l2.flatMap D ++ s) := by rw [hD]; simp
  have hx1 : x ∈ q ++ p :: l1.flatMap D := by
    rw [List.mem_append, List.mem_cons, List.mem_flatMap]; exact .inr (.inr ⟨a, ha, hx⟩)
  have hy1 : y ∈ l2.flatMap D ++ s := by
    rw [List.mem_append, List.mem_flatMap]; exact .inl ⟨b, hb, hy⟩
  rw [e] at hnd ⊢
  have hyn : y ∉ q ++ p :: l1.flatMap D := fun h => (List.nodup_append.mp hnd).2.2 y h y hy1 rfl
  rw [pos_left _ hx1, pos_right _ hyn]
  have := pos_mem.mp hx1
  omega
end Forest

/-- The kids of a node in the flat tree. -/
def kidsF (T : List Nd) (n : Nat) : List Int :=
  if (nd T n).kind == 3 then []
  else if (nd T n).root == -1 then (if (asgI T (n : Int)).length == 0 then (nd T n).kids else asgI T (n : Int))
  else (nd T (nd T n).root.toNat).kids
/-- The slot that shows a node. -/
def showF (T : List Nd) (n : Nat) : Int := if ofN T n == -1 then -1 else if (nd T (ofN T n).toNat).root == -1 then ofN T n else -1
/-- The parent of a node in the flat tree. -/
def parF (T : List Nd) (n : Nat) : Int :=
  if (nd T n).parent == -1 then -1
  else if (nd T (nd T n).parent.toNat).kind == 3 then hostS T (n : Int)
  else if (nd T (nd T n).parent.toNat).root == -1 then (if (asgI T (nd T n).parent).length == 0 then (nd T n).parent else -1)
  else showF T n
def chF (T : List Nd) (n : Nat) : List Nat := (kidsF T n).map Int.toNat

theorem place_range (T : List Nd) (r : Nat) (k : Int) : placeI T r k = -1 ∨ ∃ s : Nat, placeI T r k = (s : Int) := by
  cases hman : manB T (r : Int)
  · rw [place_nam hman]
    unfold byNameI
    split
    · exact Or.inl rfl
    · rename_i hge
      refine Or.inr ?_
      have hlt : (indexI (namesI T r) (nameI T k)).toNat < (slotsN T r).length := by
        have : indexI (namesI T r) (nameI T k) < ((namesI T r).length : Int) := by
          unfold indexI at hge ⊢
          split <;> omega
        rw [namesI_len] at this
        omega
      exact ⟨_, castL_getD _ hlt⟩
  · rw [place_man hman]
    unfold byNumI
    split
    · rename_i hc
      rw [Bool.and_eq_true] at hc
      refine Or.inr ?_
      have h2 := of_decide_eq_true hc.2
      obtain ⟨x, _, e⟩ := List.mem_map.mp h2
      exact ⟨x, e.symm⟩
    · exact Or.inl rfl
theorem top_kid {T : List Nd} (hm : mayB T = true) {m r : Nat} (hml : m < T.length) (hr : r < T.length) (hk : (nd T r).kind = 3) (hp : (nd T m).parent = (r : Int)) : topN T m = r := by
  have h1 : r ∈ pars T m := by
    rw [pars_some hm hml hp]
    exact List.mem_cons_of_mem _ ((forest3 hm).u_self hr)
  rw [← top_eq hm hml h1, top_shadow hm hr hk]
theorem ofN_cases {T : List Nd} (hm : mayB T = true) {n : Nat} (hn : n < T.length) : ofN T n = -1 ∨ ∃ s p r : Nat, ofN T n = (s : Int) ∧ s < T.length ∧ p < T.length ∧ r < T.length ∧ (nd T n).parent = (p : Int) ∧ (n : Int) ∈ (nd T p).kids ∧ (nd T p).root = (r : Int) ∧ (nd T r).kind = 3 ∧ (nd T r).host = (p : Int) ∧ s ∈ dn T r ∧ ((nd T s).tag == 3) = true := by
  have hF := mayB_fine hm
  rcases hF.par n hn with e | ⟨p, hpl, e, hmem⟩
  · left; unfold ofN; rw [e]; rfl
  · have e1 : ((nd T n).parent == -1) = false := by rw [e]; simp
    cases hr : ((nd T p).root == -1)
    · obtain ⟨r, hrr, hrl, hk, hho⟩ := root_facts hF hpl hr
      have hof : ofN T n = placeI T r (n : Int) := by
        unfold ofN; rw [e1, e, Int.toNat_natCast, hr, hrr, Int.toNat_natCast]; rfl
      rcases place_range T r (n : Int) with h | ⟨s, h⟩
      · left; rw [hof, h]
      · right
        have hsm := place_mem h
        obtain ⟨hsd, htag⟩ := List.mem_filter.mp hsm
        exact ⟨s, p, r, by rw [hof, h], (forest3 hm).d_lt hrl hsd, hpl, hrl, e, hmem, hrr, hk, hho, hsd, htag⟩
    · left; unfold ofN; rw [e1, e, Int.toNat_natCast, hr]; rfl

theorem asg_facts {T : List Nd} (hm : mayB T = true) {n : Nat} (hn : n < T.length) {x : Int} (hx : x ∈ asgI T (n : Int)) : ∃ m : Nat, x = (m : Int) ∧ m < T.length ∧ ofN T m = (n : Int) := by
  have hx' := hx
  unfold asgI at hx
  split at hx
  · rename_i hc
    simp only [Bool.and_eq_true, Int.toNat_natCast] at hc hx
    have hk : (nd T (topN T n)).kind = 3 := by simpa using hc.1.2
    have htl := top_lt hm hn
    obtain ⟨q, hql, hho, _, _⟩ := fine_host (mayB_fine hm) htl hk
    rw [hho, Int.toNat_natCast] at hx
    obtain ⟨m, e, hml, _⟩ := of_kid hm htl hk hho hql (List.mem_filter.mp hx).1
    subst e
    exact ⟨m, rfl, hml, (asg_iff hm hml hn).mp hx'⟩
  · simp at hx
theorem asg_nodup {T : List Nd} (hm : mayB T = true) {n : Nat} (hn : n < T.length) : (asgI T (n : Int)).Nodup := by
  unfold asgI
  split
  · rename_i hc
    simp only [Bool.and_eq_true, Int.toNat_natCast] at hc ⊢
    have hk : (nd T (topN T n)).kind = 3 := by simpa using hc.1.2
    have htl := top_lt hm hn
    obtain ⟨q, hql, hho, _, _⟩ := fine_host (mayB_fine hm) htl hk
    rw [hho, Int.toNat_natCast]
    exact ((mayB_fine hm).nodup q hql).filter _
  · simp
/-- Who is a kid in the flat tree, by cases. -/
theorem kidsF_cases {T : List Nd} (hm : mayB T = true) {n : Nat} (hn : n < T.length) {x : Int} (hx : x ∈ kidsF T n) : ∃ m : Nat, x = (m : Int) ∧ m < T.length ∧ (nd T n).kind ≠ 3 ∧ canBeKidB (nd T m).kind = true ∧
    ((∃ r : Nat, r < T.length ∧ (nd T n).root = (r : Int) ∧ (nd T r).kind = 3 ∧ (nd T r).host = (n : Int) ∧ (nd T m).parent = (r : Int)) ∨
     ((nd T n).root = -1 ∧ ofN T m = (n : Int)) ∨ ((nd T n).root = -1 ∧ asgI T (n : Int) = [] ∧ (nd T m).parent = (n : Int))) := by
  have hF := mayB_fine hm
  unfold kidsF at hx
  split at hx
  · simp at hx
  · rename_i hk
    have hk3 : (nd T n).kind ≠ 3 := by simpa using hk
    split at hx
    · rename_i hr
      have hr1 : (nd T n).root = -1 := by simpa using hr
      split at hx
      · rename_i he
        have he1 : asgI T (n : Int) = [] := by
          have : (asgI T (n : Int)).length = 0 := by simpa using he
          exact List.length_eq_zero_iff.mp this
        obtain ⟨m, rfl, hml, hc, hp⟩ := kidP_iff.mp (hF.kid n hn x hx)
        exact ⟨m, rfl, hml, hk3, hc, .inr (.inr ⟨hr1, he1, hp⟩)⟩
      · obtain ⟨m, rfl, hml, hof⟩ := asg_facts hm hn hx
        rcases ofN_cases hm hml with h | ⟨s, p, r, _, _, hpl, _, _, hmem, _⟩
        · rw [h] at hof; omega
        · obtain ⟨m', e, _, hc, _⟩ := kidP_iff.mp (hF.kid p hpl _ hmem)
          have : m' = m := by omega
          subst this
          exact ⟨m', rfl, hml, hk3, hc, .inr (.inl ⟨hr1, hof⟩)⟩
    · rename_i hr
      obtain ⟨r, hrr, hrl, hkr, hho⟩ := root_facts hF hn (by simpa using hr)
      rw [hrr, Int.toNat_natCast] at hx
      obtain ⟨m, rfl, hml, hc, hp⟩ := kidP_iff.mp (hF.kid r hrl x hx)
      exact ⟨m, rfl, hml, hk3, hc, .inl ⟨r, hrl, hrr, hkr, hho, hp⟩⟩
theorem kind_one {T : List Nd} (hm : mayB T = true) {p r : Nat} (hp : p < T.length) (hr : (nd T p).root = (r : Int)) : (nd T p).kind = 1 := by
  rcases rootP_iff.mp ((mayB_fine hm).root p hp) with e | ⟨h, _⟩
  · omega
  · exact h
theorem parF_kid {T : List Nd} (hm : mayB T = true) {n m : Nat} (hn : n < T.length) (hml : m < T.length) (hx : (m : Int) ∈ kidsF T n) : parF T m = (n : Int) := by
  obtain ⟨m', e, _, hk3, _, hc⟩ := kidsF_cases hm hn hx
  have : m' = m := by omega
  subst this
  rcases hc with ⟨r, hrl, hrr, hkr, hho, hp⟩ | ⟨hr1, hof⟩ | ⟨hr1, he, hp⟩
  · have e1 : ((nd T m').parent == -1) = false := by rw [hp]; simp
    unfold parF
    rw [e1, hp, Int.toNat_natCast, hkr]
    show hostS T (m' : Int) = _
    unfold hostS
    rw [known_of hm hml, Int.toNat_natCast, top_kid hm hml hrl hkr hp, hho]; rfl
  · rcases ofN_cases hm hml with h | ⟨s, p, r, hs, _, hpl, hrl, hp, _, hrr, hkr, _, _, _⟩
    · rw [h] at hof; omega
    · have e1 : ((nd T m').parent == -1) = false := by rw [hp]; simp
      have hk1 := kind_one hm hpl hrr
      have e3 : ((nd T p).root == -1) = false := by rw [hrr]; simp
      unfold parF
      rw [e1, hp, Int.toNat_natCast, hk1, e3]
      show showF T m' = _
      unfold showF
      have e4 : ((n : Int) == -1) = false := by simp
      rw [hof, e4, Int.toNat_natCast, hr1]; rfl
  · have e1 : ((nd T m').parent == -1) = false := by rw [hp]; simp
    have e2 : ((nd T n).kind == 3) = false := by simpa using hk3
    unfold parF
    rw [e1, hp, Int.toNat_natCast, e2, hr1, he]; rfl
theorem parF_cases {T : List Nd} (hm : mayB T = true) {m : Nat} (hml : m < T.length) : parF T m = -1 ∨ ∃ n, n < T.length ∧ parF T m = (n : Int) ∧ (m : Int) ∈ kidsF T n := by
  have hF := mayB_fine hm
  rcases hF.par m hml with e | ⟨p, hpl, e, hmem⟩
  · left; unfold parF; rw [e]; rfl
  · have e1 : ((nd T m).parent == -1) = false := by rw [e]; simp
    cases hk : ((nd T p).kind == 3)
    · cases hr : ((nd T p).root == -1)
      · have hpar : parF T m = showF T m := by
          unfold parF; rw [e1, e, Int.toNat_natCast, hk, hr]; rfl
        rcases ofN_cases hm hml with h | ⟨s, p', r, hs, hsl, hpl', hrl, hp', _, hrr, hkr, hho, hsd, htag⟩
        · left; rw [hpar]; unfold showF; rw [h]; rfl
        · have e4 : ((s : Int) == -1) = false := by simp
          cases hsr : ((nd T s).root == -1)
          · left; rw [hpar]; unfold showF; rw [hs, e4, Int.toNat_natCast, hsr]; rfl
          · right
            refine ⟨s, hsl, ?_, ?_⟩
            · rw [hpar]; unfold showF; rw [hs, e4, Int.toNat_natCast, hsr]; rfl
            · have hin := (asg_iff hm hml hsl).mpr hs
              have htg : (nd T s).tag = 3 := by simpa using htag
              have hk1 := tag_elem hm hsl htg
              have hne : ((asgI T (s : Int)).length == 0) = false := by
                have := List.length_pos_of_mem hin
                simp; intro h; rw [h] at hin; simp at hin
              unfold kidsF
              rw [hk1, hsr, hne]
              exact hin
      · cases ha : ((asgI T (p : Int)).length == 0)
        · left; unfold parF; rw [e1, e, Int.toNat_natCast, hk, hr, ha]; rfl
        · right
          refine ⟨p, hpl, ?_, ?_⟩
          · unfold parF; rw [e1, e, Int.toNat_natCast, hk, hr, ha]; rfl
          · unfold kidsF; rw [hk, hr, ha]; exact hmem
    · right
      have hk3 : (nd T p).kind = 3 := by simpa using hk
      obtain ⟨h, hhl, hho, hk1, hroot⟩ := fine_host hF hpl hk3
      refine ⟨h, hhl, ?_, ?_⟩
      · unfold parF
        rw [e1, e, Int.toNat_natCast, hk]
        show hostS T (m : Int) = _
        unfold hostS
        rw [known_of hm hml, Int.toNat_natCast, top_kid hm hml hpl hk3 e, hho]; rfl
      · have e5 : ((p : Int) == -1) = false := by simp
        unfold kidsF
        rw [hk1, hroot, e5, Int.toNat_natCast]
        exact hmem
theorem pars_sup {T : List Nd} (hm : mayB T = true) {n x : Nat} (hn : n < T.length) (h : x ∈ pars T n) : x ∈ supN T n := by
  obtain ⟨_, _, h1⟩ := sup_split hm hn
  unfold supN
  rcases h1 with ⟨_, _, e⟩ | ⟨_, q, _, _, e⟩
  · rw [e]; exact h
  · rw [e]; exact List.mem_append.mpr (.inl h)
def rkF (T : List Nd) (n : Nat) : Nat := Forest.posU (sl T) (supN T) n
theorem sup_step {T : List Nd} (hm : mayB T = true) {m p : Nat} (hml : m < T.length) (hp : (nd T m).parent = (p : Int)) : p ∈ supN T m := by
  have := upsL_some hm hml (over_of_parent (mayB_fine hm) hml hp)
  unfold supN
  rw [this.1]; simp
theorem rkF_kid {T : List Nd} (hm : mayB T = true) {n m : Nat} (hn : n < T.length) (hml : m < T.length) (hx : (m : Int) ∈ kidsF T n) : rkF T n < rkF T m := by
  have F := forest4 hm
  have hF := mayB_fine hm
  obtain ⟨m', e, _, hk3, _, hc⟩ := kidsF_cases hm hn hx
  have : m' = m := by omega
  subst this
  rcases hc with ⟨r, hrl, hrr, hkr, hho, hp⟩ | ⟨hr1, hof⟩ | ⟨hr1, he, hp⟩
  · have h1 := sup_step hm hml hp
    have h2 : n ∈ supN T r := by
      have h3 : overI (nd T r) = (n : Int) := by unfold overI; rw [hkr]; exact hho
      have := upsL_some hm hrl h3
      unfold supN
      rw [this.1]; simp
    have h4 : r ∈ chS T n := by
      have e5 : ((r : Int) == -1) = false := by simp
      unfold chS; rw [hrr, e5]; simp
    have hlt : rkF T n < rkF T r := F.posU_anc hrl h2 (fun e => by subst e; exact hk3 hkr)
    have hne : r ≠ m' := fun e => by
      subst e
      have h5 := F.rank n hn r h4
      rcases hF.par r hrl with e' | ⟨q, hq, e', hmem⟩
      · omega
      · obtain ⟨z, ez, _, hcz, _⟩ := kidP_iff.mp (hF.kid q hq _ hmem)
        have : z = r := by omega
        subst this
        exact kid_not_shadow hcz hkr
    have := F.posU_anc hml h1 hne
    have h6 : rkF T r < rkF T m' := this
    omega
  · rcases ofN_cases hm hml with h | ⟨s, p, r, hs, hsl, hpl, hrl, hp, hmem, hrr, hkr, hho, hsd, htag⟩
    · rw [h] at hof; omega
    · have hsn : s = n := by omega
      subst hsn
      have e5 : ((r : Int) == -1) = false := by simp
      have hch : chS T p = [r] ++ chK T p := by unfold chS; rw [hrr, e5]; simp
      have hx1 : s ∈ sl T r := by
        refine (F.mem_d hrl hsl).mpr ?_
        obtain ⟨_, hpar, _⟩ := (forest3 hm).d_segment hrl hsd
        exact pars_sup hm hsl hpar
      exact F.posU_sib hpl hch (List.mem_singleton.mpr rfl) (List.mem_map.mpr ⟨(m' : Int), hmem, by simp⟩) hx1 (F.d_self hml)
  · have h1 := sup_step hm hml hp
    have hne : n ≠ m' := fun e => by
      subst e
      have := upsL_some hm hml (over_of_parent hF hml hp)
      have h7 := congrArg List.length this.1
      simp at h7
    exact F.posU_anc hml h1 hne
theorem mem_chF {T : List Nd} (hm : mayB T = true) {n m : Nat} (hn : n < T.length) : m ∈ chF T n ↔ m < T.length ∧ (m : Int) ∈ kidsF T n := by
  constructor
  · intro h
    obtain ⟨x, hx, rfl⟩ := List.mem_map.mp h
    obtain ⟨m, rfl, hml, _⟩ := kidsF_cases hm hn hx
    exact ⟨by simpa using hml, by simpa using hx⟩
  · rintro ⟨_, h⟩
    exact List.mem_map.mpr ⟨(m : Int), h, by simp⟩
theorem kidsF_nodup {T : List Nd} (hm : mayB T = true) {n : Nat} (hn : n < T.length) : (kidsF T n).Nodup := by
  have hF := mayB_fine hm
  unfold kidsF
  split
  · simp
  · split
    · split
      · exact hF.nodup n hn
      · exact asg_nodup hm hn
    · rename_i hr
      obtain ⟨r, hrr, hrl, _⟩ := root_facts hF hn (by simpa using hr)
      rw [hrr, Int.toNat_natCast]
      exact hF.nodup r hrl
theorem fitsF {T : List Nd} (hm : mayB T = true) : Fits T.length (chF T) (parF T) (rkF T) := by
  refine ⟨fun n hn m h => ((mem_chF hm hn).mp h).1, fun n hn => ?_, fun n hn m h => ?_, fun m hml => ?_, fun n hn m h => ?_, fun n hn => (forest4 hm).posU_lt hn⟩
  · exact map_nodup (kidsF_nodup hm hn) (fun k hk => by obtain ⟨q, rfl, _⟩ := kidsF_cases hm hn hk; omega)
  · obtain ⟨h1, h2⟩ := (mem_chF hm hn).mp h
    exact parF_kid hm hn h1 h2
  · rcases parF_cases hm hml with e | ⟨n, hn, e, h⟩
    · exact .inl e
    · exact .inr ⟨n, hn, e, (mem_chF hm hn).mpr ⟨hml, h⟩⟩
  · obtain ⟨h1, h2⟩ := (mem_chF hm hn).mp h
    exact rkF_kid hm hn h1 h2
/-- A node and all above it, a node and all below it, in the flat tree. -/
def upF (T : List Nd) (n : Nat) : List Nat := upG (parF T) T.length n
def dnFl (T : List Nd) (n : Nat) : List Nat := dnG (chF T) T.length n
theorem forest6 {T : List Nd} (hm : mayB T = true) : Forest T.length (chF T) (dnFl T) (upF T) (rkF T) := (fitsF hm).forest
end Go.Proofs.YtclhimodopgeoaaGreat

namespace Go.Proofs.YtclhimodopgeoaaGreat
open Go.RowKit

theorem ofI_nat {T : List Nd} (hm : mayB T = true) {n : Nat} (hn : n < T.length) : ofI T (n : Int) = ofN T n := by
  unfold ofI; rw [known_of hm hn, Int.toNat_natCast]; rfl

end Go.Proofs.YtclhimodopgeoaaGreat

namespace Go.Proofs.YtclhimodopgeoaaGreat
open Go.RowKit

structure St where
  node : Int
  tg : Int
  rel : Int
  deriving Inhabited, DecidableEq
structure Vi where
  s : St
  phase : Int
  cap : Bool
  deriving Inhabited, DecidableEq
def stD : St := ⟨0, 0, 0⟩
def viD : Vi := ⟨⟨0, 0, 0⟩, 0, false⟩

end Go.Proofs.YtclhimodopgeoaaGreat

namespace Go.Proofs.YtclhimodopgeoaaGreat
open Go.RowKit

/-- The cells. -/
structure StAt (w : World) (b o : Nat) (h : St) : Prop where
  node : w.cell? ⟨b, o, none⟩ = some (.int .i64 h.node)
  tg : w.cell? ⟨b, o + 1, none⟩ = some (.int .i64 h.tg)
  rel : w.cell? ⟨b, o + 2, none⟩ = some (.int .i64 h.rel)
def StsAt (w : World) (v : Value) (l : List St) : Prop :=
  ∃ a cap, v = .slice a l.length cap ∧ l.length ≤ cap ∧ (0 < l.length → ∃ b off, a = some ⟨b, off, none⟩ ∧ ∀ j, j < l.length → StAt w b (off + j * 3) (l.getD j stD))
theorem StAt.below {w w' : World} {b o : Nat} {h : St} (H : StAt w b o h) (hb : Below w.heap.size w w') : StAt w' b o h :=
  ⟨cell_below hb H.node, cell_below hb H.tg, cell_below hb H.rel⟩
theorem StsAt.below {w w' : World} {v : Value} {l : List St} (h : StsAt w v l) (hb : Below w.heap.size w w') : StsAt w' v l := by
  obtain ⟨a, cap, rfl, hc⟩ := h
  refine ⟨a, cap, rfl, hc.1, fun h0 => ?_⟩
  obtain ⟨b, off, rfl, hd⟩ := hc.2 h0
  exact ⟨b, off, rfl, fun j hj => (hd j hj).below hb⟩
theorem StsAt.shape {w : World} {v : Value} {l : List St} (h : StsAt w v l) : ∃ a c, v = .slice a l.length c := let ⟨a, c, h, _⟩ := h; ⟨a, c, h⟩
/-- The cells. -/
structure ViAt (w : World) (b o : Nat) (h : Vi) : Prop where
  node : w.cell? ⟨b, o, none⟩ = some (.int .i64 h.s.node)
  tg : w.cell? ⟨b, o + 1, none⟩ = some (.int .i64 h.s.tg)
  rel : w.cell? ⟨b, o + 2, none⟩ = some (.int .i64 h.s.rel)
  phase : w.cell? ⟨b, o + 3, none⟩ = some (.int .i64 h.phase)
  cap : w.cell? ⟨b, o + 4, none⟩ = some (.bool h.cap)
def VisAt (w : World) (v : Value) (l : List Vi) : Prop :=
  ∃ a cap, v = .slice a l.length cap ∧ l.length ≤ cap ∧ (0 < l.length → ∃ b off, a = some ⟨b, off, none⟩ ∧ ∀ j, j < l.length → ViAt w b (off + j * 5) (l.getD j viD))
theorem ViAt.below {w w' : World} {b o : Nat} {h : Vi} (H : ViAt w b o h) (hb : Below w.heap.size w w') : ViAt w' b o h :=
  ⟨cell_below hb H.node, cell_below hb H.tg, cell_below hb H.rel, cell_below hb H.phase, cell_below hb H.cap⟩
theorem VisAt.below {w w' : World} {v : Value} {l : List Vi} (h : VisAt w v l) (hb : Below w.heap.size w w') : VisAt w' v l := by
  obtain ⟨a, cap, rfl, hc⟩ := h
  refine ⟨a, cap, rfl, hc.1, fun h0 => ?_⟩
  obtain ⟨b, off, rfl, hd⟩ := hc.2 h0
  exact ⟨b, off, rfl, fun j hj => (hd j hj).below hb⟩
theorem VisAt.shape {w : World} {v : Value} {l : List Vi} (h : VisAt w v l) : ∃ a c, v = .slice a l.length c := let ⟨a, c, h, _⟩ := h; ⟨a, c, h⟩
theorem frozen_below {w w' : World} (hb : Below w.heap.size w w') {a : Addr} {v : Value} (h : w.cell? a = some v) (hf : w.frozen? a = false) : w'.frozen? a = false := (hb.frozen (below_of_cell h)).trans hf
end Go.Proofs.YtclhimodopgeoaaGreat

namespace Go.Proofs.YtclhimodopgeoaaGreat
open Go.RowKit

theorem ne_off {b i j : Nat} (h : i ≠ j) : (⟨b, i, none⟩ : Addr) ≠ ⟨b, j, none⟩ := fun e => h (by have := congrArg Addr.off e; exact this)
end Go.Proofs.YtclhimodopgeoaaGreat

namespace Go.Proofs.YtclhimodopgeoaaGreat
open Go.RowKit Go.Shelf

attribute [local go_sem] Oper.semAt_some

theorem range_rev (k : Nat) : (List.range (k + 1)).reverse = k :: (List.range k).reverse := by rw [List.range_succ, List.reverse_append]; rfl

end Go.Proofs.YtclhimodopgeoaaGreat

namespace Go.Proofs.YtclhimodopgeoaaGreat
open Go.RowKit Go.Shelf

attribute [local go_sem] Oper.semAt_some

theorem StsAt.same {w w' : World} {v : Value} {l : List St} (h : StsAt w v l) (hc : ∀ b o u, w.cell? ⟨b, o, none⟩ = some u → w'.cell? ⟨b, o, none⟩ = some u) : StsAt w' v l := by
  obtain ⟨a, cap, rfl, hd⟩ := h
  refine ⟨a, cap, rfl, hd.1, fun h0 => ?_⟩
  obtain ⟨b, off, rfl, hd'⟩ := hd.2 h0
  refine ⟨b, off, rfl, fun j hj => ?_⟩
  have hq := hd' j hj
  exact ⟨hc _ _ _ hq.node, hc _ _ _ hq.tg, hc _ _ _ hq.rel⟩
end Go.Proofs.YtclhimodopgeoaaGreat

namespace Go.Proofs.YtclhimodopgeoaaGreat
open Go.RowKit Go.Shelf

set_option maxRecDepth 100000 in
set_option maxHeartbeats 2000000 in
theorem refUp3_any (T : List Nd) (hm : mayB T = true) (v : Value) (n : Nat) (hn : n < T.length) (w : World) (hT : TreeAt w v T) :
    Calls Tryz.prog 180 #[v, .int .i64 (n : Int)] w fun e w' => ∃ a c, e = .returned (.slice a (castL (pars T n)).length c) ∧ w'.ownsRow w.heap.size 3 1 (.slice a (castL (pars T n)).length c) (castL (pars T n)).length (intCells (castL (pars T n))) ∧ Below w.heap.size w w' := by
  obtain ⟨i3, hi3, hz30, hz31, hz32⟩ := info_parts infoT3
  obtain ⟨tb, to, tc, rfl, hct⟩ := hT.at (by omega)
  have HCT := hideG hct
  have HM := hideG hm
  have hpos := mayB_pos hm
  clear hT hct hm
  go_enter Tryz.func180, Tryz.ntmps180
  go_wp2_with fail
  go_loopw [1, 5] (fun t o wr => ∃ (pre : List Nat) (oa : Option Addr) (oc : Nat), o = .slice oa (castL pre).length oc ∧ wr.ownsRow w.heap.size 3 1 (.slice oa (castL pre).length oc) (castL pre).length (intCells (castL pre)) ∧ Below w.heap.size w wr ∧ ((∃ q : Nat, q < T.length ∧ t = .int .i64 (q : Int) ∧ pars T n = pre ++ pars T q) ∨ (t = .int .i64 (-1) ∧ pars T n = pre)))
    (fun t _ _ => if intOf t = -1 then 0 else (upsL T (intOf t).toNat).length + 1)
  case atStart => exact ⟨[], none, 0, rfl, World.ownsRow_nil _ _ _ _, Below.refl _ _, .inl ⟨n, hn, rfl, rfl⟩⟩
  case round =>
    obtain ⟨pre, oa, oc, rfl, hown, hB, hrel⟩ := hrel
    have HOW := hideG hown
    have HB := hideG hB
    clear hown hB
    rcases hrel with ⟨q, hq, rfl, hp⟩ | ⟨rfl, hp⟩
    · have HP := hideG hp
      have hplen : (castL pre).length ≤ 100 := by
        have h1 := pars_le T n
        rw [hp, List.length_append] at h1
        rw [castL_length]; omega
      have hq1 : ((q : Int) != -1) = true := by simp
      obtain ⟨kv, av, hN⟩ := HCT.out q hq
      have g2 := hN.parent
      have htb : tb < w.heap.size := below_of_cell g2
      clear hp hN
      have hsnoc : castL pre ++ [(q : Int)] = castL (pre ++ [q]) := by simp [castL]
      have HSN := hideG hsnoc
      clear hsnoc
      generalize hcur : castL pre = cur at *
      have hor : ∃ nx : Int, (nd T q).parent = nx ∧ ((∃ m : Nat, m < T.length ∧ nx = (m : Int) ∧ pars T q = q :: pars T m ∧ (upsL T m).length < (upsL T q).length) ∨ (nx = -1 ∧ pars T q = [q])) := by
        rcases parent_cases (mayB_fine HM.out) hq with e | ⟨e, m, hml, hpm⟩
        · exact ⟨-1, by simpa using e, .inr ⟨rfl, pars_none e⟩⟩
        · exact ⟨m, hpm, .inl ⟨m, hml, rfl, pars_some HM.out hq hpm, by rw [(upsL_some HM.out hq (over_of_parent (mayB_fine HM.out) hq hpm)).1]; simp⟩⟩
      obtain ⟨nx, hnx, hor⟩ := hor
      rw [hnx] at g2
      have HOR := hideG hor
      clear hnx hor
      go_wp2_with (at_builtin; refine wpList_append_any rfl (.tmp 8) (.tmp 10) 24 rfl w.heap.size 3 i3 _ 1 8 Tryz.underlying24 hi3 hz30 hz31 hz32 rfl (by decide) _ cur.length (intCells cur) rfl (HOW.out.alloc _) _ 1 [.int .i64 (q : Int)] rfl (row_new1 _ _) rfl ?h2 ?h3 ?h4 ?h5 ?_)
      case h2 => intro y hy; simp at hy; subst hy; rfl
      case h3 => simp only [maxLen]; omega
      case h4 => omega
      case h5 => have := HB.out.size; simp; omega
      intro v4 w4 ho4 hg4 hf4
      obtain ⟨a4, c4, rfl⟩ := ownsRow_shape ho4
      rw [intCells_snoc, HSN.out] at ho4
      have HB4 := hideG ((HB.out.alloc HB.out.size (.cells #[.int .i64 (q : Int)] 3)).grown hg4 (by have := HB.out.size; simp; omega) (fun j e => (HOW.out.lt j e).1))
      have hl4 : (castL (pre ++ [q])).length = cur.length + 1 := by rw [← HSN.out]; simp
      have HL4 := hideG hl4
      have HO4 := hideG ho4
      have g4 := cell_below HB4.out g2
      clear ho4 hg4 hf4 hl4
      go_wp2_with fail
      go_roundw
      case rel =>
        refine ⟨pre ++ [q], a4, c4, by rw [HL4.out], by rw [HL4.out]; exact HO4.out, HB4.out, ?_⟩
        rcases HOR.out with ⟨m, hml, rfl, hpm, _⟩ | ⟨rfl, hpm⟩
        · exact .inl ⟨m, hml, rfl, by rw [HP.out, hpm]; simp⟩
        · exact .inr ⟨rfl, by rw [HP.out, hpm]⟩
      case measure =>
        have h2 : ¬ ((q : Int) = -1) := by omega
        rcases HOR.out with ⟨m, hml, rfl, hpm, hlt⟩ | ⟨rfl, hpm⟩
        · have h1 : ¬ ((m : Int) = -1) := by omega
          simp only [intOf, h1, h2, if_false, Int.toNat_natCast]; omega
        · simp [intOf, h2]
    · have HP := hideG hp
      clear hp
      go_wp2_with fail
      go_ret
      rw [HP.out]
      exact ⟨oa, oc, rfl, HOW.out, HB.out⟩
set_option maxRecDepth 100000 in
set_option maxHeartbeats 2000000 in
theorem refTop3_any (T : List Nd) (hm : mayB T = true) (v : Value) (n : Nat) (hn : n < T.length) (w : World) (hT : TreeAt w v T) :
    Calls Tryz.prog 161 #[v, .int .i64 (n : Int)] w fun e w' => e = .returned (.int .i64 (topN T n : Int)) ∧ Below w.heap.size w w' := by
  obtain ⟨ta, tc, rfl⟩ := hT.shape
  have HT := hideG hT
  have HM := hideG hm
  have hpos := mayB_pos hm
  obtain ⟨_, ⟨ini, hini⟩, _⟩ := sup_split hm hn
  have hlen := pars_le T n
  have HI := hideG hini
  clear hT hm hini
  go_enter Tryz.func161, Tryz.ntmps161
  go_wp2_with (go_at_call 180; refine (refUp3_any T HM.out _ n hn _ HT.out).mono ?_; rintro e w1 ⟨a1, c1, rfl, ho1, hb1⟩; have HB1 := hideG hb1; rw [HI.out] at ho1 ⊢; have hl1 : (castL (ini ++ [topN T n])).length = ini.length + 1 := (by rw [castL_length]; simp); rw [hl1] at ho1 ⊢; obtain ⟨g1, cc1, hg1⟩ := ownsRow_some ho1 (by omega); simp only [Value.slice.injEq, true_and] at hg1; obtain ⟨rfl, rfl⟩ := hg1; have clast : w1.cell? ⟨g1, ini.length, none⟩ = some (.int .i64 (topN T n : Int)) := (by rw [ho1.cellAt ini.length (by omega)]; simp [intCells, castL]); have hil : ini.length ≤ 100 := (by have h1 := congrArg List.length HI.out; simp at h1; omega); clear ho1 hb1 hl1)
  go_ret
  exact ⟨rfl, HB1.out⟩
set_option maxRecDepth 100000 in
set_option maxHeartbeats 1000000 in
theorem refPlace_any (l : List Int) (v : Value) (x : Int) (w : World) (hI : IntsAt w v l) (hl : l.length ≤ 1000000) :
    Calls Tryz.prog 41 #[v, .int .i64 x] w fun e w' => e = .returned (.int .i64 (indexI l x)) ∧ w' = w := by
  obtain ⟨a, cap, rfl, hc⟩ := hI
  have HC := hideG hc
  clear hc
  go_enter Tryz.func41, Tryz.ntmps41
  go_wp2_with fail
  go_loopw [5] (fun i wr => ∃ k : Nat, k ≤ l.length ∧ i = .int .i64 k ∧ wr = w ∧ ∀ j, j < k → (x == l.getD j 0) = false) (fun i _ => l.length - (intOf i).toNat)
  case atStart => exact ⟨0, Nat.zero_le _, rfl, rfl, fun j h => by omega⟩
  case round =>
    obtain ⟨k, hk, rfl, rfl, hno⟩ := hrel
    have HN := hideG hno
    clear hno
    by_cases hlt : k < l.length
    · obtain ⟨b, off, rfl, hd⟩ := HC.out (by omega)
      have c1 := hd k hlt
      clear hd
      cases hx : (x == l.getD k 0)
      · have HX := hideG hx
        have hx' : (l.getD k 0 == x) = false := by
          have : ¬ x = l.getD k 0 := by simpa using hx
          rw [beq_eq_false_iff_ne]; exact fun e => this e.symm
        generalize l.getD k 0 = y at hx' c1
        clear hx
        go_wp2_with fail
        go_roundw
        case rel =>
          refine ⟨k + 1, by omega, by go_num, trivial, fun j hj => ?_⟩
          by_cases e : j = k
          · rw [e]; exact HX.out
          · exact HN.out j (by omega)
        case measure => simp [intOf]; omega
      · have HX := hideG (idx_hit hlt HN.out hx)
        have hx' : (l.getD k 0 == x) = true := by
          have : x = l.getD k 0 := by simpa using hx
          rw [← this]; simp
        generalize l.getD k 0 = y at hx' c1
        clear hx
        go_wp2_with fail
        go_ret
        exact ⟨ret_int (by rw [indexI, HX.out, if_pos hlt]), rfl⟩
    · have hke : k = l.length := by omega
      subst hke
      go_wp2_with fail
      go_ret
      exact ⟨ret_int (by rw [indexI, idx_miss HN.out, if_neg (by omega)]), rfl⟩
set_option maxHeartbeats 800000 in
theorem refIn_any (l : List Int) (v : Value) (x : Int) (w : World) (hI : IntsAt w v l) (hl : l.length ≤ 1000000) :
    Calls Tryz.prog 37 #[v, .int .i64 x] w fun e w' => e = .returned (.bool (containsB l x)) ∧ w' = w := by
  obtain ⟨a, cap, rfl⟩ := hI.shape
  have H := hideG hI
  have HQ := hideG (index_ge (l := l) (x := x))
  clear hI
  go_enter Tryz.func37, Tryz.ntmps37
  go_wp2_with (go_at_call 41; refine (refPlace_any l _ _ _ H.out hl).mono ?_; rintro e w1 ⟨rfl, rfl⟩)
  go_ret
  exact ⟨ret_bool HQ.out, rfl⟩
set_option maxRecDepth 100000 in
set_option maxHeartbeats 4000000 in
theorem refList3_in (T : List Nd) (hm : mayB T = true) (tb to tc : Nat) : ∀ (d n : Nat), n < T.length → T.length < d + (upsL T n).length → ∀ (w : World), TreeAt w (.slice (some ⟨tb, to, none⟩) T.length tc) T →
    Calls Tryz.prog 191 #[.slice (some ⟨tb, to, none⟩) T.length tc, .int .i64 (n : Int)] w fun e w' => ∃ a c, e = .returned (.slice a (castL (dn T n)).length c) ∧ w'.ownsRow w.heap.size 3 1 (.slice a (castL (dn T n)).length c) (castL (dn T n)).length (intCells (castL (dn T n))) ∧ Below w.heap.size w w'
  | 0, n, hn, h => by have := upsL_le T n; omega
  | d + 1, n, hn, hd => by
    intro w hT
    have hF := mayB_fine hm
    obtain ⟨i3, hi3, hz30, hz31, hz32⟩ := info_parts infoT3
    have ih := refList3_in T hm tb to tc d
    have HSTEP := hideG (show ∀ m : Nat, m < T.length → overI (nd T m) = (n : Int) → ∀ (w : World), TreeAt w (.slice (some ⟨tb, to, none⟩) T.length tc) T →
        Calls Tryz.prog 191 #[.slice (some ⟨tb, to, none⟩) T.length tc, .int .i64 (m : Int)] w fun e w' => ∃ a c, e = .returned (.slice a (castL (dn T m)).length c) ∧ w'.ownsRow w.heap.size 3 1 (.slice a (castL (dn T m)).length c) (castL (dn T m)).length (intCells (castL (dn T m))) ∧ Below w.heap.size w w' from fun m hml ho => by
      have hs := (upsL_some hm hml ho).1
      exact ih m hml (by rw [hs, List.length_cons]; omega))
    have hdl : (dn T n).length ≤ T.length := (forest3 hm).d_len hn
    have hdq : ∀ q, q < T.length → (dn T q).length ≤ T.length := fun q hq => (forest3 hm).d_len hq
    have hdn := dn_eq hm hn
    have hpos := mayB_pos hm
    obtain ⟨tb', to', tc', htv, hct⟩ := hT.at (by omega)
    simp only [Value.slice.injEq, Option.some.injEq, Addr.mk.injEq, and_true, true_and] at htv
    obtain ⟨⟨rfl, rfl⟩, rfl⟩ := htv
    obtain ⟨kv, av, hN⟩ := hct n hn
    obtain ⟨kka, kkc, hkv⟩ := hN.kids.shape
    subst hkv
    have HKC : Hid (0 < (nd T n).kids.length → ∃ b off, kka = some ⟨b, off, none⟩ ∧ ∀ j, j < (nd T n).kids.length → w.cell? ⟨b, off + j, none⟩ = some (.int .i64 ((nd T n).kids.getD j 0))) := by
      obtain ⟨a', cap', hv', hd'⟩ := hN.kids
      simp only [Value.slice.injEq, true_and] at hv'
      obtain ⟨rfl, rfl⟩ := hv'
      exact hd'
    have G3 := hideG hN.kidsc
    have HT := hideG hT
    have HFi := hideG hF
    have HDN := hideG hdn
    have HDQ := hideG hdq
    have h64 := fine_short hF hn
    have hdlN : (n :: (nd T n).kids.flatMap fun x => dn T x.toNat).length ≤ 64 := by rw [← hdn]; omega
    clear ih hdn hct hT hm hF hd hN hdl hdq
    go_enter Tryz.func191, Tryz.ntmps191
    go_wp2_with fail
    go_loopw [5, 6] (fun o i wr => ∃ (k : Nat) (oa : Option Addr) (oc : Nat), k ≤ (nd T n).kids.length ∧ i = .int .i64 k ∧ o = .slice oa (castL (n :: ((nd T n).kids.take k).flatMap fun x => dn T x.toNat)).length oc ∧ wr.ownsRow w.heap.size 3 1 (.slice oa (castL (n :: ((nd T n).kids.take k).flatMap fun x => dn T x.toNat)).length oc) (castL (n :: ((nd T n).kids.take k).flatMap fun x => dn T x.toNat)).length (intCells (castL (n :: ((nd T n).kids.take k).flatMap fun x => dn T x.toNat))) ∧ Below w.heap.size w wr) (fun _ i _ => (nd T n).kids.length - (intOf i).toNat)
    case atStart => exact ⟨0, some ⟨w.heap.size, 0, none⟩, 1, Nat.zero_le _, rfl, by simp [castL], by simpa [castL] using ownsRow_new1 w n, (Below.refl _ w).alloc (Nat.le_refl _) _⟩
    case round =>
      obtain ⟨k, oa, oc, hk, rfl, rfl, hown, hB⟩ := hrel
      have HOk := hideG hown
      have HBk := hideG hB
      have g3 := cell_below hB G3.out
      clear hown hB
      by_cases hlt : k < (nd T n).kids.length
      · obtain ⟨kb, koff, rfl, hdd⟩ := HKC.out (by omega)
        have c1 := cell_below HBk.out (hdd k hlt)
        have hst := flat_take hlt (fun x => dn T x.toNat)
        have hle := flat_le (l := (nd T n).kids) (k + 1) (fun x => dn T x.toNat)
        have hxk : (nd T n).kids.getD k 0 ∈ (nd T n).kids := by
          rw [List.getD_eq_getElem?_getD, List.getElem?_eq_getElem hlt]; exact List.getElem_mem hlt
        obtain ⟨m, hxm, hml, ho⟩ := over_kid HFi.out hn hxk
        rw [hxm] at c1
        rw [hxm, Int.toNat_natCast] at hst
        have hbnd : (castL (n :: ((nd T n).kids.take k).flatMap fun x => dn T x.toNat)).length + (castL (dn T m)).length ≤ 64 := by
          rw [hst, List.length_append] at hle
          simp only [castL_length, List.length_cons] at hdlN ⊢
          omega
        have he : castL (n :: ((nd T n).kids.take k).flatMap fun x => dn T x.toNat) ++ castL (dn T m) = castL (n :: ((nd T n).kids.take (k + 1)).flatMap fun x => dn T x.toNat) := by
          rw [hst]; simp [castL]
        have HE := hideG he
        clear hdd hst hle hxk hxm he
        generalize hcur : castL (n :: ((nd T n).kids.take k).flatMap fun x => dn T x.toNat) = cur at *
        clear hcur
        go_wp2_with (first | (go_at_call 191; refine (HSTEP.out m hml ho _ (HT.out.below HBk.out)).mono ?_; rintro e w7 ⟨a7, c7, rfl, ho7, hb7⟩; have HO7 := hideG ho7; have HB7 := hideG (HBk.out.trans (hb7.mono HBk.out.size)); have HOA := hideG (ownsRow_below HOk.out hb7 (fun j e => (HOk.out.lt j e).2)); generalize hsub : castL (dn T m) = sub at *; clear ho7 hb7 hsub) | (at_builtin; refine wpList_append_any rfl (.tmp 19) (.tmp 29) 24 rfl w.heap.size 3 i3 _ 1 8 Tryz.underlying24 hi3 hz30 hz31 hz32 rfl (by decide) _ cur.length (intCells cur) rfl HOA.out _ sub.length (intCells sub) rfl (ints_holds (ownsRow_ints HO7.out)) (intCells_length _) (intCells_one _) ?h3 ?h4 ?h5 ?_))
        case h3 => simp only [maxLen]; omega
        case h4 => omega
        case h5 => exact HB7.out.size
        intro v4 w4 ho4 hg4 hf4
        have ecells : intCells cur ++ intCells sub = intCells (cur ++ sub) := by simp [intCells]
        rw [ecells, HE.out] at ho4
        have hl4 : (castL (n :: ((nd T n).kids.take (k + 1)).flatMap fun x => dn T x.toNat)).length = cur.length + sub.length := by rw [← HE.out, List.length_append]
        obtain ⟨a4, c4, rfl⟩ := ownsRow_shape ho4
        have HB4 := hideG (HB7.out.grown hg4 HB7.out.size (fun j e => (HOA.out.lt j e).1))
        have HO4 := hideG ho4
        have HL4 := hideG hl4
        clear ho4 hg4 hf4 hl4 ecells
        go_wp2_with fail
        go_roundw
        case rel =>
          exact ⟨k + 1, a4, c4, by omega, by go_num, by rw [HL4.out], by rw [HL4.out]; exact HO4.out, HB4.out⟩
        case measure => simp [intOf]; omega
      · have hke : k = (nd T n).kids.length := by omega
        subst hke
        rw [List.take_length, ← HDN.out] at HOk ⊢
        go_wp2_with fail
        go_ret
        exact ⟨oa, oc, rfl, HOk.out, HBk.out⟩
theorem refList3_any (T : List Nd) (hm : mayB T = true) (v : Value) (n : Nat) (hn : n < T.length) (w : World) (hT : TreeAt w v T) :
    Calls Tryz.prog 191 #[v, .int .i64 (n : Int)] w fun e w' => ∃ a c, e = .returned (.slice a (castL (dn T n)).length c) ∧ w'.ownsRow w.heap.size 3 1 (.slice a (castL (dn T n)).length c) (castL (dn T n)).length (intCells (castL (dn T n))) ∧ Below w.heap.size w w' := by
  obtain ⟨tb, to, tc, rfl, _⟩ := hT.at (by omega)
  exact refList3_in T hm tb to tc (T.length + 1) n hn (by omega) w hT
set_option maxRecDepth 100000 in
set_option maxHeartbeats 2000000 in
theorem refGet_any (T : List Nd) (hS : Sane T) (v : Value) (n nm : Int) (w : World) (hT : TreeAt w v T) :
    Calls Tryz.prog 109 #[v, .int .i64 n, .int .i64 nm] w fun e w' => e = .returned (.tuple #[.int .i64 (refGetL T n nm).1, .bool (refGetL T n nm).2]) ∧ w' = w := by
  have HT := hideG hT
  obtain ⟨a, cap, rfl⟩ := hT.shape
  clear hT
  cases hi : isNodeB T.length n
  · have hR : refGetL T n nm = (0, false) := by rw [refGetL, hi]; rfl
    go_enter Tryz.func109, Tryz.ntmps109
    go_wp2_with (go_at_call 47; refine (refIs_any _ _ _ _ _).mono ?_; rw [hi]; rintro e w1 ⟨rfl, rfl⟩)
    go_ret2
    exact ⟨ret_ib (by rw [hR]) (by rw [hR]), rfl⟩
  · obtain ⟨k, rfl, hk⟩ := isNodeB_true hi
    have HR := hideG (show refGetL T (k : Int) nm = firstL nm (nd T k).attrs by rw [refGetL, hi, if_pos rfl, Int.toNat_natCast])
    obtain ⟨b, off, cap2, hv, hc⟩ := HT.out.at (by omega)
    obtain ⟨rfl, rfl⟩ : a = some ⟨b, off, none⟩ ∧ cap = cap2 := by simpa using hv
    obtain ⟨kv, av, hN⟩ := hc k hk
    have c6 := hN.attrsc
    obtain ⟨aa, ac, rfl, hac⟩ := hN.attrs
    have hl := (hS k hk).2
    have HC := hideG hac
    clear hN hc hv hac hS
    generalize (nd T k).attrs = l at *
    go_enter Tryz.func109, Tryz.ntmps109
    go_wp2_with (go_at_call 47; refine (refIs_any _ _ _ _ _).mono ?_; rw [hi]; rintro e w1 ⟨rfl, rfl⟩)
    go_loopw [8] (fun i wr => ∃ j : Nat, j ≤ l.length ∧ i = .int .i64 j ∧ wr = w1 ∧ Hid (firstL nm (l.drop j) = firstL nm l)) (fun i _ => l.length - (intOf i).toNat)
    case atStart => exact ⟨0, Nat.zero_le _, rfl, rfl, rfl⟩
    case round =>
      obtain ⟨j, hj, rfl, rfl, HF⟩ := hrel
      by_cases hlt : j < l.length
      · obtain ⟨ab, aoff, rfl, hd⟩ := HC.out (by omega)
        obtain ⟨c1, c2⟩ := hd j hlt
        have HS := hideG (first_drop hlt nm)
        clear hd
        generalize l.getD j (0, 0) = A at *
        obtain ⟨p, q⟩ := A
        dsimp only at c1 c2 HS
        cases hx : (p == nm)
        · have HF2 := hideG (show firstL nm (l.drop (j + 1)) = firstL nm l by rw [← HF.out, HS.out, hx]; rfl)
          go_wp2_with fail
          go_roundw
          case rel => exact ⟨j + 1, by omega, by go_num, trivial, HF2.out⟩
          case measure => simp [intOf]; omega
        · have HF2 := hideG (show firstL nm l = (q, true) by rw [← HF.out, HS.out, hx]; rfl)
          go_wp2_with fail
          go_ret2
          exact ⟨ret_ib (by rw [HR.out, HF2.out]) (by rw [HR.out, HF2.out]), rfl⟩
      · have HF2 := hideG (show firstL nm l = (0, false) by rw [← HF.out, List.drop_eq_nil_of_le (by omega)]; rfl)
        go_wp2_with fail
        go_ret2
        exact ⟨ret_ib (by rw [HR.out, HF2.out]) (by rw [HR.out, HF2.out]), rfl⟩
theorem refHas_any (T : List Nd) (hS : Sane T) (v : Value) (n nm : Int) (w : World) (hT : TreeAt w v T) :
    Calls Tryz.prog 61 #[v, .int .i64 n, .int .i64 nm] w fun e w' => e = .returned (.bool (refGetL T n nm).2) ∧ w' = w := by
  have HG := hideG (refGet_any T hS v n nm w hT)
  obtain ⟨a, cap, rfl⟩ := hT.shape
  clear hT
  go_enter Tryz.func61, Tryz.ntmps61
  go_wp2_with (go_at_call 109; refine Calls.mono HG.out ?_; rintro e w1 ⟨rfl, rfl⟩)
  go_ret
  exact ⟨rfl, rfl⟩
set_option maxHeartbeats 800000 in
theorem refName_any (T : List Nd) (hm : mayB T = true) (hS : Sane T) (v : Value) (n : Int) (w : World) (hT : TreeAt w v T) :
    Calls Tryz.prog 182 #[v, .int .i64 n] w fun e w' => e = .returned (.int .i64 (nameI T n)) ∧ w' = w := by
  obtain ⟨a, cap, rfl⟩ := hT.shape
  have HT := hideG hT
  have HS := hideG hS
  have HQ := hideG (show (refGetL T n 4).1 = nameI T n by rw [refGet_eq hm]; rfl)
  clear hT hS hm
  go_enter Tryz.func182, Tryz.ntmps182
  go_wp2_with (go_at_call 109; refine (refGet_any T HS.out _ _ _ _ HT.out).mono ?_; rintro e w1 ⟨rfl, hw⟩; subst hw)
  go_ret
  exact ⟨ret_int HQ.out, rfl⟩
set_option maxRecDepth 100000 in
set_option maxHeartbeats 1000000 in
theorem refIs5_any (T : List Nd) (hm : mayB T = true) (v : Value) (n : Nat) (hn : n < T.length) (w : World) (hT : TreeAt w v T) :
    Calls Tryz.prog 160 #[v, .int .i64 (n : Int)] w fun e w' => e = .returned (.bool (isSlotB T n)) ∧ Below w.heap.size w w' := by
  obtain ⟨tb, to, tc, rfl, hct⟩ := hT.at (by omega)
  have htl := top_lt hm hn
  obtain ⟨kv, av, hN⟩ := hct n hn
  obtain ⟨kv', av', hN'⟩ := hct _ htl
  have g0 := hN.kind
  have g1 := hN.tag
  have G2 := hideG hN'.kind
  have HT := hideG hT
  have HM := hideG hm
  have hpos := mayB_pos hm
  have hn0 : (0 : Int) ≤ (n : Int) := by omega
  have ht0 : (0 : Int) ≤ (topN T n : Int) := by omega
  clear hT hm hct hN hN'
  cases h1 : ((nd T n).kind == 1)
  · have HQ := hideG (show isSlotB T n = false by simp [isSlotB, h1])
    go_enter Tryz.func160, Tryz.ntmps160
    go_wp2_with fail
    go_ret
    exact ⟨ret_bool HQ.out.symm, Below.refl _ _⟩
  · cases h2 : ((nd T n).tag == 3)
    · have HQ := hideG (show isSlotB T n = false by simp [isSlotB, h2])
      go_enter Tryz.func160, Tryz.ntmps160
      go_wp2_with fail
      go_ret
      exact ⟨ret_bool HQ.out.symm, Below.refl _ _⟩
    · have HQ := hideG (show isSlotB T n = ((nd T (topN T n)).kind == 3) by simp [isSlotB, h1, h2])
      go_enter Tryz.func160, Tryz.ntmps160
      go_wp2_with (go_at_call 161; refine (refTop3_any T HM.out _ n hn _ HT.out).mono ?_; rintro e w1 ⟨rfl, hb1⟩; have HB1 := hideG hb1; have g2 := cell_below hb1 G2.out; clear hb1)
      go_ret
      exact ⟨ret_bool HQ.out.symm, HB1.out⟩
set_option maxRecDepth 100000 in
set_option maxHeartbeats 2000000 in
theorem refAll5_any (T : List Nd) (hm : mayB T = true) (v : Value) (r : Nat) (hr : r < T.length) (hk3 : (nd T r).kind = 3) (w : World) (hT : TreeAt w v T) :
    Calls Tryz.prog 181 #[v, .int .i64 (r : Int)] w fun e w' => ∃ a c, e = .returned (.slice a (castL (slotsN T r)).length c) ∧ w'.ownsRow w.heap.size 3 1 (.slice a (castL (slotsN T r)).length c) (castL (slotsN T r)).length (intCells (castL (slotsN T r))) ∧ Below w.heap.size w w' := by
  obtain ⟨i3, hi3, hz30, hz31, hz32⟩ := info_parts infoT3
  obtain ⟨tb, to, tc, rfl, hct⟩ := hT.at (by omega)
  obtain ⟨kv, av, hN⟩ := hct r hr
  have g0 := hN.kind
  rw [hk3] at g0
  have HT := hideG hT
  have HM := hideG hm
  have hdl := (forest3 hm).d_len hr
  have hpos := mayB_pos hm
  have HSB := hideG (show ∀ x ∈ dn T r, x < T.length ∧ isSlotB T x = ((nd T x).tag == 3) from fun x hx => slot_below hm hr hk3 hx)
  have HLEN := hideG (castL_length (dn T r))
  have hr0 : (0 : Int) ≤ (r : Int) := by omega
  clear hT hm hct hN
  go_enter Tryz.func181, Tryz.ntmps181
  go_wp2_with fail
  refine (refList3_any T HM.out _ r hr _ HT.out).mono ?_
  rintro e w2 ⟨a2, c2, rfl, ho2, hb2⟩
  have HL := hideG (ownsRow_ints ho2)
  rw [HLEN.out] at HL ⊢
  have HB2 := hideG hb2
  have HT2 := hideG (HT.out.below hb2)
  clear ho2 hb2 g0
  go_wp2_with fail
  go_loopw [5, 7] (fun o i wr => ∃ (k : Nat) (oa : Option Addr) (oc : Nat), k ≤ (dn T r).length ∧ i = .int .i64 k ∧ o = .slice oa (castL (((dn T r).take k).filter fun n => (nd T n).tag == 3)).length oc ∧ wr.ownsRow w2.heap.size 3 1 (.slice oa (castL (((dn T r).take k).filter fun n => (nd T n).tag == 3)).length oc) (castL (((dn T r).take k).filter fun n => (nd T n).tag == 3)).length (intCells (castL (((dn T r).take k).filter fun n => (nd T n).tag == 3))) ∧ Below w2.heap.size w2 wr) (fun _ i _ => (dn T r).length - (intOf i).toNat)
  case atStart => exact ⟨0, none, 0, Nat.zero_le _, rfl, rfl, World.ownsRow_nil _ _ _ _, Below.refl _ _⟩
  case round =>
    obtain ⟨k, oa, oc, hk, rfl, rfl, hown, hB⟩ := hrel
    have HOk := hideG hown
    have HBk := hideG hB
    clear hown hB
    by_cases hlt : k < (dn T r).length
    · obtain ⟨_, _, hsh, hd⟩ := HL.out.below HBk.out
      simp only [Value.slice.injEq] at hsh
      obtain ⟨rfl, hsq, rfl⟩ := hsh
      clear hsq
      obtain ⟨lb, loff, rfl, hdd⟩ := hd (by rw [HLEN.out]; omega)
      have c1 := hdd k (by rw [HLEN.out]; exact hlt)
      rw [castL_getD _ hlt] at c1
      obtain ⟨hxl, hsb⟩ := HSB.out _ (getD_mem hlt)
      have hft := filter_take hlt (fun n => (nd T n).tag == 3)
      have hcb : (castL (((dn T r).take k).filter fun n => (nd T n).tag == 3)).length ≤ 64 := by
        rw [castL_length]
        have h1 := List.length_filter_le (fun n => (nd T n).tag == 3) ((dn T r).take k)
        have h2 : ((dn T r).take k).length ≤ (dn T r).length := List.length_take_le' ..
        omega
      generalize (dn T r).getD k 0 = x at *
      have hx0 : (0 : Int) ≤ (x : Int) := by omega
      clear hd hdd
      cases htg : ((nd T x).tag == 3)
      · have he : castL (((dn T r).take (k + 1)).filter fun n => (nd T n).tag == 3) = castL (((dn T r).take k).filter fun n => (nd T n).tag == 3) := by
          rw [hft, htg]; simp
        rw [htg] at hsb
        have HSX := hideG hsb
        have HE := hideG he
        clear he hft hsb htg
        generalize castL (((dn T r).take k).filter fun n => (nd T n).tag == 3) = cur at *
        go_wp2_with (go_at_call 160; refine (refIs5_any T HM.out _ x hxl _ (HT2.out.below HBk.out)).mono ?_; rintro e w5 ⟨rfl, hb5⟩; rw [HSX.out]; have HB5 := hideG (HBk.out.trans (hb5.mono HBk.out.size)); have HO5 := hideG (ownsRow_below HOk.out hb5 (fun j e => (HOk.out.lt j e).2)); clear hb5)
        go_roundw
        case rel => exact ⟨k + 1, oa, oc, by omega, by go_num, by rw [HE.out], by rw [HE.out]; exact HO5.out, HB5.out⟩
        case measure => simp [intOf]; omega
      · have he : castL (((dn T r).take (k + 1)).filter fun n => (nd T n).tag == 3) = castL (((dn T r).take k).filter fun n => (nd T n).tag == 3) ++ [(x : Int)] := by
          rw [hft, htg]; simp [castL]
        rw [htg] at hsb
        have HSX := hideG hsb
        have HE := hideG he
        clear he hft hsb htg
        generalize castL (((dn T r).take k).filter fun n => (nd T n).tag == 3) = cur at *
        go_wp2_with (first | (go_at_call 160; refine (refIs5_any T HM.out _ x hxl _ (HT2.out.below HBk.out)).mono ?_; rintro e w5 ⟨rfl, hb5⟩; rw [HSX.out]; have HB5 := hideG (HBk.out.trans (hb5.mono HBk.out.size)); have HO5 := hideG (ownsRow_below HOk.out hb5 (fun j e => (HOk.out.lt j e).2)); have c1' := cell_below hb5 c1; clear hb5) | (at_builtin; refine wpList_append_any rfl (.tmp 30) (.tmp 35) 24 rfl w2.heap.size 3 i3 _ 1 8 Tryz.underlying24 hi3 hz30 hz31 hz32 rfl (by decide) _ cur.length (intCells cur) rfl (HO5.out.alloc _) _ 1 [.int .i64 (x : Int)] rfl (row_new1 _ _) rfl ?h2 ?h3 ?h4 ?h5 ?_))
        case h2 => intro y hy; simp at hy; subst hy; rfl
        case h3 => simp only [maxLen]; omega
        case h4 => omega
        case h5 => have := HB5.out.size; simp; omega
        intro v4 w4 ho4 hg4 hf4
        obtain ⟨a4, c4, rfl⟩ := ownsRow_shape ho4
        rw [intCells_snoc] at ho4
        have HB4 := hideG ((HB5.out.alloc HB5.out.size (.cells #[.int .i64 (x : Int)] 3)).grown hg4 (by have := HB5.out.size; simp; omega) (fun j e => (HO5.out.lt j e).1))
        have hl4 : (cur ++ [(x : Int)]).length = cur.length + 1 := by simp
        have HL4 := hideG hl4
        have HO4 := hideG ho4
        clear ho4 hg4 hf4 hl4
        go_wp2_with fail
        go_roundw
        case rel => exact ⟨k + 1, a4, c4, by omega, by go_num, by rw [HE.out, HL4.out], by rw [HE.out, HL4.out]; exact HO4.out, HB4.out⟩
        case measure => simp [intOf]; omega
    · have hke : (dn T r).take k = dn T r := List.take_of_length_le (by omega)
      rw [hke] at HOk ⊢
      have HBE := hideG (HB2.out.trans (HBk.out.mono HB2.out.size))
      have HOE := hideG (show wr.ownsRow w.heap.size 3 1 _ _ _ from ownsRow_base HOk.out HB2.out.size)
      clear hke
      go_wp2_with fail
      go_ret
      exact ⟨oa, oc, rfl, HOE.out, HBE.out⟩
set_option maxRecDepth 100000 in
set_option maxHeartbeats 4000000 in
theorem refOf5_any (T : List Nd) (hm : mayB T = true) (hS : Sane T) (v : Value) (n : Nat) (hn : n < T.length) (w : World) (hT : TreeAt w v T) :
    Calls Tryz.prog 162 #[v, .int .i64 (n : Int)] w fun e w' => e = .returned (.int .i64 (ofN T n)) ∧ Below w.heap.size w w' := by
  obtain ⟨tb, to, tc, rfl, hct⟩ := hT.at (by omega)
  obtain ⟨kv, av, hN⟩ := hct n hn
  have HT := hideG hT
  have HS := hideG hS
  have HM := hideG hm
  have hpos := mayB_pos hm
  have hn0 : (0 : Int) ≤ (n : Int) := by omega
  rcases parent_cases (mayB_fine hm) hn with e | ⟨e, p, hpl, hpm⟩
  · have hp : (nd T n).parent = -1 := by simpa using e
    have HQ := hideG (show ofN T n = -1 by simp [ofN, hp])
    have g2 := hN.parent
    rw [hp] at g2
    clear hT hS hct hN hm e hp
    go_enter Tryz.func162, Tryz.ntmps162
    go_wp2_with fail
    go_ret
    exact ⟨ret_int HQ.out.symm, Below.refl _ _⟩
  · have g2 := hN.parent
    rw [hpm] at g2
    obtain ⟨kv', av', hP⟩ := hct p hpl
    have hpn : ((p : Int) == -1) = false := by simp
    have hp0 : (0 : Int) ≤ (p : Int) := by omega
    cases hr : ((nd T p).root == -1)
    · obtain ⟨q, hrq, hql, hq3, _⟩ := root_facts (mayB_fine hm) hpl hr
      have HQ0 := hideG (show ofN T n = placeI T q (n : Int) by
        unfold ofN; rw [e, hpm, Int.toNat_natCast, hr, hrq, Int.toNat_natCast]; rfl)
      have g5 := hP.root
      rw [hrq] at g5
      have hqn : ((q : Int) == -1) = false := by simp
      have hsl := slotsN_le hm hql
      have HCL := hideG (castL_length (slotsN T q))
      have HLT := hideG (show ∀ x ∈ slotsN T q, x < T.length from fun x hx => (forest3 hm).d_lt hql (List.mem_filter.mp hx).1)
      have HMB := hideG (show (refGetL T (q : Int) 8).2 = manB T (q : Int) by rw [refGet_eq hm]; rfl)
      have HG9 := hideG (show refGetL T (n : Int) 9 = getL T (n : Int) 9 from refGet_eq hm _ _)
      clear hT hS hct hN hm e hpm hP hr hrq
      cases hman : manB T (q : Int)
      · have HQ := hideG (HQ0.out.trans (place_nam hman))
        rw [hman] at HMB
        clear hman
        go_enter Tryz.func162, Tryz.ntmps162
        go_wp2_with fail
        refine (refAll5_any T HM.out _ q hql hq3 _ HT.out).mono ?_
        rintro e w2 ⟨a2, c2, rfl, ho2, hb2⟩
        have HL := hideG (ownsRow_ints ho2)
        rw [HCL.out] at HL ⊢
        have HB2 := hideG hb2
        have HT2 := hideG (HT.out.below hb2)
        clear ho2 hb2 g2 g5
        go_wp2_with fail
        refine (refHas_any T HS.out _ _ _ _ HT2.out).mono ?_
        rintro e w3 ⟨rfl, hw3⟩
        subst hw3
        rw [HMB.out]
        go_wp2_with fail
        go_loopw [10] (fun i wr => ∃ k : Nat, k ≤ (slotsN T q).length ∧ i = .int .i64 k ∧ wr = w3 ∧ ∀ j, j < k → (nameI T (n : Int) == (namesI T q).getD j 0) = false) (fun i _ => (slotsN T q).length - (intOf i).toNat)
        case atStart => exact ⟨0, Nat.zero_le _, rfl, rfl, fun j h => by omega⟩
        case round =>
          obtain ⟨k, hk, rfl, rfl, hno⟩ := hrel
          have HN := hideG hno
          clear hno
          by_cases hlt : k < (slotsN T q).length
          · obtain ⟨_, _, hsh, hd⟩ := HL.out
            simp only [Value.slice.injEq] at hsh
            obtain ⟨rfl, hsq, rfl⟩ := hsh
            clear hsq
            obtain ⟨lb, loff, rfl, hdd⟩ := hd (by rw [HCL.out]; omega)
            have c1 := hdd k (by rw [HCL.out]; exact hlt)
            rw [castL_getD _ hlt] at c1
            have hxl := HLT.out _ (getD_mem hlt)
            have hnk := names_getD hlt
            have HLQ := hideG (show (castL (slotsN T q)).getD k 0 = (((slotsN T q).getD k 0 : Nat) : Int) from castL_getD _ hlt)
            generalize (slotsN T q).getD k 0 = x at *
            have hx0 : (0 : Int) ≤ (x : Int) := by omega
            clear hd hdd
            cases heq : (nameI T (n : Int) == (namesI T q).getD k 0)
            · have HX := hideG heq
              have hxe : (nameI T (x : Int) == nameI T (n : Int)) = false := by
                rw [hnk] at heq
                have : ¬ nameI T (n : Int) = nameI T (x : Int) := by simpa using heq
                rw [beq_eq_false_iff_ne]; exact fun e => this e.symm
              clear heq hnk
              go_wp2_with (go_at_call 182; refine (refName_any T HM.out HS.out _ _ _ HT2.out).mono ?_; rintro e w5 ⟨rfl, hw5⟩; subst hw5)
              go_roundw
              case rel =>
                refine ⟨k + 1, by omega, by go_num, trivial, fun j hj => ?_⟩
                by_cases ejk : j = k
                · rw [ejk]; exact HX.out
                · exact HN.out j (by omega)
              case measure => simp [intOf]; omega
            · have hix := idx_hit (x := nameI T (n : Int)) (l := namesI T q) (k := k) (by rw [namesI_len]; exact hlt) HN.out heq
              have HV := hideG (show ofN T n = (x : Int) by
                have hi2 : indexI (namesI T q) (nameI T (n : Int)) = (k : Int) := by unfold indexI; rw [hix, if_pos (by rw [namesI_len]; exact hlt)]
                rw [HQ.out]
                unfold byNameI
                rw [hi2, if_neg (by omega), Int.toNat_natCast]
                exact HLQ.out)
              have hxe : (nameI T (x : Int) == nameI T (n : Int)) = true := by
                rw [hnk] at heq
                have : nameI T (n : Int) = nameI T (x : Int) := by simpa using heq
                rw [this]; simp
              clear heq hnk hix
              go_wp2_with (go_at_call 182; refine (refName_any T HM.out HS.out _ _ _ HT2.out).mono ?_; rintro e w5 ⟨rfl, hw5⟩; subst hw5)
              go_ret
              exact ⟨ret_int HV.out.symm, HB2.out⟩
          · have hix := idx_miss (x := nameI T (n : Int)) (l := namesI T q) (fun j hj => HN.out j (by rw [namesI_len] at hj; omega))
            have HV := hideG (show ofN T n = -1 by
              have hi2 : indexI (namesI T q) (nameI T (n : Int)) = -1 := by unfold indexI; rw [hix, if_neg (by omega)]
              rw [HQ.out]
              unfold byNameI
              rw [hi2]; rfl)
            clear hix
            go_wp2_with fail
            go_ret
            exact ⟨ret_int HV.out.symm, HB2.out⟩
      · have HQ := hideG (HQ0.out.trans (place_man hman))
        rw [hman] at HMB
        clear hman
        cases hg2 : (getL T (n : Int) 9).2
        · have HV := hideG (show ofN T n = -1 by rw [HQ.out]; unfold byNumI; rw [hg2]; rfl)
          have HG2 := hideG hg2
          clear hg2
          go_enter Tryz.func162, Tryz.ntmps162
          go_wp2_with fail
          refine (refAll5_any T HM.out _ q hql hq3 _ HT.out).mono ?_
          rintro e w2 ⟨a2, c2, rfl, ho2, hb2⟩
          have HB2 := hideG hb2
          have HT2 := hideG (HT.out.below hb2)
          clear ho2 hb2 g2 g5
          go_wp2_with fail
          refine (refHas_any T HS.out _ _ _ _ HT2.out).mono ?_
          rintro e w3 ⟨rfl, hw3⟩
          subst hw3
          rw [HMB.out]
          go_wp2_with fail
          refine (refGet_any T HS.out _ _ _ _ HT2.out).mono ?_
          rintro e w3 ⟨rfl, hw3⟩
          subst hw3
          rw [HG9.out, HG2.out]
          go_wp2_with fail
          go_ret
          exact ⟨ret_int HV.out.symm, HB2.out⟩
        · cases hcn : containsB (castL (slotsN T q)) (getL T (n : Int) 9).1
          all_goals
            have HV := hideG (show ofN T n = (if containsB (castL (slotsN T q)) (getL T (n : Int) 9).1 then (getL T (n : Int) 9).1 else -1) by rw [HQ.out]; unfold byNumI; rw [hg2]; rfl)
            rw [hcn] at HV
            have HG2 := hideG hg2
            have HCN := hideG hcn
            clear hg2 hcn
            go_enter Tryz.func162, Tryz.ntmps162
            go_wp2_with fail
            refine (refAll5_any T HM.out _ q hql hq3 _ HT.out).mono ?_
            rintro e w2 ⟨a2, c2, rfl, ho2, hb2⟩
            have HL := hideG (ownsRow_ints ho2)
            have HB2 := hideG hb2
            have HT2 := hideG (HT.out.below hb2)
            have HLL := hideG (show (castL (slotsN T q)).length ≤ 1000000 by rw [HCL.out]; omega)
            clear ho2 hb2 g2 g5
            generalize castL (slotsN T q) = LL at *
            go_wp2_with fail
            refine (refHas_any T HS.out _ _ _ _ HT2.out).mono ?_
            rintro e w3 ⟨rfl, hw3⟩
            subst hw3
            rw [HMB.out]
            go_wp2_with fail
            refine (refGet_any T HS.out _ _ _ _ HT2.out).mono ?_
            rintro e w3 ⟨rfl, hw3⟩
            subst hw3
            rw [HG9.out, HG2.out]
            generalize (getL T (n : Int) 9).1 = gv at *
            go_wp2_with fail
            refine (refIn_any LL _ _ _ HL.out HLL.out).mono ?_
            rintro e w3 ⟨rfl, hw3⟩
            subst hw3
            rw [HCN.out]
            go_wp2_with fail
            go_ret
            exact ⟨ret_int HV.out.symm, HB2.out⟩
    · have hr1 : (nd T p).root = -1 := by simpa using hr
      have HQ := hideG (show ofN T n = -1 by unfold ofN; rw [e, hpm, Int.toNat_natCast, hr]; rfl)
      have g5 := hP.root
      rw [hr1] at g5
      clear hT hS hct hN hm e hpm hP hr hr1
      go_enter Tryz.func162, Tryz.ntmps162
      go_wp2_with fail
      go_ret
      exact ⟨ret_int HQ.out.symm, Below.refl _ _⟩
set_option maxRecDepth 100000 in
set_option maxHeartbeats 2000000 in
theorem refUp4_any (T : List Nd) (hm : mayB T = true) (v : Value) (n : Nat) (hn : n < T.length) (w : World) (hT : TreeAt w v T) :
    Calls Tryz.prog 172 #[v, .int .i64 (n : Int)] w fun e w' => ∃ a c, e = .returned (.slice a (castL (supN T n)).length c) ∧ w'.ownsRow w.heap.size 3 1 (.slice a (castL (supN T n)).length c) (castL (supN T n)).length (intCells (castL (supN T n))) ∧ Below w.heap.size w w' := by
  obtain ⟨i3, hi3, hz30, hz31, hz32⟩ := info_parts infoT3
  obtain ⟨tb, to, tc, rfl, hct⟩ := hT.at (by omega)
  have HT := hideG hT
  have HM := hideG hm
  have hpos := mayB_pos hm
  clear hT hct hm
  go_enter Tryz.func172, Tryz.ntmps172
  go_wp2_with fail
  go_loopw [1, 5] (fun t o wr => ∃ (pre : List Nat) (oa : Option Addr) (oc : Nat), o = .slice oa (castL pre).length oc ∧ wr.ownsRow w.heap.size 3 1 (.slice oa (castL pre).length oc) (castL pre).length (intCells (castL pre)) ∧ Below w.heap.size w wr ∧ ((∃ q : Nat, q < T.length ∧ t = .int .i64 (q : Int) ∧ supN T n = pre ++ supN T q) ∨ (t = .int .i64 (-1) ∧ supN T n = pre)))
    (fun t _ _ => if intOf t = -1 then 0 else (upsL T (intOf t).toNat).length + 1)
  case atStart => exact ⟨[], none, 0, rfl, World.ownsRow_nil _ _ _ _, Below.refl _ _, .inl ⟨n, hn, rfl, rfl⟩⟩
  case round =>
    obtain ⟨pre, oa, oc, rfl, hown, hB, hrel⟩ := hrel
    have HOW := hideG hown
    have HB := hideG hB
    clear hown hB
    rcases hrel with ⟨q, hq, rfl, hp⟩ | ⟨rfl, hp⟩
    · have HP := hideG hp
      have hplen : (castL pre).length ≤ 100 := by
        have h1 := supN_le T n
        rw [hp, List.length_append] at h1
        rw [castL_length]; omega
      have hq1 : ((q : Int) != -1) = true := by simp
      clear hp
      have hsnoc : castL pre ++ [(q : Int)] = castL (pre ++ [q]) := by simp [castL]
      have HSN := hideG hsnoc
      clear hsnoc
      generalize hcur : castL pre = cur at *
      have hor : ∃ nx : Int, overI (nd T q) = nx ∧ ((∃ m : Nat, m < T.length ∧ nx = (m : Int) ∧ supN T q = q :: supN T m ∧ (upsL T m).length < (upsL T q).length) ∨ (nx = -1 ∧ supN T q = [q])) := by
        rcases over_cases HM.out hq with e | ⟨m, hml, hpm⟩
        · exact ⟨-1, by simpa using e, .inr ⟨rfl, by unfold supN; rw [upsL_none e]⟩⟩
        · exact ⟨m, hpm, .inl ⟨m, hml, rfl, by unfold supN; rw [(upsL_some HM.out hq hpm).1], by rw [(upsL_some HM.out hq hpm).1]; simp⟩⟩
      obtain ⟨nx, hnx, hor⟩ := hor
      have HNX := hideG hnx
      have HOR := hideG hor
      clear hnx hor
      go_wp2_with (at_builtin; refine wpList_append_any rfl (.tmp 8) (.tmp 10) 24 rfl w.heap.size 3 i3 _ 1 8 Tryz.underlying24 hi3 hz30 hz31 hz32 rfl (by decide) _ cur.length (intCells cur) rfl (HOW.out.alloc _) _ 1 [.int .i64 (q : Int)] rfl (row_new1 _ _) rfl ?h2 ?h3 ?h4 ?h5 ?_)
      case h2 => intro y hy; simp at hy; subst hy; rfl
      case h3 => simp only [maxLen]; omega
      case h4 => omega
      case h5 => have := HB.out.size; simp; omega
      intro v4 w4 ho4 hg4 hf4
      obtain ⟨a4, c4, rfl⟩ := ownsRow_shape ho4
      rw [intCells_snoc, HSN.out] at ho4
      have HB4 := hideG ((HB.out.alloc HB.out.size (.cells #[.int .i64 (q : Int)] 3)).grown hg4 (by have := HB.out.size; simp; omega) (fun j e => (HOW.out.lt j e).1))
      have hl4 : (castL (pre ++ [q])).length = cur.length + 1 := by rw [← HSN.out]; simp
      have HL4 := hideG hl4
      have HO4 := hideG ho4
      clear ho4 hg4 hf4 hl4
      go_wp2_with (go_at_call 127; refine (refUp_any T _ q _ (HT.out.below HB4.out) hq (by omega)).mono ?_; rintro e w5 ⟨rfl, hw5⟩; subst hw5; rw [HNX.out])
      go_roundw
      case rel =>
        refine ⟨pre ++ [q], a4, c4, by rw [HL4.out], by rw [HL4.out]; exact HO4.out, HB4.out, ?_⟩
        rcases HOR.out with ⟨m, hml, rfl, hpm, _⟩ | ⟨rfl, hpm⟩
        · exact .inl ⟨m, hml, rfl, by rw [HP.out, hpm]; simp⟩
        · exact .inr ⟨rfl, by rw [HP.out, hpm]⟩
      case measure =>
        have h2 : ¬ ((q : Int) = -1) := by omega
        rcases HOR.out with ⟨m, hml, rfl, hpm, hlt⟩ | ⟨rfl, hpm⟩
        · have h1 : ¬ ((m : Int) = -1) := by omega
          simp only [intOf, h1, h2, if_false, Int.toNat_natCast]; omega
        · simp [intOf, h2]
    · have HP := hideG hp
      clear hp
      go_wp2_with fail
      go_ret
      rw [HP.out]
      exact ⟨oa, oc, rfl, HOW.out, HB.out⟩
set_option maxHeartbeats 1000000 in
theorem refAbove4_any (T : List Nd) (hm : mayB T = true) (v : Value) (a : Int) (b : Nat) (hb : b < T.length) (w : World) (hT : TreeAt w v T) :
    Calls Tryz.prog 149 #[v, .int .i64 a, .int .i64 (b : Int)] w fun e w' => e = .returned (.bool (aboveS T a (b : Int))) ∧ Below w.heap.size w w' := by
  obtain ⟨tb, to, tc, rfl, _⟩ := hT.at (by omega)
  have HT := hideG hT
  have HM := hideG hm
  have HQ := hideG (aboveS_known hm a hb)
  have hpos := mayB_pos hm
  have hl : (castL (supN T b)).length ≤ 1000000 := by rw [castL_length]; have := supN_le T b; omega
  clear hT hm
  go_enter Tryz.func149, Tryz.ntmps149
  go_wp2_with (first | (go_at_call 172; refine (refUp4_any T HM.out _ b hb _ HT.out).mono ?_; rintro e w1 ⟨a1, c1, rfl, ho1, hb1⟩; have HI := hideG (ownsRow_ints ho1); have HB1 := hideG hb1; clear ho1 hb1; generalize castL (supN T b) = l at *) | (go_at_call 37; refine (refIn_any l _ _ _ HI.out hl).mono ?_; rintro e w3 ⟨rfl, hw⟩; subst hw))
  go_ret
  exact ⟨ret_bool HQ.out.symm, HB1.out⟩
end Go.Proofs.YtclhimodopgeoaaGreat
namespace Go.Proofs.YtclhimodopgeoaaGreat
open Go.RowKit

end Go.Proofs.YtclhimodopgeoaaGreat
namespace Go.Proofs.YtclhimodopgeoaaGreat
open Go.RowKit

end Go.Proofs.YtclhimodopgeoaaGreat
namespace Go.Proofs.YtclhimodopgeoaaGreat
open Go.RowKit

end Go.Proofs.YtclhimodopgeoaaGreat
namespace Go.Proofs.YtclhimodopgeoaaGreat
open Go.RowKit

end Go.Proofs.YtclhimodopgeoaaGreat

namespace Go.Proofs.YtclhimodopgeoaaGreat
open Go.RowKit

/-- Who is shown, and who invoked it. -/
structure Sh where
  node : Int
  inv : Int
  deriving Inhabited, DecidableEq
def shD : Sh := ⟨0, 0⟩
structure ShAt (w : World) (b o : Nat) (h : Sh) : Prop where
  node : w.cell? ⟨b, o, none⟩ = some (.int .i64 h.node)
  inv : w.cell? ⟨b, o + 1, none⟩ = some (.int .i64 h.inv)
def ShsAt (w : World) (v : Value) (l : List Sh) : Prop :=
  ∃ a cap, v = .slice a l.length cap ∧ l.length ≤ cap ∧ (0 < l.length → ∃ b off, a = some ⟨b, off, none⟩ ∧ ∀ j, j < l.length → ShAt w b (off + j * 2) (l.getD j shD))
theorem ShAt.below {w w' : World} {b o : Nat} {h : Sh} (H : ShAt w b o h) (hb : Below w.heap.size w w') : ShAt w' b o h := ⟨cell_below hb H.node, cell_below hb H.inv⟩
theorem ShsAt.below {w w' : World} {v : Value} {l : List Sh} (h : ShsAt w v l) (hb : Below w.heap.size w w') : ShsAt w' v l := by
  obtain ⟨a, cap, rfl, hc⟩ := h
  refine ⟨a, cap, rfl, hc.1, fun h0 => ?_⟩
  obtain ⟨b, off, rfl, hd⟩ := hc.2 h0
  exact ⟨b, off, rfl, fun j hj => (hd j hj).below hb⟩
theorem ShsAt.shape {w : World} {v : Value} {l : List Sh} (h : ShsAt w v l) : ∃ a c, v = .slice a l.length c := let ⟨a, c, h, _⟩ := h; ⟨a, c, h⟩
def shCells : List Sh → List Value
  | [] => []
  | h :: l => [.int .i64 h.node, .int .i64 h.inv] ++ shCells l
theorem shCells_length : ∀ l : List Sh, (shCells l).length = l.length * 2
  | [] => rfl
  | h :: l => by simp only [shCells, List.length_append, List.length_cons, List.length_nil, shCells_length l]; omega
theorem shCells_one : ∀ l : List Sh, ∀ u ∈ shCells l, u.oneCell' = true
  | [], u, h => by simp [shCells] at h
  | h :: l, u, hu => by
    simp only [shCells, List.mem_append, List.mem_cons, List.not_mem_nil, or_false] at hu
    rcases hu with (rfl | rfl) | hu
    all_goals first | rfl | exact shCells_one l u hu
theorem shCells_append : ∀ a b : List Sh, shCells (a ++ b) = shCells a ++ shCells b
  | [], b => by simp [shCells]
  | x :: a, b => by rw [List.cons_append, shCells, shCells, shCells_append a b, List.append_assoc]
theorem shCells_at : ∀ {l : List Sh} {j : Nat}, j < l.length → (shCells l)[j * 2]? = some (.int .i64 (l.getD j shD).node) ∧ (shCells l)[j * 2 + 1]? = some (.int .i64 (l.getD j shD).inv)
  | [], j, h => by simp at h
  | x :: l, 0, _ => by simp [shCells]
  | x :: l, j + 1, h => by
    have hj : j < l.length := by simpa using h
    have := shCells_at hj
    have e : ∀ q, (shCells (x :: l))[(j + 1) * 2 + q]? = (shCells l)[j * 2 + q]? := fun q => by
      rw [shCells, List.getElem?_append_right (by simp; omega)]
      congr 1; simp; omega
    have e0 := e 0
    simp only [Nat.add_zero] at e0
    simp only [List.getD_cons_succ, e, e0]
    exact this
theorem ownsRow_shs {w : World} {base : Nat} {t : TypeId} {v : Value} {l : List Sh} (h : w.ownsRow base t 2 v l.length (shCells l)) : ShsAt w v l := by
  rcases h.2 with ⟨rfl, h0⟩ | ⟨g, cap, cur, rfl, hb, hg, hn, hm, hs, ht⟩
  · exact ⟨none, 0, by rw [h0], by omega, fun h => by omega⟩
  · refine ⟨_, cap, rfl, hn, fun _ => ⟨g, 0, rfl, fun j hj => ?_⟩⟩
    obtain ⟨e0, e1⟩ := shCells_at hj
    rw [Nat.zero_add]
    exact ⟨by rw [h.cellAt (j * 2) (by omega), e0], by rw [h.cellAt (j * 2 + 1) (by omega), e1]⟩
theorem shs_none (w : World) : ShsAt w (.slice none 0 0) [] := ⟨none, 0, rfl, Nat.le_refl _, fun h => by simp at h⟩
/-- A view. -/
structure Vw where
  tree : List Nd
  op : List Int
  modal : List Int
  pops : List Sh
  top : List Int
  deriving Inhabited
structure ViewAt (w : World) (tv ov mv pv qv : Value) (V : Vw) : Prop where
  tree : TreeAt w tv V.tree
  op : IntsAt w ov V.op
  modal : IntsAt w mv V.modal
  pops : ShsAt w pv V.pops
  top : IntsAt w qv V.top
theorem ViewAt.below {w w' : World} {tv ov mv pv qv : Value} {V : Vw} (h : ViewAt w tv ov mv pv qv V) (hb : Below w.heap.size w w') : ViewAt w' tv ov mv pv qv V :=
  ⟨h.tree.below hb, h.op.below hb, h.modal.below hb, h.pops.below hb, h.top.below hb⟩
/-- The nodes of who is shown. -/
def nodesL' (l : List Sh) : List Int := l.map Sh.node
/-- Who invoked it is nobody, or a node. -/
def fitsB (T : List Nd) (x : Sh) : Bool := x.inv == -1 || isNodeB T.length x.inv
def raisedL (V : Vw) : List Int := V.modal ++ nodesL' V.pops
def openedL (V : Vw) : List Int := V.op ++ raisedL V
def smallV (V : Vw) : Bool := smallB V.tree && (decide (V.tree.length ≤ 16) && (decide (V.op.length ≤ 40) && (decide (V.modal.length ≤ 40) && (decide (V.pops.length ≤ 40) && decide (V.top.length ≤ 80)))))
end Go.Proofs.YtclhimodopgeoaaGreat

namespace Go.Proofs.YtclhimodopgeoaaGreat
open Go.RowKit

theorem row_new2 (w : World) (o : Obj) (x : Int) : Holds ((w.alloc o).alloc (.cells #[.int .i64 x] 3)) (.slice (some ⟨w.heap.size + 1, 0, none⟩) 1 1) 1 [.int .i64 x] := by
  have := row_new1 (w.alloc o) x
  rw [World.size_alloc] at this
  exact this
set_option maxHeartbeats 400000 in
theorem isNode10_any (a : Option Addr) (len cap : Nat) (n : Int) (w : World) :
    Calls Tryz.prog 83 #[.slice a len cap, .int .i64 n] w fun e w' => e = .returned (.bool (isNodeB len n)) ∧ w' = w := by
  cases h : decide (0 ≤ n)
  all_goals
    go_enter Tryz.func83, Tryz.ntmps83
    go_wp2
    go_ret
    exact ⟨ret_bool (by simp only [isNodeB, h, Bool.false_and, Bool.true_and]), rfl⟩

set_option maxRecDepth 100000 in
set_option maxHeartbeats 1000000 in
theorem fits_any (T : List Nd) (a : Option Addr) (cap : Nat) (x : Sh) (w : World) :
    Calls Tryz.prog 69 #[.slice a T.length cap, .agg #[.int .i64 x.node, .int .i64 x.inv]] w fun e w' => e = .returned (.bool (fitsB T x)) ∧ Below w.heap.size w w' := by
  cases h : (x.inv == -1)
  · have HQ := hideG (show fitsB T x = isNodeB T.length x.inv by simp [fitsB, h])
    go_enter Tryz.func69, Tryz.ntmps69
    go_wp2_with (go_at_call 83; refine (isNode10_any _ _ _ _ _).mono ?_; rintro e wz ⟨rfl, hwz⟩; obtain rfl : _ = wz := hwz.symm)
    go_ret
    exact ⟨ret_bool HQ.out.symm, (Below.refl _ w).alloc (Nat.le_refl _) _⟩
  · have HQ := hideG (show fitsB T x = true by simp [fitsB, h])
    go_enter Tryz.func69, Tryz.ntmps69
    go_wp2_with fail
    go_ret
    exact ⟨ret_bool HQ.out.symm, (Below.refl _ w).alloc (Nat.le_refl _) _⟩

set_option maxRecDepth 100000 in
set_option maxHeartbeats 4000000 in
theorem refNodes_any (l : List Sh) (v : Value) (w : World) (hL : ShsAt w v l) (hl : l.length ≤ 1000000) :
    Calls Tryz.prog 39 #[v] w fun x w' => ∃ a c, x = .returned (.slice a l.length c) ∧ w'.ownsRow w.heap.size 3 1 (.slice a l.length c) l.length (intCells (nodesL' l)) ∧ Below w.heap.size w w' := by
  obtain ⟨i3, hi3, hz30, hz31, hz32⟩ := info_parts infoT3
  obtain ⟨a, cap, rfl, hc⟩ := hL
  have HC := hideG hc.2
  clear hc
  go_enter Tryz.func39, Tryz.ntmps39
  go_wp2_with fail
  go_loopw [3, 4] (fun o i wr => ∃ (k : Nat) (oa : Option Addr) (oc : Nat), k ≤ l.length ∧ i = .int .i64 (k : Int) ∧ o = .slice oa k oc ∧ wr.ownsRow w.heap.size 3 1 (.slice oa k oc) k (intCells (nodesL' (l.take k))) ∧ Below w.heap.size w wr) (fun _ i _ => l.length - (intOf i).toNat)
  case atStart => exact ⟨0, none, 0, Nat.zero_le _, rfl, rfl, World.ownsRow_nil _ _ _ _, Below.refl _ _⟩
  case round =>
    obtain ⟨k, oa, oc, hk, rfl, rfl, hown, hB⟩ := hrel
    have HOW := hideG hown
    have HB := hideG hB
    clear hown hB
    by_cases hlt : k < l.length
    · obtain ⟨b, off, rfl, hd⟩ := HC.out (by omega)
      have hH := (hd k hlt).below HB.out
      have HT := hideG (show nodesL' (l.take (k + 1)) = nodesL' (l.take k) ++ [(l.getD k shD).node] by
        unfold nodesL'
        rw [List.take_succ_eq_append_getElem hlt, List.map_append, List.getD_eq_getElem?_getD, List.getElem?_eq_getElem hlt]; rfl)
      generalize l.getD k shD = x at *
      have c0 := hH.node
      have c1 := hH.inv
      have hbl : b < wr.heap.size := below_of_cell c0
      have hk0 : (0 : Int) ≤ (k : Int) := by omega
      clear hd hH
      go_wp2_with (at_builtin; refine wpList_append_any rfl (.tmp 11) (.tmp 17) 24 rfl w.heap.size 3 i3 _ 1 8 Tryz.underlying24 hi3 hz30 hz31 hz32 rfl (by decide) _ k (intCells (nodesL' (l.take k))) rfl (HOW.out.alloc _) _ 1 [.int .i64 x.node] rfl (row_new1 _ _) rfl ?h2 ?h3 ?h4 ?h5 ?_)
      case h2 => intro y hy; simp at hy; subst hy; rfl
      case h3 => simp only [maxLen]; omega
      case h4 => omega
      case h5 => have := HB.out.size; simp; omega
      intro v4 w4 ho4 hg4 hf4
      obtain ⟨a4, c4, rfl⟩ := ownsRow_shape ho4
      rw [intCells_snoc, ← HT.out] at ho4
      have HB4 := hideG ((HB.out.alloc HB.out.size (.cells #[.int .i64 x.node] 3)).grown hg4 (by have := HB.out.size; simp; omega) (fun j e => (HOW.out.lt j e).1))
      have HO4 := hideG ho4
      clear ho4 hg4 hf4
      go_wp2_with fail
      go_roundw
      case rel => exact ⟨k + 1, a4, c4, by omega, by go_num, rfl, HO4.out, HB4.out⟩
      case measure => simp [intOf]; omega
    · have hke : k = l.length := by omega
      subst hke
      rw [List.take_length] at HOW
      go_wp2_with fail
      go_ret
      exact ⟨oa, oc, rfl, HOW.out, HB.out⟩

set_option maxRecDepth 100000 in
set_option maxHeartbeats 4000000 in
theorem nodes_any (l : List Sh) (v : Value) (w : World) (hL : ShsAt w v l) (hl : l.length ≤ 1000000) :
    Calls Tryz.prog 75 #[v] w fun x w' => ∃ a c, x = .returned (.slice a l.length c) ∧ w'.ownsRow w.heap.size 3 1 (.slice a l.length c) l.length (intCells (nodesL' l)) ∧ Below w.heap.size w w' := by
  obtain ⟨i3, hi3, hz30, hz31, hz32⟩ := info_parts infoT3
  obtain ⟨a, cap, rfl, hc⟩ := hL
  have HC := hideG hc.2
  clear hc
  go_enter Tryz.func75, Tryz.ntmps75
  go_wp2_with fail
  go_loopw [3, 8] (fun o i wr => ∃ (k : Nat) (oa : Option Addr) (oc : Nat), k ≤ l.length ∧ i = .int .i64 (k : Int) ∧ o = .slice oa k oc ∧ wr.ownsRow w.heap.size 3 1 (.slice oa k oc) k (intCells (nodesL' (l.take k))) ∧ Below w.heap.size w wr) (fun _ i _ => l.length - (intOf i).toNat)
  case atStart => exact ⟨0, none, 0, Nat.zero_le _, rfl, rfl, World.ownsRow_nil _ _ _ _, Below.refl _ _⟩
  case round =>
    obtain ⟨k, oa, oc, hk, rfl, rfl, hown, hB⟩ := hrel
    have HOW := hideG hown
    have HB := hideG hB
    clear hown hB
    by_cases hlt : k < l.length
    · obtain ⟨b, off, rfl, hd⟩ := HC.out (by omega)
      have hH := (hd k hlt).below HB.out
      have HT := hideG (show nodesL' (l.take (k + 1)) = nodesL' (l.take k) ++ [(l.getD k shD).node] by
        unfold nodesL'
        rw [List.take_succ_eq_append_getElem hlt, List.map_append, List.getD_eq_getElem?_getD, List.getElem?_eq_getElem hlt]; rfl)
      generalize l.getD k shD = x at *
      have c0 := hH.node
      have c1 := hH.inv
      have hbl : b < wr.heap.size := below_of_cell c0
      have hk0 : (0 : Int) ≤ (k : Int) := by omega
      clear hd hH
      go_wp2_with (at_builtin; refine wpList_append_any rfl (.tmp 12) (.tmp 15) 24 rfl w.heap.size 3 i3 _ 1 8 Tryz.underlying24 hi3 hz30 hz31 hz32 rfl (by decide) _ k (intCells (nodesL' (l.take k))) rfl ((HOW.out.alloc _).alloc _) _ 1 [.int .i64 x.node] rfl (row_new2 _ _ _) rfl ?h2 ?h3 ?h4 ?h5 ?_)
      case h2 => intro y hy; simp at hy; subst hy; rfl
      case h3 => simp only [maxLen]; omega
      case h4 => omega
      case h5 => have := HB.out.size; simp; omega
      intro v4 w4 ho4 hg4 hf4
      obtain ⟨a4, c4, rfl⟩ := ownsRow_shape ho4
      rw [intCells_snoc, ← HT.out] at ho4
      have HB4 := hideG (((HB.out.alloc HB.out.size (.cells #[.int .i64 x.node, .int .i64 x.inv] 39)).alloc (by have := HB.out.size; simp; omega) (.cells #[.int .i64 x.node] 3)).grown hg4 (by have := HB.out.size; simp; omega) (fun j e => (HOW.out.lt j e).1))
      have HO4 := hideG ho4
      clear ho4 hg4 hf4
      go_wp2_with fail
      go_roundw
      case rel => exact ⟨k + 1, a4, c4, by omega, by go_num, rfl, HO4.out, HB4.out⟩
      case measure => simp [intOf]; omega
    · have hke : k = l.length := by omega
      subst hke
      rw [List.take_length] at HOW
      go_wp2_with fail
      go_ret
      exact ⟨oa, oc, rfl, HOW.out, HB.out⟩

/-- Each stands where it stands first. -/
def onceB (l : List Int) : Bool := (List.range l.length).all fun i => !containsB (l.take i) (l.getD i 0)
theorem idx_take {l : List Int} {i : Nat} (h : i < l.length) : (indexI l (l.getD i 0) == (i : Int)) = !containsB (l.take i) (l.getD i 0) := by
  have hg : l.getD i 0 = l[i] := by rw [List.getD_eq_getElem?_getD, List.getElem?_eq_getElem h]; rfl
  rw [hg]
  have key : ∀ (l : List Int) (i : Nat) (h : i < l.length), (l[i] ∈ l.take i → idxL l[i] l < i) ∧ (l[i] ∉ l.take i → idxL l[i] l = i) := by
    intro l
    induction l with
    | nil => intro i h; simp at h
    | cons a l ih =>
      intro i h
      cases i with
      | zero => simp [idxL]
      | succ i =>
        have hi : i < l.length := by simpa using h
        obtain ⟨h1, h2⟩ := ih i hi
        simp only [List.getElem_cons_succ, List.take_succ_cons, List.mem_cons, idxL]
        cases e : (l[i] == a)
        · have e' : ¬ l[i] = a := by simpa using e
          simp only [e', false_or, Bool.false_eq_true, if_false]
          exact ⟨fun q => by have := h1 q; omega, fun q => by have := h2 q; omega⟩
        · have e' : l[i] = a := by simpa using e
          simp [e']
  obtain ⟨h1, h2⟩ := key l i h
  unfold containsB
  by_cases hm : l[i] ∈ l.take i
  · have := h1 hm
    simp only [hm, decide_true, Bool.not_true, beq_eq_false_iff_ne]
    unfold indexI
    rw [if_pos (by omega)]
    omega
  · have := h2 hm
    simp only [hm, decide_false, Bool.not_false, beq_iff_eq]
    unfold indexI
    rw [this, if_pos h]
theorem once_no {l : List Int} {i : Nat} (h : i < l.length) (hc : containsB (l.take i) (l.getD i 0) = true) : onceB l = false := by
  rw [onceB, List.all_eq_false]
  exact ⟨i, List.mem_range.mpr h, by rw [hc]; simp⟩
theorem once_yes {l : List Int} (h : ∀ i, i < l.length → containsB (l.take i) (l.getD i 0) = false) : onceB l = true := by
  rw [onceB, List.all_eq_true]
  intro i hi
  rw [h i (List.mem_range.mp hi)]; rfl

set_option maxRecDepth 100000 in
set_option maxHeartbeats 4000000 in
theorem refOnce_any (l : List Int) (v : Value) (w : World) (hI : IntsAt w v l) (hl : l.length ≤ 1000000) :
    Calls Tryz.prog 40 #[v] w fun x w' => x = .returned (.bool (onceB l)) ∧ w' = w := by
  have HI := hideG hI
  obtain ⟨a, cap, rfl, hc⟩ := hI
  have HC := hideG hc
  clear hc
  go_enter Tryz.func40, Tryz.ntmps40
  go_wp2_with fail
  go_loop [3] (fun i => ∃ k : Nat, k ≤ l.length ∧ i = .int .i64 (k : Int) ∧ ∀ j, j < k → containsB (l.take j) (l.getD j 0) = false) (fun i => l.length - (intOf i).toNat)
  case atStart => exact ⟨0, Nat.zero_le _, rfl, fun j hj => by omega⟩
  case round =>
    obtain ⟨k, hk, rfl, hno⟩ := hrel
    have HNO := hideG hno
    clear hno
    by_cases hlt : k < l.length
    · obtain ⟨b, off, rfl, hd⟩ := HC.out (by omega)
      have c0 := hd k hlt
      have HIT := hideG (idx_take hlt)
      have HP := hideG (fun x => refPlace_any l (.slice (some ⟨b, off, none⟩) l.length cap) x w HI.out hl)
      have hk0 : (0 : Int) ≤ (k : Int) := by omega
      generalize hx : l.getD k 0 = x at *
      have HX := hideG hx
      clear hd hx
      cases hcn : containsB (l.take k) x
      · have hq : (indexI l x == (k : Int)) = true := by rw [HIT.out, hcn]; rfl
        have hq2 : (indexI l x != (k : Int)) = false := by rw [bne, hq]; rfl
        have HCN := hideG hcn
        clear hcn hq
        go_wp2_with fail
        refine (HP.out x).mono ?_
        rintro ex wz ⟨rfl, hwz⟩
        obtain rfl : _ = wz := hwz.symm
        go_wp2_with fail
        go_round
        case rel => exact ⟨k + 1, by omega, by go_num, fun j hj => by
          by_cases q : j = k
          · subst q; rw [HX.out]; exact HCN.out
          · exact HNO.out j (by omega)⟩
        case measure => simp [intOf]; omega
      · have hq : (indexI l x == (k : Int)) = false := by rw [HIT.out, hcn]; rfl
        have hq2 : (indexI l x != (k : Int)) = true := by rw [bne, hq]; rfl
        have HQ := hideG (show onceB l = false from once_no hlt (by rw [HX.out]; exact hcn))
        clear hcn hq
        go_wp2_with fail
        refine (HP.out x).mono ?_
        rintro ex wz ⟨rfl, hwz⟩
        obtain rfl : _ = wz := hwz.symm
        go_wp2_with fail
        go_ret
        exact ⟨ret_bool HQ.out.symm, rfl⟩
    · have HQ := hideG (show onceB l = true from once_yes (fun j hj => HNO.out j (by omega)))
      go_wp2_with fail
      go_ret
      exact ⟨ret_bool HQ.out.symm, rfl⟩

set_option maxRecDepth 100000 in
set_option maxHeartbeats 4000000 in
theorem hasTwice_any (l : List Int) (v : Value) (w : World) (hI : IntsAt w v l) (hl : l.length ≤ 1000000) (hcap : ∃ a c, v = .slice a l.length c ∧ l.length ≤ c) :
    Calls Tryz.prog 121 #[v] w fun x w' => x = .returned (.bool (!onceB l)) ∧ w' = w := by
  obtain ⟨a, cap, rfl, hlc⟩ := hcap
  obtain ⟨a', cap', e, hc⟩ := hI
  injection e with e1 e2 e3
  subst e1 e3
  have HC := hideG hc
  clear hc e2
  go_enter Tryz.func121, Tryz.ntmps121
  go_wp2_with fail
  go_loop [7] (fun i => ∃ k : Nat, k ≤ l.length ∧ i = .int .i64 (k : Int) ∧ ∀ j, j < k → containsB (l.take j) (l.getD j 0) = false) (fun i => l.length - (intOf i).toNat)
  case atStart => exact ⟨0, Nat.zero_le _, rfl, fun j hj => by omega⟩
  case round =>
    obtain ⟨k, hk, rfl, hno⟩ := hrel
    have HNO := hideG hno
    clear hno
    by_cases hlt : k < l.length
    · obtain ⟨b, off, rfl, hd⟩ := HC.out (by omega)
      have c0 := hd k hlt
      have HIT := hideG (show IntsAt w (.slice (some ⟨b, off, none⟩) (l.take k).length cap) (l.take k) from ⟨_, _, rfl, fun _ => ⟨b, off, rfl, fun j hj => by
        have hj' : j < k := by have := hj; rw [List.length_take] at this; omega
        have := hd j (by omega)
        rw [List.getD_eq_getElem?_getD, List.getElem?_take_of_lt hj', ← List.getD_eq_getElem?_getD]
        exact this⟩⟩)
      have hlk : (l.take k).length = k := by rw [List.length_take]; omega
      rw [hlk] at HIT
      have HP := hideG (fun x => contains_any (l.take k) (.slice (some ⟨b, off, none⟩) k cap) x w HIT.out (by rw [hlk]; omega))
      have hk0 : (0 : Int) ≤ (k : Int) := by omega
      have hkc : k ≤ cap := by omega
      have hkc' : (k : Int) ≤ (cap : Int) := by omega
      generalize hx : l.getD k 0 = x at *
      have HX := hideG hx
      clear hd hx hlk
      cases hcn : containsB (l.take k) x
      · have HCN := hideG hcn
        clear hcn
        go_wp2_with fail
        refine (HP.out x).mono ?_
        rintro ex wz ⟨rfl, hwz⟩
        obtain rfl : _ = wz := hwz.symm
        rw [HCN.out]
        go_wp2_with fail
        go_round
        case rel => exact ⟨k + 1, by omega, by go_num, fun j hj => by
          by_cases q : j = k
          · subst q; rw [HX.out]; exact HCN.out
          · exact HNO.out j (by omega)⟩
        case measure => simp [intOf]; omega
      · have HQ := hideG (show onceB l = false from once_no hlt (by rw [HX.out]; exact hcn))
        have HCN := hideG hcn
        clear hcn
        go_wp2_with fail
        refine (HP.out x).mono ?_
        rintro ex wz ⟨rfl, hwz⟩
        obtain rfl : _ = wz := hwz.symm
        rw [HCN.out]
        go_wp2_with fail
        go_ret
        exact ⟨ret_bool (by rw [HQ.out]; rfl), rfl⟩
    · have HQ := hideG (show onceB l = true from once_yes (fun j hj => HNO.out j (by omega)))
      go_wp2_with fail
      go_ret
      exact ⟨ret_bool (by rw [HQ.out]; rfl), rfl⟩
end Go.Proofs.YtclhimodopgeoaaGreat

namespace Go.Proofs.YtclhimodopgeoaaGreat
open Go.RowKit Go.Shelf

set_option maxHeartbeats 1000000 in
theorem clone80_some (a : Addr) (n cap : Nat) (cs : List Value) (w : World) (hn : n ≤ 1000000) (hl : cs.length = n * 1) (hc : ∀ j u, cs[j]? = some u → w.cell? (a.add j) = some u) (h1 : ∀ u ∈ cs, u.oneCell' = true) :
    Calls Tryz.prog 81 #[.slice (some a) n cap] w fun e w' => ∃ v', e = .returned v' ∧ w'.ownsRow w.heap.size 3 1 v' n cs ∧ Below w.heap.size w w' ∧ (v' = .slice none 0 0 → False) := by
  obtain ⟨i0, hi, hz0, hz1, hz2⟩ := info_parts infoT3
  have hown : (w.alloc (.cells #[] 3)).ownsRow w.heap.size 3 1 (.slice (some ⟨w.heap.size, 0, none⟩) 0 0) 0 [] := World.ownsRow_made w #[] 0 (Nat.le_refl _) (by simp [maxLen]) rfl
  have HC : Hid (∀ j u, cs[j]? = some u → w.cell? (a.add j) = some u) := hc
  have H1 : Hid (∀ u ∈ cs, u.oneCell' = true) := h1
  have HL : Hid (cs.length = n * 1) := hl
  have he := fun wx => Lib.run_eql_slice_nil (P := Tryz.prog) wx 24 3 (some a) n cap 0 0 Tryz.underlying24
  clear hc h1 hl
  go_enter Tryz.func81, Tryz.ntmps81
  go_wp2_with (at_builtin; refine wpList_append_own _ rfl (.tmp 5) (.tmp 6) 24 rfl w.heap.size 3 i0 _ 1 8 Tryz.underlying24 hi hz0 hz1 hz2 rfl (by decide) _ 0 [] rfl hown a n cap cs rfl HL.out ?h1 H1.out ?h2 ?h3 ?h4 ?h5)
  case h1 => exact fun j u hj => cell_kept' (HC.out j u hj)
  case h2 => simp only [maxLen]; omega
  case h3 => omega
  case h4 => simp
  case h5 =>
    intro v' w' hown' hgrow hnil
    go_wp2_with fail
    go_ret
    refine ⟨v', rfl, by simpa using hown', ?_, ?_⟩
    · exact ((Below.refl _ w).alloc (Nat.le_refl _) _).grown hgrow (by simp) (fun k e => by simp [Value.ownBlock] at e; omega)
    · exact hnil
set_option maxHeartbeats 400000 in
theorem clone80_nil (n cap : Nat) (w : World) :
    Calls Tryz.prog 81 #[.slice none n cap] w fun e w' => e = .returned (.slice none 0 0) ∧ w' = w := by
  have he := fun wx => Lib.run_eql_slice_nil (P := Tryz.prog) wx 24 3 none n cap 0 0 Tryz.underlying24
  go_enter Tryz.func81, Tryz.ntmps81
  go_wp2_with fail
  go_ret
  exact ⟨rfl, rfl⟩
/-- slices.Clone at numbers, nil or not. -/
theorem cloneInts (kv : Value) (l : List Int) (w : World) (h : IntsAt w kv l) (hl : l.length ≤ 1000000) :
    Calls Tryz.prog 81 #[kv] w fun e w' => ∃ v', e = .returned v' ∧ w'.ownsRow w.heap.size 3 1 v' l.length (intCells l) ∧ Below w.heap.size w w' := by
  have hk := h
  obtain ⟨a, cap, rfl, hc⟩ := h
  cases a with
  | none =>
    have h0 : l = [] := by
      cases l with
      | nil => rfl
      | cons x l => obtain ⟨b, off, hb, _⟩ := hc (by simp); cases hb
    subst h0
    refine (clone80_nil _ cap w).mono ?_
    rintro e w' ⟨rfl, rfl⟩
    exact ⟨_, rfl, World.ownsRow_nil _ _ _ _, Below.refl _ _⟩
  | some a =>
    refine (clone80_some a l.length cap (intCells l) w hl (intCells_length l) hk.cells.2 (intCells_one l)).mono ?_
    rintro e w' ⟨v', rfl, h1, h2, _⟩
    exact ⟨v', rfl, h1, h2⟩
set_option maxRecDepth 100000 in
set_option maxHeartbeats 1000000 in
theorem refInts_any (l m : List Int) (v u : Value) (w : World) (hl : IntsAt w v l) (hm : IntsAt w u m) (h1 : l.length ≤ 1000000) :
    Calls Tryz.prog 28 #[v, u] w fun e w' => e = .returned (.bool (decide (l = m))) ∧ Below w.heap.size w w' := by
  obtain ⟨a, cap, rfl, hc⟩ := hl
  obtain ⟨a', cap', rfl, hc'⟩ := hm
  by_cases hlen : l.length = m.length
  · have hne : ((l.length : Int) != (m.length : Int)) = false := by simp [hlen]
    have HC : Hid (0 < l.length → ∃ b off, a = some ⟨b, off, none⟩ ∧ ∀ j, j < l.length → w.cell? ⟨b, off + j, none⟩ = some (.int .i64 (l.getD j 0))) := hc
    have HC' : Hid (0 < m.length → ∃ b off, a' = some ⟨b, off, none⟩ ∧ ∀ j, j < m.length → w.cell? ⟨b, off + j, none⟩ = some (.int .i64 (m.getD j 0))) := hc'
    have HL : Hid (l.length = m.length) := hlen
    clear hc hc' hlen
    go_enter Tryz.func28, Tryz.ntmps28
    go_wp2_with fail
    go_loopw [5] (fun i wr => ∃ k : Nat, k ≤ l.length ∧ i = .int .i64 k ∧ Below w.heap.size w wr ∧ (∀ j, j < k → l.getD j 0 = m.getD j 0)) (fun i _ => l.length - (intOf i).toNat)
    case atStart => exact ⟨0, Nat.zero_le _, rfl, Below.refl _ _, fun j h => by omega⟩
    case round =>
      obtain ⟨k, hk, rfl, hB, hEq⟩ := hrel
      have HE : Hid (∀ j, j < k → l.getD j 0 = m.getD j 0) := hEq
      clear hEq
      by_cases hlt : k < l.length
      · obtain ⟨b, off, rfl, hd⟩ := HC.out (by omega)
        obtain ⟨b', off', rfl, hd'⟩ := HC'.out (by have := HL.out; omega)
        have c1 := cell_below hB (hd k hlt)
        have c2 := cell_below hB (hd' k (by have := HL.out; omega))
        have hlt' : k < m.length := by have := HL.out; omega
        clear hd hd'
        have HX : Hid (l.getD k 0 = m.getD k 0 ↔ l.getD k 0 = m.getD k 0) := Iff.rfl
        generalize hA1 : l.getD k 0 = x1 at c1
        generalize hA2 : m.getD k 0 = x2 at c2
        have HA1 : Hid (l.getD k 0 = x1) := hA1
        have HA2 : Hid (m.getD k 0 = x2) := hA2
        clear hA1 hA2 HX
        cases hx : (x1 != x2)
        · go_wp2_with fail
          go_quiet (fail)
          go_wp2_with fail
          go_roundw
          case rel =>
            refine ⟨k + 1, by omega, by go_num, below_drewN hB _, fun j hj => ?_⟩
            by_cases h : j = k
            · subst h; rw [HA1.out, HA2.out]; simpa using hx
            · exact HE.out j (by omega)
          case measure => simp [intOf]; omega
        · go_wp2_with fail
          go_quiet (fail)
          go_wp2_with fail
          go_ret
          refine ⟨ret_bool (Eq.symm (decide_eq_false (fun h => ?_))), below_drewN hB _⟩
          have e := HA1.out
          rw [h, HA2.out] at e
          simp [e] at hx
      · go_wp2_with fail
        go_ret
        exact ⟨ret_bool (Eq.symm (decide_eq_true (list_ext_getD HL.out (fun j hj => HE.out j (by omega))))), hB⟩
  · have hne : ((l.length : Int) != (m.length : Int)) = true := by simp; omega
    clear hc hc'
    go_enter Tryz.func28, Tryz.ntmps28
    go_wp2_with fail
    go_ret
    exact ⟨ret_bool (Eq.symm (decide_eq_false (fun h => hlen (by rw [h])))), Below.refl _ _⟩
theorem lints (l m : List Int) (b : Bool) (hl : l.length ≤ 1000) (hb : decide (l = m) = b) (v u : Value) (w : World) (h1 : IntsAt w v l) (h2 : IntsAt w u m) :
    Calls Tryz.prog 28 #[v, u] w fun e w' => e = .returned (.bool b) ∧ Below w.heap.size w w' := by
  rw [← hb]; exact refInts_any l m v u w h1 h2 (by omega)
section
attribute [local go_sem] Oper.semAt_some
set_option maxRecDepth 100000 in
set_option maxHeartbeats 1000000 in
theorem shadeHost_any (T : List Nd) (hS : Sane T) (v : Value) (n : Int) (w : World) (hT : TreeAt w v T) :
    Calls Tryz.prog 175 #[v, .int .i64 n] w fun e w' => e = .returned (.int .i64 (hostS T n)) ∧ Below w.heap.size w w' := by
  have HS := hideG hS
  have HT := hideG hT
  cases hk : knownB T [n]
  · obtain ⟨ta, tc, rfl⟩ := hT.shape
    have HQ := hideG (show topI T n = -1 by simp [topI, hk])
    have HR := hideG (show hostS T n = -1 by simp [hostS, hk])
    clear hT hS hk
    go_enter Tryz.func175, Tryz.ntmps175
    go_wp2_with (go_at_call 146; refine (orderTop_any T HS.out _ _ _ HT.out).mono ?_; rintro e w1 ⟨rfl, hb1⟩; rw [HQ.out])
    go_ret
    exact ⟨ret_int HR.out.symm, hb1⟩
  · obtain ⟨hm, m, rfl, hml⟩ := known_one hk
    have hpos := mayB_pos hm
    have htl := (sup_split hm hml).1
    obtain ⟨tb, to, tc, rfl, hct⟩ := hT.at (by omega)
    obtain ⟨kv, av, hN⟩ := hct (topN T m) htl
    have gh := hN.host
    have htb : tb < w.heap.size := below_of_cell gh
    have HQ := hideG (show topI T m = (topN T m : Int) by simp [topI, hk])
    have HR := hideG (show hostS T m = (nd T (topN T m)).host by simp [hostS, hk])
    have hne : ((topN T m : Int) == -1) = false := by simp
    clear hT hS hk hN hct hm
    go_enter Tryz.func175, Tryz.ntmps175
    go_wp2_with (go_at_call 146; refine (orderTop_any T HS.out _ _ _ HT.out).mono ?_; rintro e w1 ⟨rfl, hb1⟩; rw [HQ.out]; have gh1 := cell_below hb1 gh)
    go_ret
    exact ⟨ret_int HR.out.symm, hb1⟩
set_option maxRecDepth 100000 in
set_option maxHeartbeats 4000000 in
theorem list_in (T : List Nd) (hm : mayB T = true) (tb to tc : Nat) (W : World) (hT : TreeAt W (.slice (some ⟨tb, to, none⟩) T.length tc) T) : ∀ (d n : Nat), n < T.length → T.length < d + (upsL T n).length → ∀ (A : List Int) (aa : Option Addr) (ac : Nat) (w : World), w.ownsRow W.heap.size 3 1 (.slice aa A.length ac) A.length (intCells A) → Below W.heap.size W w → A.length + (sl T n).length ≤ 1000 →
    Calls Tryz.prog 147 #[.slice aa A.length ac, .slice (some ⟨tb, to, none⟩) T.length tc, .int .i64 (n : Int)] w fun e w' => ∃ a c, e = .returned (.slice a (A ++ castL (sl T n)).length c) ∧ w'.ownsRow W.heap.size 3 1 (.slice a (A ++ castL (sl T n)).length c) (A ++ castL (sl T n)).length (intCells (A ++ castL (sl T n))) ∧ Below W.heap.size W w'
  | 0, n, hn, h => by have := upsL_le T n; omega
  | d + 1, n, hn, hd => by
    intro A aa ac w hown hB hlen
    have hF := mayB_fine hm
    obtain ⟨i3, hi3, hz30, hz31, hz32⟩ := info_parts infoT3
    have ih := list_in T hm tb to tc W hT d
    have HSTEP := hideG (show ∀ m : Nat, m < T.length → overI (nd T m) = (n : Int) → ∀ (A : List Int) (aa : Option Addr) (ac : Nat) (w : World), w.ownsRow W.heap.size 3 1 (.slice aa A.length ac) A.length (intCells A) → Below W.heap.size W w → A.length + (sl T m).length ≤ 1000 →
        Calls Tryz.prog 147 #[.slice aa A.length ac, .slice (some ⟨tb, to, none⟩) T.length tc, .int .i64 (m : Int)] w fun e w' => ∃ a c, e = .returned (.slice a (A ++ castL (sl T m)).length c) ∧ w'.ownsRow W.heap.size 3 1 (.slice a (A ++ castL (sl T m)).length c) (A ++ castL (sl T m)).length (intCells (A ++ castL (sl T m))) ∧ Below W.heap.size W w' from fun m hml ho => by
      have hs := (upsL_some hm hml ho).1
      exact ih m hml (by rw [hs, List.length_cons]; omega))
    have hsl := sl_eq hm hn
    have hpos := mayB_pos hm
    obtain ⟨tb', to', tc', htv, hct⟩ := hT.at (by omega)
    simp only [Value.slice.injEq, Option.some.injEq, Addr.mk.injEq, and_true, true_and] at htv
    obtain ⟨⟨rfl, rfl⟩, rfl⟩ := htv
    obtain ⟨kv, av, hN⟩ := hct n hn
    have HN := hideG hN
    have HOW := hideG hown
    have HB := hideG hB
    have HSL := hideG hsl
    have HFi := hideG hF
    have h64 := fine_short hF hn
    clear ih hsl hct hown hB hT hm hF hd
    go_enter Tryz.func147, Tryz.ntmps147
    go_wp2_with (at_builtin; refine wpList_append_any rfl (.tmp 10) (.tmp 12) 24 rfl W.heap.size 3 i3 _ 1 8 Tryz.underlying24 hi3 hz30 hz31 hz32 rfl (by decide) _ A.length (intCells A) rfl (HOW.out.alloc _) _ 1 [.int .i64 (n : Int)] rfl (row_new1 _ _) rfl ?h2 ?h3 ?h4 ?h5 ?_)
    case h2 => intro y hy; simp at hy; subst hy; rfl
    case h3 => simp only [maxLen]; omega
    case h4 => omega
    case h5 => have := HB.out.size; simp; omega
    intro v4 w4 ho4 hg4 hf4
    obtain ⟨a4, c4, rfl⟩ := ownsRow_shape ho4
    rw [intCells_snoc] at ho4
    have HB4 := hideG ((HB.out.alloc HB.out.size (.cells #[.int .i64 (n : Int)] 3)).grown hg4 (by have := HB.out.size; simp; omega) (fun j e => (HOW.out.lt j e).1))
    have hl1 : (A ++ [(n : Int)]).length = A.length + 1 := by simp
    have HO4 := hideG (show w4.ownsRow W.heap.size 3 1 (.slice a4 (A ++ [(n : Int)]).length c4) (A ++ [(n : Int)]).length (intCells (A ++ [(n : Int)])) by rw [hl1]; exact ho4)
    have g5 := cell_below HB4.out HN.out.root
    rw [← hl1]
    clear ho4 hg4 hf4 hl1
    obtain ⟨kka, kkc, hkv⟩ := hN.kids.shape
    subst hkv
    have HKC : Hid (0 < (nd T n).kids.length → ∃ b off, kka = some ⟨b, off, none⟩ ∧ ∀ j, j < (nd T n).kids.length → W.cell? ⟨b, off + j, none⟩ = some (.int .i64 ((nd T n).kids.getD j 0))) := by
      obtain ⟨a', cap', hv', hd'⟩ := hN.kids
      simp only [Value.slice.injEq, true_and] at hv'
      obtain ⟨rfl, rfl⟩ := hv'
      exact hd'
    have g3 := HN.out.kidsc
    have hsn : (sl T n).length = 1 + (if (nd T n).root == -1 then 0 else (sl T (nd T n).root.toNat).length) + ((nd T n).kids.flatMap (fun x => sl T x.toNat)).length := by
      rw [HSL.out]
      cases ((nd T n).root == -1) <;> simp <;> omega
    clear hN
    cases hr : ((nd T n).root == -1)
    · obtain ⟨r, hrr, hrl, hro⟩ := over_root HFi.out hn hr
      have HFIN0 := hideG (show (A ++ [(n : Int)]) ++ castL (sl T r) ++ castL ((nd T n).kids.flatMap (fun x => sl T x.toNat)) = A ++ castL (sl T n) by
        rw [HSL.out, hr, hrr, Int.toNat_natCast]; simp [castL])
      rw [hr, hrr, Int.toNat_natCast] at hsn
      simp only [Bool.false_eq_true, if_false] at hsn
      rw [hrr] at g5 hr
      have hbnd0 : (A ++ [(n : Int)]).length + (sl T r).length ≤ 1000 := by simp; omega
      have hB1l : ((A ++ [(n : Int)]) ++ castL (sl T r)).length + ((nd T n).kids.flatMap (fun x => sl T x.toNat)).length ≤ 1000 := by rw [List.length_append, castL_length]; simp only [List.length_append, List.length_cons, List.length_nil]; omega
      clear hrr
      have HSN := hideG hsn
      clear hsn
      generalize A ++ [(n : Int)] = A1 at *
      go_wp2_with (go_at_call 147; refine (HSTEP.out r hrl hro A1 a4 c4 _ HO4.out HB4.out hbnd0).mono ?_; rintro e w5 ⟨a5, c5, rfl, ho5, hb5⟩; have HO5 := hideG ho5; have HB5 := hideG hb5; have g3' := cell_below hb5 g3; clear ho5 hb5; generalize A1 ++ castL (sl T r) = B1 at *)
      have HFIN := HFIN0
      go_loopw [0, 31] (fun o i wr => ∃ (k : Nat) (oa : Option Addr) (oc : Nat), k ≤ (nd T n).kids.length ∧ i = .int .i64 k ∧ o = .slice oa (B1 ++ castL (((nd T n).kids.take k).flatMap (fun x => sl T x.toNat))).length oc ∧ wr.ownsRow W.heap.size 3 1 (.slice oa (B1 ++ castL (((nd T n).kids.take k).flatMap (fun x => sl T x.toNat))).length oc) (B1 ++ castL (((nd T n).kids.take k).flatMap (fun x => sl T x.toNat))).length (intCells (B1 ++ castL (((nd T n).kids.take k).flatMap (fun x => sl T x.toNat)))) ∧ Below W.heap.size W wr) (fun _ i _ => (nd T n).kids.length - (intOf i).toNat)
      case atStart => exact ⟨0, a5, c5, Nat.zero_le _, rfl, by simp [castL], by simpa [castL] using HO5.out, HB5.out⟩
      case round =>
        obtain ⟨k, oa, oc, hk, rfl, rfl, hown, hB⟩ := hrel
        have HOk := hideG hown
        have HBk := hideG hB
        clear hown hB
        by_cases hlt : k < (nd T n).kids.length
        · obtain ⟨kb, koff, rfl, hdd⟩ := HKC.out (by omega)
          have c1 := cell_below HBk.out (hdd k hlt)
          have hst := flat_take hlt (fun x => sl T x.toNat)
          have hle := flat_le (l := (nd T n).kids) (k + 1) (fun x => sl T x.toNat)
          have hxk : (nd T n).kids.getD k 0 ∈ (nd T n).kids := by
            rw [List.getD_eq_getElem?_getD, List.getElem?_eq_getElem hlt]; exact List.getElem_mem hlt
          obtain ⟨m, hxm, hml, ho⟩ := over_kid HFi.out hn hxk
          rw [hxm] at c1
          rw [hxm, Int.toNat_natCast] at hst
          have hbnd : (B1 ++ castL (((nd T n).kids.take k).flatMap (fun x => sl T x.toNat))).length + (sl T m).length ≤ 1000 := by
            rw [hst, List.length_append] at hle
            rw [List.length_append, castL_length]
            omega
          have HST := hideG hst
          clear hdd hst hle hxk hxm
          generalize hcur : B1 ++ castL (((nd T n).kids.take k).flatMap (fun x => sl T x.toNat)) = cur at *
          have HCUR := hideG hcur
          clear hcur
          go_wp2_with (go_at_call 147; refine (HSTEP.out m hml ho cur oa oc _ HOk.out HBk.out hbnd).mono ?_; rintro e w7 ⟨a7, c7, rfl, ho7, hb7⟩; have HO7 := hideG ho7; have HB7 := hideG hb7; clear ho7 hb7)
          have he : cur ++ castL (sl T m) = B1 ++ castL (((nd T n).kids.take (k + 1)).flatMap (fun x => sl T x.toNat)) := by rw [HST.out, castL_append, ← HCUR.out, List.append_assoc]
          have HE := hideG he
          clear he
          go_roundw
          case rel =>
            refine ⟨k + 1, a7, c7, by omega, by go_num, by rw [← HE.out, List.length_append], ?_, HB7.out⟩
            rw [← HE.out]; exact HO7.out
          case measure => simp [intOf]; omega
        · have hke : k = (nd T n).kids.length := by omega
          subst hke
          rw [List.take_length] at HOk ⊢
          go_wp2_with fail
          go_ret
          exact ⟨oa, oc, congrArg (fun l => Ending.returned (.slice oa (List.length l) oc)) HFIN.out, by rw [← HFIN.out]; exact HOk.out, HBk.out⟩
    · have HFIN := hideG (show (A ++ [(n : Int)]) ++ castL ((nd T n).kids.flatMap (fun x => sl T x.toNat)) = A ++ castL (sl T n) by
        rw [HSL.out, hr]; simp [castL])
      rw [hr] at hsn
      simp only [if_true] at hsn
      have hB1l : (A ++ [(n : Int)]).length + ((nd T n).kids.flatMap (fun x => sl T x.toNat)).length ≤ 1000 := by simp only [List.length_append, List.length_cons, List.length_nil]; omega
      have hr1 : (nd T n).root = -1 := by simpa using hr
      rw [hr1] at g5
      have HSN := hideG hsn
      clear hsn hr hr1
      have g3' := cell_below HB4.out g3
      generalize A ++ [(n : Int)] = B1 at *
      go_wp2_with fail
      have a5 := a4
      have c5 := c4
      have HO5 := HO4
      have HB5 := HB4
      go_loopw [0, 31] (fun o i wr => ∃ (k : Nat) (oa : Option Addr) (oc : Nat), k ≤ (nd T n).kids.length ∧ i = .int .i64 k ∧ o = .slice oa (B1 ++ castL (((nd T n).kids.take k).flatMap (fun x => sl T x.toNat))).length oc ∧ wr.ownsRow W.heap.size 3 1 (.slice oa (B1 ++ castL (((nd T n).kids.take k).flatMap (fun x => sl T x.toNat))).length oc) (B1 ++ castL (((nd T n).kids.take k).flatMap (fun x => sl T x.toNat))).length (intCells (B1 ++ castL (((nd T n).kids.take k).flatMap (fun x => sl T x.toNat)))) ∧ Below W.heap.size W wr) (fun _ i _ => (nd T n).kids.length - (intOf i).toNat)
      case atStart => exact ⟨0, a4, c4, Nat.zero_le _, rfl, by simp [castL], by simpa [castL] using HO5.out, HB5.out⟩
      case round =>
        obtain ⟨k, oa, oc, hk, rfl, rfl, hown, hB⟩ := hrel
        have HOk := hideG hown
        have HBk := hideG hB
        clear hown hB
        by_cases hlt : k < (nd T n).kids.length
        · obtain ⟨kb, koff, rfl, hdd⟩ := HKC.out (by omega)
          have c1 := cell_below HBk.out (hdd k hlt)
          have hst := flat_take hlt (fun x => sl T x.toNat)
          have hle := flat_le (l := (nd T n).kids) (k + 1) (fun x => sl T x.toNat)
          have hxk : (nd T n).kids.getD k 0 ∈ (nd T n).kids := by
            rw [List.getD_eq_getElem?_getD, List.getElem?_eq_getElem hlt]; exact List.getElem_mem hlt
          obtain ⟨m, hxm, hml, ho⟩ := over_kid HFi.out hn hxk
          rw [hxm] at c1
          rw [hxm, Int.toNat_natCast] at hst
          have hbnd : (B1 ++ castL (((nd T n).kids.take k).flatMap (fun x => sl T x.toNat))).length + (sl T m).length ≤ 1000 := by
            rw [hst, List.length_append] at hle
            rw [List.length_append, castL_length]
            omega
          have HST := hideG hst
          clear hdd hst hle hxk hxm
          generalize hcur : B1 ++ castL (((nd T n).kids.take k).flatMap (fun x => sl T x.toNat)) = cur at *
          have HCUR := hideG hcur
          clear hcur
          go_wp2_with (go_at_call 147; refine (HSTEP.out m hml ho cur oa oc _ HOk.out HBk.out hbnd).mono ?_; rintro e w7 ⟨a7, c7, rfl, ho7, hb7⟩; have HO7 := hideG ho7; have HB7 := hideG hb7; clear ho7 hb7)
          have he : cur ++ castL (sl T m) = B1 ++ castL (((nd T n).kids.take (k + 1)).flatMap (fun x => sl T x.toNat)) := by rw [HST.out, castL_append, ← HCUR.out, List.append_assoc]
          have HE := hideG he
          clear he
          go_roundw
          case rel =>
            refine ⟨k + 1, a7, c7, by omega, by go_num, by rw [← HE.out, List.length_append], ?_, HB7.out⟩
            rw [← HE.out]; exact HO7.out
          case measure => simp [intOf]; omega
        · have hke : k = (nd T n).kids.length := by omega
          subst hke
          rw [List.take_length] at HOk ⊢
          go_wp2_with fail
          go_ret
          exact ⟨oa, oc, congrArg (fun l => Ending.returned (.slice oa (List.length l) oc)) HFIN.out, by rw [← HFIN.out]; exact HOk.out, HBk.out⟩
set_option maxRecDepth 100000 in
set_option maxHeartbeats 1000000 in
theorem shadeList_any (T : List Nd) (hS : Sane T) (v : Value) (n : Int) (w : World) (hT : TreeAt w v T) (hlen : ∀ m : Nat, mayB T = true → m < T.length → (sl T m).length ≤ 1000) :
    Calls Tryz.prog 111 #[v, .int .i64 n] w fun e w' => ∃ a c, e = .returned (.slice a (slI T n).length c) ∧ w'.ownsRow w.heap.size 3 1 (.slice a (slI T n).length c) (slI T n).length (intCells (slI T n)) ∧ Below w.heap.size w w' := by
  have HS := hideG hS
  have HT := hideG hT
  cases hk : knownB T [n]
  · obtain ⟨ta, tc, rfl⟩ := hT.shape
    have HQ := hideG (show topI T n = -1 by simp [topI, hk])
    have hR : slI T n = [] := by simp [slI, hk]
    rw [hR]
    clear hT hS hk hR
    go_enter Tryz.func111, Tryz.ntmps111
    go_wp2_with (go_at_call 146; refine (orderTop_any T HS.out _ _ _ HT.out).mono ?_; rintro e w1 ⟨rfl, hb1⟩; rw [HQ.out])
    go_ret
    exact ⟨none, 0, rfl, World.ownsRow_nil _ _ _ _, hb1⟩
  · obtain ⟨hm, m, rfl, hml⟩ := known_one hk
    have hpos := mayB_pos hm
    obtain ⟨tb, to, tc, rfl, _⟩ := hT.at (by omega)
    have HQ := hideG (show topI T m = (topN T m : Int) by simp [topI, hk])
    have HR := hideG (show slI T m = castL (sl T m) by simp [slI, hk])
    have hne : ((topN T m : Int) == -1) = false := by simp
    have HM := hideG hm
    have hl := hlen m hm hml
    have hll : ([] : List Int).length + (sl T m).length ≤ 1000 := by simpa using hl
    clear hT hS hk hm hlen
    go_enter Tryz.func111, Tryz.ntmps111
    go_wp2_with (first | (go_at_call 146; refine (orderTop_any T HS.out _ _ _ HT.out).mono ?_; rintro e w1 ⟨rfl, hb1⟩; rw [HQ.out]; have HB1 := hideG hb1; clear hb1) | (go_at_call 147; refine (list_in T HM.out tb to tc w HT.out (T.length + 1) m hml (by omega) [] none 0 _ (World.ownsRow_nil _ _ _ _) HB1.out hll).mono ?_; rintro e w2 ⟨a2, c2, rfl, ho2, hb2⟩; rw [List.nil_append, ← HR.out] at ho2 ⊢))
    go_ret
    exact ⟨a2, c2, rfl, ho2, hb2⟩
end
theorem listS_any (T : List Nd) (hS : Sane T) (v : Value) (n : Int) (w : World) (hT : TreeAt w v T) :
    Calls Tryz.prog 111 #[v, .int .i64 n] w fun e w' => ∃ a c, e = .returned (.slice a (slI T n).length c) ∧ w'.ownsRow w.heap.size 3 1 (.slice a (slI T n).length c) (slI T n).length (intCells (slI T n)) ∧ Below w.heap.size w w' :=
  shadeList_any T hS v n w hT (fun m => sl_short m)
set_option maxHeartbeats 1000000 in
theorem refConn4_any (T : List Nd) (hm : mayB T = true) (v : Value) (b : Nat) (hb : b < T.length) (w : World) (hT : TreeAt w v T) :
    Calls Tryz.prog 117 #[v, .int .i64 (b : Int)] w fun e w' => e = .returned (.bool (aboveS T 0 (b : Int))) ∧ Below w.heap.size w w' := by
  obtain ⟨tb, to, tc, rfl, _⟩ := hT.at (by omega)
  have HT := hideG hT
  have HM := hideG hm
  clear hT hm
  go_enter Tryz.func117, Tryz.ntmps117
  go_wp2_with (go_at_call 149; refine (refAbove4_any T HM.out _ 0 b hb _ HT.out).mono ?_; rintro e w1 ⟨rfl, hb1⟩; have HB1 := hideG hb1; clear hb1)
  go_ret
  exact ⟨rfl, HB1.out⟩
end Go.Proofs.YtclhimodopgeoaaGreat

namespace Go.Proofs.YtclhimodopgeoaaGreat
open Go.RowKit

/-- Can a node of a tree that may be be a dialog? -/
def dlgB (T : List Nd) (n : Int) : Bool := isNodeB T.length n && ((nd T n.toNat).kind == 1 && ((nd T n.toNat).tag == 2 && aboveS T 0 n))
/-- A popup? -/
def popB (T : List Nd) (n : Int) : Bool := isNodeB T.length n && ((nd T n.toNat).kind == 1 && ((refGetL T n 6).2 && aboveS T 0 n))

set_option maxRecDepth 100000 in
set_option maxHeartbeats 2000000 in
theorem refDialogs_any (T : List Nd) (hm : mayB T = true) (v : Value) (n : Int) (w : World) (hT : TreeAt w v T) :
    Calls Tryz.prog 76 #[v, .int .i64 n] w fun e w' => e = .returned (.bool (dlgB T n)) ∧ Below w.heap.size w w' := by
  obtain ⟨ta, tc, rfl⟩ := hT.shape
  cases hn : isNodeB T.length n
  · have HN := hideG hn
    have HQ := hideG (show dlgB T n = false by simp [dlgB, hn])
    clear hn
    go_enter Tryz.func76, Tryz.ntmps76
    go_wp2_with (go_at_call 47; refine (refIs_any _ _ _ _ _).mono ?_; rintro e wz ⟨rfl, hwz⟩; obtain rfl : _ = wz := hwz.symm; rw [HN.out])
    go_ret
    exact ⟨ret_bool HQ.out.symm, Below.refl _ _⟩
  · obtain ⟨m, rfl, hml⟩ := isNodeB_true hn
    have HN := hideG hn
    obtain ⟨tb, to, tc', htv, hct⟩ := hT.at (by omega)
    simp only [Value.slice.injEq, true_and] at htv
    obtain ⟨rfl, rfl⟩ := htv
    obtain ⟨kv, av, hN⟩ := hct m hml
    have g0 := hN.kind
    have g1 := hN.tag
    have hm0 : (0 : Int) ≤ (m : Int) := by omega
    have hmi : (m : Int) < (T.length : Int) := by omega
    have HC := hideG (refConn4_any T hm _ m hml w hT)
    cases hk : ((nd T m).kind == 1)
    · have HQ := hideG (show dlgB T (m : Int) = false by simp [dlgB, hk])
      clear hn hct hN
      go_enter Tryz.func76, Tryz.ntmps76
      go_wp2_with (go_at_call 47; refine (refIs_any _ _ _ _ _).mono ?_; rintro e wz ⟨rfl, hwz⟩; obtain rfl : _ = wz := hwz.symm; rw [HN.out])
      go_ret
      exact ⟨ret_bool HQ.out.symm, Below.refl _ _⟩
    · cases hg : ((nd T m).tag == 2)
      · have HQ := hideG (show dlgB T (m : Int) = false by simp [dlgB, hg])
        clear hn hct hN
        go_enter Tryz.func76, Tryz.ntmps76
        go_wp2_with (go_at_call 47; refine (refIs_any _ _ _ _ _).mono ?_; rintro e wz ⟨rfl, hwz⟩; obtain rfl : _ = wz := hwz.symm; rw [HN.out])
        go_ret
        exact ⟨ret_bool HQ.out.symm, Below.refl _ _⟩
      · have HQ := hideG (show dlgB T (m : Int) = aboveS T 0 (m : Int) by simp [dlgB, hn, hk, hg])
        clear hn hct hN
        go_enter Tryz.func76, Tryz.ntmps76
        go_wp2_with (first | (go_at_call 47; refine (refIs_any _ _ _ _ _).mono ?_; rintro e wz ⟨rfl, hwz⟩; obtain rfl : _ = wz := hwz.symm; rw [HN.out]) | (go_at_call 117; refine HC.out.mono ?_; rintro e w1 ⟨rfl, hb1⟩; have HB1 := hideG hb1; clear hb1))
        go_ret
        exact ⟨ret_bool HQ.out.symm, HB1.out⟩

set_option maxRecDepth 100000 in
set_option maxHeartbeats 2000000 in
theorem refPopups_any (T : List Nd) (hS : Sane T) (hm : mayB T = true) (v : Value) (n : Int) (w : World) (hT : TreeAt w v T) :
    Calls Tryz.prog 77 #[v, .int .i64 n] w fun e w' => e = .returned (.bool (popB T n)) ∧ Below w.heap.size w w' := by
  obtain ⟨ta, tc, rfl⟩ := hT.shape
  cases hn : isNodeB T.length n
  · have HN := hideG hn
    have HQ := hideG (show popB T n = false by simp [popB, hn])
    clear hn
    go_enter Tryz.func77, Tryz.ntmps77
    go_wp2_with (go_at_call 47; refine (refIs_any _ _ _ _ _).mono ?_; rintro e wz ⟨rfl, hwz⟩; obtain rfl : _ = wz := hwz.symm; rw [HN.out])
    go_ret
    exact ⟨ret_bool HQ.out.symm, Below.refl _ _⟩
  · obtain ⟨m, rfl, hml⟩ := isNodeB_true hn
    have HN := hideG hn
    obtain ⟨tb, to, tc', htv, hct⟩ := hT.at (by omega)
    simp only [Value.slice.injEq, true_and] at htv
    obtain ⟨rfl, rfl⟩ := htv
    obtain ⟨kv, av, hN⟩ := hct m hml
    have g0 := hN.kind
    have hm0 : (0 : Int) ≤ (m : Int) := by omega
    have hmi : (m : Int) < (T.length : Int) := by omega
    have HC := hideG (refConn4_any T hm _ m hml w hT)
    have HH := hideG (refHas_any T hS _ (m : Int) 6 w hT)
    cases hk : ((nd T m).kind == 1)
    · have HQ := hideG (show popB T (m : Int) = false by simp [popB, hk])
      clear hn hct hN
      go_enter Tryz.func77, Tryz.ntmps77
      go_wp2_with (go_at_call 47; refine (refIs_any _ _ _ _ _).mono ?_; rintro e wz ⟨rfl, hwz⟩; obtain rfl : _ = wz := hwz.symm; rw [HN.out])
      go_ret
      exact ⟨ret_bool HQ.out.symm, Below.refl _ _⟩
    · cases hg : (refGetL T (m : Int) 6).2
      · have HQ := hideG (show popB T (m : Int) = false by simp [popB, hg])
        have HG := hideG hg
        clear hn hct hN hg
        go_enter Tryz.func77, Tryz.ntmps77
        go_wp2_with (first | (go_at_call 47; refine (refIs_any _ _ _ _ _).mono ?_; rintro e wz ⟨rfl, hwz⟩; obtain rfl : _ = wz := hwz.symm; rw [HN.out]) | (go_at_call 61; refine HH.out.mono ?_; rintro e wz ⟨rfl, hwz⟩; obtain rfl : _ = wz := hwz.symm; rw [HG.out]))
        go_ret
        exact ⟨ret_bool HQ.out.symm, Below.refl _ _⟩
      · have HQ := hideG (show popB T (m : Int) = aboveS T 0 (m : Int) by simp [popB, hn, hk, hg])
        have HG := hideG hg
        clear hn hct hN hg
        go_enter Tryz.func77, Tryz.ntmps77
        go_wp2_with (first | (go_at_call 47; refine (refIs_any _ _ _ _ _).mono ?_; rintro e wz ⟨rfl, hwz⟩; obtain rfl : _ = wz := hwz.symm; rw [HN.out]) | (go_at_call 61; refine HH.out.mono ?_; rintro e wz ⟨rfl, hwz⟩; obtain rfl : _ = wz := hwz.symm; rw [HG.out]) | (go_at_call 117; refine HC.out.mono ?_; rintro e w1 ⟨rfl, hb1⟩; have HB1 := hideG hb1; clear hb1))
        go_ret
        exact ⟨ret_bool HQ.out.symm, HB1.out⟩

/-- Who is connected, as package top keeps it. -/
theorem conn_list {T : List Nd} (hm : mayB T = true) (n : Int) : containsB (slI T 0) n = (isNodeB T.length n && aboveS T 0 n) := by
  have hpos := mayB_pos hm
  have h0 : (0 : Nat) < T.length := by omega
  have e0 : slI T 0 = castL (sl T 0) := slI_known hm h0
  have F := forest4 hm
  rw [e0]
  cases hn : isNodeB T.length n
  · rw [Bool.false_and]
    unfold containsB
    rw [decide_eq_false_iff_not]
    intro h
    obtain ⟨m, hmm, rfl⟩ := List.mem_map.mp h
    have hml : m < T.length := F.d_lt h0 hmm
    simp [isNodeB] at hn
    omega
  · obtain ⟨m, rfl, hml⟩ := isNodeB_true hn
    rw [Bool.true_and, contains_castL, Bool.eq_iff_iff, decide_eq_true_iff]
    exact (F.mem_d h0 hml).trans (above_iff hm hml).symm

/-- Only elements have a tag; only elements may have a Popover. -/
theorem tag_elem2 {T : List Nd} (hm : mayB T = true) {m : Nat} (hml : m < T.length) (h : ((nd T m).tag == 2) = true) : ((nd T m).kind == 1) = true := by
  have hk := (mayB_fine hm).kind m hml
  have ht : tagFitsB (nd T m).kind (nd T m).tag = true := by
    unfold kindFitsB at hk
    split at hk <;> simp only [Bool.and_eq_true] at hk <;> exact hk.2
  unfold tagFitsB at ht
  split at ht
  · assumption
  · simp only [beq_iff_eq] at ht h
    omega
end Go.Proofs.YtclhimodopgeoaaGreat

namespace Go.Proofs.YtclhimodopgeoaaGreat
open Go.RowKit
theorem set_other {w : World} {b i j : Nat} {u v : Value} (c : w.cell? ⟨b, i, none⟩ = some u) (h : j ≠ i) : (w.setCell ⟨b, j, none⟩ v).cell? ⟨b, i, none⟩ = some u := (World.cell?_setCell_other _ _ _ _ (ne_off h)).trans c
theorem set_same {w : World} {b i : Nat} {u v : Value} (c : w.cell? ⟨b, i, none⟩ = some u) : (w.setCell ⟨b, i, none⟩ v).cell? ⟨b, i, none⟩ = some v := World.cell?_setCell_same _ _ _ c
theorem below_drewS (U : World) : Below U.heap.size U U.drew := below_drew' (Below.refl _ _)
end Go.Proofs.YtclhimodopgeoaaGreat

