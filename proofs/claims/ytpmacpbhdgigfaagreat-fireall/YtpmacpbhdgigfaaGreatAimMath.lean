/- The way of an event: pure part of layer 7; aim.Parent. -/
import Derived.Test.YtpmacpbhdgigfaaGreatFlat1
import Derived.Test.YtpmacpbhdgigfaaGreatRef4
namespace Go.Proofs.YtpmacpbhdgigfaaGreat
open Go.RowKit

structure Ev where
  type : Int
  target : Int
  related : Int
  bub : Bool
  can : Bool
  comp : Bool
  deriving Inhabited, DecidableEq

/-- Whom an event goes to from a node. -/
def parA (T : List Nd) (tg : Nat) (comp : Bool) (n : Nat) : Int :=
  if ofN T n == -1 then (if (nd T n).kind == 3 then (if (n == topN T tg && !comp) then -1 else (nd T n).host) else (nd T n).parent) else ofN T n
def aimParI (T : List Nd) (n : Int) (e : Ev) : Int := if knownB T [e.target] && knownB T [n] then parA T e.target.toNat e.comp n.toNat else -1

theorem rk_of {T : List Nd} (hm : mayB T = true) {n s : Nat} (hn : n < T.length) (h : ofN T n = (s : Int)) : s < T.length ∧ rkF T s < rkF T n := by
  have F := forest4 hm
  rcases ofN_cases hm hn with h0 | ⟨s', p, r, hs, hsl, hpl, hrl, hp, hmem, hrr, hkr, hho, hsd, htag⟩
  · rw [h0] at h; omega
  · have hsn : s' = s := by omega
    subst hsn
    have e5 : ((r : Int) == -1) = false := by simp
    have hch : chS T p = [r] ++ chK T p := by unfold chS; rw [hrr, e5]; simp
    have hx1 : s' ∈ sl T r := by
      refine (F.mem_d hrl hsl).mpr ?_
      obtain ⟨_, hpar, _⟩ := (forest3 hm).d_segment hrl hsd
      exact pars_sup hm hsl hpar
    exact ⟨hsl, F.posU_sib hpl hch (List.mem_singleton.mpr rfl) (List.mem_map.mpr ⟨(n : Int), hmem, by simp⟩) hx1 (F.d_self hn)⟩
theorem rk_over {T : List Nd} (hm : mayB T = true) {n p : Nat} (hn : n < T.length) (h : overI (nd T n) = (p : Int)) : p < T.length ∧ rkF T p < rkF T n := by
  have hu := upsL_some hm hn h
  have h1 : p ∈ supN T n := by unfold supN; rw [hu.1]; simp
  have hne : p ≠ n := fun e => by
    subst e
    have h7 := congrArg List.length hu.1
    simp at h7
  exact ⟨hu.2, (forest4 hm).posU_anc hn h1 hne⟩
theorem parA_cases {T : List Nd} (hm : mayB T = true) (tg : Nat) (comp : Bool) {n : Nat} (hn : n < T.length) : parA T tg comp n = -1 ∨ ∃ m : Nat, m < T.length ∧ parA T tg comp n = (m : Int) ∧ rkF T m < rkF T n := by
  have hF := mayB_fine hm
  rcases ofN_cases hm hn with h | ⟨s, _, _, hs, _⟩
  · cases hk : ((nd T n).kind == 3)
    · have e : parA T tg comp n = (nd T n).parent := by unfold parA; rw [h, hk]; rfl
      rcases hF.par n hn with e1 | ⟨p, hp, e1, _⟩
      · left; rw [e, e1]
      · right
        obtain ⟨h1, h2⟩ := rk_over hm hn (over_of_parent hF hn e1)
        exact ⟨p, h1, by rw [e, e1], h2⟩
    · cases hc : (n == topN T tg && !comp)
      · have hk3 : (nd T n).kind = 3 := by simpa using hk
        obtain ⟨q, hql, hho, _, _⟩ := fine_host hF hn hk3
        right
        obtain ⟨h1, h2⟩ := rk_over hm hn (show overI (nd T n) = (q : Int) by unfold overI; rw [hk3]; exact hho)
        exact ⟨q, h1, by unfold parA; rw [h, hk, hc]; exact hho, h2⟩
      · left; unfold parA; rw [h, hk, hc]; rfl
  · right
    obtain ⟨h1, h2⟩ := rk_of hm hn hs
    have hsn : ((s : Int) == -1) = false := by simp
    exact ⟨s, h1, by unfold parA; rw [hs, hsn]; rfl, h2⟩
/-- A node and all on its way. -/
def upA (T : List Nd) (tg : Nat) (comp : Bool) (n : Nat) : List Nat := upG (parA T tg comp) T.length n
theorem upA_stable {T : List Nd} (hm : mayB T = true) (tg : Nat) (comp : Bool) : ∀ {k n : Nat}, n < T.length → rkF T n ≤ k → upG (parA T tg comp) (k + 1) n = upG (parA T tg comp) k n
  | 0, n, hn, h => by
    rcases parA_cases hm tg comp hn with e | ⟨m, _, _, hr⟩
    · simp [upG, e]
    · omega
  | k + 1, n, hn, h => by
    rcases parA_cases hm tg comp hn with e | ⟨m, hml, e, hr⟩
    · simp [upG, e]
    · have hne : (parA T tg comp n == -1) = false := by rw [e]; simp
      rw [upG, hne, e, Int.toNat_natCast, upA_stable hm tg comp hml (by omega : rkF T m ≤ k), upG, hne, e, Int.toNat_natCast]
theorem upA_none {T : List Nd} {tg : Nat} {comp : Bool} {n : Nat} (hn : n < T.length) (h : parA T tg comp n = -1) : upA T tg comp n = [n] := by
  unfold upA
  obtain ⟨k, hk⟩ : ∃ k, T.length = k + 1 := ⟨T.length - 1, by omega⟩
  rw [hk, upG, h]; rfl
theorem upA_some {T : List Nd} (hm : mayB T = true) {tg : Nat} {comp : Bool} {n m : Nat} (hn : n < T.length) (h : parA T tg comp n = (m : Int)) : m < T.length ∧ upA T tg comp n = n :: upA T tg comp m ∧ rkF T m < rkF T n := by
  rcases parA_cases hm tg comp hn with e | ⟨q, hql, e, hr⟩
  · omega
  · have : q = m := by omega
    subst this
    refine ⟨hql, ?_, hr⟩
    have hle : rkF T n < T.length := (forest4 hm).posU_lt hn
    unfold upA
    obtain ⟨k, hk⟩ : ∃ k, T.length = k + 1 := ⟨T.length - 1, by omega⟩
    have hne : (parA T tg comp n == -1) = false := by rw [h]; simp
    rw [hk, upG, hne, h, Int.toNat_natCast, upA_stable hm tg comp hql (by omega)]; rfl
end Go.Proofs.YtpmacpbhdgigfaaGreat
