/- Going up in a tree that may be: the whole way; the document's own Above. -/
import Derived.Test.YtoolkpjbbngdpaaStays2
namespace Go.Proofs.Ytoolkpjbbngdpaa
open Go.RowKit

/-- All above a node. -/
def upsL (T : List Nd) (n : Nat) : List Nat := ups T T.length n
theorem upsL_none {T : List Nd} {n : Nat} (h : (overI (nd T n) == -1) = true) : upsL T n = [] := ups_none h
theorem upsL_some {T : List Nd} (hm : mayB T = true) {n m : Nat} (hn : n < T.length) (h : overI (nd T n) = (m : Int)) : upsL T n = m :: upsL T m ∧ m < T.length := by
  have hup := mayB_upOk hm
  have hml := fine_up (mayB_fine hm) hn h
  have hl : hasLoopB T = false := by
    rw [mayB] at hm
    simp only [Bool.and_eq_true] at hm
    simpa using hm.2.2.2.2
  have e1 := ends_of_noLoop hup hl hn
  have hne : (overI (nd T n) == -1) = false := by rw [h]; simp
  refine ⟨?_, hml⟩
  unfold upsL
  rw [← ups_stable hup hn e1 (T.length + 1) (by omega), ups, hne, h]
  simp

def aboveB (T : List Nd) (a : Int) (n : Nat) : Bool := ((n : Int) == a) || isAncB T a n
theorem aboveB_hit {T : List Nd} {a : Int} {n : Nat} (h : (a == (n : Int)) = true) : aboveB T a n = true := by
  have : (n : Int) = a := by simpa using Eq.symm (by simpa using h : a = (n : Int))
  simp [aboveB, this]
theorem aboveB_none {T : List Nd} {a : Int} {n : Nat} (h : (a == (n : Int)) = false) (he : (overI (nd T n) == -1) = true) : aboveB T a n = false := by
  have hne : ((n : Int) == a) = false := by
    have : ¬ a = (n : Int) := by simpa using h
    simp; omega
  have := upsL_none he
  unfold upsL at this
  rw [aboveB, isAncB, this, hne]; rfl
theorem aboveB_some {T : List Nd} (hm : mayB T = true) {a : Int} {n m : Nat} (hn : n < T.length) (h : (a == (n : Int)) = false) (he : overI (nd T n) = (m : Int)) : aboveB T a n = aboveB T a m := by
  have hne : ((n : Int) == a) = false := by
    have : ¬ a = (n : Int) := by simpa using h
    simp; omega
  have := (upsL_some hm hn he).1
  unfold upsL at this
  rw [aboveB, isAncB, this, hne, aboveB, isAncB]
  simp

set_option maxRecDepth 100000 in
set_option maxHeartbeats 2000000 in
theorem refAbove_any (T : List Nd) (hm : mayB T = true) (v : Value) (a : Int) (p : Nat) (w : World) (hT : TreeAt w v T) (hp : p < T.length) :
    Calls Try.prog 106 #[v, .int .i64 a, .int .i64 p] w fun e w' => e = .returned (.bool (aboveB T a p)) ∧ w' = w := by
  obtain ⟨ad, cap, rfl⟩ := hT.shape
  have HT := hideG hT
  have HM := hideG hm
  have hpos := mayB_pos hm
  clear hT hm
  go_enter Try.func106, Try.ntmps106
  go_wp2_with fail
  go_loopw [2] (fun b wr => wr = w ∧ ((∃ q : Nat, q < T.length ∧ b = .int .i64 q ∧ aboveB T a q = aboveB T a p) ∨ (b = .int .i64 (-1) ∧ aboveB T a p = false))) (fun b _ => if intOf b = -1 then 0 else (upsL T (intOf b).toNat).length + 1)
  case atStart => exact ⟨rfl, .inl ⟨p, hp, rfl, rfl⟩⟩
  case round =>
    obtain ⟨rfl, hrel⟩ := hrel
    rcases hrel with ⟨q, hq, rfl, hab⟩ | ⟨rfl, hab⟩
    · have HAB := hideG hab
      clear hab
      have hq1 : ((q : Int) != -1) = true := by simp
      cases hx : (a == (q : Int))
      · cases ho : (overI (nd T q) == -1)
        · have hup := mayB_upOk HM.out
          have hnode : isNodeB T.length (overI (nd T q)) = true := by
            rcases hup q hq with h | h
            · rw [ho] at h; cases h
            · exact h
          obtain ⟨m, hmq, hml⟩ := isNodeB_true hnode
          have HO := hideG hmq
          have HS := hideG (aboveB_some HM.out hq hx hmq)
          have HL := hideG (upsL_some HM.out hq hmq).1
          clear hup hnode hmq ho
          go_wp2_with (go_at_call 91; refine (refUp_any T _ q _ HT.out hq (by omega)).mono ?_; rintro e w1 ⟨rfl, hw⟩; subst hw; rw [HO.out])
          go_roundw
          case rel => exact ⟨trivial, .inl ⟨m, hml, rfl, by rw [← HS.out]; exact HAB.out⟩⟩
          case measure =>
            have h2 : ¬ ((q : Int) = -1) := by omega
            simp only [intOf, if_neg h2, Int.toNat_natCast, HL.out]
            simp
        · have HO := hideG (show overI (nd T q) = -1 by simpa using ho)
          have HS := hideG (aboveB_none hx ho)
          clear ho
          go_wp2_with (go_at_call 91; refine (refUp_any T _ q _ HT.out hq (by omega)).mono ?_; rintro e w1 ⟨rfl, hw⟩; subst hw; rw [HO.out])
          go_roundw
          case rel => exact ⟨trivial, .inr ⟨rfl, by rw [← HAB.out]; exact HS.out⟩⟩
          case measure =>
            have h2 : ¬ ((q : Int) = -1) := by omega
            simp [intOf, h2]
      · go_wp2_with fail
        go_ret
        exact ⟨ret_bool (by rw [← HAB.out, aboveB_hit hx]), rfl⟩
    · go_wp2_with fail
      go_ret
      exact ⟨ret_bool hab.symm, rfl⟩
end Go.Proofs.Ytoolkpjbbngdpaa
