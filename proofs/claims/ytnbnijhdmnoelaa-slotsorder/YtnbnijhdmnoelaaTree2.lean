/- hostFits and rootFits of package tree: each returns what its Lean twin says of a tree in memory. -/
import Derived.Test.YtnbnijhdmnoelaaTree
namespace Go.Proofs.Ytnbnijhdmnoelaa
open Go.RowKit

def hostFitsB (T : List Nd) (n : Nat) : Bool :=
  if (nd T n).kind != 3 then (nd T n).host == -1
  else isNodeB T.length (nd T n).host && (nd T (nd T n).host.toNat).kind == 1 && (nd T (nd T n).host.toNat).root == (n : Int)

def rootFitsB (T : List Nd) (n : Nat) : Bool :=
  if (nd T n).kind != 1 || (nd T n).root == -1 then (nd T n).root == -1
  else isNodeB T.length (nd T n).root && (nd T (nd T n).root.toNat).kind == 3 && (nd T (nd T n).root.toNat).host == (n : Int)

theorem isNodeB_true {len : Nat} {n : Int} (h : isNodeB len n = true) : ∃ m : Nat, n = m ∧ m < len := by
  simp only [isNodeB, Bool.and_eq_true, decide_eq_true_eq] at h
  exact ⟨n.toNat, by omega, by omega⟩

set_option maxHeartbeats 800000 in
theorem hostFits_any (T : List Nd) (v : Value) (n : Nat) (w : World) (hT : TreeAt w v T) (hn : n < T.length) :
    Calls Try.prog 127 #[v, .int .i64 n] w fun e w' => e = .returned (.bool (hostFitsB T n)) ∧ w' = w := by
  obtain ⟨b, off, cap, rfl, hc⟩ := hT.at (by omega)
  obtain ⟨kv, av, hN⟩ := hc n hn
  have h0 := hN.kind
  have h4 := hN.host
  clear hN hT
  cases hk : ((nd T n).kind != 3)
  · cases hi : isNodeB T.length (nd T n).host
    · clear hc
      go_enter Try.func127, Try.ntmps127
      go_wp2_with (go_at_call 136; refine (isNode_any _ _ _ _ _).mono ?_; rintro e w1 ⟨rfl, rfl⟩)
      go_ret
      exact ⟨ret_bool (by simp only [hostFitsB, hk, hi, Bool.false_eq_true, if_false, Bool.false_and]), rfl⟩
    · obtain ⟨m, hm, hlt⟩ := isNodeB_true hi
      obtain ⟨kv', av', hM⟩ := hc m hlt
      have g0 := hM.kind
      have g5 := hM.root
      clear hM hc
      have HF : Hid (hostFitsB T n = ((nd T m).kind == 1 && (nd T m).root == (n : Int))) := by
        show _ = _
        simp only [hostFitsB, hk, hi, Bool.false_eq_true, if_false, Bool.true_and]
        rw [hm, Int.toNat_natCast]
      rw [hm] at hi
      cases hk1 : ((nd T m).kind == 1)
      all_goals
        go_enter Try.func127, Try.ntmps127
        go_wp2_with (go_at_call 136; refine (isNode_any _ _ _ _ _).mono ?_; rintro e w1 ⟨rfl, rfl⟩)
        go_ret
        exact ⟨ret_bool (by rw [HF.out]; simp only [hk1, Bool.false_and, Bool.true_and]), rfl⟩
  · clear hc
    go_enter Try.func127, Try.ntmps127
    go_wp2
    go_ret
    exact ⟨ret_bool (by simp only [hostFitsB, hk, if_true]), rfl⟩

set_option maxHeartbeats 800000 in
theorem rootFits_any (T : List Nd) (v : Value) (n : Nat) (w : World) (hT : TreeAt w v T) (hn : n < T.length) :
    Calls Try.prog 128 #[v, .int .i64 n] w fun e w' => e = .returned (.bool (rootFitsB T n)) ∧ w' = w := by
  obtain ⟨b, off, cap, rfl, hc⟩ := hT.at (by omega)
  obtain ⟨kv, av, hN⟩ := hc n hn
  have h0 := hN.kind
  have h4 := hN.root
  clear hN hT
  cases hk : ((nd T n).kind != 1)
  · cases hr : ((nd T n).root == -1)
    · cases hi : isNodeB T.length (nd T n).root
      · clear hc
        go_enter Try.func128, Try.ntmps128
        go_wp2_with (go_at_call 136; refine (isNode_any _ _ _ _ _).mono ?_; rintro e w1 ⟨rfl, rfl⟩)
        go_ret
        exact ⟨ret_bool (by simp only [rootFitsB, hk, hr, hi, Bool.false_eq_true, if_false, Bool.false_and, Bool.or_self]), rfl⟩
      · obtain ⟨m, hm, hlt⟩ := isNodeB_true hi
        obtain ⟨kv', av', hM⟩ := hc m hlt
        have g0 := hM.kind
        have g5 := hM.host
        clear hM hc
        have HF : Hid (rootFitsB T n = ((nd T m).kind == 3 && (nd T m).host == (n : Int))) := by
          show _ = _
          simp only [rootFitsB, hk, hr, hi, Bool.false_eq_true, if_false, Bool.true_and, Bool.or_self]
          rw [hm, Int.toNat_natCast]
        rw [hm] at hr hi
        cases hk1 : ((nd T m).kind == 3)
        all_goals
          go_enter Try.func128, Try.ntmps128
          go_wp2_with (go_at_call 136; refine (isNode_any _ _ _ _ _).mono ?_; rintro e w1 ⟨rfl, rfl⟩)
          go_ret
          exact ⟨ret_bool (by rw [HF.out]; simp only [hk1, Bool.false_and, Bool.true_and]), rfl⟩
    · clear hc
      go_enter Try.func128, Try.ntmps128
      go_wp2
      go_ret
      exact ⟨ret_bool (by simp only [rootFitsB, hk, hr, Bool.or_true, if_true]), rfl⟩
  · clear hc
    go_enter Try.func128, Try.ntmps128
    go_wp2
    go_ret
    exact ⟨ret_bool (by simp only [rootFitsB, hk, Bool.true_or, if_true]), rfl⟩
end Go.Proofs.Ytnbnijhdmnoelaa
