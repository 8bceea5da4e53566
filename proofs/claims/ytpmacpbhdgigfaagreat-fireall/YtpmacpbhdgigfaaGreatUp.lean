/- over, ancestors, isAncestor of package tree: going up in a tree in memory, by a range over a function. -/
import Derived.RangeFuncFrom
import Derived.RangeFuncLeaves
import Derived.Shelf.Abstract
import Derived.OwnWalkIn
import Derived.TacticsInMore
import Derived.LoopNIn
import Derived.LoopIn
import Derived.Test.YtpmacpbhdgigfaaGreatBase
namespace Go.Proofs.YtpmacpbhdgigfaaGreat
open Go.RowKit Go.Shelf

attribute [local go_sem] Oper.semAt_some

def overI (x : Nd) : Int := if x.kind == 3 then x.host else x.parent
def ups (T : List Nd) : Nat → Nat → List Nat
  | 0, _ => []
  | m + 1, at_ => if overI (nd T at_) == -1 then [] else (overI (nd T at_)).toNat :: ups T m (overI (nd T at_)).toNat
/-- Whoever is gone up to is a node. -/
def UpOk (T : List Nd) : Prop := ∀ n, n < T.length → (overI (nd T n) == -1) = true ∨ isNodeB T.length (overI (nd T n)) = true

def nodeCells (x : Nd) (kv av : Value) : Array Value := #[.int .i64 x.kind, .int .i64 x.tag, .int .i64 x.parent, kv, .int .i64 x.host, .int .i64 x.root, av]

set_option maxHeartbeats 800000 in
theorem over_any (x : Nd) (kv av : Value) (w : World) :
    Calls Tryz.prog 238 #[.agg #[.int .i64 x.kind, .int .i64 x.tag, .int .i64 x.parent, kv, .int .i64 x.host, .int .i64 x.root, av]] w fun e w' =>
      e = .returned (.int .i64 (overI x)) ∧ w' = w.alloc (.cells #[.int .i64 x.kind, .int .i64 x.tag, .int .i64 x.parent, kv, .int .i64 x.host, .int .i64 x.root, av] 79) := by
  cases h : (x.kind == 3)
  all_goals
    go_enter Tryz.func238, Tryz.ntmps238
    go_wp2
    go_ret
    exact ⟨ret_int (by simp only [overI, h, Bool.false_eq_true, if_false, if_true]), rfl⟩

theorem anc_in (a : Option Addr) (len cap : Nat) (n : Int) (m : Nat) (w : World) :
    CallsIn Fence.wide m Tryz.prog 228 #[.slice a len cap, .int .i64 n] w fun e w' => e = .returned (.func (.func 237) #[] #[.pointer (some ⟨w.heap.size + 1, 0, none⟩), .pointer (some ⟨w.heap.size, 0, none⟩)]) ∧ w' = (w.alloc (.cells #[.slice a len cap] 23)).alloc (.cells #[.int .i64 n] 3) := by
  refine callsIn_of_wp Tryz.func228 rfl trivial ?_ rfl
  simp only [Tryz.ntmps228, List.size_toArray, List.length_cons, List.length_nil, Nat.reduceAdd, Nat.reduceSub, Array.replicate_succ, Array.replicate_zero, List.push_toArray, List.append_toArray, List.nil_append, List.cons_append]
  gi_wp2
  go_ret
  exact ⟨rfl, rfl⟩

theorem ups_none {T : List Nd} {k at_ : Nat} (h : (overI (nd T at_) == -1) = true) : ups T k at_ = [] := by
  cases k with
  | zero => rfl
  | succ k => simp only [ups, h, if_true]
theorem ups_some {T : List Nd} {k at_ m : Nat} (hk : 0 < k) (h : (overI (nd T at_) == -1) = false) (hm : overI (nd T at_) = (m : Int)) : ups T k at_ = m :: ups T (k - 1) m := by
  obtain ⟨k, rfl⟩ : ∃ j, k = j + 1 := ⟨k - 1, by omega⟩
  simp only [ups, h, Bool.false_eq_true, if_false]
  rw [hm, Int.toNat_natCast, Nat.add_sub_cancel]

set_option maxRecDepth 100000 in
set_option maxHeartbeats 2000000 in
theorem anc1_in (T : List Nd) (hup : UpOk T) (h64 : T.length ≤ 64) (v : Value) (n : Nat) (hn : n < T.length) (l Bn Bt n₀ : Nat) (w2 : World) (hn₀ : n₀ = w2.heap.size) (hT : TreeAt w2 v T)
    (hBn : w2.cell? ⟨Bn, 0, none⟩ = some (.int .i64 n)) (hBt : w2.cell? ⟨Bt, 0, none⟩ = some v) (J Jx : List Nat → World → Prop)
    (hY : ∀ pre x W, J pre W → pre.length < T.length → YieldAt Fence.wide 4 Tryz.prog l #[.int .i64 ((x : Nat) : Int)] W fun e W' =>
      (e = .returned (.bool true) ∧ J (pre ++ [x]) W' ∧ Below n₀ W W') ∨ (e = .returned (.bool false) ∧ Jx (pre ++ [x]) W'))
    (W : World) (hW : Below w2.heap.size w2 W) (hJ : AbidesFrom W.heap.size J) (h0 : J [] W) :
    CallsIn Fence.wide 5 Tryz.prog 237 #[.func (.yield l) #[] #[], .pointer (some ⟨Bn, 0, none⟩), .pointer (some ⟨Bt, 0, none⟩)] W fun e W' => (∃ v, e = .returned v) ∧
      ((∃ ys, ys = ups T T.length n ∧ J ys W') ∨ (∃ pre, pre <+: ups T T.length n ∧ Jx pre W')) := by
  obtain ⟨b, off, cap, rfl, hc⟩ := hT.at (by omega)
  have cBn := cell_below hW hBn
  have cBt := cell_below hW hBt
  have HT : Hid (∀ n, n < T.length → ∃ kv av, NodeAt w2 b (off + n * 7) (nd T n) kv av) := hc
  have HU : Hid (UpOk T) := hup
  have HBt : Hid (w2.cell? ⟨Bt, 0, none⟩ = some (.slice (some ⟨b, off, none⟩) T.length cap)) := hBt
  clear hc hup hT hBt hBn
  refine callsIn_of_wp Tryz.func237 rfl trivial ?_ rfl
  simp only [Tryz.ntmps237, List.size_toArray, List.length_cons, List.length_nil, Nat.reduceAdd, Nat.reduceSub, Array.replicate_succ, Array.replicate_zero, List.push_toArray, List.append_toArray, List.nil_append, List.cons_append]
  gi_wp2
  gi_loopw [4, 8] (fun t i wr => ∃ (k at_ : Nat) (pre : List Nat), k ≤ T.length ∧ i = .int .i64 k ∧ t = .int .i64 (at_ : Int) ∧ at_ < T.length ∧ pre.length = k ∧ ups T T.length n = pre ++ ups T (T.length - k) at_ ∧ J pre wr ∧ Below w2.heap.size w2 wr)
    (fun _ i _ => T.length - (intOf i).toNat)
  case atStart => exact ⟨0, n, [], Nat.zero_le _, rfl, rfl, hn, rfl, rfl, h0, hW⟩
  case round =>
    obtain ⟨k, at_, pre, hk, rfl, rfl, hat, hpl, hups, hJs, hB⟩ := hrel
    have HP : Hid (ups T T.length n = pre ++ ups T (T.length - k) at_) := hups
    have cBt' := cell_below hB HBt.out
    clear hups cBt cBn
    by_cases hlt : k < T.length
    · obtain ⟨kv, av, hN⟩ := HT.out at_ hat
      have hN' := hN.below hB
      have g0 := hN'.kind
      have g1 := hN'.tag
      have g2 := hN'.parent
      have g3 := hN'.kidsc
      have g4 := hN'.host
      have g5 := hN'.root
      have g6 := hN'.attrsc
      clear hN hN'
      have hJ2 : J pre (wr.alloc (.cells #[.int .i64 (nd T at_).kind, .int .i64 (nd T at_).tag, .int .i64 (nd T at_).parent, kv, .int .i64 (nd T at_).host, .int .i64 (nd T at_).root, av] 79)) :=
        hJ pre wr _ none hJs (World.grownBy_alloc wr _ none) (fun r e => by cases e)
      have hB2 : Below w2.heap.size w2 (wr.alloc (.cells #[.int .i64 (nd T at_).kind, .int .i64 (nd T at_).tag, .int .i64 (nd T at_).parent, kv, .int .i64 (nd T at_).host, .int .i64 (nd T at_).root, av] 79)) := hB.alloc hB.size _
      cases ho : (overI (nd T at_) == -1)
      · have hnode : isNodeB T.length (overI (nd T at_)) = true := by
          rcases HU.out at_ hat with h | h
          · rw [ho] at h; cases h
          · exact h
        simp only [isNodeB, Bool.and_eq_true, decide_eq_true_eq] at hnode
        obtain ⟨m, hm⟩ : ∃ m : Nat, overI (nd T at_) = m := ⟨(overI (nd T at_)).toNat, by omega⟩
        have hmlt : m < T.length := by omega
        have HO : Hid (ups T (T.length - k) at_ = m :: ups T (T.length - k - 1) m) := ups_some (by omega) ho hm
        obtain ⟨fn, tmps, assign, body, hy, hR⟩ := hY pre m _ hJ2 (by omega)
        rw [hm] at ho
        clear hnode
        gi_wp2_with (refine ⟨trivial, ?_⟩; gi_at_call 238; refine (callsIn_wide.2 (over_any _ _ _ _)).mono ?_; rintro e w1 ⟨rfl, rfl⟩)
        refine hR.mono ?_
        rintro e W3 (⟨rfl, hJ3, hk3⟩ | ⟨rfl, hJx3⟩)
        · subst hn₀
          gi_wp2
          go_roundw
          case rel =>
            refine ⟨k + 1, m, pre ++ [m], by omega, by go_num, rfl, hmlt, by simp; omega, ?_, hJ3, hB2.trans hk3⟩
            rw [HP.out, HO.out, show T.length - (k + 1) = T.length - k - 1 by omega]
            simp
          case measure => simp [intOf]; omega
        · gi_wp2
          refine bodyPost_ret (results_none rfl _ _ _) rfl ?_
          exact ⟨⟨_, rfl⟩, .inr ⟨pre ++ [m], ⟨ups T (T.length - k - 1) m, by rw [HP.out, HO.out]; simp⟩, hJx3⟩⟩
      · gi_wp2_with (refine ⟨trivial, ?_⟩; gi_at_call 238; refine (callsIn_wide.2 (over_any _ _ _ _)).mono ?_; rintro e w1 ⟨rfl, rfl⟩)
        refine ⟨fun _ h => (by cases h), ?_⟩
        gi_wp2
        refine bodyPost_ret (results_none rfl _ _ _) rfl ?_
        exact ⟨⟨_, rfl⟩, .inl ⟨pre, by rw [HP.out, ups_none ho, List.append_nil], hJ2⟩⟩
    · have hke : k = T.length := by omega
      gi_wp2
      go_end0
      exact ⟨⟨_, rfl⟩, .inl ⟨pre, by rw [HP.out, hke, Nat.sub_self]; simp [ups], hJs⟩⟩
end Go.Proofs.YtpmacpbhdgigfaaGreat
