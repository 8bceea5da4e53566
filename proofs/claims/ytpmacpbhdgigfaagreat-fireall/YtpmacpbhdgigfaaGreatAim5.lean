/- slices.Backward over stops. -/
import Derived.Test.YtpmacpbhdgigfaaGreatAim4
import Derived.Test.YtpmacpbhdgigfaaGreatFewOrd
import Derived.RangeFuncCalls
namespace Go.Proofs.YtpmacpbhdgigfaaGreat
open Go.RowKit Go.Shelf

attribute [local go_sem] Oper.semAt_some

theorem back0_in (a : Option Addr) (len cap : Nat) (m : Nat) (w : World) :
    CallsIn Fence.wide m Tryz.prog 168 #[.slice a len cap] w fun e w' => e = .returned (.func (.func 200) #[] #[.pointer (some ⟨w.heap.size, 0, none⟩)]) ∧ w' = w.alloc (.cells #[.slice a len cap] 158) := by
  refine callsIn_of_wp Tryz.func168 rfl trivial ?_ rfl
  simp only [Tryz.ntmps168, List.size_toArray, List.length_cons, List.length_nil, Nat.reduceAdd, Nat.reduceSub, Array.replicate_succ, Array.replicate_zero, List.push_toArray, List.append_toArray, List.nil_append, List.cons_append]
  gi_wp2
  go_ret
  exact ⟨rfl, rfl⟩

/-- What the iterator hands on at a place. -/
def backE (p : List St) (j : Nat) : Array Value := #[.int .i64 (j : Int), .agg #[.int .i64 (p.getD j stD).node, .int .i64 (p.getD j stD).tg, .int .i64 (p.getD j stD).rel]]
theorem range_rev (k : Nat) : (List.range (k + 1)).reverse = k :: (List.range k).reverse := by rw [List.range_succ, List.reverse_append]; rfl

set_option maxRecDepth 100000 in
set_option maxHeartbeats 2000000 in
theorem back1_in (p : List St) (hp : p.length ≤ 1000) (a : Option Addr) (c : Nat) (l Bs : Nat) (w2 : World) (R : World → World → Prop) (hRt : ∀ {A B C : World}, R A B → R B C → R A C) (hF : ∀ W, R w2 W → W.cell? ⟨Bs, 0, none⟩ = some (.slice a p.length c) ∧ StsAt W (.slice a p.length c) p)
    (J Jx : List Nat → World → Prop)
    (hY : ∀ pre x W, J pre W → pre.length < p.length + 1 → YieldAt Fence.wide 4 Tryz.prog l (backE p x) W fun e W' =>
      (e = .returned (.bool true) ∧ J (pre ++ [x]) W' ∧ R W W') ∨ (e = .returned (.bool false) ∧ Jx (pre ++ [x]) W'))
    (W : World) (hW : R w2 W) (h0 : J [] W) :
    CallsIn Fence.wide 5 Tryz.prog 200 #[.func (.yield l) #[] #[], .pointer (some ⟨Bs, 0, none⟩)] W fun e W' => (∃ v, e = .returned v) ∧
      ((∃ ys, ys = (List.range p.length).reverse ∧ J ys W') ∨ (∃ pre, pre <+: (List.range p.length).reverse ∧ Jx pre W')) := by
  have cB := (hF W hW).1
  have HF := hideG hF
  have HY := hideG hY
  have hw0 : IntKind.i64.wrap ((p.length : Int) - 1) = (p.length : Int) - 1 := by rw [IntKind.wrap_i64]; omega
  clear hF hY
  refine callsIn_of_wp Tryz.func200 rfl trivial ?_ rfl
  simp only [Tryz.ntmps200, List.size_toArray, List.length_cons, List.length_nil, Nat.reduceAdd, Nat.reduceSub, Array.replicate_succ, Array.replicate_zero, List.push_toArray, List.append_toArray, List.nil_append, List.cons_append]
  gi_wp2_with fail
  clear cB
  gi_loopw [3] (fun t wr => ∃ (pre : List Nat) (k : Nat), J pre wr ∧ R w2 wr ∧ k ≤ p.length ∧ t = .int .i64 ((k : Int) - 1) ∧ (List.range p.length).reverse = pre ++ (List.range k).reverse) (fun t _ => (intOf t + 1).toNat)
  case atStart => exact ⟨[], p.length, h0, hW, Nat.le_refl _, by first | rfl | simp, rfl⟩
  case round =>
    obtain ⟨pre, k, hJs, hB, hk, rfl, hpre⟩ := hrel
    have HP := hideG hpre
    clear hpre hw0
    cases k with
    | zero =>
      have e0 : ((0 : Nat) : Int) - 1 = -1 := rfl
      rw [e0]
      gi_wp2_with fail
      go_end0
      exact ⟨⟨_, rfl⟩, .inl ⟨pre, by rw [HP.out]; simp, hJs⟩⟩
    | succ k =>
      have e0 : ((k + 1 : Nat) : Int) - 1 = (k : Int) := by omega
      rw [e0]
      have hk0 : (0 : Int) ≤ (k : Int) := by omega
      have hk1 : (k : Int) < (p.length : Int) := by omega
      have hw1 : IntKind.i64.wrap ((k : Int) - 1) = (k : Int) - 1 := by rw [IntKind.wrap_i64]; omega
      have hlenp : pre.length < p.length + 1 := by
        have h1 := congrArg List.length HP.out
        simp only [List.length_reverse, List.length_range, List.length_append] at h1
        omega
      obtain ⟨cB, ⟨a', c', hav, hd⟩⟩ := HF.out _ hB
      simp only [Value.slice.injEq, true_and] at hav
      obtain ⟨rfl, rfl⟩ := hav
      obtain ⟨b, off, rfl, hd'⟩ := hd.2 (by omega)
      have hH := hd' k (by omega)
      have g0 := hH.node
      have g1 := hH.tg
      have g2 := hH.rel
      have hYk := HY.out pre k _ hJs hlenp
      unfold backE at hYk
      obtain ⟨fn, tmps, assign, body, hy, hR⟩ := hYk
      generalize p.getD k stD = x at *
      clear hd hd' hH
      gi_wp2_with fail
      refine hR.mono ?_
      rintro e W3 (⟨rfl, hJ3, hk3⟩ | ⟨rfl, hJx3⟩)
      · have hB3 := hRt hB hk3
        clear cB g0 g1 g2
        gi_wp2_with fail
        go_roundw
        case rel => exact ⟨pre ++ [k], k, hJ3, hB3, by omega, rfl, by rw [HP.out, range_rev]; simp⟩
        case measure => simp [intOf]
      · gi_wp2_with fail
        refine bodyPost_ret (results_none rfl _ _ _) rfl ?_
        refine ⟨⟨_, rfl⟩, .inr ⟨pre ++ [k], ?_, hJx3⟩⟩
        rw [HP.out, range_rev]
        exact ⟨_, by simp; rfl⟩
theorem back_stops (p : List St) (hp : p.length ≤ 1000) (a : Option Addr) (c : Nat) (Bs : Nat) (w2 : World) (R : World → World → Prop) (hRt : ∀ {A B C : World}, R A B → R B C → R A C) (hR0 : ∀ W, Below w2.heap.size w2 W → R w2 W) (hF : ∀ W, R w2 W → W.cell? ⟨Bs, 0, none⟩ = some (.slice a p.length c) ∧ StsAt W (.slice a p.length c) p) :
    SeqStopsK Fence.wide 5 Tryz.prog 200 #[.pointer (some ⟨Bs, 0, none⟩)] (backE p) R (fun ys => ys = (List.range p.length).reverse) (fun pre => pre <+: (List.range p.length).reverse) (p.length + 1) w2 :=
  fun l J Jx W hW _ _ hY h0 => back1_in p hp a c l Bs w2 R hRt hF J Jx hY W (hR0 W hW) h0
end Go.Proofs.YtpmacpbhdgigfaaGreat
