/- aim.visit. -/
import Derived.Test.YtpmacpbhdgigfaaGreatAim3
namespace Go.Proofs.YtpmacpbhdgigfaaGreat
open Go.RowKit

set_option maxRecDepth 100000 in
set_option maxHeartbeats 2000000 in
theorem visit_any (s : St) (c : Bool) (w : World) :
    Calls Tryz.prog 169 #[.agg #[.int .i64 s.node, .int .i64 s.tg, .int .i64 s.rel], .bool c] w fun x w' => x = .returned (.agg #[.int .i64 s.node, .int .i64 s.tg, .int .i64 s.rel, .int .i64 (vis c s).phase, .bool c]) ∧ Below w.heap.size w w' := by
  cases h : (s.node == s.tg)
  · cases c
    · have HQ := hideG (show (vis false s).phase = 3 by simp [vis, h])
      go_enter Tryz.func169, Tryz.ntmps169
      go_wp2_with fail
      refine bodyPost_ret (v := .agg #[.int .i64 s.node, .int .i64 s.tg, .int .i64 s.rel, .int .i64 3, .bool false]) (by simp [results, Tryz.results169, go_sem]) rfl ⟨by rw [HQ.out], ?_⟩
      exact (((Below.refl _ w).alloc (Nat.le_refl _) _).alloc (by simp) _).alloc (by simp; omega) _
    · have HQ := hideG (show (vis true s).phase = 1 by simp [vis, h])
      go_enter Tryz.func169, Tryz.ntmps169
      go_wp2_with fail
      refine bodyPost_ret (v := .agg #[.int .i64 s.node, .int .i64 s.tg, .int .i64 s.rel, .int .i64 1, .bool true]) (by simp [results, Tryz.results169, go_sem]) rfl ⟨by rw [HQ.out], ?_⟩
      exact (((Below.refl _ w).alloc (Nat.le_refl _) _).alloc (by simp) _).alloc (by simp; omega) _
  · have HQ := hideG (show (vis c s).phase = 2 by simp [vis, h])
    go_enter Tryz.func169, Tryz.ntmps169
    go_wp2_with fail
    refine bodyPost_ret (v := .agg #[.int .i64 s.node, .int .i64 s.tg, .int .i64 s.rel, .int .i64 2, .bool c]) (by simp [results, Tryz.results169, go_sem]) rfl ⟨by rw [HQ.out], ?_⟩
    exact (((Below.refl _ w).alloc (Nat.le_refl _) _).alloc (by simp) _).alloc (by simp; omega) _
end Go.Proofs.YtpmacpbhdgigfaaGreat
