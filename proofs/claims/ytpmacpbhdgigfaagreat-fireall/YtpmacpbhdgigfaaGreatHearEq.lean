/- Listeners, compared whole. -/
import Derived.Test.YtpmacpbhdgigfaaGreatGenH
import Derived.Laws.StructEq
namespace Go.Proofs.YtpmacpbhdgigfaaGreat.L8
open Go.RowKit

def eqC (n1 t1 : Int) (c1 o1 : Bool) (p1 n2 t2 : Int) (c2 o2 : Bool) (p2 : Int) : Bool := n1 == n2 && (t1 == t2 && (c1 == c2 && (o1 == o2 && p1 == p2)))
set_option maxRecDepth 100000 in
set_option maxHeartbeats 2000000 in
theorem hear_eql (n1 t1 : Int) (c1 o1 : Bool) (p1 n2 t2 : Int) (c2 o2 : Bool) (p2 : Int) (w : World) : (binOp .eql 35 (.agg #[.int .i64 n1, .int .i64 t1, .bool c1, .bool o1, .int .i64 p1]) (.agg #[.int .i64 n2, .int .i64 t2, .bool c2, .bool o2, .int .i64 p2])).run Tryz.prog w = .ok (.bool (eqC n1 t1 c1 o1 p1 n2 t2 c2 o2 p2)) w := by
  rw [run_eql_struct, run_equalIn_agg (hp := by kernel_rfl) (ht := by kernel_rfl)]
  cases h1 : (n1 == n2) <;> cases h2 : (t1 == t2) <;> cases h3 : (c1 == c2) <;> cases h4 : (o1 == o2) <;> cases h5 : (p1 == p2) <;> simp [eqC, h1, h2, h3, h4, h5, go_sem, Op.eqFields, Tryz.underlying35, Tryz.underlying3, Tryz.underlying4, Program.fieldsOf]
set_option maxRecDepth 100000 in
set_option maxHeartbeats 2000000 in
theorem hear_neq (n1 t1 : Int) (c1 o1 : Bool) (p1 n2 t2 : Int) (c2 o2 : Bool) (p2 : Int) (w : World) : (binOp .neq 35 (.agg #[.int .i64 n1, .int .i64 t1, .bool c1, .bool o1, .int .i64 p1]) (.agg #[.int .i64 n2, .int .i64 t2, .bool c2, .bool o2, .int .i64 p2])).run Tryz.prog w = .ok (.bool (!eqC n1 t1 c1 o1 p1 n2 t2 c2 o2 p2)) w := by
  have h := hear_eql n1 t1 c1 o1 p1 n2 t2 c2 o2 p2 w
  rw [run_eql_struct] at h
  rw [run_neq_struct]
  generalize (Op.equalIn 10000 35 (.agg #[.int .i64 n1, .int .i64 t1, .bool c1, .bool o1, .int .i64 p1]) (.agg #[.int .i64 n2, .int .i64 t2, .bool c2, .bool o2, .int .i64 p2])).run Tryz.prog w = r at *
  cases r with
  | ok b w' => simp [Result.andThen] at h ⊢; simp [h]
  | halt x w' => simp [Result.andThen] at h
end Go.Proofs.YtpmacpbhdgigfaaGreat.L8
