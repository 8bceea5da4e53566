/- Stops and visits, compared with themselves. -/
import Derived.Test.YtgfdcllpmjhkeaaAim10
import Derived.Laws.StructEq
namespace Go.Proofs.Ytgfdcllpmjhkeaa
open Go.RowKit

set_option maxRecDepth 100000 in
set_option maxHeartbeats 2000000 in
theorem st_eql (a b c : Int) (w : World) : (binOp .eql 36 (.agg #[.int .i64 a, .int .i64 b, .int .i64 c]) (.agg #[.int .i64 a, .int .i64 b, .int .i64 c])).run Try.prog w = .ok (.bool true) w := by
  rw [run_eql_struct, run_equalIn_agg (hp := by kernel_rfl) (ht := by kernel_rfl)]
  simp [go_sem, Op.eqFields, Try.underlying36, Try.underlying3, Program.fieldsOf]
set_option maxRecDepth 100000 in
set_option maxHeartbeats 2000000 in
theorem str_eql (a b c : Int) (w : World) : (binOp .eql 35 (.agg #[.int .i64 a, .int .i64 b, .int .i64 c]) (.agg #[.int .i64 a, .int .i64 b, .int .i64 c])).run Try.prog w = .ok (.bool true) w := by
  rw [run_eql_struct, run_equalIn_agg (hp := by kernel_rfl) (ht := by kernel_rfl)]
  simp [go_sem, Op.eqFields, Try.underlying35, Try.underlying3, Program.fieldsOf]
theorem neq_of {t : TypeId} {u : Array Value} {w : World} (h : (binOp .eql t (.agg u) (.agg u)).run Try.prog w = .ok (.bool true) w) : (binOp .neq t (.agg u) (.agg u)).run Try.prog w = .ok (.bool false) w := by
  rw [run_eql_struct] at h
  rw [run_neq_struct]
  generalize (Op.equalIn 10000 t (.agg u) (.agg u)).run Try.prog w = r at *
  cases r with
  | ok b w' => simp [Result.andThen] at h ⊢; simp [h]
  | halt x w' => simp [Result.andThen] at h
theorem st_neq (a b c : Int) (w : World) : (binOp .neq 36 (.agg #[.int .i64 a, .int .i64 b, .int .i64 c]) (.agg #[.int .i64 a, .int .i64 b, .int .i64 c])).run Try.prog w = .ok (.bool false) w := neq_of (st_eql a b c w)
theorem str_neq (a b c : Int) (w : World) : (binOp .neq 35 (.agg #[.int .i64 a, .int .i64 b, .int .i64 c]) (.agg #[.int .i64 a, .int .i64 b, .int .i64 c])).run Try.prog w = .ok (.bool false) w := neq_of (str_eql a b c w)
set_option maxRecDepth 100000 in
set_option maxHeartbeats 2000000 in
theorem vi_eql (a b c d : Int) (e : Bool) (w : World) : (binOp .eql 44 (.agg #[.int .i64 a, .int .i64 b, .int .i64 c, .int .i64 d, .bool e]) (.agg #[.int .i64 a, .int .i64 b, .int .i64 c, .int .i64 d, .bool e])).run Try.prog w = .ok (.bool true) w := by
  rw [run_eql_struct, run_equalIn_agg (hp := by kernel_rfl) (ht := by kernel_rfl)]
  simp [go_sem, Op.eqFields, Try.underlying44, Try.underlying36, Try.underlying3, Try.underlying4, Program.fieldsOf]
theorem vi_neq (a b c d : Int) (e : Bool) (w : World) : (binOp .neq 44 (.agg #[.int .i64 a, .int .i64 b, .int .i64 c, .int .i64 d, .bool e]) (.agg #[.int .i64 a, .int .i64 b, .int .i64 c, .int .i64 d, .bool e])).run Try.prog w = .ok (.bool false) w := neq_of (vi_eql a b c d e w)
end Go.Proofs.Ytgfdcllpmjhkeaa
