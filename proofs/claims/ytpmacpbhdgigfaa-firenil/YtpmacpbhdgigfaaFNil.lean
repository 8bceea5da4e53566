/- FireNil, walked. -/
import Derived.Test.YtpmacpbhdgigfaaLive9
import Derived.Test.YtpmacpbhdgigfaaFireMath
namespace Go.Proofs.Ytpmacpbhdgigfaa
open Go.RowKit
open L8 (Hr hrD HearAt HearsAt forL hearsP hearCells dropL)

set_option maxRecDepth 100000 in
set_option maxHeartbeats 4000000 in
theorem fireNil_walk (l : List Hr) (v : Value) (s : Bool) (w : World) (hL : HearsAt w v l) :
    Calls Try.prog 4 #[v, .bool s] w fun x w' => x = .returned (.bool true) ∧ Below w.heap.size w w' := by
  obtain ⟨a, c, rfl⟩ := hL.shape
  clear hL
  have heq := fun wx => cl_eql 0 0 false false 0 0 0 0 0 false wx
  go_enter Try.func4, Try.ntmps4
  go_wp2_with fail
  refine (tellNil_any s false false w).mono ?_
  rintro ex w1 ⟨rfl, hb1⟩
  have HB1 := hideG hb1
  clear hb1
  go_wp2_with fail
  refine (nextNil_any a l.length c w1).mono ?_
  rintro ex w2 ⟨rfl, hb2⟩
  simp only [callZ]
  have HB2 := hideG (HB1.out.trans (hb2.mono HB1.out.size))
  have HB3 := hideG (HB2.out.alloc HB2.out.size (.cells #[.int .i64 0, .int .i64 0, .bool false, .bool false, .int .i64 0, .int .i64 0, .int .i64 0, .int .i64 0, .int .i64 0, .bool false] 41))
  clear hb2
  go_wp2_with fail
  refine (cancelledNil_any _).mono ?_
  rintro ex wz ⟨rfl, hwz⟩
  obtain rfl : _ = wz := hwz.symm
  go_wp2_with fail
  refine (live9_any _).mono ?_
  rintro ex w4 ⟨rfl, hb4⟩
  have HB4 := hideG (HB3.out.trans (hb4.mono HB3.out.size))
  clear hb4
  go_wp2_with fail
  go_ret
  exact ⟨rfl, HB4.out⟩
end Go.Proofs.Ytpmacpbhdgigfaa
