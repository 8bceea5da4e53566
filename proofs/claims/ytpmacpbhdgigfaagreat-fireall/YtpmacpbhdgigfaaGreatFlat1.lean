/- Package flat, the small functions: known, laidInto, slotThatShows, kids, parent. -/
import Derived.Test.YtpmacpbhdgigfaaGreatFlatMath
namespace Go.Proofs.YtpmacpbhdgigfaaGreat
open Go.RowKit

theorem ofI_nat {T : List Nd} (hm : mayB T = true) {n : Nat} (hn : n < T.length) : ofI T (n : Int) = ofN T n := by
  unfold ofI; rw [known_of hm hn, Int.toNat_natCast]; rfl

end Go.Proofs.YtpmacpbhdgigfaaGreat
