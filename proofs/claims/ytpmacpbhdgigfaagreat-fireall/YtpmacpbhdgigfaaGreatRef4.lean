/- OrderList, walked. ShadeList, walked. The document's own Up, Above, List, Connected, Retarget and Host of layer 4. -/
import Derived.Test.YtpmacpbhdgigfaaGreatOrdL
namespace Go.Proofs.YtpmacpbhdgigfaaGreat
open Go.RowKit

def cntP (p : Nat → Bool) (k : Nat) : Nat := ((List.range k).filter p).length
theorem cntP_true {p : Nat → Bool} {k : Nat} (h : p k = true) : cntP p (k + 1) = cntP p k + 1 := by
  unfold cntP; rw [List.range_succ, List.filter_append]; simp [h]
theorem cntP_false {p : Nat → Bool} {k : Nat} (h : p k = false) : cntP p (k + 1) = cntP p k := by
  unfold cntP; rw [List.range_succ, List.filter_append]; simp [h]
theorem cntP_le (p : Nat → Bool) (k : Nat) : cntP p k ≤ k := by
  have := List.length_filter_le p (List.range k)
  unfold cntP; simpa using this

end Go.Proofs.YtpmacpbhdgigfaaGreat
namespace Go.Proofs.YtpmacpbhdgigfaaGreat
open Go.RowKit

theorem slI_known {T : List Nd} (hm : mayB T = true) {n : Nat} (hn : n < T.length) : slI T (n : Int) = castL (sl T n) := by
  unfold slI; rw [known_of hm hn, if_pos rfl, Int.toNat_natCast]
theorem sl_short {T : List Nd} (m : Nat) (hm : mayB T = true) (h : m < T.length) : (sl T m).length ≤ 1000 := by
  have h1 := (forest4 hm).d_len h
  have h2 := mayB_pos hm
  omega
end Go.Proofs.YtpmacpbhdgigfaaGreat
namespace Go.Proofs.YtpmacpbhdgigfaaGreat
open Go.RowKit

theorem supN_le (T : List Nd) (n : Nat) : (supN T n).length ≤ T.length + 1 := by
  unfold supN; have := upsL_le T n; simp; omega
theorem supN_ne (T : List Nd) (n : Nat) : supN T n ≠ [] := by unfold supN; simp

theorem aboveS_known {T : List Nd} (hm : mayB T = true) (a : Int) {b : Nat} (hb : b < T.length) : aboveS T a (b : Int) = containsB (castL (supN T b)) a := by
  unfold aboveS; rw [supI_known hm hb]

end Go.Proofs.YtpmacpbhdgigfaaGreat
