/- The law's own value of a node: its first name. -/
import Derived.Test.YtahnkhgaopaaoaaS5All
namespace Go.Proofs.Ytahnkhgaopaaoaa
open Go.RowKit

set_option maxRecDepth 100000 in
set_option maxHeartbeats 2000000 in
theorem value5_any (x : Nd) (kv av : Value) (w : World) (hA : AttrsAt w av x.attrs) (hl : x.attrs.length ≤ 1000000) :
    Calls Try.prog 19 #[.agg #[.int .i64 x.kind, .int .i64 x.tag, .int .i64 x.parent, kv, .int .i64 x.host, .int .i64 x.root, av]] w fun e w' =>
      e = .returned (.int .i64 (firstL 4 x.attrs).1) ∧ Below w.heap.size w w' := by
  obtain ⟨a, cap, rfl, hc⟩ := hA
  generalize hattrs : x.attrs = l at *
  generalize x.kind = kd at *
  generalize x.tag = tg at *
  generalize x.parent = pr at *
  generalize x.host = hs at *
  generalize x.root = rt at *
  clear hattrs
  have HC := hideG hc
  clear hc
  go_enter Try.func19, Try.ntmps19
  go_wp2_with fail
  go_loopw [3] (fun i wr => ∃ (k : Nat), k ≤ l.length ∧ i = .int .i64 k ∧ firstL 4 (l.drop k) = firstL 4 l ∧
      Below w.heap.size w wr ∧ w.heap.size < wr.heap.size ∧ wr.cell? ⟨w.heap.size, 6, none⟩ = some (.slice a l.length cap)) (fun i _ => l.length - (intOf i).toNat)
  case atStart => exact ⟨0, Nat.zero_le _, rfl, rfl, (Below.refl _ w).alloc (Nat.le_refl _) _, by simp, by simp⟩
  case round =>
    obtain ⟨k, hk, rfl, hrec, hB, hz, b6⟩ := hrel
    have HB := hideG hB
    have HR := hideG hrec
    have HZ := hideG hz
    have HB6 := hideG b6
    by_cases hlt : k < l.length
    · obtain ⟨b, off, rfl, hd⟩ := HC.out (by omega)
      obtain ⟨c1, c2⟩ := hd k hlt
      replace c1 := cell_below hB c1
      replace c2 := cell_below hB c2
      have hfd := first_drop hlt 4
      clear hd hrec hB hz
      generalize l.getD k (0, 0) = A at *
      obtain ⟨A1, A2⟩ := A
      dsimp only at *
      cases hx : (A1 == 4)
      · have HE := hideG (show firstL 4 (l.drop (k + 1)) = firstL 4 l by rw [← HR.out, hfd, hx]; rfl)
        clear hfd
        go_wp2_with fail
        go_roundw
        case rel => exact ⟨k + 1, by omega, by go_num, HE.out, HB.out, HZ.out, HB6.out⟩
        case measure => simp [intOf]; omega
      · have HE := hideG (show (firstL 4 l).1 = A2 by rw [← HR.out, hfd, hx]; rfl)
        clear hfd
        go_wp2_with fail
        go_ret
        exact ⟨congrArg (fun z => Ending.returned (.int .i64 z)) HE.out.symm, HB.out⟩
    · have HE := hideG (show (firstL 4 l).1 = 0 by rw [← HR.out, List.drop_of_length_le (by omega)]; rfl)
      clear hrec hB hz
      go_wp2_with fail
      go_ret
      exact ⟨congrArg (fun z => Ending.returned (.int .i64 z)) HE.out.symm, HB.out⟩
end Go.Proofs.Ytahnkhgaopaaoaa
