/- attr.search: where a name is among attributes, or would go. -/
import Derived.Deep.QuietTactic
import Derived.BigQuiet
import Derived.Test.YtbfomnkapnlgeaaCopy2
namespace Go.Proofs.Ytbfomnkapnlgeaa
open Go.RowKit

def searchL (name : Int) : List (Int × Int) → Nat × Bool
  | [] => (0, false)
  | a :: l => if name ≤ a.1 then (0, a.1 == name) else ((searchL name l).1 + 1, (searchL name l).2)

theorem search_hit {name : Int} : ∀ {l : List (Int × Int)} {k : Nat}, k < l.length → (∀ j, j < k → (l.getD j (0, 0)).1 < name) → name ≤ (l.getD k (0, 0)).1 → searchL name l = (k, (l.getD k (0, 0)).1 == name)
  | [], k, h, _, _ => by simp at h
  | a :: l, 0, _, _, h => by simp only [searchL]; rw [if_pos (by simpa using h)]; rfl
  | a :: l, k + 1, h, hb, hk => by
    have h0 := hb 0 (by omega)
    simp only [searchL]
    rw [if_neg (by simp at h0; omega), search_hit (l := l) (k := k) (by simpa using h) (fun j hj => by have := hb (j + 1) (by omega); simpa using this) (by simpa using hk)]
    simp
theorem search_miss {name : Int} : ∀ {l : List (Int × Int)}, (∀ j, j < l.length → (l.getD j (0, 0)).1 < name) → searchL name l = (l.length, false)
  | [], _ => rfl
  | a :: l, hb => by
    have h0 := hb 0 (by simp)
    simp only [searchL]
    rw [if_neg (by simp at h0; omega), search_miss (l := l) (fun j hj => by have := hb (j + 1) (by simpa using hj); simpa using this)]
    simp

theorem ret_ib {a a' : Int} {b b' : Bool} (h : a = a') (h' : b = b') : Ending.returned (.tuple #[.int .i64 a, .bool b]) = .returned (.tuple #[.int .i64 a', .bool b']) := by rw [h, h']

set_option maxRecDepth 100000 in
set_option maxHeartbeats 1000000 in
theorem search_any (l : List (Int × Int)) (v : Value) (name : Int) (w : World) (hA : AttrsAt w v l) (hl : l.length ≤ 1000000) :
    Calls Try.prog 62 #[v, .int .i64 name] w fun e w' => e = .returned (.tuple #[.int .i64 (searchL name l).1, .bool (searchL name l).2]) ∧ Below w.heap.size w w' := by
  obtain ⟨a, cap, rfl, hc⟩ := hA
  have HC : Hid (0 < l.length → ∃ b off, a = some ⟨b, off, none⟩ ∧ ∀ j, j < l.length → w.cell? ⟨b, off + j * 2, none⟩ = some (.int .i64 (l.getD j (0, 0)).1) ∧ w.cell? ⟨b, off + j * 2 + 1, none⟩ = some (.int .i64 (l.getD j (0, 0)).2)) := hc
  clear hc
  go_enter Try.func62, Try.ntmps62
  go_wp2_with fail
  go_loopw [10] (fun i wr => ∃ k : Nat, k ≤ l.length ∧ i = .int .i64 k ∧ (∀ j, j < k → (l.getD j (0, 0)).1 < name) ∧ Below w.heap.size w wr) (fun i _ => l.length - (intOf i).toNat)
  case atStart => exact ⟨0, Nat.zero_le _, rfl, fun j h => by omega, Below.refl _ _⟩
  case round =>
    obtain ⟨k, hk, rfl, hno, hB⟩ := hrel
    have HN : Hid (∀ j, j < k → (l.getD j (0, 0)).1 < name) := hno
    clear hno
    by_cases hlt : k < l.length
    · obtain ⟨b, off, rfl, hd⟩ := HC.out (by omega)
      obtain ⟨c1, c2⟩ := hd k hlt
      have hbz : b < w.heap.size := below_of_cell c1
      have g1 := (hB.cell (p := ⟨b, off + k * 2, none⟩) hbz).trans c1
      have g2 := (hB.cell (p := ⟨b, off + k * 2 + 1, none⟩) hbz).trans c2
      have hbz' : b < wr.heap.size := by have := hB.size; omega
      generalize hA : l.getD k (0, 0) = A at *
      obtain ⟨A1, A2⟩ := A
      have HA : Hid (l.getD k (0, 0) = (A1, A2)) := hA
      dsimp only at g1 g2
      clear hd c1 c2 hA
      by_cases hle : name ≤ A1
      · go_wp2_with fail
        go_quiet (fail)
        go_wp2_with fail
        go_ret2
        have e := search_hit hlt HN.out (by rw [HA.out]; exact hle)
        rw [HA.out] at e
        exact ⟨ret_ib (by rw [e]) (by rw [e]), below_drewN (hB.alloc hB.size _) _⟩
      · go_wp2_with fail
        go_roundw
        case rel =>
          refine ⟨k + 1, by omega, by go_num, fun j hj => ?_, hB.alloc hB.size _⟩
          by_cases e : j = k
          · subst e; rw [HA.out]; show A1 < name; omega
          · exact HN.out j (by omega)
        case measure => simp [intOf]; omega
    · have hke : k = l.length := by omega
      subst hke
      go_wp2_with fail
      go_ret2
      have e := search_miss HN.out
      exact ⟨ret_ib (by rw [e]) (by rw [e]), hB⟩
end Go.Proofs.Ytbfomnkapnlgeaa
