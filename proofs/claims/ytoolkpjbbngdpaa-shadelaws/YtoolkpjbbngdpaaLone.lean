/- lone and slices.Index: what they return. -/
import Derived.Test.YtoolkpjbbngdpaaPush
namespace Go.Proofs.Ytoolkpjbbngdpaa
open Go.RowKit

theorem ret_ti {v v' : Value} {a b : Int} (hv : v = v') (h : a = b) : Ending.returned (.tuple #[v, .int .i64 a]) = .returned (.tuple #[v', .int .i64 b]) := by rw [hv, h]
theorem ret_tii {v v' : Value} {a b c d : Int} (hv : v = v') (h : a = b) (h2 : c = d) : Ending.returned (.tuple #[v, .int .i64 a, .int .i64 c]) = .returned (.tuple #[v', .int .i64 b, .int .i64 d]) := by rw [hv, h, h2]

/-- The first place of a number in a list; the list's length, if it is not there. -/
def idxL (x : Int) : List Int → Nat
  | [] => 0
  | a :: l => if x == a then 0 else idxL x l + 1
def indexI (l : List Int) (x : Int) : Int := if idxL x l < l.length then (idxL x l : Int) else -1

theorem idxL_le (x : Int) : ∀ l : List Int, idxL x l ≤ l.length
  | [] => Nat.le_refl _
  | a :: l => by
    simp only [idxL]
    split
    · exact Nat.zero_le _
    · have := idxL_le x l
      simp; omega
theorem idxL_mem {x : Int} : ∀ {l : List Int}, x ∈ l → idxL x l < l.length
  | [], h => by simp at h
  | a :: l, h => by
    simp only [idxL]
    cases e : (x == a)
    · rcases List.mem_cons.mp h with rfl | h
      · simp at e
      · have := idxL_mem h
        simp; omega
    · simp
theorem idx_hit {x : Int} : ∀ {l : List Int} {k : Nat}, k < l.length → (∀ j, j < k → (x == l.getD j 0) = false) → (x == l.getD k 0) = true → idxL x l = k
  | [], k, h, _, _ => by simp at h
  | a :: l, 0, _, _, h => by
    have h : (x == a) = true := by simpa using h
    simp only [idxL, h, if_true]
  | a :: l, k + 1, h, hb, hk => by
    have h0 : (x == a) = false := by have := hb 0 (by omega); simpa using this
    simp only [idxL, h0, Bool.false_eq_true, if_false]
    rw [idx_hit (l := l) (k := k) (by simpa using h) (fun j hj => by have := hb (j + 1) (by omega); simpa using this) (by simpa using hk)]
theorem idx_miss {x : Int} : ∀ {l : List Int}, (∀ j, j < l.length → (x == l.getD j 0) = false) → idxL x l = l.length
  | [], _ => rfl
  | a :: l, hb => by
    have h0 : (x == a) = false := by have := hb 0 (by simp); simpa using this
    simp only [idxL, h0, Bool.false_eq_true, if_false]
    rw [idx_miss (l := l) (fun j hj => by have := hb (j + 1) (by simpa using hj); simpa using this)]
    simp

set_option maxRecDepth 100000 in
set_option maxHeartbeats 1000000 in
theorem sliceIndex_any (l : List Int) (v : Value) (x : Int) (w : World) (hI : IntsAt w v l) (hl : l.length ≤ 1000000) :
    Calls Try.prog 103 #[v, .int .i64 x] w fun e w' => e = .returned (.int .i64 (indexI l x)) ∧ w' = w := by
  obtain ⟨a, cap, rfl, hc⟩ := hI
  go_enter Try.func103, Try.ntmps103
  go_wp2_with fail
  go_loopw [8] (fun i wr => ∃ k : Nat, k ≤ l.length ∧ i = .int .i64 k ∧ wr = w ∧ ∀ j, j < k → (x == l.getD j 0) = false) (fun i _ => l.length - (intOf i).toNat)
  case atStart => exact ⟨0, Nat.zero_le _, rfl, rfl, fun j h => by omega⟩
  case round =>
    obtain ⟨k, hk, rfl, rfl, hno⟩ := hrel
    have HN := hideG hno
    clear hno
    by_cases hlt : k < l.length
    · obtain ⟨b, off, rfl, hd⟩ := hc (by omega)
      have c1 := hd k hlt
      clear hd hc
      cases hx : (x == l.getD k 0)
      · have HX := hideG hx
        generalize l.getD k 0 = y at hx c1
        go_wp2_with fail
        go_roundw
        case rel =>
          refine ⟨k + 1, by omega, by go_num, trivial, fun j hj => ?_⟩
          by_cases e : j = k
          · rw [e]; exact HX.out
          · exact HN.out j (by omega)
        case measure => simp [intOf]; omega
      · have HX := hideG (idx_hit hlt HN.out hx)
        generalize l.getD k 0 = y at hx c1
        go_wp2_with fail
        go_ret
        exact ⟨ret_int (by rw [indexI, HX.out, if_pos hlt]), rfl⟩
    · clear hc
      have hke : k = l.length := by omega
      subst hke
      go_wp2_with fail
      go_ret
      exact ⟨ret_int (by rw [indexI, idx_miss HN.out, if_neg (by omega)]), rfl⟩

/-- A node that has nobody. -/
def lonex (k t : Int) : Nd := ⟨k, t, -1, [], -1, -1, []⟩

set_option maxRecDepth 100000 in
set_option maxHeartbeats 1000000 in
theorem lone_any (k t : Int) (w : World) :
    Calls Try.prog 70 #[.int .i64 k, .int .i64 t] w fun e w' => e = .returned (.agg #[.int .i64 k, .int .i64 t, .int .i64 (-1), .slice none 0 0, .int .i64 (-1), .int .i64 (-1), .slice none 0 0]) ∧ Below w.heap.size w w' := by
  have hb := hideG ((Below.refl _ w).alloc (Nat.le_refl _) (.cells #[.int .i64 k, .int .i64 t, .int .i64 (-1), .slice none 0 0, .int .i64 (-1), .int .i64 (-1), .slice none 0 0] 49))
  go_enter Try.func70, Try.ntmps70
  go_wp2
  refine bodyPost_ret (v := .agg #[.int .i64 k, .int .i64 t, .int .i64 (-1), .slice none 0 0, .int .i64 (-1), .int .i64 (-1), .slice none 0 0]) (by simp [results, Try.results70, go_sem]) rfl ⟨rfl, ?_⟩
  trace_state
  exact hb.out
end Go.Proofs.Ytoolkpjbbngdpaa
