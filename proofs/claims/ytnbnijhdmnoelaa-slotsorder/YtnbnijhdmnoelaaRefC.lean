/- ends and shadow of limelightref01. -/
import Derived.Test.YtnbnijhdmnoelaaRefA
namespace Go.Proofs.Ytnbnijhdmnoelaa
open Go.RowKit

/-- Going up from a node, does one come to nobody? -/
def endsF (T : List Nd) : Nat → Int → Bool
  | 0, _ => false
  | f + 1, n => n == -1 || endsF T f (overI (nd T n.toNat))

theorem overI_ok {T : List Nd} (hup : UpOk T) {n : Nat} (hn : n < T.length) : overI (nd T n) = -1 ∨ ∃ m : Nat, overI (nd T n) = m ∧ m < T.length := by
  rcases hup n hn with h | h
  · exact Or.inl (by simpa using h)
  · exact Or.inr (isNodeB_true h)

set_option maxRecDepth 100000 in
set_option maxHeartbeats 1000000 in
theorem refEnds_any (T : List Nd) (hup : UpOk T) (h64 : T.length ≤ 64) (v : Value) (n : Nat) (hn : n < T.length) (w : World) (hT : TreeAt w v T) :
    Calls Try.prog 100 #[v, .int .i64 n] w fun e w' => e = .returned (.bool (endsF T (T.length + 1) n)) ∧ w' = w := by
  have HT : Hid (TreeAt w v T) := hT
  obtain ⟨a, cap, rfl, _⟩ := hT
  have HU : Hid (UpOk T) := hup
  clear hup
  go_enter Try.func100, Try.ntmps100
  go_wp2_with fail
  go_loopw [1, 5] (fun m i wr => ∃ (k : Nat) (x : Int), k ≤ T.length + 1 ∧ i = .int .i64 k ∧ m = .int .i64 x ∧ wr = w ∧ (x = -1 ∨ ∃ j : Nat, x = j ∧ j < T.length) ∧ endsF T (T.length + 1 - k) x = endsF T (T.length + 1) n) (fun _ i _ => T.length + 1 - (intOf i).toNat)
  case atStart => exact ⟨0, n, Nat.zero_le _, rfl, rfl, rfl, Or.inr ⟨n, rfl, hn⟩, rfl⟩
  case round =>
    obtain ⟨k, x, hk, rfl, rfl, rfl, hx, hrec⟩ := hrel
    have HR : Hid (endsF T (T.length + 1 - k) x = endsF T (T.length + 1) n) := hrec
    clear hrec
    by_cases hlt : k ≤ T.length
    · obtain ⟨f, hf⟩ : ∃ f, T.length + 1 - k = f + 1 := ⟨T.length - k, by omega⟩
      have HF : Hid (T.length + 1 - k = f + 1) := hf
      clear hf
      rcases hx with rfl | ⟨j, rfl, hj⟩
      · go_wp2_with fail
        go_ret
        exact ⟨ret_bool (by rw [← HR.out, HF.out]; rfl), rfl⟩
      · have hne : ((j : Int) == -1) = false := by simp
        have HN : Hid (overI (nd T j) = -1 ∨ ∃ m : Nat, overI (nd T j) = m ∧ m < T.length) := overI_ok HU.out hj
        have HE : Hid (endsF T (T.length + 1 - (k + 1)) (overI (nd T j)) = endsF T (T.length + 1) n) := by
          have e : T.length + 1 - (k + 1) = f := by have := HF.out; omega
          show _ = _
          rw [e, ← HR.out, HF.out, endsF, hne, Int.toNat_natCast]
          rfl
        go_wp2_with (go_at_call 87; refine (refUp_any T _ j _ HT.out hj (by omega)).mono ?_; rintro e w1 ⟨rfl, rfl⟩)
        go_roundw
        case rel => exact ⟨k + 1, _, by omega, by go_num, rfl, trivial, HN.out, HE.out⟩
        case measure => simp [intOf]; omega
    · have hke : T.length + 1 - k = 0 := by omega
      have HK : Hid (T.length + 1 - k = 0) := hke
      clear hke
      go_wp2_with fail
      go_ret
      exact ⟨ret_bool (by rw [← HR.out, HK.out]; rfl), rfl⟩

def shadowB (T : List Nd) (n : Nat) : Bool :=
  if (nd T n).kind == 3 then (nd T n).root == -1 && (nd T n).parent == -1 && isNodeB T.length (nd T n).host && (nd T (nd T n).host.toNat).kind == 1 && (nd T (nd T n).host.toNat).root == (n : Int)
  else (nd T n).host == -1 && ((nd T n).root == -1 || ((nd T n).kind == 1 && isNodeB T.length (nd T n).root && (nd T (nd T n).root.toNat).kind == 3 && (nd T (nd T n).root.toNat).host == (n : Int)))

theorem isNodeB_not {len : Nat} {n : Int} (h : isNodeB len n = false) : ¬ (0 ≤ n ∧ n < len) := by
  simp only [isNodeB, Bool.and_eq_false_iff, decide_eq_false_iff_not] at h
  omega

set_option maxRecDepth 100000 in
set_option maxHeartbeats 2000000 in
theorem refShadow_any (T : List Nd) (v : Value) (n : Nat) (w : World) (hT : TreeAt w v T) (hn : n < T.length) (h64 : T.length ≤ 64) :
    Calls Try.prog 99 #[v, .int .i64 n] w fun e w' => e = .returned (.bool (shadowB T n)) ∧ Below w.heap.size w w' := by
  obtain ⟨b, off, cap, rfl, hc⟩ := hT.at (by omega)
  obtain ⟨kv, av, hN⟩ := hc n hn
  obtain ⟨n0, n1, n2, n3, n4, n5, n6, hk, ha⟩ := hN
  obtain ⟨ka, kc, rfl, _⟩ := hk
  obtain ⟨aa, ac, rfl, _⟩ := ha
  have hbz : b < w.heap.size := below_of_cell n0
  have hB : ∀ o, Below w.heap.size w (w.alloc o) := fun o => (Below.refl _ w).alloc (Nat.le_refl _) o
  clear hT
  have HC : Hid (∀ m, m < T.length → ∃ kv av, NodeAt w b (off + m * 7) (nd T m) kv av) := hc
  clear hc
  cases h3 : ((nd T n).kind == 3)
  · cases hh : ((nd T n).host == -1)
    · have hh' : ((nd T n).host != -1) = true := by rw [bne, hh]; rfl
      go_enter Try.func99, Try.ntmps99
      go_wp2_with fail
      go_ret
      exact ⟨ret_bool (by simp only [shadowB, h3, hh, Bool.false_eq_true, if_false, Bool.false_and]), hB _⟩
    · have hh' : ((nd T n).host != -1) = false := by rw [bne, hh]; rfl
      cases hr : ((nd T n).root == -1)
      · cases h1 : ((nd T n).kind == 1)
        · go_enter Try.func99, Try.ntmps99
          go_wp2_with (go_at_call 78; refine (refIs_any _ _ _ _ _).mono ?_; rintro e w1 ⟨rfl, rfl⟩)
          go_ret
          exact ⟨ret_bool (by simp only [shadowB, h3, hh, hr, h1, Bool.false_eq_true, if_false, Bool.false_and, Bool.true_and, Bool.false_or]), hB _⟩
        · cases hi : isNodeB T.length (nd T n).root
          · go_enter Try.func99, Try.ntmps99
            go_wp2_with (go_at_call 78; refine (refIs_any _ _ _ _ _).mono ?_; rintro e w1 ⟨rfl, rfl⟩)
            go_ret
            exact ⟨ret_bool (by simp only [shadowB, h3, hh, hr, h1, hi, Bool.false_eq_true, if_false, Bool.false_and, Bool.true_and, Bool.false_or]), hB _⟩
          · obtain ⟨m, hm, hml⟩ := isNodeB_true hi
            obtain ⟨kv2, av2, hM⟩ := HC.out m hml
            have m0 := hM.kind
            have m4 := hM.host
            clear hM
            have hS : shadowB T n = ((nd T m).kind == 3 && (nd T m).host == (n : Int)) := by
              simp only [shadowB, h3, hh, hr, h1, hi, Bool.false_eq_true, if_false, Bool.true_and, Bool.false_or]
              rw [hm, Int.toNat_natCast]
            rw [hS]
            clear hS
            rw [hm] at n5 hi hr
            cases hk3 : ((nd T m).kind == 3)
            · go_enter Try.func99, Try.ntmps99
              go_wp2_with (go_at_call 78; refine (refIs_any _ _ _ _ _).mono ?_; rintro e w1 ⟨rfl, rfl⟩)
              go_ret
              exact ⟨ret_bool (by simp), hB _⟩
            · go_enter Try.func99, Try.ntmps99
              go_wp2_with (go_at_call 78; refine (refIs_any _ _ _ _ _).mono ?_; rintro e w1 ⟨rfl, rfl⟩)
              go_ret
              exact ⟨ret_bool (by simp), hB _⟩
      · go_enter Try.func99, Try.ntmps99
        go_wp2_with fail
        go_ret
        exact ⟨ret_bool (by simp only [shadowB, h3, hh, hr, Bool.false_eq_true, if_false, Bool.true_and, Bool.true_or]), hB _⟩
  · cases hr : ((nd T n).root == -1)
    · go_enter Try.func99, Try.ntmps99
      go_wp2_with (go_at_call 78; refine (refIs_any _ _ _ _ _).mono ?_; rintro e w1 ⟨rfl, rfl⟩)
      go_ret
      exact ⟨ret_bool (by simp only [shadowB, h3, hr, if_true, Bool.false_and]), hB _⟩
    · cases hp : ((nd T n).parent == -1)
      · go_enter Try.func99, Try.ntmps99
        go_wp2_with (go_at_call 78; refine (refIs_any _ _ _ _ _).mono ?_; rintro e w1 ⟨rfl, rfl⟩)
        go_ret
        exact ⟨ret_bool (by simp only [shadowB, h3, hr, hp, if_true, Bool.false_and, Bool.true_and]), hB _⟩
      · cases hi : isNodeB T.length (nd T n).host
        · go_enter Try.func99, Try.ntmps99
          go_wp2_with (go_at_call 78; refine (refIs_any _ _ _ _ _).mono ?_; rintro e w1 ⟨rfl, rfl⟩)
          go_ret
          exact ⟨ret_bool (by simp only [shadowB, h3, hr, hp, hi, if_true, Bool.false_and, Bool.true_and]), hB _⟩
        · obtain ⟨m, hm, hml⟩ := isNodeB_true hi
          obtain ⟨kv2, av2, hM⟩ := HC.out m hml
          have m0 := hM.kind
          have m5 := hM.root
          clear hM
          have hS : shadowB T n = ((nd T m).kind == 1 && (nd T m).root == (n : Int)) := by
            simp only [shadowB, h3, hr, hp, hi, if_true, Bool.true_and]
            rw [hm, Int.toNat_natCast]
          rw [hS]
          clear hS
          rw [hm] at n4 hi
          cases hk1 : ((nd T m).kind == 1)
          · go_enter Try.func99, Try.ntmps99
            go_wp2_with (go_at_call 78; refine (refIs_any _ _ _ _ _).mono ?_; rintro e w1 ⟨rfl, rfl⟩)
            go_ret
            exact ⟨ret_bool (by simp), hB _⟩
          · go_enter Try.func99, Try.ntmps99
            go_wp2_with (go_at_call 78; refine (refIs_any _ _ _ _ _).mono ?_; rintro e w1 ⟨rfl, rfl⟩)
            go_ret
            exact ⟨ret_bool (by simp), hB _⟩
end Go.Proofs.Ytnbnijhdmnoelaa
