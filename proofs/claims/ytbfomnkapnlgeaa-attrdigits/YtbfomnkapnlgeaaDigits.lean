/- For every n, blanks and s: the law AttrDigits of package limelightlaw02 returns true, and nothing that was there has turned. No condition. -/
import Derived.Test.YtbfomnkapnlgeaaSign
namespace Go.Proofs.Ytbfomnkapnlgeaa
open Go.ChangeShapes Go.WideShapes Go.ChangeAt Go.RowKit
open Go.ChangeMaps (open_string shut_string)

/-- The digits of a number, by fuel. -/
def decL : Nat → Nat → List UInt8
  | 0, n => [UInt8.ofNat (48 + n % 10)]
  | f + 1, n => if n < 10 then [UInt8.ofNat (48 + n % 10)] else decL f (n / 10) ++ [UInt8.ofNat (48 + n % 10)]

theorem dig_nat (n : Nat) : (UInt8.ofNat (48 + n % 10)).toNat = 48 + n % 10 := by
  rw [UInt8.toNat_ofNat']
  omega
theorem dig_is (n : Nat) : digitsB [UInt8.ofNat (48 + n % 10)] = true := by
  simp only [digitsB, List.all_cons, List.all_nil, Bool.and_true, dig_nat, isDigitB, Bool.and_eq_true, decide_eq_true_eq]
  omega
theorem decL_digits : ∀ (f n : Nat), digitsB (decL f n) = true
  | 0, n => dig_is n
  | f + 1, n => by
    unfold decL
    split
    · exact dig_is n
    · have h1 := decL_digits f (n / 10)
      have h2 := dig_is n
      simp only [digitsB, List.all_append, Bool.and_eq_true] at h1 h2 ⊢
      exact ⟨h1, h2⟩
theorem valL_one (n : Nat) : valL 0 [UInt8.ofNat (48 + n % 10)] = ((n % 10 : Nat) : Int) := by
  simp only [valL, List.foldl_cons, List.foldl_nil, dig_nat]
  omega
theorem decL_val : ∀ (f n : Nat), n < 10 ^ (f + 1) → (n : Int) ≤ 2147483647 → valL 0 (decL f n) = (n : Int)
  | 0, n, h, _ => by
    have : n < 10 := by simpa using h
    show valL 0 [UInt8.ofNat (48 + n % 10)] = _
    rw [valL_one]
    omega
  | f + 1, n, h, hn => by
    unfold decL
    split
    · rw [valL_one]; omega
    · have hdiv : n / 10 < 10 ^ (f + 1) := by
        rw [Nat.pow_succ] at h
        omega
      have ih := decL_val f (n / 10) hdiv (by omega)
      have e : valL 0 (decL f (n / 10) ++ [UInt8.ofNat (48 + n % 10)]) = min (valL 0 (decL f (n / 10)) * 10 + (((UInt8.ofNat (48 + n % 10)).toNat : Int) - 48)) 2147483648 := by
        simp only [valL, List.foldl_append, List.foldl_cons, List.foldl_nil]
      rw [e, ih, dig_nat]
      omega
theorem decL_ne : ∀ (f n : Nat), (decL f n).isEmpty = false
  | 0, _ => rfl
  | f + 1, n => by
    unfold decL
    split
    · rfl
    · simp

theorem decL_len : ∀ (f n : Nat), (decL f n).length ≤ f + 1
  | 0, _ => Nat.le_refl _
  | f + 1, n => by
    unfold decL
    split
    · simp
    · have := decL_len f (n / 10)
      simp
      omega
theorem size_one (c : UInt8) : (⟨#[c]⟩ : ByteArray).size = 1 := rfl
theorem size_of_list {t : ByteArray} {l : List UInt8} (h : t.data.toList = l) : t.size = l.length := by
  rw [← h]
  simp

theorem run_digits_append : ∀ (l m : List UInt8) (x : St), digitsB l = true → x.run (l ++ m) = (x.run l).run m
  | [], m, x, _ => rfl
  | b :: l, m, x, h => by
    simp only [digitsB, List.all_cons, Bool.and_eq_true] at h
    have e : x.step b.toNat = some ⟨2, x.sign, min (x.size * 10 + ((b.toNat : Int) - 48)) 2147483648⟩ := by simp only [St.step, h.1, if_true]
    rw [List.cons_append, St.run, St.run, e]
    exact run_digits_append l m _ h.2
theorem run_blanks (m : List UInt8) : ∀ k : Nat, St.run ⟨0, 1, 0⟩ (List.replicate k 32 ++ m) = St.run ⟨0, 1, 0⟩ m
  | 0 => rfl
  | k + 1 => by
    rw [List.replicate_succ, List.cons_append]
    exact (show St.run ⟨0, 1, 0⟩ (32 :: (List.replicate k 32 ++ m)) = St.run ⟨0, 1, 0⟩ (List.replicate k 32 ++ m) from rfl).trans (run_blanks m k)
theorem idx_written {k n : Nat} (hn : (n : Int) ≤ 2147483647) : idx (List.replicate k 32 ++ (decL 9 n ++ [59])) = ((n : Int), true) := by
  unfold idx
  rw [run_blanks, run_digits_append _ _ _ (decL_digits 9 n), run_digits _ _ (decL_digits 9 n), decL_ne]
  simp only [Bool.false_eq_true, if_false]
  rw [show valL 0 (decL 9 n) = (n : Int) from decL_val 9 n (by omega) hn]
  rw [show St.run ⟨2, 1, (n : Int)⟩ [59] = ⟨2, 1, (n : Int)⟩ from rfl]
  simp
  omega
theorem run_ok : ∀ (l : List UInt8) (x : St), x.ok → (x.run l).ok
  | [], _, h => h
  | b :: l, x, h => by
    rw [St.run]
    cases e : x.step b.toNat with
    | none => exact h
    | some y => exact run_ok l y (St.ok_step h e)
theorem idx_bounds (l : List UInt8) : -2147483648 ≤ (idx l).1 ∧ (idx l).1 < 2147483648 := by
  obtain ⟨_, h2, h3, h4⟩ := run_ok l ⟨0, 1, 0⟩ ⟨.inl rfl, .inl rfl, by decide, by decide⟩
  unfold idx
  simp only
  split
  · rcases h2 with e | e <;> (rw [e]; simp; omega)
  · simp

theorem str_data {xs : List Int} : (strOfNums xs).data.toList = xs.map fun n => UInt8.ofNat n.toNat := rfl

set_option maxRecDepth 100000 in
set_option maxHeartbeats 2000000 in
theorem digits_any : ∀ (f n : Nat), f ≤ 9 → n < 10 ^ (f + 1) → (n : Int) ≤ 2147483647 → ∀ w : World, Calls Try.prog 43 #[.int .i64 n] w fun e w' => ∃ t, e = .returned (.string t) ∧ t.data.toList = decL f n ∧ Below w.heap.size w w'
  | f, n, hf9, h, hn, w => by
    have h0 : (0 : Int) ≤ n := by omega
    have hcv := run_convert_bytes_arg (P := Try.prog) (w.alloc (.cells #[.int .u8 (48 + (n : Int) % 10)] 5)) 85 5 Try.underlying85 Try.underlying5 w.heap.size 0 1 1 [48 + (n : Int) % 10] rfl (fun i hi => by
      have : i = 0 := by omega
      subst this
      simp) 9 Try.underlying9
    have hd : (strOfNums [48 + (n : Int) % 10]).data.toList = [UInt8.ofNat (48 + n % 10)] := by
      rw [str_data]
      simp only [List.map_cons, List.map_nil]
      congr 2
    have HD := hide90 hd
    generalize strOfNums [48 + (n : Int) % 10] = S at *
    have hb0 : Below w.heap.size w (w.alloc (.cells #[.int .u8 (48 + (n : Int) % 10)] 5)) := (Below.refl _ w).alloc (Nat.le_refl _) _
    have HB := hide90 hb0
    clear hd hb0
    by_cases h10 : (n : Int) < 10
    · have hlt : n < 10 := by omega
      have HL : Hid (decL f n = [UInt8.ofNat (48 + n % 10)]) := by
        show _ = _
        cases f with
        | zero => rfl
        | succ f => unfold decL; rw [if_pos hlt]
      clear hlt h
      go_enter Try.func43, Try.ntmps43
      go_wp2_with fail
      go_ret
      exact ⟨S, rfl, by rw [HD.out, HL.out], HB.out⟩
    · cases f with
      | zero => exact absurd h (by simp; omega)
      | succ f =>
        have hdiv : n / 10 < 10 ^ (f + 1) := by
          rw [Nat.pow_succ] at h
          omega
        have HL : Hid (decL (f + 1) n = decL f (n / 10) ++ [UInt8.ofNat (48 + n % 10)]) := by
          show _ = _
          unfold decL
          rw [if_neg (by omega)]
          cases f <;> rfl
        have ih := digits_any f (n / 10) (by omega) hdiv (by omega) (w.alloc (.cells #[.int .u8 (48 + (n : Int) % 10)] 5))
        have HI := hide90 ih
        clear ih h hdiv
        go_enter Try.func43, Try.ntmps43
        go_wp2_with fail
        rw [show ((n : Int) / 10) = ((n / 10 : Nat) : Int) by omega]
        refine HI.out.mono ?_
        rintro e w1 ⟨t, rfl, ht, hb1⟩
        have hts : t.size ≤ 11 := by
          have := decL_len f (n / 10)
          rw [size_of_list ht]; omega
        have hSs : S.size ≤ 1 := by rw [size_of_list HD.out]; simp
        have HT := hide90 ht
        have hbb := HB.out.trans (hb1.mono HB.out.size)
        have HBB := hide90 hbb
        clear ht hb1 hbb HI hcv
        go_wp2_with fail
        go_ret
        refine ⟨t ++ S, rfl, ?_, HBB.out⟩
        rw [ByteArray.data_append, Array.toList_append, HT.out, HD.out, HL.out]

set_option maxRecDepth 100000 in
set_option maxHeartbeats 2000000 in
theorem digits_walk (n blanks : Int) (s : ByteArray) (hs : s.size ≤ maxLen) (w : World) :
    Calls Try.prog 12 #[.int .i64 n, .int .i64 blanks, .string s] w fun e w' => e = .returned (.bool true) ∧ Below w.heap.size w w' := by
  unfold maxLen at hs
  by_cases h : 0 ≤ n ∧ n ≤ 2147483647 ∧ 0 ≤ blanks ∧ blanks ≤ 20 ∧ (s.size : Int) ≤ 100
  · obtain ⟨h1, h2, h3, h4, h5⟩ := h
    obtain ⟨m, rfl⟩ := Int.eq_ofNat_of_zero_le h1
    obtain ⟨q, rfl⟩ := Int.eq_ofNat_of_zero_le h3
    have d1 : decide ((m : Int) < 0) = false := decide_eq_false (by omega)
    have d2 : decide ((2147483647 : Int) < (m : Int)) = false := decide_eq_false (by omega)
    have d3 : decide ((q : Int) < 0) = false := decide_eq_false (by omega)
    have d4 : decide ((20 : Int) < (q : Int)) = false := decide_eq_false (by omega)
    have d5 : decide ((100 : Int) < (s.size : Int)) = false := decide_eq_false (by omega)
    have hpow : m < 10 ^ (9 + 1) := by omega
    have HDig := hide90 (digits_any 9 m (Nat.le_refl _) hpow h2)
    clear hpow
    go_enter Try.func12, Try.ntmps12
    go_wp2_with (go_at_call 43; refine (HDig.out _).mono ?_; rintro e w1 ⟨t, rfl, ht, hb1⟩; have hts : t.size ≤ 11 := (by have := decL_len 9 m; rw [size_of_list ht]; omega); have HT := hide90 ht; clear ht)
    go_loop [7, 8] (fun x i => ∃ (k : Nat) (y : ByteArray), k ≤ q ∧ i = .int .i64 k ∧ x = .string y ∧ y.size ≤ 100 ∧ Hid (y.data.toList = List.replicate k 32 ++ (decL 9 m ++ [59]))) (fun _ i => q - (intOf i).toNat)
    case atStart =>
      refine ⟨0, _, Nat.zero_le _, rfl, rfl, by rw [ByteArray.size_append, size_one]; omega, ?_⟩
      show _ = _
      rw [ByteArray.data_append, Array.toList_append, HT.out]
      rfl
    case round =>
      obtain ⟨k, y, hk, rfl, rfl, hys, HY⟩ := hrel
      have hys2 : y.size ≤ k + 11 := by
        have := decL_len 9 m
        rw [size_of_list HY.out]
        simp
        omega
      by_cases hlt : k < q
      · go_wp2_with fail
        go_round
        case rel =>
          refine ⟨k + 1, _, by omega, by go_num, rfl, by rw [ByteArray.size_append, size_one]; omega, ?_⟩
          show _ = _
          rw [ByteArray.data_append, Array.toList_append, HY.out, List.replicate_succ]
          rfl
        case measure => simp [intOf]; omega
      · have hke : k = q := by omega
        subst hke
        have hbd := idx_bounds s.data.toList
        obtain ⟨b, c, hbc⟩ : ∃ b c, idx s.data.toList = (b, c) := ⟨_, _, rfl⟩
        rw [hbc] at hbd
        obtain ⟨hb3, hb4⟩ := hbd
        dsimp only at hb3 hb4
        have HBC := hide90 hbc
        clear hbc
        go_wp2_with fail
        refine (lindex y m true (by rw [HY.out]; exact idx_written h2) _).mono ?_
        rintro e w2 ⟨rfl, hb2⟩
        go_wp2_with fail
        refine (lindex s b c HBC.out _).mono ?_
        rintro e w3 ⟨rfl, hb5⟩
        go_wp2_with (go_at_call 33; refine (live2_any _).mono ?_; rintro e w4 ⟨rfl, hb6⟩)
        go_ret
        have s1 := hb1.size
        have s2 := hb2.size
        have s3 := hb5.size
        exact ⟨rfl, ((hb1.trans (hb2.mono (by omega))).trans (hb5.mono (by omega))).trans (hb6.mono (by omega))⟩
  · have hor : n < 0 ∨ (¬ n < 0 ∧ 2147483647 < n) ∨ (¬ n < 0 ∧ ¬ 2147483647 < n ∧ blanks < 0) ∨ (¬ n < 0 ∧ ¬ 2147483647 < n ∧ ¬ blanks < 0 ∧ 20 < blanks) ∨ (¬ n < 0 ∧ ¬ 2147483647 < n ∧ ¬ blanks < 0 ∧ ¬ 20 < blanks ∧ 100 < (s.size : Int)) := by omega
    clear h
    rcases hor with h | ⟨h1, h⟩ | ⟨h1, h2, h⟩ | ⟨h1, h2, h3, h⟩ | ⟨h1, h2, h3, h4, h⟩
    · go_enter Try.func12, Try.ntmps12
      go_wp2_with (go_at_call 33; refine (live2_any _).mono ?_; rintro e w1 ⟨rfl, hb1⟩)
      go_ret
      exact ⟨rfl, hb1⟩
    · have d1 : decide (n < 0) = false := by simpa using h1
      go_enter Try.func12, Try.ntmps12
      go_wp2_with (go_at_call 33; refine (live2_any _).mono ?_; rintro e w1 ⟨rfl, hb1⟩)
      go_ret
      exact ⟨rfl, hb1⟩
    · have d1 : decide (n < 0) = false := by simpa using h1
      have d2 : decide (2147483647 < n) = false := by simpa using h2
      go_enter Try.func12, Try.ntmps12
      go_wp2_with (go_at_call 33; refine (live2_any _).mono ?_; rintro e w1 ⟨rfl, hb1⟩)
      go_ret
      exact ⟨rfl, hb1⟩
    · have d1 : decide (n < 0) = false := by simpa using h1
      have d2 : decide (2147483647 < n) = false := by simpa using h2
      have d3 : decide (blanks < 0) = false := by simpa using h3
      go_enter Try.func12, Try.ntmps12
      go_wp2_with (go_at_call 33; refine (live2_any _).mono ?_; rintro e w1 ⟨rfl, hb1⟩)
      go_ret
      exact ⟨rfl, hb1⟩
    · have d1 : decide (n < 0) = false := by simpa using h1
      have d2 : decide (2147483647 < n) = false := by simpa using h2
      have d3 : decide (blanks < 0) = false := by simpa using h3
      have d4 : decide (20 < blanks) = false := by simpa using h4
      go_enter Try.func12, Try.ntmps12
      go_wp2_with (go_at_call 33; refine (live2_any _).mono ?_; rintro e w1 ⟨rfl, hb1⟩)
      go_ret
      exact ⟨rfl, hb1⟩

set_option maxRecDepth 100000 in
theorem digits_lifted (os : Os) (started : os.Started) (H : Type) (enc : TypeId × Value → H) :
    ReturnsInHanded {} Try.checked os 12 .any (Rows.attrDigitsSpec.pre6 enc Try.prog Try.f12 Rows.attrDigitsRow.domain false) (Rows.attrDigitsSpec.post enc Try.prog Try.f12 false true false false) := by
  refine returnsInHanded_of_change (C := Try.checked) (by kernel_rfl) started (by kernel_rfl) Try.func12
    (ChangeSpec.witness6 (enc := enc) (C := Try.checked) false ⟨#[], #[.int .i64 0, .int .i64 0, .string ByteArray.empty], []⟩ 8 (by kernel_rfl) (by kernel_rfl) (by kernel_rfl) (by kernel_rfl)) ?_
  intro W base args ds gs before hval0 hW _ _
  have hval : ∀ (j : Nat) t v, Try.f12.params[j]? = some t → args[j]? = some v → Value.okWide Try.prog W .any base t v := hval0
  have hW' := hW
  obtain ⟨p, q, hA0, hV, rfl, hfz, hnd⟩ := hW
  have hA : DataW.TrodAll enc Try.prog W 0 (fun _ => true) true Try.f12.params.toList args.toList ds p := hA0
  rw [Try.params12] at hA hval
  obtain ⟨v0, vs0, d0, ds0, p0, q0, hargs, rfl, rfl, h0, r0⟩ := trodAll_cons hA
  obtain ⟨v1, vs1, d1, ds1, p1, q1, rfl, rfl, rfl, h1, r1⟩ := trodAll_cons r0
  obtain ⟨v2, vs2, d2, ds2, p2, q2, rfl, rfl, rfl, h2, r2⟩ := trodAll_cons r1
  obtain ⟨rfl, rfl, rfl⟩ := trodAll_nil r2
  obtain rfl : args = #[v0, v1, v2] := by cases args; simp_all
  obtain ⟨rfl, rfl⟩ := trodVars_none hV
  obtain ⟨a0, rfl, rfl, rfl, w0⟩ := open_int Try.underlying3 (hval 0 3 v0 rfl rfl) h0
  obtain ⟨a1, rfl, rfl, rfl, w1⟩ := open_int Try.underlying3 (hval 1 3 v1 rfl rfl) h1
  obtain ⟨a2, rfl, rfl, rfl, w2⟩ := open_string Try.underlying9 (hval 2 9 v2 rfl rfl) h2
  clear hA0 hval0
  simp only [List.append_nil] at hW'
  refine (digits_walk a0 a1 a2 w2 W).mono fun e W' ⟨he, hg⟩ => ?_
  subst he
  exact ⟨_, rfl, _, _, _, [], [], [], hW', trodAll_cons_mk (shut_bool Try.underlying4 _) trodAll_mk0, trodAll_cons_mk (shut_int Try.underlying3 w0) (trodAll_cons_mk (shut_int Try.underlying3 w1) (trodAll_cons_mk (shut_string Try.underlying9 w2) trodAll_mk0)), rfl, hg.frame _, fun h => by cases h⟩

/-- THE STATEMENT. -/
theorem attrDigits_holds : Rows.AttrDigitsSaid :=
  OpenClaim.holds_of_wide 12 Try.f12 rfl rfl rfl rfl rfl rfl rfl ⟨rfl, rfl, rfl, rfl, rfl⟩ rfl rfl rfl rfl rfl (by kernel_rfl) Try.func12 (by kernel_rfl)
    (of_decide_eq_true (by kernel_rfl)) (by unfold Func.isWrapper; first | (rw [if_pos (by decide +kernel)]; kernel_rfl) | (rw [if_neg (by decide +kernel)]; exact ⟨rfl, rfl⟩))
    (fun os started H enc _ => digits_lifted os started H enc)
#print axioms attrDigits_holds
end Go.Proofs.Ytbfomnkapnlgeaa
