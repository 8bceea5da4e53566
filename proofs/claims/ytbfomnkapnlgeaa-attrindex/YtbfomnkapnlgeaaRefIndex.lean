/- Index of package limelightref02, walked: for every text it returns what the machine of IndexMath comes to. -/
import Derived.Test.YtbfomnkapnlgeaaIndex
namespace Go.Proofs.Ytbfomnkapnlgeaa
open Go.RowKit

theorem hideI {p : Prop} (h : p) : Hid p := h

theorem run_at {s : ByteArray} {k : Nat} (h : k < s.size) (x : St) : x.run (s.data.toList.drop k) = match x.step (s[k].toNat : Int) with | some y => y.run (s.data.toList.drop (k + 1)) | none => x := by
  rw [drop_at s k h, St.run]
  rfl
theorem run_go {s : ByteArray} {k : Nat} (h : k < s.size) {x y : St} (e : x.step (s[k].toNat : Int) = some y) : x.run (s.data.toList.drop k) = y.run (s.data.toList.drop (k + 1)) := by
  rw [run_at h, e]
theorem run_stop {s : ByteArray} {k : Nat} {x : St} (h : ∀ hk : k < s.size, x.step (s[k].toNat : Int) = none) : x.run (s.data.toList.drop k) = x := by
  by_cases hk : k < s.size
  · rw [run_at hk, h hk]
  · rw [List.drop_eq_nil_of_le (by simpa using hk)]; rfl

theorem blank_not_digit {c : Int} (h : isBlankB c = true) : isDigitB c = false ∧ isSignB c = false := by
  simp only [isBlankB, Bool.or_eq_true, beq_iff_eq] at h
  simp only [isDigitB, isSignB, Bool.and_eq_false_iff, decide_eq_false_iff_not, Bool.or_eq_false_iff, beq_eq_false_iff_ne]
  omega
theorem sign_not_digit {c : Int} (h : isSignB c = true) : isDigitB c = false := by
  simp only [isSignB, Bool.or_eq_true, beq_iff_eq] at h
  simp only [isDigitB, Bool.and_eq_false_iff, decide_eq_false_iff_not]
  omega

theorem step_digit {st sg sz c : Int} (h1 : 48 ≤ c) (h2 : c ≤ 57) : St.step ⟨st, sg, sz⟩ c = some ⟨2, sg, min (sz * 10 + (c - 48)) 2147483648⟩ := by
  have : isDigitB c = true := by simp [isDigitB, h1, h2]
  simp only [St.step, this, if_true]
theorem step_none {st sg sz c : Int} (hd : isDigitB c = false) (h : st = 0 → isSignB c = false ∧ isBlankB c = false) : St.step ⟨st, sg, sz⟩ c = none := by
  cases h0 : (st == 0)
  · simp only [St.step, hd, h0, Bool.false_eq_true, if_false, Bool.false_and]
  · obtain ⟨h1, h2⟩ := h (by simpa using h0)
    simp only [St.step, hd, h1, h2, Bool.false_eq_true, if_false, Bool.and_false]

theorem ref_big {l : List UInt8} {st sz : Int} (h : (⟨st, 1, sz⟩ : St) = St.run ⟨0, 1, 0⟩ l) (e : (st != 2) = false) (hb : 2147483647 < sz) : Ending.returned (.tuple #[.int .i64 2147483647, .bool true]) = .returned (.tuple #[.int .i64 (idx l).1, .bool (idx l).2]) := by
  have e' : (st == 2) = true := by simpa using e
  have : idx l = (min (1 * sz) 2147483647, true) := by simp only [idx, ← h, e', if_true]
  rw [this]
  exact ret2 rfl (by show _ = min _ _; omega) rfl
theorem ref_small {l : List UInt8} {st sz : Int} (h : (⟨st, 1, sz⟩ : St) = St.run ⟨0, 1, 0⟩ l) (e : (st != 2) = false) (hb : sz ≤ 2147483647) : Ending.returned (.tuple #[.int .i64 sz, .bool true]) = .returned (.tuple #[.int .i64 (idx l).1, .bool (idx l).2]) := by
  have e' : (st == 2) = true := by simpa using e
  have : idx l = (min (1 * sz) 2147483647, true) := by simp only [idx, ← h, e', if_true]
  rw [this]
  exact ret2 rfl (by show _ = min _ _; omega) rfl
theorem ref_neg {l : List UInt8} {st sz : Int} (h : (⟨st, -1, sz⟩ : St) = St.run ⟨0, 1, 0⟩ l) (e : (st != 2) = false) (h0 : 0 ≤ sz) (_h1 : sz ≤ 2147483648) : Ending.returned (.tuple #[.int .i64 (-sz), .bool true]) = .returned (.tuple #[.int .i64 (idx l).1, .bool (idx l).2]) := by
  have e' : (st == 2) = true := by simpa using e
  have : idx l = (min (-1 * sz) 2147483647, true) := by simp only [idx, ← h, e', if_true]
  rw [this]
  exact ret2 rfl (by show _ = min _ _; omega) rfl

set_option maxRecDepth 100000 in
set_option maxHeartbeats 4000000 in
theorem refIndex_any (s : ByteArray) (hs : (s.size : Int) ≤ 1000) (w : World) :
    Calls Try.prog 42 #[.string s] w fun e w' => e = .returned (.tuple #[.int .i64 (idx s.data.toList).1, .bool (idx s.data.toList).2]) ∧ w' = w := by
  go_enter Try.func42, Try.ntmps42
  go_wp2_with fail
  go_loop [4] (fun i => ∃ k : Nat, k ≤ s.size ∧ i = .int .i64 k ∧ St.run ⟨0, 1, 0⟩ (s.data.toList.drop k) = St.run ⟨0, 1, 0⟩ s.data.toList) (fun i => s.size - (intOf i).toNat)
  case atStart => exact ⟨0, Nat.zero_le _, rfl, rfl⟩
  case round =>
    obtain ⟨k, hk, rfl, hr⟩ := hrel
    have HR := hideI hr
    clear hr
    by_cases hlt : k < s.size
    · have hcases : isBlankB (s[k].toNat : Int) = true ∨ isBlankB (s[k].toNat : Int) = false := by cases isBlankB (s[k].toNat : Int) <;> simp
      rcases hcases with hb | hb
      · have hst : St.step ⟨0, 1, 0⟩ (s[k].toNat : Int) = some ⟨0, 1, 0⟩ := by
          simp only [St.step, (blank_not_digit hb).1, (blank_not_digit hb).2, hb, Bool.false_eq_true, if_false, Bool.and_false, Bool.and_true]
          rfl
        have HG := hideI ((run_go hlt hst).symm.trans HR.out)
        clear hst
        have hor : (((s[k].toNat : Int) == 32) = true) ∨ (((s[k].toNat : Int) == 32) = false ∧ ((s[k].toNat : Int) == 9) = true) ∨ (((s[k].toNat : Int) == 32) = false ∧ ((s[k].toNat : Int) == 9) = false ∧ ((s[k].toNat : Int) == 10) = true) ∨
            (((s[k].toNat : Int) == 32) = false ∧ ((s[k].toNat : Int) == 9) = false ∧ ((s[k].toNat : Int) == 10) = false ∧ ((s[k].toNat : Int) == 12) = true) ∨ (((s[k].toNat : Int) == 32) = false ∧ ((s[k].toNat : Int) == 9) = false ∧ ((s[k].toNat : Int) == 10) = false ∧ ((s[k].toNat : Int) == 12) = false ∧ ((s[k].toNat : Int) == 13) = true) := by
          simp only [isBlankB] at hb
          cases h1 : ((s[k].toNat : Int) == 32)
          · cases h2 : ((s[k].toNat : Int) == 9)
            · cases h3 : ((s[k].toNat : Int) == 10)
              · cases h4 : ((s[k].toNat : Int) == 12)
                · cases h5 : ((s[k].toNat : Int) == 13)
                  · rw [h1, h2, h3, h4, h5] at hb; cases hb
                  · exact .inr (.inr (.inr (.inr ⟨rfl, rfl, rfl, rfl, rfl⟩)))
                · exact .inr (.inr (.inr (.inl ⟨rfl, rfl, rfl, rfl⟩)))
              · exact .inr (.inr (.inl ⟨rfl, rfl, rfl⟩))
            · exact .inr (.inl ⟨rfl, rfl⟩)
          · exact .inl rfl
        clear hb
        rcases hor with h1 | ⟨h1, h2⟩ | ⟨h1, h2, h3⟩ | ⟨h1, h2, h3, h4⟩ | ⟨h1, h2, h3, h4, h5⟩
        all_goals
          go_wp2_with fail
          go_round
          case rel => exact ⟨k + 1, by omega, by go_num, HG.out⟩
          case measure => simp [intOf]; omega
      · have hb' := hb
        simp only [isBlankB, Bool.or_eq_false_iff] at hb'
        obtain ⟨⟨⟨⟨h1, h2⟩, h3⟩, h4⟩, h5⟩ := hb'
        -- a sign, or none
        cases hm : ((s[k].toNat : Int) == 45)
        · cases hp : ((s[k].toNat : Int) == 43)
          · have hsn : isSignB (s[k].toNat : Int) = false := by simp only [isSignB, hm, hp, Bool.or_self]
            have H0 : Hid (St.run ⟨0, 1, 0⟩ (s.data.toList.drop k) = St.run ⟨0, 1, 0⟩ s.data.toList) := HR
            go_wp2_with fail
            go_loop [4, 7] (fun i n => ∃ (j : Nat) (st sz : Int), k ≤ j ∧ j ≤ s.size ∧ i = .int .i64 j ∧ n = .int .i64 sz ∧ 0 ≤ sz ∧ sz ≤ 2147483648 ∧ Hid (j = k → st = 0) ∧ Hid (k < j → st = 2) ∧ Hid (St.run ⟨st, 1, sz⟩ (s.data.toList.drop j) = St.run ⟨0, 1, 0⟩ s.data.toList)) (fun i _ => s.size - (intOf i).toNat)
            case atStart => exact ⟨k, 0, 0, Nat.le_refl _, hk, by go_num, rfl, by omega, by omega, fun _ => rfl, fun h => absurd h (Nat.lt_irrefl _), H0.out⟩
            case round =>
              obtain ⟨j, st, sz, hj1, hj2, rfl, rfl, hz0, hz1, q1, q2, HP⟩ := hrel
              by_cases hjs : j < s.size
              · by_cases hd1 : 48 ≤ ((s[j].toNat : Nat) : Int)
                · by_cases hd2 : ((s[j].toNat : Nat) : Int) ≤ 57
                  · have HG := hideI ((run_go hjs (step_digit hd1 hd2)).symm.trans HP.out)
                    go_wp2_with fail
                    go_round
                    case rel => exact ⟨j + 1, 2, _, by omega, by omega, by go_num, by simp only [min_if]; congr 1; omega, by omega, by omega, fun h => by omega, fun _ => rfl, HG.out⟩
                    case measure => simp [intOf]; omega
                  · have hdd : decide (((s[j].toNat : Nat) : Int) ≤ 57) = false := by simpa using hd2
                    have hnd : isDigitB ((s[j].toNat : Nat) : Int) = false := by simp [isDigitB]; omega
                    have hfin : (⟨st, 1, sz⟩ : St) = St.run ⟨0, 1, 0⟩ s.data.toList := (run_stop (fun hq => step_none hnd (fun h0 => if e : j = k then (by subst e; exact ⟨hsn, hb⟩) else absurd (q2.out (by omega)) (by omega)))).symm.trans HP.out
                    have HF := hideI hfin
                    clear hfin
                    cases hjf : ((j : Int) == (k : Int))
                    · have hst : st = 2 := q2.out (by simp at hjf; omega)
                      have hs2 : (st != 2) = false := by rw [hst]; rfl
                      have HS2 := hideI hs2
                      clear hst hs2
                      go_wp2_with fail
                      all_goals
                        go_ret2
                        first | exact ⟨ref_big HF.out HS2.out ‹_›, rfl⟩ | exact ⟨ref_small HF.out HS2.out ‹_›, rfl⟩
                    · have hst : st = 0 := q1.out (by simp at hjf; omega)
                      have hs2 : (st != 2) = true := by rw [hst]; rfl
                      have HS2 := hideI hs2
                      clear hst hs2
                      go_wp2_with fail
                      go_ret2
                      exact ⟨idx_not HF.out HS2.out, rfl⟩
                · have hdd : decide (48 ≤ ((s[j].toNat : Nat) : Int)) = false := by simpa using hd1
                  have hnd : isDigitB ((s[j].toNat : Nat) : Int) = false := by simp [isDigitB]; omega
                  have hfin : (⟨st, 1, sz⟩ : St) = St.run ⟨0, 1, 0⟩ s.data.toList := (run_stop (fun hq => step_none hnd (fun h0 => if e : j = k then (by subst e; exact ⟨hsn, hb⟩) else absurd (q2.out (by omega)) (by omega)))).symm.trans HP.out
                  have HF := hideI hfin
                  clear hfin
                  cases hjf : ((j : Int) == (k : Int))
                  · have hst : st = 2 := q2.out (by simp at hjf; omega)
                    have hs2 : (st != 2) = false := by rw [hst]; rfl
                    have HS2 := hideI hs2
                    clear hst hs2
                    go_wp2_with fail
                    all_goals
                      go_ret2
                      first | exact ⟨ref_big HF.out HS2.out ‹_›, rfl⟩ | exact ⟨ref_small HF.out HS2.out ‹_›, rfl⟩
                  · have hst : st = 0 := q1.out (by simp at hjf; omega)
                    have hs2 : (st != 2) = true := by rw [hst]; rfl
                    have HS2 := hideI hs2
                    clear hst hs2
                    go_wp2_with fail
                    go_ret2
                    exact ⟨idx_not HF.out HS2.out, rfl⟩
              · have hdd : decide ((j : Int) < (s.size : Int)) = false := by simp; omega
                have hfin : (⟨st, 1, sz⟩ : St) = St.run ⟨0, 1, 0⟩ s.data.toList := (run_stop (fun hq => step_none (absurd hq hjs) (fun h0 => if e : j = k then (by subst e; exact ⟨hsn, hb⟩) else absurd (q2.out (by omega)) (by omega)))).symm.trans HP.out
                have HF := hideI hfin
                clear hfin
                cases hjf : ((j : Int) == (k : Int))
                · have hst : st = 2 := q2.out (by simp at hjf; omega)
                  have hs2 : (st != 2) = false := by rw [hst]; rfl
                  have HS2 := hideI hs2
                  clear hst hs2
                  go_wp2_with fail
                  all_goals
                    go_ret2
                    first | exact ⟨ref_big HF.out HS2.out ‹_›, rfl⟩ | exact ⟨ref_small HF.out HS2.out ‹_›, rfl⟩
                · have hst : st = 0 := q1.out (by simp at hjf; omega)
                  have hs2 : (st != 2) = true := by rw [hst]; rfl
                  have HS2 := hideI hs2
                  clear hst hs2
                  go_wp2_with fail
                  go_ret2
                  exact ⟨idx_not HF.out HS2.out, rfl⟩
          · have hsn : isSignB (s[k].toNat : Int) = true := by simp only [isSignB, hp, Bool.or_true]
            have hst : St.step ⟨0, 1, 0⟩ (s[k].toNat : Int) = some ⟨1, 1, 0⟩ := by
              simp only [St.step, sign_not_digit hsn, hsn, signOfI, hm, Bool.false_eq_true, if_false, Bool.and_true]
              rfl
            have H0 := hideI ((run_go hlt hst).symm.trans HR.out)
            clear hst
            go_wp2_with fail
            go_loop [4, 7] (fun i n => ∃ (j : Nat) (st sz : Int), (k + 1) ≤ j ∧ j ≤ s.size ∧ i = .int .i64 j ∧ n = .int .i64 sz ∧ 0 ≤ sz ∧ sz ≤ 2147483648 ∧ Hid (j = (k + 1) → st = 1) ∧ Hid ((k + 1) < j → st = 2) ∧ Hid (St.run ⟨st, 1, sz⟩ (s.data.toList.drop j) = St.run ⟨0, 1, 0⟩ s.data.toList)) (fun i _ => s.size - (intOf i).toNat)
            case atStart => exact ⟨(k + 1), 1, 0, Nat.le_refl _, by omega, by go_num, rfl, by omega, by omega, fun _ => rfl, fun h => absurd h (Nat.lt_irrefl _), H0.out⟩
            case round =>
              obtain ⟨j, st, sz, hj1, hj2, rfl, rfl, hz0, hz1, q1, q2, HP⟩ := hrel
              by_cases hjs : j < s.size
              · by_cases hd1 : 48 ≤ ((s[j].toNat : Nat) : Int)
                · by_cases hd2 : ((s[j].toNat : Nat) : Int) ≤ 57
                  · have HG := hideI ((run_go hjs (step_digit hd1 hd2)).symm.trans HP.out)
                    go_wp2_with fail
                    go_round
                    case rel => exact ⟨j + 1, 2, _, by omega, by omega, by go_num, by simp only [min_if]; congr 1; omega, by omega, by omega, fun h => by omega, fun _ => rfl, HG.out⟩
                    case measure => simp [intOf]; omega
                  · have hdd : decide (((s[j].toNat : Nat) : Int) ≤ 57) = false := by simpa using hd2
                    have hnd : isDigitB ((s[j].toNat : Nat) : Int) = false := by simp [isDigitB]; omega
                    have hfin : (⟨st, 1, sz⟩ : St) = St.run ⟨0, 1, 0⟩ s.data.toList := (run_stop (fun hq => step_none hnd (fun h0 => if e : j = k + 1 then absurd (q1.out e) (by omega) else absurd (q2.out (by omega)) (by omega)))).symm.trans HP.out
                    have HF := hideI hfin
                    clear hfin
                    cases hjf : ((j : Int) == ((k : Int) + 1))
                    · have hst : st = 2 := q2.out (by simp at hjf; omega)
                      have hs2 : (st != 2) = false := by rw [hst]; rfl
                      have HS2 := hideI hs2
                      clear hst hs2
                      go_wp2_with fail
                      all_goals
                        go_ret2
                        first | exact ⟨ref_big HF.out HS2.out ‹_›, rfl⟩ | exact ⟨ref_small HF.out HS2.out ‹_›, rfl⟩
                    · have hst : st = 1 := q1.out (by simp at hjf; omega)
                      have hs2 : (st != 2) = true := by rw [hst]; rfl
                      have HS2 := hideI hs2
                      clear hst hs2
                      go_wp2_with fail
                      go_ret2
                      exact ⟨idx_not HF.out HS2.out, rfl⟩
                · have hdd : decide (48 ≤ ((s[j].toNat : Nat) : Int)) = false := by simpa using hd1
                  have hnd : isDigitB ((s[j].toNat : Nat) : Int) = false := by simp [isDigitB]; omega
                  have hfin : (⟨st, 1, sz⟩ : St) = St.run ⟨0, 1, 0⟩ s.data.toList := (run_stop (fun hq => step_none hnd (fun h0 => if e : j = k + 1 then absurd (q1.out e) (by omega) else absurd (q2.out (by omega)) (by omega)))).symm.trans HP.out
                  have HF := hideI hfin
                  clear hfin
                  cases hjf : ((j : Int) == ((k : Int) + 1))
                  · have hst : st = 2 := q2.out (by simp at hjf; omega)
                    have hs2 : (st != 2) = false := by rw [hst]; rfl
                    have HS2 := hideI hs2
                    clear hst hs2
                    go_wp2_with fail
                    all_goals
                      go_ret2
                      first | exact ⟨ref_big HF.out HS2.out ‹_›, rfl⟩ | exact ⟨ref_small HF.out HS2.out ‹_›, rfl⟩
                  · have hst : st = 1 := q1.out (by simp at hjf; omega)
                    have hs2 : (st != 2) = true := by rw [hst]; rfl
                    have HS2 := hideI hs2
                    clear hst hs2
                    go_wp2_with fail
                    go_ret2
                    exact ⟨idx_not HF.out HS2.out, rfl⟩
              · have hdd : decide ((j : Int) < (s.size : Int)) = false := by simp; omega
                have hfin : (⟨st, 1, sz⟩ : St) = St.run ⟨0, 1, 0⟩ s.data.toList := (run_stop (fun hq => step_none (absurd hq hjs) (fun h0 => if e : j = k + 1 then absurd (q1.out e) (by omega) else absurd (q2.out (by omega)) (by omega)))).symm.trans HP.out
                have HF := hideI hfin
                clear hfin
                cases hjf : ((j : Int) == ((k : Int) + 1))
                · have hst : st = 2 := q2.out (by simp at hjf; omega)
                  have hs2 : (st != 2) = false := by rw [hst]; rfl
                  have HS2 := hideI hs2
                  clear hst hs2
                  go_wp2_with fail
                  all_goals
                    go_ret2
                    first | exact ⟨ref_big HF.out HS2.out ‹_›, rfl⟩ | exact ⟨ref_small HF.out HS2.out ‹_›, rfl⟩
                · have hst : st = 1 := q1.out (by simp at hjf; omega)
                  have hs2 : (st != 2) = true := by rw [hst]; rfl
                  have HS2 := hideI hs2
                  clear hst hs2
                  go_wp2_with fail
                  go_ret2
                  exact ⟨idx_not HF.out HS2.out, rfl⟩
        · have hsn : isSignB (s[k].toNat : Int) = true := by simp only [isSignB, hm, Bool.true_or]
          have hst : St.step ⟨0, 1, 0⟩ (s[k].toNat : Int) = some ⟨1, -1, 0⟩ := by
            simp only [St.step, sign_not_digit hsn, hsn, signOfI, hm, Bool.false_eq_true, if_false, if_true, Bool.and_true]
            rfl
          have H0 := hideI ((run_go hlt hst).symm.trans HR.out)
          clear hst
          go_wp2_with fail
          go_loop [4, 7] (fun i n => ∃ (j : Nat) (st sz : Int), (k + 1) ≤ j ∧ j ≤ s.size ∧ i = .int .i64 j ∧ n = .int .i64 sz ∧ 0 ≤ sz ∧ sz ≤ 2147483648 ∧ Hid (j = (k + 1) → st = 1) ∧ Hid ((k + 1) < j → st = 2) ∧ Hid (St.run ⟨st, (-1), sz⟩ (s.data.toList.drop j) = St.run ⟨0, 1, 0⟩ s.data.toList)) (fun i _ => s.size - (intOf i).toNat)
          case atStart => exact ⟨(k + 1), 1, 0, Nat.le_refl _, by omega, by go_num, rfl, by omega, by omega, fun _ => rfl, fun h => absurd h (Nat.lt_irrefl _), H0.out⟩
          case round =>
            obtain ⟨j, st, sz, hj1, hj2, rfl, rfl, hz0, hz1, q1, q2, HP⟩ := hrel
            by_cases hjs : j < s.size
            · by_cases hd1 : 48 ≤ ((s[j].toNat : Nat) : Int)
              · by_cases hd2 : ((s[j].toNat : Nat) : Int) ≤ 57
                · have HG := hideI ((run_go hjs (step_digit hd1 hd2)).symm.trans HP.out)
                  go_wp2_with fail
                  go_round
                  case rel => exact ⟨j + 1, 2, _, by omega, by omega, by go_num, by simp only [min_if]; congr 1; omega, by omega, by omega, fun h => by omega, fun _ => rfl, HG.out⟩
                  case measure => simp [intOf]; omega
                · have hdd : decide (((s[j].toNat : Nat) : Int) ≤ 57) = false := by simpa using hd2
                  have hnd : isDigitB ((s[j].toNat : Nat) : Int) = false := by simp [isDigitB]; omega
                  have hfin : (⟨st, (-1), sz⟩ : St) = St.run ⟨0, 1, 0⟩ s.data.toList := (run_stop (fun hq => step_none hnd (fun h0 => if e : j = k + 1 then absurd (q1.out e) (by omega) else absurd (q2.out (by omega)) (by omega)))).symm.trans HP.out
                  have HF := hideI hfin
                  clear hfin
                  cases hjf : ((j : Int) == ((k : Int) + 1))
                  · have hst : st = 2 := q2.out (by simp at hjf; omega)
                    have hs2 : (st != 2) = false := by rw [hst]; rfl
                    have HS2 := hideI hs2
                    clear hst hs2
                    go_wp2_with fail
                    all_goals
                      go_ret2
                      exact ⟨ref_neg HF.out HS2.out hz0 hz1, rfl⟩
                  · have hst : st = 1 := q1.out (by simp at hjf; omega)
                    have hs2 : (st != 2) = true := by rw [hst]; rfl
                    have HS2 := hideI hs2
                    clear hst hs2
                    go_wp2_with fail
                    go_ret2
                    exact ⟨idx_not HF.out HS2.out, rfl⟩
              · have hdd : decide (48 ≤ ((s[j].toNat : Nat) : Int)) = false := by simpa using hd1
                have hnd : isDigitB ((s[j].toNat : Nat) : Int) = false := by simp [isDigitB]; omega
                have hfin : (⟨st, (-1), sz⟩ : St) = St.run ⟨0, 1, 0⟩ s.data.toList := (run_stop (fun hq => step_none hnd (fun h0 => if e : j = k + 1 then absurd (q1.out e) (by omega) else absurd (q2.out (by omega)) (by omega)))).symm.trans HP.out
                have HF := hideI hfin
                clear hfin
                cases hjf : ((j : Int) == ((k : Int) + 1))
                · have hst : st = 2 := q2.out (by simp at hjf; omega)
                  have hs2 : (st != 2) = false := by rw [hst]; rfl
                  have HS2 := hideI hs2
                  clear hst hs2
                  go_wp2_with fail
                  all_goals
                    go_ret2
                    exact ⟨ref_neg HF.out HS2.out hz0 hz1, rfl⟩
                · have hst : st = 1 := q1.out (by simp at hjf; omega)
                  have hs2 : (st != 2) = true := by rw [hst]; rfl
                  have HS2 := hideI hs2
                  clear hst hs2
                  go_wp2_with fail
                  go_ret2
                  exact ⟨idx_not HF.out HS2.out, rfl⟩
            · have hdd : decide ((j : Int) < (s.size : Int)) = false := by simp; omega
              have hfin : (⟨st, (-1), sz⟩ : St) = St.run ⟨0, 1, 0⟩ s.data.toList := (run_stop (fun hq => step_none (absurd hq hjs) (fun h0 => if e : j = k + 1 then absurd (q1.out e) (by omega) else absurd (q2.out (by omega)) (by omega)))).symm.trans HP.out
              have HF := hideI hfin
              clear hfin
              cases hjf : ((j : Int) == ((k : Int) + 1))
              · have hst : st = 2 := q2.out (by simp at hjf; omega)
                have hs2 : (st != 2) = false := by rw [hst]; rfl
                have HS2 := hideI hs2
                clear hst hs2
                go_wp2_with fail
                all_goals
                  go_ret2
                  exact ⟨ref_neg HF.out HS2.out hz0 hz1, rfl⟩
              · have hst : st = 1 := q1.out (by simp at hjf; omega)
                have hs2 : (st != 2) = true := by rw [hst]; rfl
                have HS2 := hideI hs2
                clear hst hs2
                go_wp2_with fail
                go_ret2
                exact ⟨idx_not HF.out HS2.out, rfl⟩
    · have hke : k = s.size := by omega
      subst hke
      have hdd : decide ((s.size : Int) < (s.size : Int)) = false := by simp
      have hfin : (⟨0, 1, 0⟩ : St) = St.run ⟨0, 1, 0⟩ s.data.toList := (run_stop (fun hq => absurd hq (Nat.lt_irrefl _))).symm.trans HR.out
      have HF := hideI hfin
      clear hfin
      go_wp2_with fail
      go_loop [4, 7] (fun i n => i = .int .i64 s.size ∧ n = .int .i64 0) (fun _ _ => 0)
      case atStart => exact ⟨rfl, rfl⟩
      case round =>
        obtain ⟨rfl, rfl⟩ := hrel
        go_wp2_with fail
        go_ret2
        exact ⟨idx_not HF.out rfl, rfl⟩
end Go.Proofs.Ytbfomnkapnlgeaa
