/- Is, value, Attr, count, Up and kind of limelightref01: each returns what the Lean twin of package tree says. -/
import Derived.Test.YtnbnijhdmnoelaaMay
namespace Go.Proofs.Ytnbnijhdmnoelaa
open Go.RowKit

set_option maxHeartbeats 400000 in
theorem refIs_any (a : Option Addr) (len cap : Nat) (n : Int) (w : World) :
    Calls Try.prog 78 #[.slice a len cap, .int .i64 n] w fun e w' => e = .returned (.bool (isNodeB len n)) ∧ w' = w := by
  cases h : decide (0 ≤ n)
  all_goals
    go_enter Try.func78, Try.ntmps78
    go_wp2
    go_ret
    exact ⟨ret_bool (by simp only [isNodeB, h, Bool.false_and, Bool.true_and]), rfl⟩

def valB (n v : Int) : Bool := decide (attrLow n ≤ v) && decide (v ≤ attrHigh n)
theorem valB_of {n v lo hi : Int} (h1 : attrLow n = lo) (h2 : attrHigh n = hi) : valB n v = (decide (lo ≤ v) && decide (v ≤ hi)) := by rw [valB, h1, h2]

set_option maxHeartbeats 1000000 in
theorem refValue_any (n v : Int) (w : World) :
    Calls Try.prog 125 #[.int .i64 n, .int .i64 v] w fun e w' => e = .returned (.bool (valB n v)) ∧ w' = w := by
  by_cases h0 : n = 0
  · subst h0
    cases hv : decide (-2147483648 ≤ v)
    all_goals
      go_enter Try.func125, Try.ntmps125
      go_wp2
      go_ret
      refine ⟨ret_bool ?_, rfl⟩
      rw [valB_of (lo := -2147483648) (hi := 2147483647) rfl rfl, hv]
      simp [Int.lt_iff_add_one_le] <;> omega
  by_cases h4 : n = 4
  · subst h4
    cases hv : decide (0 ≤ v)
    all_goals
      go_enter Try.func125, Try.ntmps125
      go_wp2
      go_ret
      refine ⟨ret_bool ?_, rfl⟩
      rw [valB_of (lo := 0) (hi := 2147483647) rfl rfl, hv]
      simp [Int.lt_iff_add_one_le] <;> omega
  by_cases h6 : n = 6
  · subst h6
    cases hv : decide (1 ≤ v)
    all_goals
      go_enter Try.func125, Try.ntmps125
      go_wp2
      go_ret
      refine ⟨ret_bool ?_, rfl⟩
      rw [valB_of (lo := 1) (hi := 3) rfl rfl, hv]
      simp
  by_cases h9 : n = 9
  · subst h9
    cases hv : decide (0 ≤ v)
    all_goals
      go_enter Try.func125, Try.ntmps125
      go_wp2
      go_ret
      refine ⟨ret_bool ?_, rfl⟩
      rw [valB_of (lo := 0) (hi := 63) rfl rfl, hv]
      simp
  have e0 : (n == 0) = false := by simp [h0]
  have e4 : (n == 4) = false := by simp [h4]
  have e6 : (n == 6) = false := by simp [h6]
  have e9 : (n == 9) = false := by simp [h9]
  have hlo : attrLow n = 0 := by simp [attrLow, e0, e4, e6]
  have hhi : attrHigh n = 0 := by simp [attrHigh, e0, e4, e6, e9]
  clear h0 h4 h6 h9
  go_enter Try.func125, Try.ntmps125
  go_wp2
  go_ret
  refine ⟨ret_bool ?_, rfl⟩
  rw [valB_of hlo hhi, Bool.eq_iff_iff]
  simp
  omega

theorem attrFitsB_eq (k n v : Int) : attrFitsB k n v = (!(decide (n < 0) || decide (9 < n) || !valB n v) && (if k == 3 then n == 7 || n == 8 else k == 1 && n != 7 && n != 8)) := by
  rw [attrFitsB, ← valB, Bool.eq_iff_iff]
  simp only [attrKindI]
  by_cases h7 : n = 7 <;> by_cases h8 : n = 8 <;> by_cases hk3 : k = 3 <;> by_cases hk1 : k = 1 <;> simp_all <;> omega

set_option maxHeartbeats 1000000 in
theorem refAttr_any (k n v : Int) (w : World) :
    Calls Try.prog 118 #[.int .i64 k, .agg #[.int .i64 n, .int .i64 v]] w fun e w' => e = .returned (.bool (attrFitsB k n v)) ∧ Below w.heap.size w w' := by
  have hB : ∀ o, Below w.heap.size w (w.alloc o) := fun o => (Below.refl _ w).alloc (Nat.le_refl _) o
  rw [attrFitsB_eq]
  cases h1 : decide (n < 0)
  · cases h2 : decide (9 < n)
    · cases h3 : valB n v
      · go_enter Try.func118, Try.ntmps118
        go_wp2_with (go_at_call 125; refine (refValue_any _ _ _).mono ?_; rintro e w1 ⟨rfl, rfl⟩)
        all_goals (go_ret; exact ⟨ret_bool (by simp), hB _⟩)
      · cases hk : (k == 3)
        · cases hk1 : (k == 1)
          · go_enter Try.func118, Try.ntmps118
            go_wp2_with (go_at_call 125; refine (refValue_any _ _ _).mono ?_; rintro e w1 ⟨rfl, rfl⟩)
            all_goals (go_ret; exact ⟨ret_bool (by simp), hB _⟩)
          · cases h7 : (n != 7)
            all_goals
              go_enter Try.func118, Try.ntmps118
              go_wp2_with (go_at_call 125; refine (refValue_any _ _ _).mono ?_; rintro e w1 ⟨rfl, rfl⟩)
              all_goals (go_ret; exact ⟨ret_bool (by simp), hB _⟩)
        · cases h7 : (n == 7)
          all_goals
            go_enter Try.func118, Try.ntmps118
            go_wp2_with (go_at_call 125; refine (refValue_any _ _ _).mono ?_; rintro e w1 ⟨rfl, rfl⟩)
            all_goals (go_ret; exact ⟨ret_bool (by simp), hB _⟩)
    · go_enter Try.func118, Try.ntmps118
      go_wp2_with (go_at_call 125; refine (refValue_any _ _ _).mono ?_; rintro e w1 ⟨rfl, rfl⟩)
      all_goals (go_ret; exact ⟨ret_bool (by simp), hB _⟩)
  · go_enter Try.func118, Try.ntmps118
    go_wp2_with (go_at_call 125; refine (refValue_any _ _ _).mono ?_; rintro e w1 ⟨rfl, rfl⟩)
    all_goals (go_ret; exact ⟨ret_bool (by simp), hB _⟩)

def countN (l : List Int) (n : Int) : Nat := (l.filter (fun x => x == n)).length
theorem countN_take {l : List Int} {k : Nat} (h : k < l.length) (n : Int) : countN (l.take (k + 1)) n = countN (l.take k) n + if l.getD k 0 == n then 1 else 0 := by
  rw [List.take_succ_eq_append_getElem h, countN, List.filter_append, List.length_append, ← countN]
  have : l.getD k 0 = l[k] := by rw [List.getD_eq_getElem?_getD, List.getElem?_eq_getElem h]; rfl
  rw [this]
  cases hx : (l[k] == n) <;> simp [hx]
theorem countN_le (l : List Int) (n : Int) : countN l n ≤ l.length := List.length_filter_le _ _

set_option maxRecDepth 100000 in
set_option maxHeartbeats 1000000 in
theorem refCount_any (l : List Int) (v : Value) (n : Int) (w : World) (hI : IntsAt w v l) (hl : l.length ≤ 1000000) :
    Calls Try.prog 119 #[v, .int .i64 n] w fun e w' => e = .returned (.int .i64 (countN l n)) ∧ w' = w := by
  obtain ⟨a, cap, rfl, hc⟩ := hI
  go_enter Try.func119, Try.ntmps119
  go_wp2_with fail
  go_loopw [5, 6] (fun c i wr => ∃ k : Nat, k ≤ l.length ∧ i = .int .i64 k ∧ wr = w ∧ c = .int .i64 (countN (l.take k) n)) (fun _ i _ => l.length - (intOf i).toNat)
  case atStart => exact ⟨0, Nat.zero_le _, rfl, rfl, rfl⟩
  case round =>
    obtain ⟨k, hk, rfl, rfl, rfl⟩ := hrel
    by_cases hlt : k < l.length
    · obtain ⟨b, off, rfl, hd⟩ := hc (by omega)
      have c1 := hd k hlt
      have hst := countN_take hlt n
      have hcl := countN_le (l.take k) n
      rw [List.length_take] at hcl
      clear hd hc
      generalize l.getD k 0 = x at *
      have HS : Hid (countN (l.take (k + 1)) n = countN (l.take k) n + if x == n then 1 else 0) := hst
      clear hst
      generalize hcc : countN (l.take k) n = c at *
      clear hcc
      have hc6 : c ≤ 1000000 := by omega
      cases hx : (x == n)
      · go_wp2_with fail
        go_roundw
        case rel => exact ⟨k + 1, by omega, by go_num, by rw [HS.out, hx]; simp⟩
        case measure => simp [intOf]; omega
      · go_wp2_with fail
        go_roundw
        case rel => exact ⟨k + 1, by omega, by go_num, by rw [HS.out, hx]; simp⟩
        case measure => simp [intOf]; omega
    · clear hc
      go_wp2_with fail
      go_ret
      exact ⟨ret_int (by rw [List.take_of_length_le (by omega)]), rfl⟩

set_option maxHeartbeats 800000 in
theorem refUp_any (T : List Nd) (v : Value) (n : Nat) (w : World) (hT : TreeAt w v T) (hn : n < T.length) (hT6 : T.length ≤ 1000000) :
    Calls Try.prog 87 #[v, .int .i64 n] w fun e w' => e = .returned (.int .i64 (overI (nd T n))) ∧ w' = w := by
  obtain ⟨b, off, cap, rfl, hc⟩ := hT.at (by omega)
  obtain ⟨kv, av, hN⟩ := hc n hn
  have c0 := hN.kind
  have c2 := hN.parent
  have c4 := hN.host
  clear hN hc hT
  cases h3 : ((nd T n).kind == 3)
  all_goals
    go_enter Try.func87, Try.ntmps87
    go_wp2_with fail
    go_ret
    exact ⟨ret_int (by simp [overI, h3]), rfl⟩

theorem kindFitsB_eq (x : Nd) (n : Nat) : kindFitsB x n = (!((x.kind == 0) != ((n : Int) == 0) || decide (x.kind < 0) || decide (3 < x.kind)) && (if x.kind == 1 then decide (0 ≤ x.tag) && decide (x.tag ≤ 4) else x.tag == 0)) := by
  rw [kindFitsB, tagFitsB]
  generalize (if (x.kind == 1) = true then decide (0 ≤ x.tag) && decide (x.tag ≤ 4) else x.tag == 0) = t
  rw [canBeKidB]
  generalize x.kind = k
  cases t
  · simp
  · by_cases h0 : n = 0
    · subst h0
      by_cases hk : k = 0
      · subst hk; rfl
      · have e : (k == 0) = false := by simp [hk]
        simp [e]
    · have e : ((n : Int) == 0) = false := by simp; omega
      rw [e, Bool.eq_iff_iff]
      simp
      omega

set_option maxHeartbeats 1000000 in
theorem refKind_any (x : Nd) (kv av : Value) (n : Nat) (w : World) :
    Calls Try.prog 96 #[.agg #[.int .i64 x.kind, .int .i64 x.tag, .int .i64 x.parent, kv, .int .i64 x.host, .int .i64 x.root, av], .int .i64 n] w fun e w' =>
      e = .returned (.bool (kindFitsB x n)) ∧ Below w.heap.size w w' := by
  have hB : ∀ o, Below w.heap.size w (w.alloc o) := fun o => (Below.refl _ w).alloc (Nat.le_refl _) o
  rw [kindFitsB_eq]
  generalize x.kind = kd
  generalize x.tag = tg
  cases ha : (kd == 0) <;> cases hb : ((n : Int) == 0)
  · cases h2 : decide (kd < 0)
    · cases h3 : decide (3 < kd)
      · cases h4 : (kd == 1)
        · go_enter Try.func96, Try.ntmps96
          go_wp2_with fail
          all_goals (go_ret; exact ⟨ret_bool (by simp), hB _⟩)
        · cases h5 : decide (0 ≤ tg)
          all_goals
            go_enter Try.func96, Try.ntmps96
            go_wp2_with fail
            all_goals (go_ret; exact ⟨ret_bool (by simp), hB _⟩)
      · go_enter Try.func96, Try.ntmps96
        go_wp2_with fail
        all_goals (go_ret; exact ⟨ret_bool (by simp), hB _⟩)
    · go_enter Try.func96, Try.ntmps96
      go_wp2_with fail
      all_goals (go_ret; exact ⟨ret_bool (by simp), hB _⟩)
  · go_enter Try.func96, Try.ntmps96
    go_wp2_with fail
    all_goals (go_ret; exact ⟨ret_bool (by simp), hB _⟩)
  · go_enter Try.func96, Try.ntmps96
    go_wp2_with fail
    all_goals (go_ret; exact ⟨ret_bool (by simp), hB _⟩)
  · obtain rfl : kd = 0 := by simpa using ha
    go_enter Try.func96, Try.ntmps96
    go_wp2_with fail
    all_goals (go_ret; exact ⟨ret_bool (by simp), hB _⟩)
end Go.Proofs.Ytnbnijhdmnoelaa
