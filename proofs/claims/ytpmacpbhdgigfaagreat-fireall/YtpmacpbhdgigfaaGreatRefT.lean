/- Is, value, Attr, count, Up and kind of limelightref01: each returns what the Lean twin of package tree says. attrs, ends and shadow of limelightref01. ends and shadow of limelightref01. kids of limelightref01. May of limelightref01. -/
import Derived.Test.YtpmacpbhdgigfaaGreatMay
import Derived.Test.YtpmacpbhdgigfaaGreatBase
namespace Go.Proofs.YtpmacpbhdgigfaaGreat
open Go.RowKit

set_option maxHeartbeats 400000 in
theorem refIs_any (a : Option Addr) (len cap : Nat) (n : Int) (w : World) :
    Calls Tryz.prog 53 #[.slice a len cap, .int .i64 n] w fun e w' => e = .returned (.bool (isNodeB len n)) ∧ w' = w := by
  cases h : decide (0 ≤ n)
  all_goals
    go_enter Tryz.func53, Tryz.ntmps53
    go_wp2
    go_ret
    exact ⟨ret_bool (by simp only [isNodeB, h, Bool.false_and, Bool.true_and]), rfl⟩

def valB (n v : Int) : Bool := decide (attrLow n ≤ v) && decide (v ≤ attrHigh n)
theorem valB_of {n v lo hi : Int} (h1 : attrLow n = lo) (h2 : attrHigh n = hi) : valB n v = (decide (lo ≤ v) && decide (v ≤ hi)) := by rw [valB, h1, h2]

set_option maxHeartbeats 1000000 in
theorem refValue_any (n v : Int) (w : World) :
    Calls Tryz.prog 188 #[.int .i64 n, .int .i64 v] w fun e w' => e = .returned (.bool (valB n v)) ∧ w' = w := by
  by_cases h0 : n = 0
  · subst h0
    cases hv : decide (-2147483648 ≤ v)
    all_goals
      go_enter Tryz.func188, Tryz.ntmps188
      go_wp2
      go_ret
      refine ⟨ret_bool ?_, rfl⟩
      rw [valB_of (lo := -2147483648) (hi := 2147483647) rfl rfl, hv]
      simp [Int.lt_iff_add_one_le] <;> omega
  by_cases h4 : n = 4
  · subst h4
    cases hv : decide (0 ≤ v)
    all_goals
      go_enter Tryz.func188, Tryz.ntmps188
      go_wp2
      go_ret
      refine ⟨ret_bool ?_, rfl⟩
      rw [valB_of (lo := 0) (hi := 2147483647) rfl rfl, hv]
      simp [Int.lt_iff_add_one_le] <;> omega
  by_cases h6 : n = 6
  · subst h6
    cases hv : decide (1 ≤ v)
    all_goals
      go_enter Tryz.func188, Tryz.ntmps188
      go_wp2
      go_ret
      refine ⟨ret_bool ?_, rfl⟩
      rw [valB_of (lo := 1) (hi := 3) rfl rfl, hv]
      simp
  by_cases h9 : n = 9
  · subst h9
    cases hv : decide (0 ≤ v)
    all_goals
      go_enter Tryz.func188, Tryz.ntmps188
      go_wp2
      go_ret
      refine ⟨ret_bool ?_, rfl⟩
      rw [valB_of (lo := 0) (hi := 63) rfl rfl, hv]
      simp
  have e0 : (n == 0) = false := by simp [h0]
  have e4 : (n == 4) = false := by simp [h4]
  have e6 : (n == 6) = false := by simp [h6]
  have e9 : (n == 9) = false := by simp [h9]
  have hlo : attrLow n = 0 := by simp [attrLow, e0, e4, e6]
  have hhi : attrHigh n = 0 := by simp [attrHigh, e0, e4, e6, e9]
  clear h0 h4 h6 h9
  go_enter Tryz.func188, Tryz.ntmps188
  go_wp2
  go_ret
  refine ⟨ret_bool ?_, rfl⟩
  rw [valB_of hlo hhi, Bool.eq_iff_iff]
  simp
  omega

theorem attrFitsB_eq (k n v : Int) : attrFitsB k n v = (!(decide (n < 0) || decide (9 < n) || !valB n v) && (if k == 3 then n == 7 || n == 8 else k == 1 && n != 7 && n != 8)) := by
  rw [attrFitsB, ← valB, Bool.eq_iff_iff]
  simp only [attrKindI]
  by_cases h7 : n = 7 <;> by_cases h8 : n = 8 <;> by_cases hk3 : k = 3 <;> by_cases hk1 : k = 1 <;> simp_all <;> omega

set_option maxHeartbeats 1000000 in
theorem refAttr_any (k n v : Int) (w : World) :
    Calls Tryz.prog 152 #[.int .i64 k, .agg #[.int .i64 n, .int .i64 v]] w fun e w' => e = .returned (.bool (attrFitsB k n v)) ∧ Below w.heap.size w w' := by
  have hB : ∀ o, Below w.heap.size w (w.alloc o) := fun o => (Below.refl _ w).alloc (Nat.le_refl _) o
  rw [attrFitsB_eq]
  cases h1 : decide (n < 0)
  · cases h2 : decide (9 < n)
    · cases h3 : valB n v
      · go_enter Tryz.func152, Tryz.ntmps152
        go_wp2_with (go_at_call 188; refine (refValue_any _ _ _).mono ?_; rintro e w1 ⟨rfl, rfl⟩)
        all_goals (go_ret; exact ⟨ret_bool (by simp), hB _⟩)
      · cases hk : (k == 3)
        · cases hk1 : (k == 1)
          · go_enter Tryz.func152, Tryz.ntmps152
            go_wp2_with (go_at_call 188; refine (refValue_any _ _ _).mono ?_; rintro e w1 ⟨rfl, rfl⟩)
            all_goals (go_ret; exact ⟨ret_bool (by simp), hB _⟩)
          · cases h7 : (n != 7)
            all_goals
              go_enter Tryz.func152, Tryz.ntmps152
              go_wp2_with (go_at_call 188; refine (refValue_any _ _ _).mono ?_; rintro e w1 ⟨rfl, rfl⟩)
              all_goals (go_ret; exact ⟨ret_bool (by simp), hB _⟩)
        · cases h7 : (n == 7)
          all_goals
            go_enter Tryz.func152, Tryz.ntmps152
            go_wp2_with (go_at_call 188; refine (refValue_any _ _ _).mono ?_; rintro e w1 ⟨rfl, rfl⟩)
            all_goals (go_ret; exact ⟨ret_bool (by simp), hB _⟩)
    · go_enter Tryz.func152, Tryz.ntmps152
      go_wp2_with (go_at_call 188; refine (refValue_any _ _ _).mono ?_; rintro e w1 ⟨rfl, rfl⟩)
      all_goals (go_ret; exact ⟨ret_bool (by simp), hB _⟩)
  · go_enter Tryz.func152, Tryz.ntmps152
    go_wp2_with (go_at_call 188; refine (refValue_any _ _ _).mono ?_; rintro e w1 ⟨rfl, rfl⟩)
    all_goals (go_ret; exact ⟨ret_bool (by simp), hB _⟩)

def countN (l : List Int) (n : Int) : Nat := (l.filter (fun x => x == n)).length
theorem countN_take {l : List Int} {k : Nat} (h : k < l.length) (n : Int) : countN (l.take (k + 1)) n = countN (l.take k) n + if l.getD k 0 == n then 1 else 0 := by
  rw [List.take_succ_eq_append_getElem h, countN, List.filter_append, List.length_append, ← countN]
  have : l.getD k 0 = l[k] := by rw [List.getD_eq_getElem?_getD, List.getElem?_eq_getElem h]; rfl
  rw [this]
  cases hx : (l[k] == n) <;> simp [hx]
theorem countN_le (l : List Int) (n : Int) : countN l n ≤ l.length := List.length_filter_le _ _

set_option maxRecDepth 100000 in
set_option maxHeartbeats 1000000 in
theorem refCount_any (l : List Int) (v : Value) (n : Int) (w : World) (hI : IntsAt w v l) (hl : l.length ≤ 1000000) :
    Calls Tryz.prog 153 #[v, .int .i64 n] w fun e w' => e = .returned (.int .i64 (countN l n)) ∧ w' = w := by
  obtain ⟨a, cap, rfl, hc⟩ := hI
  go_enter Tryz.func153, Tryz.ntmps153
  go_wp2_with fail
  go_loopw [5, 6] (fun c i wr => ∃ k : Nat, k ≤ l.length ∧ i = .int .i64 k ∧ wr = w ∧ c = .int .i64 (countN (l.take k) n)) (fun _ i _ => l.length - (intOf i).toNat)
  case atStart => exact ⟨0, Nat.zero_le _, rfl, rfl, rfl⟩
  case round =>
    obtain ⟨k, hk, rfl, rfl, rfl⟩ := hrel
    by_cases hlt : k < l.length
    · obtain ⟨b, off, rfl, hd⟩ := hc (by omega)
      have c1 := hd k hlt
      have hst := countN_take hlt n
      have hcl := countN_le (l.take k) n
      rw [List.length_take] at hcl
      clear hd hc
      generalize l.getD k 0 = x at *
      have HS : Hid (countN (l.take (k + 1)) n = countN (l.take k) n + if x == n then 1 else 0) := hst
      clear hst
      generalize hcc : countN (l.take k) n = c at *
      clear hcc
      have hc6 : c ≤ 1000000 := by omega
      cases hx : (x == n)
      · go_wp2_with fail
        go_roundw
        case rel => exact ⟨k + 1, by omega, by go_num, by rw [HS.out, hx]; simp⟩
        case measure => simp [intOf]; omega
      · go_wp2_with fail
        go_roundw
        case rel => exact ⟨k + 1, by omega, by go_num, by rw [HS.out, hx]; simp⟩
        case measure => simp [intOf]; omega
    · clear hc
      go_wp2_with fail
      go_ret
      exact ⟨ret_int (by rw [List.take_of_length_le (by omega)]), rfl⟩

set_option maxHeartbeats 800000 in
theorem refUp_any (T : List Nd) (v : Value) (n : Nat) (w : World) (hT : TreeAt w v T) (hn : n < T.length) (hT6 : T.length ≤ 1000000) :
    Calls Tryz.prog 154 #[v, .int .i64 n] w fun e w' => e = .returned (.int .i64 (overI (nd T n))) ∧ w' = w := by
  obtain ⟨b, off, cap, rfl, hc⟩ := hT.at (by omega)
  obtain ⟨kv, av, hN⟩ := hc n hn
  have c0 := hN.kind
  have c2 := hN.parent
  have c4 := hN.host
  clear hN hc hT
  cases h3 : ((nd T n).kind == 3)
  all_goals
    go_enter Tryz.func154, Tryz.ntmps154
    go_wp2_with fail
    go_ret
    exact ⟨ret_int (by simp [overI, h3]), rfl⟩

theorem kindFitsB_eq (x : Nd) (n : Nat) : kindFitsB x n = (!((x.kind == 0) != ((n : Int) == 0) || decide (x.kind < 0) || decide (3 < x.kind)) && (if x.kind == 1 then decide (0 ≤ x.tag) && decide (x.tag ≤ 4) else x.tag == 0)) := by
  rw [kindFitsB, tagFitsB]
  generalize (if (x.kind == 1) = true then decide (0 ≤ x.tag) && decide (x.tag ≤ 4) else x.tag == 0) = t
  rw [canBeKidB]
  generalize x.kind = k
  cases t
  · simp
  · by_cases h0 : n = 0
    · subst h0
      by_cases hk : k = 0
      · subst hk; rfl
      · have e : (k == 0) = false := by simp [hk]
        simp [e]
    · have e : ((n : Int) == 0) = false := by simp; omega
      rw [e, Bool.eq_iff_iff]
      simp
      omega

set_option maxHeartbeats 1000000 in
theorem refKind_any (x : Nd) (kv av : Value) (n : Nat) (w : World) :
    Calls Tryz.prog 104 #[.agg #[.int .i64 x.kind, .int .i64 x.tag, .int .i64 x.parent, kv, .int .i64 x.host, .int .i64 x.root, av], .int .i64 n] w fun e w' =>
      e = .returned (.bool (kindFitsB x n)) ∧ Below w.heap.size w w' := by
  have hB : ∀ o, Below w.heap.size w (w.alloc o) := fun o => (Below.refl _ w).alloc (Nat.le_refl _) o
  rw [kindFitsB_eq]
  generalize x.kind = kd
  generalize x.tag = tg
  cases ha : (kd == 0) <;> cases hb : ((n : Int) == 0)
  · cases h2 : decide (kd < 0)
    · cases h3 : decide (3 < kd)
      · cases h4 : (kd == 1)
        · go_enter Tryz.func104, Tryz.ntmps104
          go_wp2_with fail
          all_goals (go_ret; exact ⟨ret_bool (by simp), hB _⟩)
        · cases h5 : decide (0 ≤ tg)
          all_goals
            go_enter Tryz.func104, Tryz.ntmps104
            go_wp2_with fail
            all_goals (go_ret; exact ⟨ret_bool (by simp), hB _⟩)
      · go_enter Tryz.func104, Tryz.ntmps104
        go_wp2_with fail
        all_goals (go_ret; exact ⟨ret_bool (by simp), hB _⟩)
    · go_enter Tryz.func104, Tryz.ntmps104
      go_wp2_with fail
      all_goals (go_ret; exact ⟨ret_bool (by simp), hB _⟩)
  · go_enter Tryz.func104, Tryz.ntmps104
    go_wp2_with fail
    all_goals (go_ret; exact ⟨ret_bool (by simp), hB _⟩)
  · go_enter Tryz.func104, Tryz.ntmps104
    go_wp2_with fail
    all_goals (go_ret; exact ⟨ret_bool (by simp), hB _⟩)
  · obtain rfl : kd = 0 := by simpa using ha
    go_enter Tryz.func104, Tryz.ntmps104
    go_wp2_with fail
    all_goals (go_ret; exact ⟨ret_bool (by simp), hB _⟩)
end Go.Proofs.YtpmacpbhdgigfaaGreat
namespace Go.Proofs.YtpmacpbhdgigfaaGreat
open Go.RowKit

theorem attrsFrom_low {k last : Int} {a : Int × Int} {l : List (Int × Int)} (h : last ≤ -1) : attrsFrom k last (a :: l) = (attrFitsB k a.1 a.2 && attrsFrom k a.1 l) := by
  rw [attrsFrom]
  cases hf : attrFitsB k a.1 a.2
  · simp
  · have : 0 ≤ a.1 := by
      simp only [attrFitsB, Bool.and_eq_true, Bool.not_eq_true', Bool.or_eq_false_iff, decide_eq_false_iff_not] at hf
      omega
    have e : decide (a.1 ≤ last) = false := by simp; omega
    simp [e]

set_option maxRecDepth 100000 in
set_option maxHeartbeats 2000000 in
theorem refAttrs_any (x : Nd) (kv av : Value) (w : World) (hA : AttrsAt w av x.attrs) (hl : x.attrs.length ≤ 1000000) :
    Calls Tryz.prog 105 #[.agg #[.int .i64 x.kind, .int .i64 x.tag, .int .i64 x.parent, kv, .int .i64 x.host, .int .i64 x.root, av]] w fun e w' =>
      e = .returned (.bool (attrsFrom x.kind (-1) x.attrs)) ∧ Below w.heap.size w w' := by
  obtain ⟨a, cap, rfl, hc⟩ := hA
  generalize hattrs : x.attrs = l at *
  generalize x.kind = kd at *
  generalize x.tag = tg at *
  generalize x.parent = pr at *
  generalize x.host = hs at *
  generalize x.root = rt at *
  clear hattrs
  go_enter Tryz.func105, Tryz.ntmps105
  go_wp2_with fail
  go_loopw [3] (fun i wr => ∃ (k : Nat), k ≤ l.length ∧ i = .int .i64 k ∧ attrsFrom kd (if k = 0 then -1 else (l.getD (k - 1) (0, 0)).1) (l.drop k) = attrsFrom kd (-1) l ∧
      Below w.heap.size w wr ∧ w.heap.size < wr.heap.size ∧ wr.cell? ⟨w.heap.size, 0, none⟩ = some (.int .i64 kd) ∧ wr.cell? ⟨w.heap.size, 6, none⟩ = some (.slice a l.length cap)) (fun i _ => l.length - (intOf i).toNat)
  case atStart => exact ⟨0, Nat.zero_le _, rfl, rfl, (Below.refl _ w).alloc (Nat.le_refl _) _, by simp, by simp, by simp⟩
  case round =>
    obtain ⟨k, hk, rfl, hrec, hB, hz, b0, b6⟩ := hrel
    by_cases hlt : k < l.length
    · obtain ⟨b, off, rfl, hd⟩ := hc (by omega)
      obtain ⟨c1, c2⟩ := hd k hlt
      have hbz : b < w.heap.size := below_of_cell c1
      replace c1 := cell_below hB c1
      replace c2 := cell_below hB c2
      have hbz' : b < wr.heap.size := by omega
      have hcc : ∀ (d : Calm wr) (b o : Nat), b < wr.heap.size → d.to.cell? ⟨b, o, none⟩ = wr.cell? ⟨b, o, none⟩ := calmCell
      have HC : Hid (∀ (d : Calm wr) (b o : Nat), b < wr.heap.size → d.to.cell? ⟨b, o, none⟩ = wr.cell? ⟨b, o, none⟩) := hcc
      have HF : Hid (∀ w2, Below wr.heap.size wr w2 → Calls Tryz.prog 152 #[.int .i64 kd, .agg #[.int .i64 (l.getD k (0, 0)).1, .int .i64 (l.getD k (0, 0)).2]] w2 fun e w' => e = .returned (.bool (attrFitsB kd (l.getD k (0, 0)).1 (l.getD k (0, 0)).2)) ∧ Below wr.heap.size wr w') := fun w2 h2 => by
        refine (refAttr_any _ _ _ _).mono ?_
        rintro e w1 ⟨rfl, hb⟩
        exact ⟨rfl, h2.trans (hb.mono h2.size)⟩
      by_cases h0 : k = 0
      · subst h0
        have hst : attrsFrom kd (-1) l = (attrFitsB kd (l.getD 0 (0, 0)).1 (l.getD 0 (0, 0)).2 && attrsFrom kd (l.getD 0 (0, 0)).1 (l.drop 1)) := by
          cases l with
          | nil => simp at hlt
          | cons a l => exact attrsFrom_low (Int.le_refl _)
        clear hrec hd hc
        generalize hA : l.getD 0 (0, 0) = A at *
        obtain ⟨A1, A2⟩ := A
        have HA : Hid (l.getD 0 (0, 0) = (A1, A2)) := hA
        clear hA
        dsimp only at *
        rw [Nat.zero_mul, Nat.add_zero] at c1 c2
        cases hx : attrFitsB kd A1 A2
        · rw [hx] at HF hst
          have HS : Hid (attrsFrom kd (-1) l = false) := hst
          clear hst
          go_wp2_with fail
          refine wp_region_calm (by kernel_rfl) (by kernel_rfl) ?_
          repeat (go_big_quiet_step ((go_at_call 152; refine Calls.mono (HF.out _ (Calm.below _)) ?_; rintro e w1 ⟨rfl, hb⟩; exact ⟨rfl, ⟨w1, hb⟩, rfl⟩)))
          refine wpQuiet_nil ?_
          intro _ hw'
          obtain ⟨dq, hw''⟩ := hw'
          subst hw''
          go_wp2_with fail
          go_ret
          exact ⟨ret_bool (by rw [HS.out]), hB.trans (dq.below.mono hB.size)⟩
        · rw [hx] at HF hst
          have HS : Hid (attrsFrom kd (-1) l = attrsFrom kd A1 (l.drop 1)) := hst
          clear hst
          go_wp2_with fail
          refine wp_region_calm (by kernel_rfl) (by kernel_rfl) ?_
          repeat (go_big_quiet_step ((go_at_call 152; refine Calls.mono (HF.out _ (Calm.below _)) ?_; rintro e w1 ⟨rfl, hb⟩; exact ⟨rfl, ⟨w1, hb⟩, rfl⟩)))
          refine wpQuiet_nil ?_
          intro _ hw'
          obtain ⟨dq, hw''⟩ := hw'
          subst hw''
          go_wp2_with fail
          go_roundw
          case rel =>
            refine ⟨1, by omega, by go_num, ?_, hB.trans (dq.below.mono hB.size), ?_, ?_, ?_⟩
            · rw [HS.out, if_neg (by decide)]; show attrsFrom kd (l.getD 0 (0, 0)).1 (l.drop 1) = _; rw [HA.out]
            · have := dq.below.size; omega
            · rw [HC.out dq _ _ hz]; exact b0
            · rw [HC.out dq _ _ hz]; exact b6
          case measure => simp [intOf]; omega
      · obtain ⟨m, rfl⟩ : ∃ m, k = m + 1 := ⟨k - 1, by omega⟩
        obtain ⟨d1, _⟩ := hd m (by omega)
        replace d1 := cell_below hB d1
        rw [if_neg h0, Nat.add_sub_cancel, attrs_drop hlt] at hrec
        have hm : m < l.length := by omega
        clear hd hc h0
        generalize hA : l.getD (m + 1) (0, 0) = A at *
        obtain ⟨A1, A2⟩ := A
        have HA : Hid (l.getD (m + 1) (0, 0) = (A1, A2)) := hA
        generalize (l.getD m (0, 0)).1 = L1 at *
        clear hA
        dsimp only at *
        cases hx : attrFitsB kd A1 A2
        · rw [hx] at HF hrec
          have HS : Hid (attrsFrom kd (-1) l = false) := by show _ = _; rw [← hrec]; simp
          clear hrec
          go_wp2_with fail
          refine wp_region_calm (by kernel_rfl) (by kernel_rfl) ?_
          repeat (go_big_quiet_step ((go_at_call 152; refine Calls.mono (HF.out _ (Calm.below _)) ?_; rintro e w1 ⟨rfl, hb⟩; exact ⟨rfl, ⟨w1, hb⟩, rfl⟩)))
          refine wpQuiet_nil ?_
          intro _ hw'
          obtain ⟨dq, hw''⟩ := hw'
          subst hw''
          go_wp2_with fail
          go_ret
          exact ⟨ret_bool (by rw [HS.out]), hB.trans (dq.below.mono hB.size)⟩
        · rw [hx] at HF hrec
          have hpos : decide ((0 : Int) < (m : Int) + 1) = true := by simp
          have hsub : (m : Int) + 1 - 1 = m := by omega
          cases hy : decide (A1 ≤ L1)
          · rw [hy] at hrec
            have HS : Hid (attrsFrom kd (-1) l = attrsFrom kd A1 (l.drop (m + 1 + 1))) := by show _ = _; rw [← hrec]; simp
            clear hrec
            go_wp2_with fail
            refine wp_region_calm (by kernel_rfl) (by kernel_rfl) ?_
            repeat (go_big_quiet_step ((go_at_call 152; refine Calls.mono (HF.out _ (Calm.below _)) ?_; rintro e w1 ⟨rfl, hb⟩; exact ⟨rfl, ⟨w1, hb⟩, rfl⟩)))
            refine wpQuiet_nil ?_
            intro _ hw'
            obtain ⟨dq, hw''⟩ := hw'
            subst hw''
            go_wp2_with fail
            go_roundw
            case rel =>
              refine ⟨m + 1 + 1, by omega, by go_num, ?_, hB.trans (dq.below.mono hB.size), ?_, ?_, ?_⟩
              · rw [HS.out, if_neg (by omega)]; show attrsFrom kd (l.getD (m + 1) (0, 0)).1 _ = _; rw [HA.out]
              · have := dq.below.size; omega
              · rw [HC.out dq _ _ hz]; exact b0
              · rw [HC.out dq _ _ hz]; exact b6
            case measure => simp [intOf]; omega
          · rw [hy] at hrec
            have HS : Hid (attrsFrom kd (-1) l = false) := by show _ = _; rw [← hrec]; simp
            clear hrec
            go_wp2_with fail
            refine wp_region_calm (by kernel_rfl) (by kernel_rfl) ?_
            repeat (go_big_quiet_step ((go_at_call 152; refine Calls.mono (HF.out _ (Calm.below _)) ?_; rintro e w1 ⟨rfl, hb⟩; exact ⟨rfl, ⟨w1, hb⟩, rfl⟩)))
            refine wpQuiet_nil ?_
            intro _ hw'
            obtain ⟨dq, hw''⟩ := hw'
            subst hw''
            go_wp2_with fail
            go_ret
            exact ⟨ret_bool (by rw [HS.out]), hB.trans (dq.below.mono hB.size)⟩
    · go_wp2
      go_ret
      refine ⟨ret_bool ?_, hB⟩
      rw [← hrec, List.drop_eq_nil_of_le (by omega)]; rfl
end Go.Proofs.YtpmacpbhdgigfaaGreat
namespace Go.Proofs.YtpmacpbhdgigfaaGreat
open Go.RowKit

/-- Going up from a node, does one come to nobody? -/
def endsF (T : List Nd) : Nat → Int → Bool
  | 0, _ => false
  | f + 1, n => n == -1 || endsF T f (overI (nd T n.toNat))

theorem overI_ok {T : List Nd} (hup : UpOk T) {n : Nat} (hn : n < T.length) : overI (nd T n) = -1 ∨ ∃ m : Nat, overI (nd T n) = m ∧ m < T.length := by
  rcases hup n hn with h | h
  · exact Or.inl (by simpa using h)
  · exact Or.inr (isNodeB_true h)

set_option maxRecDepth 100000 in
set_option maxHeartbeats 1000000 in
theorem refEnds_any (T : List Nd) (hup : UpOk T) (h64 : T.length ≤ 64) (v : Value) (n : Nat) (hn : n < T.length) (w : World) (hT : TreeAt w v T) :
    Calls Tryz.prog 108 #[v, .int .i64 n] w fun e w' => e = .returned (.bool (endsF T (T.length + 1) n)) ∧ w' = w := by
  have HT : Hid (TreeAt w v T) := hT
  obtain ⟨a, cap, rfl, _⟩ := hT
  have HU : Hid (UpOk T) := hup
  clear hup
  go_enter Tryz.func108, Tryz.ntmps108
  go_wp2_with fail
  go_loopw [1, 5] (fun m i wr => ∃ (k : Nat) (x : Int), k ≤ T.length + 1 ∧ i = .int .i64 k ∧ m = .int .i64 x ∧ wr = w ∧ (x = -1 ∨ ∃ j : Nat, x = j ∧ j < T.length) ∧ endsF T (T.length + 1 - k) x = endsF T (T.length + 1) n) (fun _ i _ => T.length + 1 - (intOf i).toNat)
  case atStart => exact ⟨0, n, Nat.zero_le _, rfl, rfl, rfl, Or.inr ⟨n, rfl, hn⟩, rfl⟩
  case round =>
    obtain ⟨k, x, hk, rfl, rfl, rfl, hx, hrec⟩ := hrel
    have HR : Hid (endsF T (T.length + 1 - k) x = endsF T (T.length + 1) n) := hrec
    clear hrec
    by_cases hlt : k ≤ T.length
    · obtain ⟨f, hf⟩ : ∃ f, T.length + 1 - k = f + 1 := ⟨T.length - k, by omega⟩
      have HF : Hid (T.length + 1 - k = f + 1) := hf
      clear hf
      rcases hx with rfl | ⟨j, rfl, hj⟩
      · go_wp2_with fail
        go_ret
        exact ⟨ret_bool (by rw [← HR.out, HF.out]; rfl), rfl⟩
      · have hne : ((j : Int) == -1) = false := by simp
        have HN : Hid (overI (nd T j) = -1 ∨ ∃ m : Nat, overI (nd T j) = m ∧ m < T.length) := overI_ok HU.out hj
        have HE : Hid (endsF T (T.length + 1 - (k + 1)) (overI (nd T j)) = endsF T (T.length + 1) n) := by
          have e : T.length + 1 - (k + 1) = f := by have := HF.out; omega
          show _ = _
          rw [e, ← HR.out, HF.out, endsF, hne, Int.toNat_natCast]
          rfl
        go_wp2_with (go_at_call 154; refine (refUp_any T _ j _ HT.out hj (by omega)).mono ?_; rintro e w1 ⟨rfl, rfl⟩)
        go_roundw
        case rel => exact ⟨k + 1, _, by omega, by go_num, rfl, trivial, HN.out, HE.out⟩
        case measure => simp [intOf]; omega
    · have hke : T.length + 1 - k = 0 := by omega
      have HK : Hid (T.length + 1 - k = 0) := hke
      clear hke
      go_wp2_with fail
      go_ret
      exact ⟨ret_bool (by rw [← HR.out, HK.out]; rfl), rfl⟩

def shadowB (T : List Nd) (n : Nat) : Bool :=
  if (nd T n).kind == 3 then (nd T n).root == -1 && (nd T n).parent == -1 && isNodeB T.length (nd T n).host && (nd T (nd T n).host.toNat).kind == 1 && (nd T (nd T n).host.toNat).root == (n : Int)
  else (nd T n).host == -1 && ((nd T n).root == -1 || ((nd T n).kind == 1 && isNodeB T.length (nd T n).root && (nd T (nd T n).root.toNat).kind == 3 && (nd T (nd T n).root.toNat).host == (n : Int)))

theorem isNodeB_not {len : Nat} {n : Int} (h : isNodeB len n = false) : ¬ (0 ≤ n ∧ n < len) := by
  simp only [isNodeB, Bool.and_eq_false_iff, decide_eq_false_iff_not] at h
  omega

set_option maxRecDepth 100000 in
set_option maxHeartbeats 2000000 in
theorem refShadow_any (T : List Nd) (v : Value) (n : Nat) (w : World) (hT : TreeAt w v T) (hn : n < T.length) (h64 : T.length ≤ 64) :
    Calls Tryz.prog 107 #[v, .int .i64 n] w fun e w' => e = .returned (.bool (shadowB T n)) ∧ Below w.heap.size w w' := by
  obtain ⟨b, off, cap, rfl, hc⟩ := hT.at (by omega)
  obtain ⟨kv, av, hN⟩ := hc n hn
  obtain ⟨n0, n1, n2, n3, n4, n5, n6, hk, ha⟩ := hN
  obtain ⟨ka, kc, rfl, _⟩ := hk
  obtain ⟨aa, ac, rfl, _⟩ := ha
  have hbz : b < w.heap.size := below_of_cell n0
  have hB : ∀ o, Below w.heap.size w (w.alloc o) := fun o => (Below.refl _ w).alloc (Nat.le_refl _) o
  clear hT
  have HC : Hid (∀ m, m < T.length → ∃ kv av, NodeAt w b (off + m * 7) (nd T m) kv av) := hc
  clear hc
  cases h3 : ((nd T n).kind == 3)
  · cases hh : ((nd T n).host == -1)
    · have hh' : ((nd T n).host != -1) = true := by rw [bne, hh]; rfl
      go_enter Tryz.func107, Tryz.ntmps107
      go_wp2_with fail
      go_ret
      exact ⟨ret_bool (by simp only [shadowB, h3, hh, Bool.false_eq_true, if_false, Bool.false_and]), hB _⟩
    · have hh' : ((nd T n).host != -1) = false := by rw [bne, hh]; rfl
      cases hr : ((nd T n).root == -1)
      · cases h1 : ((nd T n).kind == 1)
        · go_enter Tryz.func107, Tryz.ntmps107
          go_wp2_with (go_at_call 53; refine (refIs_any _ _ _ _ _).mono ?_; rintro e w1 ⟨rfl, rfl⟩)
          go_ret
          exact ⟨ret_bool (by simp only [shadowB, h3, hh, hr, h1, Bool.false_eq_true, if_false, Bool.false_and, Bool.true_and, Bool.false_or]), hB _⟩
        · cases hi : isNodeB T.length (nd T n).root
          · go_enter Tryz.func107, Tryz.ntmps107
            go_wp2_with (go_at_call 53; refine (refIs_any _ _ _ _ _).mono ?_; rintro e w1 ⟨rfl, rfl⟩)
            go_ret
            exact ⟨ret_bool (by simp only [shadowB, h3, hh, hr, h1, hi, Bool.false_eq_true, if_false, Bool.false_and, Bool.true_and, Bool.false_or]), hB _⟩
          · obtain ⟨m, hm, hml⟩ := isNodeB_true hi
            obtain ⟨kv2, av2, hM⟩ := HC.out m hml
            have m0 := hM.kind
            have m4 := hM.host
            clear hM
            have hS : shadowB T n = ((nd T m).kind == 3 && (nd T m).host == (n : Int)) := by
              simp only [shadowB, h3, hh, hr, h1, hi, Bool.false_eq_true, if_false, Bool.true_and, Bool.false_or]
              rw [hm, Int.toNat_natCast]
            rw [hS]
            clear hS
            rw [hm] at n5 hi hr
            cases hk3 : ((nd T m).kind == 3)
            · go_enter Tryz.func107, Tryz.ntmps107
              go_wp2_with (go_at_call 53; refine (refIs_any _ _ _ _ _).mono ?_; rintro e w1 ⟨rfl, rfl⟩)
              go_ret
              exact ⟨ret_bool (by simp), hB _⟩
            · go_enter Tryz.func107, Tryz.ntmps107
              go_wp2_with (go_at_call 53; refine (refIs_any _ _ _ _ _).mono ?_; rintro e w1 ⟨rfl, rfl⟩)
              go_ret
              exact ⟨ret_bool (by simp), hB _⟩
      · go_enter Tryz.func107, Tryz.ntmps107
        go_wp2_with fail
        go_ret
        exact ⟨ret_bool (by simp only [shadowB, h3, hh, hr, Bool.false_eq_true, if_false, Bool.true_and, Bool.true_or]), hB _⟩
  · cases hr : ((nd T n).root == -1)
    · go_enter Tryz.func107, Tryz.ntmps107
      go_wp2_with (go_at_call 53; refine (refIs_any _ _ _ _ _).mono ?_; rintro e w1 ⟨rfl, rfl⟩)
      go_ret
      exact ⟨ret_bool (by simp only [shadowB, h3, hr, if_true, Bool.false_and]), hB _⟩
    · cases hp : ((nd T n).parent == -1)
      · go_enter Tryz.func107, Tryz.ntmps107
        go_wp2_with (go_at_call 53; refine (refIs_any _ _ _ _ _).mono ?_; rintro e w1 ⟨rfl, rfl⟩)
        go_ret
        exact ⟨ret_bool (by simp only [shadowB, h3, hr, hp, if_true, Bool.false_and, Bool.true_and]), hB _⟩
      · cases hi : isNodeB T.length (nd T n).host
        · go_enter Tryz.func107, Tryz.ntmps107
          go_wp2_with (go_at_call 53; refine (refIs_any _ _ _ _ _).mono ?_; rintro e w1 ⟨rfl, rfl⟩)
          go_ret
          exact ⟨ret_bool (by simp only [shadowB, h3, hr, hp, hi, if_true, Bool.false_and, Bool.true_and]), hB _⟩
        · obtain ⟨m, hm, hml⟩ := isNodeB_true hi
          obtain ⟨kv2, av2, hM⟩ := HC.out m hml
          have m0 := hM.kind
          have m5 := hM.root
          clear hM
          have hS : shadowB T n = ((nd T m).kind == 1 && (nd T m).root == (n : Int)) := by
            simp only [shadowB, h3, hr, hp, hi, if_true, Bool.true_and]
            rw [hm, Int.toNat_natCast]
          rw [hS]
          clear hS
          rw [hm] at n4 hi
          cases hk1 : ((nd T m).kind == 1)
          · go_enter Tryz.func107, Tryz.ntmps107
            go_wp2_with (go_at_call 53; refine (refIs_any _ _ _ _ _).mono ?_; rintro e w1 ⟨rfl, rfl⟩)
            go_ret
            exact ⟨ret_bool (by simp), hB _⟩
          · go_enter Tryz.func107, Tryz.ntmps107
            go_wp2_with (go_at_call 53; refine (refIs_any _ _ _ _ _).mono ?_; rintro e w1 ⟨rfl, rfl⟩)
            go_ret
            exact ⟨ret_bool (by simp), hB _⟩
end Go.Proofs.YtpmacpbhdgigfaaGreat
namespace Go.Proofs.YtpmacpbhdgigfaaGreat
open Go.RowKit

theorem hideR {p : Prop} (h : p) : Hid p := h

def kidOkB (T : List Nd) (n : Nat) (k : Int) : Bool :=
  isNodeB T.length k && (countN (nd T n).kids k : Int) == 1 && (nd T k.toNat).parent == (n : Int) && ((nd T k.toNat).kind == 1 || (nd T k.toNat).kind == 2)
def refKidsB (T : List Nd) (n : Nat) : Bool :=
  (nd T n).kids.all (kidOkB T n) && !((nd T n).kind == 2 && decide (0 < ((nd T n).kids.length : Int))) && ((nd T n).parent == -1 || (isNodeB T.length (nd T n).parent && (countN (nd T (nd T n).parent.toNat).kids (n : Int) : Int) == 1))

theorem all_false_at {l : List Int} {p : Int → Bool} {k : Nat} (hk : k < l.length) (h : p (l.getD k 0) = false) : l.all p = false := by
  rw [List.all_eq_false]
  refine ⟨l[k], List.getElem_mem hk, ?_⟩
  rw [List.getD_eq_getElem?_getD, List.getElem?_eq_getElem hk, Option.getD_some] at h
  rw [h]; exact Bool.false_ne_true
theorem all_true_of {l : List Int} {p : Int → Bool} (h : ∀ j, j < l.length → p (l.getD j 0) = true) : l.all p = true := by
  rw [List.all_eq_true]
  intro x hx
  obtain ⟨j, hj, rfl⟩ := List.mem_iff_getElem.mp hx
  have := h j hj
  rwa [List.getD_eq_getElem?_getD, List.getElem?_eq_getElem hj, Option.getD_some] at this

set_option maxRecDepth 100000 in
set_option maxHeartbeats 4000000 in
theorem refKids_any (T : List Nd) (hS : Sane T) (v : Value) (n : Nat) (w : World) (hT : TreeAt w v T) (hn : n < T.length) (h64 : T.length ≤ 64) :
    Calls Tryz.prog 106 #[v, .int .i64 n] w fun e w' => e = .returned (.bool (refKidsB T n)) ∧ Below w.heap.size w w' := by
  obtain ⟨b, off, cap, rfl, hc⟩ := hT.at (by omega)
  have HC : Hid (∀ m, m < T.length → ∃ kv av, NodeAt w b (off + m * 7) (nd T m) kv av) := hc
  obtain ⟨kv, av, hN⟩ := hc n hn
  clear hc hT
  obtain ⟨n0, n1, n2, n3, n4, n5, n6, hk, ha⟩ := hN
  have hbz : b < w.heap.size := below_of_cell n0
  have hlen := (hS n hn).1
  have HS : Hid (Sane T) := hS
  clear hS
  have hB : ∀ o, Below w.heap.size w (w.alloc o) := fun o => (Below.refl _ w).alloc (Nat.le_refl _) o
  have HI : Hid (IntsAt w kv (nd T n).kids) := hk
  obtain ⟨ka, kc, rfl, hkc⟩ := hk
  have HK : Hid (0 < (nd T n).kids.length → ∃ b off, ka = some ⟨b, off, none⟩ ∧ ∀ j, j < (nd T n).kids.length → w.cell? ⟨b, off + j, none⟩ = some (.int .i64 ((nd T n).kids.getD j 0))) := hkc
  obtain ⟨aa, ac, rfl, _⟩ := ha
  clear hkc
  -- the end of the function, once all kids are well
  go_enter Tryz.func106, Tryz.ntmps106
  go_wp2_with fail
  go_loopw [6, 7] (fun i _ wr => ∃ k : Nat, k ≤ (nd T n).kids.length ∧ i = .int .i64 k ∧
      wr = w.alloc (.cells #[.int .i64 (nd T n).kind, .int .i64 (nd T n).tag, .int .i64 (nd T n).parent, .slice ka (nd T n).kids.length kc, .int .i64 (nd T n).host, .int .i64 (nd T n).root, .slice aa (nd T n).attrs.length ac] 79) ∧
      (∀ j, j < k → kidOkB T n ((nd T n).kids.getD j 0) = true)) (fun i _ _ => (nd T n).kids.length - (intOf i).toNat)
  case atStart => exact ⟨0, Nat.zero_le _, rfl, rfl, fun j h => by omega⟩
  case round =>
    obtain ⟨k, hk, rfl, rfl, hok⟩ := hrel
    have HO : Hid (∀ j, j < k → kidOkB T n ((nd T n).kids.getD j 0) = true) := hok
    clear hok
    by_cases hlt : k < (nd T n).kids.length
    · obtain ⟨kb, koff, rfl, hd⟩ := HK.out (by omega)
      have c := hd k hlt
      have hkb : kb < w.heap.size := below_of_cell c
      clear hd
      have HF : Hid (kidOkB T n ((nd T n).kids.getD k 0) = false → refKidsB T n = false) := fun h => by rw [refKidsB, all_false_at hlt h]; rfl
      generalize hA : (nd T n).kids.getD k 0 = y at *
      have HA : Hid ((nd T n).kids.getD k 0 = y) := hA
      clear hA
      cases hi : isNodeB T.length y
      · go_wp2_with (first | (go_at_call 53; refine (refIs_any _ _ _ _ _).mono ?_; rintro e w1 ⟨rfl, rfl⟩) | (go_at_call 153; refine (refCount_any _ _ _ _ (HI.out.below (hB _)) hlen).mono ?_; rintro e w1 ⟨rfl, rfl⟩))
        go_ret
        exact ⟨ret_bool (by rw [HF.out (by simp only [kidOkB, hi, Bool.false_and])]), hB _⟩
      · obtain ⟨m, rfl, hml⟩ := isNodeB_true hi
        obtain ⟨kv2, av2, hM⟩ := HC.out m hml
        have m0 := hM.kind
        have m2 := hM.parent
        clear hM
        have HY : Hid (kidOkB T n (m : Int) = ((countN (nd T n).kids m : Int) == 1 && (nd T m).parent == (n : Int) && ((nd T m).kind == 1 || (nd T m).kind == 2))) := by
          show _ = _
          rw [kidOkB, hi, Int.toNat_natCast, Bool.true_and]
        generalize hcn : countN (nd T n).kids m = cn at *
        have HCN : Hid (countN (nd T n).kids m = cn) := hcn
        clear hcn
        cases h1 : ((cn : Int) == 1)
        · have h1' : ((cn : Int) != 1) = true := by rw [bne, h1]; rfl
          go_wp2_with (first | (go_at_call 53; refine (refIs_any _ _ _ _ _).mono ?_; rintro e w1 ⟨rfl, rfl⟩) | (go_at_call 153; refine (refCount_any _ _ _ _ (HI.out.below (hB _)) hlen).mono ?_; rw [HCN.out]; rintro e w1 ⟨rfl, rfl⟩))
          go_ret
          exact ⟨ret_bool (by rw [HF.out (by rw [HY.out, h1]; simp)]), hB _⟩
        · have h1' : ((cn : Int) != 1) = false := by rw [bne, h1]; rfl
          cases h2 : ((nd T m).parent == (n : Int))
          · have h2' : ((nd T m).parent != (n : Int)) = true := by rw [bne, h2]; rfl
            go_wp2_with (first | (go_at_call 53; refine (refIs_any _ _ _ _ _).mono ?_; rintro e w1 ⟨rfl, rfl⟩) | (go_at_call 153; refine (refCount_any _ _ _ _ (HI.out.below (hB _)) hlen).mono ?_; rw [HCN.out]; rintro e w1 ⟨rfl, rfl⟩))
            go_ret
            exact ⟨ret_bool (by rw [HF.out (by rw [HY.out, h2]; simp)]), hB _⟩
          · have h2' : ((nd T m).parent != (n : Int)) = false := by rw [bne, h2]; rfl
            cases h3 : ((nd T m).kind == 1)
            · have h3' : ((nd T m).kind != 1) = true := by rw [bne, h3]; rfl
              cases h4 : ((nd T m).kind == 2)
              · have h4' : ((nd T m).kind != 2) = true := by rw [bne, h4]; rfl
                go_wp2_with (first | (go_at_call 53; refine (refIs_any _ _ _ _ _).mono ?_; rintro e w1 ⟨rfl, rfl⟩) | (go_at_call 153; refine (refCount_any _ _ _ _ (HI.out.below (hB _)) hlen).mono ?_; rw [HCN.out]; rintro e w1 ⟨rfl, rfl⟩))
                go_ret
                exact ⟨ret_bool (by rw [HF.out (by rw [HY.out, h3, h4]; simp)]), hB _⟩
              · have h4' : ((nd T m).kind != 2) = false := by rw [bne, h4]; rfl
                go_wp2_with (first | (go_at_call 53; refine (refIs_any _ _ _ _ _).mono ?_; rintro e w1 ⟨rfl, rfl⟩) | (go_at_call 153; refine (refCount_any _ _ _ _ (HI.out.below (hB _)) hlen).mono ?_; rw [HCN.out]; rintro e w1 ⟨rfl, rfl⟩))
                go_roundw
                case rel =>
                  refine ⟨k + 1, by omega, by go_num, trivial, fun j hj => ?_⟩
                  by_cases h : j = k
                  · subst h; rw [HA.out, HY.out, h1, h2, h4]; simp
                  · exact HO.out j (by omega)
                case measure => simp [intOf]; omega
            · have h3' : ((nd T m).kind != 1) = false := by rw [bne, h3]; rfl
              go_wp2_with (first | (go_at_call 53; refine (refIs_any _ _ _ _ _).mono ?_; rintro e w1 ⟨rfl, rfl⟩) | (go_at_call 153; refine (refCount_any _ _ _ _ (HI.out.below (hB _)) hlen).mono ?_; rw [HCN.out]; rintro e w1 ⟨rfl, rfl⟩))
              go_roundw
              case rel =>
                refine ⟨k + 1, by omega, by go_num, trivial, fun j hj => ?_⟩
                by_cases h : j = k
                · subst h; rw [HA.out, HY.out, h1, h2, h3]; simp
                · exact HO.out j (by omega)
              case measure => simp [intOf]; omega
    · have HR : Hid (refKidsB T n = (!((nd T n).kind == 2 && decide (0 < ((nd T n).kids.length : Int))) && ((nd T n).parent == -1 || (isNodeB T.length (nd T n).parent && (countN (nd T (nd T n).parent.toNat).kids (n : Int) : Int) == 1)))) := by
        show _ = _
        rw [refKidsB, all_true_of (fun j hj => HO.out j (by omega)), Bool.true_and]
      by_cases ht : ((nd T n).kind == 2) = true ∧ 0 < (nd T n).kids.length
      · obtain ⟨ht1, ht2⟩ := ht
        go_wp2_with fail
        go_ret
        exact ⟨ret_bool (by rw [HR.out, ht1, decide_eq_true (by omega)]; rfl), hB _⟩
      · have HT2 : Hid (((nd T n).kind == 2 && decide (0 < ((nd T n).kids.length : Int))) = false) := by
          show _ = _
          cases hk2 : ((nd T n).kind == 2)
          · rfl
          · have : ¬ 0 < (nd T n).kids.length := fun h => ht ⟨hk2, h⟩
            rw [decide_eq_false (by omega)]; rfl
        have HR2 : Hid (refKidsB T n = ((nd T n).parent == -1 || (isNodeB T.length (nd T n).parent && (countN (nd T (nd T n).parent.toNat).kids (n : Int) : Int) == 1))) := by
          show _ = _
          rw [HR.out, HT2.out]; rfl
        clear HR HT2
        -- the two ways past the test of a text's kids
        have hways : ((nd T n).kind == 2) = false ∨ (((nd T n).kind == 2) = true ∧ (nd T n).kids.length = 0) := by
          cases hk2 : ((nd T n).kind == 2)
          · exact Or.inl rfl
          · have : ¬ 0 < (nd T n).kids.length := fun h => ht ⟨hk2, h⟩
            exact Or.inr ⟨rfl, by omega⟩
        clear ht
        cases hp : ((nd T n).parent == -1)
        · cases hi : isNodeB T.length (nd T n).parent
          · have HR3 : Hid (refKidsB T n = false) := by
              show _ = _
              rw [HR2.out, hp, hi]; rfl
            rcases hways with hk2 | ⟨hk2, hk0⟩
            · go_wp2_with (go_at_call 53; refine (refIs_any _ _ _ _ _).mono ?_; rintro e w1 ⟨rfl, rfl⟩)
              go_ret
              exact ⟨ret_bool (by rw [HR3.out]), hB _⟩
            · have hd0 : decide (0 < ((nd T n).kids.length : Int)) = false := decide_eq_false (by omega)
              go_wp2_with (go_at_call 53; refine (refIs_any _ _ _ _ _).mono ?_; rintro e w1 ⟨rfl, rfl⟩)
              go_ret
              exact ⟨ret_bool (by rw [HR3.out]), hB _⟩
          · obtain ⟨m, hm, hml⟩ := isNodeB_true hi
            obtain ⟨kv2, av2, hM⟩ := HC.out m hml
            have m3 := hM.kidsc
            have HCT := refCount_any (nd T m).kids kv2 n _ (hM.kids.below (hB (.cells #[.int .i64 (nd T n).kind, .int .i64 (nd T n).tag, .int .i64 (nd T n).parent, .slice ka (nd T n).kids.length kc, .int .i64 (nd T n).host, .int .i64 (nd T n).root, .slice aa (nd T n).attrs.length ac] 79))) (HS.out m hml).1
            have HR3 : Hid (refKidsB T n = ((countN (nd T m).kids (n : Int) : Int) == 1)) := by
              show _ = _
              rw [HR2.out, hp, hi, hm, Int.toNat_natCast]; rfl
            obtain ⟨ka2, kc2, rfl, _⟩ := hM.kids
            clear hM
            clear HR2
            generalize (nd T n).parent = pp at *
            subst hm
            have HCT := hideR HCT
            rcases hways with hk2 | ⟨hk2, hk0⟩
            · go_wp2_with (first | (go_at_call 53; refine (refIs_any _ _ _ _ _).mono ?_; rintro e w1 ⟨rfl, rfl⟩) | (go_at_call 153; refine HCT.out.mono ?_; rintro e w1 ⟨rfl, rfl⟩))
              go_ret
              exact ⟨ret_bool (by rw [HR3.out]), hB _⟩
            · have hd0 : decide (0 < ((nd T n).kids.length : Int)) = false := decide_eq_false (by omega)
              rw [hk0] at HCT
              go_wp2_with (first | (go_at_call 53; refine (refIs_any _ _ _ _ _).mono ?_; rintro e w1 ⟨rfl, rfl⟩) | (go_at_call 153; refine HCT.out.mono ?_; rintro e w1 ⟨rfl, rfl⟩))
              go_ret
              exact ⟨ret_bool (by rw [HR3.out]), hB _⟩
        · have HR3 : Hid (refKidsB T n = true) := by
            show _ = _
            rw [HR2.out, hp]; rfl
          rcases hways with hk2 | ⟨hk2, hk0⟩
          · go_wp2_with fail
            go_ret
            exact ⟨ret_bool (by rw [HR3.out]), hB _⟩
          · have hd0 : decide (0 < ((nd T n).kids.length : Int)) = false := decide_eq_false (by omega)
            go_wp2_with fail
            go_ret
            exact ⟨ret_bool (by rw [HR3.out]), hB _⟩
end Go.Proofs.YtpmacpbhdgigfaaGreat
namespace Go.Proofs.YtpmacpbhdgigfaaGreat
open Go.RowKit

def refNodeB (T : List Nd) (n : Nat) : Bool := kindFitsB (nd T n) n && attrsFrom (nd T n).kind (-1) (nd T n).attrs && refKidsB T n && shadowB T n
def refMayB (T : List Nd) : Bool := decide (1 ≤ T.length) && (decide (T.length ≤ 64) && (allB T.length (refNodeB T) && allB T.length (fun n => endsF T (T.length + 1) n)))

theorem refNode_upOk {T : List Nd} (h : ∀ n, n < T.length → refNodeB T n = true) : UpOk T := by
  intro n hn
  have hx := h n hn
  simp only [refNodeB, Bool.and_eq_true] at hx
  obtain ⟨⟨⟨_, _⟩, hk⟩, hs⟩ := hx
  rw [overI]
  cases h3 : ((nd T n).kind == 3)
  · rw [if_neg (by simp)]
    simp only [refKidsB, Bool.and_eq_true, Bool.or_eq_true] at hk
    rcases hk.2 with h | h
    · exact Or.inl h
    · exact Or.inr h.1
  · rw [if_pos rfl]
    simp only [shadowB, h3, if_true, Bool.and_eq_true] at hs
    exact Or.inr hs.1.1.2

set_option maxRecDepth 100000 in
set_option maxHeartbeats 4000000 in
theorem refMay_any (T : List Nd) (hS : Sane T) (v : Value) (w : World) (hT : TreeAt w v T) :
    Calls Tryz.prog 44 #[v] w fun e w' => e = .returned (.bool (refMayB T)) ∧ Below w.heap.size w w' := by
  have HT : Hid (TreeAt w v T) := hT
  have HS : Hid (Sane T) := hS
  obtain ⟨a, cap, rfl, _⟩ := hT
  clear hS
  by_cases h1 : 1 ≤ T.length
  · by_cases h64 : T.length ≤ 64
    · have HM : Hid (refMayB T = (allB T.length (refNodeB T) && allB T.length (fun n => endsF T (T.length + 1) n))) := by
        show _ = _
        rw [refMayB, decide_eq_true h1, decide_eq_true h64]; rfl
      go_enter Tryz.func44, Tryz.ntmps44
      go_wp2_with fail
      go_loopw [3] (fun i wr => ∃ k : Nat, k ≤ T.length ∧ i = .int .i64 k ∧ Below w.heap.size w wr ∧ (∀ j, j < k → refNodeB T j = true)) (fun i _ => T.length - (intOf i).toNat)
      case atStart => exact ⟨0, Nat.zero_le _, rfl, Below.refl _ _, fun j h => by omega⟩
      case round =>
        obtain ⟨k, hk, rfl, hB, hok⟩ := hrel
        have HO : Hid (∀ j, j < k → refNodeB T j = true) := hok
        clear hok
        by_cases hlt : k < T.length
        · obtain ⟨b, off, cap2, hv, hc⟩ := HT.out.at (by omega)
          obtain ⟨rfl, rfl⟩ : a = some ⟨b, off, none⟩ ∧ cap = cap2 := by simpa using hv
          obtain ⟨kv, av, hN⟩ := hc k hlt
          have HF : Hid (refNodeB T k = false → refMayB T = false) := fun h => by rw [HM.out, allB_false hlt h]; rfl
          have HK : Hid (∀ w2, Below w.heap.size w w2 → Calls Tryz.prog 104 #[.agg #[.int .i64 (nd T k).kind, .int .i64 (nd T k).tag, .int .i64 (nd T k).parent, kv, .int .i64 (nd T k).host, .int .i64 (nd T k).root, av], .int .i64 k] w2 fun e w' => e = .returned (.bool (kindFitsB (nd T k) k)) ∧ Below w.heap.size w w' ∧ NodeAt w' b (off + k * 7) (nd T k) kv av) := fun w2 h2 => by
            refine (refKind_any _ _ _ _ _).mono ?_
            rintro e w' ⟨rfl, hb⟩
            have hb' := h2.trans (hb.mono h2.size)
            exact ⟨rfl, hb', hN.below hb'⟩
          have HA : Hid (∀ w2, Below w.heap.size w w2 → Calls Tryz.prog 105 #[.agg #[.int .i64 (nd T k).kind, .int .i64 (nd T k).tag, .int .i64 (nd T k).parent, kv, .int .i64 (nd T k).host, .int .i64 (nd T k).root, av]] w2 fun e w' => e = .returned (.bool (attrsFrom (nd T k).kind (-1) (nd T k).attrs)) ∧ Below w.heap.size w w') := fun w2 h2 => by
            refine (refAttrs_any _ _ _ _ (hN.attrs.below h2) (HS.out k hlt).2).mono ?_
            rintro e w' ⟨rfl, hb⟩
            exact ⟨rfl, h2.trans (hb.mono h2.size)⟩
          have HD : Hid (∀ w2, Below w.heap.size w w2 → Calls Tryz.prog 106 #[.slice (some ⟨b, off, none⟩) T.length cap, .int .i64 k] w2 fun e w' => e = .returned (.bool (refKidsB T k)) ∧ Below w.heap.size w w') := fun w2 h2 => by
            refine (refKids_any T HS.out _ k w2 (HT.out.below h2) hlt h64).mono ?_
            rintro e w' ⟨rfl, hb⟩
            exact ⟨rfl, h2.trans (hb.mono h2.size)⟩
          have HH : Hid (∀ w2, Below w.heap.size w w2 → Calls Tryz.prog 107 #[.slice (some ⟨b, off, none⟩) T.length cap, .int .i64 k] w2 fun e w' => e = .returned (.bool (shadowB T k)) ∧ Below w.heap.size w w') := fun w2 h2 => by
            refine (refShadow_any T _ k w2 (HT.out.below h2) hlt h64).mono ?_
            rintro e w' ⟨rfl, hb⟩
            exact ⟨rfl, h2.trans (hb.mono h2.size)⟩
          replace hN := hN.below hB
          obtain ⟨n0, n1, n2, n3, n4, n5, n6, _, _⟩ := hN
          clear hc hv
          cases g1 : kindFitsB (nd T k) k
          · rw [g1] at HK
            go_wp2_with (go_at_call 104; refine (HK.out _ hB).mono ?_; rintro e w1 ⟨rfl, hb1, hN1⟩)
            go_ret
            exact ⟨ret_bool (by rw [HF.out (by rw [refNodeB, g1]; rfl)]), hb1⟩
          · rw [g1] at HK
            cases g2 : attrsFrom (nd T k).kind (-1) (nd T k).attrs
            · rw [g2] at HA
              go_wp2_with (first | (go_at_call 104; refine (HK.out _ hB).mono ?_; rintro e w1 ⟨rfl, hb1, ⟨q0, q1, q2, q3, q4, q5, q6, _, _⟩⟩) | (go_at_call 105; refine (HA.out _ hb1).mono ?_; rintro e w2 ⟨rfl, hb2⟩))
              go_ret
              exact ⟨ret_bool (by rw [HF.out (by rw [refNodeB, g1, g2]; rfl)]), hb2⟩
            · rw [g2] at HA
              cases g3 : refKidsB T k
              · rw [g3] at HD
                go_wp2_with (first | (go_at_call 104; refine (HK.out _ hB).mono ?_; rintro e w1 ⟨rfl, hb1, ⟨q0, q1, q2, q3, q4, q5, q6, _, _⟩⟩) | (go_at_call 105; refine (HA.out _ hb1).mono ?_; rintro e w2 ⟨rfl, hb2⟩) | (go_at_call 106; refine (HD.out _ hb2).mono ?_; rintro e w3 ⟨rfl, hb3⟩))
                go_ret
                exact ⟨ret_bool (by rw [HF.out (by rw [refNodeB, g1, g2, g3]; rfl)]), hb3⟩
              · rw [g3] at HD
                cases g4 : shadowB T k
                · rw [g4] at HH
                  go_wp2_with (first | (go_at_call 104; refine (HK.out _ hB).mono ?_; rintro e w1 ⟨rfl, hb1, ⟨q0, q1, q2, q3, q4, q5, q6, _, _⟩⟩) | (go_at_call 105; refine (HA.out _ hb1).mono ?_; rintro e w2 ⟨rfl, hb2⟩) | (go_at_call 106; refine (HD.out _ hb2).mono ?_; rintro e w3 ⟨rfl, hb3⟩) | (go_at_call 107; refine (HH.out _ hb3).mono ?_; rintro e w4 ⟨rfl, hb4⟩))
                  go_ret
                  exact ⟨ret_bool (by rw [HF.out (by rw [refNodeB, g1, g2, g3, g4]; rfl)]), hb4⟩
                · rw [g4] at HH
                  go_wp2_with (first | (go_at_call 104; refine (HK.out _ hB).mono ?_; rintro e w1 ⟨rfl, hb1, ⟨q0, q1, q2, q3, q4, q5, q6, _, _⟩⟩) | (go_at_call 105; refine (HA.out _ hb1).mono ?_; rintro e w2 ⟨rfl, hb2⟩) | (go_at_call 106; refine (HD.out _ hb2).mono ?_; rintro e w3 ⟨rfl, hb3⟩) | (go_at_call 107; refine (HH.out _ hb3).mono ?_; rintro e w4 ⟨rfl, hb4⟩))
                  go_roundw
                  case rel =>
                    refine ⟨k + 1, by omega, by go_num, hb4, fun j hj => ?_⟩
                    by_cases h : j = k
                    · subst h; rw [refNodeB, g1, g2, g3, g4]; rfl
                    · exact HO.out j (by omega)
                  case measure => simp [intOf]; omega
        · have hall : ∀ j, j < T.length → refNodeB T j = true := fun j hj => HO.out j (by omega)
          have HUP : Hid (UpOk T) := refNode_upOk hall
          have HM2 : Hid (refMayB T = allB T.length (fun n => endsF T (T.length + 1) n)) := by
            show _ = _
            rw [HM.out, allB_true.mpr hall]; rfl
          clear hall
          go_wp2_with fail
          go_loopw [4] (fun i ws => ∃ m : Nat, m ≤ T.length ∧ i = .int .i64 m ∧ Below w.heap.size w ws ∧ (∀ j, j < m → endsF T (T.length + 1) j = true)) (fun i _ => T.length - (intOf i).toNat)
          case atStart => exact ⟨0, Nat.zero_le _, rfl, hB, fun j h => by omega⟩
          case round =>
            obtain ⟨m, hm, rfl, hBs, hok2⟩ := hrel
            have HO2 : Hid (∀ j, j < m → endsF T (T.length + 1) j = true) := hok2
            clear hok2
            by_cases hlm : m < T.length
            · cases g : endsF T (T.length + 1) m
              · have HF2 : Hid (refMayB T = false) := by
                  show _ = _
                  rw [HM2.out]; exact allB_false (p := fun n : Nat => endsF T (T.length + 1) n) hlm g
                go_wp2_with (go_at_call 108; refine (refEnds_any T HUP.out h64 _ m hlm _ (HT.out.below hBs)).mono ?_; rw [g]; rintro e w5 ⟨rfl, rfl⟩)
                go_ret
                exact ⟨ret_bool (by rw [HF2.out]), hBs⟩
              · go_wp2_with (go_at_call 108; refine (refEnds_any T HUP.out h64 _ m hlm _ (HT.out.below hBs)).mono ?_; rw [g]; rintro e w5 ⟨rfl, rfl⟩)
                go_roundw
                case rel =>
                  refine ⟨m + 1, by omega, by go_num, hBs, fun j hj => ?_⟩
                  by_cases h : j = m
                  · subst h; exact g
                  · exact HO2.out j (by omega)
                case measure => simp [intOf]; omega
            · have HF3 : Hid (refMayB T = true) := by
                show _ = _
                rw [HM2.out]; exact allB_true.mpr (fun j hj => HO2.out j (by omega))
              go_wp2_with fail
              go_ret
              exact ⟨ret_bool (by rw [HF3.out]), hBs⟩
    · go_enter Tryz.func44, Tryz.ntmps44
      go_wp2_with fail
      go_ret
      exact ⟨ret_bool (by unfold refMayB; rw [decide_eq_false h64]; simp), Below.refl _ _⟩
  · go_enter Tryz.func44, Tryz.ntmps44
    go_wp2_with fail
    go_ret
    exact ⟨ret_bool (by unfold refMayB; rw [decide_eq_false h1]; rfl), Below.refl _ _⟩
end Go.Proofs.YtpmacpbhdgigfaaGreat
