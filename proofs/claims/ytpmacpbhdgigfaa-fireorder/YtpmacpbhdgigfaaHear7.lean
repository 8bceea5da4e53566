/- The document's own Check and Drop of layer 8. -/
import Derived.Test.YtpmacpbhdgigfaaHear6
namespace Go.Proofs.Ytpmacpbhdgigfaa.L8
open Go.RowKit

theorem find_take {h : Hr} : ∀ {l : List Hr} {k : Nat}, k ≤ l.length → ((findL h l < k) ↔ hasB (l.take k) h = true)
  | [], k, hk => by simp at hk; subst hk; simp [hasB, findL]
  | a :: l, 0, _ => by simp [hasB, findL]
  | a :: l, k + 1, hk => by
    have ih := find_take (h := h) (l := l) (k := k) (by simpa using hk)
    cases ha : oneH a h
    · have e1 : findL h (a :: l) = findL h l + 1 := by simp [findL, ha]
      have e2 : findL h ((a :: l).take (k + 1)) = findL h (l.take k) + 1 := by simp [findL, ha]
      have e3 : ((a :: l).take (k + 1)).length = (l.take k).length + 1 := by simp
      unfold hasB at ih ⊢
      rw [e1, e2, e3]
      rw [decide_eq_true_eq] at ih ⊢
      constructor
      · intro h; have := ih.mp (by omega); omega
      · intro h; have := ih.mpr (by omega); omega
    · have e1 : findL h (a :: l) = 0 := by simp [findL, ha]
      have e2 : findL h ((a :: l).take (k + 1)) = 0 := by simp [findL, ha]
      unfold hasB
      rw [e1, e2]
      simp
theorem one_refl (x : Hr) : oneH x x = true := by simp [oneH]
theorem find_self {l : List Hr} {k : Nat} (_hk : k < l.length) : findL (l.getD k hrD) l ≤ k := by
  rcases Nat.lt_or_ge k (findL (l.getD k hrD) l) with h | h
  · exfalso
    have : ∀ {m : List Hr} {x : Hr} {j : Nat}, j < findL x m → oneH (m.getD j hrD) x = false := by
      intro m
      induction m with
      | nil => intro x j hj; simp [findL] at hj
      | cons a m ih =>
        intro x j hj
        cases ha : oneH a x
        · simp only [findL, ha, Bool.false_eq_true, if_false] at hj
          cases j with
          | zero => simpa using ha
          | succ j => simpa using ih (x := x) (j := j) (by omega)
        · simp [findL, ha] at hj
    have h2 := this h
    rw [one_refl] at h2
    cases h2
  · exact h
theorem place_lt {l : List Hr} {k : Nat} (hk : k < l.length) : decide (findI l (l.getD k hrD) < (k : Int)) = hasB (l.take k) (l.getD k hrD) := by
  have h1 := find_self hk
  have h2 : hasB l (l.getD k hrD) = true := by unfold hasB; rw [decide_eq_true_iff]; omega
  rw [findI_has, h2, Bool.eq_iff_iff, decide_eq_true_iff, ← find_take (by omega : k ≤ l.length)]
  simp

set_option maxRecDepth 100000 in
set_option maxHeartbeats 8000000 in
theorem refCheck_any (l : List Hr) (nodes : Int) (v : Value) (w : World) (hL : HearsAt w v l) (hl : l.length ≤ 100000) :
    Calls Try.prog 7 #[v, .int .i64 nodes] w fun x w' => x = .returned (.int .i64 (checkE l nodes)) ∧ Below w.heap.size w w' := by
  have HLL0 := hideG hL
  obtain ⟨a, cap, rfl, hcap, hc⟩ := hL
  have HC := hideG hc
  clear hc hcap
  go_enter Try.func7, Try.ntmps7
  go_wp2_with fail
  go_loopw [5] (fun i wr => ∃ k : Nat, k ≤ l.length ∧ i = .int .i64 k ∧ (∀ j, j < k → badH l j = false) ∧ Below w.heap.size w wr) (fun i _ => l.length - (intOf i).toNat)
  case atStart => exact ⟨0, Nat.zero_le _, rfl, fun j hj => by omega, Below.refl _ _⟩
  case round =>
    obtain ⟨k, hk, rfl, hno, hB⟩ := hrel
    have HNO := hideG hno
    have HB := hideG hB
    clear hno hB
    by_cases hlt : k < l.length
    · obtain ⟨b, off, rfl, hd⟩ := HC.out (by omega)
      have HLL := HLL0
      have hH := (hd k hlt).below HB.out
      have HPL := hideG (place_lt hlt)
      generalize hx : l.getD k hrD = x at *
      have c0 := hH.node
      have c1 := hH.type
      have c2 := hH.cap
      have c3 := hH.once
      have c4 := hH.prog
      have hk0 : (0 : Int) ≤ (k : Int) := by omega
      have hbb : b < wr.heap.size := below_of_cell c0
      have HX := hideG hx
      clear hd hH hx
      cases hm : mayH x
      · have HQ := hideG (show checkE l nodes = 1 by
          unfold checkE; rw [any_range hlt (show badH l k = true by unfold badH; rw [HX.out, hm]; rfl)]; split <;> rfl)
        have HM := hideG hm
        clear hm
        go_wp2_with fail
        refine (refMay_any x _).mono ?_
        rintro e w1 ⟨rfl, hb1⟩
        rw [HM.out]
        have HB1 := hideG (HB.out.trans (hb1.mono HB.out.size))
        clear hb1
        go_wp2_with fail
        go_ret
        exact ⟨ret_int HQ.out.symm, HB1.out⟩
      · have HM := hideG hm
        clear hm
        cases hh : hasB (l.take k) x
        · have HHB := hideG hh
          rw [hh] at HPL
          clear hh
          go_wp2_with fail
          refine (refMay_any x _).mono ?_
          rintro e w1 ⟨rfl, hb1⟩
          rw [HM.out]
          have HB1 := hideG (HB.out.trans (hb1.mono HB.out.size))
          have d0 := cell_below hb1 c0
          have d1 := cell_below hb1 c1
          have d2 := cell_below hb1 c2
          have d3 := cell_below hb1 c3
          have d4 := cell_below hb1 c4
          clear hb1 c0 c1 c2 c3 c4
          go_wp2_with fail
          refine (refPlace_any l x _ _ (HLL.out.below HB1.out) (by omega)).mono ?_
          rintro e w2 ⟨rfl, hb2⟩
          have HB2 := hideG (HB1.out.trans (hb2.mono HB1.out.size))
          clear HB1 d0 d1 d2 d3 d4
          have HB1 := HB2
          clear hb2 HB2
          have hplf := HPL.out
          go_wp2_with fail
          go_roundw
          case rel => exact ⟨k + 1, by omega, by go_num, fun j hj => by
            by_cases e : j = k
            · subst e; unfold badH; rw [HX.out, HM.out, HHB.out]; rfl
            · exact HNO.out j (by omega), HB1.out⟩
          case measure => simp [intOf]; omega
        · have HQ := hideG (show checkE l nodes = 1 by
            unfold checkE; rw [any_range hlt (show badH l k = true by unfold badH; rw [HX.out, hh, Bool.or_true])]; split <;> rfl)
          rw [hh] at HPL
          clear hh
          go_wp2_with fail
          refine (refMay_any x _).mono ?_
          rintro e w1 ⟨rfl, hb1⟩
          rw [HM.out]
          have HB1 := hideG (HB.out.trans (hb1.mono HB.out.size))
          have d0 := cell_below hb1 c0
          have d1 := cell_below hb1 c1
          have d2 := cell_below hb1 c2
          have d3 := cell_below hb1 c3
          have d4 := cell_below hb1 c4
          clear hb1 c0 c1 c2 c3 c4
          go_wp2_with fail
          refine (refPlace_any l x _ _ (HLL.out.below HB1.out) (by omega)).mono ?_
          rintro e w2 ⟨rfl, hb2⟩
          have HB2 := hideG (HB1.out.trans (hb2.mono HB1.out.size))
          clear HB1 d0 d1 d2 d3 d4
          have HB1 := HB2
          clear hb2 HB2
          have hplf := HPL.out
          go_wp2_with fail
          go_ret
          exact ⟨ret_int HQ.out.symm, HB1.out⟩
    · have hall : ∀ j, j < l.length → badH l j = false := fun j hj => HNO.out j (by omega)
      by_cases h64 : (64 : Int) < (l.length : Int)
      · have HQ := hideG (show checkE l nodes = 1 by unfold checkE; rw [if_pos (by omega)])
        clear hall
        go_wp2_with fail
        go_ret
        exact ⟨ret_int HQ.out.symm, HB.out⟩
      · have E1 := hideG (show checkE l nodes = if (List.range l.length).any (fun j => farH nodes (l.getD j hrD)) then 2 else 0 by unfold checkE; rw [if_neg (by omega), any_range_no hall]; rfl)
        clear hall
        go_wp2_with fail
        go_loopw [6] (fun i wr => ∃ k : Nat, k ≤ l.length ∧ i = .int .i64 k ∧ (∀ j, j < k → farH nodes (l.getD j hrD) = false) ∧ Below w.heap.size w wr) (fun i _ => l.length - (intOf i).toNat)
        case atStart => exact ⟨0, Nat.zero_le _, rfl, fun j hj => by omega, HB.out⟩
        case round =>
          obtain ⟨q, hq, rfl, hnf, hBq⟩ := hrel
          have HNF := hideG hnf
          have HBq := hideG hBq
          clear hnf hBq
          by_cases hltq : q < l.length
          · obtain ⟨b, off, rfl, hd⟩ := HC.out (by omega)
            have hH := (hd q hltq).below HBq.out
            generalize hx : l.getD q hrD = x at *
            have c0 := hH.node
            have c1 := hH.type
            have c2 := hH.cap
            have c3 := hH.once
            have c4 := hH.prog
            have hq0 : (0 : Int) ≤ (q : Int) := by omega
            have HX := hideG hx
            clear hd hH hx
            cases hf : decide (nodes ≤ x.node)
            · have HF := hideG hf
              go_wp2_with fail
              go_roundw
              case rel => exact ⟨q + 1, by omega, by go_num, fun j hj => by
                by_cases e : j = q
                · subst e; unfold farH; rw [HX.out]; exact HF.out
                · exact HNF.out j (by omega), HBq.out⟩
              case measure => simp [intOf]; omega
            · have HQ := hideG (show checkE l nodes = 2 by
                rw [E1.out, any_range hltq (show farH nodes (l.getD q hrD) = true by unfold farH; rw [HX.out]; exact hf)]; rfl)
              go_wp2_with fail
              go_ret
              exact ⟨ret_int HQ.out.symm, HBq.out⟩
          · have HQ := hideG (show checkE l nodes = 0 by
              rw [E1.out, any_range_no (fun j hj => HNF.out j (by omega))]; rfl)
            go_wp2_with fail
            go_ret
            exact ⟨ret_int HQ.out.symm, HBq.out⟩
end Go.Proofs.Ytpmacpbhdgigfaa.L8
