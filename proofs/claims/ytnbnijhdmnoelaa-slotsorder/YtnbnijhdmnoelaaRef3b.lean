/- The document's own Before and Common of layer 3. -/
import Derived.Test.YtnbnijhdmnoelaaRef3
import Derived.Test.YtnbnijhdmnoelaaOBefore
namespace Go.Proofs.Ytnbnijhdmnoelaa
open Go.RowKit

theorem contains_castL {l : List Nat} {x : Nat} : containsB (castL l) (x : Int) = decide (x ∈ l) := by
  unfold containsB; exact decide_eq_decide.mpr mem_castL
theorem index_castL {l : List Nat} {x : Nat} (h : x ∈ l) : indexI (castL l) (x : Int) = (pos x l : Int) := by
  unfold indexI
  rw [idx_pos, castL_length, if_pos (pos_mem.mp h)]
theorem index_castL_not {l : List Nat} {x : Nat} (h : x ∉ l) : indexI (castL l) (x : Int) = -1 := by
  unfold indexI
  rw [idx_pos, castL_length, if_neg (fun h' => h (pos_mem.mpr h'))]

set_option maxRecDepth 100000 in
set_option maxHeartbeats 2000000 in
theorem refBefore_any (T : List Nd) (hm : mayB T = true) (v : Value) (a b : Nat) (ha : a < T.length) (hb : b < T.length) (w : World) (hT : TreeAt w v T) :
    Calls Try.prog 39 #[v, .int .i64 (a : Int), .int .i64 (b : Int)] w fun e w' => e = .returned (.bool (befN T a b)) ∧ Below w.heap.size w w' := by
  obtain ⟨tb, to, tc, rfl, _⟩ := hT.at (by omega)
  have hpos := mayB_pos hm
  have htl := top_lt hm ha
  have hdl := (forest3 hm).d_len htl
  have hcl : (castL (dn T (topN T a))).length ≤ 1000 := by rw [castL_length]; omega
  have HT := hideG hT
  have HM := hideG hm
  have hor : (containsB (castL (dn T (topN T a))) (b : Int) = false ∧ befN T a b = false) ∨ (containsB (castL (dn T (topN T a))) (b : Int) = true ∧ decide (indexI (castL (dn T (topN T a))) (a : Int) < indexI (castL (dn T (topN T a))) (b : Int)) = befN T a b) := by
    rw [contains_castL]
    by_cases h : b ∈ dn T (topN T a)
    · right
      have ht := (mem_top hm ha hb).mp h
      refine ⟨decide_eq_true h, ?_⟩
      rw [index_castL h, index_castL ((mem_top hm ha ha).mpr rfl)]
      unfold befN posT
      rw [decide_eq_true ht.symm, Bool.true_and, ht]
      exact decide_eq_decide.mpr (by omega)
    · left
      refine ⟨decide_eq_false h, ?_⟩
      have ht : ¬ topN T a = topN T b := fun e => h ((mem_top hm ha hb).mpr e.symm)
      unfold befN
      rw [decide_eq_false ht]; rfl
  clear hm hT
  generalize hbq : befN T a b = q at *
  clear hbq
  rcases hor with ⟨h1, rfl⟩ | ⟨h1, h2⟩
  · go_enter Try.func39, Try.ntmps39
    go_wp2_with (first | (go_at_call 37; refine (refTop3_any T HM.out _ a ha _ HT.out).mono ?_; rintro e w1 ⟨rfl, hb1⟩; have HB1 := hideG hb1; clear hb1) | (go_at_call 36; refine (refList3_any T HM.out _ (topN T a) htl _ (HT.out.below HB1.out)).mono ?_; rintro e w2 ⟨a2, c2, rfl, ho2, hb2⟩; have HI := hideG (ownsRow_ints ho2); have HB2 := hideG (HB1.out.trans (hb2.mono HB1.out.size)); clear ho2 hb2; generalize castL (dn T (topN T a)) = l at *) | (go_at_call 38; refine (refIn_any l _ _ _ HI.out (by omega)).mono ?_; rintro e w3 ⟨rfl, hw⟩; subst hw))
    go_ret
    exact ⟨rfl, HB2.out⟩
  · have H2 := hideG h2
    clear h2
    go_enter Try.func39, Try.ntmps39
    go_wp2_with (first | (go_at_call 37; refine (refTop3_any T HM.out _ a ha _ HT.out).mono ?_; rintro e w1 ⟨rfl, hb1⟩; have HB1 := hideG hb1; clear hb1) | (go_at_call 36; refine (refList3_any T HM.out _ (topN T a) htl _ (HT.out.below HB1.out)).mono ?_; rintro e w2 ⟨a2, c2, rfl, ho2, hb2⟩; have HI := hideG (ownsRow_ints ho2); have HB2 := hideG (HB1.out.trans (hb2.mono HB1.out.size)); clear ho2 hb2; generalize castL (dn T (topN T a)) = l at *) | (go_at_call 38; refine (refIn_any l _ _ _ HI.out (by omega)).mono ?_; rintro e w3 ⟨rfl, hw⟩; subst hw) | (go_at_call 41; refine (refPlace_any l _ _ _ HI.out (by omega)).mono ?_; rintro e w3 ⟨rfl, hw⟩; subst hw))
    go_ret
    exact ⟨ret_bool H2.out, HB2.out⟩

set_option maxRecDepth 100000 in
set_option maxHeartbeats 2000000 in
theorem refCommon_any (T : List Nd) (hm : mayB T = true) (v : Value) (a b : Nat) (ha : a < T.length) (hb : b < T.length) (w : World) (hT : TreeAt w v T) :
    Calls Try.prog 40 #[v, .int .i64 (a : Int), .int .i64 (b : Int)] w fun e w' => e = .returned (.int .i64 (comI T a b)) ∧ Below w.heap.size w w' := by
  obtain ⟨tb, to, tc, rfl, _⟩ := hT.at (by omega)
  have hpos := mayB_pos hm
  have hla : (castL (pars T a)).length ≤ 1000 := by rw [castL_length]; have := pars_le T a; omega
  have hlb : (castL (pars T b)).length ≤ 1000 := by rw [castL_length]; have := pars_le T b; omega
  have HT := hideG hT
  have HM := hideG hm
  clear hT hm
  have HLA := hideG (castL_length (pars T a))
  go_enter Try.func40, Try.ntmps40
  go_wp2_with fail
  refine (refUp3_any T HM.out _ a ha _ HT.out).mono ?_
  rintro e w1 ⟨a1, c1, rfl, ho1, hb1⟩
  have HI1 := hideG (ownsRow_ints ho1)
  have HB1 := hideG hb1
  clear ho1 hb1
  go_wp2_with fail
  refine (refUp3_any T HM.out _ b hb _ (HT.out.below HB1.out)).mono ?_
  rintro e w2 ⟨a2, c2, rfl, ho2, hb2⟩
  have HI2 := hideG (ownsRow_ints ho2)
  have HA := hideG (HI1.out.below hb2)
  have HB2 := hideG (HB1.out.trans (hb2.mono HB1.out.size))
  clear ho2 hb2
  obtain ⟨_, _, hsh, hc⟩ := HA.out
  simp only [Value.slice.injEq, true_and] at hsh
  obtain ⟨rfl, rfl⟩ := hsh
  have HC := hideG hc
  clear hc
  go_wp2_with fail
  go_loopw [9] (fun i wr => ∃ k : Nat, k ≤ (castL (pars T a)).length ∧ i = .int .i64 k ∧ wr = w2 ∧ ∀ y ∈ (pars T a).take k, abvB T (y : Int) b = false) (fun i _ => (castL (pars T a)).length - (intOf i).toNat)
  case atStart => exact ⟨0, Nat.zero_le _, rfl, rfl, fun y h => by simp at h⟩
  case round =>
    obtain ⟨k, hk, rfl, rfl, hno⟩ := hrel
    have HN := hideG hno
    clear hno
    by_cases hlt : k < (castL (pars T a)).length
    · obtain ⟨bk, off, rfl, hd⟩ := HC.out (by omega)
      have c3 := hd k hlt
      have hkl : k < (pars T a).length := by rw [← HLA.out]; exact hlt
      have hget : (castL (pars T a)).getD k 0 = (((pars T a)[k] : Nat) : Int) := by
        unfold castL
        rw [List.getD_eq_getElem?_getD, List.getElem?_map, List.getElem?_eq_getElem hkl]; rfl
      rw [hget] at c3
      have htk : (pars T a).take (k + 1) = (pars T a).take k ++ [(pars T a)[k]] := List.take_succ_eq_append_getElem hkl
      have HTK := hideG htk
      clear htk hget hd
      generalize hx : (pars T a)[k] = x at *
      have hcx : containsB (castL (pars T b)) (x : Int) = abvB T (x : Int) b := by
        rw [contains_castL]
        cases h : abvB T (x : Int) b
        · exact decide_eq_false (fun h' => by rw [abvB_iff.mpr h'] at h; cases h)
        · exact decide_eq_true (abvB_iff.mp h)
      cases hab : abvB T (x : Int) b
      · rw [hab] at hcx
        have HX := hideG hab
        clear hab hx
        go_wp2_with (go_at_call 38; refine (refIn_any (castL (pars T b)) _ _ _ HI2.out (by omega)).mono ?_; rintro e w3 ⟨rfl, hw⟩; subst hw)
        go_roundw
        case rel =>
          refine ⟨k + 1, by omega, by go_num, trivial, fun y hy => ?_⟩
          rw [HTK.out] at hy
          rcases List.mem_append.mp hy with hy | hy
          · exact HN.out y hy
          · simp at hy; subst hy; exact HX.out
        case measure => simp [intOf]; omega
      · rw [hab] at hcx
        have HX := hideG hab
        clear hab hx
        have HV := hideG (show comI T a b = (x : Int) by
          unfold comI
          rw [com_of_pre (q := (pars T a).take k) (x := x) ⟨(pars T a).drop (k + 1), by rw [← HTK.out]; exact List.take_append_drop ..⟩ HN.out HX.out])
        go_wp2_with (go_at_call 38; refine (refIn_any (castL (pars T b)) _ _ _ HI2.out (by omega)).mono ?_; rintro e w3 ⟨rfl, hw⟩; subst hw)
        go_ret
        exact ⟨ret_int HV.out.symm, HB2.out⟩
    · have hke : k = (castL (pars T a)).length := by omega
      have HV := hideG (show comI T a b = -1 by
        unfold comI
        rw [com_of_all (fun y hy => HN.out y (by rw [List.take_of_length_le (by rw [hke, HLA.out]; exact Nat.le_refl _)]; exact hy))])
      clear hke
      go_wp2_with fail
      go_ret
      exact ⟨ret_int HV.out.symm, HB2.out⟩
end Go.Proofs.Ytnbnijhdmnoelaa
