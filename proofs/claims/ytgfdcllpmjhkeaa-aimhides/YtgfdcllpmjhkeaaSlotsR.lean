/- The document's own Few and layer 5; live of package limelightlaw05. -/
import Derived.Test.YtgfdcllpmjhkeaaBits2
import Derived.Test.YtgfdcllpmjhkeaaSlotsA
namespace Go.Proofs.Ytgfdcllpmjhkeaa
open Go.RowKit

def fewB (T : List Nd) : Bool := smallB T && decide (T.length ≤ 30)
set_option maxHeartbeats 800000 in
theorem refFew_any (T : List Nd) (v : Value) (w : World) (hT : TreeAt w v T) :
    Calls Try.prog 11 #[v] w fun e w' => e = .returned (.bool (fewB T)) ∧ w' = w := by
  obtain ⟨ta, tc, rfl⟩ := hT.shape
  have HT := hideG hT
  clear hT
  cases hs : smallB T
  · have HQ := hideG (show fewB T = false by simp [fewB, hs])
    go_enter Try.func11, Try.ntmps11
    go_wp2_with (go_at_call 33; refine (refSmall_any T _ _ HT.out).mono ?_; rintro e w1 ⟨rfl, hw⟩; subst hw)
    go_ret
    exact ⟨ret_bool HQ.out.symm, rfl⟩
  · by_cases h30 : T.length ≤ 30
    · have HQ := hideG (show fewB T = true by simp [fewB, hs, h30])
      have h30' : (T.length : Int) ≤ 30 := by omega
      go_enter Try.func11, Try.ntmps11
      go_wp2_with (go_at_call 33; refine (refSmall_any T _ _ HT.out).mono ?_; rintro e w1 ⟨rfl, hw⟩; subst hw)
      go_ret
      exact ⟨ret_bool HQ.out.symm, rfl⟩
    · have HQ := hideG (show fewB T = false by simp [fewB, h30])
      have h30' : ¬ (T.length : Int) ≤ 30 := by omega
      go_enter Try.func11, Try.ntmps11
      go_wp2_with (go_at_call 33; refine (refSmall_any T _ _ HT.out).mono ?_; rintro e w1 ⟨rfl, hw⟩; subst hw)
      go_ret
      exact ⟨ret_bool (by rw [HQ.out]; exact decide_eq_false (by omega)), rfl⟩
theorem few_small {T : List Nd} (h : fewB T = true) : smallB T = true := by
  simp only [fewB, Bool.and_eq_true] at h; exact h.1

end Go.Proofs.Ytgfdcllpmjhkeaa
namespace Go.Proofs.Ytgfdcllpmjhkeaa
open Go.RowKit

set_option maxHeartbeats 800000 in
theorem refName_any (T : List Nd) (hm : mayB T = true) (hS : Sane T) (v : Value) (n : Int) (w : World) (hT : TreeAt w v T) :
    Calls Try.prog 65 #[v, .int .i64 n] w fun e w' => e = .returned (.int .i64 (nameI T n)) ∧ w' = w := by
  obtain ⟨a, cap, rfl⟩ := hT.shape
  have HT := hideG hT
  have HS := hideG hS
  have HQ := hideG (show (refGetL T n 4).1 = nameI T n by rw [refGet_eq hm]; rfl)
  clear hT hS hm
  go_enter Try.func65, Try.ntmps65
  go_wp2_with (go_at_call 64; refine (refGet_any T HS.out _ _ _ _ HT.out).mono ?_; rintro e w1 ⟨rfl, hw⟩; subst hw)
  go_ret
  exact ⟨ret_int HQ.out, rfl⟩

def isSlotB (T : List Nd) (n : Nat) : Bool := (nd T n).kind == 1 && ((nd T n).tag == 3 && (nd T (topN T n)).kind == 3)
set_option maxRecDepth 100000 in
set_option maxHeartbeats 1000000 in
theorem refIs5_any (T : List Nd) (hm : mayB T = true) (v : Value) (n : Nat) (hn : n < T.length) (w : World) (hT : TreeAt w v T) :
    Calls Try.prog 87 #[v, .int .i64 (n : Int)] w fun e w' => e = .returned (.bool (isSlotB T n)) ∧ Below w.heap.size w w' := by
  obtain ⟨tb, to, tc, rfl, hct⟩ := hT.at (by omega)
  have htl := top_lt hm hn
  obtain ⟨kv, av, hN⟩ := hct n hn
  obtain ⟨kv', av', hN'⟩ := hct _ htl
  have g0 := hN.kind
  have g1 := hN.tag
  have G2 := hideG hN'.kind
  have HT := hideG hT
  have HM := hideG hm
  have hpos := mayB_pos hm
  have hn0 : (0 : Int) ≤ (n : Int) := by omega
  have ht0 : (0 : Int) ≤ (topN T n : Int) := by omega
  clear hT hm hct hN hN'
  cases h1 : ((nd T n).kind == 1)
  · have HQ := hideG (show isSlotB T n = false by simp [isSlotB, h1])
    go_enter Try.func87, Try.ntmps87
    go_wp2_with fail
    go_ret
    exact ⟨ret_bool HQ.out.symm, Below.refl _ _⟩
  · cases h2 : ((nd T n).tag == 3)
    · have HQ := hideG (show isSlotB T n = false by simp [isSlotB, h2])
      go_enter Try.func87, Try.ntmps87
      go_wp2_with fail
      go_ret
      exact ⟨ret_bool HQ.out.symm, Below.refl _ _⟩
    · have HQ := hideG (show isSlotB T n = ((nd T (topN T n)).kind == 3) by simp [isSlotB, h1, h2])
      go_enter Try.func87, Try.ntmps87
      go_wp2_with (go_at_call 23; refine (refTop3_any T HM.out _ n hn _ HT.out).mono ?_; rintro e w1 ⟨rfl, hb1⟩; have HB1 := hideG hb1; have g2 := cell_below hb1 G2.out; clear hb1)
      go_ret
      exact ⟨ret_bool HQ.out.symm, HB1.out⟩

theorem tag_elem {T : List Nd} (hm : mayB T = true) {n : Nat} (hn : n < T.length) (h : (nd T n).tag = 3) : (nd T n).kind = 1 := by
  have hk := (mayB_fine hm).kind n hn
  have ht : tagFitsB (nd T n).kind (nd T n).tag = true := by
    unfold kindFitsB at hk
    split at hk <;> simp only [Bool.and_eq_true] at hk <;> exact hk.2
  unfold tagFitsB at ht
  split at ht
  · rename_i h1; simpa using h1
  · rw [h] at ht; simp at ht
theorem top_shadow {T : List Nd} (hm : mayB T = true) {r : Nat} (hr : r < T.length) (hk : (nd T r).kind = 3) : topN T r = r :=
  topN_none (by rw [fine_shadow_parent (mayB_fine hm) hr hk]; rfl)
theorem slot_below {T : List Nd} (hm : mayB T = true) {r : Nat} (hr : r < T.length) (hk : (nd T r).kind = 3) {n : Nat} (hn : n ∈ dn T r) : n < T.length ∧ isSlotB T n = ((nd T n).tag == 3) := by
  obtain ⟨hnl, hpar, _⟩ := (forest3 hm).d_segment hr hn
  have ht : topN T n = r := by rw [← top_eq hm hnl hpar, top_shadow hm hr hk]
  refine ⟨hnl, ?_⟩
  unfold isSlotB
  rw [ht, hk]
  cases h : ((nd T n).tag == 3)
  · simp
  · have := tag_elem hm hnl (by simpa using h)
    rw [this]; rfl

set_option maxRecDepth 100000 in
set_option maxHeartbeats 2000000 in
theorem refAll5_any (T : List Nd) (hm : mayB T = true) (v : Value) (r : Nat) (hr : r < T.length) (hk3 : (nd T r).kind = 3) (w : World) (hT : TreeAt w v T) :
    Calls Try.prog 62 #[v, .int .i64 (r : Int)] w fun e w' => ∃ a c, e = .returned (.slice a (castL (slotsN T r)).length c) ∧ w'.ownsRow w.heap.size 3 1 (.slice a (castL (slotsN T r)).length c) (castL (slotsN T r)).length (intCells (castL (slotsN T r))) ∧ Below w.heap.size w w' := by
  obtain ⟨i3, hi3, hz30, hz31, hz32⟩ := info_parts infoT3
  obtain ⟨tb, to, tc, rfl, hct⟩ := hT.at (by omega)
  obtain ⟨kv, av, hN⟩ := hct r hr
  have g0 := hN.kind
  rw [hk3] at g0
  have HT := hideG hT
  have HM := hideG hm
  have hdl := (forest3 hm).d_len hr
  have hpos := mayB_pos hm
  have HSB := hideG (show ∀ x ∈ dn T r, x < T.length ∧ isSlotB T x = ((nd T x).tag == 3) from fun x hx => slot_below hm hr hk3 hx)
  have HLEN := hideG (castL_length (dn T r))
  have hr0 : (0 : Int) ≤ (r : Int) := by omega
  clear hT hm hct hN
  go_enter Try.func62, Try.ntmps62
  go_wp2_with fail
  refine (refList3_any T HM.out _ r hr _ HT.out).mono ?_
  rintro e w2 ⟨a2, c2, rfl, ho2, hb2⟩
  have HL := hideG (ownsRow_ints ho2)
  rw [HLEN.out] at HL ⊢
  have HB2 := hideG hb2
  have HT2 := hideG (HT.out.below hb2)
  clear ho2 hb2 g0
  go_wp2_with fail
  go_loopw [5, 7] (fun o i wr => ∃ (k : Nat) (oa : Option Addr) (oc : Nat), k ≤ (dn T r).length ∧ i = .int .i64 k ∧ o = .slice oa (castL (((dn T r).take k).filter fun n => (nd T n).tag == 3)).length oc ∧ wr.ownsRow w2.heap.size 3 1 (.slice oa (castL (((dn T r).take k).filter fun n => (nd T n).tag == 3)).length oc) (castL (((dn T r).take k).filter fun n => (nd T n).tag == 3)).length (intCells (castL (((dn T r).take k).filter fun n => (nd T n).tag == 3))) ∧ Below w2.heap.size w2 wr) (fun _ i _ => (dn T r).length - (intOf i).toNat)
  case atStart => exact ⟨0, none, 0, Nat.zero_le _, rfl, rfl, World.ownsRow_nil _ _ _ _, Below.refl _ _⟩
  case round =>
    obtain ⟨k, oa, oc, hk, rfl, rfl, hown, hB⟩ := hrel
    have HOk := hideG hown
    have HBk := hideG hB
    clear hown hB
    by_cases hlt : k < (dn T r).length
    · obtain ⟨_, _, hsh, hd⟩ := HL.out.below HBk.out
      simp only [Value.slice.injEq] at hsh
      obtain ⟨rfl, hsq, rfl⟩ := hsh
      clear hsq
      obtain ⟨lb, loff, rfl, hdd⟩ := hd (by rw [HLEN.out]; omega)
      have c1 := hdd k (by rw [HLEN.out]; exact hlt)
      rw [castL_getD _ hlt] at c1
      obtain ⟨hxl, hsb⟩ := HSB.out _ (getD_mem hlt)
      have hft := filter_take hlt (fun n => (nd T n).tag == 3)
      have hcb : (castL (((dn T r).take k).filter fun n => (nd T n).tag == 3)).length ≤ 64 := by
        rw [castL_length]
        have h1 := List.length_filter_le (fun n => (nd T n).tag == 3) ((dn T r).take k)
        have h2 : ((dn T r).take k).length ≤ (dn T r).length := List.length_take_le' ..
        omega
      generalize (dn T r).getD k 0 = x at *
      have hx0 : (0 : Int) ≤ (x : Int) := by omega
      clear hd hdd
      cases htg : ((nd T x).tag == 3)
      · have he : castL (((dn T r).take (k + 1)).filter fun n => (nd T n).tag == 3) = castL (((dn T r).take k).filter fun n => (nd T n).tag == 3) := by
          rw [hft, htg]; simp
        rw [htg] at hsb
        have HSX := hideG hsb
        have HE := hideG he
        clear he hft hsb htg
        generalize castL (((dn T r).take k).filter fun n => (nd T n).tag == 3) = cur at *
        go_wp2_with (go_at_call 87; refine (refIs5_any T HM.out _ x hxl _ (HT2.out.below HBk.out)).mono ?_; rintro e w5 ⟨rfl, hb5⟩; rw [HSX.out]; have HB5 := hideG (HBk.out.trans (hb5.mono HBk.out.size)); have HO5 := hideG (ownsRow_below HOk.out hb5 (fun j e => (HOk.out.lt j e).2)); clear hb5)
        go_roundw
        case rel => exact ⟨k + 1, oa, oc, by omega, by go_num, by rw [HE.out], by rw [HE.out]; exact HO5.out, HB5.out⟩
        case measure => simp [intOf]; omega
      · have he : castL (((dn T r).take (k + 1)).filter fun n => (nd T n).tag == 3) = castL (((dn T r).take k).filter fun n => (nd T n).tag == 3) ++ [(x : Int)] := by
          rw [hft, htg]; simp [castL]
        rw [htg] at hsb
        have HSX := hideG hsb
        have HE := hideG he
        clear he hft hsb htg
        generalize castL (((dn T r).take k).filter fun n => (nd T n).tag == 3) = cur at *
        go_wp2_with (first | (go_at_call 87; refine (refIs5_any T HM.out _ x hxl _ (HT2.out.below HBk.out)).mono ?_; rintro e w5 ⟨rfl, hb5⟩; rw [HSX.out]; have HB5 := hideG (HBk.out.trans (hb5.mono HBk.out.size)); have HO5 := hideG (ownsRow_below HOk.out hb5 (fun j e => (HOk.out.lt j e).2)); have c1' := cell_below hb5 c1; clear hb5) | (at_builtin; refine wpList_append_any rfl (.tmp 30) (.tmp 35) 50 rfl w2.heap.size 3 i3 _ 1 8 Try.underlying50 hi3 hz30 hz31 hz32 rfl (by decide) _ cur.length (intCells cur) rfl (HO5.out.alloc _) _ 1 [.int .i64 (x : Int)] rfl (row_new1 _ _) rfl ?h2 ?h3 ?h4 ?h5 ?_))
        case h2 => intro y hy; simp at hy; subst hy; rfl
        case h3 => simp only [maxLen]; omega
        case h4 => omega
        case h5 => have := HB5.out.size; simp; omega
        intro v4 w4 ho4 hg4 hf4
        obtain ⟨a4, c4, rfl⟩ := ownsRow_shape ho4
        rw [intCells_snoc] at ho4
        have HB4 := hideG ((HB5.out.alloc HB5.out.size (.cells #[.int .i64 (x : Int)] 3)).grown hg4 (by have := HB5.out.size; simp; omega) (fun j e => (HO5.out.lt j e).1))
        have hl4 : (cur ++ [(x : Int)]).length = cur.length + 1 := by simp
        have HL4 := hideG hl4
        have HO4 := hideG ho4
        clear ho4 hg4 hf4 hl4
        go_wp2_with fail
        go_roundw
        case rel => exact ⟨k + 1, a4, c4, by omega, by go_num, by rw [HE.out, HL4.out], by rw [HE.out, HL4.out]; exact HO4.out, HB4.out⟩
        case measure => simp [intOf]; omega
    · have hke : (dn T r).take k = dn T r := List.take_of_length_le (by omega)
      rw [hke] at HOk ⊢
      have HBE := hideG (HB2.out.trans (HBk.out.mono HB2.out.size))
      have HOE := hideG (show wr.ownsRow w.heap.size 3 1 _ _ _ from ownsRow_base HOk.out HB2.out.size)
      clear hke
      go_wp2_with fail
      go_ret
      exact ⟨oa, oc, rfl, HOE.out, HBE.out⟩
set_option maxHeartbeats 800000 in
theorem refAll5_no (T : List Nd) (v : Value) (r : Nat) (hr : r < T.length) (hk3 : ((nd T r).kind == 3) = false) (hpos : T.length ≤ 1000) (w : World) (hT : TreeAt w v T) :
    Calls Try.prog 62 #[v, .int .i64 (r : Int)] w fun e w' => e = .returned (.slice none 0 0) ∧ w' = w := by
  obtain ⟨tb, to, tc, rfl, hct⟩ := hT.at (by omega)
  obtain ⟨kv, av, hN⟩ := hct r hr
  have g0 := hN.kind
  have hne : ((nd T r).kind != 3) = true := by simp only [bne, hk3]; rfl
  have hr0 : (0 : Int) ≤ (r : Int) := by omega
  clear hT hct hN hk3
  go_enter Try.func62, Try.ntmps62
  go_wp2_with fail
  go_ret
  exact ⟨rfl, rfl⟩
end Go.Proofs.Ytgfdcllpmjhkeaa
namespace Go.Proofs.Ytgfdcllpmjhkeaa
open Go.RowKit

theorem place_man {T : List Nd} {r : Nat} {k : Int} (h : manB T (r : Int) = true) : placeI T r k = byNumI T (castL (slotsN T r)) k := by
  unfold placeI placeV; rw [h]; rfl
theorem place_nam {T : List Nd} {r : Nat} {k : Int} (h : manB T (r : Int) = false) : placeI T r k = byNameI T (castL (slotsN T r)) (namesI T r) k := by
  unfold placeI placeV; rw [h]; rfl
theorem names_getD {T : List Nd} {r j : Nat} (h : j < (slotsN T r).length) : (namesI T r).getD j 0 = nameI T (((slotsN T r).getD j 0 : Nat) : Int) := by
  unfold namesI
  rw [List.getD_eq_getElem?_getD, List.getElem?_map, List.getD_eq_getElem?_getD, List.getElem?_eq_getElem h]; rfl

set_option maxRecDepth 100000 in
set_option maxHeartbeats 4000000 in
theorem refOf5_any (T : List Nd) (hm : mayB T = true) (hS : Sane T) (v : Value) (n : Nat) (hn : n < T.length) (w : World) (hT : TreeAt w v T) :
    Calls Try.prog 39 #[v, .int .i64 (n : Int)] w fun e w' => e = .returned (.int .i64 (ofN T n)) ∧ Below w.heap.size w w' := by
  obtain ⟨tb, to, tc, rfl, hct⟩ := hT.at (by omega)
  obtain ⟨kv, av, hN⟩ := hct n hn
  have HT := hideG hT
  have HS := hideG hS
  have HM := hideG hm
  have hpos := mayB_pos hm
  have hn0 : (0 : Int) ≤ (n : Int) := by omega
  rcases parent_cases (mayB_fine hm) hn with e | ⟨e, p, hpl, hpm⟩
  · have hp : (nd T n).parent = -1 := by simpa using e
    have HQ := hideG (show ofN T n = -1 by simp [ofN, hp])
    have g2 := hN.parent
    rw [hp] at g2
    clear hT hS hct hN hm e hp
    go_enter Try.func39, Try.ntmps39
    go_wp2_with fail
    go_ret
    exact ⟨ret_int HQ.out.symm, Below.refl _ _⟩
  · have g2 := hN.parent
    rw [hpm] at g2
    obtain ⟨kv', av', hP⟩ := hct p hpl
    have hpn : ((p : Int) == -1) = false := by simp
    have hp0 : (0 : Int) ≤ (p : Int) := by omega
    cases hr : ((nd T p).root == -1)
    · obtain ⟨q, hrq, hql, hq3, _⟩ := root_facts (mayB_fine hm) hpl hr
      have HQ0 := hideG (show ofN T n = placeI T q (n : Int) by
        unfold ofN; rw [e, hpm, Int.toNat_natCast, hr, hrq, Int.toNat_natCast]; rfl)
      have g5 := hP.root
      rw [hrq] at g5
      have hqn : ((q : Int) == -1) = false := by simp
      have hsl := slotsN_le hm hql
      have HCL := hideG (castL_length (slotsN T q))
      have HLT := hideG (show ∀ x ∈ slotsN T q, x < T.length from fun x hx => (forest3 hm).d_lt hql (List.mem_filter.mp hx).1)
      have HMB := hideG (show (refGetL T (q : Int) 8).2 = manB T (q : Int) by rw [refGet_eq hm]; rfl)
      have HG9 := hideG (show refGetL T (n : Int) 9 = getL T (n : Int) 9 from refGet_eq hm _ _)
      clear hT hS hct hN hm e hpm hP hr hrq
      cases hman : manB T (q : Int)
      · have HQ := hideG (HQ0.out.trans (place_nam hman))
        rw [hman] at HMB
        clear hman
        go_enter Try.func39, Try.ntmps39
        go_wp2_with fail
        refine (refAll5_any T HM.out _ q hql hq3 _ HT.out).mono ?_
        rintro e w2 ⟨a2, c2, rfl, ho2, hb2⟩
        have HL := hideG (ownsRow_ints ho2)
        rw [HCL.out] at HL ⊢
        have HB2 := hideG hb2
        have HT2 := hideG (HT.out.below hb2)
        clear ho2 hb2 g2 g5
        go_wp2_with fail
        refine (refHas_any T HS.out _ _ _ _ HT2.out).mono ?_
        rintro e w3 ⟨rfl, hw3⟩
        subst hw3
        rw [HMB.out]
        go_wp2_with fail
        go_loopw [10] (fun i wr => ∃ k : Nat, k ≤ (slotsN T q).length ∧ i = .int .i64 k ∧ wr = w3 ∧ ∀ j, j < k → (nameI T (n : Int) == (namesI T q).getD j 0) = false) (fun i _ => (slotsN T q).length - (intOf i).toNat)
        case atStart => exact ⟨0, Nat.zero_le _, rfl, rfl, fun j h => by omega⟩
        case round =>
          obtain ⟨k, hk, rfl, rfl, hno⟩ := hrel
          have HN := hideG hno
          clear hno
          by_cases hlt : k < (slotsN T q).length
          · obtain ⟨_, _, hsh, hd⟩ := HL.out
            simp only [Value.slice.injEq] at hsh
            obtain ⟨rfl, hsq, rfl⟩ := hsh
            clear hsq
            obtain ⟨lb, loff, rfl, hdd⟩ := hd (by rw [HCL.out]; omega)
            have c1 := hdd k (by rw [HCL.out]; exact hlt)
            rw [castL_getD _ hlt] at c1
            have hxl := HLT.out _ (getD_mem hlt)
            have hnk := names_getD hlt
            have HLQ := hideG (show (castL (slotsN T q)).getD k 0 = (((slotsN T q).getD k 0 : Nat) : Int) from castL_getD _ hlt)
            generalize (slotsN T q).getD k 0 = x at *
            have hx0 : (0 : Int) ≤ (x : Int) := by omega
            clear hd hdd
            cases heq : (nameI T (n : Int) == (namesI T q).getD k 0)
            · have HX := hideG heq
              have hxe : (nameI T (x : Int) == nameI T (n : Int)) = false := by
                rw [hnk] at heq
                have : ¬ nameI T (n : Int) = nameI T (x : Int) := by simpa using heq
                rw [beq_eq_false_iff_ne]; exact fun e => this e.symm
              clear heq hnk
              go_wp2_with (go_at_call 65; refine (refName_any T HM.out HS.out _ _ _ HT2.out).mono ?_; rintro e w5 ⟨rfl, hw5⟩; subst hw5)
              go_roundw
              case rel =>
                refine ⟨k + 1, by omega, by go_num, trivial, fun j hj => ?_⟩
                by_cases ejk : j = k
                · rw [ejk]; exact HX.out
                · exact HN.out j (by omega)
              case measure => simp [intOf]; omega
            · have hix := idx_hit (x := nameI T (n : Int)) (l := namesI T q) (k := k) (by rw [namesI_len]; exact hlt) HN.out heq
              have HV := hideG (show ofN T n = (x : Int) by
                have hi2 : indexI (namesI T q) (nameI T (n : Int)) = (k : Int) := by unfold indexI; rw [hix, if_pos (by rw [namesI_len]; exact hlt)]
                rw [HQ.out]
                unfold byNameI
                rw [hi2, if_neg (by omega), Int.toNat_natCast]
                exact HLQ.out)
              have hxe : (nameI T (x : Int) == nameI T (n : Int)) = true := by
                rw [hnk] at heq
                have : nameI T (n : Int) = nameI T (x : Int) := by simpa using heq
                rw [this]; simp
              clear heq hnk hix
              go_wp2_with (go_at_call 65; refine (refName_any T HM.out HS.out _ _ _ HT2.out).mono ?_; rintro e w5 ⟨rfl, hw5⟩; subst hw5)
              go_ret
              exact ⟨ret_int HV.out.symm, HB2.out⟩
          · have hix := idx_miss (x := nameI T (n : Int)) (l := namesI T q) (fun j hj => HN.out j (by rw [namesI_len] at hj; omega))
            have HV := hideG (show ofN T n = -1 by
              have hi2 : indexI (namesI T q) (nameI T (n : Int)) = -1 := by unfold indexI; rw [hix, if_neg (by omega)]
              rw [HQ.out]
              unfold byNameI
              rw [hi2]; rfl)
            clear hix
            go_wp2_with fail
            go_ret
            exact ⟨ret_int HV.out.symm, HB2.out⟩
      · have HQ := hideG (HQ0.out.trans (place_man hman))
        rw [hman] at HMB
        clear hman
        cases hg2 : (getL T (n : Int) 9).2
        · have HV := hideG (show ofN T n = -1 by rw [HQ.out]; unfold byNumI; rw [hg2]; rfl)
          have HG2 := hideG hg2
          clear hg2
          go_enter Try.func39, Try.ntmps39
          go_wp2_with fail
          refine (refAll5_any T HM.out _ q hql hq3 _ HT.out).mono ?_
          rintro e w2 ⟨a2, c2, rfl, ho2, hb2⟩
          have HB2 := hideG hb2
          have HT2 := hideG (HT.out.below hb2)
          clear ho2 hb2 g2 g5
          go_wp2_with fail
          refine (refHas_any T HS.out _ _ _ _ HT2.out).mono ?_
          rintro e w3 ⟨rfl, hw3⟩
          subst hw3
          rw [HMB.out]
          go_wp2_with fail
          refine (refGet_any T HS.out _ _ _ _ HT2.out).mono ?_
          rintro e w3 ⟨rfl, hw3⟩
          subst hw3
          rw [HG9.out, HG2.out]
          go_wp2_with fail
          go_ret
          exact ⟨ret_int HV.out.symm, HB2.out⟩
        · cases hcn : containsB (castL (slotsN T q)) (getL T (n : Int) 9).1
          all_goals
            have HV := hideG (show ofN T n = (if containsB (castL (slotsN T q)) (getL T (n : Int) 9).1 then (getL T (n : Int) 9).1 else -1) by rw [HQ.out]; unfold byNumI; rw [hg2]; rfl)
            rw [hcn] at HV
            have HG2 := hideG hg2
            have HCN := hideG hcn
            clear hg2 hcn
            go_enter Try.func39, Try.ntmps39
            go_wp2_with fail
            refine (refAll5_any T HM.out _ q hql hq3 _ HT.out).mono ?_
            rintro e w2 ⟨a2, c2, rfl, ho2, hb2⟩
            have HL := hideG (ownsRow_ints ho2)
            have HB2 := hideG hb2
            have HT2 := hideG (HT.out.below hb2)
            have HLL := hideG (show (castL (slotsN T q)).length ≤ 1000000 by rw [HCL.out]; omega)
            clear ho2 hb2 g2 g5
            generalize castL (slotsN T q) = LL at *
            go_wp2_with fail
            refine (refHas_any T HS.out _ _ _ _ HT2.out).mono ?_
            rintro e w3 ⟨rfl, hw3⟩
            subst hw3
            rw [HMB.out]
            go_wp2_with fail
            refine (refGet_any T HS.out _ _ _ _ HT2.out).mono ?_
            rintro e w3 ⟨rfl, hw3⟩
            subst hw3
            rw [HG9.out, HG2.out]
            generalize (getL T (n : Int) 9).1 = gv at *
            go_wp2_with fail
            refine (refIn_any LL _ _ _ HL.out HLL.out).mono ?_
            rintro e w3 ⟨rfl, hw3⟩
            subst hw3
            rw [HCN.out]
            go_wp2_with fail
            go_ret
            exact ⟨ret_int HV.out.symm, HB2.out⟩
    · have hr1 : (nd T p).root = -1 := by simpa using hr
      have HQ := hideG (show ofN T n = -1 by unfold ofN; rw [e, hpm, Int.toNat_natCast, hr]; rfl)
      have g5 := hP.root
      rw [hr1] at g5
      clear hT hS hct hN hm e hpm hP hr hr1
      go_enter Try.func39, Try.ntmps39
      go_wp2_with fail
      go_ret
      exact ⟨ret_int HQ.out.symm, Below.refl _ _⟩

/-- Who lies in a slot: a kid of the host whose Of is the slot. -/
theorem of_kid {T : List Nd} (hm : mayB T = true) {r h : Nat} (hr : r < T.length) (hk : (nd T r).kind = 3) (hho : (nd T r).host = (h : Int)) (hh : h < T.length) {k : Int} (hkk : k ∈ (nd T h).kids) : ∃ m : Nat, k = m ∧ m < T.length ∧ ofN T m = placeI T r k := by
  obtain ⟨m, rfl, hml, _, hp⟩ := kidP_iff.mp ((mayB_fine hm).kid h hh k hkk)
  refine ⟨m, rfl, hml, ?_⟩
  have hro := fine_hostroot hm hr hk hho
  unfold ofN
  have e1 : ((nd T m).parent == -1) = false := by rw [hp]; simp
  have e2 : ((nd T h).root == -1) = false := by rw [hro]; simp
  rw [e1, hp, Int.toNat_natCast, e2, hro, Int.toNat_natCast]; rfl
theorem filter_takeI {l : List Int} {k : Nat} (h : k < l.length) (p : Int → Bool) : (l.take (k + 1)).filter p = (l.take k).filter p ++ (if p (l.getD k 0) then [l.getD k 0] else []) := by
  rw [List.take_succ_eq_append_getElem h, List.filter_append, List.getD_eq_getElem?_getD, List.getElem?_eq_getElem h]
  congr 1
  simp only [Option.getD_some, List.filter_cons, List.filter_nil]
theorem isSlot_iff {T : List Nd} (hm : mayB T = true) {n : Nat} (hn : n < T.length) : isSlotB T n = ((nd T (topN T n)).kind == 3 && (nd T n).tag == 3) := by
  unfold isSlotB
  cases h : ((nd T n).tag == 3)
  · simp
  · have := tag_elem hm hn (by simpa using h)
    rw [this]; simp

end Go.Proofs.Ytgfdcllpmjhkeaa
namespace Go.Proofs.Ytgfdcllpmjhkeaa
open Go.RowKit

theorem l5Of (T : List Nd) (hs : shortB T = true) (n r : Int) (hr : ofI T n = r) (v : Value) (w : World) (h : TreeAt w v T) :
    Calls Try.prog 37 #[v, .int .i64 n] w fun x w' => x = .returned (.int .i64 r) ∧ Below w.heap.size w w' := by
  rw [← hr]; exact slotOf_any T (sane_of hs) v n w h

def ls5 : List Nd := [⟨0, 0, -1, [1], -1, -1, []⟩, ⟨1, 0, 0, [5, 6], -1, 2, []⟩, ⟨3, 0, -1, [3, 4], 1, -1, []⟩, ⟨1, 3, 2, [], -1, -1, []⟩, ⟨1, 3, 2, [], -1, -1, [(4, 7)]⟩, ⟨1, 0, 1, [], -1, -1, [(4, 7)]⟩, ⟨2, 0, 1, [], -1, -1, []⟩]
def ls5rows (s : Nat) : List (Nd × Value × Value) := [(⟨0, 0, -1, [1], -1, -1, []⟩, .slice (some ⟨s + 0, 0, none⟩) 1 1, .slice none 0 0), (⟨1, 0, 0, [5, 6], -1, 2, []⟩, .slice (some ⟨s + 1, 0, none⟩) 2 2, .slice none 0 0), (⟨3, 0, -1, [3, 4], 1, -1, []⟩, .slice (some ⟨s + 2, 0, none⟩) 2 2, .slice none 0 0), (⟨1, 3, 2, [], -1, -1, []⟩, .slice none 0 0, .slice none 0 0), (⟨1, 3, 2, [], -1, -1, [(4, 7)]⟩, .slice none 0 0, .slice (some ⟨s + 3, 0, none⟩) 1 1), (⟨1, 0, 1, [], -1, -1, [(4, 7)]⟩, .slice none 0 0, .slice (some ⟨s + 4, 0, none⟩) 1 1), (⟨2, 0, 1, [], -1, -1, []⟩, .slice none 0 0, .slice none 0 0)]
def ls5objs (s : Nat) : List Obj := [.cells (intCells [1]).toArray 3, .cells (intCells [5, 6]).toArray 3, .cells (intCells [3, 4]).toArray 3, .cells (attrCells [(4, 7)]).toArray 110, .cells (attrCells [(4, 7)]).toArray 110, .cells (nodesL (ls5rows s)).toArray 53]
theorem ls5_tree (w : World) : TreeAt (allocs w (ls5objs w.heap.size)) (.slice (some ⟨w.heap.size + 5, 0, none⟩) 7 7) ls5 :=
  tree_lit (ls5rows w.heap.size) (allocs_at w _ 5 _ rfl) rfl (List.forall_mem_cons.mpr ⟨⟨ints_lit [1] (allocs_at w _ 0 _ rfl) rfl, attrs_none _⟩, List.forall_mem_cons.mpr ⟨⟨ints_lit [5, 6] (allocs_at w _ 1 _ rfl) rfl, attrs_none _⟩, List.forall_mem_cons.mpr ⟨⟨ints_lit [3, 4] (allocs_at w _ 2 _ rfl) rfl, attrs_none _⟩, List.forall_mem_cons.mpr ⟨⟨ints_none _, attrs_none _⟩, List.forall_mem_cons.mpr ⟨⟨ints_none _, attrs_lit [(4, 7)] (allocs_at w _ 3 _ rfl) rfl⟩, List.forall_mem_cons.mpr ⟨⟨ints_none _, attrs_lit [(4, 7)] (allocs_at w _ 4 _ rfl) rfl⟩, List.forall_mem_cons.mpr ⟨⟨ints_none _, attrs_none _⟩, fun p h => by cases h⟩⟩⟩⟩⟩⟩⟩)

end Go.Proofs.Ytgfdcllpmjhkeaa
