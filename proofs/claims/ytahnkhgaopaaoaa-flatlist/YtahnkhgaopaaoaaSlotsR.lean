/- The document's own Few and layer 5; live of package limelightlaw05. -/
import Derived.Test.YtahnkhgaopaaoaaBits2
import Derived.Test.YtahnkhgaopaaoaaSlotsA
namespace Go.Proofs.Ytahnkhgaopaaoaa
open Go.RowKit

def fewB (T : List Nd) : Bool := smallB T && decide (T.length ≤ 30)
set_option maxHeartbeats 800000 in
theorem refFew_any (T : List Nd) (v : Value) (w : World) (hT : TreeAt w v T) :
    Calls Try.prog 15 #[v] w fun e w' => e = .returned (.bool (fewB T)) ∧ w' = w := by
  obtain ⟨ta, tc, rfl⟩ := hT.shape
  have HT := hideG hT
  clear hT
  cases hs : smallB T
  · have HQ := hideG (show fewB T = false by simp [fewB, hs])
    go_enter Try.func15, Try.ntmps15
    go_wp2_with (go_at_call 53; refine (refSmall_any T _ _ HT.out).mono ?_; rintro e w1 ⟨rfl, hw⟩; subst hw)
    go_ret
    exact ⟨ret_bool HQ.out.symm, rfl⟩
  · by_cases h30 : T.length ≤ 30
    · have HQ := hideG (show fewB T = true by simp [fewB, hs, h30])
      have h30' : (T.length : Int) ≤ 30 := by omega
      go_enter Try.func15, Try.ntmps15
      go_wp2_with (go_at_call 53; refine (refSmall_any T _ _ HT.out).mono ?_; rintro e w1 ⟨rfl, hw⟩; subst hw)
      go_ret
      exact ⟨ret_bool HQ.out.symm, rfl⟩
    · have HQ := hideG (show fewB T = false by simp [fewB, h30])
      have h30' : ¬ (T.length : Int) ≤ 30 := by omega
      go_enter Try.func15, Try.ntmps15
      go_wp2_with (go_at_call 53; refine (refSmall_any T _ _ HT.out).mono ?_; rintro e w1 ⟨rfl, hw⟩; subst hw)
      go_ret
      exact ⟨ret_bool (by rw [HQ.out]; exact decide_eq_false (by omega)), rfl⟩
theorem few_small {T : List Nd} (h : fewB T = true) : smallB T = true := by
  simp only [fewB, Bool.and_eq_true] at h; exact h.1

end Go.Proofs.Ytahnkhgaopaaoaa
namespace Go.Proofs.Ytahnkhgaopaaoaa
open Go.RowKit

set_option maxHeartbeats 800000 in
theorem refName_any (T : List Nd) (hm : mayB T = true) (hS : Sane T) (v : Value) (n : Int) (w : World) (hT : TreeAt w v T) :
    Calls Try.prog 75 #[v, .int .i64 n] w fun e w' => e = .returned (.int .i64 (nameI T n)) ∧ w' = w := by
  obtain ⟨a, cap, rfl⟩ := hT.shape
  have HT := hideG hT
  have HS := hideG hS
  have HQ := hideG (show (refGetL T n 4).1 = nameI T n by rw [refGet_eq hm]; rfl)
  clear hT hS hm
  go_enter Try.func75, Try.ntmps75
  go_wp2_with (go_at_call 74; refine (refGet_any T HS.out _ _ _ _ HT.out).mono ?_; rintro e w1 ⟨rfl, hw⟩; subst hw)
  go_ret
  exact ⟨ret_int HQ.out, rfl⟩

def isSlotB (T : List Nd) (n : Nat) : Bool := (nd T n).kind == 1 && ((nd T n).tag == 3 && (nd T (topN T n)).kind == 3)
set_option maxRecDepth 100000 in
set_option maxHeartbeats 1000000 in
theorem refIs5_any (T : List Nd) (hm : mayB T = true) (v : Value) (n : Nat) (hn : n < T.length) (w : World) (hT : TreeAt w v T) :
    Calls Try.prog 92 #[v, .int .i64 (n : Int)] w fun e w' => e = .returned (.bool (isSlotB T n)) ∧ Below w.heap.size w w' := by
  obtain ⟨tb, to, tc, rfl, hct⟩ := hT.at (by omega)
  have htl := top_lt hm hn
  obtain ⟨kv, av, hN⟩ := hct n hn
  obtain ⟨kv', av', hN'⟩ := hct _ htl
  have g0 := hN.kind
  have g1 := hN.tag
  have G2 := hideG hN'.kind
  have HT := hideG hT
  have HM := hideG hm
  have hpos := mayB_pos hm
  have hn0 : (0 : Int) ≤ (n : Int) := by omega
  have ht0 : (0 : Int) ≤ (topN T n : Int) := by omega
  clear hT hm hct hN hN'
  cases h1 : ((nd T n).kind == 1)
  · have HQ := hideG (show isSlotB T n = false by simp [isSlotB, h1])
    go_enter Try.func92, Try.ntmps92
    go_wp2_with fail
    go_ret
    exact ⟨ret_bool HQ.out.symm, Below.refl _ _⟩
  · cases h2 : ((nd T n).tag == 3)
    · have HQ := hideG (show isSlotB T n = false by simp [isSlotB, h2])
      go_enter Try.func92, Try.ntmps92
      go_wp2_with fail
      go_ret
      exact ⟨ret_bool HQ.out.symm, Below.refl _ _⟩
    · have HQ := hideG (show isSlotB T n = ((nd T (topN T n)).kind == 3) by simp [isSlotB, h1, h2])
      go_enter Try.func92, Try.ntmps92
      go_wp2_with (go_at_call 51; refine (refTop3_any T HM.out _ n hn _ HT.out).mono ?_; rintro e w1 ⟨rfl, hb1⟩; have HB1 := hideG hb1; have g2 := cell_below hb1 G2.out; clear hb1)
      go_ret
      exact ⟨ret_bool HQ.out.symm, HB1.out⟩

theorem tag_elem {T : List Nd} (hm : mayB T = true) {n : Nat} (hn : n < T.length) (h : (nd T n).tag = 3) : (nd T n).kind = 1 := by
  have hk := (mayB_fine hm).kind n hn
  have ht : tagFitsB (nd T n).kind (nd T n).tag = true := by
    unfold kindFitsB at hk
    split at hk <;> simp only [Bool.and_eq_true] at hk <;> exact hk.2
  unfold tagFitsB at ht
  split at ht
  · rename_i h1; simpa using h1
  · rw [h] at ht; simp at ht
theorem top_shadow {T : List Nd} (hm : mayB T = true) {r : Nat} (hr : r < T.length) (hk : (nd T r).kind = 3) : topN T r = r :=
  topN_none (by rw [fine_shadow_parent (mayB_fine hm) hr hk]; rfl)
theorem slot_below {T : List Nd} (hm : mayB T = true) {r : Nat} (hr : r < T.length) (hk : (nd T r).kind = 3) {n : Nat} (hn : n ∈ dn T r) : n < T.length ∧ isSlotB T n = ((nd T n).tag == 3) := by
  obtain ⟨hnl, hpar, _⟩ := (forest3 hm).d_segment hr hn
  have ht : topN T n = r := by rw [← top_eq hm hnl hpar, top_shadow hm hr hk]
  refine ⟨hnl, ?_⟩
  unfold isSlotB
  rw [ht, hk]
  cases h : ((nd T n).tag == 3)
  · simp
  · have := tag_elem hm hnl (by simpa using h)
    rw [this]; rfl

set_option maxRecDepth 100000 in
set_option maxHeartbeats 2000000 in
theorem refAll5_any (T : List Nd) (hm : mayB T = true) (v : Value) (r : Nat) (hr : r < T.length) (hk3 : (nd T r).kind = 3) (w : World) (hT : TreeAt w v T) :
    Calls Try.prog 72 #[v, .int .i64 (r : Int)] w fun e w' => ∃ a c, e = .returned (.slice a (castL (slotsN T r)).length c) ∧ w'.ownsRow w.heap.size 3 1 (.slice a (castL (slotsN T r)).length c) (castL (slotsN T r)).length (intCells (castL (slotsN T r))) ∧ Below w.heap.size w w' := by
  obtain ⟨i3, hi3, hz30, hz31, hz32⟩ := info_parts infoT3
  obtain ⟨tb, to, tc, rfl, hct⟩ := hT.at (by omega)
  obtain ⟨kv, av, hN⟩ := hct r hr
  have g0 := hN.kind
  rw [hk3] at g0
  have HT := hideG hT
  have HM := hideG hm
  have hdl := (forest3 hm).d_len hr
  have hpos := mayB_pos hm
  have HSB := hideG (show ∀ x ∈ dn T r, x < T.length ∧ isSlotB T x = ((nd T x).tag == 3) from fun x hx => slot_below hm hr hk3 hx)
  have HLEN := hideG (castL_length (dn T r))
  have hr0 : (0 : Int) ≤ (r : Int) := by omega
  clear hT hm hct hN
  go_enter Try.func72, Try.ntmps72
  go_wp2_with fail
  refine (refList3_any T HM.out _ r hr _ HT.out).mono ?_
  rintro e w2 ⟨a2, c2, rfl, ho2, hb2⟩
  have HL := hideG (ownsRow_ints ho2)
  rw [HLEN.out] at HL ⊢
  have HB2 := hideG hb2
  have HT2 := hideG (HT.out.below hb2)
  clear ho2 hb2 g0
  go_wp2_with fail
  go_loopw [5, 7] (fun o i wr => ∃ (k : Nat) (oa : Option Addr) (oc : Nat), k ≤ (dn T r).length ∧ i = .int .i64 k ∧ o = .slice oa (castL (((dn T r).take k).filter fun n => (nd T n).tag == 3)).length oc ∧ wr.ownsRow w2.heap.size 3 1 (.slice oa (castL (((dn T r).take k).filter fun n => (nd T n).tag == 3)).length oc) (castL (((dn T r).take k).filter fun n => (nd T n).tag == 3)).length (intCells (castL (((dn T r).take k).filter fun n => (nd T n).tag == 3))) ∧ Below w2.heap.size w2 wr) (fun _ i _ => (dn T r).length - (intOf i).toNat)
  case atStart => exact ⟨0, none, 0, Nat.zero_le _, rfl, rfl, World.ownsRow_nil _ _ _ _, Below.refl _ _⟩
  case round =>
    obtain ⟨k, oa, oc, hk, rfl, rfl, hown, hB⟩ := hrel
    have HOk := hideG hown
    have HBk := hideG hB
    clear hown hB
    by_cases hlt : k < (dn T r).length
    · obtain ⟨_, _, hsh, hd⟩ := HL.out.below HBk.out
      simp only [Value.slice.injEq] at hsh
      obtain ⟨rfl, hsq, rfl⟩ := hsh
      clear hsq
      obtain ⟨lb, loff, rfl, hdd⟩ := hd (by rw [HLEN.out]; omega)
      have c1 := hdd k (by rw [HLEN.out]; exact hlt)
      rw [castL_getD _ hlt] at c1
      obtain ⟨hxl, hsb⟩ := HSB.out _ (getD_mem hlt)
      have hft := filter_take hlt (fun n => (nd T n).tag == 3)
      have hcb : (castL (((dn T r).take k).filter fun n => (nd T n).tag == 3)).length ≤ 64 := by
        rw [castL_length]
        have h1 := List.length_filter_le (fun n => (nd T n).tag == 3) ((dn T r).take k)
        have h2 : ((dn T r).take k).length ≤ (dn T r).length := List.length_take_le' ..
        omega
      generalize (dn T r).getD k 0 = x at *
      have hx0 : (0 : Int) ≤ (x : Int) := by omega
      clear hd hdd
      cases htg : ((nd T x).tag == 3)
      · have he : castL (((dn T r).take (k + 1)).filter fun n => (nd T n).tag == 3) = castL (((dn T r).take k).filter fun n => (nd T n).tag == 3) := by
          rw [hft, htg]; simp
        rw [htg] at hsb
        have HSX := hideG hsb
        have HE := hideG he
        clear he hft hsb htg
        generalize castL (((dn T r).take k).filter fun n => (nd T n).tag == 3) = cur at *
        go_wp2_with (go_at_call 92; refine (refIs5_any T HM.out _ x hxl _ (HT2.out.below HBk.out)).mono ?_; rintro e w5 ⟨rfl, hb5⟩; rw [HSX.out]; have HB5 := hideG (HBk.out.trans (hb5.mono HBk.out.size)); have HO5 := hideG (ownsRow_below HOk.out hb5 (fun j e => (HOk.out.lt j e).2)); clear hb5)
        go_roundw
        case rel => exact ⟨k + 1, oa, oc, by omega, by go_num, by rw [HE.out], by rw [HE.out]; exact HO5.out, HB5.out⟩
        case measure => simp [intOf]; omega
      · have he : castL (((dn T r).take (k + 1)).filter fun n => (nd T n).tag == 3) = castL (((dn T r).take k).filter fun n => (nd T n).tag == 3) ++ [(x : Int)] := by
          rw [hft, htg]; simp [castL]
        rw [htg] at hsb
        have HSX := hideG hsb
        have HE := hideG he
        clear he hft hsb htg
        generalize castL (((dn T r).take k).filter fun n => (nd T n).tag == 3) = cur at *
        go_wp2_with (first | (go_at_call 92; refine (refIs5_any T HM.out _ x hxl _ (HT2.out.below HBk.out)).mono ?_; rintro e w5 ⟨rfl, hb5⟩; rw [HSX.out]; have HB5 := hideG (HBk.out.trans (hb5.mono HBk.out.size)); have HO5 := hideG (ownsRow_below HOk.out hb5 (fun j e => (HOk.out.lt j e).2)); have c1' := cell_below hb5 c1; clear hb5) | (at_builtin; refine wpList_append_any rfl (.tmp 30) (.tmp 35) 27 rfl w2.heap.size 3 i3 _ 1 8 Try.underlying27 hi3 hz30 hz31 hz32 rfl (by decide) _ cur.length (intCells cur) rfl (HO5.out.alloc _) _ 1 [.int .i64 (x : Int)] rfl (row_new1 _ _) rfl ?h2 ?h3 ?h4 ?h5 ?_))
        case h2 => intro y hy; simp at hy; subst hy; rfl
        case h3 => simp only [maxLen]; omega
        case h4 => omega
        case h5 => have := HB5.out.size; simp; omega
        intro v4 w4 ho4 hg4 hf4
        obtain ⟨a4, c4, rfl⟩ := ownsRow_shape ho4
        rw [intCells_snoc] at ho4
        have HB4 := hideG ((HB5.out.alloc HB5.out.size (.cells #[.int .i64 (x : Int)] 3)).grown hg4 (by have := HB5.out.size; simp; omega) (fun j e => (HO5.out.lt j e).1))
        have hl4 : (cur ++ [(x : Int)]).length = cur.length + 1 := by simp
        have HL4 := hideG hl4
        have HO4 := hideG ho4
        clear ho4 hg4 hf4 hl4
        go_wp2_with fail
        go_roundw
        case rel => exact ⟨k + 1, a4, c4, by omega, by go_num, by rw [HE.out, HL4.out], by rw [HE.out, HL4.out]; exact HO4.out, HB4.out⟩
        case measure => simp [intOf]; omega
    · have hke : (dn T r).take k = dn T r := List.take_of_length_le (by omega)
      rw [hke] at HOk ⊢
      have HBE := hideG (HB2.out.trans (HBk.out.mono HB2.out.size))
      have HOE := hideG (show wr.ownsRow w.heap.size 3 1 _ _ _ from ownsRow_base HOk.out HB2.out.size)
      clear hke
      go_wp2_with fail
      go_ret
      exact ⟨oa, oc, rfl, HOE.out, HBE.out⟩
set_option maxHeartbeats 800000 in
theorem refAll5_no (T : List Nd) (v : Value) (r : Nat) (hr : r < T.length) (hk3 : ((nd T r).kind == 3) = false) (hpos : T.length ≤ 1000) (w : World) (hT : TreeAt w v T) :
    Calls Try.prog 72 #[v, .int .i64 (r : Int)] w fun e w' => e = .returned (.slice none 0 0) ∧ w' = w := by
  obtain ⟨tb, to, tc, rfl, hct⟩ := hT.at (by omega)
  obtain ⟨kv, av, hN⟩ := hct r hr
  have g0 := hN.kind
  have hne : ((nd T r).kind != 3) = true := by simp only [bne, hk3]; rfl
  have hr0 : (0 : Int) ≤ (r : Int) := by omega
  clear hT hct hN hk3
  go_enter Try.func72, Try.ntmps72
  go_wp2_with fail
  go_ret
  exact ⟨rfl, rfl⟩
end Go.Proofs.Ytahnkhgaopaaoaa
namespace Go.Proofs.Ytahnkhgaopaaoaa
open Go.RowKit

theorem place_man {T : List Nd} {r : Nat} {k : Int} (h : manB T (r : Int) = true) : placeI T r k = byNumI T (castL (slotsN T r)) k := by
  unfold placeI placeV; rw [h]; rfl
theorem place_nam {T : List Nd} {r : Nat} {k : Int} (h : manB T (r : Int) = false) : placeI T r k = byNameI T (castL (slotsN T r)) (namesI T r) k := by
  unfold placeI placeV; rw [h]; rfl
theorem names_getD {T : List Nd} {r j : Nat} (h : j < (slotsN T r).length) : (namesI T r).getD j 0 = nameI T (((slotsN T r).getD j 0 : Nat) : Int) := by
  unfold namesI
  rw [List.getD_eq_getElem?_getD, List.getElem?_map, List.getD_eq_getElem?_getD, List.getElem?_eq_getElem h]; rfl

set_option maxRecDepth 100000 in
set_option maxHeartbeats 4000000 in
theorem refOf5_any (T : List Nd) (hm : mayB T = true) (hS : Sane T) (v : Value) (n : Nat) (hn : n < T.length) (w : World) (hT : TreeAt w v T) :
    Calls Try.prog 40 #[v, .int .i64 (n : Int)] w fun e w' => e = .returned (.int .i64 (ofN T n)) ∧ Below w.heap.size w w' := by
  obtain ⟨tb, to, tc, rfl, hct⟩ := hT.at (by omega)
  obtain ⟨kv, av, hN⟩ := hct n hn
  have HT := hideG hT
  have HS := hideG hS
  have HM := hideG hm
  have hpos := mayB_pos hm
  have hn0 : (0 : Int) ≤ (n : Int) := by omega
  rcases parent_cases (mayB_fine hm) hn with e | ⟨e, p, hpl, hpm⟩
  · have hp : (nd T n).parent = -1 := by simpa using e
    have HQ := hideG (show ofN T n = -1 by simp [ofN, hp])
    have g2 := hN.parent
    rw [hp] at g2
    clear hT hS hct hN hm e hp
    go_enter Try.func40, Try.ntmps40
    go_wp2_with fail
    go_ret
    exact ⟨ret_int HQ.out.symm, Below.refl _ _⟩
  · have g2 := hN.parent
    rw [hpm] at g2
    obtain ⟨kv', av', hP⟩ := hct p hpl
    have hpn : ((p : Int) == -1) = false := by simp
    have hp0 : (0 : Int) ≤ (p : Int) := by omega
    cases hr : ((nd T p).root == -1)
    · obtain ⟨q, hrq, hql, hq3, _⟩ := root_facts (mayB_fine hm) hpl hr
      have HQ0 := hideG (show ofN T n = placeI T q (n : Int) by
        unfold ofN; rw [e, hpm, Int.toNat_natCast, hr, hrq, Int.toNat_natCast]; rfl)
      have g5 := hP.root
      rw [hrq] at g5
      have hqn : ((q : Int) == -1) = false := by simp
      have hsl := slotsN_le hm hql
      have HCL := hideG (castL_length (slotsN T q))
      have HLT := hideG (show ∀ x ∈ slotsN T q, x < T.length from fun x hx => (forest3 hm).d_lt hql (List.mem_filter.mp hx).1)
      have HMB := hideG (show (refGetL T (q : Int) 8).2 = manB T (q : Int) by rw [refGet_eq hm]; rfl)
      have HG9 := hideG (show refGetL T (n : Int) 9 = getL T (n : Int) 9 from refGet_eq hm _ _)
      clear hT hS hct hN hm e hpm hP hr hrq
      cases hman : manB T (q : Int)
      · have HQ := hideG (HQ0.out.trans (place_nam hman))
        rw [hman] at HMB
        clear hman
        go_enter Try.func40, Try.ntmps40
        go_wp2_with fail
        refine (refAll5_any T HM.out _ q hql hq3 _ HT.out).mono ?_
        rintro e w2 ⟨a2, c2, rfl, ho2, hb2⟩
        have HL := hideG (ownsRow_ints ho2)
        rw [HCL.out] at HL ⊢
        have HB2 := hideG hb2
        have HT2 := hideG (HT.out.below hb2)
        clear ho2 hb2 g2 g5
        go_wp2_with fail
        refine (refHas_any T HS.out _ _ _ _ HT2.out).mono ?_
        rintro e w3 ⟨rfl, hw3⟩
        subst hw3
        rw [HMB.out]
        go_wp2_with fail
        go_loopw [10] (fun i wr => ∃ k : Nat, k ≤ (slotsN T q).length ∧ i = .int .i64 k ∧ wr = w3 ∧ ∀ j, j < k → (nameI T (n : Int) == (namesI T q).getD j 0) = false) (fun i _ => (slotsN T q).length - (intOf i).toNat)
        case atStart => exact ⟨0, Nat.zero_le _, rfl, rfl, fun j h => by omega⟩
        case round =>
          obtain ⟨k, hk, rfl, rfl, hno⟩ := hrel
          have HN := hideG hno
          clear hno
          by_cases hlt : k < (slotsN T q).length
          · obtain ⟨_, _, hsh, hd⟩ := HL.out
            simp only [Value.slice.injEq] at hsh
            obtain ⟨rfl, hsq, rfl⟩ := hsh
            clear hsq
            obtain ⟨lb, loff, rfl, hdd⟩ := hd (by rw [HCL.out]; omega)
            have c1 := hdd k (by rw [HCL.out]; exact hlt)
            rw [castL_getD _ hlt] at c1
            have hxl := HLT.out _ (getD_mem hlt)
            have hnk := names_getD hlt
            have HLQ := hideG (show (castL (slotsN T q)).getD k 0 = (((slotsN T q).getD k 0 : Nat) : Int) from castL_getD _ hlt)
            generalize (slotsN T q).getD k 0 = x at *
            have hx0 : (0 : Int) ≤ (x : Int) := by omega
            clear hd hdd
            cases heq : (nameI T (n : Int) == (namesI T q).getD k 0)
            · have HX := hideG heq
              have hxe : (nameI T (x : Int) == nameI T (n : Int)) = false := by
                rw [hnk] at heq
                have : ¬ nameI T (n : Int) = nameI T (x : Int) := by simpa using heq
                rw [beq_eq_false_iff_ne]; exact fun e => this e.symm
              clear heq hnk
              go_wp2_with (go_at_call 75; refine (refName_any T HM.out HS.out _ _ _ HT2.out).mono ?_; rintro e w5 ⟨rfl, hw5⟩; subst hw5)
              go_roundw
              case rel =>
                refine ⟨k + 1, by omega, by go_num, trivial, fun j hj => ?_⟩
                by_cases ejk : j = k
                · rw [ejk]; exact HX.out
                · exact HN.out j (by omega)
              case measure => simp [intOf]; omega
            · have hix := idx_hit (x := nameI T (n : Int)) (l := namesI T q) (k := k) (by rw [namesI_len]; exact hlt) HN.out heq
              have HV := hideG (show ofN T n = (x : Int) by
                have hi2 : indexI (namesI T q) (nameI T (n : Int)) = (k : Int) := by unfold indexI; rw [hix, if_pos (by rw [namesI_len]; exact hlt)]
                rw [HQ.out]
                unfold byNameI
                rw [hi2, if_neg (by omega), Int.toNat_natCast]
                exact HLQ.out)
              have hxe : (nameI T (x : Int) == nameI T (n : Int)) = true := by
                rw [hnk] at heq
                have : nameI T (n : Int) = nameI T (x : Int) := by simpa using heq
                rw [this]; simp
              clear heq hnk hix
              go_wp2_with (go_at_call 75; refine (refName_any T HM.out HS.out _ _ _ HT2.out).mono ?_; rintro e w5 ⟨rfl, hw5⟩; subst hw5)
              go_ret
              exact ⟨ret_int HV.out.symm, HB2.out⟩
          · have hix := idx_miss (x := nameI T (n : Int)) (l := namesI T q) (fun j hj => HN.out j (by rw [namesI_len] at hj; omega))
            have HV := hideG (show ofN T n = -1 by
              have hi2 : indexI (namesI T q) (nameI T (n : Int)) = -1 := by unfold indexI; rw [hix, if_neg (by omega)]
              rw [HQ.out]
              unfold byNameI
              rw [hi2]; rfl)
            clear hix
            go_wp2_with fail
            go_ret
            exact ⟨ret_int HV.out.symm, HB2.out⟩
      · have HQ := hideG (HQ0.out.trans (place_man hman))
        rw [hman] at HMB
        clear hman
        cases hg2 : (getL T (n : Int) 9).2
        · have HV := hideG (show ofN T n = -1 by rw [HQ.out]; unfold byNumI; rw [hg2]; rfl)
          have HG2 := hideG hg2
          clear hg2
          go_enter Try.func40, Try.ntmps40
          go_wp2_with fail
          refine (refAll5_any T HM.out _ q hql hq3 _ HT.out).mono ?_
          rintro e w2 ⟨a2, c2, rfl, ho2, hb2⟩
          have HB2 := hideG hb2
          have HT2 := hideG (HT.out.below hb2)
          clear ho2 hb2 g2 g5
          go_wp2_with fail
          refine (refHas_any T HS.out _ _ _ _ HT2.out).mono ?_
          rintro e w3 ⟨rfl, hw3⟩
          subst hw3
          rw [HMB.out]
          go_wp2_with fail
          refine (refGet_any T HS.out _ _ _ _ HT2.out).mono ?_
          rintro e w3 ⟨rfl, hw3⟩
          subst hw3
          rw [HG9.out, HG2.out]
          go_wp2_with fail
          go_ret
          exact ⟨ret_int HV.out.symm, HB2.out⟩
        · cases hcn : containsB (castL (slotsN T q)) (getL T (n : Int) 9).1
          all_goals
            have HV := hideG (show ofN T n = (if containsB (castL (slotsN T q)) (getL T (n : Int) 9).1 then (getL T (n : Int) 9).1 else -1) by rw [HQ.out]; unfold byNumI; rw [hg2]; rfl)
            rw [hcn] at HV
            have HG2 := hideG hg2
            have HCN := hideG hcn
            clear hg2 hcn
            go_enter Try.func40, Try.ntmps40
            go_wp2_with fail
            refine (refAll5_any T HM.out _ q hql hq3 _ HT.out).mono ?_
            rintro e w2 ⟨a2, c2, rfl, ho2, hb2⟩
            have HL := hideG (ownsRow_ints ho2)
            have HB2 := hideG hb2
            have HT2 := hideG (HT.out.below hb2)
            have HLL := hideG (show (castL (slotsN T q)).length ≤ 1000000 by rw [HCL.out]; omega)
            clear ho2 hb2 g2 g5
            generalize castL (slotsN T q) = LL at *
            go_wp2_with fail
            refine (refHas_any T HS.out _ _ _ _ HT2.out).mono ?_
            rintro e w3 ⟨rfl, hw3⟩
            subst hw3
            rw [HMB.out]
            go_wp2_with fail
            refine (refGet_any T HS.out _ _ _ _ HT2.out).mono ?_
            rintro e w3 ⟨rfl, hw3⟩
            subst hw3
            rw [HG9.out, HG2.out]
            generalize (getL T (n : Int) 9).1 = gv at *
            go_wp2_with fail
            refine (refIn_any LL _ _ _ HL.out HLL.out).mono ?_
            rintro e w3 ⟨rfl, hw3⟩
            subst hw3
            rw [HCN.out]
            go_wp2_with fail
            go_ret
            exact ⟨ret_int HV.out.symm, HB2.out⟩
    · have hr1 : (nd T p).root = -1 := by simpa using hr
      have HQ := hideG (show ofN T n = -1 by unfold ofN; rw [e, hpm, Int.toNat_natCast, hr]; rfl)
      have g5 := hP.root
      rw [hr1] at g5
      clear hT hS hct hN hm e hpm hP hr hr1
      go_enter Try.func40, Try.ntmps40
      go_wp2_with fail
      go_ret
      exact ⟨ret_int HQ.out.symm, Below.refl _ _⟩

/-- Who lies in a slot: a kid of the host whose Of is the slot. -/
theorem of_kid {T : List Nd} (hm : mayB T = true) {r h : Nat} (hr : r < T.length) (hk : (nd T r).kind = 3) (hho : (nd T r).host = (h : Int)) (hh : h < T.length) {k : Int} (hkk : k ∈ (nd T h).kids) : ∃ m : Nat, k = m ∧ m < T.length ∧ ofN T m = placeI T r k := by
  obtain ⟨m, rfl, hml, _, hp⟩ := kidP_iff.mp ((mayB_fine hm).kid h hh k hkk)
  refine ⟨m, rfl, hml, ?_⟩
  have hro := fine_hostroot hm hr hk hho
  unfold ofN
  have e1 : ((nd T m).parent == -1) = false := by rw [hp]; simp
  have e2 : ((nd T h).root == -1) = false := by rw [hro]; simp
  rw [e1, hp, Int.toNat_natCast, e2, hro, Int.toNat_natCast]; rfl
theorem filter_takeI {l : List Int} {k : Nat} (h : k < l.length) (p : Int → Bool) : (l.take (k + 1)).filter p = (l.take k).filter p ++ (if p (l.getD k 0) then [l.getD k 0] else []) := by
  rw [List.take_succ_eq_append_getElem h, List.filter_append, List.getD_eq_getElem?_getD, List.getElem?_eq_getElem h]
  congr 1
  simp only [Option.getD_some, List.filter_cons, List.filter_nil]
theorem isSlot_iff {T : List Nd} (hm : mayB T = true) {n : Nat} (hn : n < T.length) : isSlotB T n = ((nd T (topN T n)).kind == 3 && (nd T n).tag == 3) := by
  unfold isSlotB
  cases h : ((nd T n).tag == 3)
  · simp
  · have := tag_elem hm hn (by simpa using h)
    rw [this]; simp

set_option maxRecDepth 100000 in
set_option maxHeartbeats 4000000 in
theorem refAsg5_yes (T : List Nd) (hm : mayB T = true) (hS : Sane T) (v : Value) (s : Nat) (hs : s < T.length) (his : isSlotB T s = true) (h : Nat) (hh : h < T.length) (hk3 : (nd T (topN T s)).kind = 3) (hho : (nd T (topN T s)).host = (h : Int)) (w : World) (hT : TreeAt w v T) :
    Calls Try.prog 64 #[v, .int .i64 (s : Int)] w fun e w' => ∃ a c, e = .returned (.slice a (asgN T (topN T s) h (s : Int)).length c) ∧ w'.ownsRow w.heap.size 3 1 (.slice a (asgN T (topN T s) h (s : Int)).length c) (asgN T (topN T s) h (s : Int)).length (intCells (asgN T (topN T s) h (s : Int))) ∧ Below w.heap.size w w' := by
  obtain ⟨i3, hi3, hz30, hz31, hz32⟩ := info_parts infoT3
  obtain ⟨tb, to, tc, rfl, hct⟩ := hT.at (by omega)
  have htl := top_lt hm hs
  obtain ⟨kt, at_, hNt⟩ := hct _ htl
  obtain ⟨kh, ah, hNh⟩ := hct _ hh
  have G4 := hideG hNt.host
  rw [hho] at G4
  have G3 := hideG hNh.kidsc
  obtain ⟨kka, kkc, hkv⟩ := hNh.kids.shape
  subst hkv
  have HKC : Hid (0 < (nd T h).kids.length → ∃ b off, kka = some ⟨b, off, none⟩ ∧ ∀ j, j < (nd T h).kids.length → w.cell? ⟨b, off + j, none⟩ = some (.int .i64 ((nd T h).kids.getD j 0))) := by
    obtain ⟨a', cap', hv', hd'⟩ := hNh.kids
    simp only [Value.slice.injEq, true_and] at hv'
    obtain ⟨rfl, rfl⟩ := hv'
    exact hd'
  have HT := hideG hT
  have HS := hideG hS
  have HM := hideG hm
  have hpos := mayB_pos hm
  have h64 := fine_short (mayB_fine hm) hh
  have HOF := hideG (show ∀ k ∈ (nd T h).kids, ∃ m : Nat, k = m ∧ m < T.length ∧ ofN T m = placeI T (topN T s) k from fun k hkk => of_kid hm htl hk3 hho hh hkk)
  have hs0 : (0 : Int) ≤ (s : Int) := by omega
  have ht0 : (0 : Int) ≤ (topN T s : Int) := by omega
  have hh0 : (0 : Int) ≤ (h : Int) := by omega
  have HIS := hideG his
  clear hT hS hm hct hNt hNh his hk3 hho
  go_enter Try.func64, Try.ntmps64
  go_wp2_with fail
  refine (refIs5_any T HM.out _ s hs _ HT.out).mono ?_
  rintro e w1 ⟨rfl, hb1⟩
  rw [HIS.out]
  have HB1 := hideG hb1
  have HT1 := hideG (HT.out.below hb1)
  clear hb1
  go_wp2_with fail
  refine (refTop3_any T HM.out _ s hs _ HT1.out).mono ?_
  rintro e w2 ⟨rfl, hb2⟩
  have HB2 := hideG (HB1.out.trans (hb2.mono HB1.out.size))
  have HT2 := hideG (HT1.out.below hb2)
  have g4 := cell_below HB2.out G4.out
  have HG3 := hideG (cell_below HB2.out G3.out)
  clear hb2
  go_wp2_with fail
  go_loopw [5, 7] (fun o i wr => ∃ (k : Nat) (oa : Option Addr) (oc : Nat), k ≤ (nd T h).kids.length ∧ i = .int .i64 k ∧ o = .slice oa (((nd T h).kids.take k).filter fun x => placeI T (topN T s) x == (s : Int)).length oc ∧ wr.ownsRow w2.heap.size 3 1 (.slice oa (((nd T h).kids.take k).filter fun x => placeI T (topN T s) x == (s : Int)).length oc) (((nd T h).kids.take k).filter fun x => placeI T (topN T s) x == (s : Int)).length (intCells (((nd T h).kids.take k).filter fun x => placeI T (topN T s) x == (s : Int))) ∧ Below w2.heap.size w2 wr) (fun _ i _ => (nd T h).kids.length - (intOf i).toNat)
  case atStart => exact ⟨0, none, 0, Nat.zero_le _, rfl, rfl, World.ownsRow_nil _ _ _ _, Below.refl _ _⟩
  case round =>
    obtain ⟨k, oa, oc, hk, rfl, rfl, hown, hB⟩ := hrel
    have HOk := hideG hown
    have HBk := hideG hB
    have g3 := cell_below hB HG3.out
    clear hown hB
    by_cases hlt : k < (nd T h).kids.length
    · obtain ⟨kb, koff, rfl, hdd⟩ := HKC.out (by omega)
      have c1 := cell_below HBk.out (cell_below HB2.out (hdd k hlt))
      have hxk : (nd T h).kids.getD k 0 ∈ (nd T h).kids := by
        rw [List.getD_eq_getElem?_getD, List.getElem?_eq_getElem hlt]; exact List.getElem_mem hlt
      obtain ⟨m, hxm, hml, hof⟩ := HOF.out _ hxk
      have hft := filter_takeI hlt (fun x => placeI T (topN T s) x == (s : Int))
      have hcb : (((nd T h).kids.take k).filter fun x => placeI T (topN T s) x == (s : Int)).length ≤ 64 := by
        have h1 := List.length_filter_le (fun x => placeI T (topN T s) x == (s : Int)) ((nd T h).kids.take k)
        have h2 : ((nd T h).kids.take k).length ≤ (nd T h).kids.length := List.length_take_le' ..
        omega
      rw [hxm] at c1 hft hof
      have hm0 : (0 : Int) ≤ (m : Int) := by omega
      clear hdd hxk hxm
      cases hpl : (placeI T (topN T s) (m : Int) == (s : Int))
      · have he : ((nd T h).kids.take (k + 1)).filter (fun x => placeI T (topN T s) x == (s : Int)) = ((nd T h).kids.take k).filter fun x => placeI T (topN T s) x == (s : Int) := by
          rw [hft, hpl]; simp
        have HE := hideG he
        have HOFM := hideG hof
        clear he hft hof
        generalize ((nd T h).kids.take k).filter (fun x => placeI T (topN T s) x == (s : Int)) = cur at *
        generalize placeI T (topN T s) (m : Int) = pl at *
        go_wp2_with (go_at_call 40; refine (refOf5_any T HM.out HS.out _ m hml _ (HT2.out.below HBk.out)).mono ?_; rintro e w5 ⟨rfl, hb5⟩; rw [HOFM.out]; have HB5 := hideG (HBk.out.trans (hb5.mono HBk.out.size)); have HO5 := hideG (ownsRow_below HOk.out hb5 (fun j e => (HOk.out.lt j e).2)); clear hb5)
        go_roundw
        case rel => exact ⟨k + 1, oa, oc, by omega, by go_num, by rw [HE.out], by rw [HE.out]; exact HO5.out, HB5.out⟩
        case measure => simp [intOf]; omega
      · have he : ((nd T h).kids.take (k + 1)).filter (fun x => placeI T (topN T s) x == (s : Int)) = (((nd T h).kids.take k).filter fun x => placeI T (topN T s) x == (s : Int)) ++ [(m : Int)] := by
          rw [hft, hpl]; simp
        have HE := hideG he
        have HOFM := hideG hof
        clear he hft hof
        generalize ((nd T h).kids.take k).filter (fun x => placeI T (topN T s) x == (s : Int)) = cur at *
        generalize placeI T (topN T s) (m : Int) = pl at *
        go_wp2_with (first | (go_at_call 40; refine (refOf5_any T HM.out HS.out _ m hml _ (HT2.out.below HBk.out)).mono ?_; rintro e w5 ⟨rfl, hb5⟩; rw [HOFM.out]; have HB5 := hideG (HBk.out.trans (hb5.mono HBk.out.size)); have HO5 := hideG (ownsRow_below HOk.out hb5 (fun j e => (HOk.out.lt j e).2)); have c1' := cell_below hb5 c1; have g3' := cell_below hb5 g3; clear hb5) | (at_builtin; refine wpList_append_any rfl (.tmp 42) (.tmp 51) 27 rfl w2.heap.size 3 i3 _ 1 8 Try.underlying27 hi3 hz30 hz31 hz32 rfl (by decide) _ cur.length (intCells cur) rfl (HO5.out.alloc _) _ 1 [.int .i64 (m : Int)] rfl (row_new1 _ _) rfl ?h2 ?h3 ?h4 ?h5 ?_))
        case h2 => intro y hy; simp at hy; subst hy; rfl
        case h3 => simp only [maxLen]; omega
        case h4 => omega
        case h5 => have := HB5.out.size; simp; omega
        intro v4 w4 ho4 hg4 hf4
        obtain ⟨a4, c4, rfl⟩ := ownsRow_shape ho4
        rw [intCells_snoc] at ho4
        have HB4 := hideG ((HB5.out.alloc HB5.out.size (.cells #[.int .i64 (m : Int)] 3)).grown hg4 (by have := HB5.out.size; simp; omega) (fun j e => (HO5.out.lt j e).1))
        have hl4 : (cur ++ [(m : Int)]).length = cur.length + 1 := by simp
        have HL4 := hideG hl4
        have HO4 := hideG ho4
        clear ho4 hg4 hf4 hl4
        go_wp2_with fail
        go_roundw
        case rel => exact ⟨k + 1, a4, c4, by omega, by go_num, by rw [HE.out, HL4.out], by rw [HE.out, HL4.out]; exact HO4.out, HB4.out⟩
        case measure => simp [intOf]; omega
    · have hke : (nd T h).kids.take k = (nd T h).kids := List.take_of_length_le (by omega)
      rw [hke] at HOk ⊢
      have HBE := hideG (HB2.out.trans (HBk.out.mono HB2.out.size))
      have HOE := hideG (show wr.ownsRow w.heap.size 3 1 _ _ _ from ownsRow_base HOk.out HB2.out.size)
      clear hke
      go_wp2_with fail
      go_ret
      exact ⟨oa, oc, rfl, HOE.out, HBE.out⟩

set_option maxHeartbeats 1000000 in
theorem refAsg5_any (T : List Nd) (hm : mayB T = true) (hS : Sane T) (v : Value) (s : Nat) (hs : s < T.length) (w : World) (hT : TreeAt w v T) :
    Calls Try.prog 64 #[v, .int .i64 (s : Int)] w fun e w' => ∃ a c, e = .returned (.slice a (asgI T (s : Int)).length c) ∧ w'.ownsRow w.heap.size 3 1 (.slice a (asgI T (s : Int)).length c) (asgI T (s : Int)).length (intCells (asgI T (s : Int))) ∧ Below w.heap.size w w' := by
  cases his : isSlotB T s
  · obtain ⟨tb, to, tc, rfl, _⟩ := hT.at (by omega)
    have hq : asgI T (s : Int) = [] := by
      rw [isSlot_iff hm hs] at his
      unfold asgI
      rw [known_of hm hs, Int.toNat_natCast, Bool.true_and, his]; rfl
    rw [hq]
    have HT := hideG hT
    have HM := hideG hm
    have HIS := hideG his
    clear hT hm hq his
    go_enter Try.func64, Try.ntmps64
    go_wp2_with (go_at_call 92; refine (refIs5_any T HM.out _ s hs _ HT.out).mono ?_; rintro e w1 ⟨rfl, hb1⟩; rw [HIS.out]; have HB1 := hideG hb1; clear hb1)
    go_ret
    exact ⟨none, 0, rfl, World.ownsRow_nil _ _ _ _, HB1.out⟩
  · have h2 := his
    rw [isSlot_iff hm hs, Bool.and_eq_true] at h2
    have htl := top_lt hm hs
    have hk' : (nd T (topN T s)).kind = 3 := by simpa using h2.1
    obtain ⟨h, hhl, hho, _, _⟩ := fine_host (mayB_fine hm) htl hk'
    have hq : asgI T (s : Int) = asgN T (topN T s) h (s : Int) := by
      unfold asgI; rw [known_of hm hs, Int.toNat_natCast, h2.1, h2.2, hho, Int.toNat_natCast]; rfl
    rw [hq]
    exact refAsg5_yes T hm hS v s hs his h hhl hk' hho w hT
end Go.Proofs.Ytahnkhgaopaaoaa
namespace Go.Proofs.Ytahnkhgaopaaoaa
open Go.RowKit

theorem l5All (T : List Nd) (hs : shortB T = true) (n : Int) (L : Nat) (l : List Int) (hl : allI T n = l) (hL : l.length = L) (v : Value) (w : World) (h : TreeAt w v T) :
    Calls Try.prog 18 #[v, .int .i64 n] w fun x w' => ∃ a c, x = .returned (.slice a L c) ∧ IntsAt w' (.slice a L c) l ∧ Below w.heap.size w w' := by
  refine (slotsAll_any T (sane_of hs) v n w h).mono ?_
  rintro x w' ⟨a, c, rfl, ho, hb⟩
  have hi := ownsRow_ints ho
  rw [hl, hL] at hi
  exact ⟨a, c, by rw [hl, hL], hi, hb⟩
theorem l5Asg (T : List Nd) (hs : shortB T = true) (n : Int) (L : Nat) (l : List Int) (hl : asgI T n = l) (hL : l.length = L) (v : Value) (w : World) (h : TreeAt w v T) :
    Calls Try.prog 20 #[v, .int .i64 n] w fun x w' => ∃ a c, x = .returned (.slice a L c) ∧ IntsAt w' (.slice a L c) l ∧ Below w.heap.size w w' := by
  refine (assigned_any T (sane_of hs) v n w h).mono ?_
  rintro x w' ⟨a, c, rfl, ho, hb⟩
  have hi := ownsRow_ints ho
  rw [hl, hL] at hi
  exact ⟨a, c, by rw [hl, hL], hi, hb⟩
theorem l5Of (T : List Nd) (hs : shortB T = true) (n r : Int) (hr : ofI T n = r) (v : Value) (w : World) (h : TreeAt w v T) :
    Calls Try.prog 54 #[v, .int .i64 n] w fun x w' => x = .returned (.int .i64 r) ∧ Below w.heap.size w w' := by
  rw [← hr]; exact slotOf_any T (sane_of hs) v n w h

def ls5 : List Nd := [⟨0, 0, -1, [1], -1, -1, []⟩, ⟨1, 0, 0, [5, 6], -1, 2, []⟩, ⟨3, 0, -1, [3, 4], 1, -1, []⟩, ⟨1, 3, 2, [], -1, -1, []⟩, ⟨1, 3, 2, [], -1, -1, [(4, 7)]⟩, ⟨1, 0, 1, [], -1, -1, [(4, 7)]⟩, ⟨2, 0, 1, [], -1, -1, []⟩]
def ls5rows (s : Nat) : List (Nd × Value × Value) := [(⟨0, 0, -1, [1], -1, -1, []⟩, .slice (some ⟨s + 0, 0, none⟩) 1 1, .slice none 0 0), (⟨1, 0, 0, [5, 6], -1, 2, []⟩, .slice (some ⟨s + 1, 0, none⟩) 2 2, .slice none 0 0), (⟨3, 0, -1, [3, 4], 1, -1, []⟩, .slice (some ⟨s + 2, 0, none⟩) 2 2, .slice none 0 0), (⟨1, 3, 2, [], -1, -1, []⟩, .slice none 0 0, .slice none 0 0), (⟨1, 3, 2, [], -1, -1, [(4, 7)]⟩, .slice none 0 0, .slice (some ⟨s + 3, 0, none⟩) 1 1), (⟨1, 0, 1, [], -1, -1, [(4, 7)]⟩, .slice none 0 0, .slice (some ⟨s + 4, 0, none⟩) 1 1), (⟨2, 0, 1, [], -1, -1, []⟩, .slice none 0 0, .slice none 0 0)]
def ls5objs (s : Nat) : List Obj := [.cells (intCells [1]).toArray 3, .cells (intCells [5, 6]).toArray 3, .cells (intCells [3, 4]).toArray 3, .cells (attrCells [(4, 7)]).toArray 33, .cells (attrCells [(4, 7)]).toArray 33, .cells (nodesL (ls5rows s)).toArray 31]
theorem ls5_tree (w : World) : TreeAt (allocs w (ls5objs w.heap.size)) (.slice (some ⟨w.heap.size + 5, 0, none⟩) 7 7) ls5 :=
  tree_lit (ls5rows w.heap.size) (allocs_at w _ 5 _ rfl) rfl (List.forall_mem_cons.mpr ⟨⟨ints_lit [1] (allocs_at w _ 0 _ rfl) rfl, attrs_none _⟩, List.forall_mem_cons.mpr ⟨⟨ints_lit [5, 6] (allocs_at w _ 1 _ rfl) rfl, attrs_none _⟩, List.forall_mem_cons.mpr ⟨⟨ints_lit [3, 4] (allocs_at w _ 2 _ rfl) rfl, attrs_none _⟩, List.forall_mem_cons.mpr ⟨⟨ints_none _, attrs_none _⟩, List.forall_mem_cons.mpr ⟨⟨ints_none _, attrs_lit [(4, 7)] (allocs_at w _ 3 _ rfl) rfl⟩, List.forall_mem_cons.mpr ⟨⟨ints_none _, attrs_lit [(4, 7)] (allocs_at w _ 4 _ rfl) rfl⟩, List.forall_mem_cons.mpr ⟨⟨ints_none _, attrs_none _⟩, fun p h => by cases h⟩⟩⟩⟩⟩⟩⟩)

set_option maxRecDepth 100000 in
set_option maxHeartbeats 4000000 in
theorem live5_any (w : World) : Calls Try.prog 17 #[] w fun e w' => e = .returned (.bool true) ∧ Below w.heap.size w w' := by
  have hs : shortB ls5 = true := by decide
  have HT0 := hideG (ls5_tree w)
  have HB0 := hideG (allocs_below w (ls5objs w.heap.size))
  go_enter Try.func17, Try.ntmps17
  go_wp2_with fail
  refine (l5All ls5 hs 2 2 [3, 4] (by decide +kernel) rfl _ _ HT0.out).mono ?_
  rintro e w1 ⟨a1, c1, rfl, hi1, hb1⟩
  have HI1 := hideG hi1
  have HT1 := hideG (HT0.out.below hb1)
  have HB1 := hideG (HB0.out.trans (hb1.mono HB0.out.size))
  clear hb1 hi1 HT0 HB0
  go_wp2_with fail
  refine (lints [3, 4] [3, 4] true (by decide) (by decide) _ _ _ (HI1.out.below ((Below.refl _ _).alloc (Nat.le_refl _) _)) (ints_lit [3, 4] (World.alloc_heap_new _ _) rfl)).mono ?_
  rintro e w2 ⟨rfl, hb2⟩
  have hx2 := ((Below.refl w1.heap.size w1).alloc (Nat.le_refl _) (.cells #[.int .i64 3, .int .i64 4] 3)).trans (hb2.mono (by simp))
  clear hb2
  have HT2 := hideG (HT1.out.below hx2)
  have HB2 := hideG (HB1.out.trans (hx2.mono HB1.out.size))
  clear hx2 HT1 HB1
  go_wp2_with fail
  refine (l5Of ls5 hs 5 4 (by decide +kernel) _ _ HT2.out).mono ?_
  rintro e w3 ⟨rfl, hb3⟩
  have HT3 := hideG (HT2.out.below hb3)
  have HB3 := hideG (HB2.out.trans (hb3.mono HB2.out.size))
  clear hb3 HT2 HB2
  go_wp2_with fail
  refine (l5Of ls5 hs 6 3 (by decide +kernel) _ _ HT3.out).mono ?_
  rintro e w4 ⟨rfl, hb4⟩
  have HT4 := hideG (HT3.out.below hb4)
  have HB4 := hideG (HB3.out.trans (hb4.mono HB3.out.size))
  clear hb4 HT3 HB3
  go_wp2_with fail
  refine (l5Of ls5 hs 1 (-1) (by decide +kernel) _ _ HT4.out).mono ?_
  rintro e w5 ⟨rfl, hb5⟩
  have HT5 := hideG (HT4.out.below hb5)
  have HB5 := hideG (HB4.out.trans (hb5.mono HB4.out.size))
  clear hb5 HT4 HB4
  go_wp2_with fail
  refine (l5Asg ls5 hs 4 1 [5] (by decide +kernel) rfl _ _ HT5.out).mono ?_
  rintro e w6 ⟨a6, c6, rfl, hi6, hb6⟩
  have HI6 := hideG hi6
  have HT6 := hideG (HT5.out.below hb6)
  have HB6 := hideG (HB5.out.trans (hb6.mono HB5.out.size))
  clear hb6 hi6 HT5 HB5
  go_wp2_with fail
  refine (lints [5] [5] true (by decide) (by decide) _ _ _ (HI6.out.below ((Below.refl _ _).alloc (Nat.le_refl _) _)) (ints_lit [5] (World.alloc_heap_new _ _) rfl)).mono ?_
  rintro e w7 ⟨rfl, hb7⟩
  have hx7 := ((Below.refl w6.heap.size w6).alloc (Nat.le_refl _) (.cells #[.int .i64 5] 3)).trans (hb7.mono (by simp))
  clear hb7
  have HT7 := hideG (HT6.out.below hx7)
  have HB7 := hideG (HB6.out.trans (hx7.mono HB6.out.size))
  clear hx7 HT6 HB6
  go_wp2_with fail
  refine (l5Asg ls5 hs 3 1 [6] (by decide +kernel) rfl _ _ HT7.out).mono ?_
  rintro e w8 ⟨a8, c8, rfl, hi8, hb8⟩
  have HI8 := hideG hi8
  have HT8 := hideG (HT7.out.below hb8)
  have HB8 := hideG (HB7.out.trans (hb8.mono HB7.out.size))
  clear hb8 hi8 HT7 HB7
  go_wp2_with fail
  refine (lints [6] [6] true (by decide) (by decide) _ _ _ (HI8.out.below ((Below.refl _ _).alloc (Nat.le_refl _) _)) (ints_lit [6] (World.alloc_heap_new _ _) rfl)).mono ?_
  rintro e w9 ⟨rfl, hb9⟩
  have hx9 := ((Below.refl w8.heap.size w8).alloc (Nat.le_refl _) (.cells #[.int .i64 6] 3)).trans (hb9.mono (by simp))
  clear hb9
  have HT9 := hideG (HT8.out.below hx9)
  have HB9 := hideG (HB8.out.trans (hx9.mono HB8.out.size))
  clear hx9 HT8 HB8
  go_wp2_with fail
  refine (l5Asg ls5 hs 1 0 [] (by decide +kernel) rfl _ _ HT9.out).mono ?_
  rintro e w10 ⟨a10, c10, rfl, hi10, hb10⟩
  have HT10 := hideG (HT9.out.below hb10)
  have HB10 := hideG (HB9.out.trans (hb10.mono HB9.out.size))
  clear hb10 hi10 HT9 HB9
  go_wp2_with fail
  refine (l5Of [] (by decide) 0 (-1) (by decide +kernel) _ _ (treeAt_nil _)).mono ?_
  rintro e w11 ⟨rfl, hb11⟩
  have HT11 := hideG (HT10.out.below hb11)
  have HB11 := hideG (HB10.out.trans (hb11.mono HB10.out.size))
  clear hb11 HT10 HB10
  go_wp2_with fail
  refine (l5Of ls5 hs 9 (-1) (by decide +kernel) _ _ HT11.out).mono ?_
  rintro e w12 ⟨rfl, hb12⟩
  have HT12 := hideG (HT11.out.below hb12)
  have HB12 := hideG (HB11.out.trans (hb12.mono HB11.out.size))
  clear hb12 HT11 HB11
  go_wp2_with fail
  go_ret
  exact ⟨rfl, HB12.out⟩
end Go.Proofs.Ytahnkhgaopaaoaa
