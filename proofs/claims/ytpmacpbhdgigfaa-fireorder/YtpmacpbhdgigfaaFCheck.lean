/- The document's own Check of listeners, of lists of any length. -/
import Derived.Test.YtpmacpbhdgigfaaHear7
namespace Go.Proofs.Ytpmacpbhdgigfaa.L8
open Go.RowKit

set_option maxRecDepth 100000 in
set_option maxHeartbeats 2000000 in
theorem refPlaceM_any (l : List Hr) (h : Hr) (v : Value) (w : World) (hL : HearsAt w v l) (hl : l.length ≤ 9223372036854775807) :
    Calls Try.prog 18 #[v, .agg #[.int .i64 h.node, .int .i64 h.type, .bool h.cap, .bool h.once, .int .i64 h.prog]] w fun x w' => x = .returned (.int .i64 (findI l h)) ∧ Below w.heap.size w w' := by
  obtain ⟨a, cap, rfl, hc⟩ := hL
  have HC := hideG hc.2
  have HH : Hid (HearAt (w.alloc (.cells #[.int .i64 h.node, .int .i64 h.type, .bool h.cap, .bool h.once, .int .i64 h.prog] 35)) w.heap.size 0 h) := ⟨by simp, by simp, by simp, by simp, by simp⟩
  have HB0 := hideG ((Below.refl _ w).alloc (Nat.le_refl _) (.cells #[.int .i64 h.node, .int .i64 h.type, .bool h.cap, .bool h.once, .int .i64 h.prog] 35))
  clear hc
  go_enter Try.func18, Try.ntmps18
  go_wp2_with fail
  obtain ⟨W0, hW0⟩ : ∃ W0, w.alloc (.cells #[.int .i64 h.node, .int .i64 h.type, .bool h.cap, .bool h.once, .int .i64 h.prog] 35) = W0 := ⟨_, rfl⟩
  rw [hW0] at HH HB0 ⊢
  clear hW0
  go_loopw [5] (fun i wr => ∃ k : Nat, k ≤ l.length ∧ i = .int .i64 k ∧ (∀ j, j < k → oneH (l.getD j hrD) h = false) ∧ Below W0.heap.size W0 wr) (fun i _ => l.length - (intOf i).toNat)
  case atStart => exact ⟨0, Nat.zero_le _, rfl, fun j hj => by omega, Below.refl _ _⟩
  case round =>
    obtain ⟨k, hk, rfl, hno, hB⟩ := hrel
    have HNO := hideG hno
    have HB := hideG hB
    have HBW := hideG (HB0.out.trans (hB.mono HB0.out.size))
    clear hno hB
    by_cases hlt : k < l.length
    · obtain ⟨b, off, rfl, hd⟩ := HC.out (by omega)
      have hH := (hd k hlt).below HBW.out
      have hG := HH.out.below HB.out
      generalize hx : l.getD k hrD = x at *
      have c0 := hH.node
      have c1 := hH.type
      have c2 := hH.cap
      have c3 := hH.once
      have c4 := hH.prog
      have e0 := hG.node
      have e1 := hG.type
      have e2 := hG.cap
      have e3 := hG.once
      have e4 := hG.prog
      have hk0 : (0 : Int) ≤ (k : Int) := by omega
      have HX := hideG hx
      have hbb : b < wr.heap.size := below_of_cell c0
      have hbw : w.heap.size < wr.heap.size := below_of_cell e0
      clear hd hH hG hx
      cases ho : oneH x h
      · have HO := hideG ho
        clear ho
        have H1 := hideG (show ∀ U, Below wr.heap.size wr U → Calls Try.prog 27 #[.agg #[.int .i64 x.node, .int .i64 x.type, .bool x.cap, .bool x.once, .int .i64 x.prog], .agg #[.int .i64 h.node, .int .i64 h.type, .bool h.cap, .bool h.once, .int .i64 h.prog]] U (fun e w' => e = .returned (.bool false) ∧ Below wr.heap.size wr w') from fun U hU => by
          refine (refOne_any x h U).mono ?_
          rintro e w' ⟨rfl, hb⟩
          exact ⟨by rw [HO.out], hU.trans (hb.mono hU.size)⟩)
        have hcc : ∀ (d : Calm wr) (b o : Nat), b < wr.heap.size → d.to.cell? ⟨b, o, none⟩ = wr.cell? ⟨b, o, none⟩ := calmCell
        go_wp2_with fail
        refine wp_region_calm (by kernel_rfl) (by kernel_rfl) ?_
        repeat (go_big_quiet_step (first | (go_at_call 27; refine Calls.mono (H1.out _ (Calm.below _)) ?_; rintro e w1 ⟨rfl, hb⟩; exact ⟨rfl, ⟨w1, hb⟩, rfl⟩)))
        refine wpQuiet_nil ?_
        intro _ hw'
        obtain ⟨dq, hw''⟩ := hw'
        subst hw''
        have HB1 := hideG (HB.out.trans (dq.below.mono HB.out.size))
        generalize dq.to = wd at *
        clear dq hcc c0 c1 c2 c3 c4 e0 e1 e2 e3 e4
        go_wp2_with fail
        go_roundw
        case rel => exact ⟨k + 1, by omega, by go_num, fun j hj => by
          by_cases e : j = k
          · subst e; rw [HX.out]; exact HO.out
          · exact HNO.out j (by omega), HB1.out⟩
        case measure => simp [intOf]; omega
      · have HQ := hideG (show findI l h = (k : Int) by
          have := find_hit hlt (by rw [HX.out]; exact ho) HNO.out
          unfold findI; rw [this, if_pos hlt])
        have HO := hideG ho
        clear ho
        have H1 := hideG (show ∀ U, Below wr.heap.size wr U → Calls Try.prog 27 #[.agg #[.int .i64 x.node, .int .i64 x.type, .bool x.cap, .bool x.once, .int .i64 x.prog], .agg #[.int .i64 h.node, .int .i64 h.type, .bool h.cap, .bool h.once, .int .i64 h.prog]] U (fun e w' => e = .returned (.bool true) ∧ Below wr.heap.size wr w') from fun U hU => by
          refine (refOne_any x h U).mono ?_
          rintro e w' ⟨rfl, hb⟩
          exact ⟨by rw [HO.out], hU.trans (hb.mono hU.size)⟩)
        have hcc : ∀ (d : Calm wr) (b o : Nat), b < wr.heap.size → d.to.cell? ⟨b, o, none⟩ = wr.cell? ⟨b, o, none⟩ := calmCell
        go_wp2_with fail
        refine wp_region_calm (by kernel_rfl) (by kernel_rfl) ?_
        repeat (go_big_quiet_step (first | (go_at_call 27; refine Calls.mono (H1.out _ (Calm.below _)) ?_; rintro e w1 ⟨rfl, hb⟩; exact ⟨rfl, ⟨w1, hb⟩, rfl⟩)))
        refine wpQuiet_nil ?_
        intro _ hw'
        obtain ⟨dq, hw''⟩ := hw'
        subst hw''
        have HB1 := hideG (HBW.out.trans (dq.below.mono HBW.out.size))
        generalize dq.to = wd at *
        clear dq hcc c0 c1 c2 c3 c4 e0 e1 e2 e3 e4
        go_wp2_with fail
        go_ret
        exact ⟨ret_int HQ.out.symm, HB1.out⟩
    · have HQ := hideG (show findI l h = -1 by
        have := find_miss (fun j hj => HNO.out j (by omega) : ∀ j, j < l.length → oneH (l.getD j hrD) h = false)
        unfold findI; rw [this]; simp)
      go_wp2_with fail
      go_ret
      exact ⟨ret_int HQ.out.symm, HBW.out⟩

set_option maxRecDepth 100000 in
set_option maxHeartbeats 8000000 in
theorem refCheckM_any (l : List Hr) (nodes : Int) (v : Value) (w : World) (hL : HearsAt w v l) (hl : l.length ≤ 9223372036854775807) :
    Calls Try.prog 7 #[v, .int .i64 nodes] w fun x w' => x = .returned (.int .i64 (checkE l nodes)) ∧ Below w.heap.size w w' := by
  have HLL0 := hideG hL
  obtain ⟨a, cap, rfl, hcap, hc⟩ := hL
  have HC := hideG hc
  clear hc hcap
  go_enter Try.func7, Try.ntmps7
  go_wp2_with fail
  go_loopw [5] (fun i wr => ∃ k : Nat, k ≤ l.length ∧ i = .int .i64 k ∧ (∀ j, j < k → badH l j = false) ∧ Below w.heap.size w wr) (fun i _ => l.length - (intOf i).toNat)
  case atStart => exact ⟨0, Nat.zero_le _, rfl, fun j hj => by omega, Below.refl _ _⟩
  case round =>
    obtain ⟨k, hk, rfl, hno, hB⟩ := hrel
    have HNO := hideG hno
    have HB := hideG hB
    clear hno hB
    by_cases hlt : k < l.length
    · obtain ⟨b, off, rfl, hd⟩ := HC.out (by omega)
      have HLL := HLL0
      have hH := (hd k hlt).below HB.out
      have HPL := hideG (place_lt hlt)
      generalize hx : l.getD k hrD = x at *
      have c0 := hH.node
      have c1 := hH.type
      have c2 := hH.cap
      have c3 := hH.once
      have c4 := hH.prog
      have hk0 : (0 : Int) ≤ (k : Int) := by omega
      have hbb : b < wr.heap.size := below_of_cell c0
      have HX := hideG hx
      clear hd hH hx
      cases hm : mayH x
      · have HQ := hideG (show checkE l nodes = 1 by
          unfold checkE; rw [any_range hlt (show badH l k = true by unfold badH; rw [HX.out, hm]; rfl)]; split <;> rfl)
        have HM := hideG hm
        clear hm
        go_wp2_with fail
        refine (refMay_any x _).mono ?_
        rintro e w1 ⟨rfl, hb1⟩
        rw [HM.out]
        have HB1 := hideG (HB.out.trans (hb1.mono HB.out.size))
        clear hb1
        go_wp2_with fail
        go_ret
        exact ⟨ret_int HQ.out.symm, HB1.out⟩
      · have HM := hideG hm
        clear hm
        cases hh : hasB (l.take k) x
        · have HHB := hideG hh
          rw [hh] at HPL
          clear hh
          go_wp2_with fail
          refine (refMay_any x _).mono ?_
          rintro e w1 ⟨rfl, hb1⟩
          rw [HM.out]
          have HB1 := hideG (HB.out.trans (hb1.mono HB.out.size))
          have d0 := cell_below hb1 c0
          have d1 := cell_below hb1 c1
          have d2 := cell_below hb1 c2
          have d3 := cell_below hb1 c3
          have d4 := cell_below hb1 c4
          clear hb1 c0 c1 c2 c3 c4
          go_wp2_with fail
          refine (refPlaceM_any l x _ _ (HLL.out.below HB1.out) (by omega)).mono ?_
          rintro e w2 ⟨rfl, hb2⟩
          have HB2 := hideG (HB1.out.trans (hb2.mono HB1.out.size))
          clear HB1 d0 d1 d2 d3 d4
          have HB1 := HB2
          clear hb2 HB2
          have hplf := HPL.out
          go_wp2_with fail
          go_roundw
          case rel => exact ⟨k + 1, by omega, by go_num, fun j hj => by
            by_cases e : j = k
            · subst e; unfold badH; rw [HX.out, HM.out, HHB.out]; rfl
            · exact HNO.out j (by omega), HB1.out⟩
          case measure => simp [intOf]; omega
        · have HQ := hideG (show checkE l nodes = 1 by
            unfold checkE; rw [any_range hlt (show badH l k = true by unfold badH; rw [HX.out, hh, Bool.or_true])]; split <;> rfl)
          rw [hh] at HPL
          clear hh
          go_wp2_with fail
          refine (refMay_any x _).mono ?_
          rintro e w1 ⟨rfl, hb1⟩
          rw [HM.out]
          have HB1 := hideG (HB.out.trans (hb1.mono HB.out.size))
          have d0 := cell_below hb1 c0
          have d1 := cell_below hb1 c1
          have d2 := cell_below hb1 c2
          have d3 := cell_below hb1 c3
          have d4 := cell_below hb1 c4
          clear hb1 c0 c1 c2 c3 c4
          go_wp2_with fail
          refine (refPlaceM_any l x _ _ (HLL.out.below HB1.out) (by omega)).mono ?_
          rintro e w2 ⟨rfl, hb2⟩
          have HB2 := hideG (HB1.out.trans (hb2.mono HB1.out.size))
          clear HB1 d0 d1 d2 d3 d4
          have HB1 := HB2
          clear hb2 HB2
          have hplf := HPL.out
          go_wp2_with fail
          go_ret
          exact ⟨ret_int HQ.out.symm, HB1.out⟩
    · have hall : ∀ j, j < l.length → badH l j = false := fun j hj => HNO.out j (by omega)
      by_cases h64 : (64 : Int) < (l.length : Int)
      · have HQ := hideG (show checkE l nodes = 1 by unfold checkE; rw [if_pos (by omega)])
        clear hall
        go_wp2_with fail
        go_ret
        exact ⟨ret_int HQ.out.symm, HB.out⟩
      · have E1 := hideG (show checkE l nodes = if (List.range l.length).any (fun j => farH nodes (l.getD j hrD)) then 2 else 0 by unfold checkE; rw [if_neg (by omega), any_range_no hall]; rfl)
        clear hall
        go_wp2_with fail
        go_loopw [6] (fun i wr => ∃ k : Nat, k ≤ l.length ∧ i = .int .i64 k ∧ (∀ j, j < k → farH nodes (l.getD j hrD) = false) ∧ Below w.heap.size w wr) (fun i _ => l.length - (intOf i).toNat)
        case atStart => exact ⟨0, Nat.zero_le _, rfl, fun j hj => by omega, HB.out⟩
        case round =>
          obtain ⟨q, hq, rfl, hnf, hBq⟩ := hrel
          have HNF := hideG hnf
          have HBq := hideG hBq
          clear hnf hBq
          by_cases hltq : q < l.length
          · obtain ⟨b, off, rfl, hd⟩ := HC.out (by omega)
            have hH := (hd q hltq).below HBq.out
            generalize hx : l.getD q hrD = x at *
            have c0 := hH.node
            have c1 := hH.type
            have c2 := hH.cap
            have c3 := hH.once
            have c4 := hH.prog
            have hq0 : (0 : Int) ≤ (q : Int) := by omega
            have HX := hideG hx
            clear hd hH hx
            cases hf : decide (nodes ≤ x.node)
            · have HF := hideG hf
              go_wp2_with fail
              go_roundw
              case rel => exact ⟨q + 1, by omega, by go_num, fun j hj => by
                by_cases e : j = q
                · subst e; unfold farH; rw [HX.out]; exact HF.out
                · exact HNF.out j (by omega), HBq.out⟩
              case measure => simp [intOf]; omega
            · have HQ := hideG (show checkE l nodes = 2 by
                rw [E1.out, any_range hltq (show farH nodes (l.getD q hrD) = true by unfold farH; rw [HX.out]; exact hf)]; rfl)
              go_wp2_with fail
              go_ret
              exact ⟨ret_int HQ.out.symm, HBq.out⟩
          · have HQ := hideG (show checkE l nodes = 0 by
              rw [E1.out, any_range_no (fun j hj => HNF.out j (by omega))]; rfl)
            go_wp2_with fail
            go_ret
            exact ⟨ret_int HQ.out.symm, HBq.out⟩
end Go.Proofs.Ytpmacpbhdgigfaa.L8
