/- The document's own package of layer 12: Blocked, Is, All. -/
import Derived.Test.YtclhimodopgeoaaGreatXLBelow
namespace Go.Proofs.YtclhimodopgeoaaGreat
open Go.RowKit

def endI (l : List Int) (high : Int) : Nat := if indexI l high < 0 then l.length else (indexI l high).toNat + 1
theorem endI_le (l : List Int) (high : Int) : endI l high ≤ l.length := by
  unfold endI indexI
  by_cases h : idxL high l < l.length
  · rw [if_pos h, if_neg (by omega)]; omega
  · rw [if_neg h, if_pos (by decide)]; omega
theorem endI_cons (x high : Int) (l : List Int) : endI (x :: l) high = if (high == x) = true then 1 else endI l high + 1 := by
  by_cases h : (high == x) = true
  · have e : idxL high (x :: l) = 0 := by simp only [idxL]; rw [if_pos h]
    have e2 : indexI (x :: l) high = 0 := by unfold indexI; rw [e, if_pos (by simp)]; rfl
    unfold endI
    rw [e2, if_pos h, if_neg (by decide)]; rfl
  · have e : idxL high (x :: l) = idxL high l + 1 := by simp only [idxL]; rw [if_neg h]
    rw [if_neg h]
    unfold endI indexI
    rw [e]
    by_cases h2 : idxL high l < l.length
    · have h3 : idxL high l + 1 < (x :: l).length := by simp only [List.length_cons]; omega
      rw [if_pos h3, if_pos h2, if_neg (by omega), if_neg (by omega)]; omega
    · have h3 : ¬ idxL high l + 1 < (x :: l).length := by simp only [List.length_cons]; omega
      rw [if_neg h3, if_neg h2]; simp
theorem mark_ref {T : List Nd} (hm : mayB T = true) {n : Nat} (hn : n < T.length) : containsB (markL T T.length) (n : Int) = (refGetL T (n : Int) 3).2 := by
  rw [refGet_eq hm]
  have h1 : containsB (markL T T.length) (n : Int) = markB T n := by
    unfold containsB markL castL
    rw [Bool.eq_iff_iff, decide_eq_true_iff, List.mem_map]
    constructor
    · rintro ⟨j, hj, e⟩
      have : j = n := by omega
      subst this
      exact (List.mem_filter.mp hj).2
    · intro h; exact ⟨n, List.mem_filter.mpr ⟨List.mem_range.mpr hn, h⟩, rfl⟩
  rw [h1]
  unfold markB
  cases ha : (nd T n).attrs with
  | cons a l => simp
  | nil =>
    have : (getL T (n : Int) 3).2 = false := by
      unfold getL
      rw [Int.toNat_natCast, ha]
      simp [searchL]
    rw [this]; simp
theorem under_ref {T : List Nd} (hm : mayB T = true) {high : Int} : ∀ {l : List Nat}, (∀ x, x ∈ l → x < T.length) → underB (markL T T.length) high (castL l) = ((castL l).take (endI (castL l) high)).any fun x => (refGetL T x 3).2
  | [], _ => by simp [castL, underB, endI]
  | x :: l, h => by
    have ih := under_ref hm (high := high) (l := l) (fun y hy => h y (by simp [hy]))
    have e : castL (x :: l) = (x : Int) :: castL l := rfl
    rw [e, underB, mark_ref hm (h x (by simp)), endI_cons, ih]
    by_cases q : (high == (x : Int)) = true
    · rw [if_pos q]
      have q' : ((x : Int) == high) = true := by rw [beq_iff_eq] at q ⊢; exact q.symm
      rw [q']; simp
    · rw [if_neg q]
      have q' : ((x : Int) == high) = false := by rw [beq_eq_false_iff_ne]; intro e'; exact q (by rw [beq_iff_eq]; exact e'.symm)
      rw [q', List.take_succ_cons, List.any_cons]; simp
theorem up_nodes {T : List Nd} (hm : mayB T = true) {n : Nat} (hn : n < T.length) : ∀ x, x ∈ upF T n → x < T.length := fun x hx => (upF_rank hm _ n (Nat.le_refl _) hn x hx).1
theorem under_up {T : List Nd} (hm : mayB T = true) {n : Nat} (hn : n < T.length) (high : Int) : underB (markL T T.length) high (upI6 T n) = ((upI6 T n).take (endI (upI6 T n) high)).any fun x => (refGetL T x 3).2 :=
  under_ref hm (up_nodes hm hn)

set_option maxRecDepth 100000 in
set_option maxHeartbeats 4000000 in
theorem refBlocked_any (tv ov mv pv qv : Value) (V : Vw) (n : Nat) (hn : n < V.tree.length) (w : World) (hV : ViewAt w tv ov mv pv qv V) (hS : Sane V.tree) (hl : smallL V) (hm : mayB V.tree = true) :
    Calls Tryz.prog 59 #[.agg #[tv, ov, mv, pv, qv], .int .i64 (n : Int)] w fun e w' => e = .returned (.bool (blockedB (highV V) (upI6 V.tree n))) ∧ Below w.heap.size w w' := by
  have HVV := hideG hV
  obtain ⟨hT, hO, hM, hP, hQ⟩ := hV
  obtain ⟨ta, tc, rfl⟩ := hT.shape
  obtain ⟨oa, oc, rfl⟩ := hO.shape
  obtain ⟨ma, mc, rfl⟩ := hM.shape
  obtain ⟨pa, pc, rfl⟩ := hP.shape
  obtain ⟨qa, qc, rfl⟩ := hQ.shape
  obtain ⟨W0, hW0⟩ : ∃ W0, w.alloc (.cells #[.slice ta V.tree.length tc, .slice oa V.op.length oc, .slice ma V.modal.length mc, .slice pa V.pops.length pc, .slice qa V.top.length qc] 27) = W0 := ⟨_, rfl⟩
  have HB0 := hideG (show Below w.heap.size w W0 by rw [← hW0]; exact alB _ _)
  have BX := hideG (show BoxV W0 w.heap.size _ _ _ _ _ by rw [← hW0]; exact BoxV.new _ _ _ _ _ _ _)
  have HV0 := hideG (HVV.out.below HB0.out)
  have HH := hideG (refHighest_any _ _ _ _ _ V W0 HV0.out ⟨by have := hl.2.1; omega, hl.2.2.2⟩)
  have HE := hideG (blocked_eq hm hn (highV V))
  have HW0 := hideG hW0
  clear hW0 hT hO hM hP hQ
  generalize hhv : highV V = hv at *
  cases h0 : ((n : Int) != 0)
  · rw [h0] at HE
    go_enter Tryz.func59, Tryz.ntmps59
    go_wp2_with fail
    rw [HW0.out]
    refine HH.out.mono ?_
    rintro e w1 ⟨rfl, hb1⟩
    have HB1 := hideG (HB0.out.trans (hb1.mono HB0.out.size))
    clear hb1
    go_wp2_with fail
    go_ret
    exact ⟨ret_bool (by rw [HE.out]; simp), HB1.out⟩
  · rw [h0] at HE
    cases h1 : (hv != -1)
    · rw [h1] at HE
      go_enter Tryz.func59, Tryz.ntmps59
      go_wp2_with fail
      rw [HW0.out]
      refine HH.out.mono ?_
      rintro e w1 ⟨rfl, hb1⟩
      have HB1 := hideG (HB0.out.trans (hb1.mono HB0.out.size))
      clear hb1
      go_wp2_with fail
      go_ret
      exact ⟨ret_bool (by rw [HE.out]; simp), HB1.out⟩
    · rw [h1] at HE
      go_enter Tryz.func59, Tryz.ntmps59
      go_wp2_with fail
      rw [HW0.out]
      refine HH.out.mono ?_
      rintro e w1 ⟨rfl, hb1⟩
      have HB1 := hideG (HB0.out.trans (hb1.mono HB0.out.size))
      have BX1 := hideG (BX.out.below hb1)
      have HA := hideG (refAbove6_any V.tree hm hS _ hv n hn w1 (HV0.out.below hb1).tree)
      clear hb1
      have p0 := BX1.out.c0
      have plt := BX1.out.lt
      go_wp2_with fail
      refine HA.out.mono ?_
      rintro e w2 ⟨rfl, hb2⟩
      have HB2 := hideG (HB1.out.trans (hb2.mono HB1.out.size))
      clear hb2
      go_wp2_with fail
      go_ret
      exact ⟨ret_bool (by rw [HE.out]; simp), HB2.out⟩
set_option maxRecDepth 100000 in
set_option maxHeartbeats 4000000 in
theorem refIs12_any (tv ov mv pv qv : Value) (V : Vw) (n : Nat) (hn : n < V.tree.length) (w : World) (hV : ViewAt w tv ov mv pv qv V) (hS : Sane V.tree) (hl : smallL V) (hm : mayB V.tree = true) :
    Calls Tryz.prog 58 #[.agg #[tv, ov, mv, pv, qv], .int .i64 (n : Int)] w fun e w' => e = .returned (.bool (inB V n)) ∧ Below w.heap.size w w' := by
  have HVV := hideG hV
  obtain ⟨hT, hO, hM, hP, hQ⟩ := hV
  obtain ⟨ta, tc, rfl⟩ := hT.shape
  obtain ⟨oa, oc, rfl⟩ := hO.shape
  obtain ⟨ma, mc, rfl⟩ := hM.shape
  obtain ⟨pa, pc, rfl⟩ := hP.shape
  obtain ⟨qa, qc, rfl⟩ := hQ.shape
  obtain ⟨W0, hW0⟩ : ∃ W0, w.alloc (.cells #[.slice ta V.tree.length tc, .slice oa V.op.length oc, .slice ma V.modal.length mc, .slice pa V.pops.length pc, .slice qa V.top.length qc] 27) = W0 := ⟨_, rfl⟩
  have HB0 := hideG (show Below w.heap.size w W0 by rw [← hW0]; exact alB _ _)
  have BX := hideG (show BoxV W0 w.heap.size _ _ _ _ _ by rw [← hW0]; exact BoxV.new _ _ _ _ _ _ _)
  have HV0 := hideG (HVV.out.below HB0.out)
  have HBL := hideG (refBlocked_any _ _ _ _ _ V n hn W0 HV0.out hS hl hm)
  have HUU := hideG (under_up hm hn (highV V))
  have HEL := hideG (endI_le (upI6 V.tree n) (highV V))
  have hul := (upI6_len hm hn).1
  have HIN := hideG (show inB V n = (blockedB (highV V) (upI6 V.tree n) || underB (markL V.tree V.tree.length) (highV V) (upI6 V.tree n)) from rfl)
  have HS := hideG hS
  have h4l : V.top.length ≤ 1000 := hl.2.2.2
  have h2l : V.modal.length ≤ 500 := hl.2.1
  have HW0 := hideG hW0
  clear hW0 hT hO hM hP hQ hS
  cases hb : blockedB (highV V) (upI6 V.tree n)
  · rw [hb] at HBL HIN
    rw [Bool.false_or, HUU.out] at HIN
    go_enter Tryz.func58, Tryz.ntmps58
    go_wp2_with fail
    rw [HW0.out]
    refine HBL.out.mono ?_
    rintro e w1 ⟨rfl, hb1⟩
    have HB1 := hideG (HB0.out.trans (hb1.mono HB0.out.size))
    have BX1 := hideG (BX.out.below hb1)
    have HV1 := hideG (HV0.out.below hb1)
    clear hb1 BX HV0 hb
    have p0 := BX1.out.c0
    have plt := BX1.out.lt
    go_wp2_with fail
    refine (refUp6_any V.tree hm HS.out _ n hn w1 HV1.out.tree).mono ?_
    rintro e w2 ⟨ua, uc, rfl, hrow, hb2⟩
    have hI2 : IntsAt w2 (.slice ua (upI6 V.tree n).length uc) (upI6 V.tree n) := ownsRow_ints hrow
    have HI2 := hideG hI2
    have HB2 := hideG (HB1.out.trans (hb2.mono HB1.out.size))
    have BX2 := hideG (BX1.out.below hb2)
    have HV2 := hideG (HV1.out.below hb2)
    rw [show castL (upF V.tree n) = upI6 V.tree n from rfl]
    clear hb2 hrow hI2 p0 plt BX1 HV1 HUU
    have p0 := BX2.out.c0
    have p1 := BX2.out.c1
    have p2 := BX2.out.c2
    have p3 := BX2.out.c3
    have p4 := BX2.out.c4
    have plt := BX2.out.lt
    go_wp2_with fail
    refine (refHighest_any _ _ _ _ _ V w2 HV2.out ⟨by omega, h4l⟩).mono ?_
    rintro e w3 ⟨rfl, hb3⟩
    have HB3 := hideG (HB2.out.trans (hb3.mono HB2.out.size))
    have BX3 := hideG (BX2.out.below hb3)
    have HV3 := hideG (HV2.out.below hb3)
    have HI3 := hideG (HI2.out.below hb3)
    clear hb3 BX2 HV2 HI2 p0 p1 p2 p3 p4 plt
    generalize highV V = hv at *
    generalize upI6 V.tree n = up at *
    go_wp2_with fail
    refine (refPlace_any up _ hv w3 HI3.out (by omega)).mono ?_
    rintro e wz ⟨rfl, hwz⟩
    obtain rfl : _ = wz := hwz.symm
    have HEN := hideG (show ((endI up hv : Nat) : Int) = if indexI up hv < 0 then (up.length : Int) else indexI up hv + 1 by unfold endI; split <;> omega)
    have hixl : -1 ≤ indexI up hv ∧ indexI up hv ≤ (up.length : Int) := by unfold indexI; split <;> omega
    have HREST := hideG (show ∀ ev : Int, ev = ((endI up hv : Nat) : Int) → True from fun _ _ => trivial)
    generalize hix : indexI up hv = ix at *
    generalize endI up hv = en at *
    clear hix
    by_cases h0 : (0 : Int) ≤ ix
    all_goals
      have hen : ((en : Nat) : Int) = _ := HEN.out
      first
      | rw [if_neg (by omega : ¬ ix < 0)] at hen
      | rw [if_pos (by omega : ix < 0)] at hen
      have hwi : IntKind.i64.wrap (ix + 1) = ix + 1 := by rw [IntKind.wrap_i64]; omega
      have HENN := hideG hen
      clear hen
      go_wp2_with fail
      first
      | rw [← HENN.out]
      clear HENN HEN HREST
      go_loopw [8] (fun i wr => ∃ k : Nat, k ≤ en ∧ i = .int .i64 (k : Int) ∧ Below w3.heap.size w3 wr ∧ Hid (∀ j, j < k → (refGetL V.tree (up.getD j 0) 3).2 = false)) (fun i _ => en - (intOf i).toNat)
      case atStart => exact ⟨0, Nat.zero_le _, rfl, Below.refl _ _, hideG (fun j h => by omega)⟩
      case round =>
        obtain ⟨k, hk, rfl, hB, HNO⟩ := hrel
        have HBK := hideG hB
        have BXK := hideG (BX3.out.below hB)
        clear hB
        have p0 := BXK.out.c0
        have plt := BXK.out.lt
        have hel := HEL.out
        by_cases hlt : k < en
        · obtain ⟨bu, ou, rfl, cu⟩ : ∃ bu ou, ua = some ⟨bu, ou, none⟩ ∧ wr.cell? ⟨bu, ou + k, none⟩ = some (.int .i64 (up.getD k 0)) := by
            obtain ⟨a', c', e, hc⟩ := HI3.out.below HBK.out
            simp only [Value.slice.injEq, true_and] at e
            obtain ⟨rfl, rfl⟩ := e
            obtain ⟨bu, ou, rfl, hd⟩ := hc (by omega)
            exact ⟨bu, ou, rfl, hd k (by omega)⟩
          have cult := below_of_cell cu
          have hkI : (k : Int) < (en : Int) := by omega
          have hkU : (k : Int) < (up.length : Int) := by omega
          have hk0 : (0 : Int) ≤ (k : Int) := by omega
          have HNX := hideG (fun (h : (refGetL V.tree (up.getD k 0) 3).2 = false) (j : Nat) (hj : j < k + 1) => show (refGetL V.tree (up.getD j 0) 3).2 = false from if e : j = k then e ▸ h else HNO.out j (by omega))
          have HYS := hideG (fun (h : (refGetL V.tree (up.getD k 0) 3).2 = true) => show (up.take en).any (fun x => (refGetL V.tree x 3).2) = true from by
            rw [List.any_eq_true]
            refine ⟨up.getD k 0, ?_, h⟩
            rw [List.mem_take_iff_getElem]
            exact ⟨k, by omega, by rw [List.getD_eq_getElem?_getD, List.getElem?_eq_getElem (by omega)]; rfl⟩)
          have HHS := hideG (fun (U : World) (h : Below wr.heap.size wr U) => refHas_any V.tree HS.out _ (up.getD k 0) 3 U ((HV3.out.below HBK.out).below h).tree)
          generalize up.getD k 0 = x at *
          cases hx : (refGetL V.tree x 3).2
          · have HE := hideG (HNX.out hx)
            rw [hx] at HHS
            go_wp2_with fail
            go_quiet ((go_at_call 61; refine Calls.quiet_of_same (HHS.out _ (below_drewN (Below.refl _ _) _))))
            go_wp2_with fail
            go_roundw
            case rel => exact ⟨k + 1, by omega, by go_num, below_drewN HBK.out _, HE⟩
            case measure => simp [intOf]; omega
          · have HE := hideG (HYS.out hx)
            rw [hx] at HHS
            go_wp2_with fail
            go_quiet ((go_at_call 61; refine Calls.quiet_of_same (HHS.out _ (below_drewN (Below.refl _ _) _))))
            go_wp2_with fail
            go_ret
            exact ⟨ret_bool (by rw [HIN.out, HE.out]), HB3.out.trans ((below_drewN HBK.out _).mono HB3.out.size)⟩
        · have HE := hideG (show (up.take en).any (fun x => (refGetL V.tree x 3).2) = false from by
            rw [List.any_eq_false]
            intro x hx
            rw [List.mem_take_iff_getElem] at hx
            obtain ⟨j, hj, rfl⟩ := hx
            have := HNO.out j (by omega)
            rw [List.getD_eq_getElem?_getD, List.getElem?_eq_getElem (by omega)] at this
            simpa using this)
          have hkI : ¬ ((k : Int) < (en : Int)) := by omega
          go_wp2_with fail
          go_ret
          exact ⟨ret_bool (by rw [HIN.out, HE.out]), HB3.out.trans (HBK.out.mono HB3.out.size)⟩
  · rw [hb] at HBL HIN
    go_enter Tryz.func58, Tryz.ntmps58
    go_wp2_with fail
    rw [HW0.out]
    refine HBL.out.mono ?_
    rintro e w1 ⟨rfl, hb1⟩
    have HB1 := hideG (HB0.out.trans (hb1.mono HB0.out.size))
    clear hb1
    go_wp2_with fail
    go_ret
    exact ⟨ret_bool (by rw [HIN.out]; simp), HB1.out⟩
set_option maxRecDepth 100000 in
set_option maxHeartbeats 4000000 in
theorem refAll12_any (tv ov mv pv qv : Value) (V : Vw) (w : World) (hV : ViewAt w tv ov mv pv qv V) (hS : Sane V.tree) (hl : smallL V) (hm : mayB V.tree = true) :
    Calls Tryz.prog 60 #[.agg #[tv, ov, mv, pv, qv]] w fun e w' => ∃ a c, e = .returned (.slice a (allIn V V.tree.length).length c) ∧ IntsAt w' (.slice a (allIn V V.tree.length).length c) (allIn V V.tree.length) ∧ Below w.heap.size w w' := by
  obtain ⟨i3, hi3, hz30, hz31, hz32⟩ := info_parts infoT3
  have HVV := hideG hV
  obtain ⟨hT, hO, hM, hP, hQ⟩ := hV
  obtain ⟨ta, tc, rfl⟩ := hT.shape
  obtain ⟨oa, oc, rfl⟩ := hO.shape
  obtain ⟨ma, mc, rfl⟩ := hM.shape
  obtain ⟨pa, pc, rfl⟩ := hP.shape
  obtain ⟨qa, qc, rfl⟩ := hQ.shape
  obtain ⟨W3, hW0⟩ : ∃ W0, w.alloc (.cells #[.slice ta V.tree.length tc, .slice oa V.op.length oc, .slice ma V.modal.length mc, .slice pa V.pops.length pc, .slice qa V.top.length qc] 27) = W0 := ⟨_, rfl⟩
  have HB3 := hideG (show Below w.heap.size w W3 by rw [← hW0]; exact alB _ _)
  have BX := hideG (show BoxV W3 w.heap.size _ _ _ _ _ by rw [← hW0]; exact BoxV.new _ _ _ _ _ _ _)
  have HV0 := hideG (HVV.out.below HB3.out)
  have HS := hideG hS
  have HL := hideG hl
  have HW0 := hideG hW0
  have htl := (mayB_pos hm).2
  clear hW0 hT hO hM hP hQ hS hl
  go_enter Tryz.func60, Tryz.ntmps60
  go_wp2_with fail
  rw [HW0.out]
  clear HW0
  go_loopw [3, 4] (fun o i wr => ∃ (k : Nat) (oa : Option Addr) (oc : Nat), k ≤ V.tree.length ∧ i = .int .i64 (k : Int) ∧ o = .slice oa (allIn V k).length oc ∧ wr.ownsRow W3.heap.size 3 1 (.slice oa (allIn V k).length oc) (allIn V k).length (intCells (allIn V k)) ∧ Below W3.heap.size W3 wr) (fun _ i _ => V.tree.length - (intOf i).toNat)
  case atStart => exact ⟨0, none, 0, Nat.zero_le _, rfl, rfl, World.ownsRow_nil _ _ _ _, Below.refl _ _⟩
  case round =>
    obtain ⟨k, oa', oc', hk, rfl, rfl, hown, hB⟩ := hrel
    have HOW := hideG hown
    have HBK := hideG hB
    have BXK := hideG (BX.out.below hB)
    clear hown hB
    have p0 := BXK.out.c0
    have p1 := BXK.out.c1
    have p2 := BXK.out.c2
    have p3 := BXK.out.c3
    have p4 := BXK.out.c4
    have plt := BXK.out.lt
    by_cases hlt : k < V.tree.length
    · have HAS := hideG (allIn_succ V k)
      have hal := allIn_len V k
      go_wp2_with fail
      refine (refIs12_any _ _ _ _ _ V k hlt wr (HV0.out.below HBK.out) HS.out HL.out hm).mono ?_
      rintro e w4 ⟨rfl, hb4⟩
      have HOW4 := hideG (ownsRow_below HOW.out hb4 (fun j e => (HOW.out.lt j e).2))
      have HB4 := hideG (HBK.out.trans (hb4.mono HBK.out.size))
      clear hb4 p0 p1 p2 p3 p4 plt
      cases hin : inB V k
      · have HE := hideG (show allIn V (k + 1) = allIn V k by rw [HAS.out, hin]; simp)
        clear hin
        go_wp2_with fail
        go_roundw
        case rel => exact ⟨k + 1, oa', oc', by omega, by go_num, by rw [HE.out], by rw [HE.out]; exact HOW4.out, HB4.out⟩
        case measure => simp [intOf]; omega
      · have HE := hideG (show allIn V (k + 1) = allIn V k ++ [(k : Int)] by rw [HAS.out, hin]; simp)
        clear hin
        generalize allIn V k = cur at *
        go_wp2_with (at_builtin; refine wpList_append_any rfl (.tmp 15) (.tmp 17) 24 rfl W3.heap.size 3 i3 _ 1 8 Tryz.underlying24 hi3 hz30 hz31 hz32 rfl (by decide) _ cur.length (intCells cur) rfl (HOW4.out.alloc _) _ 1 [.int .i64 (k : Int)] rfl (row_new1 _ _) rfl ?h2 ?h3 ?h4 ?h5 ?_)
        case h2 => first | (intro y hy; simp at hy; subst hy; rfl) | rfl | simp
        case h3 => simp only [maxLen]; omega
        case h4 => omega
        case h5 => have := HB4.out.size; simp; omega
        intro v5 w5 ho5 hg5 hf5
        obtain ⟨a5, c5, rfl⟩ := ownsRow_shape ho5
        rw [intCells_snoc] at ho5
        have HB5 := hideG ((HB4.out.alloc HB4.out.size (.cells #[.int .i64 (k : Int)] 3)).grown hg5 (by have := HB4.out.size; simp; omega) (fun j e => (HOW4.out.lt j e).1))
        have HL5 := hideG (show (allIn V (k + 1)).length = cur.length + 1 by rw [HE.out]; simp)
        have HO5 := hideG ho5
        clear ho5 hg5 hf5
        go_wp2_with fail
        go_roundw
        case rel => exact ⟨k + 1, a5, c5, by omega, by go_num, by rw [HL5.out], by rw [HL5.out, HE.out]; exact HO5.out, HB5.out⟩
        case measure => simp [intOf]; omega
    · have hke : k = V.tree.length := by omega
      rw [hke] at HOW ⊢
      clear hke
      go_wp2_with fail
      go_ret
      exact ⟨oa', oc', rfl, ownsRow_ints HOW.out, HB3.out.trans (HBK.out.mono HB3.out.size)⟩
end Go.Proofs.YtclhimodopgeoaaGreat

