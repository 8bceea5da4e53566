/- The law on what is fixed. -/
import Derived.Deep.DeepCutAuto
import Derived.Test.YtclhimodopgeoaaGreatXLHigh
import Derived.Test.YtclhimodopgeoaaGreatXTopSame
namespace Go.Proofs.YtclhimodopgeoaaGreat
open Go.RowKit

theorem fix_small {V : Vw} (h : smallL V) : smallL (fixL V) := by
  obtain ⟨h1, h2, h3, h4⟩ := h
  refine ⟨Nat.le_trans (List.length_filter_le _ _) h1, Nat.le_trans (List.length_filter_le _ _) h2, ?_, Nat.le_trans (List.length_filter_le _ _) h4⟩
  show (fixPs V).length ≤ 500
  rw [fixPs_len]
  exact Nat.le_trans (List.length_filter_le _ _) h3
set_option maxRecDepth 100000 in
set_option maxHeartbeats 16000000 in
theorem topFix_walk (tv ov mv pv qv : Value) (V : Vw) (w : World) (hV : ViewAt w tv ov mv pv qv V) :
    Calls Tryz.prog 6 #[.agg #[tv, ov, mv, pv, qv]] w fun e w' => e = .returned (.bool true) ∧ Below w.heap.size w w' := by
  obtain ⟨hT, hO, hM, hP, hQ⟩ := hV
  obtain ⟨ta, tc, rfl⟩ := hT.shape
  obtain ⟨oa, oc, rfl⟩ := hO.shape
  obtain ⟨ma, mc, rfl⟩ := hM.shape
  obtain ⟨pa, pc, rfl⟩ := hP.shape
  obtain ⟨qa, qc, rfl⟩ := hQ.shape
  obtain ⟨W0, hW0⟩ : ∃ W0, w.alloc (.cells #[.slice ta V.tree.length tc, .slice oa V.op.length oc, .slice ma V.modal.length mc, .slice pa V.pops.length pc, .slice qa V.top.length qc] 27) = W0 := ⟨_, rfl⟩
  have HB0 := hideG (show Below w.heap.size w W0 by rw [← hW0]; exact alB _ _)
  have BX := hideG (show BoxV W0 w.heap.size _ _ _ _ _ by rw [← hW0]; exact BoxV.new _ _ _ _ _ _ _)
  have HV := hideG (show ViewAt w _ _ _ _ _ V from ⟨hT, hO, hM, hP, hQ⟩)
  have HV0 := hideG (HV.out.below HB0.out)
  have HW0 := hideG hW0
  clear hW0 hT hO hM hP hQ
  have HSM := hideG (refSmall10_any _ _ _ _ _ V W0 HV0.out)
  obtain ⟨i3, hi3, hz30, hz31, hz32⟩ := info_parts infoT3
  have p0 := BX.out.c0
  have p1 := BX.out.c1
  have p2 := BX.out.c2
  have p3 := BX.out.c3
  have p4 := BX.out.c4
  have plt := BX.out.lt
  cases hs : smallV V
  · rw [hs] at HSM
    clear hs
    go_enter Tryz.func6, Tryz.ntmps6
    go_wp2_with fail
    rw [HW0.out]
    refine HSM.out.mono ?_
    rintro ex w1 ⟨rfl, hb1⟩
    have HBX1 := hideG hb1
    clear hb1 p0 p1 p2 p3 p4 plt
    go_wp2_with fail
    refine (live10_any _).mono ?_
    rintro ex wl ⟨rfl, hbl⟩
    have HBL := hideG (HB0.out.trans (((HBX1.out).trans (hbl.mono (HBX1.out).size)).mono HB0.out.size))
    clear hbl
    go_wp2_with fail
    go_ret
    exact ⟨rfl, HBL.out⟩
  · rw [hs] at HSM
    obtain ⟨hS, hl, htl, hls⟩ := small_facts hs
    have HS := hideG hS
    have HL := hideG hl
    have HTL := hideG htl
    obtain ⟨h1l, h2l, h3l, h4l⟩ := hls
    have HMY := fun (U : World) (hU : Below W0.heap.size W0 U) => hideG (refMay_walk V.tree hS _ U (HV0.out.tree.below hU))
    clear hs hS hl
    go_enter Tryz.func6, Tryz.ntmps6
    go_wp2_with fail
    rw [HW0.out]
    refine HSM.out.mono ?_
    rintro ex w1 ⟨rfl, hb1⟩
    have HBX1 := hideG hb1
    have HC := HMY w1 hb1
    clear hb1 HSM HMY htl
    clear p0 p1 p2 p3 p4 plt
    have FV := hideG (BX.out.below HBX1.out)
    have p0 := FV.out.c0
    have p1 := FV.out.c1
    have p2 := FV.out.c2
    have p3 := FV.out.c3
    have p4 := FV.out.c4
    have plt := FV.out.lt
    go_wp2_with fail
    clear FV p0 p1 p2 p3 p4 plt
    cases hm : mayB V.tree
    · rw [hm] at HC
      clear hm
      refine HC.out.mono ?_
      rintro ex w2 ⟨rfl, hb2⟩
      have HBX2 := hideG (HBX1.out.trans (hb2.mono HBX1.out.size))
      clear hb2 HC
      go_wp2_with fail
      refine (live10_any _).mono ?_
      rintro ex wl ⟨rfl, hbl⟩
      have HBL := hideG (HB0.out.trans (((HBX2.out).trans (hbl.mono (HBX2.out).size)).mono HB0.out.size))
      clear hbl
      go_wp2_with fail
      go_ret
      exact ⟨rfl, HBL.out⟩
    · rw [hm] at HC
      have HMB := hideG hm
      clear hm
      refine HC.out.mono ?_
      rintro ex w2 ⟨rfl, hb2⟩
      have HBX2 := hideG (HBX1.out.trans (hb2.mono HBX1.out.size))
      clear hb2 HC
      have FV := hideG (BX.out.below HBX2.out)
      have p0 := FV.out.c0
      have p1 := FV.out.c1
      have p2 := FV.out.c2
      have p3 := FV.out.c3
      have p4 := FV.out.c4
      have plt := FV.out.lt
      go_wp2_with (at_builtin; refine wpList_append_any rfl (.tmp 22) (.tmp 24) 24 rfl w2.heap.size 3 i3 _ 1 8 Tryz.underlying24 hi3 hz30 hz31 hz32 rfl (by decide) _ 0 (intCells []) rfl (World.ownsRow_nil _ _ _ _) _ V.op.length (intCells V.op) rfl (ints_holds (HV0.out.op.below HBX2.out)) (by simp [intCells]) (intCells_one _) ?h3 ?h4 ?h5 ?_)
      case h3 => simp only [maxLen]; omega
      case h4 => omega
      case h5 => exact Nat.le_refl _
      intro v1 y1 ho1 hg1 hf1
      obtain ⟨a1, c1, rfl⟩ := ownsRow_shape ho1
      have HY1 := hideG (show Below w2.heap.size w2 y1 from (Below.refl w2.heap.size w2).grown hg1 (Nat.le_refl _) (fun j e => by cases e))
      have HO1 := hideG (show y1.ownsRow w2.heap.size 3 1 (.slice a1 V.op.length c1) V.op.length (intCells V.op) by simpa [intCells] using ho1)
      have HZ1 := hideG (HBX2.out.trans (HY1.out.mono HBX2.out.size))
      clear ho1 hg1 hf1
      clear FV p0 p1 p2 p3 p4 plt
      have FV := hideG (BX.out.below HZ1.out)
      have p0 := FV.out.c0
      have p1 := FV.out.c1
      have p2 := FV.out.c2
      have p3 := FV.out.c3
      have p4 := FV.out.c4
      have plt := FV.out.lt
      go_wp2_with (at_builtin; refine wpList_append_any rfl (.tmp 26) (.tmp 28) 24 rfl w2.heap.size 3 i3 _ 1 8 Tryz.underlying24 hi3 hz30 hz31 hz32 rfl (by decide) _ V.op.length (intCells V.op) rfl HO1.out _ V.modal.length (intCells V.modal) rfl (ints_holds (HV0.out.modal.below HZ1.out)) (by simp [intCells]) (intCells_one _) ?h3 ?h4 ?h5 ?_)
      case h3 => simp only [maxLen]; omega
      case h4 => omega
      case h5 => exact HY1.out.size
      intro v2 y2 ho2 hg2 hf2
      obtain ⟨a2, c2, rfl⟩ := ownsRow_shape ho2
      have HY2 := hideG (show Below w2.heap.size w2 y2 from HY1.out.grown hg2 HY1.out.size (fun j e => (HO1.out.lt j e).1))
      have e2 : intCells V.op ++ intCells V.modal = intCells (V.op ++ V.modal) := by simp [intCells]
      rw [e2] at ho2
      have HO2 := hideG ho2
      have HZ2 := hideG (HBX2.out.trans (HY2.out.mono HBX2.out.size))
      clear ho2 hg2 hf2 e2
      clear FV p0 p1 p2 p3 p4 plt
      have FV := hideG (BX.out.below HZ2.out)
      have p0 := FV.out.c0
      have p1 := FV.out.c1
      have p2 := FV.out.c2
      have p3 := FV.out.c3
      have p4 := FV.out.c4
      have plt := FV.out.lt
      go_wp2_with fail
      clear FV p0 p1 p2 p3 p4 plt
      refine (refNodes_any V.pops (.slice pa V.pops.length pc) y2 (HV0.out.pops.below HZ2.out) (by omega)).mono ?_
      rintro ex y3 ⟨a3, c3, rfl, ho3, hb3⟩
      have HI3 := hideG (show IntsAt y3 (.slice a3 V.pops.length c3) (nodesL' V.pops) from by
        have hl : (nodesL' V.pops).length = V.pops.length := by simp [nodesL']
        rw [← hl] at ho3 ⊢
        exact ownsRow_ints ho3)
      have HO3 := hideG (ownsRow_below HO2.out hb3 (fun j e => (HO2.out.lt j e).2))
      have HY3 := hideG (HY2.out.trans (hb3.mono HY2.out.size))
      have HNL := hideG (show (nodesL' V.pops).length = V.pops.length by simp [nodesL'])
      have HH3 := hideG (show Holds y3 (.slice a3 V.pops.length c3) V.pops.length (intCells (nodesL' V.pops)) by
        have := ints_holds HI3.out
        rwa [HNL.out] at this)
      clear ho3 hb3
      go_wp2_with (at_builtin; refine wpList_append_any rfl (.tmp 30) (.tmp 33) 24 rfl w2.heap.size 3 i3 _ 1 8 Tryz.underlying24 hi3 hz30 hz31 hz32 rfl (by decide) _ (V.op.length + V.modal.length) (intCells (V.op ++ V.modal)) rfl HO3.out _ V.pops.length (intCells (nodesL' V.pops)) rfl HH3.out (by simp [intCells, HNL.out]) (intCells_one _) ?h3 ?h4 ?h5 ?_)
      case h3 => simp only [maxLen]; omega
      case h4 => omega
      case h5 => exact HY3.out.size
      intro v4 y4 ho4 hg4 hf4
      obtain ⟨la, lc, rfl⟩ := ownsRow_shape ho4
      have HY4 := hideG (show Below w2.heap.size w2 y4 from HY3.out.grown hg4 HY3.out.size (fun j e => (HO3.out.lt j e).1))
      have e4 : intCells (V.op ++ V.modal) ++ intCells (nodesL' V.pops) = intCells (openedL V) := by simp [intCells, openedL, raisedL]
      have el : V.op.length + V.modal.length + V.pops.length = (openedL V).length := by simp [openedL, raisedL, nodesL']; omega
      rw [e4, el] at ho4
      have HZ4 := hideG (HBX2.out.trans (HY4.out.mono HBX2.out.size))
      have HLI := hideG (ownsRow_ints ho4)
      have HLC := hideG (show (openedL V).length ≤ lc by
        rcases ho4.2 with ⟨e, h0⟩ | ⟨g, cap, cur, e, _, _, hn, _⟩
        · omega
        · injection e with _ _ e3
          omega)
      have HEL := hideG el
      have HRL := hideG (show (openedL V).length = V.op.length + (raisedL V).length by simp [openedL])
      clear ho4 hg4 hf4 e4
      rw [el]
      clear el
      have FV := hideG (BX.out.below HZ4.out)
      have p0 := FV.out.c0
      have p1 := FV.out.c1
      have p2 := FV.out.c2
      have p3 := FV.out.c3
      have p4 := FV.out.c4
      have plt := FV.out.lt
      go_upto_region 7 with fail
      go_cut [4] (fun h wx => wx = y4 ∧ ∃ ha hc, h = .slice ha (raisedL V).length hc ∧ IntsAt y4 h (raisedL V))
      case first =>
        have hol : V.op.length ≤ (openedL V).length := by have := HRL.out; omega
        have hoc : V.op.length ≤ lc := by have := HLC.out; omega
        have hlc : (openedL V).length ≤ lc := HLC.out
        have HSUB := hideG (show (openedL V).length - V.op.length = (raisedL V).length by have := HRL.out; omega)
        by_cases hcz : lc = V.op.length
        · have HRZ := hideG (show (raisedL V).length = 0 by have := HRL.out; omega)
          have HRN := hideG (show raisedL V = [] from List.length_eq_zero_iff.mp HRZ.out)
          subst hcz
          go_wp2_with fail
          go_meet
          case rel => rw [HRN.out]; exact ⟨rfl, _, _, rfl, ints_nil⟩
        · have HI4 := hideG (show IntsAt y4 (.slice (Option.map (fun x => x.add V.op.length) la) (raisedL V).length (lc - V.op.length)) (raisedL V) from ⟨_, _, rfl, fun h0 => by
            obtain ⟨a', c', hv, hc⟩ := HLI.out
            injection hv with x1 x2 x3
            subst x1
            obtain ⟨b, off, rfl, hd⟩ := hc (by have := HRL.out; omega)
            refine ⟨b, off + V.op.length, by simp [addr_add], fun j hj => ?_⟩
            have h7 := hd (V.op.length + j) (by have := HRL.out; omega)
            have e7 : (openedL V).getD (V.op.length + j) 0 = (raisedL V).getD j 0 := by
              unfold openedL
              rw [List.getD_eq_getElem?_getD, List.getD_eq_getElem?_getD, List.getElem?_append_right (by omega)]
              congr 2
              omega
            rw [e7] at h7
            rw [Nat.add_assoc]
            exact h7⟩)
          go_wp2_with fail
          go_meet
          case rel => rw [HSUB.out]; exact ⟨rfl, _, _, rfl, HI4.out⟩
      case rest =>
        obtain ⟨hwc, ha, hc, rfl, hih⟩ := hcut
        obtain rfl : _ = wc := hwc.symm
        have HIH := hideG hih
        have hLb : (openedL V).length ≤ 120 := by have := HEL.out; omega
        have hRb : (raisedL V).length ≤ 120 := by have := HRL.out; omega
        clear hih HO1 HO2 HO3 HI3 HH3 HY1 HY2 HY3 HZ1 HZ2
        clear FV p0 p1 p2 p3 p4 plt
        cases ho1 : onceB (openedL V)
        · have HN1 := hideG ho1
          clear ho1
          go_wp2_with fail
          refine (refOnce_any (openedL V) _ y4 HLI.out (by omega)).mono ?_
          rintro ex wz ⟨rfl, hwz⟩
          obtain rfl : _ = wz := hwz.symm
          rw [HN1.out]
          go_wp2_with fail
          refine (live10_any _).mono ?_
          rintro ex wl ⟨rfl, hbl⟩
          have HBL := hideG (HB0.out.trans (((HZ4.out).trans (hbl.mono (HZ4.out).size)).mono HB0.out.size))
          clear hbl
          go_wp2_with fail
          go_ret
          exact ⟨rfl, HBL.out⟩
        · have HN1 := hideG ho1
          clear ho1
          go_wp2_with fail
          refine (refOnce_any (openedL V) _ y4 HLI.out (by omega)).mono ?_
          rintro ex wz ⟨rfl, hwz⟩
          obtain rfl : _ = wz := hwz.symm
          rw [HN1.out]
          have FV := hideG (BX.out.below HZ4.out)
          have p0 := FV.out.c0
          have p1 := FV.out.c1
          have p2 := FV.out.c2
          have p3 := FV.out.c3
          have p4 := FV.out.c4
          have plt := FV.out.lt
          go_wp2_with fail
          cases ho2 : onceB V.top
          · have HN2 := hideG ho2
            clear ho2
            refine (refOnce_any V.top _ y4 (HV0.out.top.below HZ4.out) (by omega)).mono ?_
            rintro ex wz ⟨rfl, hwz⟩
            obtain rfl : _ = wz := hwz.symm
            rw [HN2.out]
            go_wp2_with fail
            refine (live10_any _).mono ?_
            rintro ex wl ⟨rfl, hbl⟩
            have HBL := hideG (HB0.out.trans (((HZ4.out).trans (hbl.mono (HZ4.out).size)).mono HB0.out.size))
            clear hbl
            go_wp2_with fail
            go_ret
            exact ⟨rfl, HBL.out⟩
          · have HN2 := hideG ho2
            clear ho2
            refine (refOnce_any V.top _ y4 (HV0.out.top.below HZ4.out) (by omega)).mono ?_
            rintro ex wz ⟨rfl, hwz⟩
            obtain rfl : _ = wz := hwz.symm
            rw [HN2.out]
            by_cases hlen : V.top.length = (raisedL V).length
            · have HLEN := hideG hlen
              have hli : ((V.top.length : Int) != (raisedL V).length) = false := by rw [hlen]; simp
              go_wp2_with fail
              clear FV p0 p1 p2 p3 p4 plt
              clear hli hlen
              go_loopw [5] (fun i wr => ∃ m : Nat, m ≤ (raisedL V).length ∧ i = .int .i64 (m : Int) ∧ (∀ j, j < m → containsB V.top ((raisedL V).getD j 0) = true) ∧ Below y4.heap.size y4 wr) (fun i _ => (raisedL V).length - (intOf i).toNat)
              case atStart => exact ⟨0, Nat.zero_le _, rfl, fun j hj => by omega, Below.refl _ _⟩
              case round =>
                obtain ⟨m, hm, rfl, hno, hB⟩ := hrel
                have HNO := hideG hno
                have HB3 := hideG hB
                have HBR := hideG (HZ4.out.trans (hB.mono HZ4.out.size))
                clear hno hB
                have FV := hideG (BX.out.below HBR.out)
                have p0 := FV.out.c0
                have p1 := FV.out.c1
                have p2 := FV.out.c2
                have p3 := FV.out.c3
                have p4 := FV.out.c4
                have plt := FV.out.lt
                by_cases hmt : m < (raisedL V).length
                · obtain ⟨a', c', hv, hc⟩ := HIH.out
                  injection hv with x1 x2 x3
                  subst x1
                  clear x2 x3
                  obtain ⟨b, off, he3, hd⟩ := hc (by omega)
                  have c0 := cell_below HB3.out (hd m hmt)
                  have hbl : b < wr.heap.size := below_of_cell c0
                  have hm0 : (0 : Int) ≤ (m : Int) := by omega
                  have hml : (m : Int) < ((raisedL V).length : Int) := by omega
                  have hcc : ∀ (d : Calm wr) (b o : Nat), b < wr.heap.size → d.to.cell? ⟨b, o, none⟩ = wr.cell? ⟨b, o, none⟩ := calmCell
                  have HD := hideG (show ∀ x U, Below wr.heap.size wr U → Calls Tryz.prog 37 #[.slice qa V.top.length qc, .int .i64 x] U (fun e w' => e = .returned (.bool (containsB V.top x)) ∧ Below wr.heap.size wr w') from fun x U hU => by
                    refine (refIn_any V.top _ x U ((HV0.out.top.below HBR.out).below hU) (by omega)).mono ?_
                    rintro e w' ⟨rfl, rfl⟩
                    exact ⟨rfl, hU⟩)
                  generalize hx : (raisedL V).getD m 0 = x at *
                  have HX := hideG hx
                  clear hd hc hx
                  subst he3
                  cases hcn : containsB V.top x
                  · have HN := hideG hcn
                    clear hcn
                    go_wp2_with fail
                    refine wp_region_calm (by kernel_rfl) (by kernel_rfl) ?_
                    repeat (go_big_quiet_step (first | (go_at_call 37; refine Calls.mono (HD.out x _ (Calm.below _)) ?_; rintro ex wx ⟨rfl, hbx⟩; rw [HN.out]; exact ⟨rfl, ⟨wx, hbx⟩, rfl⟩)))
                    refine wpQuiet_nil ?_
                    intro _ hw'
                    obtain ⟨dq, hw''⟩ := hw'
                    subst hw''
                    have HB9 := hideG (HBR.out.trans (dq.below.mono HBR.out.size))
                    generalize dq.to = wd at *
                    clear dq hcc c0
                    clear FV p0 p1 p2 p3 p4 plt
                    go_wp2_with fail
                    refine (live10_any _).mono ?_
                    rintro ex wl ⟨rfl, hbl⟩
                    have HBL := hideG (HB0.out.trans (((HB9.out).trans (hbl.mono (HB9.out).size)).mono HB0.out.size))
                    clear hbl
                    go_wp2_with fail
                    go_ret
                    exact ⟨rfl, HBL.out⟩
                  · have HN := hideG hcn
                    clear hcn
                    go_wp2_with fail
                    refine wp_region_calm (by kernel_rfl) (by kernel_rfl) ?_
                    repeat (go_big_quiet_step (first | (go_at_call 37; refine Calls.mono (HD.out x _ (Calm.below _)) ?_; rintro ex wx ⟨rfl, hbx⟩; rw [HN.out]; exact ⟨rfl, ⟨wx, hbx⟩, rfl⟩)))
                    refine wpQuiet_nil ?_
                    intro _ hw'
                    obtain ⟨dq, hw''⟩ := hw'
                    subst hw''
                    have HB9 := hideG (HB3.out.trans (dq.below.mono HB3.out.size))
                    generalize dq.to = wd at *
                    clear dq hcc c0
                    clear FV p0 p1 p2 p3 p4 plt
                    go_wp2_with fail
                    go_roundw
                    case rel => exact ⟨m + 1, by omega, by go_num, fun j hj => by
                      by_cases e : j = m
                      · subst e; rw [HX.out]; exact HN.out
                      · exact HNO.out j (by omega), HB9.out⟩
                    case measure => simp [intOf]; omega
                · have hml : ¬ (m : Int) < ((raisedL V).length : Int) := by omega
                  have hme : m = (raisedL V).length := by omega
                  subst hme
                  have HPERM := hideG (show V.top.Perm (raisedL V) from by
                    have h1 := onceB_iff.mp HN1.out
                    refine (perm_of (List.nodup_append.mp h1).2.1 (fun y hy => ?_) HLEN.out.symm).symm
                    obtain ⟨j, hj, rfl⟩ := mem_getD hy
                    exact contains_yes.mp (HNO.out j hj))
                  have HMF := hideG (fix_may (V := V) (onceB_iff.mp HN1.out) HPERM.out)
                  have HFX := hideG (fixOk _ _ _ _ _ V wr (HV0.out.below HBR.out) HS.out HL.out HMB.out (by have := HTL.out; omega))
                  go_wp2_with fail
                  clear FV p0 p1 p2 p3 p4 plt
                  refine (shapedF HFX.out _ _ _ _ _ _ rfl rfl rfl rfl rfl rfl).mono ?_
                  rintro ex w6 ⟨aA0, cA0, aA1, cA1, aA2, cA2, aA3, cA3, aA4, cA4, ga, gc, rfl, hvA, hg6, hb6⟩
                  obtain ⟨X6, hX6⟩ : ∃ X, w6.alloc (.cells #[.slice aA0 (fixL V).tree.length cA0, .slice aA1 (fixL V).op.length cA1, .slice aA2 (fixL V).modal.length cA2, .slice aA3 (fixL V).pops.length cA3, .slice aA4 (fixL V).top.length cA4] 27) = X := ⟨_, rfl⟩
                  have hz6 : Below w6.heap.size w6 X6 := by rw [← hX6]; exact alB _ _
                  have hst6 := hb6.trans (hz6.mono hb6.size)
                  have HB6 := hideG (HBR.out.trans (hst6.mono HBR.out.size))
                  have BXA := hideG (show BoxV X6 w6.heap.size (.slice aA0 (fixL V).tree.length cA0) (.slice aA1 (fixL V).op.length cA1) (.slice aA2 (fixL V).modal.length cA2) (.slice aA3 (fixL V).pops.length cA3) (.slice aA4 (fixL V).top.length cA4) by rw [← hX6]; exact BoxV.new _ _ _ _ _ _ _)
                  have HVA := hideG (hvA.below hz6)
                  have HE6 := hideG hX6
                  have HSA := hideG (show Sane (fixL V).tree from HS.out)
                  have HLA := hideG (show smallL (fixL V) from fix_small HL.out)
                  have HMA := hideG (show mayB (fixL V).tree = true from HMB.out)
                  have HMV := hideG (show mayV (fixL V) = true from may_iff.mpr HMF.out)
                  have HGN := hideG (fix_gone (V := V))
                  have HFF := hideG (fix_fix (V := V))
                  have HSUM := hideG (fix_len (V := V))
                  have HLS := hideG (show (fixG V).length ≤ 200 ∧ (fixL V).op.length ≤ 200 ∧ (fixL V).modal.length ≤ 200 ∧ (fixL V).pops.length ≤ 200 from by
                    have h1 := HSUM.out
                    have h2 : (fixG V).length + (fixL V).op.length + (fixL V).modal.length + (fixL V).pops.length = V.op.length + V.modal.length + V.pops.length := h1
                    omega)
                  have HSI := hideG (show (fixG V).length + (fixL V).op.length + (fixL V).modal.length + (fixL V).pops.length = (openedL V).length from by
                    have h1 := HSUM.out
                    have h2 : (fixG V).length + (fixL V).op.length + (fixL V).modal.length + (fixL V).pops.length = V.op.length + V.modal.length + V.pops.length := h1
                    have := HEL.out
                    omega)
                  have HFX2 := hideG (fixOk _ _ _ _ _ (fixL V) X6 HVA.out HSA.out HLA.out HMA.out (by have := HTL.out; show V.tree.length ≤ 1000; omega))
                  rw [HGN.out, HFF.out] at HFX2
                  clear hX6 hz6 hb6 hvA hst6 hg6 HFX
                  go_upto_region 16 with fail
                  rw [HE6.out]
                  have p0 := BXA.out.c0
                  have p1 := BXA.out.c1
                  have p2 := BXA.out.c2
                  have p3 := BXA.out.c3
                  have p4 := BXA.out.c4
                  have plt := BXA.out.lt
                  go_wp2_with fail
                  clear p0 p1 p2 p3 p4 plt
                  refine (shapedF HFX2.out _ _ _ _ _ 0 rfl rfl rfl rfl rfl rfl).mono ?_
                  rintro ex w7 ⟨aB0, cB0, aB1, cB1, aB2, cB2, aB3, cB3, aB4, cB4, gb, gd, rfl, hvB, _, hb7⟩
                  obtain ⟨X7, hX7⟩ : ∃ X, w7.alloc (.cells #[.slice aB0 (fixL V).tree.length cB0, .slice aB1 (fixL V).op.length cB1, .slice aB2 (fixL V).modal.length cB2, .slice aB3 (fixL V).pops.length cB3, .slice aB4 (fixL V).top.length cB4] 27) = X := ⟨_, rfl⟩
                  have hz7 : Below w7.heap.size w7 X7 := by rw [← hX7]; exact alB _ _
                  have hst7 := hb7.trans (hz7.mono hb7.size)
                  have HB7 := hideG (HB6.out.trans (hst7.mono HB6.out.size))
                  have BXB := hideG (show BoxV X7 w7.heap.size (.slice aB0 (fixL V).tree.length cB0) (.slice aB1 (fixL V).op.length cB1) (.slice aB2 (fixL V).modal.length cB2) (.slice aB3 (fixL V).pops.length cB3) (.slice aB4 (fixL V).top.length cB4) by rw [← hX7]; exact BoxV.new _ _ _ _ _ _ _)
                  have BXA7 := hideG (BXA.out.below hst7)
                  have HVA7 := hideG (HVA.out.below hst7)
                  have HVB := hideG (hvB.below hz7)
                  have HE7 := hideG hX7
                  clear hX7 hz7 hb7 hvB hst7 BXA HVA HFX2
                  go_upto_region 17 with fail
                  rw [HE7.out]
                  have HSS := hideG HSI.out
                  have hLS := HLS.out
                  have hsi := HSI.out
                  refine wp_slots (fun z => { tmps := #[z 0, z 1, z 2, .slice la (openedL V).length lc, z 4, z 5, .pointer (some ⟨w6.heap.size, 0, none⟩), .slice ga (fixG V).length gc, .int .i64 0, .pointer (some ⟨w7.heap.size, 0, none⟩), .slice gb 0 gd, .int .i64 0, z 12, z 13, z 14, z 15, z 16, z 17, z 18, z 19, z 20, z 21, z 22, z 23, z 24, z 25, z 26, z 27, z 28, z 29, z 30, z 31, z 32, z 33, z 34, z 35, z 36, z 37, z 38, z 39, z 40, z 41, z 42, z 43, z 44, z 45, z 46, z 47, z 48, z 49, z 50, z 51, z 52, z 53, z 54, z 55, z 56, z 57, z 58, z 59, z 60, z 61, z 62, z 63, z 64, z 65, z 66, z 67, z 68, z 69, z 70, z 71, z 72, z 73, z 74, z 75, z 76, z 77, z 78, z 79, z 80, z 81, z 82, z 83, z 84, z 85, z 86, z 87, z 88, z 89, z 90, z 91, z 92, z 93, z 94, z 95, z 96, z 97, z 98, z 99, z 100, z 101, z 102, z 103, z 104, z 105, z 106, z 107, z 108, z 109, z 110, z 111, z 112, z 113, z 114, z 115, z 116, z 117, z 118, z 119, z 120, z 121, z 122, z 123, z 124, z 125, z 126], defers := [] }) (by rfl) (fun z => ?_)
                  have p0 := BXA7.out.c0
                  have p1 := BXA7.out.c1
                  have p2 := BXA7.out.c2
                  have p3 := BXA7.out.c3
                  have p4 := BXA7.out.c4
                  have plt := BXA7.out.lt
                  clear hsi hLS
                  go_wp2_with fail
                  clear p0 p1 p2 p3 p4 plt
                  refine (refMay10_any _ _ _ _ _ (fixL V) X7 HVA7.out HSA.out HMA.out (by have := HLA.out; unfold smallL at this; omega)).mono ?_
                  rintro ex w8 ⟨rfl, hb8⟩
                  rw [HMV.out]
                  have HB8 := hideG (HB7.out.trans (hb8.mono HB7.out.size))
                  have BXA8 := hideG (BXA7.out.below hb8)
                  have BXB8 := hideG (BXB.out.below hb8)
                  have HVA8 := hideG (HVA7.out.below hb8)
                  have HVB8 := hideG (HVB.out.below hb8)
                  clear hb8
                  have p0 := BXA8.out.c0
                  have p1 := BXA8.out.c1
                  have p2 := BXA8.out.c2
                  have p3 := BXA8.out.c3
                  have p4 := BXA8.out.c4
                  have plt := BXA8.out.lt
                  have q0 := BXB8.out.c0
                  have q1 := BXB8.out.c1
                  have q2 := BXB8.out.c2
                  have q3 := BXB8.out.c3
                  have q4 := BXB8.out.c4
                  have qlt := BXB8.out.lt
                  go_wp2_with fail
                  clear p0 p1 p2 p3 p4 plt q0 q1 q2 q3 q4 qlt
                  refine (sameYes _ _ _ _ _ _ _ _ _ _ (fixL V) w8 HVA8.out HVB8.out HSA.out (by have h1 := HLA.out; have h2 := HTL.out; unfold smallL at h1; refine ⟨?_, by omega, by omega, by omega, by omega⟩; show V.tree.length ≤ 1000000; omega)).mono ?_
                  rintro ex w9 ⟨rfl, hb9⟩
                  have HB9 := hideG (HB8.out.trans (hb9.mono HB8.out.size))
                  have BXA9 := hideG (BXA8.out.below hb9)
                  clear hb9
                  have p0 := BXA9.out.c0
                  have p1 := BXA9.out.c1
                  have p2 := BXA9.out.c2
                  have p3 := BXA9.out.c3
                  have p4 := BXA9.out.c4
                  have plt := BXA9.out.lt
                  have hLS := HLS.out
                  have hsi := HSI.out
                  generalize (fixG V).length = g at *
                  generalize (fixL V).op.length = o at *
                  generalize (fixL V).modal.length = mm at *
                  generalize (fixL V).pops.length = pp at *
                  generalize (openedL V).length = LL at *
                  obtain ⟨g1, g2, g3, g4⟩ := hLS
                  have hsum : (((g : Int) + (o : Int) + (mm : Int) + (pp : Int)) == (LL : Int)) = true := by rw [beq_iff_eq]; omega
                  have hsum' : ((g : Int) + (o : Int) + (mm : Int) + (pp : Int)) = (LL : Int) := by omega
                  clear hsi
                  go_wp2_with fail
                  clear p0 p1 p2 p3 p4 plt
                  refine (live10_any _).mono ?_
                  rintro ex wl ⟨rfl, hbl⟩
                  have HBL := hideG (HB0.out.trans (((HB9.out).trans (hbl.mono (HB9.out).size)).mono HB0.out.size))
                  clear hbl
                  go_wp2_with fail
                  go_ret
                  exact ⟨rfl, HBL.out⟩
            · have hli : ((V.top.length : Int) != (raisedL V).length) = true := by rw [bne_iff_ne]; omega
              go_wp2_with fail
              refine (live10_any _).mono ?_
              rintro ex wl ⟨rfl, hbl⟩
              have HBL := hideG (HB0.out.trans (((HZ4.out).trans (hbl.mono (HZ4.out).size)).mono HB0.out.size))
              clear hbl
              go_wp2_with fail
              go_ret
              exact ⟨rfl, HBL.out⟩
end Go.Proofs.YtclhimodopgeoaaGreat

