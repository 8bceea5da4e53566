/- The law on the highest modal dialog. -/
import Derived.Test.YtclhimodopgeoaaGreatTC11
namespace Go.Proofs.YtclhimodopgeoaaGreat
open Go.RowKit

theorem small_facts {V : Vw} (h : smallV V = true) : Sane V.tree ∧ smallL V ∧ V.tree.length ≤ 16 ∧ (V.op.length ≤ 40 ∧ V.modal.length ≤ 40 ∧ V.pops.length ≤ 40 ∧ V.top.length ≤ 80) := by
  unfold smallV at h
  simp only [Bool.and_eq_true, decide_eq_true_eq] at h
  obtain ⟨h0, h1, h2, h3, h4, h5⟩ := h
  exact ⟨small_sane h0, ⟨by omega, by omega, by omega, by omega⟩, h1, h2, h3, h4, h5⟩
set_option maxRecDepth 100000 in
set_option maxHeartbeats 8000000 in
theorem topHighest_walk (tv ov mv pv qv : Value) (V : Vw) (w : World) (hV : ViewAt w tv ov mv pv qv V) :
    Calls Tryz.prog 7 #[.agg #[tv, ov, mv, pv, qv]] w fun e w' => e = .returned (.bool true) ∧ Below w.heap.size w w' := by
  obtain ⟨hT, hO, hM, hP, hQ⟩ := hV
  obtain ⟨ta, tc, rfl⟩ := hT.shape
  obtain ⟨oa, oc, rfl⟩ := hO.shape
  obtain ⟨ma, mc, rfl⟩ := hM.shape
  obtain ⟨pa, pc, rfl⟩ := hP.shape
  obtain ⟨qa, qc, rfl⟩ := hQ.shape
  obtain ⟨W0, hW0⟩ : ∃ W0, w.alloc (.cells #[.slice ta V.tree.length tc, .slice oa V.op.length oc, .slice ma V.modal.length mc, .slice pa V.pops.length pc, .slice qa V.top.length qc] 27) = W0 := ⟨_, rfl⟩
  have HB0 := hideG (show Below w.heap.size w W0 by rw [← hW0]; exact alB _ _)
  have BX := hideG (show BoxV W0 w.heap.size _ _ _ _ _ by rw [← hW0]; exact BoxV.new _ _ _ _ _ _ _)
  have HV := hideG (show ViewAt w _ _ _ _ _ V from ⟨hT, hO, hM, hP, hQ⟩)
  have HV0 := hideG (HV.out.below HB0.out)
  have HW0 := hideG hW0
  clear hW0 hT hO hM hP hQ
  have HSM := hideG (refSmall10_any _ _ _ _ _ V W0 HV0.out)
  have p0 := BX.out.c0
  have p1 := BX.out.c1
  have p2 := BX.out.c2
  have p3 := BX.out.c3
  have p4 := BX.out.c4
  have plt := BX.out.lt
  cases hs : smallV V
  · rw [hs] at HSM
    clear hs
    go_enter Tryz.func7, Tryz.ntmps7
    go_wp2_with fail
    rw [HW0.out]
    refine HSM.out.mono ?_
    rintro ex w1 ⟨rfl, hb1⟩
    have HBX1 := hideG hb1
    clear hb1 p0 p1 p2 p3 p4 plt
    go_wp2_with fail
    refine (live10_any _).mono ?_
    rintro ex wl ⟨rfl, hbl⟩
    have HBL := hideG (HB0.out.trans ((HBX1.out.trans (hbl.mono HBX1.out.size)).mono HB0.out.size))
    clear hbl
    go_wp2_with fail
    go_ret
    exact ⟨rfl, HBL.out⟩
  · rw [hs] at HSM
    obtain ⟨hS, hl, htl, _⟩ := small_facts hs
    have HS := hideG hS
    have HL := hideG hl
    have h2l : V.modal.length ≤ 500 := hl.2.1
    have h4l : V.top.length ≤ 1000 := hl.2.2.2
    clear hs hS hl
    go_enter Tryz.func7, Tryz.ntmps7
    go_wp2_with fail
    rw [HW0.out]
    refine HSM.out.mono ?_
    rintro ex w1 ⟨rfl, hb1⟩
    have HBX1 := hideG hb1
    have BX1 := hideG (BX.out.below hb1)
    have HC := hideG (refCheck10_any _ _ _ _ _ V w1 (HV0.out.below hb1) HS.out ⟨by have := HL.out.1; omega, by omega, by have := HL.out.2.2.1; omega, h4l⟩)
    clear hb1 HSM
    clear p0 p1 p2 p3 p4 plt
    have p0 := BX1.out.c0
    have p1 := BX1.out.c1
    have p2 := BX1.out.c2
    have p3 := BX1.out.c3
    have p4 := BX1.out.c4
    have plt := BX1.out.lt
    go_wp2_with fail
    clear p0 p1 p2 p3 p4 plt
    by_cases hck : checkV V = 0
    · have HM := hideG (check_iff.mp hck).2
      rw [hck] at HC
      refine HC.out.mono ?_
      rintro ex w2 ⟨rfl, hb2⟩
      have HBX2 := hideG (HBX1.out.trans (hb2.mono HBX1.out.size))
      have HV2 := hideG (HV0.out.below HBX2.out)
      have HH := hideG (callsIn_wide.1 (highOk_in _ _ _ _ _ V w2 HV2.out HS.out HL.out hck))
      have BX2 := hideG (BX.out.below HBX2.out)
      clear hb2 HC hck
      have p0 := BX2.out.c0
      have p1 := BX2.out.c1
      have p2 := BX2.out.c2
      have p3 := BX2.out.c3
      have p4 := BX2.out.c4
      have plt := BX2.out.lt
      go_wp2_with fail
      clear p0 p1 p2 p3 p4 plt
      by_cases hn : highV V = -1
      · have hml := highest_none HM.out hn
        rw [hn] at HH
        refine HH.out.mono ?_
        rintro ex w3 ⟨rfl, hb3⟩
        have HBX3 := hideG (HBX2.out.trans (hb3.mono HBX2.out.size))
        have BX3 := hideG (BX.out.below HBX3.out)
        clear hb3 HH hn
        have p0 := BX3.out.c0
        have p1 := BX3.out.c1
        have p2 := BX3.out.c2
        have p3 := BX3.out.c3
        have p4 := BX3.out.c4
        have plt := BX3.out.lt
        go_wp2_with fail
        clear p0 p1 p2 p3 p4 plt
        refine (live10_any _).mono ?_
        rintro ex wl ⟨rfl, hbl⟩
        have HBL := hideG (HB0.out.trans ((HBX3.out.trans (hbl.mono HBX3.out.size)).mono HB0.out.size))
        clear hbl
        go_wp2_with fail
        go_ret
        exact ⟨rfl, HBL.out⟩
      · obtain ⟨j, hj, hi, hc, hno⟩ := highest_at HM.out hn
        have HI := hideG hi
        have HCN := hideG hc
        have HNO := hideG hno
        have hne : ¬ highV V = -1 := hn
        clear hi hc hno hn
        generalize highV V = n at *
        refine HH.out.mono ?_
        rintro ex w3 ⟨rfl, hb3⟩
        have HBX3 := hideG (HBX2.out.trans (hb3.mono HBX2.out.size))
        have BX3 := hideG (BX.out.below HBX3.out)
        have HV3 := hideG (HV0.out.below HBX3.out)
        clear hb3 HH
        have p0 := BX3.out.c0
        have p1 := BX3.out.c1
        have p2 := BX3.out.c2
        have p3 := BX3.out.c3
        have p4 := BX3.out.c4
        have plt := BX3.out.lt
        have hj0 : (0 : Int) ≤ (j : Int) := by omega
        have hj1 : ¬ (j : Int) < 0 := by omega
        go_wp2_with fail
        refine (refPlace_any V.top _ n w3 HV3.out.top (by omega)).mono ?_
        rintro ex wz ⟨rfl, hwz⟩
        obtain rfl : _ = wz := hwz.symm
        rw [HI.out]
        go_wp2_with fail
        refine (refIn_any V.modal _ n w3 HV3.out.modal (by omega)).mono ?_
        rintro ex wz ⟨rfl, hwz⟩
        obtain rfl : _ = wz := hwz.symm
        rw [HCN.out]
        go_wp2_with fail
        clear p0 p1 p2 p3 p4 plt
        go_loopw [5] (fun i wr => ∃ k : Nat, j < k ∧ k ≤ V.top.length ∧ i = .int .i64 (k : Int) ∧ Below W0.heap.size W0 wr) (fun i _ => V.top.length - (intOf i).toNat)
        case atStart => exact ⟨j + 1, by omega, by omega, by go_num, HBX3.out⟩
        case round =>
          obtain ⟨k, hjk, hk, rfl, hB⟩ := hrel
          have HB := hideG hB
          have q2 := BX.out.below hB
          have BR := hideG q2
          clear hB q2
          have q0 := BR.out.c0
          have q1 := BR.out.c1
          have q2 := BR.out.c2
          have q3 := BR.out.c3
          have q4 := BR.out.c4
          have qlt := BR.out.lt
          by_cases hlt : k < V.top.length
          · obtain ⟨a', c', hv, hc⟩ := HV0.out.top
            injection hv with x1 x2 x3
            subst x1
            clear x2 x3
            obtain ⟨b, off, he3, hd⟩ := hc (by omega)
            have c0 := cell_below HB.out (hd k hlt)
            have hbl : b < wr.heap.size := below_of_cell c0
            have hk0 : (0 : Int) ≤ (k : Int) := by omega
            have hkl : (k : Int) < (V.top.length : Int) := by omega
            have hcc : ∀ (d : Calm wr) (b o : Nat), b < wr.heap.size → d.to.cell? ⟨b, o, none⟩ = wr.cell? ⟨b, o, none⟩ := calmCell
            have HD := hideG (show ∀ x U, Below wr.heap.size wr U → Calls Tryz.prog 37 #[.slice ma V.modal.length mc, .int .i64 x] U (fun e w' => e = .returned (.bool (containsB V.modal x)) ∧ Below wr.heap.size wr w') from fun x U hU => by
              refine (refIn_any V.modal _ x U ((HV0.out.modal.below HB.out).below hU) (by omega)).mono ?_
              rintro e w' ⟨rfl, rfl⟩
              exact ⟨rfl, hU⟩)
            have HN := hideG (HNO.out k hjk hlt)
            generalize V.top.getD k 0 = x at *
            have he := he3
            subst he
            clear hd hc he3 HV3 HV2
            go_wp2_with fail
            refine wp_region_calm (by kernel_rfl) (by kernel_rfl) ?_
            repeat (go_big_quiet_step (first | (go_at_call 37; refine Calls.mono (HD.out x _ (Calm.below _)) ?_; rintro ex wx ⟨rfl, hbx⟩; rw [HN.out]; exact ⟨rfl, ⟨wx, hbx⟩, rfl⟩)))
            refine wpQuiet_nil ?_
            intro _ hw'
            obtain ⟨dq, hw''⟩ := hw'
            subst hw''
            have HB9 := hideG (HB.out.trans (dq.below.mono HB.out.size))
            generalize dq.to = wd at *
            clear dq hcc c0
            clear q0 q1 q2 q3 q4 qlt
            go_wp2_with fail
            go_roundw
            case rel => exact ⟨k + 1, by omega, by omega, by go_num, HB9.out⟩
            case measure => simp [intOf]; omega
          · have hkl : ¬ (k : Int) < (V.top.length : Int) := by omega
            go_wp2_with fail
            clear q0 q1 q2 q3 q4 qlt
            refine (live10_any _).mono ?_
            rintro ex wl ⟨rfl, hbl⟩
            have HBL := hideG (HB0.out.trans ((HB.out.trans (hbl.mono HB.out.size)).mono HB0.out.size))
            clear hbl
            go_wp2_with fail
            go_ret
            exact ⟨rfl, HBL.out⟩
    · have hcd := check_bad hck
      generalize checkV V = c at *
      clear hck
      rcases hcd with rfl | rfl
      · refine HC.out.mono ?_
        rintro ex w2 ⟨rfl, hb2⟩
        have HBX2 := hideG (HBX1.out.trans (hb2.mono HBX1.out.size))
        clear hb2 HC
        go_wp2_with fail
        refine (live10_any _).mono ?_
        rintro ex wl ⟨rfl, hbl⟩
        have HBL := hideG (HB0.out.trans ((HBX2.out.trans (hbl.mono HBX2.out.size)).mono HB0.out.size))
        clear hbl
        go_wp2_with fail
        go_ret
        exact ⟨rfl, HBL.out⟩
      · refine HC.out.mono ?_
        rintro ex w2 ⟨rfl, hb2⟩
        have HBX2 := hideG (HBX1.out.trans (hb2.mono HBX1.out.size))
        clear hb2 HC
        go_wp2_with fail
        refine (live10_any _).mono ?_
        rintro ex wl ⟨rfl, hbl⟩
        have HBL := hideG (HB0.out.trans ((HBX2.out.trans (hbl.mono HBX2.out.size)).mono HB0.out.size))
        clear hbl
        go_wp2_with fail
        go_ret
        exact ⟨rfl, HBL.out⟩
end Go.Proofs.YtclhimodopgeoaaGreat

