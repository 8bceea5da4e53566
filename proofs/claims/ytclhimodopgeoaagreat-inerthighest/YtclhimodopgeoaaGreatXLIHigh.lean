/- The law on the highest modal dialog: it is not blocked. -/
import Derived.Test.YtclhimodopgeoaaGreatXWReg
import Derived.Test.YtclhimodopgeoaaGreatXIn5
import Derived.Test.YtclhimodopgeoaaGreatXLBelow
import Derived.Test.YtclhimodopgeoaaGreatXTopRDlg
namespace Go.Proofs.YtclhimodopgeoaaGreat
open Go.RowKit

theorem kind0 {T : List Nd} (hm : mayB T = true) : (nd T 0).kind = 0 := by
  have hf := mayB_fine hm
  have h := hf.kind 0 hf.pos
  unfold kindFitsB at h
  simp at h
  exact h.1
theorem dlg_not0 {T : List Nd} (hm : mayB T = true) {n : Int} (h : dlgB T n = true) : ∃ q : Nat, n = (q : Int) ∧ q < T.length ∧ q ≠ 0 := by
  unfold dlgB at h
  simp only [Bool.and_eq_true, beq_iff_eq] at h
  obtain ⟨hn, hk, _⟩ := h
  unfold isNodeB at hn
  simp only [Bool.and_eq_true, decide_eq_true_eq] at hn
  refine ⟨n.toNat, by omega, by omega, fun e => ?_⟩
  rw [e, kind0 hm] at hk
  exact absurd hk (by decide)
theorem high_node {V : Vw} (hck : checkV V = 0) (hh : highV V ≠ -1) : ∃ q : Nat, highV V = (q : Int) ∧ q < V.tree.length ∧ q ≠ 0 := by
  obtain ⟨hm, hM⟩ := check_iff.mp hck
  obtain ⟨j, _, _, h, _⟩ := highest_at hM hh
  exact dlg_not0 hm (hM.modal _ (contains_yes.mp h))
theorem self_mem {T : List Nd} (hm : mayB T = true) {n : Nat} (hn : n < T.length) : fabvB T (n : Int) n = true := by
  rw [fabv_mem]
  rcases (fitsF hm).par n hn with e | ⟨p, hp, e, _⟩
  · rw [upF_none hn e]; simp
  · rw [(upF_some hm hn e).2.1]; simp
theorem dlg_all {V : Vw} {n : Int} (hck : checkV V = 0) (hS : Sane V.tree) (hl : V.op.length ≤ 40 ∧ V.modal.length ≤ 40 ∧ V.pops.length ≤ 40 ∧ V.top.length ≤ 80) (h : dlgE V n = 0) : Sane (dlgW V n true).tree ∧ smallL (dlgW V n true) ∧ checkV (dlgW V n true) = 0 ∧ (dlgW V n true).tree = V.tree ∧ highV (dlgW V n true) = n ∧ ∃ a : Nat, n = (a : Int) ∧ a < V.tree.length := by
  have e : dlgW V n true = { V with modal := V.modal ++ [n], top := V.top ++ [n] } := by simp [dlgW, hck, h]
  obtain ⟨hm, _⟩ := check_iff.mp hck
  refine ⟨by rw [dlg_tree hck]; exact hS, ?_, (dlg_may hck h).1, dlg_tree hck, by rw [e]; exact high_modal V n, ?_⟩
  · rw [e]
    unfold smallL
    simp only [List.length_append, List.length_singleton]
    omega
  · obtain ⟨q, h1, h2, _⟩ := dlg_not0 hm (dlgE_zero hck h).1
    exact ⟨q, h1, h2⟩
theorem known_yes {V : Vw} (hck : checkV V = 0) {k : Nat} (hk : k < V.tree.length) : knownV V (k : Int) = true := by
  unfold knownV
  simp [hck]
  omega
theorem blk_below {V : Vw} (hck : checkV V = 0) {k : Nat} (hk : k < V.tree.length) (h : fabvB V.tree (highV V) k = true) : (knownV V (k : Int) && blockedB (highV V) (upI6 V.tree (k : Int).toNat)) = false := by
  rw [Int.toNat_natCast, blocked_eq (check_iff.mp hck).1 hk, h]
  simp
theorem blk_other {V : Vw} (hck : checkV V = 0) {q a : Nat} (hq : q < V.tree.length) (hq0 : q ≠ 0) (hh : highV V = (a : Int)) : (knownV V (q : Int) && blockedB (highV V) (upI6 V.tree (q : Int).toNat)) = !fabvB V.tree (a : Int) q := by
  rw [Int.toNat_natCast, blocked_eq (check_iff.mp hck).1 hq, known_yes hck hq, hh]
  have h1 : ((a : Int) != -1) = true := by rw [bne_iff_ne]; omega
  have h2 : ((q : Int) != 0) = true := by rw [bne_iff_ne]; omega
  rw [h1, h2]
  simp

def FixP (vals : List Value) (d : Nat) (s : Value) (_ : World) : Prop := s = vals.getD d undef
set_option maxRecDepth 100000 in
set_option maxHeartbeats 8000000 in
theorem inertHighest_walk (tv ov mv pv qv : Value) (V : Vw) (n : Int) (w : World) (hV : ViewAt w tv ov mv pv qv V) :
    Calls Tryz.prog 17 #[.agg #[tv, ov, mv, pv, qv], .int .i64 n] w fun e w' => e = .returned (.bool true) ∧ Below w.heap.size w w' := by
  obtain ⟨hT, hO, hM, hP, hQ⟩ := hV
  obtain ⟨ta, tc, rfl⟩ := hT.shape
  obtain ⟨oa, oc, rfl⟩ := hO.shape
  obtain ⟨ma, mc, rfl⟩ := hM.shape
  obtain ⟨pa, pc, rfl⟩ := hP.shape
  obtain ⟨qa, qc, rfl⟩ := hQ.shape
  obtain ⟨W0, hW0⟩ : ∃ W0, w.alloc (.cells #[.slice ta V.tree.length tc, .slice oa V.op.length oc, .slice ma V.modal.length mc, .slice pa V.pops.length pc, .slice qa V.top.length qc] 27) = W0 := ⟨_, rfl⟩
  have HB0 := hideG (show Below w.heap.size w W0 by rw [← hW0]; exact alB _ _)
  have BX := hideG (show BoxV W0 w.heap.size _ _ _ _ _ by rw [← hW0]; exact BoxV.new _ _ _ _ _ _ _)
  have HV := hideG (show ViewAt w _ _ _ _ _ V from ⟨hT, hO, hM, hP, hQ⟩)
  have HV0 := hideG (HV.out.below HB0.out)
  have HW0 := hideG hW0
  clear hW0 hT hO hM hP hQ
  have HSM := hideG (refSmall10_any _ _ _ _ _ V W0 HV0.out)
  have HB := HB0
  clear HB0 HV
  have HV := HV0
  clear HV0
  have p0 := BX.out.c0
  have p1 := BX.out.c1
  have p2 := BX.out.c2
  have p3 := BX.out.c3
  have p4 := BX.out.c4
  have plt := BX.out.lt
  cases hs : smallV V
  · rw [hs] at HSM
    clear hs
    go_enter Tryz.func17, Tryz.ntmps17
    go_wp2_with fail
    rw [HW0.out]
    refine (HSM.out).mono ?_
    rintro ex u1 ⟨rfl, hu1⟩
    have HBn := hideG (HB.out.trans (hu1.mono HB.out.size))
    have BXn := hideG (BX.out.below hu1)
    have HVn := hideG (HV.out.below hu1)
    clear hu1 HB BX HV
    have HB := HBn
    have BX := BXn
    have HV := HVn
    clear HBn BXn HVn
    clear p0 p1 p2 p3 p4 plt
    go_wp2_with fail
    refine (live12_any _).mono ?_
    rintro ex u2 ⟨rfl, hu2⟩
    have HF2 := hideG (HB.out.trans (hu2.mono HB.out.size))
    clear hu2
    go_wp2_with fail
    go_ret
    exact ⟨rfl, HF2.out⟩
  · rw [hs] at HSM
    obtain ⟨hS, hl, htl, hl4⟩ := small_facts hs
    have HL4 := hideG hl4
    clear hl4
    have HS := hideG hS
    have HL := hideG hl
    have h4l : V.top.length ≤ 1000 := hl.2.2.2
    have h2l : V.modal.length ≤ 500 := hl.2.1
    clear hs hS hl
    go_enter Tryz.func17, Tryz.ntmps17
    go_wp2_with fail
    rw [HW0.out]
    clear HW0
    refine (HSM.out).mono ?_
    rintro ex u3 ⟨rfl, hu3⟩
    have HBn := hideG (HB.out.trans (hu3.mono HB.out.size))
    have BXn := hideG (BX.out.below hu3)
    have HVn := hideG (HV.out.below hu3)
    clear hu3 HB BX HV
    have HB := HBn
    have BX := BXn
    have HV := HVn
    clear HBn BXn HVn
    clear HSM
    clear p0 p1 p2 p3 p4 plt
    have p0 := BX.out.c0
    have p1 := BX.out.c1
    have p2 := BX.out.c2
    have p3 := BX.out.c3
    have p4 := BX.out.c4
    have plt := BX.out.lt
    go_wp2_with fail
    clear p0 p1 p2 p3 p4 plt
    have HC := hideG (refCheck10_any _ _ _ _ _ V _ HV.out HS.out ⟨by have := HL.out.1; omega, by omega, by have := HL.out.2.2.1; omega, h4l⟩)
    by_cases hck : checkV V = 0
    · have HMAY := hideG (check_iff.mp hck).1
      have HCK := hideG hck
      have HDM := hideG (fun (h : dlgE V n = 0) => dlg_all hck HS.out HL4.out h)
      have HPOS := hideG (mayB_pos HMAY.out).1
      rw [hck] at HC
      refine (HC.out).mono ?_
      rintro ex u4 ⟨rfl, hu4⟩
      have HBn := hideG (HB.out.trans (hu4.mono HB.out.size))
      have BXn := hideG (BX.out.below hu4)
      have HVn := hideG (HV.out.below hu4)
      clear hu4 HB BX HV
      have HB := HBn
      have BX := BXn
      have HV := HVn
      clear HBn BXn HVn
      clear HC hck HL4
      have p0 := BX.out.c0
      have p1 := BX.out.c1
      have p2 := BX.out.c2
      have p3 := BX.out.c3
      have p4 := BX.out.c4
      have plt := BX.out.lt
      go_wp2_with fail
      clear p0 p1 p2 p3 p4 plt
      refine (refHighest_any _ _ _ _ _ V _ HV.out ⟨by omega, by omega⟩).mono ?_
      rintro ex u5 ⟨rfl, hu5⟩
      have HBn := hideG (HB.out.trans (hu5.mono HB.out.size))
      have BXn := hideG (BX.out.below hu5)
      have HVn := hideG (HV.out.below hu5)
      clear hu5 HB BX HV
      have HB := HBn
      have BX := BXn
      have HV := HVn
      clear HBn BXn HVn
      by_cases hh : highV V = -1
      · have HHB := hideG (show (highV V != -1) = false by rw [hh]; rfl)
        have hhb := HHB.out
        clear hh HCK
        generalize highV V = hv at *
        have p0 := BX.out.c0
        have p1 := BX.out.c1
        have p2 := BX.out.c2
        have p3 := BX.out.c3
        have p4 := BX.out.c4
        have plt := BX.out.lt
        go_wp2_with fail
        clear p0 p1 p2 p3 p4 plt
        obtain ⟨WL, hWL⟩ : ∃ W : World, W = u5 := ⟨_, rfl⟩
        rw [← hWL] at HB BX HV ⊢
        clear hWL
        go_loopw [6] (fun i wr => i = .int .i64 0 ∧ Below WL.heap.size WL wr) (fun _ _ => 0)
        case atStart => exact ⟨rfl, Below.refl _ _⟩
        case round =>
          obtain ⟨rfl, hB⟩ := hrel
          have HBn := hideG (HB.out.trans (hB.mono HB.out.size))
          have BXn := hideG (BX.out.below hB)
          have HVn := hideG (HV.out.below hB)
          clear hB HB BX HV
          have HB := HBn
          have BX := BXn
          have HV := HVn
          clear HBn BXn HVn
          have hpos : (0 : Int) < (V.tree.length : Int) := by have := HPOS.out; omega
          have p0 := BX.out.c0
          have p1 := BX.out.c1
          have p2 := BX.out.c2
          have p3 := BX.out.c3
          have p4 := BX.out.c4
          have plt := BX.out.lt
          go_wp2_with fail
          clear p0 p1 p2 p3 p4 plt
          refine (shaped (rdlg_any _ _ _ _ _ V _ HV.out HS.out HL.out (by omega) n true) _ _ _ _ _ rfl rfl rfl rfl rfl).mono ?_
          rintro ex uD ⟨aA0, cA0, aA1, cA1, aA2, cA2, aA3, cA3, aA4, cA4, rfl, hvA, hbA⟩
          obtain ⟨XA, hXA⟩ : ∃ X, uD.alloc (.cells #[.slice aA0 (dlgW V n true).tree.length cA0, .slice aA1 (dlgW V n true).op.length cA1, .slice aA2 (dlgW V n true).modal.length cA2, .slice aA3 (dlgW V n true).pops.length cA3, .slice aA4 (dlgW V n true).top.length cA4] 27) = X := ⟨_, rfl⟩
          have hzXA : Below uD.heap.size uD XA := by rw [← hXA]; exact alB _ _
          have hstA := hbA.trans (hzXA.mono hbA.size)
          have HBn := hideG (HB.out.trans (hstA.mono HB.out.size))
          have BXn := hideG (BX.out.below hstA)
          have HVn := hideG (HV.out.below hstA)
          have BD := hideG (show BoxV XA uD.heap.size (.slice aA0 (dlgW V n true).tree.length cA0) (.slice aA1 (dlgW V n true).op.length cA1) (.slice aA2 (dlgW V n true).modal.length cA2) (.slice aA3 (dlgW V n true).pops.length cA3) (.slice aA4 (dlgW V n true).top.length cA4) by rw [← hXA]; exact BoxV.new _ _ _ _ _ _ _)
          have HD := hideG (hvA.below hzXA)
          have HEX := hideG hXA
          clear hXA hvA hzXA hstA hbA HB BX HV
          have HB := HBn
          have BX := BXn
          have HV := HVn
          clear HBn BXn HVn
          by_cases he : dlgE V n = 0
          · have hce : ((dlgE V n : Int) != 0) = false := by rw [he]; rfl
            obtain ⟨hSD, hlD, hcD, htD, hhD, a, rfl, haL⟩ := HDM.out he
            have HSD := hideG hSD
            have HLD := hideG hlD
            have HNB := hideG (show (knownV (dlgW V (a : Int) true) (a : Int) && blockedB (highV (dlgW V (a : Int) true)) (upI6 (dlgW V (a : Int) true).tree (a : Int).toNat)) = false from blk_below hcD (by rw [htD]; exact haL) (by rw [hhD, htD]; exact self_mem HMAY.out haL))
            have H56N := hideG (fun (U : World) (h : ViewAt U (.slice aA0 (dlgW V (a : Int) true).tree.length cA0) (.slice aA1 (dlgW V (a : Int) true).op.length cA1) (.slice aA2 (dlgW V (a : Int) true).modal.length cA2) (.slice aA3 (dlgW V (a : Int) true).pops.length cA3) (.slice aA4 (dlgW V (a : Int) true).top.length cA4) (dlgW V (a : Int) true)) => iblocked_any _ _ _ _ _ (dlgW V (a : Int) true) (a : Int) U h HSD.out HLD.out)
            simp only [HNB.out] at H56N
            clear HDM he hSD hlD hcD htD hhD haL HNB HSD HLD HMAY HS HL
            generalize dlgE V (a : Int) = er at *
            go_upto_region 10 with fail
            rw [HEX.out]
            have hhb := HHB.out
            go_wp2_with fail
            refine wp_region_inv (fun l ac U => ∃ z : Nat → Value, ac = { tmps := #[Value.agg #[Value.slice ta V.tree.length tc, Value.slice oa V.op.length oc, Value.slice ma V.modal.length mc, Value.slice pa V.pops.length pc, Value.slice qa V.top.length qc], Value.int IntKind.i64 ((a : Nat) : Int), Value.pointer (some { block := w.heap.size, off := 0 }), undef, u4, Value.int IntKind.i64 hv, Value.int IntKind.i64 0, Value.pointer (some { block := uD.heap.size, off := 0 }), Value.int IntKind.i64 er, Value.agg #[Value.slice ta V.tree.length tc, Value.slice oa V.op.length oc, Value.slice ma V.modal.length mc, Value.slice pa V.pops.length pc, Value.slice qa V.top.length qc], Value.bool true, Value.bool false, Value.bool false, Value.agg #[Value.slice ta V.tree.length tc, Value.slice oa V.op.length oc, Value.slice ma V.modal.length mc, Value.slice pa V.pops.length pc, Value.slice qa V.top.length qc], Value.int IntKind.i64 0, Value.bool false, Value.bool false, undef, Value.agg #[Value.slice ta V.tree.length tc, Value.slice oa V.op.length oc, Value.slice ma V.modal.length mc, Value.slice pa V.pops.length pc, Value.slice qa V.top.length qc], Value.int IntKind.i64 hv, Value.int IntKind.i64 0, Value.pointer (some { block := w.heap.size, off := 0 }), Value.slice ta V.tree.length tc, Value.int IntKind.i64 ((V.tree.length : Nat) : Int), Value.bool true, Value.bool true, Value.int IntKind.i64 hv, Value.bool false, Value.bool false, u29, u30, u31, u32, u33, u34, u35, u36, u37, u38, u39, u40, Value.tuple #[Value.agg #[Value.slice aA0 (dlgW V (((a : Nat) : Int)) true).tree.length cA0, Value.slice aA1 (dlgW V (((a : Nat) : Int)) true).op.length cA1, Value.slice aA2 (dlgW V (((a : Nat) : Int)) true).modal.length cA2, Value.slice aA3 (dlgW V (((a : Nat) : Int)) true).pops.length cA3, Value.slice aA4 (dlgW V (((a : Nat) : Int)) true).top.length cA4], Value.int IntKind.i64 er], Value.agg #[Value.slice ta V.tree.length tc, Value.slice oa V.op.length oc, Value.slice ma V.modal.length mc, Value.slice pa V.pops.length pc, Value.slice qa V.top.length qc], Value.int IntKind.i64 ((a : Nat) : Int), Value.tuple #[Value.agg #[Value.slice aA0 (dlgW V (((a : Nat) : Int)) true).tree.length cA0, Value.slice aA1 (dlgW V (((a : Nat) : Int)) true).op.length cA1, Value.slice aA2 (dlgW V (((a : Nat) : Int)) true).modal.length cA2, Value.slice aA3 (dlgW V (((a : Nat) : Int)) true).pops.length cA3, Value.slice aA4 (dlgW V (((a : Nat) : Int)) true).top.length cA4], Value.int IntKind.i64 er], Value.agg #[Value.slice aA0 (dlgW V (((a : Nat) : Int)) true).tree.length cA0, Value.slice aA1 (dlgW V (((a : Nat) : Int)) true).op.length cA1, Value.slice aA2 (dlgW V (((a : Nat) : Int)) true).modal.length cA2, Value.slice aA3 (dlgW V (((a : Nat) : Int)) true).pops.length cA3, Value.slice aA4 (dlgW V (((a : Nat) : Int)) true).top.length cA4], Value.int IntKind.i64 er, Value.int IntKind.i64 er, Value.bool false, undef, z 0, z 1, z 2, z 3, z 4, z 5, z 6, z 7, z 8, z 9, z 10, z 11, z 12, undef, undef, undef, undef, undef, undef, undef], defers := [] } ∧ Hid (TabZ 13 (FixP [Value.int IntKind.i64 hv, Value.bool false, Value.bool false, undef, undef, undef, undef, undef, undef, undef, undef, undef, Value.bool false]) l z U) ∧ Hid (Below XA.heap.size XA U)) (by kernel_rfl) (by kernel_rfl) ?_ ?_ ?_
            · exact ⟨fun _ => undef, rfl, hideG TabZ.start, hideG ((Below.refl _ _).drew)⟩
            · intro i l ac U hi hInv
              obtain ⟨z, ha, hz, hst⟩ := hInv
              subst ha
              obtain ⟨hun, o, ho, _⟩ := mem_ready.mp hi
              have hlt8 := (Array.getElem?_eq_some_iff.mp ho).1
              clear ho hun
              simp only [List.size_toArray, List.length_cons, List.length_nil, Nat.reduceAdd] at hlt8
              obtain rfl | rfl | rfl | rfl | rfl | rfl | rfl | rfl | rfl | rfl | rfl | rfl | rfl : i = 0 ∨ i = 1 ∨ i = 2 ∨ i = 3 ∨ i = 4 ∨ i = 5 ∨ i = 6 ∨ i = 7 ∨ i = 8 ∨ i = 9 ∨ i = 10 ∨ i = 11 ∨ i = 12 := by omega
              · refine inv_step (by rfl) (fun K hK => ?_)
                go_simp
                refine hK.out _ _ ⟨upZ z 0 (Value.int IntKind.i64 hv), rfl, hideG (TabZ.step hz.out rfl), hst⟩
              · have e0 : z 0 = Value.int IntKind.i64 hv := hz.out 0 (by decide) (dep_of hi (d := 0) (by kernel_rfl))
                rw [e0]
                refine inv_step (by rfl) (fun K hK => ?_)
                go_simp
                try rw [hhb]
                refine hK.out _ _ ⟨upZ (upZ z 0 (Value.int IntKind.i64 hv)) 1 (Value.bool false), rfl, hideG (TabZ.step (TabZ.fill hz.out e0) rfl), hst⟩
              · have e1 : z 1 = Value.bool false := hz.out 1 (by decide) (dep_of hi (d := 1) (by kernel_rfl))
                rw [e1]
                refine inv_step (by rfl) (fun K hK => ?_)
                go_simp
                refine hK.out _ _ ⟨upZ (upZ z 1 (Value.bool false)) 2 (Value.bool false), rfl, hideG (TabZ.step (TabZ.fill hz.out e1) rfl), hst⟩
              · have e2 : z 2 = Value.bool false := hz.out 2 (by decide) (dep_of hi (d := 2) (by kernel_rfl))
                rw [e2]
                refine inv_skip (by rfl) (by rfl) ?_
                simp only [Act.put, List.setIfInBounds_toArray]
                exact ⟨upZ (upZ z 2 (Value.bool false)) 3 (undef), rfl, hideG (TabZ.step (TabZ.fill hz.out e2) rfl), hst⟩
              · have e2 : z 2 = Value.bool false := hz.out 2 (by decide) (dep_of hi (d := 2) (by kernel_rfl))
                rw [e2]
                refine inv_skip (by rfl) (by rfl) ?_
                simp only [Act.put, List.setIfInBounds_toArray]
                exact ⟨upZ (upZ z 2 (Value.bool false)) 4 (undef), rfl, hideG (TabZ.step (TabZ.fill hz.out e2) rfl), hst⟩
              · have e3 : z 3 = undef := hz.out 3 (by decide) (dep_of hi (d := 3) (by kernel_rfl))
                have e4 : z 4 = undef := hz.out 4 (by decide) (dep_of hi (d := 4) (by kernel_rfl))
                have e2 : z 2 = Value.bool false := hz.out 2 (by decide) (dep_of hi (d := 2) (by kernel_rfl))
                rw [e3, e4, e2]
                refine inv_skip (by rfl) (by rfl) ?_
                simp only [Act.put, List.setIfInBounds_toArray]
                exact ⟨upZ (upZ (upZ (upZ z 3 (undef)) 4 (undef)) 2 (Value.bool false)) 5 (undef), rfl, hideG (TabZ.step (TabZ.fill (TabZ.fill (TabZ.fill hz.out e3) e4) e2) rfl), hst⟩
              · have e2 : z 2 = Value.bool false := hz.out 2 (by decide) (dep_of hi (d := 2) (by kernel_rfl))
                rw [e2]
                refine inv_skip (by rfl) (by rfl) ?_
                simp only [Act.put, List.setIfInBounds_toArray]
                exact ⟨upZ (upZ z 2 (Value.bool false)) 6 (undef), rfl, hideG (TabZ.step (TabZ.fill hz.out e2) rfl), hst⟩
              · have e6 : z 6 = undef := hz.out 6 (by decide) (dep_of hi (d := 6) (by kernel_rfl))
                have e2 : z 2 = Value.bool false := hz.out 2 (by decide) (dep_of hi (d := 2) (by kernel_rfl))
                rw [e6, e2]
                refine inv_skip (by rfl) (by rfl) ?_
                simp only [Act.put, List.setIfInBounds_toArray]
                exact ⟨upZ (upZ (upZ z 6 (undef)) 2 (Value.bool false)) 7 (undef), rfl, hideG (TabZ.step (TabZ.fill (TabZ.fill hz.out e6) e2) rfl), hst⟩
              · have e2 : z 2 = Value.bool false := hz.out 2 (by decide) (dep_of hi (d := 2) (by kernel_rfl))
                rw [e2]
                refine inv_skip (by rfl) (by rfl) ?_
                simp only [Act.put, List.setIfInBounds_toArray]
                exact ⟨upZ (upZ z 2 (Value.bool false)) 8 (undef), rfl, hideG (TabZ.step (TabZ.fill hz.out e2) rfl), hst⟩
              · have e2 : z 2 = Value.bool false := hz.out 2 (by decide) (dep_of hi (d := 2) (by kernel_rfl))
                rw [e2]
                refine inv_skip (by rfl) (by rfl) ?_
                simp only [Act.put, List.setIfInBounds_toArray]
                exact ⟨upZ (upZ z 2 (Value.bool false)) 9 (undef), rfl, hideG (TabZ.step (TabZ.fill hz.out e2) rfl), hst⟩
              · have e7 : z 7 = undef := hz.out 7 (by decide) (dep_of hi (d := 7) (by kernel_rfl))
                have e8 : z 8 = undef := hz.out 8 (by decide) (dep_of hi (d := 8) (by kernel_rfl))
                have e9 : z 9 = undef := hz.out 9 (by decide) (dep_of hi (d := 9) (by kernel_rfl))
                have e2 : z 2 = Value.bool false := hz.out 2 (by decide) (dep_of hi (d := 2) (by kernel_rfl))
                rw [e7, e8, e9, e2]
                refine inv_skip (by rfl) (by rfl) ?_
                simp only [Act.put, List.setIfInBounds_toArray]
                exact ⟨upZ (upZ (upZ (upZ (upZ z 7 (undef)) 8 (undef)) 9 (undef)) 2 (Value.bool false)) 10 (undef), rfl, hideG (TabZ.step (TabZ.fill (TabZ.fill (TabZ.fill (TabZ.fill hz.out e7) e8) e9) e2) rfl), hst⟩
              · have e5 : z 5 = undef := hz.out 5 (by decide) (dep_of hi (d := 5) (by kernel_rfl))
                have e10 : z 10 = undef := hz.out 10 (by decide) (dep_of hi (d := 10) (by kernel_rfl))
                have e2 : z 2 = Value.bool false := hz.out 2 (by decide) (dep_of hi (d := 2) (by kernel_rfl))
                rw [e5, e10, e2]
                refine inv_skip (by rfl) (by rfl) ?_
                simp only [Act.put, List.setIfInBounds_toArray]
                exact ⟨upZ (upZ (upZ (upZ z 5 (undef)) 10 (undef)) 2 (Value.bool false)) 11 (undef), rfl, hideG (TabZ.step (TabZ.fill (TabZ.fill (TabZ.fill hz.out e5) e10) e2) rfl), hst⟩
              · have e2 : z 2 = Value.bool false := hz.out 2 (by decide) (dep_of hi (d := 2) (by kernel_rfl))
                have e11 : z 11 = undef := hz.out 11 (by decide) (dep_of hi (d := 11) (by kernel_rfl))
                rw [e2, e11]
                refine inv_step (by rfl) (fun K hK => ?_)
                go_simp
                refine hK.out _ _ ⟨upZ (upZ (upZ z 2 (Value.bool false)) 11 (undef)) 12 (Value.bool false), rfl, hideG (TabZ.step (TabZ.fill (TabZ.fill hz.out e2) e11) rfl), hst⟩
            · intro l ac U hall hInv
              obtain ⟨z, ha, hz, hst⟩ := hInv
              subst ha
              have e12 : z 12 = Value.bool false := hz.out 12 (by decide) (hall 12 (by decide))
              rw [e12]
              have HBn := hideG (HB.out.trans (hst.out.mono HB.out.size))
              have BDn := hideG (BD.out.below hst.out)
              have HDn := hideG (HD.out.below hst.out)
              clear hz hst hall HB BD HD
              have HB := HBn
              have d0 := BDn.out.c0
              have d1 := BDn.out.c1
              have d2 := BDn.out.c2
              have d3 := BDn.out.c3
              have d4 := BDn.out.c4
              have dlt := BDn.out.lt
              clear HBn BX HV
              go_wp2_with fail
              refine (H56N.out U HDn.out).mono ?_
              rintro ex uE ⟨rfl, huE⟩
              have HBn := hideG (HB.out.trans (huE.mono HB.out.size))
              clear huE HB
              have HB := HBn
              clear HBn d0 d1 d2 d3 d4 dlt
              go_wp2_with fail
              refine (live12_any _).mono ?_
              rintro ex u7 ⟨rfl, hu7⟩
              have HF7 := hideG (HB.out.trans (hu7.mono HB.out.size))
              clear hu7
              go_wp2_with fail
              go_ret
              exact ⟨rfl, HF7.out⟩
          · have hce : ((dlgE V n : Int) != 0) = true := by rw [bne_iff_ne]; exact he
            clear HDM he
            generalize dlgE V n = er at *
            go_upto_region 10 with fail
            rw [HEX.out]
            go_wp2_with fail
            refine (live12_any _).mono ?_
            rintro ex u6 ⟨rfl, hu6⟩
            have HF6 := hideG (HB.out.trans (hu6.mono HB.out.size))
            clear hu6
            go_wp2_with fail
            go_ret
            exact ⟨rfl, HF6.out⟩
      · have HHB0 := hideG (show (highV V != -1) = true by rw [bne_iff_ne]; exact hh)
        obtain ⟨q, hq, hql, hq0⟩ := high_node HCK.out hh
        have HQL := hideG (And.intro hql hq0)
        have HBB := hideG (fun (k : Nat) (hk : k < V.tree.length) (h : fabvB V.tree (highV V) k = true) (U : World) (hv : ViewAt U (.slice ta V.tree.length tc) (.slice oa V.op.length oc) (.slice ma V.modal.length mc) (.slice pa V.pops.length pc) (.slice qa V.top.length qc) V) => iblocked_any _ _ _ _ _ V (k : Int) U hv HS.out HL.out)
        have HBF := hideG (fun (k : Nat) (hk : k < V.tree.length) (h : fabvB V.tree (highV V) k = true) => blk_below HCK.out hk h)
        clear hh hql hq0 HCK
        generalize highV V = hv at *
        subst hq
        have HHB := HHB0
        clear HHB0
        have hhb := HHB.out
        have p0 := BX.out.c0
        have p1 := BX.out.c1
        have p2 := BX.out.c2
        have p3 := BX.out.c3
        have p4 := BX.out.c4
        have plt := BX.out.lt
        go_wp2_with fail
        clear p0 p1 p2 p3 p4 plt
        obtain ⟨WL, hWL⟩ : ∃ W : World, W = u5 := ⟨_, rfl⟩
        rw [← hWL] at HB BX HV ⊢
        clear hWL
        go_loopw [6] (fun i wr => ∃ k : Nat, k ≤ V.tree.length ∧ i = .int .i64 (k : Int) ∧ Below WL.heap.size WL wr) (fun i _ => V.tree.length - (intOf i).toNat)
        case atStart => exact ⟨0, Nat.zero_le _, rfl, Below.refl _ _⟩
        case round =>
          obtain ⟨k, hk, rfl, hB⟩ := hrel
          have HRB := hideG hB
          have HBn := hideG (HB.out.trans (hB.mono HB.out.size))
          have BXn := hideG (BX.out.below hB)
          have HVn := hideG (HV.out.below hB)
          clear hB HB BX HV
          have HB := HBn
          have BX := BXn
          have HV := HVn
          clear HBn BXn HVn
          by_cases hlt : k < V.tree.length
          · have HLT := hideG hlt
            have p0 := BX.out.c0
            have p1 := BX.out.c1
            have p2 := BX.out.c2
            have p3 := BX.out.c3
            have p4 := BX.out.c4
            have plt := BX.out.lt
            go_wp2_with fail
            clear p0 p1 p2 p3 p4 plt
            cases hf : fabvB V.tree (q : Int) k
            · refine (refAbove6_any V.tree HMAY.out HS.out _ (q : Int) k HLT.out _ HV.out.tree).mono ?_
              rintro ex uA ⟨rfl, huA⟩
              rw [hf]
              have HRN := hideG (HRB.out.trans (huA.mono HRB.out.size))
              clear huA hf
              go_wp2_with fail
              go_roundw
              case rel => exact ⟨k + 1, by omega, by go_num, HRN.out⟩
              case measure => simp [intOf]; omega
            · refine (refAbove6_any V.tree HMAY.out HS.out _ (q : Int) k HLT.out _ HV.out.tree).mono ?_
              rintro ex uA ⟨rfl, huA⟩
              rw [hf]
              have HRN := hideG (HRB.out.trans (huA.mono HRB.out.size))
              have BXn := hideG (BX.out.below huA)
              have HVn := hideG (HV.out.below huA)
              clear huA BX HV
              have BX := BXn
              have HV := HVn
              clear BXn HVn
              have H5 := hideG (HBB.out k hlt hf _ HV.out)
              rw [HBF.out k hlt hf] at H5
              clear hf
              have p0 := BX.out.c0
              have p1 := BX.out.c1
              have p2 := BX.out.c2
              have p3 := BX.out.c3
              have p4 := BX.out.c4
              have plt := BX.out.lt
              go_wp2_with fail
              clear p0 p1 p2 p3 p4 plt
              refine H5.out.mono ?_
              rintro ex uB ⟨rfl, huB⟩
              have HRM := hideG (HRN.out.trans (huB.mono HRN.out.size))
              clear huB
              go_wp2_with fail
              go_roundw
              case rel => exact ⟨k + 1, by omega, by go_num, HRM.out⟩
              case measure => simp [intOf]; omega
          · have hke : k = V.tree.length := by omega
            subst hke
            have hmm : ¬ ((V.tree.length : Int) < (V.tree.length : Int)) := by omega
            clear HRB HBB HBF
            have p0 := BX.out.c0
            have p1 := BX.out.c1
            have p2 := BX.out.c2
            have p3 := BX.out.c3
            have p4 := BX.out.c4
            have plt := BX.out.lt
            go_wp2_with fail
            clear p0 p1 p2 p3 p4 plt
            refine (shaped (rdlg_any _ _ _ _ _ V _ HV.out HS.out HL.out (by omega) n true) _ _ _ _ _ rfl rfl rfl rfl rfl).mono ?_
            rintro ex uD ⟨aA0, cA0, aA1, cA1, aA2, cA2, aA3, cA3, aA4, cA4, rfl, hvA, hbA⟩
            obtain ⟨XA, hXA⟩ : ∃ X, uD.alloc (.cells #[.slice aA0 (dlgW V n true).tree.length cA0, .slice aA1 (dlgW V n true).op.length cA1, .slice aA2 (dlgW V n true).modal.length cA2, .slice aA3 (dlgW V n true).pops.length cA3, .slice aA4 (dlgW V n true).top.length cA4] 27) = X := ⟨_, rfl⟩
            have hzXA : Below uD.heap.size uD XA := by rw [← hXA]; exact alB _ _
            have hstA := hbA.trans (hzXA.mono hbA.size)
            have HBn := hideG (HB.out.trans (hstA.mono HB.out.size))
            have BXn := hideG (BX.out.below hstA)
            have HVn := hideG (HV.out.below hstA)
            have BD := hideG (show BoxV XA uD.heap.size (.slice aA0 (dlgW V n true).tree.length cA0) (.slice aA1 (dlgW V n true).op.length cA1) (.slice aA2 (dlgW V n true).modal.length cA2) (.slice aA3 (dlgW V n true).pops.length cA3) (.slice aA4 (dlgW V n true).top.length cA4) by rw [← hXA]; exact BoxV.new _ _ _ _ _ _ _)
            have HD := hideG (hvA.below hzXA)
            have HEX := hideG hXA
            clear hXA hvA hzXA hstA hbA HB BX HV
            have HB := HBn
            have BX := BXn
            have HV := HVn
            clear HBn BXn HVn
            by_cases he : dlgE V n = 0
            · have hce : ((dlgE V n : Int) != 0) = false := by rw [he]; rfl
              obtain ⟨hSD, hlD, hcD, htD, hhD, a, rfl, haL⟩ := HDM.out he
              have HSD := hideG hSD
              have HLD := hideG hlD
              have HNB := hideG (show (knownV (dlgW V (a : Int) true) (a : Int) && blockedB (highV (dlgW V (a : Int) true)) (upI6 (dlgW V (a : Int) true).tree (a : Int).toNat)) = false from blk_below hcD (by rw [htD]; exact haL) (by rw [hhD, htD]; exact self_mem HMAY.out haL))
              have HQB := hideG (show (knownV (dlgW V (a : Int) true) (q : Int) && blockedB (highV (dlgW V (a : Int) true)) (upI6 (dlgW V (a : Int) true).tree (q : Int).toNat)) = !fabvB V.tree (a : Int) q by rw [blk_other hcD (by rw [htD]; exact HQL.out.1) HQL.out.2 hhD, htD])
              have H56 := hideG (fun (U : World) (h : ViewAt U (.slice aA0 (dlgW V (a : Int) true).tree.length cA0) (.slice aA1 (dlgW V (a : Int) true).op.length cA1) (.slice aA2 (dlgW V (a : Int) true).modal.length cA2) (.slice aA3 (dlgW V (a : Int) true).pops.length cA3) (.slice aA4 (dlgW V (a : Int) true).top.length cA4) (dlgW V (a : Int) true)) => iblocked_any _ _ _ _ _ (dlgW V (a : Int) true) (q : Int) U h HSD.out HLD.out)
              simp only [HQB.out] at H56
              have H53 := hideG (fun (U : World) (h : TreeAt U (.slice ta V.tree.length tc) V.tree) => refAbove6_any V.tree HMAY.out HS.out _ (a : Int) q HQL.out.1 U h)
              have H56N := hideG (fun (U : World) (h : ViewAt U (.slice aA0 (dlgW V (a : Int) true).tree.length cA0) (.slice aA1 (dlgW V (a : Int) true).op.length cA1) (.slice aA2 (dlgW V (a : Int) true).modal.length cA2) (.slice aA3 (dlgW V (a : Int) true).pops.length cA3) (.slice aA4 (dlgW V (a : Int) true).top.length cA4) (dlgW V (a : Int) true)) => iblocked_any _ _ _ _ _ (dlgW V (a : Int) true) (a : Int) U h HSD.out HLD.out)
              simp only [HNB.out] at H56N
              clear HDM he hSD hlD hcD htD hhD haL HNB HSD HLD HMAY HS HL HQB
              generalize dlgE V (a : Int) = er at *
              go_upto_region 10 with fail
              rw [HEX.out]
              generalize fabvB V.tree (a : Int) q = fq at *
              cases fq
              · have hhb := HHB.out
                go_wp2_with fail
                refine wp_region_inv (fun l ac U => ∃ z : Nat → Value, ac = { tmps := #[Value.agg #[Value.slice ta V.tree.length tc, Value.slice oa V.op.length oc, Value.slice ma V.modal.length mc, Value.slice pa V.pops.length pc, Value.slice qa V.top.length qc], Value.int IntKind.i64 ((a : Nat) : Int), Value.pointer (some { block := w.heap.size, off := 0 }), undef, u4, Value.int IntKind.i64 ((q : Nat) : Int), Value.int IntKind.i64 ((V.tree.length : Nat) : Int), Value.pointer (some { block := uD.heap.size, off := 0 }), Value.int IntKind.i64 er, Value.agg #[Value.slice ta V.tree.length tc, Value.slice oa V.op.length oc, Value.slice ma V.modal.length mc, Value.slice pa V.pops.length pc, Value.slice qa V.top.length qc], Value.bool true, Value.bool false, Value.bool false, Value.agg #[Value.slice ta V.tree.length tc, Value.slice oa V.op.length oc, Value.slice ma V.modal.length mc, Value.slice pa V.pops.length pc, Value.slice qa V.top.length qc], Value.int IntKind.i64 0, Value.bool false, Value.bool false, undef, Value.agg #[Value.slice ta V.tree.length tc, Value.slice oa V.op.length oc, Value.slice ma V.modal.length mc, Value.slice pa V.pops.length pc, Value.slice qa V.top.length qc], Value.int IntKind.i64 ((q : Nat) : Int), Value.int IntKind.i64 ((V.tree.length : Nat) : Int), Value.pointer (some { block := w.heap.size, off := 0 }), Value.slice ta V.tree.length tc, Value.int IntKind.i64 ((V.tree.length : Nat) : Int), Value.bool false, Value.bool false, undef, undef, Value.bool false, u29, u30, u31, u32, u33, u34, u35, u36, u37, u38, u39, u40, Value.tuple #[Value.agg #[Value.slice aA0 (dlgW V (((a : Nat) : Int)) true).tree.length cA0, Value.slice aA1 (dlgW V (((a : Nat) : Int)) true).op.length cA1, Value.slice aA2 (dlgW V (((a : Nat) : Int)) true).modal.length cA2, Value.slice aA3 (dlgW V (((a : Nat) : Int)) true).pops.length cA3, Value.slice aA4 (dlgW V (((a : Nat) : Int)) true).top.length cA4], Value.int IntKind.i64 er], Value.agg #[Value.slice ta V.tree.length tc, Value.slice oa V.op.length oc, Value.slice ma V.modal.length mc, Value.slice pa V.pops.length pc, Value.slice qa V.top.length qc], Value.int IntKind.i64 ((a : Nat) : Int), Value.tuple #[Value.agg #[Value.slice aA0 (dlgW V (((a : Nat) : Int)) true).tree.length cA0, Value.slice aA1 (dlgW V (((a : Nat) : Int)) true).op.length cA1, Value.slice aA2 (dlgW V (((a : Nat) : Int)) true).modal.length cA2, Value.slice aA3 (dlgW V (((a : Nat) : Int)) true).pops.length cA3, Value.slice aA4 (dlgW V (((a : Nat) : Int)) true).top.length cA4], Value.int IntKind.i64 er], Value.agg #[Value.slice aA0 (dlgW V (((a : Nat) : Int)) true).tree.length cA0, Value.slice aA1 (dlgW V (((a : Nat) : Int)) true).op.length cA1, Value.slice aA2 (dlgW V (((a : Nat) : Int)) true).modal.length cA2, Value.slice aA3 (dlgW V (((a : Nat) : Int)) true).pops.length cA3, Value.slice aA4 (dlgW V (((a : Nat) : Int)) true).top.length cA4], Value.int IntKind.i64 er, Value.int IntKind.i64 er, Value.bool false, undef, z 0, z 1, z 2, z 3, z 4, z 5, z 6, z 7, z 8, z 9, z 10, z 11, z 12, undef, undef, undef, undef, undef, undef, undef], defers := [] } ∧ Hid (TabZ 13 (FixP [Value.int IntKind.i64 ((q : Nat) : Int), Value.bool true, Value.bool true, Value.agg #[.slice aA0 (dlgW V (a : Int) true).tree.length cA0, .slice aA1 (dlgW V (a : Int) true).op.length cA1, .slice aA2 (dlgW V (a : Int) true).modal.length cA2, .slice aA3 (dlgW V (a : Int) true).pops.length cA3, .slice aA4 (dlgW V (a : Int) true).top.length cA4], Value.int IntKind.i64 ((q : Nat) : Int), Value.bool true, Value.pointer (some { block := w.heap.size, off := 0 }), Value.slice ta V.tree.length tc, Value.int IntKind.i64 ((a : Nat) : Int), Value.int IntKind.i64 ((q : Nat) : Int), Value.bool false, Value.bool false, Value.bool false]) l z U) ∧ Hid (Below XA.heap.size XA U)) (by kernel_rfl) (by kernel_rfl) ?_ ?_ ?_
                · exact ⟨fun _ => undef, rfl, hideG TabZ.start, hideG ((Below.refl _ _).drew)⟩
                · intro i l ac U hi hInv
                  obtain ⟨z, ha, hz, hst⟩ := hInv
                  subst ha
                  obtain ⟨hun, o, ho, _⟩ := mem_ready.mp hi
                  have hlt8 := (Array.getElem?_eq_some_iff.mp ho).1
                  clear ho hun
                  simp only [List.size_toArray, List.length_cons, List.length_nil, Nat.reduceAdd] at hlt8
                  obtain rfl | rfl | rfl | rfl | rfl | rfl | rfl | rfl | rfl | rfl | rfl | rfl | rfl : i = 0 ∨ i = 1 ∨ i = 2 ∨ i = 3 ∨ i = 4 ∨ i = 5 ∨ i = 6 ∨ i = 7 ∨ i = 8 ∨ i = 9 ∨ i = 10 ∨ i = 11 ∨ i = 12 := by omega
                  · refine inv_step (by rfl) (fun K hK => ?_)
                    go_simp
                    refine hK.out _ _ ⟨upZ z 0 (Value.int IntKind.i64 ((q : Nat) : Int)), rfl, hideG (TabZ.step hz.out rfl), hst⟩
                  · have e0 : z 0 = Value.int IntKind.i64 ((q : Nat) : Int) := hz.out 0 (by decide) (dep_of hi (d := 0) (by kernel_rfl))
                    rw [e0]
                    refine inv_step (by rfl) (fun K hK => ?_)
                    go_simp
                    try rw [hhb]
                    refine hK.out _ _ ⟨upZ (upZ z 0 (Value.int IntKind.i64 ((q : Nat) : Int))) 1 (Value.bool true), rfl, hideG (TabZ.step (TabZ.fill hz.out e0) rfl), hst⟩
                  · have e1 : z 1 = Value.bool true := hz.out 1 (by decide) (dep_of hi (d := 1) (by kernel_rfl))
                    rw [e1]
                    refine inv_step (by rfl) (fun K hK => ?_)
                    go_simp
                    refine hK.out _ _ ⟨upZ (upZ z 1 (Value.bool true)) 2 (Value.bool true), rfl, hideG (TabZ.step (TabZ.fill hz.out e1) rfl), hst⟩
                  · have e2 : z 2 = Value.bool true := hz.out 2 (by decide) (dep_of hi (d := 2) (by kernel_rfl))
                    have BU := BD.out.below hst.out
                    have p0 := BU.c0
                    have p1 := BU.c1
                    have p2 := BU.c2
                    have p3 := BU.c3
                    have p4 := BU.c4
                    have plt := BU.lt
                    rw [e2]
                    refine inv_step (by rfl) (fun K hK => ?_)
                    go_simp
                    refine hK.out _ _ ⟨upZ (upZ z 2 (Value.bool true)) 3 (Value.agg #[.slice aA0 (dlgW V (a : Int) true).tree.length cA0, .slice aA1 (dlgW V (a : Int) true).op.length cA1, .slice aA2 (dlgW V (a : Int) true).modal.length cA2, .slice aA3 (dlgW V (a : Int) true).pops.length cA3, .slice aA4 (dlgW V (a : Int) true).top.length cA4]), rfl, hideG (TabZ.step (TabZ.fill hz.out e2) rfl), hst⟩
                  · have e2 : z 2 = Value.bool true := hz.out 2 (by decide) (dep_of hi (d := 2) (by kernel_rfl))
                    rw [e2]
                    refine inv_step (by rfl) (fun K hK => ?_)
                    go_simp
                    refine hK.out _ _ ⟨upZ (upZ z 2 (Value.bool true)) 4 (Value.int IntKind.i64 ((q : Nat) : Int)), rfl, hideG (TabZ.step (TabZ.fill hz.out e2) rfl), hst⟩
                  · have e3 : z 3 = Value.agg #[.slice aA0 (dlgW V (a : Int) true).tree.length cA0, .slice aA1 (dlgW V (a : Int) true).op.length cA1, .slice aA2 (dlgW V (a : Int) true).modal.length cA2, .slice aA3 (dlgW V (a : Int) true).pops.length cA3, .slice aA4 (dlgW V (a : Int) true).top.length cA4] := hz.out 3 (by decide) (dep_of hi (d := 3) (by kernel_rfl))
                    have e4 : z 4 = Value.int IntKind.i64 ((q : Nat) : Int) := hz.out 4 (by decide) (dep_of hi (d := 4) (by kernel_rfl))
                    have e2 : z 2 = Value.bool true := hz.out 2 (by decide) (dep_of hi (d := 2) (by kernel_rfl))
                    rw [e3, e4, e2]
                    refine inv_step (by rfl) (fun K hK => ?_)
                    go_simp
                    go_at_call 56
                    refine Calls.mono (H56.out U (HD.out.below hst.out)) ?_
                    rintro e w9 ⟨rfl, hb9⟩
                    go_wp2_with fail
                    refine hK.out _ _ ⟨upZ (upZ (upZ (upZ z 3 (Value.agg #[.slice aA0 (dlgW V (a : Int) true).tree.length cA0, .slice aA1 (dlgW V (a : Int) true).op.length cA1, .slice aA2 (dlgW V (a : Int) true).modal.length cA2, .slice aA3 (dlgW V (a : Int) true).pops.length cA3, .slice aA4 (dlgW V (a : Int) true).top.length cA4])) 4 (Value.int IntKind.i64 ((q : Nat) : Int))) 2 (Value.bool true)) 5 (Value.bool true), rfl, hideG (TabZ.step (TabZ.mono (TabZ.fill (TabZ.fill (TabZ.fill hz.out e3) e4) e2) (fun _ _ h => h)) rfl), hideG (hst.out.trans (hb9.mono hst.out.size))⟩
                  · have e2 : z 2 = Value.bool true := hz.out 2 (by decide) (dep_of hi (d := 2) (by kernel_rfl))
                    have BU := BX.out.below hst.out
                    have p0 := BU.c0
                    have plt := BU.lt
                    rw [e2]
                    refine inv_step (by rfl) (fun K hK => ?_)
                    go_simp
                    refine hK.out _ _ ⟨upZ (upZ z 2 (Value.bool true)) 6 (Value.pointer (some { block := w.heap.size, off := 0 })), rfl, hideG (TabZ.step (TabZ.fill hz.out e2) rfl), hst⟩
                  · have e6 : z 6 = Value.pointer (some { block := w.heap.size, off := 0 }) := hz.out 6 (by decide) (dep_of hi (d := 6) (by kernel_rfl))
                    have e2 : z 2 = Value.bool true := hz.out 2 (by decide) (dep_of hi (d := 2) (by kernel_rfl))
                    have BU := BX.out.below hst.out
                    have p0 := BU.c0
                    have plt := BU.lt
                    rw [e6, e2]
                    refine inv_step (by rfl) (fun K hK => ?_)
                    go_simp
                    refine hK.out _ _ ⟨upZ (upZ (upZ z 6 (Value.pointer (some { block := w.heap.size, off := 0 }))) 2 (Value.bool true)) 7 (Value.slice ta V.tree.length tc), rfl, hideG (TabZ.step (TabZ.fill (TabZ.fill hz.out e6) e2) rfl), hst⟩
                  · have e2 : z 2 = Value.bool true := hz.out 2 (by decide) (dep_of hi (d := 2) (by kernel_rfl))
                    rw [e2]
                    refine inv_step (by rfl) (fun K hK => ?_)
                    go_simp
                    refine hK.out _ _ ⟨upZ (upZ z 2 (Value.bool true)) 8 (Value.int IntKind.i64 ((a : Nat) : Int)), rfl, hideG (TabZ.step (TabZ.fill hz.out e2) rfl), hst⟩
                  · have e2 : z 2 = Value.bool true := hz.out 2 (by decide) (dep_of hi (d := 2) (by kernel_rfl))
                    rw [e2]
                    refine inv_step (by rfl) (fun K hK => ?_)
                    go_simp
                    refine hK.out _ _ ⟨upZ (upZ z 2 (Value.bool true)) 9 (Value.int IntKind.i64 ((q : Nat) : Int)), rfl, hideG (TabZ.step (TabZ.fill hz.out e2) rfl), hst⟩
                  · have e7 : z 7 = Value.slice ta V.tree.length tc := hz.out 7 (by decide) (dep_of hi (d := 7) (by kernel_rfl))
                    have e8 : z 8 = Value.int IntKind.i64 ((a : Nat) : Int) := hz.out 8 (by decide) (dep_of hi (d := 8) (by kernel_rfl))
                    have e9 : z 9 = Value.int IntKind.i64 ((q : Nat) : Int) := hz.out 9 (by decide) (dep_of hi (d := 9) (by kernel_rfl))
                    have e2 : z 2 = Value.bool true := hz.out 2 (by decide) (dep_of hi (d := 2) (by kernel_rfl))
                    rw [e7, e8, e9, e2]
                    refine inv_step (by rfl) (fun K hK => ?_)
                    go_simp
                    go_at_call 53
                    refine Calls.mono (H53.out U (HV.out.below hst.out).tree) ?_
                    rintro e w9 ⟨rfl, hb9⟩
                    go_wp2_with fail
                    refine hK.out _ _ ⟨upZ (upZ (upZ (upZ (upZ z 7 (Value.slice ta V.tree.length tc)) 8 (Value.int IntKind.i64 ((a : Nat) : Int))) 9 (Value.int IntKind.i64 ((q : Nat) : Int))) 2 (Value.bool true)) 10 (Value.bool false), rfl, hideG (TabZ.step (TabZ.mono (TabZ.fill (TabZ.fill (TabZ.fill (TabZ.fill hz.out e7) e8) e9) e2) (fun _ _ h => h)) rfl), hideG (hst.out.trans (hb9.mono hst.out.size))⟩
                  · have e5 : z 5 = Value.bool true := hz.out 5 (by decide) (dep_of hi (d := 5) (by kernel_rfl))
                    have e10 : z 10 = Value.bool false := hz.out 10 (by decide) (dep_of hi (d := 10) (by kernel_rfl))
                    have e2 : z 2 = Value.bool true := hz.out 2 (by decide) (dep_of hi (d := 2) (by kernel_rfl))
                    rw [e5, e10, e2]
                    refine inv_step (by rfl) (fun K hK => ?_)
                    go_simp
                    refine hK.out _ _ ⟨upZ (upZ (upZ (upZ z 5 (Value.bool true)) 10 (Value.bool false)) 2 (Value.bool true)) 11 (Value.bool false), rfl, hideG (TabZ.step (TabZ.fill (TabZ.fill (TabZ.fill hz.out e5) e10) e2) rfl), hst⟩
                  · have e2 : z 2 = Value.bool true := hz.out 2 (by decide) (dep_of hi (d := 2) (by kernel_rfl))
                    have e11 : z 11 = Value.bool false := hz.out 11 (by decide) (dep_of hi (d := 11) (by kernel_rfl))
                    rw [e2, e11]
                    refine inv_step (by rfl) (fun K hK => ?_)
                    go_simp
                    refine hK.out _ _ ⟨upZ (upZ (upZ z 2 (Value.bool true)) 11 (Value.bool false)) 12 (Value.bool false), rfl, hideG (TabZ.step (TabZ.fill (TabZ.fill hz.out e2) e11) rfl), hst⟩
                · intro l ac U hall hInv
                  obtain ⟨z, ha, hz, hst⟩ := hInv
                  subst ha
                  have e12 : z 12 = Value.bool false := hz.out 12 (by decide) (hall 12 (by decide))
                  rw [e12]
                  have HBn := hideG (HB.out.trans (hst.out.mono HB.out.size))
                  have BDn := hideG (BD.out.below hst.out)
                  have HDn := hideG (HD.out.below hst.out)
                  clear hz hst hall HB BD HD
                  have HB := HBn
                  have d0 := BDn.out.c0
                  have d1 := BDn.out.c1
                  have d2 := BDn.out.c2
                  have d3 := BDn.out.c3
                  have d4 := BDn.out.c4
                  have dlt := BDn.out.lt
                  clear HBn BX HV
                  go_wp2_with fail
                  refine (H56N.out U HDn.out).mono ?_
                  rintro ex uE ⟨rfl, huE⟩
                  have HBn := hideG (HB.out.trans (huE.mono HB.out.size))
                  clear huE HB
                  have HB := HBn
                  clear HBn d0 d1 d2 d3 d4 dlt
                  go_wp2_with fail
                  refine (live12_any _).mono ?_
                  rintro ex u9 ⟨rfl, hu9⟩
                  have HF9 := hideG (HB.out.trans (hu9.mono HB.out.size))
                  clear hu9
                  go_wp2_with fail
                  go_ret
                  exact ⟨rfl, HF9.out⟩
              · have hhb := HHB.out
                go_wp2_with fail
                refine wp_region_inv (fun l ac U => ∃ z : Nat → Value, ac = { tmps := #[Value.agg #[Value.slice ta V.tree.length tc, Value.slice oa V.op.length oc, Value.slice ma V.modal.length mc, Value.slice pa V.pops.length pc, Value.slice qa V.top.length qc], Value.int IntKind.i64 ((a : Nat) : Int), Value.pointer (some { block := w.heap.size, off := 0 }), undef, u4, Value.int IntKind.i64 ((q : Nat) : Int), Value.int IntKind.i64 ((V.tree.length : Nat) : Int), Value.pointer (some { block := uD.heap.size, off := 0 }), Value.int IntKind.i64 er, Value.agg #[Value.slice ta V.tree.length tc, Value.slice oa V.op.length oc, Value.slice ma V.modal.length mc, Value.slice pa V.pops.length pc, Value.slice qa V.top.length qc], Value.bool true, Value.bool false, Value.bool false, Value.agg #[Value.slice ta V.tree.length tc, Value.slice oa V.op.length oc, Value.slice ma V.modal.length mc, Value.slice pa V.pops.length pc, Value.slice qa V.top.length qc], Value.int IntKind.i64 0, Value.bool false, Value.bool false, undef, Value.agg #[Value.slice ta V.tree.length tc, Value.slice oa V.op.length oc, Value.slice ma V.modal.length mc, Value.slice pa V.pops.length pc, Value.slice qa V.top.length qc], Value.int IntKind.i64 ((q : Nat) : Int), Value.int IntKind.i64 ((V.tree.length : Nat) : Int), Value.pointer (some { block := w.heap.size, off := 0 }), Value.slice ta V.tree.length tc, Value.int IntKind.i64 ((V.tree.length : Nat) : Int), Value.bool false, Value.bool false, undef, undef, Value.bool false, u29, u30, u31, u32, u33, u34, u35, u36, u37, u38, u39, u40, Value.tuple #[Value.agg #[Value.slice aA0 (dlgW V (((a : Nat) : Int)) true).tree.length cA0, Value.slice aA1 (dlgW V (((a : Nat) : Int)) true).op.length cA1, Value.slice aA2 (dlgW V (((a : Nat) : Int)) true).modal.length cA2, Value.slice aA3 (dlgW V (((a : Nat) : Int)) true).pops.length cA3, Value.slice aA4 (dlgW V (((a : Nat) : Int)) true).top.length cA4], Value.int IntKind.i64 er], Value.agg #[Value.slice ta V.tree.length tc, Value.slice oa V.op.length oc, Value.slice ma V.modal.length mc, Value.slice pa V.pops.length pc, Value.slice qa V.top.length qc], Value.int IntKind.i64 ((a : Nat) : Int), Value.tuple #[Value.agg #[Value.slice aA0 (dlgW V (((a : Nat) : Int)) true).tree.length cA0, Value.slice aA1 (dlgW V (((a : Nat) : Int)) true).op.length cA1, Value.slice aA2 (dlgW V (((a : Nat) : Int)) true).modal.length cA2, Value.slice aA3 (dlgW V (((a : Nat) : Int)) true).pops.length cA3, Value.slice aA4 (dlgW V (((a : Nat) : Int)) true).top.length cA4], Value.int IntKind.i64 er], Value.agg #[Value.slice aA0 (dlgW V (((a : Nat) : Int)) true).tree.length cA0, Value.slice aA1 (dlgW V (((a : Nat) : Int)) true).op.length cA1, Value.slice aA2 (dlgW V (((a : Nat) : Int)) true).modal.length cA2, Value.slice aA3 (dlgW V (((a : Nat) : Int)) true).pops.length cA3, Value.slice aA4 (dlgW V (((a : Nat) : Int)) true).top.length cA4], Value.int IntKind.i64 er, Value.int IntKind.i64 er, Value.bool false, undef, z 0, z 1, z 2, z 3, z 4, z 5, z 6, z 7, z 8, z 9, z 10, z 11, z 12, undef, undef, undef, undef, undef, undef, undef], defers := [] } ∧ Hid (TabZ 13 (FixP [Value.int IntKind.i64 ((q : Nat) : Int), Value.bool true, Value.bool true, Value.agg #[.slice aA0 (dlgW V (a : Int) true).tree.length cA0, .slice aA1 (dlgW V (a : Int) true).op.length cA1, .slice aA2 (dlgW V (a : Int) true).modal.length cA2, .slice aA3 (dlgW V (a : Int) true).pops.length cA3, .slice aA4 (dlgW V (a : Int) true).top.length cA4], Value.int IntKind.i64 ((q : Nat) : Int), Value.bool false, Value.pointer (some { block := w.heap.size, off := 0 }), Value.slice ta V.tree.length tc, Value.int IntKind.i64 ((a : Nat) : Int), Value.int IntKind.i64 ((q : Nat) : Int), Value.bool true, Value.bool false, Value.bool false]) l z U) ∧ Hid (Below XA.heap.size XA U)) (by kernel_rfl) (by kernel_rfl) ?_ ?_ ?_
                · exact ⟨fun _ => undef, rfl, hideG TabZ.start, hideG ((Below.refl _ _).drew)⟩
                · intro i l ac U hi hInv
                  obtain ⟨z, ha, hz, hst⟩ := hInv
                  subst ha
                  obtain ⟨hun, o, ho, _⟩ := mem_ready.mp hi
                  have hlt8 := (Array.getElem?_eq_some_iff.mp ho).1
                  clear ho hun
                  simp only [List.size_toArray, List.length_cons, List.length_nil, Nat.reduceAdd] at hlt8
                  obtain rfl | rfl | rfl | rfl | rfl | rfl | rfl | rfl | rfl | rfl | rfl | rfl | rfl : i = 0 ∨ i = 1 ∨ i = 2 ∨ i = 3 ∨ i = 4 ∨ i = 5 ∨ i = 6 ∨ i = 7 ∨ i = 8 ∨ i = 9 ∨ i = 10 ∨ i = 11 ∨ i = 12 := by omega
                  · refine inv_step (by rfl) (fun K hK => ?_)
                    go_simp
                    refine hK.out _ _ ⟨upZ z 0 (Value.int IntKind.i64 ((q : Nat) : Int)), rfl, hideG (TabZ.step hz.out rfl), hst⟩
                  · have e0 : z 0 = Value.int IntKind.i64 ((q : Nat) : Int) := hz.out 0 (by decide) (dep_of hi (d := 0) (by kernel_rfl))
                    rw [e0]
                    refine inv_step (by rfl) (fun K hK => ?_)
                    go_simp
                    try rw [hhb]
                    refine hK.out _ _ ⟨upZ (upZ z 0 (Value.int IntKind.i64 ((q : Nat) : Int))) 1 (Value.bool true), rfl, hideG (TabZ.step (TabZ.fill hz.out e0) rfl), hst⟩
                  · have e1 : z 1 = Value.bool true := hz.out 1 (by decide) (dep_of hi (d := 1) (by kernel_rfl))
                    rw [e1]
                    refine inv_step (by rfl) (fun K hK => ?_)
                    go_simp
                    refine hK.out _ _ ⟨upZ (upZ z 1 (Value.bool true)) 2 (Value.bool true), rfl, hideG (TabZ.step (TabZ.fill hz.out e1) rfl), hst⟩
                  · have e2 : z 2 = Value.bool true := hz.out 2 (by decide) (dep_of hi (d := 2) (by kernel_rfl))
                    have BU := BD.out.below hst.out
                    have p0 := BU.c0
                    have p1 := BU.c1
                    have p2 := BU.c2
                    have p3 := BU.c3
                    have p4 := BU.c4
                    have plt := BU.lt
                    rw [e2]
                    refine inv_step (by rfl) (fun K hK => ?_)
                    go_simp
                    refine hK.out _ _ ⟨upZ (upZ z 2 (Value.bool true)) 3 (Value.agg #[.slice aA0 (dlgW V (a : Int) true).tree.length cA0, .slice aA1 (dlgW V (a : Int) true).op.length cA1, .slice aA2 (dlgW V (a : Int) true).modal.length cA2, .slice aA3 (dlgW V (a : Int) true).pops.length cA3, .slice aA4 (dlgW V (a : Int) true).top.length cA4]), rfl, hideG (TabZ.step (TabZ.fill hz.out e2) rfl), hst⟩
                  · have e2 : z 2 = Value.bool true := hz.out 2 (by decide) (dep_of hi (d := 2) (by kernel_rfl))
                    rw [e2]
                    refine inv_step (by rfl) (fun K hK => ?_)
                    go_simp
                    refine hK.out _ _ ⟨upZ (upZ z 2 (Value.bool true)) 4 (Value.int IntKind.i64 ((q : Nat) : Int)), rfl, hideG (TabZ.step (TabZ.fill hz.out e2) rfl), hst⟩
                  · have e3 : z 3 = Value.agg #[.slice aA0 (dlgW V (a : Int) true).tree.length cA0, .slice aA1 (dlgW V (a : Int) true).op.length cA1, .slice aA2 (dlgW V (a : Int) true).modal.length cA2, .slice aA3 (dlgW V (a : Int) true).pops.length cA3, .slice aA4 (dlgW V (a : Int) true).top.length cA4] := hz.out 3 (by decide) (dep_of hi (d := 3) (by kernel_rfl))
                    have e4 : z 4 = Value.int IntKind.i64 ((q : Nat) : Int) := hz.out 4 (by decide) (dep_of hi (d := 4) (by kernel_rfl))
                    have e2 : z 2 = Value.bool true := hz.out 2 (by decide) (dep_of hi (d := 2) (by kernel_rfl))
                    rw [e3, e4, e2]
                    refine inv_step (by rfl) (fun K hK => ?_)
                    go_simp
                    go_at_call 56
                    refine Calls.mono (H56.out U (HD.out.below hst.out)) ?_
                    rintro e w9 ⟨rfl, hb9⟩
                    go_wp2_with fail
                    refine hK.out _ _ ⟨upZ (upZ (upZ (upZ z 3 (Value.agg #[.slice aA0 (dlgW V (a : Int) true).tree.length cA0, .slice aA1 (dlgW V (a : Int) true).op.length cA1, .slice aA2 (dlgW V (a : Int) true).modal.length cA2, .slice aA3 (dlgW V (a : Int) true).pops.length cA3, .slice aA4 (dlgW V (a : Int) true).top.length cA4])) 4 (Value.int IntKind.i64 ((q : Nat) : Int))) 2 (Value.bool true)) 5 (Value.bool false), rfl, hideG (TabZ.step (TabZ.mono (TabZ.fill (TabZ.fill (TabZ.fill hz.out e3) e4) e2) (fun _ _ h => h)) rfl), hideG (hst.out.trans (hb9.mono hst.out.size))⟩
                  · have e2 : z 2 = Value.bool true := hz.out 2 (by decide) (dep_of hi (d := 2) (by kernel_rfl))
                    have BU := BX.out.below hst.out
                    have p0 := BU.c0
                    have plt := BU.lt
                    rw [e2]
                    refine inv_step (by rfl) (fun K hK => ?_)
                    go_simp
                    refine hK.out _ _ ⟨upZ (upZ z 2 (Value.bool true)) 6 (Value.pointer (some { block := w.heap.size, off := 0 })), rfl, hideG (TabZ.step (TabZ.fill hz.out e2) rfl), hst⟩
                  · have e6 : z 6 = Value.pointer (some { block := w.heap.size, off := 0 }) := hz.out 6 (by decide) (dep_of hi (d := 6) (by kernel_rfl))
                    have e2 : z 2 = Value.bool true := hz.out 2 (by decide) (dep_of hi (d := 2) (by kernel_rfl))
                    have BU := BX.out.below hst.out
                    have p0 := BU.c0
                    have plt := BU.lt
                    rw [e6, e2]
                    refine inv_step (by rfl) (fun K hK => ?_)
                    go_simp
                    refine hK.out _ _ ⟨upZ (upZ (upZ z 6 (Value.pointer (some { block := w.heap.size, off := 0 }))) 2 (Value.bool true)) 7 (Value.slice ta V.tree.length tc), rfl, hideG (TabZ.step (TabZ.fill (TabZ.fill hz.out e6) e2) rfl), hst⟩
                  · have e2 : z 2 = Value.bool true := hz.out 2 (by decide) (dep_of hi (d := 2) (by kernel_rfl))
                    rw [e2]
                    refine inv_step (by rfl) (fun K hK => ?_)
                    go_simp
                    refine hK.out _ _ ⟨upZ (upZ z 2 (Value.bool true)) 8 (Value.int IntKind.i64 ((a : Nat) : Int)), rfl, hideG (TabZ.step (TabZ.fill hz.out e2) rfl), hst⟩
                  · have e2 : z 2 = Value.bool true := hz.out 2 (by decide) (dep_of hi (d := 2) (by kernel_rfl))
                    rw [e2]
                    refine inv_step (by rfl) (fun K hK => ?_)
                    go_simp
                    refine hK.out _ _ ⟨upZ (upZ z 2 (Value.bool true)) 9 (Value.int IntKind.i64 ((q : Nat) : Int)), rfl, hideG (TabZ.step (TabZ.fill hz.out e2) rfl), hst⟩
                  · have e7 : z 7 = Value.slice ta V.tree.length tc := hz.out 7 (by decide) (dep_of hi (d := 7) (by kernel_rfl))
                    have e8 : z 8 = Value.int IntKind.i64 ((a : Nat) : Int) := hz.out 8 (by decide) (dep_of hi (d := 8) (by kernel_rfl))
                    have e9 : z 9 = Value.int IntKind.i64 ((q : Nat) : Int) := hz.out 9 (by decide) (dep_of hi (d := 9) (by kernel_rfl))
                    have e2 : z 2 = Value.bool true := hz.out 2 (by decide) (dep_of hi (d := 2) (by kernel_rfl))
                    rw [e7, e8, e9, e2]
                    refine inv_step (by rfl) (fun K hK => ?_)
                    go_simp
                    go_at_call 53
                    refine Calls.mono (H53.out U (HV.out.below hst.out).tree) ?_
                    rintro e w9 ⟨rfl, hb9⟩
                    go_wp2_with fail
                    refine hK.out _ _ ⟨upZ (upZ (upZ (upZ (upZ z 7 (Value.slice ta V.tree.length tc)) 8 (Value.int IntKind.i64 ((a : Nat) : Int))) 9 (Value.int IntKind.i64 ((q : Nat) : Int))) 2 (Value.bool true)) 10 (Value.bool true), rfl, hideG (TabZ.step (TabZ.mono (TabZ.fill (TabZ.fill (TabZ.fill (TabZ.fill hz.out e7) e8) e9) e2) (fun _ _ h => h)) rfl), hideG (hst.out.trans (hb9.mono hst.out.size))⟩
                  · have e5 : z 5 = Value.bool false := hz.out 5 (by decide) (dep_of hi (d := 5) (by kernel_rfl))
                    have e10 : z 10 = Value.bool true := hz.out 10 (by decide) (dep_of hi (d := 10) (by kernel_rfl))
                    have e2 : z 2 = Value.bool true := hz.out 2 (by decide) (dep_of hi (d := 2) (by kernel_rfl))
                    rw [e5, e10, e2]
                    refine inv_step (by rfl) (fun K hK => ?_)
                    go_simp
                    refine hK.out _ _ ⟨upZ (upZ (upZ (upZ z 5 (Value.bool false)) 10 (Value.bool true)) 2 (Value.bool true)) 11 (Value.bool false), rfl, hideG (TabZ.step (TabZ.fill (TabZ.fill (TabZ.fill hz.out e5) e10) e2) rfl), hst⟩
                  · have e2 : z 2 = Value.bool true := hz.out 2 (by decide) (dep_of hi (d := 2) (by kernel_rfl))
                    have e11 : z 11 = Value.bool false := hz.out 11 (by decide) (dep_of hi (d := 11) (by kernel_rfl))
                    rw [e2, e11]
                    refine inv_step (by rfl) (fun K hK => ?_)
                    go_simp
                    refine hK.out _ _ ⟨upZ (upZ (upZ z 2 (Value.bool true)) 11 (Value.bool false)) 12 (Value.bool false), rfl, hideG (TabZ.step (TabZ.fill (TabZ.fill hz.out e2) e11) rfl), hst⟩
                · intro l ac U hall hInv
                  obtain ⟨z, ha, hz, hst⟩ := hInv
                  subst ha
                  have e12 : z 12 = Value.bool false := hz.out 12 (by decide) (hall 12 (by decide))
                  rw [e12]
                  have HBn := hideG (HB.out.trans (hst.out.mono HB.out.size))
                  have BDn := hideG (BD.out.below hst.out)
                  have HDn := hideG (HD.out.below hst.out)
                  clear hz hst hall HB BD HD
                  have HB := HBn
                  have d0 := BDn.out.c0
                  have d1 := BDn.out.c1
                  have d2 := BDn.out.c2
                  have d3 := BDn.out.c3
                  have d4 := BDn.out.c4
                  have dlt := BDn.out.lt
                  clear HBn BX HV
                  go_wp2_with fail
                  refine (H56N.out U HDn.out).mono ?_
                  rintro ex uE ⟨rfl, huE⟩
                  have HBn := hideG (HB.out.trans (huE.mono HB.out.size))
                  clear huE HB
                  have HB := HBn
                  clear HBn d0 d1 d2 d3 d4 dlt
                  go_wp2_with fail
                  refine (live12_any _).mono ?_
                  rintro ex u10 ⟨rfl, hu10⟩
                  have HF10 := hideG (HB.out.trans (hu10.mono HB.out.size))
                  clear hu10
                  go_wp2_with fail
                  go_ret
                  exact ⟨rfl, HF10.out⟩
            · have hce : ((dlgE V n : Int) != 0) = true := by rw [bne_iff_ne]; exact he
              clear HDM he
              generalize dlgE V n = er at *
              go_upto_region 10 with fail
              rw [HEX.out]
              go_wp2_with fail
              refine (live12_any _).mono ?_
              rintro ex u8 ⟨rfl, hu8⟩
              have HF8 := hideG (HB.out.trans (hu8.mono HB.out.size))
              clear hu8
              go_wp2_with fail
              go_ret
              exact ⟨rfl, HF8.out⟩
    · have hce : ((checkV V : Int) != 0) = true := by simpa using hck
      refine (HC.out).mono ?_
      rintro ex u11 ⟨rfl, hu11⟩
      have HBn := hideG (HB.out.trans (hu11.mono HB.out.size))
      have BXn := hideG (BX.out.below hu11)
      have HVn := hideG (HV.out.below hu11)
      clear hu11 HB BX HV
      have HB := HBn
      have BX := BXn
      have HV := HVn
      clear HBn BXn HVn
      clear HC
      generalize checkV V = cv at *
      go_wp2_with fail
      refine (live12_any _).mono ?_
      rintro ex u12 ⟨rfl, hu12⟩
      have HF12 := hideG (HB.out.trans (hu12.mono HB.out.size))
      clear hu12
      go_wp2_with fail
      go_ret
      exact ⟨rfl, HF12.out⟩
end Go.Proofs.YtclhimodopgeoaaGreat

