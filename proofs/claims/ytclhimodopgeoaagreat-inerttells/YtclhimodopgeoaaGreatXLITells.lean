/- The law that tells who is inert, and who is blocked. -/
import Derived.Test.YtclhimodopgeoaaGreatXWReg
import Derived.Test.YtclhimodopgeoaaGreatXIn5
import Derived.Test.YtclhimodopgeoaaGreatXIn6
namespace Go.Proofs.YtclhimodopgeoaaGreat
open Go.RowKit
theorem lints12 (l : List Int) (v u : Value) (w : World) (h1 : IntsAt w v l) (h2 : IntsAt w u l) (hl : l.length ≤ 1000000) : Calls Tryz.prog 28 #[v, u] w fun e w' => e = .returned (.bool true) ∧ Below w.heap.size w w' := by
  have h := refInts_any l l v u w h1 h2 hl
  rw [decide_eq_true (rfl : l = l)] at h
  exact h
def TellP (LL : List Int) (vals : List Value) (d : Nat) (s : Value) (U : World) : Prop := if ((d == 18) || (d == 20)) then (∃ a c, s = .slice a LL.length c ∧ IntsAt U s LL) else s = vals.getD d undef
theorem tellP_mono {LL : List Int} {vals : List Value} {d : Nat} {s : Value} {U U' : World} (hb : Below U.heap.size U U') (h : TellP LL vals d s U) : TellP LL vals d s U' := by
  unfold TellP at h ⊢
  split at h
  · rename_i q; rw [if_pos q]; obtain ⟨a, c, e, hi⟩ := h; exact ⟨a, c, e, hi.below hb⟩
  · rename_i q; rw [if_neg q]; exact h
theorem tellP_ex {LL : List Int} {vals : List Value} {d : Nat} {a : Option Addr} {c : Nat} {U : World} (h : ((d == 18) || (d == 20)) = true) (hi : IntsAt U (.slice a LL.length c) LL) : TellP LL vals d (.slice a LL.length c) U := by
  unfold TellP
  rw [if_pos h]
  exact ⟨a, c, rfl, hi⟩
set_option maxRecDepth 100000 in
set_option maxHeartbeats 8000000 in
theorem inertTells_walk (tv ov mv pv qv : Value) (V : Vw) (n : Int) (w : World) (hV : ViewAt w tv ov mv pv qv V) :
    Calls Tryz.prog 13 #[.agg #[tv, ov, mv, pv, qv], .int .i64 n] w fun e w' => e = .returned (.bool true) ∧ Below w.heap.size w w' := by
  obtain ⟨hT, hO, hM, hP, hQ⟩ := hV
  obtain ⟨ta, tc, rfl⟩ := hT.shape
  obtain ⟨oa, oc, rfl⟩ := hO.shape
  obtain ⟨ma, mc, rfl⟩ := hM.shape
  obtain ⟨pa, pc, rfl⟩ := hP.shape
  obtain ⟨qa, qc, rfl⟩ := hQ.shape
  obtain ⟨W0, hW0⟩ : ∃ W0, w.alloc (.cells #[.slice ta V.tree.length tc, .slice oa V.op.length oc, .slice ma V.modal.length mc, .slice pa V.pops.length pc, .slice qa V.top.length qc] 27) = W0 := ⟨_, rfl⟩
  have HB0 := hideG (show Below w.heap.size w W0 by rw [← hW0]; exact alB _ _)
  have BX := hideG (show BoxV W0 w.heap.size _ _ _ _ _ by rw [← hW0]; exact BoxV.new _ _ _ _ _ _ _)
  have HV := hideG (show ViewAt w _ _ _ _ _ V from ⟨hT, hO, hM, hP, hQ⟩)
  have HV0 := hideG (HV.out.below HB0.out)
  have HW0 := hideG hW0
  clear hW0 hT hO hM hP hQ
  have HSM := hideG (refSmall10_any _ _ _ _ _ V W0 HV0.out)
  have HB := HB0
  clear HB0 HV
  have HV := HV0
  clear HV0
  have p0 := BX.out.c0
  have p1 := BX.out.c1
  have p2 := BX.out.c2
  have p3 := BX.out.c3
  have p4 := BX.out.c4
  have plt := BX.out.lt
  cases hs : smallV V
  · rw [hs] at HSM
    clear hs
    go_enter Tryz.func13, Tryz.ntmps13
    go_wp2_with fail
    rw [HW0.out]
    refine (HSM.out).mono ?_
    rintro ex u1 ⟨rfl, hu1⟩
    have HBn := hideG (HB.out.trans (hu1.mono HB.out.size))
    have BXn := hideG (BX.out.below hu1)
    have HVn := hideG (HV.out.below hu1)
    clear hu1 HB BX HV
    have HB := HBn
    have BX := BXn
    have HV := HVn
    clear HBn BXn HVn
    clear p0 p1 p2 p3 p4 plt
    go_wp2_with fail
    refine (live12_any _).mono ?_
    rintro ex u2 ⟨rfl, hu2⟩
    have HF2 := hideG (HB.out.trans (hu2.mono HB.out.size))
    clear hu2
    go_wp2_with fail
    go_ret
    exact ⟨rfl, HF2.out⟩
  · rw [hs] at HSM
    obtain ⟨hS, hl, htl, _⟩ := small_facts hs
    have HS := hideG hS
    have HL := hideG hl
    have h4l : V.top.length ≤ 1000 := hl.2.2.2
    have h2l : V.modal.length ≤ 500 := hl.2.1
    clear hs hS hl
    go_enter Tryz.func13, Tryz.ntmps13
    go_wp2_with fail
    rw [HW0.out]
    clear HW0
    refine (HSM.out).mono ?_
    rintro ex u3 ⟨rfl, hu3⟩
    have HBn := hideG (HB.out.trans (hu3.mono HB.out.size))
    have BXn := hideG (BX.out.below hu3)
    have HVn := hideG (HV.out.below hu3)
    clear hu3 HB BX HV
    have HB := HBn
    have BX := BXn
    have HV := HVn
    clear HBn BXn HVn
    clear HSM
    clear p0 p1 p2 p3 p4 plt
    have p0 := BX.out.c0
    have p1 := BX.out.c1
    have p2 := BX.out.c2
    have p3 := BX.out.c3
    have p4 := BX.out.c4
    have plt := BX.out.lt
    go_wp2_with fail
    clear p0 p1 p2 p3 p4 plt
    have HC := hideG (refCheck10_any _ _ _ _ _ V _ HV.out HS.out ⟨by have := HL.out.1; omega, by omega, by have := HL.out.2.2.1; omega, h4l⟩)
    by_cases hck : checkV V = 0
    · have HMAY := hideG (check_iff.mp hck).1
      have HCK := hideG hck
      rw [hck] at HC
      refine (HC.out).mono ?_
      rintro ex u9 ⟨rfl, hu9⟩
      have HBn := hideG (HB.out.trans (hu9.mono HB.out.size))
      have BXn := hideG (BX.out.below hu9)
      have HVn := hideG (HV.out.below hu9)
      clear hu9 HB BX HV
      have HB := HBn
      have BX := BXn
      have HV := HVn
      clear HBn BXn HVn
      clear HC hck
      have p0 := BX.out.c0
      have p1 := BX.out.c1
      have p2 := BX.out.c2
      have p3 := BX.out.c3
      have p4 := BX.out.c4
      have plt := BX.out.lt
      go_wp2_with fail
      clear p0 p1 p2 p3 p4 plt
      refine (refIs_any _ _ _ _ _).mono ?_
      rintro ex u10 ⟨rfl, hz10⟩
      obtain rfl : _ = u10 := hz10.symm
      cases hno : isNodeB V.tree.length n
      · have HK := hideG (show knownV V n = false by unfold knownV; unfold isNodeB at hno; rw [hno, Bool.and_false])
        have p0 := BX.out.c0
        have p1 := BX.out.c1
        have p2 := BX.out.c2
        have p3 := BX.out.c3
        have p4 := BX.out.c4
        have plt := BX.out.lt
        go_wp2_with fail
        clear p0 p1 p2 p3 p4 plt
        refine (iis_any _ _ _ _ _ V n _ HV.out HS.out HL.out).mono ?_
        rintro ex u11 ⟨rfl, hu11⟩
        have HBn := hideG (HB.out.trans (hu11.mono HB.out.size))
        have BXn := hideG (BX.out.below hu11)
        have HVn := hideG (HV.out.below hu11)
        clear hu11 HB BX HV
        have HB := HBn
        have BX := BXn
        have HV := HVn
        clear HBn BXn HVn
        rw [HK.out, Bool.false_and]
        have p0 := BX.out.c0
        have p1 := BX.out.c1
        have p2 := BX.out.c2
        have p3 := BX.out.c3
        have p4 := BX.out.c4
        have plt := BX.out.lt
        go_wp2_with fail
        clear p0 p1 p2 p3 p4 plt
        refine (iblocked_any _ _ _ _ _ V n _ HV.out HS.out HL.out).mono ?_
        rintro ex u12 ⟨rfl, hu12⟩
        have HBn := hideG (HB.out.trans (hu12.mono HB.out.size))
        have BXn := hideG (BX.out.below hu12)
        have HVn := hideG (HV.out.below hu12)
        clear hu12 HB BX HV
        have HB := HBn
        have BX := BXn
        have HV := HVn
        clear HBn BXn HVn
        rw [HK.out, Bool.false_and]
        go_wp2_with fail
        refine (live12_any _).mono ?_
        rintro ex u13 ⟨rfl, hu13⟩
        have HF13 := hideG (HB.out.trans (hu13.mono HB.out.size))
        clear hu13
        go_wp2_with fail
        go_ret
        exact ⟨rfl, HF13.out⟩
      · have hnn := hno
        unfold isNodeB at hnn
        simp only [Bool.and_eq_true, decide_eq_true_eq] at hnn
        obtain ⟨m, rfl⟩ : ∃ m : Nat, n = (m : Int) := ⟨n.toNat, by omega⟩
        have hm : m < V.tree.length := by omega
        have HM := hideG hm
        have HK := hideG (show knownV V (m : Int) = true by unfold knownV; simp [HCK.out]; omega)
        have HIA := hideG (show (knownV V (m : Int) && inB V (m : Int).toNat) = inB V m by rw [HK.out, Bool.true_and, Int.toNat_natCast])
        have HIB := hideG (show (knownV V (m : Int) && blockedB (highV V) (upI6 V.tree (m : Int).toNat)) = blockedB (highV V) (upI6 V.tree m) by rw [HK.out, Bool.true_and, Int.toNat_natCast])
        have HAL := hideG (show allV V = allIn V V.tree.length by unfold allV; rw [if_pos]; unfold knownV; simp [HCK.out]; omega)
        have HALL := hideG (show (allIn V V.tree.length).length ≤ 1000000 by unfold allIn castL; rw [List.length_map]; have := List.length_filter_le (inB V) (List.range V.tree.length); rw [List.length_range] at this; omega)
        clear hnn hm hno
        have H55 := hideG (fun (U : World) (h : ViewAt U (.slice ta V.tree.length tc) (.slice oa V.op.length oc) (.slice ma V.modal.length mc) (.slice pa V.pops.length pc) (.slice qa V.top.length qc) V) => iis_any _ _ _ _ _ V (m : Int) U h HS.out HL.out)
        simp only [HIA.out] at H55
        have H56 := hideG (fun (U : World) (h : ViewAt U (.slice ta V.tree.length tc) (.slice oa V.op.length oc) (.slice ma V.modal.length mc) (.slice pa V.pops.length pc) (.slice qa V.top.length qc) V) => iblocked_any _ _ _ _ _ V (m : Int) U h HS.out HL.out)
        simp only [HIB.out] at H56
        have H57 := hideG (fun (U : World) (h : ViewAt U (.slice ta V.tree.length tc) (.slice oa V.op.length oc) (.slice ma V.modal.length mc) (.slice pa V.pops.length pc) (.slice qa V.top.length qc) V) => iall_any _ _ _ _ _ V U h HS.out HL.out)
        simp only [HAL.out] at H57
        have H58 := hideG (fun (U : World) (h : ViewAt U (.slice ta V.tree.length tc) (.slice oa V.op.length oc) (.slice ma V.modal.length mc) (.slice pa V.pops.length pc) (.slice qa V.top.length qc) V) => refIs12_any _ _ _ _ _ V m HM.out U h HS.out HL.out HMAY.out)
        have H59 := hideG (fun (U : World) (h : ViewAt U (.slice ta V.tree.length tc) (.slice oa V.op.length oc) (.slice ma V.modal.length mc) (.slice pa V.pops.length pc) (.slice qa V.top.length qc) V) => refBlocked_any _ _ _ _ _ V m HM.out U h HS.out HL.out HMAY.out)
        have H60 := hideG (fun (U : World) (h : ViewAt U (.slice ta V.tree.length tc) (.slice oa V.op.length oc) (.slice ma V.modal.length mc) (.slice pa V.pops.length pc) (.slice qa V.top.length qc) V) => refAll12_any _ _ _ _ _ V U h HS.out HL.out HMAY.out)
        clear HIA HIB HAL HK HM HCK HMAY HS HL
        generalize inB V m = bI at *
        generalize blockedB (highV V) (upI6 V.tree m) = bB at *
        generalize allIn V V.tree.length = LL at *
        have p0 := BX.out.c0
        have p1 := BX.out.c1
        have p2 := BX.out.c2
        have p3 := BX.out.c3
        have p4 := BX.out.c4
        have plt := BX.out.lt
        go_wp2_with fail
        clear p0 p1 p2 p3 p4 plt
        refine wp_region_inv (fun l ac U => ∃ z : Nat → Value, ac = { tmps := #[Value.agg #[Value.slice ta V.tree.length tc, Value.slice oa V.op.length oc, Value.slice ma V.modal.length mc, Value.slice pa V.pops.length pc, Value.slice qa V.top.length qc], Value.int IntKind.i64 ((m : Nat) : Int), Value.pointer (some { block := w.heap.size, off := 0 }), undef, z 26, Value.agg #[Value.slice ta V.tree.length tc, Value.slice oa V.op.length oc, Value.slice ma V.modal.length mc, Value.slice pa V.pops.length pc, Value.slice qa V.top.length qc], Value.bool true, Value.bool false, undef, Value.agg #[Value.slice ta V.tree.length tc, Value.slice oa V.op.length oc, Value.slice ma V.modal.length mc, Value.slice pa V.pops.length pc, Value.slice qa V.top.length qc], Value.int IntKind.i64 0, Value.bool false, undef, undef, undef, undef, undef, undef, undef, undef, undef, undef, undef, undef, undef, undef, undef, undef, undef, undef, undef, Value.pointer (some { block := w.heap.size, off := 0 }), Value.slice ta V.tree.length tc, Value.int IntKind.i64 ((m : Nat) : Int), Value.bool true, Value.bool false, undef, undef, undef, undef, undef, undef, undef, undef, undef, undef, undef, undef, undef, z 0, z 1, z 2, z 3, z 4, z 5, z 6, z 7, z 8, z 9, z 10, z 11, z 12, z 13, z 14, z 15, z 16, z 17, z 18, z 19, z 20, z 21, z 22, z 23, z 24, z 25], defers := [] } ∧ Hid (TabZ 27 (TellP LL [Value.agg #[Value.slice ta V.tree.length tc, Value.slice oa V.op.length oc, Value.slice ma V.modal.length mc, Value.slice pa V.pops.length pc, Value.slice qa V.top.length qc], Value.int IntKind.i64 ((m : Nat) : Int), Value.bool bI, Value.agg #[Value.slice ta V.tree.length tc, Value.slice oa V.op.length oc, Value.slice ma V.modal.length mc, Value.slice pa V.pops.length pc, Value.slice qa V.top.length qc], Value.int IntKind.i64 ((m : Nat) : Int), Value.bool bI, Value.bool true, Value.bool true, Value.agg #[Value.slice ta V.tree.length tc, Value.slice oa V.op.length oc, Value.slice ma V.modal.length mc, Value.slice pa V.pops.length pc, Value.slice qa V.top.length qc], Value.int IntKind.i64 ((m : Nat) : Int), Value.bool bB, Value.agg #[Value.slice ta V.tree.length tc, Value.slice oa V.op.length oc, Value.slice ma V.modal.length mc, Value.slice pa V.pops.length pc, Value.slice qa V.top.length qc], Value.int IntKind.i64 ((m : Nat) : Int), Value.bool bB, Value.bool true, Value.bool true, Value.bool true, Value.agg #[Value.slice ta V.tree.length tc, Value.slice oa V.op.length oc, Value.slice ma V.modal.length mc, Value.slice pa V.pops.length pc, Value.slice qa V.top.length qc], undef, Value.agg #[Value.slice ta V.tree.length tc, Value.slice oa V.op.length oc, Value.slice ma V.modal.length mc, Value.slice pa V.pops.length pc, Value.slice qa V.top.length qc], undef, Value.bool true, Value.bool true, Value.bool true, Value.bool true, Value.bool true, Value.bool true]) l z U) ∧ Hid (Below u9.heap.size u9 U)) (by kernel_rfl) (by kernel_rfl) ?_ ?_ ?_
        · exact ⟨fun k => ([undef, undef, undef, undef, undef, undef, undef, undef, undef, undef, undef, undef, undef, undef, undef, undef, undef, undef, undef, undef, undef, undef, undef, undef, undef, undef, Value.bool false] : List Value).getD k undef, rfl, hideG TabZ.start, hideG ((Below.refl _ _).drew)⟩
        · intro i l ac U hi hInv
          obtain ⟨z, ha, hz, hst⟩ := hInv
          subst ha
          obtain ⟨hun, o, ho, _⟩ := mem_ready.mp hi
          have hlt8 := (Array.getElem?_eq_some_iff.mp ho).1
          clear ho hun
          simp only [List.size_toArray, List.length_cons, List.length_nil, Nat.reduceAdd] at hlt8
          obtain rfl | rfl | rfl | rfl | rfl | rfl | rfl | rfl | rfl | rfl | rfl | rfl | rfl | rfl | rfl | rfl | rfl | rfl | rfl | rfl | rfl | rfl | rfl | rfl | rfl | rfl | rfl : i = 0 ∨ i = 1 ∨ i = 2 ∨ i = 3 ∨ i = 4 ∨ i = 5 ∨ i = 6 ∨ i = 7 ∨ i = 8 ∨ i = 9 ∨ i = 10 ∨ i = 11 ∨ i = 12 ∨ i = 13 ∨ i = 14 ∨ i = 15 ∨ i = 16 ∨ i = 17 ∨ i = 18 ∨ i = 19 ∨ i = 20 ∨ i = 21 ∨ i = 22 ∨ i = 23 ∨ i = 24 ∨ i = 25 ∨ i = 26 := by omega
          · have BU := BX.out.below hst.out
            have p0 := BU.c0
            have p1 := BU.c1
            have p2 := BU.c2
            have p3 := BU.c3
            have p4 := BU.c4
            have plt := BU.lt
            refine inv_step (by rfl) (fun K hK => ?_)
            go_simp
            refine hK.out _ _ ⟨upZ z 0 (Value.agg #[Value.slice ta V.tree.length tc, Value.slice oa V.op.length oc, Value.slice ma V.modal.length mc, Value.slice pa V.pops.length pc, Value.slice qa V.top.length qc]), rfl, hideG (TabZ.step hz.out rfl), hst⟩
          · refine inv_step (by rfl) (fun K hK => ?_)
            go_simp
            refine hK.out _ _ ⟨upZ z 1 (Value.int IntKind.i64 ((m : Nat) : Int)), rfl, hideG (TabZ.step hz.out rfl), hst⟩
          · have e0 : z 0 = Value.agg #[Value.slice ta V.tree.length tc, Value.slice oa V.op.length oc, Value.slice ma V.modal.length mc, Value.slice pa V.pops.length pc, Value.slice qa V.top.length qc] := hz.out 0 (by decide) (dep_of hi (d := 0) (by kernel_rfl))
            have e1 : z 1 = Value.int IntKind.i64 ((m : Nat) : Int) := hz.out 1 (by decide) (dep_of hi (d := 1) (by kernel_rfl))
            rw [e0, e1]
            refine inv_step (by rfl) (fun K hK => ?_)
            go_simp
            go_at_call 55
            refine Calls.mono (H55.out U (HV.out.below hst.out)) ?_
            rintro e w9 ⟨rfl, hb9⟩
            go_wp2_with fail
            refine hK.out _ _ ⟨upZ (upZ (upZ z 0 (Value.agg #[Value.slice ta V.tree.length tc, Value.slice oa V.op.length oc, Value.slice ma V.modal.length mc, Value.slice pa V.pops.length pc, Value.slice qa V.top.length qc])) 1 (Value.int IntKind.i64 ((m : Nat) : Int))) 2 (Value.bool bI), rfl, hideG (TabZ.step (TabZ.mono (TabZ.fill (TabZ.fill hz.out e0) e1) (fun d s h => tellP_mono hb9 h)) rfl), hideG (hst.out.trans (hb9.mono hst.out.size))⟩
          · have BU := BX.out.below hst.out
            have p0 := BU.c0
            have p1 := BU.c1
            have p2 := BU.c2
            have p3 := BU.c3
            have p4 := BU.c4
            have plt := BU.lt
            refine inv_step (by rfl) (fun K hK => ?_)
            go_simp
            refine hK.out _ _ ⟨upZ z 3 (Value.agg #[Value.slice ta V.tree.length tc, Value.slice oa V.op.length oc, Value.slice ma V.modal.length mc, Value.slice pa V.pops.length pc, Value.slice qa V.top.length qc]), rfl, hideG (TabZ.step hz.out rfl), hst⟩
          · refine inv_step (by rfl) (fun K hK => ?_)
            go_simp
            refine hK.out _ _ ⟨upZ z 4 (Value.int IntKind.i64 ((m : Nat) : Int)), rfl, hideG (TabZ.step hz.out rfl), hst⟩
          · have e3 : z 3 = Value.agg #[Value.slice ta V.tree.length tc, Value.slice oa V.op.length oc, Value.slice ma V.modal.length mc, Value.slice pa V.pops.length pc, Value.slice qa V.top.length qc] := hz.out 3 (by decide) (dep_of hi (d := 3) (by kernel_rfl))
            have e4 : z 4 = Value.int IntKind.i64 ((m : Nat) : Int) := hz.out 4 (by decide) (dep_of hi (d := 4) (by kernel_rfl))
            rw [e3, e4]
            refine inv_step (by rfl) (fun K hK => ?_)
            go_simp
            go_at_call 58
            refine Calls.mono (H58.out U (HV.out.below hst.out)) ?_
            rintro e w9 ⟨rfl, hb9⟩
            go_wp2_with fail
            refine hK.out _ _ ⟨upZ (upZ (upZ z 3 (Value.agg #[Value.slice ta V.tree.length tc, Value.slice oa V.op.length oc, Value.slice ma V.modal.length mc, Value.slice pa V.pops.length pc, Value.slice qa V.top.length qc])) 4 (Value.int IntKind.i64 ((m : Nat) : Int))) 5 (Value.bool bI), rfl, hideG (TabZ.step (TabZ.mono (TabZ.fill (TabZ.fill hz.out e3) e4) (fun d s h => tellP_mono hb9 h)) rfl), hideG (hst.out.trans (hb9.mono hst.out.size))⟩
          · have e2 : z 2 = Value.bool bI := hz.out 2 (by decide) (dep_of hi (d := 2) (by kernel_rfl))
            have e5 : z 5 = Value.bool bI := hz.out 5 (by decide) (dep_of hi (d := 5) (by kernel_rfl))
            rw [e2, e5]
            refine inv_step (by rfl) (fun K hK => ?_)
            go_simp
            try simp only [beq_self_eq_true, decide_true]
            refine hK.out _ _ ⟨upZ (upZ (upZ z 2 (Value.bool bI)) 5 (Value.bool bI)) 6 (Value.bool true), rfl, hideG (TabZ.step (TabZ.fill (TabZ.fill hz.out e2) e5) rfl), hst⟩
          · have e6 : z 6 = Value.bool true := hz.out 6 (by decide) (dep_of hi (d := 6) (by kernel_rfl))
            rw [e6]
            refine inv_step (by rfl) (fun K hK => ?_)
            go_simp
            refine hK.out _ _ ⟨upZ (upZ z 6 (Value.bool true)) 7 (Value.bool true), rfl, hideG (TabZ.step (TabZ.fill hz.out e6) rfl), hst⟩
          · have e7 : z 7 = Value.bool true := hz.out 7 (by decide) (dep_of hi (d := 7) (by kernel_rfl))
            have BU := BX.out.below hst.out
            have p0 := BU.c0
            have p1 := BU.c1
            have p2 := BU.c2
            have p3 := BU.c3
            have p4 := BU.c4
            have plt := BU.lt
            rw [e7]
            refine inv_step (by rfl) (fun K hK => ?_)
            go_simp
            refine hK.out _ _ ⟨upZ (upZ z 7 (Value.bool true)) 8 (Value.agg #[Value.slice ta V.tree.length tc, Value.slice oa V.op.length oc, Value.slice ma V.modal.length mc, Value.slice pa V.pops.length pc, Value.slice qa V.top.length qc]), rfl, hideG (TabZ.step (TabZ.fill hz.out e7) rfl), hst⟩
          · have e7 : z 7 = Value.bool true := hz.out 7 (by decide) (dep_of hi (d := 7) (by kernel_rfl))
            rw [e7]
            refine inv_step (by rfl) (fun K hK => ?_)
            go_simp
            refine hK.out _ _ ⟨upZ (upZ z 7 (Value.bool true)) 9 (Value.int IntKind.i64 ((m : Nat) : Int)), rfl, hideG (TabZ.step (TabZ.fill hz.out e7) rfl), hst⟩
          · have e8 : z 8 = Value.agg #[Value.slice ta V.tree.length tc, Value.slice oa V.op.length oc, Value.slice ma V.modal.length mc, Value.slice pa V.pops.length pc, Value.slice qa V.top.length qc] := hz.out 8 (by decide) (dep_of hi (d := 8) (by kernel_rfl))
            have e9 : z 9 = Value.int IntKind.i64 ((m : Nat) : Int) := hz.out 9 (by decide) (dep_of hi (d := 9) (by kernel_rfl))
            have e7 : z 7 = Value.bool true := hz.out 7 (by decide) (dep_of hi (d := 7) (by kernel_rfl))
            rw [e8, e9, e7]
            refine inv_step (by rfl) (fun K hK => ?_)
            go_simp
            go_at_call 56
            refine Calls.mono (H56.out U (HV.out.below hst.out)) ?_
            rintro e w9 ⟨rfl, hb9⟩
            go_wp2_with fail
            refine hK.out _ _ ⟨upZ (upZ (upZ (upZ z 8 (Value.agg #[Value.slice ta V.tree.length tc, Value.slice oa V.op.length oc, Value.slice ma V.modal.length mc, Value.slice pa V.pops.length pc, Value.slice qa V.top.length qc])) 9 (Value.int IntKind.i64 ((m : Nat) : Int))) 7 (Value.bool true)) 10 (Value.bool bB), rfl, hideG (TabZ.step (TabZ.mono (TabZ.fill (TabZ.fill (TabZ.fill hz.out e8) e9) e7) (fun d s h => tellP_mono hb9 h)) rfl), hideG (hst.out.trans (hb9.mono hst.out.size))⟩
          · have e7 : z 7 = Value.bool true := hz.out 7 (by decide) (dep_of hi (d := 7) (by kernel_rfl))
            have BU := BX.out.below hst.out
            have p0 := BU.c0
            have p1 := BU.c1
            have p2 := BU.c2
            have p3 := BU.c3
            have p4 := BU.c4
            have plt := BU.lt
            rw [e7]
            refine inv_step (by rfl) (fun K hK => ?_)
            go_simp
            refine hK.out _ _ ⟨upZ (upZ z 7 (Value.bool true)) 11 (Value.agg #[Value.slice ta V.tree.length tc, Value.slice oa V.op.length oc, Value.slice ma V.modal.length mc, Value.slice pa V.pops.length pc, Value.slice qa V.top.length qc]), rfl, hideG (TabZ.step (TabZ.fill hz.out e7) rfl), hst⟩
          · have e7 : z 7 = Value.bool true := hz.out 7 (by decide) (dep_of hi (d := 7) (by kernel_rfl))
            rw [e7]
            refine inv_step (by rfl) (fun K hK => ?_)
            go_simp
            refine hK.out _ _ ⟨upZ (upZ z 7 (Value.bool true)) 12 (Value.int IntKind.i64 ((m : Nat) : Int)), rfl, hideG (TabZ.step (TabZ.fill hz.out e7) rfl), hst⟩
          · have e11 : z 11 = Value.agg #[Value.slice ta V.tree.length tc, Value.slice oa V.op.length oc, Value.slice ma V.modal.length mc, Value.slice pa V.pops.length pc, Value.slice qa V.top.length qc] := hz.out 11 (by decide) (dep_of hi (d := 11) (by kernel_rfl))
            have e12 : z 12 = Value.int IntKind.i64 ((m : Nat) : Int) := hz.out 12 (by decide) (dep_of hi (d := 12) (by kernel_rfl))
            have e7 : z 7 = Value.bool true := hz.out 7 (by decide) (dep_of hi (d := 7) (by kernel_rfl))
            rw [e11, e12, e7]
            refine inv_step (by rfl) (fun K hK => ?_)
            go_simp
            go_at_call 59
            refine Calls.mono (H59.out U (HV.out.below hst.out)) ?_
            rintro e w9 ⟨rfl, hb9⟩
            go_wp2_with fail
            refine hK.out _ _ ⟨upZ (upZ (upZ (upZ z 11 (Value.agg #[Value.slice ta V.tree.length tc, Value.slice oa V.op.length oc, Value.slice ma V.modal.length mc, Value.slice pa V.pops.length pc, Value.slice qa V.top.length qc])) 12 (Value.int IntKind.i64 ((m : Nat) : Int))) 7 (Value.bool true)) 13 (Value.bool bB), rfl, hideG (TabZ.step (TabZ.mono (TabZ.fill (TabZ.fill (TabZ.fill hz.out e11) e12) e7) (fun d s h => tellP_mono hb9 h)) rfl), hideG (hst.out.trans (hb9.mono hst.out.size))⟩
          · have e10 : z 10 = Value.bool bB := hz.out 10 (by decide) (dep_of hi (d := 10) (by kernel_rfl))
            have e13 : z 13 = Value.bool bB := hz.out 13 (by decide) (dep_of hi (d := 13) (by kernel_rfl))
            have e7 : z 7 = Value.bool true := hz.out 7 (by decide) (dep_of hi (d := 7) (by kernel_rfl))
            rw [e10, e13, e7]
            refine inv_step (by rfl) (fun K hK => ?_)
            go_simp
            try simp only [beq_self_eq_true, decide_true]
            refine hK.out _ _ ⟨upZ (upZ (upZ (upZ z 10 (Value.bool bB)) 13 (Value.bool bB)) 7 (Value.bool true)) 14 (Value.bool true), rfl, hideG (TabZ.step (TabZ.fill (TabZ.fill (TabZ.fill hz.out e10) e13) e7) rfl), hst⟩
          · have e7 : z 7 = Value.bool true := hz.out 7 (by decide) (dep_of hi (d := 7) (by kernel_rfl))
            have e14 : z 14 = Value.bool true := hz.out 14 (by decide) (dep_of hi (d := 14) (by kernel_rfl))
            rw [e7, e14]
            refine inv_step (by rfl) (fun K hK => ?_)
            go_simp
            refine hK.out _ _ ⟨upZ (upZ (upZ z 7 (Value.bool true)) 14 (Value.bool true)) 15 (Value.bool true), rfl, hideG (TabZ.step (TabZ.fill (TabZ.fill hz.out e7) e14) rfl), hst⟩
          · have e15 : z 15 = Value.bool true := hz.out 15 (by decide) (dep_of hi (d := 15) (by kernel_rfl))
            rw [e15]
            refine inv_step (by rfl) (fun K hK => ?_)
            go_simp
            refine hK.out _ _ ⟨upZ (upZ z 15 (Value.bool true)) 16 (Value.bool true), rfl, hideG (TabZ.step (TabZ.fill hz.out e15) rfl), hst⟩
          · have e16 : z 16 = Value.bool true := hz.out 16 (by decide) (dep_of hi (d := 16) (by kernel_rfl))
            have BU := BX.out.below hst.out
            have p0 := BU.c0
            have p1 := BU.c1
            have p2 := BU.c2
            have p3 := BU.c3
            have p4 := BU.c4
            have plt := BU.lt
            rw [e16]
            refine inv_step (by rfl) (fun K hK => ?_)
            go_simp
            refine hK.out _ _ ⟨upZ (upZ z 16 (Value.bool true)) 17 (Value.agg #[Value.slice ta V.tree.length tc, Value.slice oa V.op.length oc, Value.slice ma V.modal.length mc, Value.slice pa V.pops.length pc, Value.slice qa V.top.length qc]), rfl, hideG (TabZ.step (TabZ.fill hz.out e16) rfl), hst⟩
          · have e17 : z 17 = Value.agg #[Value.slice ta V.tree.length tc, Value.slice oa V.op.length oc, Value.slice ma V.modal.length mc, Value.slice pa V.pops.length pc, Value.slice qa V.top.length qc] := hz.out 17 (by decide) (dep_of hi (d := 17) (by kernel_rfl))
            have e16 : z 16 = Value.bool true := hz.out 16 (by decide) (dep_of hi (d := 16) (by kernel_rfl))
            rw [e17, e16]
            refine inv_step (by rfl) (fun K hK => ?_)
            go_simp
            go_at_call 57
            refine Calls.mono (H57.out U (HV.out.below hst.out)) ?_
            rintro e w9 ⟨aN, cN, rfl, hIN, hb9⟩
            go_wp2_with fail
            refine hK.out _ _ ⟨upZ (upZ (upZ z 17 (Value.agg #[Value.slice ta V.tree.length tc, Value.slice oa V.op.length oc, Value.slice ma V.modal.length mc, Value.slice pa V.pops.length pc, Value.slice qa V.top.length qc])) 16 (Value.bool true)) 18 (.slice aN LL.length cN), rfl, hideG (TabZ.step (TabZ.mono (TabZ.fill (TabZ.fill hz.out e17) e16) (fun d s h => tellP_mono hb9 h)) (tellP_ex rfl hIN)), hideG (hst.out.trans (hb9.mono hst.out.size))⟩
          · have e16 : z 16 = Value.bool true := hz.out 16 (by decide) (dep_of hi (d := 16) (by kernel_rfl))
            have BU := BX.out.below hst.out
            have p0 := BU.c0
            have p1 := BU.c1
            have p2 := BU.c2
            have p3 := BU.c3
            have p4 := BU.c4
            have plt := BU.lt
            rw [e16]
            refine inv_step (by rfl) (fun K hK => ?_)
            go_simp
            refine hK.out _ _ ⟨upZ (upZ z 16 (Value.bool true)) 19 (Value.agg #[Value.slice ta V.tree.length tc, Value.slice oa V.op.length oc, Value.slice ma V.modal.length mc, Value.slice pa V.pops.length pc, Value.slice qa V.top.length qc]), rfl, hideG (TabZ.step (TabZ.fill hz.out e16) rfl), hst⟩
          · have e19 : z 19 = Value.agg #[Value.slice ta V.tree.length tc, Value.slice oa V.op.length oc, Value.slice ma V.modal.length mc, Value.slice pa V.pops.length pc, Value.slice qa V.top.length qc] := hz.out 19 (by decide) (dep_of hi (d := 19) (by kernel_rfl))
            have e16 : z 16 = Value.bool true := hz.out 16 (by decide) (dep_of hi (d := 16) (by kernel_rfl))
            rw [e19, e16]
            refine inv_step (by rfl) (fun K hK => ?_)
            go_simp
            go_at_call 60
            refine Calls.mono (H60.out U (HV.out.below hst.out)) ?_
            rintro e w9 ⟨aN, cN, rfl, hIN, hb9⟩
            go_wp2_with fail
            refine hK.out _ _ ⟨upZ (upZ (upZ z 19 (Value.agg #[Value.slice ta V.tree.length tc, Value.slice oa V.op.length oc, Value.slice ma V.modal.length mc, Value.slice pa V.pops.length pc, Value.slice qa V.top.length qc])) 16 (Value.bool true)) 20 (.slice aN LL.length cN), rfl, hideG (TabZ.step (TabZ.mono (TabZ.fill (TabZ.fill hz.out e19) e16) (fun d s h => tellP_mono hb9 h)) (tellP_ex rfl hIN)), hideG (hst.out.trans (hb9.mono hst.out.size))⟩
          · obtain ⟨a18, c18, e18, I18⟩ : ∃ a c, z 18 = .slice a LL.length c ∧ IntsAt U (z 18) LL := hz.out 18 (by decide) (dep_of hi (d := 18) (by kernel_rfl))
            rw [e18] at I18
            obtain ⟨a20, c20, e20, I20⟩ : ∃ a c, z 20 = .slice a LL.length c ∧ IntsAt U (z 20) LL := hz.out 20 (by decide) (dep_of hi (d := 20) (by kernel_rfl))
            rw [e20] at I20
            have e16 : z 16 = Value.bool true := hz.out 16 (by decide) (dep_of hi (d := 16) (by kernel_rfl))
            rw [e18, e20, e16]
            refine inv_step (by rfl) (fun K hK => ?_)
            go_simp
            go_at_call 28
            refine Calls.mono (lints12 LL _ _ U I18 I20 HALL.out) ?_
            rintro e w9 ⟨rfl, hb9⟩
            go_wp2_with fail
            refine hK.out _ _ ⟨upZ (upZ (upZ (upZ z 18 (.slice a18 LL.length c18)) 20 (.slice a20 LL.length c20)) 16 (Value.bool true)) 21 (Value.bool true), rfl, hideG (TabZ.step (TabZ.mono (TabZ.fill (TabZ.fill (TabZ.fill hz.out e18) e20) e16) (fun d s h => tellP_mono hb9 h)) rfl), hideG (hst.out.trans (hb9.mono hst.out.size))⟩
          · have e16 : z 16 = Value.bool true := hz.out 16 (by decide) (dep_of hi (d := 16) (by kernel_rfl))
            have e21 : z 21 = Value.bool true := hz.out 21 (by decide) (dep_of hi (d := 21) (by kernel_rfl))
            rw [e16, e21]
            refine inv_step (by rfl) (fun K hK => ?_)
            go_simp
            refine hK.out _ _ ⟨upZ (upZ (upZ z 16 (Value.bool true)) 21 (Value.bool true)) 22 (Value.bool true), rfl, hideG (TabZ.step (TabZ.fill (TabZ.fill hz.out e16) e21) rfl), hst⟩
          · have e22 : z 22 = Value.bool true := hz.out 22 (by decide) (dep_of hi (d := 22) (by kernel_rfl))
            rw [e22]
            refine inv_step (by rfl) (fun K hK => ?_)
            go_simp
            refine hK.out _ _ ⟨upZ (upZ z 22 (Value.bool true)) 23 (Value.bool true), rfl, hideG (TabZ.step (TabZ.fill hz.out e22) rfl), hst⟩
          · have e23 : z 23 = Value.bool true := hz.out 23 (by decide) (dep_of hi (d := 23) (by kernel_rfl))
            rw [e23]
            refine inv_step (by rfl) (fun K hK => ?_)
            go_simp
            go_at_call 54
            refine Calls.mono (live12_any U) ?_
            rintro e w9 ⟨rfl, hb9⟩
            go_wp2_with fail
            refine hK.out _ _ ⟨upZ (upZ z 23 (Value.bool true)) 24 (Value.bool true), rfl, hideG (TabZ.step (TabZ.mono (TabZ.fill hz.out e23) (fun d s h => tellP_mono hb9 h)) rfl), hideG (hst.out.trans (hb9.mono hst.out.size))⟩
          · have e23 : z 23 = Value.bool true := hz.out 23 (by decide) (dep_of hi (d := 23) (by kernel_rfl))
            have e24 : z 24 = Value.bool true := hz.out 24 (by decide) (dep_of hi (d := 24) (by kernel_rfl))
            rw [e23, e24]
            refine inv_step (by rfl) (fun K hK => ?_)
            go_simp
            refine hK.out _ _ ⟨upZ (upZ (upZ z 23 (Value.bool true)) 24 (Value.bool true)) 25 (Value.bool true), rfl, hideG (TabZ.step (TabZ.fill (TabZ.fill hz.out e23) e24) rfl), hst⟩
          · have e25 : z 25 = Value.bool true := hz.out 25 (by decide) (dep_of hi (d := 25) (by kernel_rfl))
            rw [e25]
            refine inv_step (by rfl) (fun K hK => ?_)
            go_simp
            refine hK.out _ _ ⟨upZ (upZ z 25 (Value.bool true)) 26 (Value.bool true), rfl, hideG (TabZ.step (TabZ.fill hz.out e25) rfl), hst⟩
        · intro l ac U hall hInv
          obtain ⟨z, ha, hz, hst⟩ := hInv
          subst ha
          have e26 : z 26 = Value.bool true := hz.out 26 (by decide) (hall 26 (by decide))
          rw [e26]
          have HF := hideG (HB.out.trans (hst.out.mono HB.out.size))
          clear hz hst hall
          go_wp2_with fail
          go_ret
          exact ⟨rfl, HF.out⟩
    · have hce : ((checkV V : Int) != 0) = true := by simpa using hck
      have HK := hideG (show ∀ x, knownV V x = false from fun x => by unfold knownV; rw [show (checkV V == 0) = false from by rw [beq_eq_false_iff_ne]; exact hck]; rfl)
      have HAL := hideG (show allV V = [] by unfold allV; rw [HK.out]; rfl)
      refine (HC.out).mono ?_
      rintro ex u4 ⟨rfl, hu4⟩
      have HBn := hideG (HB.out.trans (hu4.mono HB.out.size))
      have BXn := hideG (BX.out.below hu4)
      have HVn := hideG (HV.out.below hu4)
      clear hu4 HB BX HV
      have HB := HBn
      have BX := BXn
      have HV := HVn
      clear HBn BXn HVn
      clear HC
      generalize checkV V = cv at *
      have p0 := BX.out.c0
      have p1 := BX.out.c1
      have p2 := BX.out.c2
      have p3 := BX.out.c3
      have p4 := BX.out.c4
      have plt := BX.out.lt
      go_wp2_with fail
      clear p0 p1 p2 p3 p4 plt
      refine (iis_any _ _ _ _ _ V n _ HV.out HS.out HL.out).mono ?_
      rintro ex u5 ⟨rfl, hu5⟩
      have HBn := hideG (HB.out.trans (hu5.mono HB.out.size))
      have BXn := hideG (BX.out.below hu5)
      have HVn := hideG (HV.out.below hu5)
      clear hu5 HB BX HV
      have HB := HBn
      have BX := BXn
      have HV := HVn
      clear HBn BXn HVn
      rw [HK.out, Bool.false_and]
      have p0 := BX.out.c0
      have p1 := BX.out.c1
      have p2 := BX.out.c2
      have p3 := BX.out.c3
      have p4 := BX.out.c4
      have plt := BX.out.lt
      go_wp2_with fail
      clear p0 p1 p2 p3 p4 plt
      refine (iblocked_any _ _ _ _ _ V n _ HV.out HS.out HL.out).mono ?_
      rintro ex u6 ⟨rfl, hu6⟩
      have HBn := hideG (HB.out.trans (hu6.mono HB.out.size))
      have BXn := hideG (BX.out.below hu6)
      have HVn := hideG (HV.out.below hu6)
      clear hu6 HB BX HV
      have HB := HBn
      have BX := BXn
      have HV := HVn
      clear HBn BXn HVn
      rw [HK.out, Bool.false_and]
      have p0 := BX.out.c0
      have p1 := BX.out.c1
      have p2 := BX.out.c2
      have p3 := BX.out.c3
      have p4 := BX.out.c4
      have plt := BX.out.lt
      go_wp2_with fail
      clear p0 p1 p2 p3 p4 plt
      refine (iall_any _ _ _ _ _ V _ HV.out HS.out HL.out).mono ?_
      rintro ex u7 ⟨aA, cA, rfl, hIA, hu7⟩
      have HBn := hideG (HB.out.trans (hu7.mono HB.out.size))
      have BXn := hideG (BX.out.below hu7)
      have HVn := hideG (HV.out.below hu7)
      clear hu7 HB BX HV hIA
      have HB := HBn
      have BX := BXn
      have HV := HVn
      clear HBn BXn HVn
      rw [HAL.out]
      go_wp2_with fail
      refine (live12_any _).mono ?_
      rintro ex u8 ⟨rfl, hu8⟩
      have HF8 := hideG (HB.out.trans (hu8.mono HB.out.size))
      clear hu8
      go_wp2_with fail
      go_ret
      exact ⟨rfl, HF8.out⟩
end Go.Proofs.YtclhimodopgeoaaGreat

