/- The law on whether a view may be, which one is highest, and who is gone. -/
import Derived.Deep.DeepCutAuto
import Derived.Test.YtclhimodopgeoaaGreatTB6
import Derived.Test.YtclhimodopgeoaaGreatTB7
import Derived.Test.YtclhimodopgeoaaGreatXTopTab
namespace Go.Proofs.YtclhimodopgeoaaGreat
open Go.RowKit

theorem lints' (l : List Int) (v u : Value) (w : World) (h1 : IntsAt w v l) (h2 : IntsAt w u l) (hl : l.length ≤ 1000000) : Calls Tryz.prog 28 #[v, u] w fun e w' => e = .returned (.bool true) ∧ Below w.heap.size w w' := by
  have h := refInts_any l l v u w h1 h2 hl
  rw [decide_eq_true (rfl : l = l)] at h
  exact h
theorem shapedG {fn : Nat} {args : Array Value} {w : World} {er : Int} {V : Vw} {G : List Int} (h : Calls Tryz.prog fn args w fun x w' => ∃ t o m p q a c, x = .returned (.tuple #[.agg #[t, o, m, p, q], .slice a G.length c, .int .i64 er]) ∧ ViewAt w' t o m p q V ∧ IntsAt w' (.slice a G.length c) G ∧ Below w.heap.size w w')
    (n0 n1 n2 n3 n4 n5 : Nat) (h0 : V.tree.length = n0) (h1 : V.op.length = n1) (h2 : V.modal.length = n2) (h3 : V.pops.length = n3) (h4 : V.top.length = n4) (h5 : G.length = n5) :
    Calls Tryz.prog fn args w fun x w' => ∃ a0 c0 a1 c1 a2 c2 a3 c3 a4 c4 a5 c5, x = .returned (.tuple #[.agg #[.slice a0 n0 c0, .slice a1 n1 c1, .slice a2 n2 c2, .slice a3 n3 c3, .slice a4 n4 c4], .slice a5 n5 c5, .int .i64 er]) ∧ ViewAt w' (.slice a0 n0 c0) (.slice a1 n1 c1) (.slice a2 n2 c2) (.slice a3 n3 c3) (.slice a4 n4 c4) V ∧ IntsAt w' (.slice a5 n5 c5) G ∧ Below w.heap.size w w' := by
  refine h.mono ?_
  rintro x w' ⟨t, o, m, p, q, a5, c5, rfl, hv, hg, hb⟩
  obtain ⟨a0, c0, rfl⟩ := hv.tree.shape
  obtain ⟨a1, c1, rfl⟩ := hv.op.shape
  obtain ⟨a2, c2, rfl⟩ := hv.modal.shape
  obtain ⟨a3, c3, rfl⟩ := hv.pops.shape
  obtain ⟨a4, c4, rfl⟩ := hv.top.shape
  subst h0 h1 h2 h3 h4 h5
  exact ⟨_, _, _, _, _, _, _, _, _, _, _, _, rfl, hv, hg, hb⟩
set_option maxRecDepth 100000 in
set_option maxHeartbeats 16000000 in
theorem topTells_walk (tv ov mv pv qv : Value) (V : Vw) (w : World) (hV : ViewAt w tv ov mv pv qv V) :
    Calls Tryz.prog 3 #[.agg #[tv, ov, mv, pv, qv]] w fun e w' => e = .returned (.bool true) ∧ Below w.heap.size w w' := by
  obtain ⟨hT, hO, hM, hP, hQ⟩ := hV
  obtain ⟨ta, tc, rfl⟩ := hT.shape
  obtain ⟨oa, oc, rfl⟩ := hO.shape
  obtain ⟨ma, mc, rfl⟩ := hM.shape
  obtain ⟨pa, pc, rfl⟩ := hP.shape
  obtain ⟨qa, qc, rfl⟩ := hQ.shape
  obtain ⟨W0, hW0⟩ : ∃ W0, w.alloc (.cells #[.slice ta V.tree.length tc, .slice oa V.op.length oc, .slice ma V.modal.length mc, .slice pa V.pops.length pc, .slice qa V.top.length qc] 27) = W0 := ⟨_, rfl⟩
  have HB0 := hideG (show Below w.heap.size w W0 by rw [← hW0]; exact alB _ _)
  have BX := hideG (show BoxV W0 w.heap.size _ _ _ _ _ by rw [← hW0]; exact BoxV.new _ _ _ _ _ _ _)
  have HV := hideG (show ViewAt w _ _ _ _ _ V from ⟨hT, hO, hM, hP, hQ⟩)
  have HV0 := hideG (HV.out.below HB0.out)
  have HW0 := hideG hW0
  clear hW0 hT hO hM hP hQ
  have HSM := hideG (refSmall10_any _ _ _ _ _ V W0 HV0.out)
  have p0 := BX.out.c0
  have p1 := BX.out.c1
  have p2 := BX.out.c2
  have p3 := BX.out.c3
  have p4 := BX.out.c4
  have plt := BX.out.lt
  cases hs : smallV V
  · rw [hs] at HSM
    clear hs
    go_enter Tryz.func3, Tryz.ntmps3
    go_wp2_with fail
    rw [HW0.out]
    refine HSM.out.mono ?_
    rintro ex w1 ⟨rfl, hb1⟩
    have HBX1 := hideG hb1
    clear hb1 p0 p1 p2 p3 p4 plt
    go_wp2_with fail
    refine (live10_any _).mono ?_
    rintro ex wl ⟨rfl, hbl⟩
    have HBL := hideG (HB0.out.trans (((HBX1.out).trans (hbl.mono (HBX1.out).size)).mono HB0.out.size))
    clear hbl
    go_wp2_with fail
    go_ret
    exact ⟨rfl, HBL.out⟩
  · rw [hs] at HSM
    obtain ⟨hS, hl, htl, hls⟩ := small_facts hs
    have HS := hideG hS
    have HL := hideG hl
    have HTL := hideG htl
    clear hs hS hl hls htl
    go_enter Tryz.func3, Tryz.ntmps3
    go_wp2_with fail
    rw [HW0.out]
    refine HSM.out.mono ?_
    rintro ex w1 ⟨rfl, hb1⟩
    have HBX1 := hideG hb1
    clear hb1 HSM
    clear p0 p1 p2 p3 p4 plt
    have FV := hideG (BX.out.below HBX1.out)
    have p0 := FV.out.c0
    have p1 := FV.out.c1
    have p2 := FV.out.c2
    have p3 := FV.out.c3
    have p4 := FV.out.c4
    have plt := FV.out.lt
    go_wp2_with fail
    clear FV p0 p1 p2 p3 p4 plt
    refine (refCheck10_any _ _ _ _ _ V w1 (HV0.out.below HBX1.out) HS.out (by have h := HL.out; unfold smallL at h; omega)).mono ?_
    rintro ex w2 ⟨rfl, hb2⟩
    have HBX2 := hideG (HBX1.out.trans (hb2.mono HBX1.out.size))
    clear hb2
    have HRH := hideG (refHighest_any _ _ _ _ _ V w2 (HV0.out.below HBX2.out) (by have h := HL.out; unfold smallL at h; omega))
    have HHI := hideG (show hiV V = if checkV V = 0 then highV V else -1 from rfl)
    go_upto_if 16 with fail
    go_cut [3] (fun h wx => h = .int .i64 (hiV V) ∧ Below W0.heap.size W0 wx)
    case first =>
      by_cases hck : checkV V = 0
      · have HQ := hideG (HHI.out.trans (if_pos hck))
        have hcb : (checkV V == 0) = true := by rw [hck]; rfl
        have FV := hideG (BX.out.below HBX2.out)
        have p0 := FV.out.c0
        have p1 := FV.out.c1
        have p2 := FV.out.c2
        have p3 := FV.out.c3
        have p4 := FV.out.c4
        have plt := FV.out.lt
        go_wp2_with fail
        clear FV p0 p1 p2 p3 p4 plt
        refine HRH.out.mono ?_
        rintro ex w3 ⟨rfl, hb3⟩
        rw [← HQ.out]
        go_wp2_with fail
        go_meet
        case rel => exact ⟨rfl, HBX2.out.trans (hb3.mono HBX2.out.size)⟩
      · have HQ := hideG (HHI.out.trans (if_neg hck))
        have hcb : (checkV V == 0) = false := by simpa using hck
        go_wp2_with fail
        go_meet
        case rel => exact ⟨by rw [HQ.out], HBX2.out⟩
    case rest =>
      obtain ⟨rfl, hbc⟩ := hcut
      have HBC := hideG hbc
      clear hbc HHI HRH HBX2 HBX1
      have FV := hideG (BX.out.below HBC.out)
      have p0 := FV.out.c0
      have p1 := FV.out.c1
      have p2 := FV.out.c2
      have p3 := FV.out.c3
      have p4 := FV.out.c4
      have plt := FV.out.lt
      go_wp2_with fail
      clear FV p0 p1 p2 p3 p4 plt
      refine (shapedG (fix_any _ _ _ _ _ V wc (HV0.out.below HBC.out) HS.out HL.out (by have := HTL.out; omega)) _ _ _ _ _ _ rfl rfl rfl rfl rfl rfl).mono ?_
      rintro ex w6 ⟨aA0, cA0, aA1, cA1, aA2, cA2, aA3, cA3, aA4, cA4, ga, gc, rfl, hvA, hgA, hbA⟩
      obtain ⟨X6, hX6⟩ : ∃ X, w6.alloc (.cells #[.slice aA0 (fixW V).tree.length cA0, .slice aA1 (fixW V).op.length cA1, .slice aA2 (fixW V).modal.length cA2, .slice aA3 (fixW V).pops.length cA3, .slice aA4 (fixW V).top.length cA4] 27) = X := ⟨_, rfl⟩
      have hzX6 : Below w6.heap.size w6 X6 := by rw [← hX6]; exact alB _ _
      have hstX6 := hbA.trans (hzX6.mono hbA.size)
      have HBX6 := hideG (HBC.out.trans (hstX6.mono HBC.out.size))
      have BXA := hideG (show BoxV X6 w6.heap.size (.slice aA0 (fixW V).tree.length cA0) (.slice aA1 (fixW V).op.length cA1) (.slice aA2 (fixW V).modal.length cA2) (.slice aA3 (fixW V).pops.length cA3) (.slice aA4 (fixW V).top.length cA4) by rw [← hX6]; exact BoxV.new _ _ _ _ _ _ _)
      have HVA := hideG (hvA.below hzX6)
      have HGA := hideG (hgA.below hzX6)
      have HEX6 := hideG hX6
      clear hX6 hzX6 hstX6 hvA hgA hbA
      go_upto_region 7 with fail
      rw [HEX6.out]
      have FV := hideG (BX.out.below HBX6.out)
      have p0 := FV.out.c0
      have p1 := FV.out.c1
      have p2 := FV.out.c2
      have p3 := FV.out.c3
      have p4 := FV.out.c4
      have plt := FV.out.lt
      go_wp2_with fail
      clear FV p0 p1 p2 p3 p4 plt
      refine (shapedG (rfix_any _ _ _ _ _ V X6 (HV0.out.below HBX6.out) HS.out HL.out (by have := HTL.out; omega)) _ _ _ _ _ _ rfl rfl rfl rfl rfl rfl).mono ?_
      rintro ex w7 ⟨aB0, cB0, aB1, cB1, aB2, cB2, aB3, cB3, aB4, cB4, gb, gd, rfl, hvB, hgB, hbB⟩
      obtain ⟨X7, hX7⟩ : ∃ X, w7.alloc (.cells #[.slice aB0 (fixW V).tree.length cB0, .slice aB1 (fixW V).op.length cB1, .slice aB2 (fixW V).modal.length cB2, .slice aB3 (fixW V).pops.length cB3, .slice aB4 (fixW V).top.length cB4] 27) = X := ⟨_, rfl⟩
      have hzX7 : Below w7.heap.size w7 X7 := by rw [← hX7]; exact alB _ _
      have hstX7 := hbB.trans (hzX7.mono hbB.size)
      have HBX7 := hideG (HBX6.out.trans (hstX7.mono HBX6.out.size))
      have BXB := hideG (show BoxV X7 w7.heap.size (.slice aB0 (fixW V).tree.length cB0) (.slice aB1 (fixW V).op.length cB1) (.slice aB2 (fixW V).modal.length cB2) (.slice aB3 (fixW V).pops.length cB3) (.slice aB4 (fixW V).top.length cB4) by rw [← hX7]; exact BoxV.new _ _ _ _ _ _ _)
      have HVB := hideG (hvB.below hzX7)
      have HGB := hideG (hgB.below hzX7)
      have HEX7 := hideG hX7
      have BXAn := hideG (BXA.out.below hstX7)
      clear BXA
      have BXA := BXAn
      clear BXAn
      have HVAn := hideG (HVA.out.below hstX7)
      clear HVA
      have HVA := HVAn
      clear HVAn
      have HGAn := hideG (HGA.out.below hstX7)
      clear HGA
      have HGA := HGAn
      clear HGAn
      clear hX7 hzX7 hstX7 hvB hgB hbB
      go_upto_region 8 with fail
      rw [HEX7.out]
      have BX8 := hideG (BX.out.below HBX7.out)
      have HV8 := hideG (HV0.out.below HBX7.out)
      have BA8 := BXA
      have BB8 := BXB
      have HA8 := HVA
      have HB8 := HVB
      have HG8 := HGA
      have HH8 := HGB
      clear BXA BXB HVA HVB HGA HGB HEX6 HEX7 HBX6 HBC
      refine wp_slots (fun zz => { tmps := #[zz 0, .pointer (some ⟨w.heap.size, 0, none⟩), zz 2, .int .i64 (hiV V), .pointer (some ⟨w6.heap.size, 0, none⟩), .slice ga (fixGW V).length gc, .int .i64 (checkE V.tree), .pointer (some ⟨w7.heap.size, 0, none⟩), .slice gb (fixGW V).length gd, .int .i64 (checkE V.tree), zz 10, zz 11, zz 12, zz 13, zz 14, zz 15, zz 16, zz 17, zz 18, zz 19, zz 20, zz 21, zz 22, zz 23, zz 24, zz 25, zz 26, zz 27, zz 28, zz 29, zz 30, zz 31, zz 32, zz 33, zz 34, zz 35, zz 36, zz 37, zz 38, zz 39, zz 40, zz 41, zz 42, zz 43, zz 44, zz 45, zz 46, zz 47, zz 48, zz 49, zz 50, zz 51, zz 52, zz 53, zz 54, zz 55, zz 56, zz 57, zz 58, zz 59, zz 60, zz 61, zz 62, zz 63, zz 64, zz 65], defers := [] }) (by rfl) (fun zz => ?_)
      refine wp_region_inv (fun l a U => ∃ z : Nat → Value, a = { tmps := #[zz 0, .pointer (some ⟨w.heap.size, 0, none⟩), z 35, .int .i64 (hiV V), .pointer (some ⟨w6.heap.size, 0, none⟩), .slice ga (fixGW V).length gc, .int .i64 (checkE V.tree), .pointer (some ⟨w7.heap.size, 0, none⟩), .slice gb (fixGW V).length gd, .int .i64 (checkE V.tree), zz 10, zz 11, zz 12, zz 13, zz 14, zz 15, zz 16, zz 17, zz 18, zz 19, zz 20, zz 21, zz 22, zz 23, zz 24, zz 25, zz 26, zz 27, zz 28, zz 29, zz 30, z 0, z 1, z 2, z 3, z 4, z 5, z 6, z 7, z 8, z 9, z 10, z 11, z 12, z 13, z 14, z 15, z 16, z 17, z 18, z 19, z 20, z 21, z 22, z 23, z 24, z 25, z 26, z 27, z 28, z 29, z 30, z 31, z 32, z 33, z 34], defers := [] } ∧ Below X7.heap.size X7 U ∧ Hid (TabZ 36 (TellP (tellVals (.agg #[.slice ta V.tree.length tc, .slice oa V.op.length oc, .slice ma V.modal.length mc, .slice pa V.pops.length pc, .slice qa V.top.length qc]) (.int .i64 (checkV V)) (.int .i64 (hiV V)) (.agg #[.slice aA0 (fixW V).tree.length cA0, .slice aA1 (fixW V).op.length cA1, .slice aA2 (fixW V).modal.length cA2, .slice aA3 (fixW V).pops.length cA3, .slice aA4 (fixW V).top.length cA4]) (.agg #[.slice aB0 (fixW V).tree.length cB0, .slice aB1 (fixW V).op.length cB1, .slice aB2 (fixW V).modal.length cB2, .slice aB3 (fixW V).pops.length cB3, .slice aB4 (fixW V).top.length cB4]) (.slice ga (fixGW V).length gc) (.slice gb (fixGW V).length gd) (.int .i64 (checkE V.tree))) V) l z U)) (by kernel_rfl) (by kernel_rfl) ?_ ?_ ?_
      · exact ⟨fun k => zz (([31, 32, 33, 34, 35, 36, 37, 38, 39, 40, 41, 42, 43, 44, 45, 46, 47, 48, 49, 50, 51, 52, 53, 54, 55, 56, 57, 58, 59, 60, 61, 62, 63, 64, 65, 2] : List Nat).getD k 0), rfl, below_drew' (Below.refl X7.heap.size X7), hideG TabZ.start⟩
      · intro i l a U hi hInv
        obtain ⟨z, ha, hS, hz⟩ := hInv
        subst ha
        obtain ⟨hun, o, ho, _⟩ := mem_ready.mp hi
        have hlt := (Array.getElem?_eq_some_iff.mp ho).1
        clear ho
        simp only [List.size_toArray, List.length_cons, List.length_nil, Nat.reduceAdd] at hlt
        obtain rfl | rfl | rfl | rfl | rfl | rfl | rfl | rfl | rfl | rfl | rfl | rfl | rfl | rfl | rfl | rfl | rfl | rfl | rfl | rfl | rfl | rfl | rfl | rfl | rfl | rfl | rfl | rfl | rfl | rfl | rfl | rfl | rfl | rfl | rfl | rfl : i = 0 ∨ i = 1 ∨ i = 2 ∨ i = 3 ∨ i = 4 ∨ i = 5 ∨ i = 6 ∨ i = 7 ∨ i = 8 ∨ i = 9 ∨ i = 10 ∨ i = 11 ∨ i = 12 ∨ i = 13 ∨ i = 14 ∨ i = 15 ∨ i = 16 ∨ i = 17 ∨ i = 18 ∨ i = 19 ∨ i = 20 ∨ i = 21 ∨ i = 22 ∨ i = 23 ∨ i = 24 ∨ i = 25 ∨ i = 26 ∨ i = 27 ∨ i = 28 ∨ i = 29 ∨ i = 30 ∨ i = 31 ∨ i = 32 ∨ i = 33 ∨ i = 34 ∨ i = 35 := by omega
        · have FB := hideG (BX8.out.below hS)
          have p0 := FB.out.c0
          have p1 := FB.out.c1
          have p2 := FB.out.c2
          have p3 := FB.out.c3
          have p4 := FB.out.c4
          have plt := FB.out.lt
          refine inv_step (by rfl) (fun K hK => ?_)
          go_simp
          exact hK.out _ _ ⟨upZ z 0 (.agg #[.slice ta V.tree.length tc, .slice oa V.op.length oc, .slice ma V.modal.length mc, .slice pa V.pops.length pc, .slice qa V.top.length qc]), rfl, hS, hideG (TabZ.step hz.out rfl)⟩
        · have e0 : z 0 = .agg #[.slice ta V.tree.length tc, .slice oa V.op.length oc, .slice ma V.modal.length mc, .slice pa V.pops.length pc, .slice qa V.top.length qc] := hz.out 0 (by decide) (dep_of hi (d := 0) (by kernel_rfl))
          rw [e0]
          refine inv_step (by rfl) (fun K hK => ?_)
          go_simp
          (go_at_call 24; refine Calls.mono (checkV_any _ _ _ _ _ V U (HV8.out.below hS) HS.out HL.out) ?_; rintro ex w9 ⟨rfl, hb⟩)
          exact hK.out _ _ ⟨upZ (upZ z 0 (.agg #[.slice ta V.tree.length tc, .slice oa V.op.length oc, .slice ma V.modal.length mc, .slice pa V.pops.length pc, .slice qa V.top.length qc])) 1 (.int .i64 (checkV V)), rfl, hS.trans (hb.mono hS.size), hideG (TabZ.step (TabZ.mono (TabZ.fill hz.out e0) (TellP.mono hb)) rfl)⟩
        · have FB := hideG (BX8.out.below hS)
          have p0 := FB.out.c0
          have p1 := FB.out.c1
          have p2 := FB.out.c2
          have p3 := FB.out.c3
          have p4 := FB.out.c4
          have plt := FB.out.lt
          refine inv_step (by rfl) (fun K hK => ?_)
          go_simp
          exact hK.out _ _ ⟨upZ z 2 (.agg #[.slice ta V.tree.length tc, .slice oa V.op.length oc, .slice ma V.modal.length mc, .slice pa V.pops.length pc, .slice qa V.top.length qc]), rfl, hS, hideG (TabZ.step hz.out rfl)⟩
        · have e2 : z 2 = .agg #[.slice ta V.tree.length tc, .slice oa V.op.length oc, .slice ma V.modal.length mc, .slice pa V.pops.length pc, .slice qa V.top.length qc] := hz.out 2 (by decide) (dep_of hi (d := 2) (by kernel_rfl))
          rw [e2]
          refine inv_step (by rfl) (fun K hK => ?_)
          go_simp
          (go_at_call 20; refine Calls.mono (refCheck10_any _ _ _ _ _ V U (HV8.out.below hS) HS.out (by have h := HL.out; unfold smallL at h; omega)) ?_; rintro ex w9 ⟨rfl, hb⟩)
          exact hK.out _ _ ⟨upZ (upZ z 2 (.agg #[.slice ta V.tree.length tc, .slice oa V.op.length oc, .slice ma V.modal.length mc, .slice pa V.pops.length pc, .slice qa V.top.length qc])) 3 (.int .i64 (checkV V)), rfl, hS.trans (hb.mono hS.size), hideG (TabZ.step (TabZ.mono (TabZ.fill hz.out e2) (TellP.mono hb)) rfl)⟩
        · have e1 : z 1 = .int .i64 (checkV V) := hz.out 1 (by decide) (dep_of hi (d := 1) (by kernel_rfl))
          have e3 : z 3 = .int .i64 (checkV V) := hz.out 3 (by decide) (dep_of hi (d := 3) (by kernel_rfl))
          rw [e1, e3]
          refine inv_step (by rfl) (fun K hK => ?_)
          go_simp
          exact hK.out _ _ ⟨upZ (upZ (upZ z 1 (.int .i64 (checkV V))) 3 (.int .i64 (checkV V))) 4 (.bool true), rfl, hS, hideG (TabZ.step (TabZ.fill (TabZ.fill hz.out e1) e3) rfl)⟩
        · have e4 : z 4 = .bool true := hz.out 4 (by decide) (dep_of hi (d := 4) (by kernel_rfl))
          rw [e4]
          refine inv_step (by rfl) (fun K hK => ?_)
          go_simp
          exact hK.out _ _ ⟨upZ (upZ z 4 (.bool true)) 5 (.bool true), rfl, hS, hideG (TabZ.step (TabZ.fill hz.out e4) rfl)⟩
        · have e5 : z 5 = .bool true := hz.out 5 (by decide) (dep_of hi (d := 5) (by kernel_rfl))
          rw [e5]
          have FB := hideG (BX8.out.below hS)
          have p0 := FB.out.c0
          have p1 := FB.out.c1
          have p2 := FB.out.c2
          have p3 := FB.out.c3
          have p4 := FB.out.c4
          have plt := FB.out.lt
          refine inv_step (by rfl) (fun K hK => ?_)
          go_simp
          exact hK.out _ _ ⟨upZ (upZ z 5 (.bool true)) 6 (.agg #[.slice ta V.tree.length tc, .slice oa V.op.length oc, .slice ma V.modal.length mc, .slice pa V.pops.length pc, .slice qa V.top.length qc]), rfl, hS, hideG (TabZ.step (TabZ.fill hz.out e5) rfl)⟩
        · have e5 : z 5 = .bool true := hz.out 5 (by decide) (dep_of hi (d := 5) (by kernel_rfl))
          have e6 : z 6 = .agg #[.slice ta V.tree.length tc, .slice oa V.op.length oc, .slice ma V.modal.length mc, .slice pa V.pops.length pc, .slice qa V.top.length qc] := hz.out 6 (by decide) (dep_of hi (d := 6) (by kernel_rfl))
          rw [e5, e6]
          refine inv_step (by rfl) (fun K hK => ?_)
          go_simp
          (go_at_call 25; refine Calls.mono (high_any _ _ _ _ _ V U (HV8.out.below hS) HS.out HL.out) ?_; rintro ex w9 ⟨rfl, hb⟩)
          exact hK.out _ _ ⟨upZ (upZ (upZ z 5 (.bool true)) 6 (.agg #[.slice ta V.tree.length tc, .slice oa V.op.length oc, .slice ma V.modal.length mc, .slice pa V.pops.length pc, .slice qa V.top.length qc])) 7 (.int .i64 (hiV V)), rfl, hS.trans (hb.mono hS.size), hideG (TabZ.step (TabZ.mono (TabZ.fill (TabZ.fill hz.out e5) e6) (TellP.mono hb)) rfl)⟩
        · have e5 : z 5 = .bool true := hz.out 5 (by decide) (dep_of hi (d := 5) (by kernel_rfl))
          rw [e5]
          refine inv_step (by rfl) (fun K hK => ?_)
          go_simp
          exact hK.out _ _ ⟨upZ (upZ z 5 (.bool true)) 8 (.int .i64 (hiV V)), rfl, hS, hideG (TabZ.step (TabZ.fill hz.out e5) rfl)⟩
        · have e5 : z 5 = .bool true := hz.out 5 (by decide) (dep_of hi (d := 5) (by kernel_rfl))
          have e7 : z 7 = .int .i64 (hiV V) := hz.out 7 (by decide) (dep_of hi (d := 7) (by kernel_rfl))
          have e8 : z 8 = .int .i64 (hiV V) := hz.out 8 (by decide) (dep_of hi (d := 8) (by kernel_rfl))
          rw [e5, e7, e8]
          refine inv_step (by rfl) (fun K hK => ?_)
          go_simp
          exact hK.out _ _ ⟨upZ (upZ (upZ (upZ z 5 (.bool true)) 7 (.int .i64 (hiV V))) 8 (.int .i64 (hiV V))) 9 (.bool true), rfl, hS, hideG (TabZ.step (TabZ.fill (TabZ.fill (TabZ.fill hz.out e5) e7) e8) rfl)⟩
        · have e5 : z 5 = .bool true := hz.out 5 (by decide) (dep_of hi (d := 5) (by kernel_rfl))
          have e9 : z 9 = .bool true := hz.out 9 (by decide) (dep_of hi (d := 9) (by kernel_rfl))
          rw [e5, e9]
          refine inv_step (by rfl) (fun K hK => ?_)
          go_simp
          exact hK.out _ _ ⟨upZ (upZ (upZ z 5 (.bool true)) 9 (.bool true)) 10 (.bool true), rfl, hS, hideG (TabZ.step (TabZ.fill (TabZ.fill hz.out e5) e9) rfl)⟩
        · have e10 : z 10 = .bool true := hz.out 10 (by decide) (dep_of hi (d := 10) (by kernel_rfl))
          rw [e10]
          refine inv_step (by rfl) (fun K hK => ?_)
          go_simp
          exact hK.out _ _ ⟨upZ (upZ z 10 (.bool true)) 11 (.bool true), rfl, hS, hideG (TabZ.step (TabZ.fill hz.out e10) rfl)⟩
        · have e11 : z 11 = .bool true := hz.out 11 (by decide) (dep_of hi (d := 11) (by kernel_rfl))
          rw [e11]
          have FB := hideG (BX8.out.below hS)
          have p0 := FB.out.c0
          have p1 := FB.out.c1
          have p2 := FB.out.c2
          have p3 := FB.out.c3
          have p4 := FB.out.c4
          have plt := FB.out.lt
          refine inv_step (by rfl) (fun K hK => ?_)
          go_simp
          exact hK.out _ _ ⟨upZ (upZ z 11 (.bool true)) 12 (.agg #[.slice ta V.tree.length tc, .slice oa V.op.length oc, .slice ma V.modal.length mc, .slice pa V.pops.length pc, .slice qa V.top.length qc]), rfl, hS, hideG (TabZ.step (TabZ.fill hz.out e11) rfl)⟩
        · have e11 : z 11 = .bool true := hz.out 11 (by decide) (dep_of hi (d := 11) (by kernel_rfl))
          have e12 : z 12 = .agg #[.slice ta V.tree.length tc, .slice oa V.op.length oc, .slice ma V.modal.length mc, .slice pa V.pops.length pc, .slice qa V.top.length qc] := hz.out 12 (by decide) (dep_of hi (d := 12) (by kernel_rfl))
          rw [e11, e12]
          refine inv_step (by rfl) (fun K hK => ?_)
          go_simp
          (go_at_call 27; refine Calls.mono (copyV_any _ _ _ _ _ V U (HV8.out.below hS) HS.out (by have h := HL.out; have h2 := HTL.out; unfold smallL at h; omega)) ?_; rintro ex w9 ⟨f, tv', ov', mv', pv', qv', rfl, hov, hb⟩)
          obtain ⟨a0, c0, rfl⟩ := hov.at.tree.shape
          obtain ⟨a1, c1, rfl⟩ := hov.at.op.shape
          obtain ⟨a2, c2, rfl⟩ := hov.at.modal.shape
          obtain ⟨a3, c3, rfl⟩ := hov.at.pops.shape
          obtain ⟨a4, c4, rfl⟩ := hov.at.top.shape
          exact hK.out _ _ ⟨upZ (upZ (upZ z 11 (.bool true)) 12 (.agg #[.slice ta V.tree.length tc, .slice oa V.op.length oc, .slice ma V.modal.length mc, .slice pa V.pops.length pc, .slice qa V.top.length qc])) 13 _, rfl, hS.trans (hb.mono hS.size), hideG (TabZ.step (TabZ.mono (TabZ.fill (TabZ.fill hz.out e11) e12) (TellP.mono hb)) ⟨_, _, _, _, _, _, _, _, _, _, rfl, hov.at⟩)⟩
        · have e11 : z 11 = .bool true := hz.out 11 (by decide) (dep_of hi (d := 11) (by kernel_rfl))
          rw [e11]
          have FB := hideG (BX8.out.below hS)
          have p0 := FB.out.c0
          have p1 := FB.out.c1
          have p2 := FB.out.c2
          have p3 := FB.out.c3
          have p4 := FB.out.c4
          have plt := FB.out.lt
          refine inv_step (by rfl) (fun K hK => ?_)
          go_simp
          exact hK.out _ _ ⟨upZ (upZ z 11 (.bool true)) 14 (.agg #[.slice ta V.tree.length tc, .slice oa V.op.length oc, .slice ma V.modal.length mc, .slice pa V.pops.length pc, .slice qa V.top.length qc]), rfl, hS, hideG (TabZ.step (TabZ.fill hz.out e11) rfl)⟩
        · have e11 : z 11 = .bool true := hz.out 11 (by decide) (dep_of hi (d := 11) (by kernel_rfl))
          have e14 : z 14 = .agg #[.slice ta V.tree.length tc, .slice oa V.op.length oc, .slice ma V.modal.length mc, .slice pa V.pops.length pc, .slice qa V.top.length qc] := hz.out 14 (by decide) (dep_of hi (d := 14) (by kernel_rfl))
          obtain ⟨a0, c0, a1, c1, a2, c2, a3, c3, a4, c4, e13, hvc⟩ : ∃ a0 c0 a1 c1 a2 c2 a3 c3 a4 c4, z 13 = .agg #[.slice a0 V.tree.length c0, .slice a1 V.op.length c1, .slice a2 V.modal.length c2, .slice a3 V.pops.length c3, .slice a4 V.top.length c4] ∧ ViewAt U (.slice a0 V.tree.length c0) (.slice a1 V.op.length c1) (.slice a2 V.modal.length c2) (.slice a3 V.pops.length c3) (.slice a4 V.top.length c4) V := hz.out 13 (by decide) (dep_of hi (d := 13) (by kernel_rfl))
          rw [e11, e14, e13]
          refine inv_step (by rfl) (fun K hK => ?_)
          go_simp
          (go_at_call 26; refine Calls.mono (sameYes _ _ _ _ _ _ _ _ _ _ V U hvc (HV8.out.below hS) HS.out (by have h := HL.out; have h2 := HTL.out; unfold smallL at h; omega)) ?_; rintro ex w9 ⟨rfl, hb⟩)
          exact hK.out _ _ ⟨upZ (upZ (upZ (upZ z 11 (.bool true)) 14 (.agg #[.slice ta V.tree.length tc, .slice oa V.op.length oc, .slice ma V.modal.length mc, .slice pa V.pops.length pc, .slice qa V.top.length qc])) 13 (.agg #[.slice a0 V.tree.length c0, .slice a1 V.op.length c1, .slice a2 V.modal.length c2, .slice a3 V.pops.length c3, .slice a4 V.top.length c4])) 15 (.bool true), rfl, hS.trans (hb.mono hS.size), hideG (TabZ.step (TabZ.mono (TabZ.fill (TabZ.fill (TabZ.fill hz.out e11) e14) e13) (TellP.mono hb)) rfl)⟩
        · have e11 : z 11 = .bool true := hz.out 11 (by decide) (dep_of hi (d := 11) (by kernel_rfl))
          have e15 : z 15 = .bool true := hz.out 15 (by decide) (dep_of hi (d := 15) (by kernel_rfl))
          rw [e11, e15]
          refine inv_step (by rfl) (fun K hK => ?_)
          go_simp
          exact hK.out _ _ ⟨upZ (upZ (upZ z 11 (.bool true)) 15 (.bool true)) 16 (.bool true), rfl, hS, hideG (TabZ.step (TabZ.fill (TabZ.fill hz.out e11) e15) rfl)⟩
        · have e16 : z 16 = .bool true := hz.out 16 (by decide) (dep_of hi (d := 16) (by kernel_rfl))
          rw [e16]
          refine inv_step (by rfl) (fun K hK => ?_)
          go_simp
          exact hK.out _ _ ⟨upZ (upZ z 16 (.bool true)) 17 (.bool true), rfl, hS, hideG (TabZ.step (TabZ.fill hz.out e16) rfl)⟩
        · have e17 : z 17 = .bool true := hz.out 17 (by decide) (dep_of hi (d := 17) (by kernel_rfl))
          rw [e17]
          have FB := hideG (BA8.out.below hS)
          have p0 := FB.out.c0
          have p1 := FB.out.c1
          have p2 := FB.out.c2
          have p3 := FB.out.c3
          have p4 := FB.out.c4
          have plt := FB.out.lt
          refine inv_step (by rfl) (fun K hK => ?_)
          go_simp
          exact hK.out _ _ ⟨upZ (upZ z 17 (.bool true)) 18 (.agg #[.slice aA0 (fixW V).tree.length cA0, .slice aA1 (fixW V).op.length cA1, .slice aA2 (fixW V).modal.length cA2, .slice aA3 (fixW V).pops.length cA3, .slice aA4 (fixW V).top.length cA4]), rfl, hS, hideG (TabZ.step (TabZ.fill hz.out e17) rfl)⟩
        · have e17 : z 17 = .bool true := hz.out 17 (by decide) (dep_of hi (d := 17) (by kernel_rfl))
          rw [e17]
          have FB := hideG (BB8.out.below hS)
          have p0 := FB.out.c0
          have p1 := FB.out.c1
          have p2 := FB.out.c2
          have p3 := FB.out.c3
          have p4 := FB.out.c4
          have plt := FB.out.lt
          refine inv_step (by rfl) (fun K hK => ?_)
          go_simp
          exact hK.out _ _ ⟨upZ (upZ z 17 (.bool true)) 19 (.agg #[.slice aB0 (fixW V).tree.length cB0, .slice aB1 (fixW V).op.length cB1, .slice aB2 (fixW V).modal.length cB2, .slice aB3 (fixW V).pops.length cB3, .slice aB4 (fixW V).top.length cB4]), rfl, hS, hideG (TabZ.step (TabZ.fill hz.out e17) rfl)⟩
        · have e17 : z 17 = .bool true := hz.out 17 (by decide) (dep_of hi (d := 17) (by kernel_rfl))
          have e18 : z 18 = .agg #[.slice aA0 (fixW V).tree.length cA0, .slice aA1 (fixW V).op.length cA1, .slice aA2 (fixW V).modal.length cA2, .slice aA3 (fixW V).pops.length cA3, .slice aA4 (fixW V).top.length cA4] := hz.out 18 (by decide) (dep_of hi (d := 18) (by kernel_rfl))
          have e19 : z 19 = .agg #[.slice aB0 (fixW V).tree.length cB0, .slice aB1 (fixW V).op.length cB1, .slice aB2 (fixW V).modal.length cB2, .slice aB3 (fixW V).pops.length cB3, .slice aB4 (fixW V).top.length cB4] := hz.out 19 (by decide) (dep_of hi (d := 19) (by kernel_rfl))
          rw [e17, e18, e19]
          refine inv_step (by rfl) (fun K hK => ?_)
          go_simp
          (go_at_call 26; refine Calls.mono (sameYes _ _ _ _ _ _ _ _ _ _ (fixW V) U (HA8.out.below hS) (HB8.out.below hS) (fixW_ok HS.out HL.out HTL.out).1 (fixW_ok HS.out HL.out HTL.out).2) ?_; rintro ex w9 ⟨rfl, hb⟩)
          exact hK.out _ _ ⟨upZ (upZ (upZ (upZ z 17 (.bool true)) 18 (.agg #[.slice aA0 (fixW V).tree.length cA0, .slice aA1 (fixW V).op.length cA1, .slice aA2 (fixW V).modal.length cA2, .slice aA3 (fixW V).pops.length cA3, .slice aA4 (fixW V).top.length cA4])) 19 (.agg #[.slice aB0 (fixW V).tree.length cB0, .slice aB1 (fixW V).op.length cB1, .slice aB2 (fixW V).modal.length cB2, .slice aB3 (fixW V).pops.length cB3, .slice aB4 (fixW V).top.length cB4])) 20 (.bool true), rfl, hS.trans (hb.mono hS.size), hideG (TabZ.step (TabZ.mono (TabZ.fill (TabZ.fill (TabZ.fill hz.out e17) e18) e19) (TellP.mono hb)) rfl)⟩
        · have e17 : z 17 = .bool true := hz.out 17 (by decide) (dep_of hi (d := 17) (by kernel_rfl))
          have e20 : z 20 = .bool true := hz.out 20 (by decide) (dep_of hi (d := 20) (by kernel_rfl))
          rw [e17, e20]
          refine inv_step (by rfl) (fun K hK => ?_)
          go_simp
          exact hK.out _ _ ⟨upZ (upZ (upZ z 17 (.bool true)) 20 (.bool true)) 21 (.bool true), rfl, hS, hideG (TabZ.step (TabZ.fill (TabZ.fill hz.out e17) e20) rfl)⟩
        · have e21 : z 21 = .bool true := hz.out 21 (by decide) (dep_of hi (d := 21) (by kernel_rfl))
          rw [e21]
          refine inv_step (by rfl) (fun K hK => ?_)
          go_simp
          exact hK.out _ _ ⟨upZ (upZ z 21 (.bool true)) 22 (.bool true), rfl, hS, hideG (TabZ.step (TabZ.fill hz.out e21) rfl)⟩
        · have e22 : z 22 = .bool true := hz.out 22 (by decide) (dep_of hi (d := 22) (by kernel_rfl))
          rw [e22]
          refine inv_step (by rfl) (fun K hK => ?_)
          go_simp
          exact hK.out _ _ ⟨upZ (upZ z 22 (.bool true)) 23 (.slice ga (fixGW V).length gc), rfl, hS, hideG (TabZ.step (TabZ.fill hz.out e22) rfl)⟩
        · have e22 : z 22 = .bool true := hz.out 22 (by decide) (dep_of hi (d := 22) (by kernel_rfl))
          rw [e22]
          refine inv_step (by rfl) (fun K hK => ?_)
          go_simp
          exact hK.out _ _ ⟨upZ (upZ z 22 (.bool true)) 24 (.slice gb (fixGW V).length gd), rfl, hS, hideG (TabZ.step (TabZ.fill hz.out e22) rfl)⟩
        · have e22 : z 22 = .bool true := hz.out 22 (by decide) (dep_of hi (d := 22) (by kernel_rfl))
          have e23 : z 23 = .slice ga (fixGW V).length gc := hz.out 23 (by decide) (dep_of hi (d := 23) (by kernel_rfl))
          have e24 : z 24 = .slice gb (fixGW V).length gd := hz.out 24 (by decide) (dep_of hi (d := 24) (by kernel_rfl))
          rw [e22, e23, e24]
          refine inv_step (by rfl) (fun K hK => ?_)
          go_simp
          (go_at_call 28; refine Calls.mono (lints' (fixGW V) _ _ U (HG8.out.below hS) (HH8.out.below hS) (fixGW_len HL.out)) ?_; rintro ex w9 ⟨rfl, hb⟩)
          exact hK.out _ _ ⟨upZ (upZ (upZ (upZ z 22 (.bool true)) 23 (.slice ga (fixGW V).length gc)) 24 (.slice gb (fixGW V).length gd)) 25 (.bool true), rfl, hS.trans (hb.mono hS.size), hideG (TabZ.step (TabZ.mono (TabZ.fill (TabZ.fill (TabZ.fill hz.out e22) e23) e24) (TellP.mono hb)) rfl)⟩
        · have e22 : z 22 = .bool true := hz.out 22 (by decide) (dep_of hi (d := 22) (by kernel_rfl))
          have e25 : z 25 = .bool true := hz.out 25 (by decide) (dep_of hi (d := 25) (by kernel_rfl))
          rw [e22, e25]
          refine inv_step (by rfl) (fun K hK => ?_)
          go_simp
          exact hK.out _ _ ⟨upZ (upZ (upZ z 22 (.bool true)) 25 (.bool true)) 26 (.bool true), rfl, hS, hideG (TabZ.step (TabZ.fill (TabZ.fill hz.out e22) e25) rfl)⟩
        · have e26 : z 26 = .bool true := hz.out 26 (by decide) (dep_of hi (d := 26) (by kernel_rfl))
          rw [e26]
          refine inv_step (by rfl) (fun K hK => ?_)
          go_simp
          exact hK.out _ _ ⟨upZ (upZ z 26 (.bool true)) 27 (.bool true), rfl, hS, hideG (TabZ.step (TabZ.fill hz.out e26) rfl)⟩
        · have e27 : z 27 = .bool true := hz.out 27 (by decide) (dep_of hi (d := 27) (by kernel_rfl))
          rw [e27]
          refine inv_step (by rfl) (fun K hK => ?_)
          go_simp
          exact hK.out _ _ ⟨upZ (upZ z 27 (.bool true)) 28 (.int .i64 (checkE V.tree)), rfl, hS, hideG (TabZ.step (TabZ.fill hz.out e27) rfl)⟩
        · have e27 : z 27 = .bool true := hz.out 27 (by decide) (dep_of hi (d := 27) (by kernel_rfl))
          rw [e27]
          refine inv_step (by rfl) (fun K hK => ?_)
          go_simp
          exact hK.out _ _ ⟨upZ (upZ z 27 (.bool true)) 29 (.int .i64 (checkE V.tree)), rfl, hS, hideG (TabZ.step (TabZ.fill hz.out e27) rfl)⟩
        · have e27 : z 27 = .bool true := hz.out 27 (by decide) (dep_of hi (d := 27) (by kernel_rfl))
          have e28 : z 28 = .int .i64 (checkE V.tree) := hz.out 28 (by decide) (dep_of hi (d := 28) (by kernel_rfl))
          have e29 : z 29 = .int .i64 (checkE V.tree) := hz.out 29 (by decide) (dep_of hi (d := 29) (by kernel_rfl))
          rw [e27, e28, e29]
          refine inv_step (by rfl) (fun K hK => ?_)
          go_simp
          exact hK.out _ _ ⟨upZ (upZ (upZ (upZ z 27 (.bool true)) 28 (.int .i64 (checkE V.tree))) 29 (.int .i64 (checkE V.tree))) 30 (.bool true), rfl, hS, hideG (TabZ.step (TabZ.fill (TabZ.fill (TabZ.fill hz.out e27) e28) e29) rfl)⟩
        · have e27 : z 27 = .bool true := hz.out 27 (by decide) (dep_of hi (d := 27) (by kernel_rfl))
          have e30 : z 30 = .bool true := hz.out 30 (by decide) (dep_of hi (d := 30) (by kernel_rfl))
          rw [e27, e30]
          refine inv_step (by rfl) (fun K hK => ?_)
          go_simp
          exact hK.out _ _ ⟨upZ (upZ (upZ z 27 (.bool true)) 30 (.bool true)) 31 (.bool true), rfl, hS, hideG (TabZ.step (TabZ.fill (TabZ.fill hz.out e27) e30) rfl)⟩
        · have e31 : z 31 = .bool true := hz.out 31 (by decide) (dep_of hi (d := 31) (by kernel_rfl))
          rw [e31]
          refine inv_step (by rfl) (fun K hK => ?_)
          go_simp
          exact hK.out _ _ ⟨upZ (upZ z 31 (.bool true)) 32 (.bool true), rfl, hS, hideG (TabZ.step (TabZ.fill hz.out e31) rfl)⟩
        · have e32 : z 32 = .bool true := hz.out 32 (by decide) (dep_of hi (d := 32) (by kernel_rfl))
          rw [e32]
          refine inv_step (by rfl) (fun K hK => ?_)
          go_simp
          (go_at_call 19; refine Calls.mono (live10_any U) ?_; rintro ex w9 ⟨rfl, hb⟩)
          exact hK.out _ _ ⟨upZ (upZ z 32 (.bool true)) 33 (.bool true), rfl, hS.trans (hb.mono hS.size), hideG (TabZ.step (TabZ.mono (TabZ.fill hz.out e32) (TellP.mono hb)) rfl)⟩
        · have e32 : z 32 = .bool true := hz.out 32 (by decide) (dep_of hi (d := 32) (by kernel_rfl))
          have e33 : z 33 = .bool true := hz.out 33 (by decide) (dep_of hi (d := 33) (by kernel_rfl))
          rw [e32, e33]
          refine inv_step (by rfl) (fun K hK => ?_)
          go_simp
          exact hK.out _ _ ⟨upZ (upZ (upZ z 32 (.bool true)) 33 (.bool true)) 34 (.bool true), rfl, hS, hideG (TabZ.step (TabZ.fill (TabZ.fill hz.out e32) e33) rfl)⟩
        · have e34 : z 34 = .bool true := hz.out 34 (by decide) (dep_of hi (d := 34) (by kernel_rfl))
          rw [e34]
          refine inv_step (by rfl) (fun K hK => ?_)
          go_simp
          exact hK.out _ _ ⟨upZ (upZ z 34 (.bool true)) 35 (.bool true), rfl, hS, hideG (TabZ.step (TabZ.fill hz.out e34) rfl)⟩
      · intro l a U hall hInv
        obtain ⟨z, ha, hS, hz⟩ := hInv
        subst ha
        have e35 : z 35 = .bool true := hz.out 35 (by decide) (hall 35 (by decide))
        rw [e35]
        clear hz hall
        go_wp2_with fail
        go_ret
        exact ⟨rfl, HB0.out.trans ((HBX7.out.trans (hS.mono HBX7.out.size)).mono HB0.out.size)⟩
end Go.Proofs.YtclhimodopgeoaaGreat

