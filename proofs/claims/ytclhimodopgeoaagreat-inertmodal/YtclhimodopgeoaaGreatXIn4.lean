/- Package inert: Blocked. -/
import Derived.Test.YtclhimodopgeoaaGreatXIn3
namespace Go.Proofs.YtclhimodopgeoaaGreat
open Go.RowKit

set_option maxRecDepth 100000 in
set_option maxHeartbeats 4000000 in
theorem iblocked_any (tv ov mv pv qv : Value) (V : Vw) (n : Int) (w : World) (hV : ViewAt w tv ov mv pv qv V) (hS : Sane V.tree) (hl : smallL V) :
    Calls Tryz.prog 56 #[.agg #[tv, ov, mv, pv, qv], .int .i64 n] w fun e w' => e = .returned (.bool (knownV V n && blockedB (highV V) (upI6 V.tree n.toNat))) ∧ Below w.heap.size w w' := by
  have HVV := hideG hV
  obtain ⟨hT, hO, hM, hP, hQ⟩ := hV
  obtain ⟨ta, tc, rfl⟩ := hT.shape
  obtain ⟨oa, oc, rfl⟩ := hO.shape
  obtain ⟨ma, mc, rfl⟩ := hM.shape
  obtain ⟨pa, pc, rfl⟩ := hP.shape
  obtain ⟨qa, qc, rfl⟩ := hQ.shape
  obtain ⟨W0, hW0⟩ : ∃ W0, w.alloc (.cells #[.slice ta V.tree.length tc, .slice oa V.op.length oc, .slice ma V.modal.length mc, .slice pa V.pops.length pc, .slice qa V.top.length qc] 27) = W0 := ⟨_, rfl⟩
  have HB0 := hideG (show Below w.heap.size w W0 by rw [← hW0]; exact alB _ _)
  have BX := hideG (show BoxV W0 w.heap.size _ _ _ _ _ by rw [← hW0]; exact BoxV.new _ _ _ _ _ _ _)
  have HV0 := hideG (HVV.out.below HB0.out)
  have HK := hideG (fun (U : World) (h : Below W0.heap.size W0 U) => iknown_any _ _ _ _ _ V n U (HV0.out.below h) hS hl)
  have HH0 := hideG (fun (hck : checkV V = 0) (U : World) (h : Below W0.heap.size W0 U) => callsIn_wide.1 (highOk_in _ _ _ _ _ V U (HV0.out.below h) hS hl hck))
  have HS := hideG hS
  have HL := hideG hl
  have HW0 := hideG hW0
  clear hW0 hT hO hM hP hQ hS hl
  cases hk : knownV V n
  · go_enter Tryz.func56, Tryz.ntmps56
    go_wp2_with fail
    rw [HW0.out]
    clear HW0
    refine wp_region_inv (fun l ac U => ∃ z : Nat → Value, ac = { tmps := #[Value.agg #[Value.slice ta V.tree.length tc, Value.slice oa V.op.length oc, Value.slice ma V.modal.length mc, Value.slice pa V.pops.length pc, Value.slice qa V.top.length qc], Value.int IntKind.i64 n, Value.pointer (some { block := w.heap.size, off := 0 }), undef, z 12, z 0, z 1, z 2, z 3, z 4, z 5, z 6, z 7, z 8, z 9, z 10, z 11], defers := [] } ∧ Hid (TabZ 13 (PureP [.agg #[.slice ta V.tree.length tc, .slice oa V.op.length oc, .slice ma V.modal.length mc, .slice pa V.pops.length pc, .slice qa V.top.length qc], .int .i64 n, undef, .bool false, undef, undef, undef, undef, undef, undef, undef, .bool false, .bool false] [true, true, false, true, true, true, true, true, true, true, true, true, true]) l z U) ∧ Hid ((l.getD 2 true = false ∧ (Below W0.heap.size W0 U)) ∨ (l.getD 2 true = true ∧ ((z 2) = .bool false ∧ Below W0.heap.size W0 U)))) (by kernel_rfl) (by kernel_rfl) ?_ ?_ ?_
    · exact ⟨fun k => ([undef, undef, undef, undef, undef, undef, undef, undef, undef, undef, undef, undef, Value.bool false] : List Value).getD k undef, rfl, hideG TabZ.start, hideG (.inl ⟨rfl, ((Below.refl _ _).drew)⟩)⟩
    · intro i l ac U hi hInv
      obtain ⟨z, ha, hz, hst⟩ := hInv
      subst ha
      obtain ⟨hun, o, ho, _⟩ := mem_ready.mp hi
      have hlt8 := (Array.getElem?_eq_some_iff.mp ho).1
      clear ho
      simp only [List.size_toArray, List.length_cons, List.length_nil, Nat.reduceAdd] at hlt8
      obtain rfl | rfl | rfl | rfl | rfl | rfl | rfl | rfl | rfl | rfl | rfl | rfl | rfl : i = 0 ∨ i = 1 ∨ i = 2 ∨ i = 3 ∨ i = 4 ∨ i = 5 ∨ i = 6 ∨ i = 7 ∨ i = 8 ∨ i = 9 ∨ i = 10 ∨ i = 11 ∨ i = 12 := by omega
      · have hbel : Below W0.heap.size W0 U := by
          rcases hst.out with ⟨_, h⟩ | ⟨_, _, h⟩
          all_goals exact h
        have BU := BX.out.below hbel
        have p0 := BU.c0
        have p1 := BU.c1
        have p2 := BU.c2
        have p3 := BU.c3
        have p4 := BU.c4
        have plt := BU.lt
        refine inv_step (by rfl) (fun K hK => ?_)
        go_simp
        refine hK.out _ _ ⟨upZ z 0 (.agg #[.slice ta V.tree.length tc, .slice oa V.op.length oc, .slice ma V.modal.length mc, .slice pa V.pops.length pc, .slice qa V.top.length qc]), rfl, hideG (TabZ.step hz.out rfl), hideG ?_⟩
        have HST := hst.out
        clear hst hz hK
        simp only [flag_ne (show 0 ≠ 2 from by decide)]
        have E2 : upZ z 0 (.agg #[.slice ta V.tree.length tc, .slice oa V.op.length oc, .slice ma V.modal.length mc, .slice pa V.pops.length pc, .slice qa V.top.length qc]) 2 = z 2 := by simp [upZ]
        try rw [E2]
        exact HST
      · refine inv_step (by rfl) (fun K hK => ?_)
        go_simp
        refine hK.out _ _ ⟨upZ z 1 (.int .i64 n), rfl, hideG (TabZ.step hz.out rfl), hideG ?_⟩
        have HST := hst.out
        clear hst hz hK
        simp only [flag_ne (show 1 ≠ 2 from by decide)]
        have E2 : upZ z 1 (.int .i64 n) 2 = z 2 := by simp [upZ]
        try rw [E2]
        exact HST
      · have e0 : z 0 = .agg #[.slice ta V.tree.length tc, .slice oa V.op.length oc, .slice ma V.modal.length mc, .slice pa V.pops.length pc, .slice qa V.top.length qc] := hz.out 0 (by decide) (dep_of hi (d := 0) (by kernel_rfl))
        have e1 : z 1 = .int .i64 n := hz.out 1 (by decide) (dep_of hi (d := 1) (by kernel_rfl))
        rcases hst.out with hq | hq
        · obtain ⟨b2, hS⟩ := hq
          rw [e0, e1]
          refine inv_step (by rfl) (fun K hK => ?_)
          go_simp
          go_at_call 105
          refine Calls.mono (HK.out U hS) ?_
          rintro e w9 ⟨rfl, hb9⟩
          rw [hk]
          go_wp2_with fail
          refine hK.out _ _ ⟨upZ (upZ (upZ z 0 (.agg #[.slice ta V.tree.length tc, .slice oa V.op.length oc, .slice ma V.modal.length mc, .slice pa V.pops.length pc, .slice qa V.top.length qc])) 1 (.int .i64 n)) 2 (.bool false), rfl, hideG (TabZ.step (TabZ.mono (TabZ.fill (TabZ.fill hz.out e0) e1) (fun _ _ h => h)) trivial), hideG (.inr (⟨flag_self, ?_⟩))⟩
          exact ⟨by simp [upZ], hS.trans (hb9.mono hS.size)⟩
        · exact absurd (hun.symm.trans hq.1) (by decide)
      · have q2 := dep_of hi (d := 2) (by kernel_rfl)
        have e2 : z 2 = .bool false := by
          rcases hst.out with ⟨h, _⟩ | ⟨_, h, _⟩
          · exact absurd (q2.symm.trans h) (by decide)
          · exact h
        rw [e2]
        refine inv_step (by rfl) (fun K hK => ?_)
        go_simp
        refine hK.out _ _ ⟨upZ (upZ z 2 (.bool false)) 3 (.bool false), rfl, hideG (TabZ.step (TabZ.fill hz.out e2) rfl), hideG ?_⟩
        have HST := hst.out
        clear hst hz hK
        simp only [flag_ne (show 3 ≠ 2 from by decide)]
        have E2 : upZ (upZ z 2 (.bool false)) 3 (.bool false) 2 = z 2 := by simp [upZ, e2]
        try rw [E2]
        exact HST
      · have e3 : z 3 = .bool false := hz.out 3 (by decide) (dep_of hi (d := 3) (by kernel_rfl))
        rw [e3]
        refine inv_skip (by rfl) (by rfl) ?_
        simp only [Act.put, List.setIfInBounds_toArray]
        refine ⟨upZ (upZ z 3 (.bool false)) 4 (undef), rfl, hideG (TabZ.step (TabZ.fill hz.out e3) rfl), hideG ?_⟩
        have HST := hst.out
        clear hst hz
        simp only [flag_ne (show 4 ≠ 2 from by decide)]
        have E2 : upZ (upZ z 3 (.bool false)) 4 (undef) 2 = z 2 := by simp [upZ]
        try rw [E2]
        exact HST
      · have e3 : z 3 = .bool false := hz.out 3 (by decide) (dep_of hi (d := 3) (by kernel_rfl))
        rw [e3]
        refine inv_skip (by rfl) (by rfl) ?_
        simp only [Act.put, List.setIfInBounds_toArray]
        refine ⟨upZ (upZ z 3 (.bool false)) 5 (undef), rfl, hideG (TabZ.step (TabZ.fill hz.out e3) rfl), hideG ?_⟩
        have HST := hst.out
        clear hst hz
        simp only [flag_ne (show 5 ≠ 2 from by decide)]
        have E2 : upZ (upZ z 3 (.bool false)) 5 (undef) 2 = z 2 := by simp [upZ]
        try rw [E2]
        exact HST
      · have e3 : z 3 = .bool false := hz.out 3 (by decide) (dep_of hi (d := 3) (by kernel_rfl))
        rw [e3]
        refine inv_skip (by rfl) (by rfl) ?_
        simp only [Act.put, List.setIfInBounds_toArray]
        refine ⟨upZ (upZ z 3 (.bool false)) 6 (undef), rfl, hideG (TabZ.step (TabZ.fill hz.out e3) rfl), hideG ?_⟩
        have HST := hst.out
        clear hst hz
        simp only [flag_ne (show 6 ≠ 2 from by decide)]
        have E2 : upZ (upZ z 3 (.bool false)) 6 (undef) 2 = z 2 := by simp [upZ]
        try rw [E2]
        exact HST
      · have e3 : z 3 = .bool false := hz.out 3 (by decide) (dep_of hi (d := 3) (by kernel_rfl))
        rw [e3]
        refine inv_skip (by rfl) (by rfl) ?_
        simp only [Act.put, List.setIfInBounds_toArray]
        refine ⟨upZ (upZ z 3 (.bool false)) 7 (undef), rfl, hideG (TabZ.step (TabZ.fill hz.out e3) rfl), hideG ?_⟩
        have HST := hst.out
        clear hst hz
        simp only [flag_ne (show 7 ≠ 2 from by decide)]
        have E2 : upZ (upZ z 3 (.bool false)) 7 (undef) 2 = z 2 := by simp [upZ]
        try rw [E2]
        exact HST
      · have e3 : z 3 = .bool false := hz.out 3 (by decide) (dep_of hi (d := 3) (by kernel_rfl))
        rw [e3]
        refine inv_skip (by rfl) (by rfl) ?_
        simp only [Act.put, List.setIfInBounds_toArray]
        refine ⟨upZ (upZ z 3 (.bool false)) 8 (undef), rfl, hideG (TabZ.step (TabZ.fill hz.out e3) rfl), hideG ?_⟩
        have HST := hst.out
        clear hst hz
        simp only [flag_ne (show 8 ≠ 2 from by decide)]
        have E2 : upZ (upZ z 3 (.bool false)) 8 (undef) 2 = z 2 := by simp [upZ]
        try rw [E2]
        exact HST
      · have e3 : z 3 = .bool false := hz.out 3 (by decide) (dep_of hi (d := 3) (by kernel_rfl))
        rw [e3]
        refine inv_skip (by rfl) (by rfl) ?_
        simp only [Act.put, List.setIfInBounds_toArray]
        refine ⟨upZ (upZ z 3 (.bool false)) 9 (undef), rfl, hideG (TabZ.step (TabZ.fill hz.out e3) rfl), hideG ?_⟩
        have HST := hst.out
        clear hst hz
        simp only [flag_ne (show 9 ≠ 2 from by decide)]
        have E2 : upZ (upZ z 3 (.bool false)) 9 (undef) 2 = z 2 := by simp [upZ]
        try rw [E2]
        exact HST
      · have e3 : z 3 = .bool false := hz.out 3 (by decide) (dep_of hi (d := 3) (by kernel_rfl))
        rw [e3]
        refine inv_skip (by rfl) (by rfl) ?_
        simp only [Act.put, List.setIfInBounds_toArray]
        refine ⟨upZ (upZ z 3 (.bool false)) 10 (undef), rfl, hideG (TabZ.step (TabZ.fill hz.out e3) rfl), hideG ?_⟩
        have HST := hst.out
        clear hst hz
        simp only [flag_ne (show 10 ≠ 2 from by decide)]
        have E2 : upZ (upZ z 3 (.bool false)) 10 (undef) 2 = z 2 := by simp [upZ]
        try rw [E2]
        exact HST
      · have e3 : z 3 = .bool false := hz.out 3 (by decide) (dep_of hi (d := 3) (by kernel_rfl))
        rw [e3]
        refine inv_step (by rfl) (fun K hK => ?_)
        go_simp
        refine hK.out _ _ ⟨upZ (upZ z 3 (.bool false)) 11 (.bool false), rfl, hideG (TabZ.step (TabZ.fill hz.out e3) rfl), hideG ?_⟩
        have HST := hst.out
        clear hst hz hK
        simp only [flag_ne (show 11 ≠ 2 from by decide)]
        have E2 : upZ (upZ z 3 (.bool false)) 11 (.bool false) 2 = z 2 := by simp [upZ]
        try rw [E2]
        exact HST
      · have e11 : z 11 = .bool false := hz.out 11 (by decide) (dep_of hi (d := 11) (by kernel_rfl))
        rw [e11]
        refine inv_step (by rfl) (fun K hK => ?_)
        go_simp
        refine hK.out _ _ ⟨upZ (upZ z 11 (.bool false)) 12 (.bool false), rfl, hideG (TabZ.step (TabZ.fill hz.out e11) rfl), hideG ?_⟩
        have HST := hst.out
        clear hst hz hK
        simp only [flag_ne (show 12 ≠ 2 from by decide)]
        have E2 : upZ (upZ z 11 (.bool false)) 12 (.bool false) 2 = z 2 := by simp [upZ]
        try rw [E2]
        exact HST
    · intro l ac U hall hInv
      obtain ⟨z, ha, hz, hst⟩ := hInv
      subst ha
      have e0 : z 0 = .agg #[.slice ta V.tree.length tc, .slice oa V.op.length oc, .slice ma V.modal.length mc, .slice pa V.pops.length pc, .slice qa V.top.length qc] := hz.out 0 (by decide) (hall 0 (by decide))
      have e1 : z 1 = .int .i64 n := hz.out 1 (by decide) (hall 1 (by decide))
      have e3 : z 3 = .bool false := hz.out 3 (by decide) (hall 3 (by decide))
      have e11 : z 11 = .bool false := hz.out 11 (by decide) (hall 11 (by decide))
      have e12 : z 12 = .bool false := hz.out 12 (by decide) (hall 12 (by decide))
      have e4 : z 4 = undef := hz.out 4 (by decide) (hall 4 (by decide))
      have e5 : z 5 = undef := hz.out 5 (by decide) (hall 5 (by decide))
      have e6 : z 6 = undef := hz.out 6 (by decide) (hall 6 (by decide))
      have e7 : z 7 = undef := hz.out 7 (by decide) (hall 7 (by decide))
      have e8 : z 8 = undef := hz.out 8 (by decide) (hall 8 (by decide))
      have e9 : z 9 = undef := hz.out 9 (by decide) (hall 9 (by decide))
      have e10 : z 10 = undef := hz.out 10 (by decide) (hall 10 (by decide))
      rcases hst.out with hq | hq
      · exact absurd ((hall 2 (by decide)).symm.trans hq.1) (by decide)
      · obtain ⟨_, hS⟩ := hq
        clear hz hall hst
        rw [e0, e1, e3, e11, e12, e4, e5, e6, e7, e8, e9, e10]
        have HBU := hideG hS.2
        clear hS
        go_wp2_with fail
        go_ret
        exact ⟨ret_bool (by simp), HB0.out.trans (HBU.out.mono HB0.out.size)⟩
  · have HKF := hideG hk
    unfold knownV at hk
    simp only [Bool.and_eq_true, beq_iff_eq, decide_eq_true_eq] at hk
    obtain ⟨hck, hn0, hn1⟩ := hk
    obtain ⟨m, rfl⟩ : ∃ m : Nat, n = (m : Int) := ⟨n.toNat, by omega⟩
    have HMAY := hideG (check_iff.mp hck).1
    have HH := hideG (HH0.out hck)
    have hmn : m < V.tree.length := by omega
    have HU := hideG (fun (U : World) (h : Below W0.heap.size W0 U) => (by have t := flatUp_any V.tree HS.out _ (m : Int) U ((HV0.out.below h).tree); rw [fupI_node HMAY.out hmn] at t; exact t))
    obtain ⟨hu1, hu2, _⟩ := upI6_len HMAY.out hmn
    have HRES := hideG (show (true && blockedB (highV V) (upI6 V.tree (m : Int).toNat)) = blockedB (highV V) (upI6 V.tree m) by rw [Bool.true_and, Int.toNat_natCast])
    clear hck hn0 HH0
    generalize upI6 V.tree m = up at *
    go_enter Tryz.func56, Tryz.ntmps56
    go_wp2_with fail
    rw [HW0.out]
    clear HW0
    refine wp_region_inv (fun l ac U => ∃ z : Nat → Value, ac = { tmps := #[Value.agg #[Value.slice ta V.tree.length tc, Value.slice oa V.op.length oc, Value.slice ma V.modal.length mc, Value.slice pa V.pops.length pc, Value.slice qa V.top.length qc], Value.int IntKind.i64 ((m : Nat) : Int), Value.pointer (some { block := w.heap.size, off := 0 }), undef, z 12, z 0, z 1, z 2, z 3, z 4, z 5, z 6, z 7, z 8, z 9, z 10, z 11], defers := [] } ∧ Hid (TabZ 13 (PureP [.agg #[.slice ta V.tree.length tc, .slice oa V.op.length oc, .slice ma V.modal.length mc, .slice pa V.pops.length pc, .slice qa V.top.length qc], .int .i64 (m : Int), undef, .bool true, .agg #[.slice ta V.tree.length tc, .slice oa V.op.length oc, .slice ma V.modal.length mc, .slice pa V.pops.length pc, .slice qa V.top.length qc], .int .i64 (highV V), .pointer (some ⟨w.heap.size, 0, none⟩), .slice ta V.tree.length tc, .int .i64 (m : Int), undef, undef, .bool (blockedB (highV V) up), .bool (blockedB (highV V) up)] [true, true, false, true, true, true, true, true, true, false, false, true, true]) l z U) ∧ Hid ((l.getD 2 true = false ∧ l.getD 9 true = false ∧ l.getD 10 true = false ∧ l.getD 3 true = false ∧ (Below W0.heap.size W0 U)) ∨ (l.getD 2 true = true ∧ l.getD 9 true = false ∧ l.getD 10 true = false ∧ ((z 2) = .bool true ∧ Below W0.heap.size W0 U)) ∨ (l.getD 2 true = true ∧ l.getD 9 true = true ∧ l.getD 10 true = false ∧ ((z 2) = .bool true ∧ ∃ (ua : Option Addr) (uc : Nat), (z 9) = .slice ua up.length uc ∧ IntsAt U (.slice ua up.length uc) up ∧ Below W0.heap.size W0 U)) ∨ (l.getD 2 true = true ∧ l.getD 9 true = true ∧ l.getD 10 true = true ∧ ((z 2) = .bool true ∧ (z 10) = .bool (blockedB (highV V) up) ∧ Below W0.heap.size W0 U)))) (by kernel_rfl) (by kernel_rfl) ?_ ?_ ?_
    · exact ⟨fun k => ([undef, undef, undef, undef, undef, undef, undef, undef, undef, undef, undef, undef, Value.bool false] : List Value).getD k undef, rfl, hideG TabZ.start, hideG (.inl ⟨rfl, rfl, rfl, rfl, ((Below.refl _ _).drew)⟩)⟩
    · intro i l ac U hi hInv
      obtain ⟨z, ha, hz, hst⟩ := hInv
      subst ha
      obtain ⟨hun, o, ho, _⟩ := mem_ready.mp hi
      have hlt8 := (Array.getElem?_eq_some_iff.mp ho).1
      clear ho
      simp only [List.size_toArray, List.length_cons, List.length_nil, Nat.reduceAdd] at hlt8
      obtain rfl | rfl | rfl | rfl | rfl | rfl | rfl | rfl | rfl | rfl | rfl | rfl | rfl : i = 0 ∨ i = 1 ∨ i = 2 ∨ i = 3 ∨ i = 4 ∨ i = 5 ∨ i = 6 ∨ i = 7 ∨ i = 8 ∨ i = 9 ∨ i = 10 ∨ i = 11 ∨ i = 12 := by omega
      · have hbel : Below W0.heap.size W0 U := by
          rcases hst.out with ⟨_, _, _, _, h⟩ | ⟨_, _, _, _, h⟩ | ⟨_, _, _, _, _, _, _, _, h⟩ | ⟨_, _, _, _, _, h⟩
          all_goals exact h
        have BU := BX.out.below hbel
        have p0 := BU.c0
        have p1 := BU.c1
        have p2 := BU.c2
        have p3 := BU.c3
        have p4 := BU.c4
        have plt := BU.lt
        refine inv_step (by rfl) (fun K hK => ?_)
        go_simp
        refine hK.out _ _ ⟨upZ z 0 (.agg #[.slice ta V.tree.length tc, .slice oa V.op.length oc, .slice ma V.modal.length mc, .slice pa V.pops.length pc, .slice qa V.top.length qc]), rfl, hideG (TabZ.step hz.out rfl), hideG ?_⟩
        have HST := hst.out
        clear hst hz hK
        simp only [flag_ne (show 0 ≠ 2 from by decide), flag_ne (show 0 ≠ 9 from by decide), flag_ne (show 0 ≠ 10 from by decide)]
        simp only [flag_ne (show 0 ≠ 3 from by decide)]
        have E2 : upZ z 0 (.agg #[.slice ta V.tree.length tc, .slice oa V.op.length oc, .slice ma V.modal.length mc, .slice pa V.pops.length pc, .slice qa V.top.length qc]) 2 = z 2 := by simp [upZ]
        have E9 : upZ z 0 (.agg #[.slice ta V.tree.length tc, .slice oa V.op.length oc, .slice ma V.modal.length mc, .slice pa V.pops.length pc, .slice qa V.top.length qc]) 9 = z 9 := by simp [upZ]
        have E10 : upZ z 0 (.agg #[.slice ta V.tree.length tc, .slice oa V.op.length oc, .slice ma V.modal.length mc, .slice pa V.pops.length pc, .slice qa V.top.length qc]) 10 = z 10 := by simp [upZ]
        try rw [E2]
        try rw [E9]
        try rw [E10]
        exact HST
      · refine inv_step (by rfl) (fun K hK => ?_)
        go_simp
        refine hK.out _ _ ⟨upZ z 1 (.int .i64 (m : Int)), rfl, hideG (TabZ.step hz.out rfl), hideG ?_⟩
        have HST := hst.out
        clear hst hz hK
        simp only [flag_ne (show 1 ≠ 2 from by decide), flag_ne (show 1 ≠ 9 from by decide), flag_ne (show 1 ≠ 10 from by decide)]
        simp only [flag_ne (show 1 ≠ 3 from by decide)]
        have E2 : upZ z 1 (.int .i64 (m : Int)) 2 = z 2 := by simp [upZ]
        have E9 : upZ z 1 (.int .i64 (m : Int)) 9 = z 9 := by simp [upZ]
        have E10 : upZ z 1 (.int .i64 (m : Int)) 10 = z 10 := by simp [upZ]
        try rw [E2]
        try rw [E9]
        try rw [E10]
        exact HST
      · have e0 : z 0 = .agg #[.slice ta V.tree.length tc, .slice oa V.op.length oc, .slice ma V.modal.length mc, .slice pa V.pops.length pc, .slice qa V.top.length qc] := hz.out 0 (by decide) (dep_of hi (d := 0) (by kernel_rfl))
        have e1 : z 1 = .int .i64 (m : Int) := hz.out 1 (by decide) (dep_of hi (d := 1) (by kernel_rfl))
        rcases hst.out with hq | hq | hq | hq
        · obtain ⟨b2, b9, b10, g3, hS⟩ := hq
          rw [e0, e1]
          refine inv_step (by rfl) (fun K hK => ?_)
          go_simp
          go_at_call 105
          refine Calls.mono (HK.out U hS) ?_
          rintro e w9 ⟨rfl, hb9⟩
          rw [HKF.out]
          go_wp2_with fail
          refine hK.out _ _ ⟨upZ (upZ (upZ z 0 (.agg #[.slice ta V.tree.length tc, .slice oa V.op.length oc, .slice ma V.modal.length mc, .slice pa V.pops.length pc, .slice qa V.top.length qc])) 1 (.int .i64 (m : Int))) 2 (.bool true), rfl, hideG (TabZ.step (TabZ.mono (TabZ.fill (TabZ.fill hz.out e0) e1) (fun _ _ h => h)) trivial), hideG (.inr (.inl ⟨flag_self, flag_ne' (by decide) b9, flag_ne' (by decide) b10, ?_⟩))⟩
          exact ⟨by simp [upZ], hS.trans (hb9.mono hS.size)⟩
        · exact absurd (hun.symm.trans hq.1) (by decide)
        · exact absurd (hun.symm.trans hq.1) (by decide)
        · exact absurd (hun.symm.trans hq.1) (by decide)
      · have q2 := dep_of hi (d := 2) (by kernel_rfl)
        have e2 : z 2 = .bool true := by
          rcases hst.out with ⟨h, _⟩ | ⟨_, _, _, h, _⟩ | ⟨_, _, _, h, _⟩ | ⟨_, _, _, h, _⟩
          · exact absurd (q2.symm.trans h) (by decide)
          all_goals exact h
        rw [e2]
        refine inv_step (by rfl) (fun K hK => ?_)
        go_simp
        refine hK.out _ _ ⟨upZ (upZ z 2 (.bool true)) 3 (.bool true), rfl, hideG (TabZ.step (TabZ.fill hz.out e2) rfl), hideG ?_⟩
        have HST := hst.out
        clear hst hz hK
        simp only [flag_ne (show 3 ≠ 2 from by decide), flag_ne (show 3 ≠ 9 from by decide), flag_ne (show 3 ≠ 10 from by decide)]
        have E2 : upZ (upZ z 2 (.bool true)) 3 (.bool true) 2 = z 2 := by simp [upZ, e2]
        have E9 : upZ (upZ z 2 (.bool true)) 3 (.bool true) 9 = z 9 := by simp [upZ]
        have E10 : upZ (upZ z 2 (.bool true)) 3 (.bool true) 10 = z 10 := by simp [upZ]
        try rw [E2]
        try rw [E9]
        try rw [E10]
        rcases HST with h | h | h | h
        · exact absurd ((dep_of hi (d := 2) (by kernel_rfl)).symm.trans h.1) (by decide)
        · exact .inr (.inl h)
        · exact .inr (.inr (.inl h))
        · exact .inr (.inr (.inr (h)))
      · have e3 : z 3 = .bool true := hz.out 3 (by decide) (dep_of hi (d := 3) (by kernel_rfl))
        have hbel : Below W0.heap.size W0 U := by
          rcases hst.out with ⟨_, _, _, _, h⟩ | ⟨_, _, _, _, h⟩ | ⟨_, _, _, _, _, _, _, _, h⟩ | ⟨_, _, _, _, _, h⟩
          all_goals exact h
        have BU := BX.out.below hbel
        have p0 := BU.c0
        have p1 := BU.c1
        have p2 := BU.c2
        have p3 := BU.c3
        have p4 := BU.c4
        have plt := BU.lt
        rw [e3]
        refine inv_step (by rfl) (fun K hK => ?_)
        go_simp
        refine hK.out _ _ ⟨upZ (upZ z 3 (.bool true)) 4 (.agg #[.slice ta V.tree.length tc, .slice oa V.op.length oc, .slice ma V.modal.length mc, .slice pa V.pops.length pc, .slice qa V.top.length qc]), rfl, hideG (TabZ.step (TabZ.fill hz.out e3) rfl), hideG ?_⟩
        have HST := hst.out
        clear hst hz hK
        simp only [flag_ne (show 4 ≠ 2 from by decide), flag_ne (show 4 ≠ 9 from by decide), flag_ne (show 4 ≠ 10 from by decide)]
        simp only [flag_ne (show 4 ≠ 3 from by decide)]
        have E2 : upZ (upZ z 3 (.bool true)) 4 (.agg #[.slice ta V.tree.length tc, .slice oa V.op.length oc, .slice ma V.modal.length mc, .slice pa V.pops.length pc, .slice qa V.top.length qc]) 2 = z 2 := by simp [upZ]
        have E9 : upZ (upZ z 3 (.bool true)) 4 (.agg #[.slice ta V.tree.length tc, .slice oa V.op.length oc, .slice ma V.modal.length mc, .slice pa V.pops.length pc, .slice qa V.top.length qc]) 9 = z 9 := by simp [upZ]
        have E10 : upZ (upZ z 3 (.bool true)) 4 (.agg #[.slice ta V.tree.length tc, .slice oa V.op.length oc, .slice ma V.modal.length mc, .slice pa V.pops.length pc, .slice qa V.top.length qc]) 10 = z 10 := by simp [upZ]
        try rw [E2]
        try rw [E9]
        try rw [E10]
        exact HST
      · have e3 : z 3 = .bool true := hz.out 3 (by decide) (dep_of hi (d := 3) (by kernel_rfl))
        have e4 : z 4 = .agg #[.slice ta V.tree.length tc, .slice oa V.op.length oc, .slice ma V.modal.length mc, .slice pa V.pops.length pc, .slice qa V.top.length qc] := hz.out 4 (by decide) (dep_of hi (d := 4) (by kernel_rfl))
        have hbel : Below W0.heap.size W0 U := by
          rcases hst.out with ⟨_, _, _, _, h⟩ | ⟨_, _, _, _, h⟩ | ⟨_, _, _, _, _, _, _, _, h⟩ | ⟨_, _, _, _, _, h⟩
          all_goals exact h
        rw [e3, e4]
        refine inv_step (by rfl) (fun K hK => ?_)
        go_simp
        go_at_call 25
        refine Calls.mono (HH.out U hbel) ?_
        rintro e w9 ⟨rfl, hb9⟩
        go_wp2_with fail
        refine hK.out _ _ ⟨upZ (upZ (upZ z 3 (.bool true)) 4 (.agg #[.slice ta V.tree.length tc, .slice oa V.op.length oc, .slice ma V.modal.length mc, .slice pa V.pops.length pc, .slice qa V.top.length qc])) 5 (.int .i64 (highV V)), rfl, hideG (TabZ.step (TabZ.mono (TabZ.fill (TabZ.fill hz.out e3) e4) (fun _ _ h => h)) rfl), hideG ?_⟩
        replace hst := hideG (show (l.getD 2 true = false ∧ l.getD 9 true = false ∧ l.getD 10 true = false ∧ l.getD 3 true = false ∧ (Below W0.heap.size W0 w9)) ∨ (l.getD 2 true = true ∧ l.getD 9 true = false ∧ l.getD 10 true = false ∧ ((z 2) = .bool true ∧ Below W0.heap.size W0 w9)) ∨ (l.getD 2 true = true ∧ l.getD 9 true = true ∧ l.getD 10 true = false ∧ ((z 2) = .bool true ∧ ∃ (ua : Option Addr) (uc : Nat), (z 9) = .slice ua up.length uc ∧ IntsAt w9 (.slice ua up.length uc) up ∧ Below W0.heap.size W0 w9)) ∨ (l.getD 2 true = true ∧ l.getD 9 true = true ∧ l.getD 10 true = true ∧ ((z 2) = .bool true ∧ (z 10) = .bool (blockedB (highV V) up) ∧ Below W0.heap.size W0 w9)) by
          rcases hst.out with h | h | h | h
          · obtain ⟨b2, b9, b10, g3, hS⟩ := h
            exact .inl ⟨b2, b9, b10, g3, hS.trans (hb9.mono hS.size)⟩
          · obtain ⟨b2, b9, b10, hS⟩ := h
            exact .inr (.inl ⟨b2, b9, b10, hS.1, hS.2.trans (hb9.mono hS.2.size)⟩)
          · obtain ⟨b2, b9, b10, hS⟩ := h
            exact .inr (.inr (.inl ⟨b2, b9, b10, (by obtain ⟨h3, ua, uc, e, hg, hb⟩ := hS; exact ⟨h3, ua, uc, e, hg.below hb9, hb.trans (hb9.mono hb.size)⟩)⟩))
          · obtain ⟨b2, b9, b10, hS⟩ := h
            exact .inr (.inr (.inr (⟨b2, b9, b10, hS.1, hS.2.1, hS.2.2.trans (hb9.mono hS.2.2.size)⟩))))
        have HST := hst.out
        clear hst hz hK
        simp only [flag_ne (show 5 ≠ 2 from by decide), flag_ne (show 5 ≠ 9 from by decide), flag_ne (show 5 ≠ 10 from by decide)]
        simp only [flag_ne (show 5 ≠ 3 from by decide)]
        have E2 : upZ (upZ (upZ z 3 (.bool true)) 4 (.agg #[.slice ta V.tree.length tc, .slice oa V.op.length oc, .slice ma V.modal.length mc, .slice pa V.pops.length pc, .slice qa V.top.length qc])) 5 (.int .i64 (highV V)) 2 = z 2 := by simp [upZ]
        have E9 : upZ (upZ (upZ z 3 (.bool true)) 4 (.agg #[.slice ta V.tree.length tc, .slice oa V.op.length oc, .slice ma V.modal.length mc, .slice pa V.pops.length pc, .slice qa V.top.length qc])) 5 (.int .i64 (highV V)) 9 = z 9 := by simp [upZ]
        have E10 : upZ (upZ (upZ z 3 (.bool true)) 4 (.agg #[.slice ta V.tree.length tc, .slice oa V.op.length oc, .slice ma V.modal.length mc, .slice pa V.pops.length pc, .slice qa V.top.length qc])) 5 (.int .i64 (highV V)) 10 = z 10 := by simp [upZ]
        try rw [E2]
        try rw [E9]
        try rw [E10]
        exact HST
      · have e3 : z 3 = .bool true := hz.out 3 (by decide) (dep_of hi (d := 3) (by kernel_rfl))
        rw [e3]
        refine inv_step (by rfl) (fun K hK => ?_)
        go_simp
        refine hK.out _ _ ⟨upZ (upZ z 3 (.bool true)) 6 (.pointer (some ⟨w.heap.size, 0, none⟩)), rfl, hideG (TabZ.step (TabZ.fill hz.out e3) rfl), hideG ?_⟩
        have HST := hst.out
        clear hst hz hK
        simp only [flag_ne (show 6 ≠ 2 from by decide), flag_ne (show 6 ≠ 9 from by decide), flag_ne (show 6 ≠ 10 from by decide)]
        simp only [flag_ne (show 6 ≠ 3 from by decide)]
        have E2 : upZ (upZ z 3 (.bool true)) 6 (.pointer (some ⟨w.heap.size, 0, none⟩)) 2 = z 2 := by simp [upZ]
        have E9 : upZ (upZ z 3 (.bool true)) 6 (.pointer (some ⟨w.heap.size, 0, none⟩)) 9 = z 9 := by simp [upZ]
        have E10 : upZ (upZ z 3 (.bool true)) 6 (.pointer (some ⟨w.heap.size, 0, none⟩)) 10 = z 10 := by simp [upZ]
        try rw [E2]
        try rw [E9]
        try rw [E10]
        exact HST
      · have e3 : z 3 = .bool true := hz.out 3 (by decide) (dep_of hi (d := 3) (by kernel_rfl))
        have e6 : z 6 = .pointer (some ⟨w.heap.size, 0, none⟩) := hz.out 6 (by decide) (dep_of hi (d := 6) (by kernel_rfl))
        have hbel : Below W0.heap.size W0 U := by
          rcases hst.out with ⟨_, _, _, _, h⟩ | ⟨_, _, _, _, h⟩ | ⟨_, _, _, _, _, _, _, _, h⟩ | ⟨_, _, _, _, _, h⟩
          all_goals exact h
        have BU := BX.out.below hbel
        have p0 := BU.c0
        have p1 := BU.c1
        have p2 := BU.c2
        have p3 := BU.c3
        have p4 := BU.c4
        have plt := BU.lt
        rw [e3, e6]
        refine inv_step (by rfl) (fun K hK => ?_)
        go_simp
        refine hK.out _ _ ⟨upZ (upZ (upZ z 3 (.bool true)) 6 (.pointer (some ⟨w.heap.size, 0, none⟩))) 7 (.slice ta V.tree.length tc), rfl, hideG (TabZ.step (TabZ.fill (TabZ.fill hz.out e3) e6) rfl), hideG ?_⟩
        have HST := hst.out
        clear hst hz hK
        simp only [flag_ne (show 7 ≠ 2 from by decide), flag_ne (show 7 ≠ 9 from by decide), flag_ne (show 7 ≠ 10 from by decide)]
        simp only [flag_ne (show 7 ≠ 3 from by decide)]
        have E2 : upZ (upZ (upZ z 3 (.bool true)) 6 (.pointer (some ⟨w.heap.size, 0, none⟩))) 7 (.slice ta V.tree.length tc) 2 = z 2 := by simp [upZ]
        have E9 : upZ (upZ (upZ z 3 (.bool true)) 6 (.pointer (some ⟨w.heap.size, 0, none⟩))) 7 (.slice ta V.tree.length tc) 9 = z 9 := by simp [upZ]
        have E10 : upZ (upZ (upZ z 3 (.bool true)) 6 (.pointer (some ⟨w.heap.size, 0, none⟩))) 7 (.slice ta V.tree.length tc) 10 = z 10 := by simp [upZ]
        try rw [E2]
        try rw [E9]
        try rw [E10]
        exact HST
      · have e3 : z 3 = .bool true := hz.out 3 (by decide) (dep_of hi (d := 3) (by kernel_rfl))
        rw [e3]
        refine inv_step (by rfl) (fun K hK => ?_)
        go_simp
        refine hK.out _ _ ⟨upZ (upZ z 3 (.bool true)) 8 (.int .i64 (m : Int)), rfl, hideG (TabZ.step (TabZ.fill hz.out e3) rfl), hideG ?_⟩
        have HST := hst.out
        clear hst hz hK
        simp only [flag_ne (show 8 ≠ 2 from by decide), flag_ne (show 8 ≠ 9 from by decide), flag_ne (show 8 ≠ 10 from by decide)]
        simp only [flag_ne (show 8 ≠ 3 from by decide)]
        have E2 : upZ (upZ z 3 (.bool true)) 8 (.int .i64 (m : Int)) 2 = z 2 := by simp [upZ]
        have E9 : upZ (upZ z 3 (.bool true)) 8 (.int .i64 (m : Int)) 9 = z 9 := by simp [upZ]
        have E10 : upZ (upZ z 3 (.bool true)) 8 (.int .i64 (m : Int)) 10 = z 10 := by simp [upZ]
        try rw [E2]
        try rw [E9]
        try rw [E10]
        exact HST
      · have e3 : z 3 = .bool true := hz.out 3 (by decide) (dep_of hi (d := 3) (by kernel_rfl))
        have e7 : z 7 = .slice ta V.tree.length tc := hz.out 7 (by decide) (dep_of hi (d := 7) (by kernel_rfl))
        have e8 : z 8 = .int .i64 (m : Int) := hz.out 8 (by decide) (dep_of hi (d := 8) (by kernel_rfl))
        rcases hst.out with hq | hq | hq | hq
        · exact absurd ((dep_of hi (d := 3) (by kernel_rfl)).symm.trans hq.2.2.2.1) (by decide)
        · obtain ⟨b2, b9, b10, hS⟩ := hq
          obtain ⟨e2', hbl⟩ := hS
          have E2 := hideG e2'
          clear e2'
          rw [e3, e7, e8]
          refine inv_step (by rfl) (fun K hK => ?_)
          go_simp
          go_at_call 96
          refine Calls.mono (HU.out U hbl) ?_
          rintro e w9 ⟨ua, uc, rfl, hx9, hb9⟩
          go_wp2_with fail
          refine hK.out _ _ ⟨upZ (upZ (upZ (upZ z 3 (.bool true)) 7 (.slice ta V.tree.length tc)) 8 (.int .i64 (m : Int))) 9 (.slice ua up.length uc), rfl, hideG (TabZ.step (TabZ.mono (TabZ.fill (TabZ.fill (TabZ.fill hz.out e3) e7) e8) (fun _ _ h => h)) trivial), hideG (.inr (.inr (.inl ⟨flag_ne' (by decide) b2, flag_self, flag_ne' (by decide) b10, ?_⟩)))⟩
          exact ⟨by simp [upZ, E2.out], ua, uc, by simp [upZ], ownsRow_ints hx9, hbl.trans (hb9.mono hbl.size)⟩
        · exact absurd (hun.symm.trans hq.2.1) (by decide)
        · exact absurd (hun.symm.trans hq.2.1) (by decide)
      · have e3 : z 3 = .bool true := hz.out 3 (by decide) (dep_of hi (d := 3) (by kernel_rfl))
        have e5 : z 5 = .int .i64 (highV V) := hz.out 5 (by decide) (dep_of hi (d := 5) (by kernel_rfl))
        have q9 := dep_of hi (d := 9) (by kernel_rfl)
        rcases hst.out with hq | hq | hq | hq
        · exact absurd (q9.symm.trans hq.2.1) (by decide)
        · exact absurd (q9.symm.trans hq.2.1) (by decide)
        · obtain ⟨b2, b9, b10, hS⟩ := hq
          obtain ⟨e2', ua, uc, e9, hg, hbl⟩ := hS
          have E2 := hideG e2'
          clear e2'
          rw [e3, e5, e9]
          refine inv_step (by rfl) (fun K hK => ?_)
          go_simp
          go_at_call 108
          refine Calls.mono (blocked_any (highV V) up _ U hg hu2 (by omega)) ?_
          rintro e w9 ⟨rfl, hw9⟩
          obtain rfl : _ = w9 := hw9.symm
          go_wp2_with fail
          refine hK.out _ _ ⟨upZ (upZ (upZ (upZ z 3 (.bool true)) 5 (.int .i64 (highV V))) 9 (.slice ua up.length uc)) 10 (.bool (blockedB (highV V) up)), rfl, hideG (TabZ.step (TabZ.mono (TabZ.fill (TabZ.fill (TabZ.fill hz.out e3) e5) e9) (fun _ _ h => h)) trivial), hideG (.inr (.inr (.inr (⟨flag_ne' (by decide) b2, flag_ne' (by decide) b9, flag_self, ?_⟩))))⟩
          exact ⟨by simp [upZ, E2.out], by simp [upZ], hbl⟩
        · exact absurd (hun.symm.trans hq.2.2.1) (by decide)
      · have e3 : z 3 = .bool true := hz.out 3 (by decide) (dep_of hi (d := 3) (by kernel_rfl))
        have q10 := dep_of hi (d := 10) (by kernel_rfl)
        have e10 : z 10 = .bool (blockedB (highV V) up) := by
          rcases hst.out with h | h | h | h
          · exact absurd (q10.symm.trans h.2.2.1) (by decide)
          · exact absurd (q10.symm.trans h.2.2.1) (by decide)
          · exact absurd (q10.symm.trans h.2.2.1) (by decide)
          · exact h.2.2.2.2.1
        rw [e3, e10]
        refine inv_step (by rfl) (fun K hK => ?_)
        go_simp
        refine hK.out _ _ ⟨upZ (upZ (upZ z 3 (.bool true)) 10 (.bool (blockedB (highV V) up))) 11 (.bool (blockedB (highV V) up)), rfl, hideG (TabZ.step (TabZ.fill (TabZ.fill hz.out e3) e10) rfl), hideG ?_⟩
        have HST := hst.out
        clear hst hz hK
        simp only [flag_ne (show 11 ≠ 2 from by decide), flag_ne (show 11 ≠ 9 from by decide), flag_ne (show 11 ≠ 10 from by decide)]
        simp only [flag_ne (show 11 ≠ 3 from by decide)]
        have E2 : upZ (upZ (upZ z 3 (.bool true)) 10 (.bool (blockedB (highV V) up))) 11 (.bool (blockedB (highV V) up)) 2 = z 2 := by simp [upZ]
        have E9 : upZ (upZ (upZ z 3 (.bool true)) 10 (.bool (blockedB (highV V) up))) 11 (.bool (blockedB (highV V) up)) 9 = z 9 := by simp [upZ]
        have E10 : upZ (upZ (upZ z 3 (.bool true)) 10 (.bool (blockedB (highV V) up))) 11 (.bool (blockedB (highV V) up)) 10 = z 10 := by simp [upZ, e10]
        try rw [E2]
        try rw [E9]
        try rw [E10]
        exact HST
      · have e11 : z 11 = .bool (blockedB (highV V) up) := hz.out 11 (by decide) (dep_of hi (d := 11) (by kernel_rfl))
        rw [e11]
        refine inv_step (by rfl) (fun K hK => ?_)
        go_simp
        refine hK.out _ _ ⟨upZ (upZ z 11 (.bool (blockedB (highV V) up))) 12 (.bool (blockedB (highV V) up)), rfl, hideG (TabZ.step (TabZ.fill hz.out e11) rfl), hideG ?_⟩
        have HST := hst.out
        clear hst hz hK
        simp only [flag_ne (show 12 ≠ 2 from by decide), flag_ne (show 12 ≠ 9 from by decide), flag_ne (show 12 ≠ 10 from by decide)]
        simp only [flag_ne (show 12 ≠ 3 from by decide)]
        have E2 : upZ (upZ z 11 (.bool (blockedB (highV V) up))) 12 (.bool (blockedB (highV V) up)) 2 = z 2 := by simp [upZ]
        have E9 : upZ (upZ z 11 (.bool (blockedB (highV V) up))) 12 (.bool (blockedB (highV V) up)) 9 = z 9 := by simp [upZ]
        have E10 : upZ (upZ z 11 (.bool (blockedB (highV V) up))) 12 (.bool (blockedB (highV V) up)) 10 = z 10 := by simp [upZ]
        try rw [E2]
        try rw [E9]
        try rw [E10]
        exact HST
    · intro l ac U hall hInv
      obtain ⟨z, ha, hz, hst⟩ := hInv
      subst ha
      have e0 : z 0 = .agg #[.slice ta V.tree.length tc, .slice oa V.op.length oc, .slice ma V.modal.length mc, .slice pa V.pops.length pc, .slice qa V.top.length qc] := hz.out 0 (by decide) (hall 0 (by decide))
      have e1 : z 1 = .int .i64 (m : Int) := hz.out 1 (by decide) (hall 1 (by decide))
      have e3 : z 3 = .bool true := hz.out 3 (by decide) (hall 3 (by decide))
      have e4 : z 4 = .agg #[.slice ta V.tree.length tc, .slice oa V.op.length oc, .slice ma V.modal.length mc, .slice pa V.pops.length pc, .slice qa V.top.length qc] := hz.out 4 (by decide) (hall 4 (by decide))
      have e5 : z 5 = .int .i64 (highV V) := hz.out 5 (by decide) (hall 5 (by decide))
      have e6 : z 6 = .pointer (some ⟨w.heap.size, 0, none⟩) := hz.out 6 (by decide) (hall 6 (by decide))
      have e7 : z 7 = .slice ta V.tree.length tc := hz.out 7 (by decide) (hall 7 (by decide))
      have e8 : z 8 = .int .i64 (m : Int) := hz.out 8 (by decide) (hall 8 (by decide))
      have e11 : z 11 = .bool (blockedB (highV V) up) := hz.out 11 (by decide) (hall 11 (by decide))
      have e12 : z 12 = .bool (blockedB (highV V) up) := hz.out 12 (by decide) (hall 12 (by decide))
      rcases hst.out with hq | hq | hq | hq
      · exact absurd ((hall 2 (by decide)).symm.trans hq.1) (by decide)
      · exact absurd ((hall 9 (by decide)).symm.trans hq.2.1) (by decide)
      · exact absurd ((hall 10 (by decide)).symm.trans hq.2.2.1) (by decide)
      · obtain ⟨_, _, _, hS⟩ := hq
        clear hz hall hst
        rw [e0, e1, e3, e4, e5, e6, e7, e8, e11, e12]
        have HBU := hideG hS.2.2
        clear hS
        go_wp2_with fail
        go_ret
        exact ⟨ret_bool HRES.out.symm, HB0.out.trans (HBU.out.mono HB0.out.size)⟩
end Go.Proofs.YtclhimodopgeoaaGreat

