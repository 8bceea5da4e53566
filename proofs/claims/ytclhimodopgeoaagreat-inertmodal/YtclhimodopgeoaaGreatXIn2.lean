/- Package inert: who is marked, and the judge. -/
import Derived.Test.YtclhimodopgeoaaGreatXIn0
import Derived.Test.YtclhimodopgeoaaGreatXWReg
import Derived.Test.YtclhimodopgeoaaGreatXStepApp
namespace Go.Proofs.YtclhimodopgeoaaGreat
open Go.RowKit

/-- Does a node have the mark? -/
def markB (T : List Nd) (n : Nat) : Bool := decide (0 < (nd T n).attrs.length) && (getL T (n : Int) 3).2
/-- The nodes below k that have it. -/
def markL (T : List Nd) (k : Nat) : List Int := castL ((List.range k).filter (markB T))
theorem markL_succ (T : List Nd) (k : Nat) : markL T (k + 1) = markL T k ++ (if markB T k then [(k : Int)] else []) := by
  unfold markL castL
  rw [List.range_succ, List.filter_append, List.map_append]
  congr 1
  cases h : markB T k <;> simp [h]
theorem markL_len (T : List Nd) (k : Nat) : (markL T k).length ≤ k := by
  unfold markL castL
  rw [List.length_map]
  exact Nat.le_trans (List.length_filter_le _ _) (by simp)
set_option maxRecDepth 100000 in
set_option maxHeartbeats 8000000 in
theorem ijudge_any (tv ov mv pv qv : Value) (V : Vw) (w : World) (hV : ViewAt w tv ov mv pv qv V) (hS : Sane V.tree) (hl : smallL V) (hck : checkV V = 0) :
    Calls Tryz.prog 106 #[.agg #[tv, ov, mv, pv, qv]] w fun e w' => ∃ ma mc, e = .returned (.agg #[tv, .int .i64 (highV V), .slice ma (markL V.tree V.tree.length).length mc]) ∧ IntsAt w' (.slice ma (markL V.tree V.tree.length).length mc) (markL V.tree V.tree.length) ∧ Below w.heap.size w w' := by
  obtain ⟨i3, hi3, hz30, hz31, hz32⟩ := info_parts infoT3
  obtain ⟨hT, hO, hM, hP, hQ⟩ := hV
  obtain ⟨ta, tc, rfl⟩ := hT.shape
  obtain ⟨oa, oc, rfl⟩ := hO.shape
  obtain ⟨ma, mc, rfl⟩ := hM.shape
  obtain ⟨pa, pc, rfl⟩ := hP.shape
  obtain ⟨qa, qc, rfl⟩ := hQ.shape
  have htl : V.tree.length ≤ 64 := (mayB_pos (check_iff.mp hck).1).2
  obtain ⟨W0, hW0⟩ : ∃ W0, (w.alloc (.cells #[.slice ta V.tree.length tc, .slice oa V.op.length oc, .slice ma V.modal.length mc, .slice pa V.pops.length pc, .slice qa V.top.length qc] 27)).alloc (.cells #[.slice none 0 0, .int .i64 0, .slice none 0 0] 91) = W0 := ⟨_, rfl⟩
  have HB0 := hideG (show Below w.heap.size w W0 by rw [← hW0]; exact (alB _ _).trans ((alB _ _).mono (alB _ _).size))
  have BX := hideG (show BoxV W0 w.heap.size _ _ _ _ _ by rw [← hW0]; exact (BoxV.new w _ _ _ _ _ 27).below (alB _ _))
  have HV := hideG (show ViewAt w _ _ _ _ _ V from ⟨hT, hO, hM, hP, hQ⟩)
  have HR0 := hideG (show Box3 W0 (w.heap.size + 1) (.slice none 0 0) (.int .i64 0) (.slice none 0 0) by
    rw [← hW0]
    have := Box3.new (w.alloc (.cells #[.slice ta V.tree.length tc, .slice oa V.op.length oc, .slice ma V.modal.length mc, .slice pa V.pops.length pc, .slice qa V.top.length qc] 27)) (.slice none 0 0) (.int .i64 0) (.slice none 0 0) 91
    rw [World.size_alloc] at this
    exact this)
  have HRlt := hideG (show w.heap.size + 1 < W0.heap.size by rw [← hW0]; simp)
  have HV0 := hideG (HV.out.below HB0.out)
  have HH := hideG (fun (U : World) (h : Below W0.heap.size W0 U) => callsIn_wide.1 (highOk_in _ _ _ _ _ V U (HV0.out.below h) hS hl hck))
  have HS := hideG hS
  have HL := hideG hl
  have HW0 := hideG hW0
  clear hW0 hT hO hM hP hQ hS hl
  go_enter Tryz.func106, Tryz.ntmps106
  go_wp2_with fail
  rw [HW0.out]
  refine wp_region_inv (fun l ac U => ∃ z : Nat → Value, ac = { tmps := #[Value.agg #[Value.slice ta V.tree.length tc, Value.slice oa V.op.length oc, Value.slice ma V.modal.length mc, Value.slice pa V.pops.length pc, Value.slice qa V.top.length qc], Value.pointer (some { block := w.heap.size, off := 0 }), Value.pointer (some { block := w.heap.size + 1, off := 0 }), z 5, undef, undef, z 0, z 1, z 2, z 3, z 4, undef, undef, undef, undef, undef, undef, undef, undef, undef, undef, undef, undef, undef, undef, undef, undef, undef, undef, undef, undef, undef, undef, undef, undef, undef, undef], defers := [] } ∧ Hid (TabZ 7 (PureP [.pointer (some ⟨w.heap.size, 0, none⟩), .slice ta V.tree.length tc, .agg #[.slice ta V.tree.length tc, .slice oa V.op.length oc, .slice ma V.modal.length mc, .slice pa V.pops.length pc, .slice qa V.top.length qc], .int .i64 (highV V), .agg #[.slice ta V.tree.length tc, .int .i64 (highV V), .slice none 0 0], undef, undef] [true, true, true, true, true, false, false]) l z U) ∧ Hid ((l.getD 5 true = false ∧ l.getD 6 true = false ∧ (Below W0.heap.size W0 U)) ∨ (l.getD 5 true = true ∧ l.getD 6 true = false ∧ (∃ X : Nat, (z 5) = .pointer (some ⟨X, 0, none⟩) ∧ W0.heap.size ≤ X ∧ Box3 U X (.slice none 0 0) (.int .i64 0) (.slice none 0 0) ∧ Below W0.heap.size W0 U)) ∨ (l.getD 5 true = true ∧ l.getD 6 true = true ∧ (∃ X : Nat, (z 5) = .pointer (some ⟨X, 0, none⟩) ∧ W0.heap.size ≤ X ∧ Box3 U X (.slice ta V.tree.length tc) (.int .i64 (highV V)) (.slice none 0 0) ∧ Below W0.heap.size W0 U)))) (by kernel_rfl) (by kernel_rfl) ?_ ?_ ?_
  · exact ⟨fun k => ([undef, undef, undef, undef, undef, undef, undef] : List Value).getD k undef, rfl, hideG TabZ.start, hideG (.inl ⟨rfl, rfl, ((Below.refl _ _).drew)⟩)⟩
  · intro i l ac U hi hInv
    obtain ⟨z, ha, hz, hst⟩ := hInv
    subst ha
    obtain ⟨hun, o, ho, _⟩ := mem_ready.mp hi
    have hlt8 := (Array.getElem?_eq_some_iff.mp ho).1
    clear ho
    simp only [List.size_toArray, List.length_cons, List.length_nil, Nat.reduceAdd] at hlt8
    obtain rfl | rfl | rfl | rfl | rfl | rfl | rfl : i = 0 ∨ i = 1 ∨ i = 2 ∨ i = 3 ∨ i = 4 ∨ i = 5 ∨ i = 6 := by omega
    · refine inv_step (by rfl) (fun K hK => ?_)
      go_simp
      refine hK.out _ _ ⟨upZ z 0 (.pointer (some ⟨w.heap.size, 0, none⟩)), rfl, hideG (TabZ.step hz.out rfl), hideG ?_⟩
      have HST := hst.out
      clear hst hz hK
      simp only [flag_ne (show 0 ≠ 5 from by decide), flag_ne (show 0 ≠ 6 from by decide)]
      have E5 : upZ z 0 (.pointer (some ⟨w.heap.size, 0, none⟩)) 5 = z 5 := by simp [upZ]
      have E6 : upZ z 0 (.pointer (some ⟨w.heap.size, 0, none⟩)) 6 = z 6 := by simp [upZ]
      try rw [E5]
      try rw [E6]
      exact HST
    · have e0 : z 0 = .pointer (some ⟨w.heap.size, 0, none⟩) := hz.out 0 (by decide) (dep_of hi (d := 0) (by kernel_rfl))
      have hbel : Below W0.heap.size W0 U := by
        rcases hst.out with ⟨_, _, h⟩ | ⟨_, _, _, _, _, _, h⟩ | ⟨_, _, _, _, _, _, h⟩
        all_goals exact h
      have BU := BX.out.below hbel
      have p0 := BU.c0
      have p1 := BU.c1
      have p2 := BU.c2
      have p3 := BU.c3
      have p4 := BU.c4
      have plt := BU.lt
      rw [e0]
      refine inv_step (by rfl) (fun K hK => ?_)
      go_simp
      refine hK.out _ _ ⟨upZ (upZ z 0 (.pointer (some ⟨w.heap.size, 0, none⟩))) 1 (.slice ta V.tree.length tc), rfl, hideG (TabZ.step (TabZ.fill hz.out e0) rfl), hideG ?_⟩
      have HST := hst.out
      clear hst hz hK
      simp only [flag_ne (show 1 ≠ 5 from by decide), flag_ne (show 1 ≠ 6 from by decide)]
      have E5 : upZ (upZ z 0 (.pointer (some ⟨w.heap.size, 0, none⟩))) 1 (.slice ta V.tree.length tc) 5 = z 5 := by simp [upZ]
      have E6 : upZ (upZ z 0 (.pointer (some ⟨w.heap.size, 0, none⟩))) 1 (.slice ta V.tree.length tc) 6 = z 6 := by simp [upZ]
      try rw [E5]
      try rw [E6]
      exact HST
    · have hbel : Below W0.heap.size W0 U := by
        rcases hst.out with ⟨_, _, h⟩ | ⟨_, _, _, _, _, _, h⟩ | ⟨_, _, _, _, _, _, h⟩
        all_goals exact h
      have BU := BX.out.below hbel
      have p0 := BU.c0
      have p1 := BU.c1
      have p2 := BU.c2
      have p3 := BU.c3
      have p4 := BU.c4
      have plt := BU.lt
      refine inv_step (by rfl) (fun K hK => ?_)
      go_simp
      refine hK.out _ _ ⟨upZ z 2 (.agg #[.slice ta V.tree.length tc, .slice oa V.op.length oc, .slice ma V.modal.length mc, .slice pa V.pops.length pc, .slice qa V.top.length qc]), rfl, hideG (TabZ.step hz.out rfl), hideG ?_⟩
      have HST := hst.out
      clear hst hz hK
      simp only [flag_ne (show 2 ≠ 5 from by decide), flag_ne (show 2 ≠ 6 from by decide)]
      have E5 : upZ z 2 (.agg #[.slice ta V.tree.length tc, .slice oa V.op.length oc, .slice ma V.modal.length mc, .slice pa V.pops.length pc, .slice qa V.top.length qc]) 5 = z 5 := by simp [upZ]
      have E6 : upZ z 2 (.agg #[.slice ta V.tree.length tc, .slice oa V.op.length oc, .slice ma V.modal.length mc, .slice pa V.pops.length pc, .slice qa V.top.length qc]) 6 = z 6 := by simp [upZ]
      try rw [E5]
      try rw [E6]
      exact HST
    · have e2 : z 2 = .agg #[.slice ta V.tree.length tc, .slice oa V.op.length oc, .slice ma V.modal.length mc, .slice pa V.pops.length pc, .slice qa V.top.length qc] := hz.out 2 (by decide) (dep_of hi (d := 2) (by kernel_rfl))
      have hbel : Below W0.heap.size W0 U := by
        rcases hst.out with ⟨_, _, h⟩ | ⟨_, _, _, _, _, _, h⟩ | ⟨_, _, _, _, _, _, h⟩
        all_goals exact h
      rw [e2]
      refine inv_step (by rfl) (fun K hK => ?_)
      go_simp
      go_at_call 25
      refine Calls.mono (HH.out U hbel) ?_
      rintro e w9 ⟨rfl, hb9⟩
      go_wp2_with fail
      refine hK.out _ _ ⟨upZ (upZ z 2 (.agg #[.slice ta V.tree.length tc, .slice oa V.op.length oc, .slice ma V.modal.length mc, .slice pa V.pops.length pc, .slice qa V.top.length qc])) 3 (.int .i64 (highV V)), rfl, hideG (TabZ.step (TabZ.mono (TabZ.fill hz.out e2) (fun _ _ h => h)) rfl), hideG ?_⟩
      replace hst := hideG (show (l.getD 5 true = false ∧ l.getD 6 true = false ∧ (Below W0.heap.size W0 w9)) ∨ (l.getD 5 true = true ∧ l.getD 6 true = false ∧ (∃ X : Nat, (z 5) = .pointer (some ⟨X, 0, none⟩) ∧ W0.heap.size ≤ X ∧ Box3 w9 X (.slice none 0 0) (.int .i64 0) (.slice none 0 0) ∧ Below W0.heap.size W0 w9)) ∨ (l.getD 5 true = true ∧ l.getD 6 true = true ∧ (∃ X : Nat, (z 5) = .pointer (some ⟨X, 0, none⟩) ∧ W0.heap.size ≤ X ∧ Box3 w9 X (.slice ta V.tree.length tc) (.int .i64 (highV V)) (.slice none 0 0) ∧ Below W0.heap.size W0 w9)) by
        rcases hst.out with h | h | h
        · obtain ⟨b5, b6, hS⟩ := h
          exact .inl ⟨b5, b6, hS.trans (hb9.mono hS.size)⟩
        · obtain ⟨b5, b6, hS⟩ := h
          exact .inr (.inl ⟨b5, b6, (by obtain ⟨X, e, h1, h2, h3⟩ := hS; exact ⟨X, e, h1, h2.call hb9, h3.trans (hb9.mono h3.size)⟩)⟩)
        · obtain ⟨b5, b6, hS⟩ := h
          exact .inr (.inr (⟨b5, b6, (by obtain ⟨X, e, h1, h2, h3⟩ := hS; exact ⟨X, e, h1, h2.call hb9, h3.trans (hb9.mono h3.size)⟩)⟩)))
      have HST := hst.out
      clear hst hz hK
      simp only [flag_ne (show 3 ≠ 5 from by decide), flag_ne (show 3 ≠ 6 from by decide)]
      have E5 : upZ (upZ z 2 (.agg #[.slice ta V.tree.length tc, .slice oa V.op.length oc, .slice ma V.modal.length mc, .slice pa V.pops.length pc, .slice qa V.top.length qc])) 3 (.int .i64 (highV V)) 5 = z 5 := by simp [upZ]
      have E6 : upZ (upZ z 2 (.agg #[.slice ta V.tree.length tc, .slice oa V.op.length oc, .slice ma V.modal.length mc, .slice pa V.pops.length pc, .slice qa V.top.length qc])) 3 (.int .i64 (highV V)) 6 = z 6 := by simp [upZ]
      try rw [E5]
      try rw [E6]
      exact HST
    · have e1 : z 1 = .slice ta V.tree.length tc := hz.out 1 (by decide) (dep_of hi (d := 1) (by kernel_rfl))
      have e3 : z 3 = .int .i64 (highV V) := hz.out 3 (by decide) (dep_of hi (d := 3) (by kernel_rfl))
      rw [e1, e3]
      refine inv_step (by rfl) (fun K hK => ?_)
      go_simp
      refine hK.out _ _ ⟨upZ (upZ (upZ z 1 (.slice ta V.tree.length tc)) 3 (.int .i64 (highV V))) 4 (.agg #[.slice ta V.tree.length tc, .int .i64 (highV V), .slice none 0 0]), rfl, hideG (TabZ.step (TabZ.fill (TabZ.fill hz.out e1) e3) rfl), hideG ?_⟩
      have HST := hst.out
      clear hst hz hK
      simp only [flag_ne (show 4 ≠ 5 from by decide), flag_ne (show 4 ≠ 6 from by decide)]
      have E5 : upZ (upZ (upZ z 1 (.slice ta V.tree.length tc)) 3 (.int .i64 (highV V))) 4 (.agg #[.slice ta V.tree.length tc, .int .i64 (highV V), .slice none 0 0]) 5 = z 5 := by simp [upZ]
      have E6 : upZ (upZ (upZ z 1 (.slice ta V.tree.length tc)) 3 (.int .i64 (highV V))) 4 (.agg #[.slice ta V.tree.length tc, .int .i64 (highV V), .slice none 0 0]) 6 = z 6 := by simp [upZ]
      try rw [E5]
      try rw [E6]
      exact HST
    · rcases hst.out with hq | hq | hq
      · obtain ⟨b5, b6, hS⟩ := hq
        refine inv_step (by rfl) (fun K hK => ?_)
        go_simp
        refine hK.out _ _ ⟨upZ z 5 (.pointer (some ⟨U.heap.size, 0, none⟩)), rfl, hideG (TabZ.step (TabZ.mono hz.out (fun _ _ h => h)) trivial), hideG (.inr (.inl ⟨flag_self, flag_ne' (by decide) b6, ?_⟩))⟩
        exact ⟨U.heap.size, by simp [upZ], hS.size, Box3.new _ _ _ _ _, hS.alloc hS.size _⟩
      · exact absurd (hun.symm.trans hq.1) (by decide)
      · exact absurd (hun.symm.trans hq.1) (by decide)
    · have q5 := dep_of hi (d := 5) (by kernel_rfl)
      have e4 : z 4 = .agg #[.slice ta V.tree.length tc, .int .i64 (highV V), .slice none 0 0] := hz.out 4 (by decide) (dep_of hi (d := 4) (by kernel_rfl))
      rcases hst.out with hq | hq | hq
      · exact absurd (q5.symm.trans hq.1) (by decide)
      · obtain ⟨b5, b6, hS⟩ := hq
        obtain ⟨X, e5, hX, hbx, hbel⟩ := hS
        have c0 := hbx.c0
        have c1 := hbx.c1
        have c2 := hbx.c2
        have f0 := hbx.f0
        have f1 := hbx.f1
        have f2 := hbx.f2
        have hltx := hbx.lt
        rw [e4, e5]
        refine inv_step (by rfl) (fun K hK => ?_)
        go_simp
        refine hK.out _ _ ⟨upZ (upZ (upZ z 4 (.agg #[.slice ta V.tree.length tc, .int .i64 (highV V), .slice none 0 0])) 5 (.pointer (some ⟨X, 0, none⟩))) 6 (undef), rfl, hideG (TabZ.step (TabZ.mono (TabZ.fill (TabZ.fill hz.out e4) e5) (fun _ _ h => h)) trivial), hideG (.inr (.inr (⟨flag_ne' (by decide) b5, flag_self, ?_⟩)))⟩
        exact ⟨X, by simp [upZ], hX, hbx.set _ _ _, set3_below hbel hX⟩
      · exact absurd (hun.symm.trans hq.2.1) (by decide)
  · intro l ac U hall hInv
    obtain ⟨z, ha, hz, hst⟩ := hInv
    subst ha
    have e0 : z 0 = .pointer (some ⟨w.heap.size, 0, none⟩) := hz.out 0 (by decide) (hall 0 (by decide))
    have e1 : z 1 = .slice ta V.tree.length tc := hz.out 1 (by decide) (hall 1 (by decide))
    have e2 : z 2 = .agg #[.slice ta V.tree.length tc, .slice oa V.op.length oc, .slice ma V.modal.length mc, .slice pa V.pops.length pc, .slice qa V.top.length qc] := hz.out 2 (by decide) (hall 2 (by decide))
    have e3 : z 3 = .int .i64 (highV V) := hz.out 3 (by decide) (hall 3 (by decide))
    have e4 : z 4 = .agg #[.slice ta V.tree.length tc, .int .i64 (highV V), .slice none 0 0] := hz.out 4 (by decide) (hall 4 (by decide))
    rcases hst.out with hq | hq | hq
    · exact absurd ((hall 5 (by decide)).symm.trans hq.1) (by decide)
    · exact absurd ((hall 6 (by decide)).symm.trans hq.2.1) (by decide)
    · obtain ⟨_, _, hS⟩ := hq
      clear hz hall hst
      rw [e0, e1, e2, e3, e4]
      obtain ⟨X, e5, hX, hbx, hbel⟩ := hS
      rw [e5]
      have HX0 := hideG hbx
      have HBU := hideG hbel
      have hXlt := hbx.lt
      have BU := BX.out.below hbel
      have p0 := BU.c0
      have plt := BU.lt
      clear hbx hbel BU e5
      generalize z 5 = z5 at *
      go_wp2_with fail
      clear p0 plt
      go_loopw [14] (fun i wr => ∃ (k : Nat) (na : Option Addr) (nc : Nat), k ≤ V.tree.length ∧ i = .int .i64 (k : Int) ∧ Box3 wr X (.slice ta V.tree.length tc) (.int .i64 (highV V)) (.slice na (markL V.tree k).length nc) ∧ wr.ownsRow (X + 1) 3 1 (.slice na (markL V.tree k).length nc) (markL V.tree k).length (intCells (markL V.tree k)) ∧ Below W0.heap.size W0 wr) (fun i _ => V.tree.length - (intOf i).toNat)
      case atStart => exact ⟨0, none, 0, Nat.zero_le _, rfl, HX0.out, World.ownsRow_nil _ _ _ _, HBU.out⟩
      case round =>
        obtain ⟨k, na, nc, hk, rfl, hbx, how, hbel⟩ := hrel
        have HBX := hideG hbx
        have HOW := hideG how
        have HBE := hideG hbel
        have HVW := hideG (HV0.out.below hbel)
        have BXW := hideG (BX.out.below hbel)
        clear hbx how hbel HX0 HBU
        by_cases hlt : k < V.tree.length
        · obtain ⟨tb, to, tcap, htv, hN⟩ := HVW.out.tree.at (by omega)
          simp only [Value.slice.injEq, true_and] at htv
          obtain ⟨rfl, rfl⟩ := htv
          obtain ⟨kv, av, hn⟩ := hN k hlt
          obtain ⟨ka, kc, rfl⟩ := hn.kids.shape
          obtain ⟨aa, ac, rfl⟩ := hn.attrs.shape
          have n0 := hn.kind
          have n1 := hn.tag
          have n2 := hn.parent
          have n3 := hn.kidsc
          have n4 := hn.host
          have n5 := hn.root
          have n6 := hn.attrsc
          have nlt := below_of_cell n0
          have HMS := hideG (markL_succ V.tree k)
          have hmk := markL_len V.tree k
          have hk0 : (0 : Int) ≤ (k : Int) := by omega
          have hk1 : (k : Int) < (V.tree.length : Int) := by omega
          have p0 := BXW.out.c0
          have plt := BXW.out.lt
          have HHAS := hideG (fun (U : World) (h : Below wr.heap.size wr U) => has_any V.tree HS.out _ (k : Int) 3 U (HVW.out.tree.below h))
          have hMB : markB V.tree k = (decide (0 < (nd V.tree k).attrs.length) && (getL V.tree (k : Int) 3).2) := rfl
          have HMB := hideG hMB
          generalize (nd V.tree k).attrs.length = al at *
          generalize (getL V.tree (k : Int) 3).2 = gb at *
          generalize (nd V.tree k).kind = y0 at *
          generalize (nd V.tree k).tag = y1 at *
          generalize (nd V.tree k).parent = y2 at *
          generalize (nd V.tree k).host = y4 at *
          generalize (nd V.tree k).root = y5 at *
          clear hn hN hMB
          by_cases ha : (0 : Int) < (al : Int)
          · have HM := hideG (show markB V.tree k = gb by rw [HMB.out, decide_eq_true (by omega : 0 < al), Bool.true_and])
            go_wp2_with fail
            refine (HHAS.out _ (alB _ _)).mono ?_
            rintro e w1 ⟨rfl, hb1⟩
            have hb1' := (alB wr _).trans (hb1.mono (alB wr _).size)
            have HBX1 := hideG (HBX.out.call hb1')
            have HOW1 := hideG (ownsRow_below HOW.out hb1' (fun j e => (HOW.out.lt j e).2))
            have HBE1 := hideG (HBE.out.trans (hb1'.mono HBE.out.size))
            clear hb1 hb1' n0 n1 n2 n3 n4 n5 n6 nlt p0 plt
            cases gb
            · have HE := hideG (show markL V.tree (k + 1) = markL V.tree k by rw [HMS.out, HM.out]; simp)
              go_wp2_with fail
              go_roundw
              case rel => exact ⟨k + 1, na, nc, by omega, by go_num, by rw [HE.out]; exact HBX1.out, by rw [HE.out]; exact HOW1.out, HBE1.out⟩
              case measure => simp [intOf]; omega
            · have HE := hideG (show markL V.tree (k + 1) = markL V.tree k ++ [(k : Int)] by rw [HMS.out, HM.out]; simp)
              generalize markL V.tree k = cur at *
              have c0 := HBX1.out.c0
              have c1 := HBX1.out.c1
              have c2 := HBX1.out.c2
              have g2 := HBX1.out.f2
              have clt := HBX1.out.lt
              go_wp2_with (at_builtin; refine wpList_append_any rfl (.tmp 30) (.tmp 32) 24 rfl (X + 1) 3 i3 _ 1 8 Tryz.underlying24 hi3 hz30 hz31 hz32 rfl (by decide) _ cur.length (intCells cur) rfl (HOW1.out.alloc _) _ 1 [.int .i64 (k : Int)] rfl (row_new1 _ _) rfl ?h2 ?h3 ?h4 ?h5 ?_)
              case h2 => first | (intro y hy; simp at hy; subst hy; rfl) | rfl | simp
              case h3 => simp only [maxLen]; omega
              case h4 => omega
              case h5 => simp; omega
              intro v4 w4 ho4 hg4 hf4
              obtain ⟨a4, c4, rfl⟩ := ownsRow_shape ho4
              rw [intCells_snoc] at ho4
              have hXne : some X ≠ Value.ownBlock (.slice na cur.length nc) := fun e => by have := (HOW1.out.lt X e.symm).1; omega
              have HBX4 := hideG ((HBX1.out.alloc (.cells #[.int .i64 (k : Int)] 3)).grown hg4 hXne)
              have HBE4 := hideG ((HBE1.out.alloc HBE1.out.size (.cells #[.int .i64 (k : Int)] 3)).grown hg4 (by have := HBE1.out.size; simp; omega) (fun j e => by have := (HOW1.out.lt j e).1; omega))
              have HL4 := hideG (show (markL V.tree (k + 1)).length = cur.length + 1 by rw [HE.out]; simp)
              have HO4 := hideG ho4
              clear ho4 hg4 hf4 c0 c1 c2 g2 clt
              have c0 := HBX4.out.c0
              have c1 := HBX4.out.c1
              have c2 := HBX4.out.c2
              have g2 := HBX4.out.f2
              have clt := HBX4.out.lt
              go_wp2_with fail
              go_roundw
              case rel =>
                refine ⟨k + 1, a4, c4, by omega, by go_num, by rw [HL4.out]; exact HBX4.out.set2 _, ?_, HBE4.out.setCell (p := ⟨X, 2, none⟩) hX _⟩
                rw [HL4.out, HE.out]
                have h := ownsRow_kept_set (g := X) (j := 2) (u := .slice a4 (cur.length + 1) c4) HO4.out (fun e => by have := (HO4.out.lt _ e).1; omega)
                simpa using h
              case measure => simp [intOf]; omega
          · have HE := hideG (show markL V.tree (k + 1) = markL V.tree k by rw [HMS.out, HMB.out, decide_eq_false (by omega : ¬ 0 < al), Bool.false_and]; simp)
            have ha0 : al = 0 := by omega
            subst ha0
            go_wp2_with fail
            go_roundw
            case rel => exact ⟨k + 1, na, nc, by omega, by go_num, by rw [HE.out]; exact HBX.out.alloc _, by rw [HE.out]; exact HOW.out.alloc _, HBE.out.trans ((alB _ _).mono HBE.out.size)⟩
            case measure => simp [intOf]; omega
        · have hke : k = V.tree.length := by omega
          rw [hke] at HBX HOW
          have c0 := HBX.out.c0
          have c1 := HBX.out.c1
          have c2 := HBX.out.c2
          have clt := HBX.out.lt
          have HRW := hideG (HR0.out.below HBE.out HRlt.out)
          have r0 := HRW.out.c0
          have r1 := HRW.out.c1
          have r2 := HRW.out.c2
          have f0 := HRW.out.f0
          have f1 := HRW.out.f1
          have f2 := HRW.out.f2
          have rlt := HRW.out.lt
          clear hke
          go_wp2_with fail
          have HB9 := HRW.out.set (.slice ta V.tree.length tc) (.int .i64 (highV V)) (.slice na (markL V.tree V.tree.length).length nc)
          unfold set3 at HB9
          obtain ⟨t0, t1, t2, _, _, _⟩ := HB9
          refine bodyPost_ret (v := .agg #[.slice ta V.tree.length tc, .int .i64 (highV V), .slice na (markL V.tree V.tree.length).length nc]) (by simp [results, Tryz.f106, go_sem, t0, t1, t2]) rfl ?_
          have hne : Value.ownBlock (.slice na (markL V.tree V.tree.length).length nc) ≠ some (w.heap.size + 1) := fun e => by have h1 := (HOW.out.lt _ e).1; have h2 := HRlt.out; omega
          have hz := ownsRow_kept_set (j := 2) (u := .slice na (markL V.tree V.tree.length).length nc) (ownsRow_kept_set (j := 1) (u := .int .i64 (highV V)) (ownsRow_kept_set (j := 0) (u := .slice ta V.tree.length tc) HOW.out hne) hne) hne
          exact ⟨na, nc, rfl, ownsRow_ints hz, set3_below (HB0.out.trans (HBE.out.mono HB0.out.size)) (by omega)⟩
end Go.Proofs.YtclhimodopgeoaaGreat

