/- Fix of the document's package of layer 10. -/
import Derived.Deep.DeepCutAuto
import Derived.Test.YtclhimodopgeoaaGreatXTopRCopy
import Derived.Test.YtclhimodopgeoaaGreatXTopFixS
import Derived.Test.YtclhimodopgeoaaGreatXTopTabZ
namespace Go.Proofs.YtclhimodopgeoaaGreat
open Go.RowKit

theorem apart_nil {a c e f g : Nat} (i j : Nat) (hi : i < 5) : Apart (v5 (.slice none a 0) (.slice none c 0) (.slice none e 0) (.slice none f 0) (.slice none g 0) i) (v5 (.slice none a 0) (.slice none c 0) (.slice none e 0) (.slice none f 0) (.slice none g 0) j) := by
  revert i
  refine five ?_ ?_ ?_ ?_ ?_ <;> (intro k hk; cases hk)
theorem nodesL'_app (a b : List Sh) : nodesL' (a ++ b) = nodesL' a ++ nodesL' b := by simp [nodesL']
theorem fixS_yes {T : List Nd} {x : Sh} (h : isNodeB T.length x.inv = true) : fixS T x = ⟨x.node, x.inv⟩ := by
  unfold fixS
  rw [if_pos (by unfold fitsB; rw [h, Bool.or_true])]
theorem fixS_no {T : List Nd} {x : Sh} (h : isNodeB T.length x.inv = false) : fixS T x = ⟨x.node, -1⟩ := by
  unfold fixS fitsB
  rw [h, Bool.or_false]
  split
  · rename_i h1
    obtain ⟨n, i⟩ := x
    rw [beq_iff_eq] at h1
    rw [show i = -1 from h1]
  · rfl
set_option maxRecDepth 100000 in
set_option maxHeartbeats 16000000 in
theorem rfixOk (tv ov mv pv qv : Value) (V : Vw) (w : World) (hV : ViewAt w tv ov mv pv qv V) (hS : Sane V.tree) (hl : smallL V) (hm : mayB V.tree = true) :
    Calls Tryz.prog 23 #[.agg #[tv, ov, mv, pv, qv]] w fun x w' => ∃ t o m p q a c, x = .returned (.tuple #[.agg #[t, o, m, p, q], .slice a (fixG V).length c, .int .i64 0]) ∧ ViewAt w' t o m p q (fixL V) ∧ IntsAt w' (.slice a (fixG V).length c) (fixG V) ∧ Below w.heap.size w w' := by
  obtain ⟨hT, hO, hM, hP, hQ⟩ := hV
  obtain ⟨ta, tc, rfl⟩ := hT.shape
  obtain ⟨oa, oc, rfl⟩ := hO.shape
  obtain ⟨ma, mc, rfl⟩ := hM.shape
  obtain ⟨pa, pc, rfl⟩ := hP.shape
  obtain ⟨qa, qc, rfl⟩ := hQ.shape
  obtain ⟨W0, hW0⟩ : ∃ W0, (w.alloc (.cells #[.slice ta V.tree.length tc, .slice oa V.op.length oc, .slice ma V.modal.length mc, .slice pa V.pops.length pc, .slice qa V.top.length qc] 27)).alloc (.cells #[.slice none 0 0, .slice none 0 0, .slice none 0 0, .slice none 0 0, .slice none 0 0] 27) = W0 := ⟨_, rfl⟩
  have hbw : Below w.heap.size w W0 := by rw [← hW0]; exact ((Below.refl _ w).alloc (Nat.le_refl _) _).alloc (by simp) _
  have HB0 := hideG hbw
  have P0 := hideG (show W0.cell? ⟨w.heap.size, 0, none⟩ = some (.slice ta V.tree.length tc) by rw [← hW0]; exact cell_alloc_l _ (by simp))
  have P1 := hideG (show W0.cell? ⟨w.heap.size, 1, none⟩ = some (.slice oa V.op.length oc) by rw [← hW0]; exact cell_alloc_l _ (by simp))
  have P2 := hideG (show W0.cell? ⟨w.heap.size, 2, none⟩ = some (.slice ma V.modal.length mc) by rw [← hW0]; exact cell_alloc_l _ (by simp))
  have P3 := hideG (show W0.cell? ⟨w.heap.size, 3, none⟩ = some (.slice pa V.pops.length pc) by rw [← hW0]; exact cell_alloc_l _ (by simp))
  have P4 := hideG (show W0.cell? ⟨w.heap.size, 4, none⟩ = some (.slice qa V.top.length qc) by rw [← hW0]; exact cell_alloc_l _ (by simp))
  have HR := hideG (show ∀ j, j < 5 → ∃ u, W0.cell? ⟨w.heap.size + 1, j, none⟩ = some u ∧ W0.frozen? ⟨w.heap.size + 1, j, none⟩ = false from by
    have h1 := World.alloc_heap_new (w.alloc (.cells #[.slice ta V.tree.length tc, .slice oa V.op.length oc, .slice ma V.modal.length mc, .slice pa V.pops.length pc, .slice qa V.top.length qc] 27)) (.cells #[.slice none 0 0, .slice none 0 0, .slice none 0 0, .slice none 0 0, .slice none 0 0] 27)
    rw [World.size_alloc, hW0] at h1
    intro j hj
    obtain rfl | rfl | rfl | rfl | rfl : j = 0 ∨ j = 1 ∨ j = 2 ∨ j = 3 ∨ j = 4 := by omega
    all_goals exact ⟨.slice none 0 0, by simp [World.cell?, h1], by simp [World.frozen?, h1]⟩)
  have hs0 : W0.heap.size = w.heap.size + 2 := by rw [← hW0]; simp
  have HS0 := hideG hs0
  have HV := hideG (show ViewAt w _ _ _ _ _ V from ⟨hT, hO, hM, hP, hQ⟩)
  have HV0 := hideG (HV.out.below hbw)
  have HW0 := hideG hW0
  have HS := hideG hS
  have HL := hideG hl
  have BX := hideG (show BoxV W0 w.heap.size _ _ _ _ _ from ⟨P0.out, P1.out, P2.out, P3.out, P4.out⟩)
  obtain ⟨i3, hi3, hz30, hz31, hz32⟩ := info_parts infoT3
  obtain ⟨i39, hi39, hz390, hz391, hz392⟩ := info_parts infoT39
  have HM := hideG hm
  have h1l : V.op.length ≤ 500 := hl.1
  have h2l : V.modal.length ≤ 500 := hl.2.1
  have h3l : V.pops.length ≤ 500 := hl.2.2.1
  have h4l : V.top.length ≤ 1000 := hl.2.2.2
  have HMY := hideG (refMay_walk V.tree hS _ W0 HV0.out.tree)
  rw [hm] at HMY
  clear hW0 hT hO hM hP hQ hS hl hbw hm
  have FV := hideG (BX.out)
  have p0 := FV.out.c0
  have p1 := FV.out.c1
  have p2 := FV.out.c2
  have p3 := FV.out.c3
  have p4 := FV.out.c4
  have plt := FV.out.lt
  go_enter Tryz.func23, Tryz.ntmps23
  go_wp2_with fail
  rw [HW0.out]
  refine HMY.out.mono ?_
  rintro ex w1 ⟨rfl, hb1⟩
  have HB1 := hideG hb1
  clear hb1 HMY
  clear FV p0 p1 p2 p3 p4 plt
  have FV := hideG (BX.out.below HB1.out)
  have p0 := FV.out.c0
  have p1 := FV.out.c1
  have p2 := FV.out.c2
  have p3 := FV.out.c3
  have p4 := FV.out.c4
  have plt := FV.out.lt
  have FX0 := hideG (show FixS W0 (w1.heap.size) (w1.heap.size) (.slice ta V.tree.length tc) (.slice none 0 0) (.slice none 0 0) (.slice none 0 0) (.slice none 0 0) (.slice none 0 0) ([]) ([]) ([]) ([]) ([]) (w1.alloc (.cells #[.slice ta V.tree.length tc, .slice none 0 0, .slice none 0 0, .slice none 0 0, .slice none 0 0] 27)) from ⟨⟨five (World.ownsRow_nil _ _ _ _) (World.ownsRow_nil _ _ _ _) (World.ownsRow_nil _ _ _ _) (World.ownsRow_nil _ _ _ _) (World.ownsRow_nil _ _ _ _), fun i j hi hj _ => apart_nil i j hi⟩, BoxO.new _ _ _ _ _ _, HB1.out.alloc HB1.out.size _⟩)
  go_wp2_with fail
  clear FV p0 p1 p2 p3 p4 plt
  go_loopw [6, 7] (fun g i wr => ∃ (k1 : Nat) (O1 G1 : List Int) (oa1 ga1 : Option Addr) (oc1 gc1 : Nat), k1 ≤ V.op.length ∧ i = .int .i64 (k1 : Int) ∧ g = .slice ga1 G1.length gc1 ∧ O1 = (V.op.take k1).filter (dlgB V.tree) ∧ G1 = (V.op.take k1).filter (notB (dlgB V.tree)) ∧ FixS W0 (w1.heap.size) (w1.heap.size) (.slice ta V.tree.length tc) (.slice oa1 O1.length oc1) (.slice none 0 0) (.slice none 0 0) (.slice none 0 0) (.slice ga1 G1.length gc1) (O1) ([]) ([]) ([]) (G1) wr) (fun _ i _ => V.op.length - (intOf i).toNat)
  case atStart => exact ⟨0, [], [], none, none, 0, 0, Nat.zero_le _, rfl, rfl, rfl, rfl, FX0.out⟩
  case round =>
    obtain ⟨k1, O1, G1, oa1, ga1, oc1, gc1, hk, rfl, rfl, hO, hG, hfs⟩ := hrel
    have HOE := hideG hO
    have HGE := hideG hG
    have HF := hideG hfs
    have hOl : O1.length ≤ 500 := by
      have h1 := List.length_filter_le (dlgB V.tree) (V.op.take k1)
      rw [← hO, List.length_take] at h1
      omega
    have hGl : G1.length ≤ 2000 := by
      have h1 := List.length_filter_le (notB (dlgB V.tree)) (V.op.take k1)
      rw [List.length_take] at h1
      rw [hG]
      omega
    clear hO hG hfs
    have FV := hideG (BX.out.below HF.out.bel)
    have p0 := FV.out.c0
    have p1 := FV.out.c1
    have p2 := FV.out.c2
    have p3 := FV.out.c3
    have p4 := FV.out.c4
    have plt := FV.out.lt
    by_cases hlt : k1 < V.op.length
    · obtain ⟨a', c', hv, hc⟩ := HV0.out.op
      injection hv with y1 y2 y3
      subst y1
      clear y2 y3
      obtain ⟨sb, off, rfl, hd⟩ := hc (by omega)
      have HT := hideG (show V.op.take (k1 + 1) = V.op.take k1 ++ [V.op.getD k1 0] by
        rw [List.take_succ_eq_append_getElem hlt, List.getD_eq_getElem?_getD, List.getElem?_eq_getElem hlt]; rfl)
      have HSX := hideG (hd k1 hlt)
      have c0 := cell_below HF.out.bel (hd k1 hlt)
      generalize V.op.getD k1 0 = x at *
      have hbl : sb < wr.heap.size := below_of_cell c0
      have hk0 : (0 : Int) ≤ (k1 : Int) := by omega
      have hkl : (k1 : Int) < (V.op.length : Int) := by omega
      have hcc : ∀ (d : Calm wr) (b o : Nat), b < wr.heap.size → d.to.cell? ⟨b, o, none⟩ = wr.cell? ⟨b, o, none⟩ := calmCell
      have HD := hideG (show ∀ x U, Below wr.heap.size wr U → Calls Tryz.prog 76 #[.slice ta V.tree.length tc, .int .i64 x] U (fun e w' => e = .returned (.bool (dlgB V.tree x)) ∧ Below wr.heap.size wr w') from fun x U hU => by
        refine (refDialogs_any V.tree HM.out _ x U ((HV0.out.tree.below HF.out.bel).below hU)).mono ?_
        rintro e w' ⟨rfl, hb⟩
        exact ⟨rfl, hU.trans (hb.mono hU.size)⟩)
      clear hd hc
      cases hcn : dlgB V.tree x
      · have HN := hideG hcn
        clear hcn
        go_wp2_with fail
        refine wp_region_calm (by kernel_rfl) (by kernel_rfl) ?_
        repeat (go_big_quiet_step (first | (go_at_call 76; refine Calls.mono (HD.out x _ (Calm.below _)) ?_; rintro ex wx ⟨rfl, hbx⟩; rw [HN.out]; exact ⟨rfl, ⟨wx, hbx⟩, rfl⟩)))
        refine wpQuiet_nil ?_
        intro _ hw'
        obtain ⟨dq, hw''⟩ := hw'
        subst hw''
        have HF2 := hideG (HF.out.below dq.below)
        generalize dq.to = wr2 at *
        clear dq hcc c0 hbl HD
        clear FV p0 p1 p2 p3 p4 plt
        have FV := hideG (BX.out.below HF2.out.bel)
        have p0 := FV.out.c0
        have p1 := FV.out.c1
        have p2 := FV.out.c2
        have p3 := FV.out.c3
        have p4 := FV.out.c4
        have plt := FV.out.lt
        have c0 := cell_below HF2.out.bel HSX.out
        have hbl : sb < wr2.heap.size := below_of_cell c0
        have hgs : W0.heap.size ≤ wr2.heap.size := HF2.out.bel.size
        have hbs : w1.heap.size < wr2.heap.size := HF2.out.box.lt
        go_wp2_with (at_builtin; refine wpList_append_any rfl (.tmp 45) (.tmp 51) 24 rfl (w1.heap.size) 3 i3 _ 1 8 Tryz.underlying24 hi3 hz30 hz31 hz32 rfl (by decide) _ G1.length (intCells G1) rfl ((HF2.out.rs.own 4 (by omega)).alloc _) _ 1 [.int .i64 x] rfl (row_new1 _ _) rfl ?h2 ?h3 ?h4 ?h5 ?_)
        case h2 => first | rfl | (intro y hy; simp at hy; subst hy; rfl)
        case h3 => simp only [maxLen]; omega
        case h4 => omega
        case h5 => (try simp); omega
        intro v4 w4 ho4 hg4 hf4
        obtain ⟨a4, c4, rfl⟩ := ownsRow_shape ho4
        rw [intCells_snoc] at ho4
        have HFN := hideG (HF2.out.app4 HB1.out.size (alB wr2 (.cells #[.int .i64 x] 3)) ho4 hg4 (fun q e => (hf4 q e).imp id (fun h => by rw [World.size_alloc]; (try rw [World.size_alloc] at h); exact h)))
        clear FV p0 p1 p2 p3 p4 plt
        clear ho4 hg4 hf4 c0 hbl
        go_wp2_with fail
        go_roundw
        case rel => exact ⟨k1 + 1, O1, G1 ++ [x], oa1, a4, oc1, c4, by omega, by go_num, by rw [List.length_append]; rfl, by rw [HT.out, List.filter_append, ← HOE.out]; simp [HN.out], by rw [HT.out, List.filter_append, HGE.out]; simp [notB, HN.out], by rw [List.length_append]; exact HFN.out⟩
        case measure => simp [intOf]; omega
      · have HN := hideG hcn
        clear hcn
        go_wp2_with fail
        refine wp_region_calm (by kernel_rfl) (by kernel_rfl) ?_
        repeat (go_big_quiet_step (first | (go_at_call 76; refine Calls.mono (HD.out x _ (Calm.below _)) ?_; rintro ex wx ⟨rfl, hbx⟩; rw [HN.out]; exact ⟨rfl, ⟨wx, hbx⟩, rfl⟩)))
        refine wpQuiet_nil ?_
        intro _ hw'
        obtain ⟨dq, hw''⟩ := hw'
        subst hw''
        have HF2 := hideG (HF.out.below dq.below)
        generalize dq.to = wr2 at *
        clear dq hcc c0 hbl HD
        clear FV p0 p1 p2 p3 p4 plt
        have FV := hideG (BX.out.below HF2.out.bel)
        have p0 := FV.out.c0
        have p1 := FV.out.c1
        have p2 := FV.out.c2
        have p3 := FV.out.c3
        have p4 := FV.out.c4
        have plt := FV.out.lt
        have c0 := cell_below HF2.out.bel HSX.out
        have hbl : sb < wr2.heap.size := below_of_cell c0
        have hgs : W0.heap.size ≤ wr2.heap.size := HF2.out.bel.size
        have hbs : w1.heap.size < wr2.heap.size := HF2.out.box.lt
        have q1 := HF2.out.box.cells.c1
        have HRW := hideG (((HF2.out.rs.own 0 (by omega)).drew).alloc (.cells #[.int .i64 x] 3))
        have HNW := hideG (show Holds (wr2.drew.alloc (.cells #[.int .i64 x] 3)) (.slice (some ⟨wr2.heap.size, 0, none⟩) 1 1) 1 [.int .i64 x] from row_new1 wr2.drew x)
        have HONE := hideG (show ∀ u ∈ ([.int .i64 x] : List Value), u.oneCell' = true from by intro y hy; simp at hy; subst hy; rfl)
        have HMX := hideG (show O1.length + 1 ≤ maxLen by simp only [maxLen]; omega)
        have HBY := hideG (show (O1.length + 1) * 8 ≤ 140737488355328 by omega)
        have HBS := hideG (show w1.heap.size ≤ (wr2.drew.alloc (.cells #[.int .i64 x] 3)).heap.size by rw [World.size_alloc]; show w1.heap.size ≤ wr2.heap.size + 1; omega)
        have HPOS := hideG (show 0 < 1 by decide)
        have HFIN := hideG (show ∀ v4 w4, w4.ownsRow (w1.heap.size) 3 1 v4 (O1.length + 1) (intCells O1 ++ [.int .i64 x]) → (wr2.drew.alloc (.cells #[.int .i64 x] 3)).grownBy w4 (Value.slice oa1 O1.length oc1).ownBlock → (∀ q, v4.ownBlock = some q → (Value.slice oa1 O1.length oc1).ownBlock = some q ∨ (wr2.drew.alloc (.cells #[.int .i64 x] 3)).heap.size ≤ q) → ∃ a4 c4, v4 = .slice a4 (O1.length + 1) c4 ∧ w4.cell? ⟨w1.heap.size, 1, none⟩ = some (.slice oa1 O1.length oc1) ∧ w4.frozen? ⟨w1.heap.size, 1, none⟩ = false ∧ Hid (FixS W0 (w1.heap.size) (w1.heap.size) (.slice ta V.tree.length tc) (.slice a4 (O1.length + 1) c4) (.slice none 0 0) (.slice none 0 0) (.slice none 0 0) (.slice ga1 G1.length gc1) (O1 ++ [x]) ([]) ([]) ([]) (G1) (w4.setCell ⟨w1.heap.size, 1, none⟩ (.slice a4 (O1.length + 1) c4))) from by
          intro v4 w4 ho4 hg4 hf4
          obtain ⟨a4, c4, rfl⟩ := ownsRow_shape ho4
          rw [intCells_snoc] at ho4
          have hbt : Below wr2.heap.size wr2 (wr2.drew.alloc (.cells #[.int .i64 x] 3)) := (below_drew' (Below.refl wr2.heap.size wr2)).alloc (Nat.le_refl _) _
          have hk2 := (HF2.out.kept hbt (i := 0) (by omega) hg4 HB1.out.size).1
          exact ⟨a4, c4, rfl, hk2.cells.c1, hk2.frozen 1 (by omega), hideG (HF2.out.app0 HB1.out.size HB1.out.size hbt ho4 hg4 hf4)⟩)
        go_wp2_with fail
        go_region_law (refine step_append_any rfl (.tmp 36) (.tmp 42) 24 rfl (w1.heap.size) 3 i3 _ 1 8 Tryz.underlying24 hi3 hz30 hz31 hz32 rfl HPOS.out _ O1.length (intCells O1) rfl HRW.out _ 1 _ rfl HNW.out rfl HONE.out HMX.out HBY.out HBS.out ?_; intro v4 w4 ho4 hg4 hf4; obtain ⟨a4, c4, rfl, hd3, hdf3, hfin⟩ := HFIN.out v4 w4 ho4 hg4 hf4; clear ho4 hg4 hf4)
        all_goals
          go_wp2_with fail
          go_roundw
          case rel => exact ⟨k1 + 1, O1 ++ [x], G1, a4, ga1, c4, gc1, by omega, by go_num, rfl, by rw [HT.out, List.filter_append, ← HOE.out]; simp [HN.out], by rw [HT.out, List.filter_append, HGE.out]; simp [notB, HN.out], by rw [List.length_append]; exact hfin.out⟩
          case measure => simp [intOf]; omega
    · have hkl : ¬ (k1 : Int) < (V.op.length : Int) := by omega
      have hke : k1 = V.op.length := by omega
      subst hke
      rw [List.take_length] at HOE HGE
      have hOE := HOE.out
      have hGE := HGE.out
      obtain rfl : O1 = fixOp V := hOE
      obtain rfl : G1 = fixNo V := hGE
      have HGP := hideG (show (fixNo V).length ≤ 500 from Nat.le_trans (List.length_filter_le _ _) h1l)
      go_wp2_with fail
      clear FV p0 p1 p2 p3 p4 plt
      go_loopw [6, 8] (fun g i wr => ∃ (k2 : Nat) (O2 G2 : List Int) (oa2 ga2 : Option Addr) (oc2 gc2 : Nat), k2 ≤ V.modal.length ∧ i = .int .i64 (k2 : Int) ∧ g = .slice ga2 G2.length gc2 ∧ O2 = (V.modal.take k2).filter (dlgB V.tree) ∧ G2 = fixNo V ++ (V.modal.take k2).filter (notB (dlgB V.tree)) ∧ FixS W0 (w1.heap.size) (w1.heap.size) (.slice ta V.tree.length tc) (.slice oa1 (fixOp V).length oc1) (.slice oa2 O2.length oc2) (.slice none 0 0) (.slice none 0 0) (.slice ga2 G2.length gc2) (fixOp V) (O2) ([]) ([]) (G2) wr) (fun _ i _ => V.modal.length - (intOf i).toNat)
      case atStart => exact ⟨0, [], (fixNo V), none, ga1, 0, gc1, Nat.zero_le _, rfl, rfl, rfl, by simp, HF.out⟩
      case round =>
        obtain ⟨k2, O2, G2, oa2, ga2, oc2, gc2, hk, rfl, rfl, hO, hG, hfs⟩ := hrel
        have HOE := hideG hO
        have HGE := hideG hG
        have HF := hideG hfs
        have hOl : O2.length ≤ 500 := by
          have h1 := List.length_filter_le (dlgB V.tree) (V.modal.take k2)
          rw [← hO, List.length_take] at h1
          omega
        have hGl : G2.length ≤ 2000 := by
          have h1 := List.length_filter_le (notB (dlgB V.tree)) (V.modal.take k2)
          rw [List.length_take] at h1
          rw [hG]
          rw [List.length_append]; have h2 := HGP.out; omega
        clear hO hG hfs
        have FV := hideG (BX.out.below HF.out.bel)
        have p0 := FV.out.c0
        have p1 := FV.out.c1
        have p2 := FV.out.c2
        have p3 := FV.out.c3
        have p4 := FV.out.c4
        have plt := FV.out.lt
        by_cases hlt : k2 < V.modal.length
        · obtain ⟨a', c', hv, hc⟩ := HV0.out.modal
          injection hv with y1 y2 y3
          subst y1
          clear y2 y3
          obtain ⟨sb, off, rfl, hd⟩ := hc (by omega)
          have HT := hideG (show V.modal.take (k2 + 1) = V.modal.take k2 ++ [V.modal.getD k2 0] by
            rw [List.take_succ_eq_append_getElem hlt, List.getD_eq_getElem?_getD, List.getElem?_eq_getElem hlt]; rfl)
          have HSX := hideG (hd k2 hlt)
          have c0 := cell_below HF.out.bel (hd k2 hlt)
          generalize V.modal.getD k2 0 = x at *
          have hbl : sb < wr.heap.size := below_of_cell c0
          have hk0 : (0 : Int) ≤ (k2 : Int) := by omega
          have hkl : (k2 : Int) < (V.modal.length : Int) := by omega
          have hcc : ∀ (d : Calm wr) (b o : Nat), b < wr.heap.size → d.to.cell? ⟨b, o, none⟩ = wr.cell? ⟨b, o, none⟩ := calmCell
          have HD := hideG (show ∀ x U, Below wr.heap.size wr U → Calls Tryz.prog 76 #[.slice ta V.tree.length tc, .int .i64 x] U (fun e w' => e = .returned (.bool (dlgB V.tree x)) ∧ Below wr.heap.size wr w') from fun x U hU => by
            refine (refDialogs_any V.tree HM.out _ x U ((HV0.out.tree.below HF.out.bel).below hU)).mono ?_
            rintro e w' ⟨rfl, hb⟩
            exact ⟨rfl, hU.trans (hb.mono hU.size)⟩)
          clear hd hc
          cases hcn : dlgB V.tree x
          · have HN := hideG hcn
            clear hcn
            go_wp2_with fail
            refine wp_region_calm (by kernel_rfl) (by kernel_rfl) ?_
            repeat (go_big_quiet_step (first | (go_at_call 76; refine Calls.mono (HD.out x _ (Calm.below _)) ?_; rintro ex wx ⟨rfl, hbx⟩; rw [HN.out]; exact ⟨rfl, ⟨wx, hbx⟩, rfl⟩)))
            refine wpQuiet_nil ?_
            intro _ hw'
            obtain ⟨dq, hw''⟩ := hw'
            subst hw''
            have HF2 := hideG (HF.out.below dq.below)
            generalize dq.to = wr2 at *
            clear dq hcc c0 hbl HD
            clear FV p0 p1 p2 p3 p4 plt
            have FV := hideG (BX.out.below HF2.out.bel)
            have p0 := FV.out.c0
            have p1 := FV.out.c1
            have p2 := FV.out.c2
            have p3 := FV.out.c3
            have p4 := FV.out.c4
            have plt := FV.out.lt
            have c0 := cell_below HF2.out.bel HSX.out
            have hbl : sb < wr2.heap.size := below_of_cell c0
            have hgs : W0.heap.size ≤ wr2.heap.size := HF2.out.bel.size
            have hbs : w1.heap.size < wr2.heap.size := HF2.out.box.lt
            go_wp2_with (at_builtin; refine wpList_append_any rfl (.tmp 78) (.tmp 84) 24 rfl (w1.heap.size) 3 i3 _ 1 8 Tryz.underlying24 hi3 hz30 hz31 hz32 rfl (by decide) _ G2.length (intCells G2) rfl ((HF2.out.rs.own 4 (by omega)).alloc _) _ 1 [.int .i64 x] rfl (row_new1 _ _) rfl ?h2 ?h3 ?h4 ?h5 ?_)
            case h2 => first | rfl | (intro y hy; simp at hy; subst hy; rfl)
            case h3 => simp only [maxLen]; omega
            case h4 => omega
            case h5 => (try simp); omega
            intro v4 w4 ho4 hg4 hf4
            obtain ⟨a4, c4, rfl⟩ := ownsRow_shape ho4
            rw [intCells_snoc] at ho4
            have HFN := hideG (HF2.out.app4 HB1.out.size (alB wr2 (.cells #[.int .i64 x] 3)) ho4 hg4 (fun q e => (hf4 q e).imp id (fun h => by rw [World.size_alloc]; (try rw [World.size_alloc] at h); exact h)))
            clear FV p0 p1 p2 p3 p4 plt
            clear ho4 hg4 hf4 c0 hbl
            go_wp2_with fail
            go_roundw
            case rel => exact ⟨k2 + 1, O2, G2 ++ [x], oa2, a4, oc2, c4, by omega, by go_num, by rw [List.length_append]; rfl, by rw [HT.out, List.filter_append, ← HOE.out]; simp [HN.out], by rw [HT.out, List.filter_append, HGE.out]; simp [notB, HN.out], by rw [List.length_append]; exact HFN.out⟩
            case measure => simp [intOf]; omega
          · have HN := hideG hcn
            clear hcn
            go_wp2_with fail
            refine wp_region_calm (by kernel_rfl) (by kernel_rfl) ?_
            repeat (go_big_quiet_step (first | (go_at_call 76; refine Calls.mono (HD.out x _ (Calm.below _)) ?_; rintro ex wx ⟨rfl, hbx⟩; rw [HN.out]; exact ⟨rfl, ⟨wx, hbx⟩, rfl⟩)))
            refine wpQuiet_nil ?_
            intro _ hw'
            obtain ⟨dq, hw''⟩ := hw'
            subst hw''
            have HF2 := hideG (HF.out.below dq.below)
            generalize dq.to = wr2 at *
            clear dq hcc c0 hbl HD
            clear FV p0 p1 p2 p3 p4 plt
            have FV := hideG (BX.out.below HF2.out.bel)
            have p0 := FV.out.c0
            have p1 := FV.out.c1
            have p2 := FV.out.c2
            have p3 := FV.out.c3
            have p4 := FV.out.c4
            have plt := FV.out.lt
            have c0 := cell_below HF2.out.bel HSX.out
            have hbl : sb < wr2.heap.size := below_of_cell c0
            have hgs : W0.heap.size ≤ wr2.heap.size := HF2.out.bel.size
            have hbs : w1.heap.size < wr2.heap.size := HF2.out.box.lt
            have q2 := HF2.out.box.cells.c2
            have HRW := hideG (((HF2.out.rs.own 1 (by omega)).drew).alloc (.cells #[.int .i64 x] 3))
            have HNW := hideG (show Holds (wr2.drew.alloc (.cells #[.int .i64 x] 3)) (.slice (some ⟨wr2.heap.size, 0, none⟩) 1 1) 1 [.int .i64 x] from row_new1 wr2.drew x)
            have HONE := hideG (show ∀ u ∈ ([.int .i64 x] : List Value), u.oneCell' = true from by intro y hy; simp at hy; subst hy; rfl)
            have HMX := hideG (show O2.length + 1 ≤ maxLen by simp only [maxLen]; omega)
            have HBY := hideG (show (O2.length + 1) * 8 ≤ 140737488355328 by omega)
            have HBS := hideG (show w1.heap.size ≤ (wr2.drew.alloc (.cells #[.int .i64 x] 3)).heap.size by rw [World.size_alloc]; show w1.heap.size ≤ wr2.heap.size + 1; omega)
            have HPOS := hideG (show 0 < 1 by decide)
            have HFIN := hideG (show ∀ v4 w4, w4.ownsRow (w1.heap.size) 3 1 v4 (O2.length + 1) (intCells O2 ++ [.int .i64 x]) → (wr2.drew.alloc (.cells #[.int .i64 x] 3)).grownBy w4 (Value.slice oa2 O2.length oc2).ownBlock → (∀ q, v4.ownBlock = some q → (Value.slice oa2 O2.length oc2).ownBlock = some q ∨ (wr2.drew.alloc (.cells #[.int .i64 x] 3)).heap.size ≤ q) → ∃ a4 c4, v4 = .slice a4 (O2.length + 1) c4 ∧ w4.cell? ⟨w1.heap.size, 2, none⟩ = some (.slice oa2 O2.length oc2) ∧ w4.frozen? ⟨w1.heap.size, 2, none⟩ = false ∧ Hid (FixS W0 (w1.heap.size) (w1.heap.size) (.slice ta V.tree.length tc) (.slice oa1 (fixOp V).length oc1) (.slice a4 (O2.length + 1) c4) (.slice none 0 0) (.slice none 0 0) (.slice ga2 G2.length gc2) (fixOp V) (O2 ++ [x]) ([]) ([]) (G2) (w4.setCell ⟨w1.heap.size, 2, none⟩ (.slice a4 (O2.length + 1) c4))) from by
              intro v4 w4 ho4 hg4 hf4
              obtain ⟨a4, c4, rfl⟩ := ownsRow_shape ho4
              rw [intCells_snoc] at ho4
              have hbt : Below wr2.heap.size wr2 (wr2.drew.alloc (.cells #[.int .i64 x] 3)) := (below_drew' (Below.refl wr2.heap.size wr2)).alloc (Nat.le_refl _) _
              have hk2 := (HF2.out.kept hbt (i := 1) (by omega) hg4 HB1.out.size).1
              exact ⟨a4, c4, rfl, hk2.cells.c2, hk2.frozen 2 (by omega), hideG (HF2.out.app1 HB1.out.size HB1.out.size hbt ho4 hg4 hf4)⟩)
            go_wp2_with fail
            go_region_law (refine step_append_any rfl (.tmp 69) (.tmp 75) 24 rfl (w1.heap.size) 3 i3 _ 1 8 Tryz.underlying24 hi3 hz30 hz31 hz32 rfl HPOS.out _ O2.length (intCells O2) rfl HRW.out _ 1 _ rfl HNW.out rfl HONE.out HMX.out HBY.out HBS.out ?_; intro v4 w4 ho4 hg4 hf4; obtain ⟨a4, c4, rfl, hd3, hdf3, hfin⟩ := HFIN.out v4 w4 ho4 hg4 hf4; clear ho4 hg4 hf4)
            all_goals
              go_wp2_with fail
              go_roundw
              case rel => exact ⟨k2 + 1, O2 ++ [x], G2, a4, ga2, c4, gc2, by omega, by go_num, rfl, by rw [HT.out, List.filter_append, ← HOE.out]; simp [HN.out], by rw [HT.out, List.filter_append, HGE.out]; simp [notB, HN.out], by rw [List.length_append]; exact hfin.out⟩
              case measure => simp [intOf]; omega
        · have hkl : ¬ (k2 : Int) < (V.modal.length : Int) := by omega
          have hke : k2 = V.modal.length := by omega
          subst hke
          rw [List.take_length] at HOE HGE
          have hOE := HOE.out
          have hGE := HGE.out
          obtain rfl : O2 = fixMd V := hOE
          obtain rfl : G2 = fixNo V ++ fixNm V := hGE
          have HGP2 := hideG (show (fixNo V ++ fixNm V).length ≤ 1000 by rw [List.length_append]; have := HGP.out; have h := Nat.le_trans (List.length_filter_le (notB (dlgB V.tree)) V.modal) h2l; show (fixNo V).length + (V.modal.filter (notB (dlgB V.tree))).length ≤ 1000; omega)
          go_wp2_with fail
          clear FV p0 p1 p2 p3 p4 plt
          go_loopw [6, 9] (fun g i wr => ∃ (k : Nat) (P : List Sh) (G : List Int) (pxa ga : Option Addr) (pxc gc : Nat), k ≤ V.pops.length ∧ i = .int .i64 (k : Int) ∧ g = .slice ga G.length gc ∧ P = ((V.pops.take k).filter (fun x => popB V.tree x.node)).map (fixS V.tree) ∧ G = fixNo V ++ fixNm V ++ nodesL' ((V.pops.take k).filter (notB (fun x => popB V.tree x.node))) ∧ FixS W0 (w1.heap.size) (w1.heap.size) (.slice ta V.tree.length tc) (.slice oa1 (fixOp V).length oc1) (.slice oa2 (fixMd V).length oc2) (.slice pxa P.length pxc) (.slice none 0 0) (.slice ga G.length gc) (fixOp V) (fixMd V) (P) ([]) (G) wr) (fun _ i _ => V.pops.length - (intOf i).toNat)
          case atStart => exact ⟨0, [], fixNo V ++ fixNm V, none, ga2, 0, gc2, Nat.zero_le _, rfl, by rw [List.length_append], rfl, by simp [nodesL'], HF.out⟩
          case round =>
            obtain ⟨k, P, G, pxa, ga, pxc, gc, hk, rfl, rfl, hP, hG, hfs⟩ := hrel
            have HPE := hideG hP
            have HGE := hideG hG
            have HF := hideG hfs
            have hPl : P.length ≤ 500 := by
              have h1 := List.length_filter_le (fun x => popB V.tree x.node) (V.pops.take k)
              rw [List.length_take] at h1
              rw [hP, List.length_map]
              omega
            have hGl : G.length ≤ 2000 := by
              have h1 := List.length_filter_le (notB (fun x => popB V.tree x.node)) (V.pops.take k)
              rw [List.length_take] at h1
              rw [hG, List.length_append, nodesL'_len]
              have h2 := HGP2.out
              omega
            clear hP hG hfs
            have FV := hideG (BX.out.below HF.out.bel)
            have p0 := FV.out.c0
            have p1 := FV.out.c1
            have p2 := FV.out.c2
            have p3 := FV.out.c3
            have p4 := FV.out.c4
            have plt := FV.out.lt
            by_cases hlt : k < V.pops.length
            · obtain ⟨a', c', hv, _, hc⟩ := HV0.out.pops
              injection hv with y1 y2 y3
              subst y1
              clear y2 y3
              obtain ⟨sb, off, rfl, hd⟩ := hc (by omega)
              have HT := hideG (show V.pops.take (k + 1) = V.pops.take k ++ [V.pops.getD k shD] by
                rw [List.take_succ_eq_append_getElem hlt, List.getD_eq_getElem?_getD, List.getElem?_eq_getElem hlt]; rfl)
              have hH := (hd k hlt).below HF.out.bel
              generalize V.pops.getD k shD = x at *
              have s0 := hH.node
              have s1 := hH.inv
              have hbl : sb < wr.heap.size := below_of_cell s0
              have hk0 : (0 : Int) ≤ (k : Int) := by omega
              have hkl : (k : Int) < (V.pops.length : Int) := by omega
              have HXA := hideG (alB wr (.cells #[.int .i64 x.node, .int .i64 x.inv] 39))
              have HTX := hideG ((HV0.out.tree.below HF.out.bel).below HXA.out)
              clear hd hH hc
              go_wp2_with fail
              refine (refPopups_any V.tree HS.out HM.out _ x.node _ HTX.out).mono ?_
              rintro ex w2 ⟨rfl, hb2⟩
              have hbx : Below wr.heap.size wr w2 := HXA.out.trans (hb2.mono HXA.out.size)
              have HBX2 := hideG hbx
              have x0 : w2.cell? ⟨wr.heap.size, 0, none⟩ = some (.int .i64 x.node) := cell_below hb2 (by simp)
              have x1 : w2.cell? ⟨wr.heap.size, 1, none⟩ = some (.int .i64 x.inv) := cell_below hb2 (by simp)
              have xf : w2.frozen? ⟨wr.heap.size, 1, none⟩ = false := frozen_below hb2 (v := .int .i64 x.inv) (by simp) (by simp)
              have xlt := below_of_cell x0
              clear hb2 hbx s0 s1
              clear FV p0 p1 p2 p3 p4 plt
              cases hcn : popB V.tree x.node
              · have HN := hideG hcn
                clear hcn
                have HF2 := hideG (HF.out.below HBX2.out)
                have FV := hideG (BX.out.below HF2.out.bel)
                have p0 := FV.out.c0
                have p1 := FV.out.c1
                have p2 := FV.out.c2
                have p3 := FV.out.c3
                have p4 := FV.out.c4
                have plt := FV.out.lt
                have hbs : w1.heap.size < w2.heap.size := HF2.out.box.lt
                go_wp2_with (at_builtin; refine wpList_append_any rfl (.tmp 104) (.tmp 107) 24 rfl (w1.heap.size) 3 i3 _ 1 8 Tryz.underlying24 hi3 hz30 hz31 hz32 rfl (by decide) _ G.length (intCells G) rfl ((HF2.out.rs.own 4 (by omega)).alloc _) _ 1 [.int .i64 x.node] rfl (row_new1 _ _) rfl ?h2 ?h3 ?h4 ?h5 ?_)
                case h2 => first | rfl | (intro y hy; simp at hy; subst hy; rfl)
                case h3 => simp only [maxLen]; omega
                case h4 => omega
                case h5 => (try simp); omega
                intro v4 w4 ho4 hg4 hf4
                obtain ⟨a4, c4, rfl⟩ := ownsRow_shape ho4
                rw [intCells_snoc] at ho4
                have HFN := hideG (HF2.out.app4 HB1.out.size (alB w2 (.cells #[.int .i64 x.node] 3)) ho4 hg4 (fun q e => (hf4 q e).imp id (fun h => by rw [World.size_alloc]; (try rw [World.size_alloc] at h); exact h)))
                clear FV p0 p1 p2 p3 p4 plt
                clear ho4 hg4 hf4 x0 x1 xf xlt
                go_wp2_with fail
                go_roundw
                case rel => exact ⟨k + 1, P, G ++ [x.node], pxa, a4, pxc, c4, by omega, by go_num, by rw [List.length_append]; rfl, by rw [HT.out, List.filter_append, List.map_append, ← HPE.out]; simp [HN.out], by rw [HT.out, List.filter_append, nodesL'_app, HGE.out, List.append_assoc]; simp [notB, HN.out, nodesL'], by rw [List.length_append]; exact HFN.out⟩
                case measure => simp [intOf]; omega
              · have HN := hideG hcn
                clear hcn
                have HGN := hideG (show ([x] : List Sh).filter (notB (fun x => popB V.tree x.node)) = [] by simp [notB, HN.out])
                have HF0 := hideG (HF.out.below HBX2.out)
                have FV := hideG (BX.out.below HF0.out.bel)
                have p0 := FV.out.c0
                have p1 := FV.out.c1
                have p2 := FV.out.c2
                have p3 := FV.out.c3
                have p4 := FV.out.c4
                have plt := FV.out.lt
                cases hi : isNodeB V.tree.length x.inv
                · have HI := hideG hi
                  have HFX := hideG (show (([x] : List Sh).filter (fun x => popB V.tree x.node)).map (fixS V.tree) = [(⟨x.node, -1⟩ : Sh)] by simp [HN.out, fixS_no hi])
                  clear hi
                  go_wp2_with fail
                  refine (refIs_any _ _ _ _ _).mono ?_
                  rintro e wz ⟨rfl, hwz⟩
                  obtain rfl : _ = wz := hwz.symm
                  rw [HI.out]
                  go_upto_region 25 with fail
                  clear FV p0 p1 p2 p3 p4 plt
                  obtain ⟨w3, hw3⟩ : ∃ X, w2.setCell ⟨wr.heap.size, 1, none⟩ (.int .i64 (-1)) = X := ⟨_, rfl⟩
                  have hbw3 : Below wr.heap.size wr w3 := by rw [← hw3]; exact HBX2.out.setCell (p := ⟨wr.heap.size, 1, none⟩) (Nat.le_refl _) _
                  have HBW3 := hideG hbw3
                  have x0' : w3.cell? ⟨wr.heap.size, 0, none⟩ = some (.int .i64 x.node) := by rw [← hw3]; exact set_other x0 (by decide)
                  have x1' : w3.cell? ⟨wr.heap.size, 1, none⟩ = some (.int .i64 (-1)) := by rw [← hw3]; exact set_same x1
                  rw [hw3]
                  clear hw3 hbw3 x0 x1 xf xlt
                  have xlt := below_of_cell x0'
                  have HF2 := hideG (HF.out.below HBW3.out)
                  have FV := hideG (BX.out.below HF2.out.bel)
                  have p0 := FV.out.c0
                  have p1 := FV.out.c1
                  have p2 := FV.out.c2
                  have p3 := FV.out.c3
                  have p4 := FV.out.c4
                  have plt := FV.out.lt
                  have q3 := HF2.out.box.cells.c3
                  have hbs : w1.heap.size < w3.heap.size := HF2.out.box.lt
                  have HRWP := hideG ((HF2.out.rs.own 2 (by omega)).alloc (.cells #[.int .i64 x.node, .int .i64 (-1)] 39))
                  go_wp2_with (at_builtin; refine wpList_append_any rfl (.tmp 117) (.tmp 119) 25 rfl (w1.heap.size) 39 i39 _ 2 16 Tryz.underlying25 hi39 hz390 hz391 hz392 rfl (by decide) _ P.length (shCells P) rfl HRWP.out _ 1 [.int .i64 x.node, .int .i64 (-1)] rfl (row_newS w3 ⟨x.node, -1⟩) rfl ?h2 ?h3 ?h4 ?h5 ?_)
                  case h2 => first | rfl | (exact ⟨rfl, rfl⟩) | (intro y hy; simp at hy; rcases hy with rfl | rfl <;> rfl)
                  case h3 => simp only [maxLen]; omega
                  case h4 => omega
                  case h5 => (try simp); omega
                  intro v4 w4 ho4 hg4 hf4
                  obtain ⟨a4, c4, rfl⟩ := ownsRow_shape ho4
                  have ho5 : w4.ownsRow (w1.heap.size) 39 2 (.slice a4 (P.length + 1) c4) (P.length + 1) (shCells (P ++ [(⟨x.node, -1⟩ : Sh)])) := by have h := ho4; rw [show shCells P ++ [Value.int .i64 x.node, .int .i64 (-1)] = shCells (P ++ [(⟨x.node, -1⟩ : Sh)]) from shCells_snoc P ⟨x.node, -1⟩] at h; exact h
                  have hf5 : ∀ q, (Value.slice a4 (P.length + 1) c4).ownBlock = some q → (Value.slice pxa P.length pxc).ownBlock = some q ∨ (w3.alloc (.cells #[.int .i64 x.node, .int .i64 (-1)] 39)).heap.size ≤ q := fun q e => (hf4 q e).imp id (fun h => by rw [World.size_alloc]; (try rw [World.size_alloc] at h); exact h)
                  have hk5 := (HF2.out.kept (alB w3 _) (i := 2) (by omega) hg4 HB1.out.size).1
                  have z3 := hk5.cells.c3
                  have zf3 := hk5.frozen 3 (by omega)
                  have HFN := hideG (HF2.out.app2 HB1.out.size HB1.out.size (alB w3 _) ho5 hg4 hf5)
                  clear FV p0 p1 p2 p3 p4 plt
                  clear ho4 ho5 hg4 hf4 hf5 hk5 q3
                  go_wp2_with fail
                  go_roundw
                  case rel => exact ⟨k + 1, P ++ [(⟨x.node, -1⟩ : Sh)], G, a4, ga, c4, gc, by omega, by go_num, rfl, by rw [HT.out, List.filter_append, List.map_append, ← HPE.out, HFX.out], by rw [HT.out, List.filter_append, HGN.out, List.append_nil]; exact HGE.out, by rw [List.length_append]; exact HFN.out⟩
                  case measure => simp [intOf]; omega
                · have HI := hideG hi
                  have HFX := hideG (show (([x] : List Sh).filter (fun x => popB V.tree x.node)).map (fixS V.tree) = [(⟨x.node, x.inv⟩ : Sh)] by simp [HN.out, fixS_yes hi])
                  clear hi
                  go_wp2_with fail
                  refine (refIs_any _ _ _ _ _).mono ?_
                  rintro e wz ⟨rfl, hwz⟩
                  obtain rfl : _ = wz := hwz.symm
                  rw [HI.out]
                  go_upto_region 25 with fail
                  clear FV p0 p1 p2 p3 p4 plt
                  have HF2 := hideG (HF.out.below HBX2.out)
                  have FV := hideG (BX.out.below HF2.out.bel)
                  have p0 := FV.out.c0
                  have p1 := FV.out.c1
                  have p2 := FV.out.c2
                  have p3 := FV.out.c3
                  have p4 := FV.out.c4
                  have plt := FV.out.lt
                  have q3 := HF2.out.box.cells.c3
                  have hbs : w1.heap.size < w2.heap.size := HF2.out.box.lt
                  have HRWP := hideG ((HF2.out.rs.own 2 (by omega)).alloc (.cells #[.int .i64 x.node, .int .i64 (x.inv)] 39))
                  go_wp2_with (at_builtin; refine wpList_append_any rfl (.tmp 117) (.tmp 119) 25 rfl (w1.heap.size) 39 i39 _ 2 16 Tryz.underlying25 hi39 hz390 hz391 hz392 rfl (by decide) _ P.length (shCells P) rfl HRWP.out _ 1 [.int .i64 x.node, .int .i64 (x.inv)] rfl (row_newS w2 ⟨x.node, x.inv⟩) rfl ?h2 ?h3 ?h4 ?h5 ?_)
                  case h2 => first | rfl | (exact ⟨rfl, rfl⟩) | (intro y hy; simp at hy; rcases hy with rfl | rfl <;> rfl)
                  case h3 => simp only [maxLen]; omega
                  case h4 => omega
                  case h5 => (try simp); omega
                  intro v4 w4 ho4 hg4 hf4
                  obtain ⟨a4, c4, rfl⟩ := ownsRow_shape ho4
                  have ho5 : w4.ownsRow (w1.heap.size) 39 2 (.slice a4 (P.length + 1) c4) (P.length + 1) (shCells (P ++ [(⟨x.node, x.inv⟩ : Sh)])) := by have h := ho4; rw [show shCells P ++ [Value.int .i64 x.node, .int .i64 (x.inv)] = shCells (P ++ [(⟨x.node, x.inv⟩ : Sh)]) from shCells_snoc P ⟨x.node, x.inv⟩] at h; exact h
                  have hf5 : ∀ q, (Value.slice a4 (P.length + 1) c4).ownBlock = some q → (Value.slice pxa P.length pxc).ownBlock = some q ∨ (w2.alloc (.cells #[.int .i64 x.node, .int .i64 (x.inv)] 39)).heap.size ≤ q := fun q e => (hf4 q e).imp id (fun h => by rw [World.size_alloc]; (try rw [World.size_alloc] at h); exact h)
                  have hk5 := (HF2.out.kept (alB w2 _) (i := 2) (by omega) hg4 HB1.out.size).1
                  have z3 := hk5.cells.c3
                  have zf3 := hk5.frozen 3 (by omega)
                  have HFN := hideG (HF2.out.app2 HB1.out.size HB1.out.size (alB w2 _) ho5 hg4 hf5)
                  clear FV p0 p1 p2 p3 p4 plt
                  clear ho4 ho5 hg4 hf4 hf5 hk5 q3
                  go_wp2_with fail
                  go_roundw
                  case rel => exact ⟨k + 1, P ++ [(⟨x.node, x.inv⟩ : Sh)], G, a4, ga, c4, gc, by omega, by go_num, rfl, by rw [HT.out, List.filter_append, List.map_append, ← HPE.out, HFX.out], by rw [HT.out, List.filter_append, HGN.out, List.append_nil]; exact HGE.out, by rw [List.length_append]; exact HFN.out⟩
                  case measure => simp [intOf]; omega
            · have hkl : ¬ (k : Int) < (V.pops.length : Int) := by omega
              have hke : k = V.pops.length := by omega
              subst hke
              rw [List.take_length] at HPE HGE
              have hPE := HPE.out
              have hGE := HGE.out
              obtain rfl : P = fixPs V := hPE
              obtain rfl : G = fixG V := hGE
              have HGL := hideG (show (fixG V).length ≤ 2000 from hGl)
              clear hPl hGl
              go_wp2_with fail
              clear FV p0 p1 p2 p3 p4 plt
              go_loopw [11] (fun i wr => ∃ (k : Nat) (T : List Int) (tta : Option Addr) (ttc : Nat), k ≤ V.top.length ∧ i = .int .i64 (k : Int) ∧ T = (V.top.take k).filter (containsB (raisedL (fixV1 V))) ∧ FixS W0 (w1.heap.size) (w1.heap.size) (.slice ta V.tree.length tc) (.slice oa1 (fixOp V).length oc1) (.slice oa2 (fixMd V).length oc2) (.slice pxa (fixPs V).length pxc) (.slice tta T.length ttc) (.slice ga (fixG V).length gc) (fixOp V) (fixMd V) (fixPs V) (T) (fixG V) wr) (fun i _ => V.top.length - (intOf i).toNat)
              case atStart => exact ⟨0, [], none, 0, Nat.zero_le _, rfl, rfl, HF.out⟩
              case round =>
                obtain ⟨k, T, tta, ttc, hk, rfl, hT4, hfs⟩ := hrel
                have HTE := hideG hT4
                have HF := hideG hfs
                have hTl : T.length ≤ 1000 := by
                  have h1 := List.length_filter_le (containsB (raisedL (fixV1 V))) (V.top.take k)
                  rw [← hT4, List.length_take] at h1
                  omega
                clear hT4 hfs
                have FV := hideG (BX.out.below HF.out.bel)
                have p0 := FV.out.c0
                have p1 := FV.out.c1
                have p2 := FV.out.c2
                have p3 := FV.out.c3
                have p4 := FV.out.c4
                have plt := FV.out.lt
                by_cases hlt : k < V.top.length
                · obtain ⟨a', c', hv, hc⟩ := HV0.out.top
                  injection hv with y1 y2 y3
                  subst y1
                  clear y2 y3
                  obtain ⟨sb, off, rfl, hd⟩ := hc (by omega)
                  have HT := hideG (show V.top.take (k + 1) = V.top.take k ++ [V.top.getD k 0] by
                    rw [List.take_succ_eq_append_getElem hlt, List.getD_eq_getElem?_getD, List.getElem?_eq_getElem hlt]; rfl)
                  have HSX := hideG (hd k hlt)
                  have c0 := cell_below HF.out.bel (hd k hlt)
                  generalize V.top.getD k 0 = x at *
                  have hbl : sb < wr.heap.size := below_of_cell c0
                  have hk0 : (0 : Int) ≤ (k : Int) := by omega
                  have hkl : (k : Int) < (V.top.length : Int) := by omega
                  have q2 := HF.out.box.cells.c2
                  have q3 := HF.out.box.cells.c3
                  have hbs : w1.heap.size < wr.heap.size := HF.out.box.lt
                  have HI2 := hideG (show IntsAt wr (.slice oa2 (fixMd V).length oc2) (fixMd V) from ownsRow_ints (HF.out.rs.own 1 (by omega)))
                  have HP3 := hideG (show ShsAt wr (.slice pxa (fixPs V).length pxc) (fixPs V) from ownsRow_shs (HF.out.rs.own 2 (by omega)))
                  have HML := hideG (show (fixMd V).length ≤ 1000000 from Nat.le_trans (Nat.le_trans (List.length_filter_le _ _) h2l) (by omega))
                  have HPL := hideG (show (fixPs V).length ≤ 1000000 by rw [fixPs_len]; exact Nat.le_trans (Nat.le_trans (List.length_filter_le _ _) h3l) (by omega))
                  have HRS := hideG (show containsB (raisedL (fixV1 V)) x = (containsB (fixMd V) x || containsB (nodesL' (fixPs V)) x) by
                    rw [Bool.eq_iff_iff, Bool.or_eq_true, contains_yes, contains_yes, contains_yes, mem_raised]; rfl)
                  have HUD := hideG (show Below wr.heap.size wr wr.drew from below_drew' (Below.refl wr.heap.size wr))
                  clear hd hc
                  go_upto_region 29 with fail
                  go_cut [147] (fun c wx => c = .bool (containsB (raisedL (fixV1 V)) x) ∧ Below wr.heap.size wr wx)
                  case first =>
                    cases hc1 : containsB (fixMd V) x
                    · have HC1 := hideG hc1
                      have HCV := hideG (show containsB (raisedL (fixV1 V)) x = containsB (nodesL' (fixPs V)) x from HRS.out.trans ((congrArg (fun b => b || containsB (nodesL' (fixPs V)) x) HC1.out).trans (Bool.false_or _)))
                      have HN2 := hideG (show (nodesL' (fixPs V)).length ≤ 1000000 by rw [nodesL'_len]; exact HPL.out)
                      clear hc1
                      refine wp_region_inv (fun l a U => ∃ z : Nat → Value, a = { tmps := #[Value.agg #[Value.slice ta V.tree.length tc, Value.slice oa V.op.length oc, Value.slice ma V.modal.length mc, Value.slice pa V.pops.length pc, Value.slice (some { block := sb, off := off }) V.top.length qc], Value.pointer (some { block := w.heap.size, off := 0 }), Value.pointer (some { block := w.heap.size + 1, off := 0 }), Value.slice none 0 0, Value.int IntKind.i64 0, Value.pointer (some { block := w1.heap.size, off := 0 }), Value.slice ga (fixG V).length gc, Value.int IntKind.i64 ((V.op.length : Nat) : Int), Value.int IntKind.i64 ((V.modal.length : Nat) : Int), Value.int IntKind.i64 ((V.pops.length : Nat) : Int), u10, Value.int IntKind.i64 ((k : Nat) : Int), Value.pointer (some { block := w.heap.size, off := 0 }), Value.slice ta V.tree.length tc, Value.bool true, Value.bool false, undef, Value.pointer (some { block := w.heap.size, off := 0 }), Value.slice ta V.tree.length tc, Value.agg #[Value.slice ta V.tree.length tc, Value.slice none 0 0, Value.slice none 0 0, Value.slice none 0 0, Value.slice none 0 0], Value.int IntKind.i64 ((V.op.length : Nat) : Int), Value.pointer (some { block := w.heap.size, off := 1 }), Value.slice oa V.op.length oc, Value.int IntKind.i64 ((V.op.length : Nat) : Int), Value.bool false, u25, u26, u27, u28, u29, u30, u31, u32, u33, u34, u35, u36, u37, u38, u39, u40, u41, u42, u43, u44, u45, u46, u47, u48, u49, u50, u51, u52, Value.int IntKind.i64 ((V.modal.length : Nat) : Int), Value.pointer (some { block := w.heap.size, off := 2 }), Value.slice ma V.modal.length mc, Value.int IntKind.i64 ((V.modal.length : Nat) : Int), Value.bool false, u58, u59, u60, u61, u62, u63, u64, u65, u66, u67, u68, u69, u70, u71, u72, u73, u74, u75, u76, u77, u78, u79, u80, u81, u82, u83, u84, u85, Value.int IntKind.i64 ((V.pops.length : Nat) : Int), Value.pointer (some { block := w.heap.size, off := 3 }), Value.slice pa V.pops.length pc, Value.int IntKind.i64 ((V.pops.length : Nat) : Int), Value.bool false, u91, u92, u93, u94, u95, u96, u97, u98, u99, u100, u101, u102, u103, u104, u105, u106, u107, u108, u109, u110, u111, u112, u113, u114, u115, u116, u117, u118, u119, u120, u121, Value.int IntKind.i64 ((k : Nat) : Int), Value.pointer (some { block := w.heap.size, off := 4 }), Value.slice (some { block := sb, off := off }) V.top.length qc, Value.int IntKind.i64 ((V.top.length : Nat) : Int), Value.bool true, u127, u128, z 0, z 1, z 2, z 3, z 4, z 5, z 6, z 7, z 8, z 9, z 10, z 11, z 12, z 13, z 14, z 15, z 16, z 17, z 18, u148, u149, u150, u151, u152, u153, u154, u155, u156, u157, undef, undef], defers := [] } ∧ Below wr.heap.size wr U ∧ Hid (TabZ 19 (R29P [.pointer (some ⟨w1.heap.size, 2, none⟩), .slice oa2 (fixMd V).length oc2, .pointer (some ⟨w.heap.size, 4, none⟩), Value.slice (some { block := sb, off := off }) V.top.length qc, .int .i64 (k : Int), .pointer (some ⟨sb, off + k, none⟩), .int .i64 x, .bool false, .bool false, .pointer (some ⟨w1.heap.size, 3, none⟩), .slice pxa (fixPs V).length pxc, undef, .pointer (some ⟨w.heap.size, 4, none⟩), Value.slice (some { block := sb, off := off }) V.top.length qc, .int .i64 (k : Int), .pointer (some ⟨sb, off + k, none⟩), .int .i64 x, .bool (containsB (nodesL' (fixPs V)) x), .bool (containsB (nodesL' (fixPs V)) x)] V) l z U)) (by kernel_rfl) (by kernel_rfl) ?_ ?_ ?_
                      · exact ⟨fun k => ([u129, u130, u131, u132, u133, u134, u135, u136, u137, u138, u139, u140, u141, u142, u143, u144, u145, u146, u147] : List Value).getD k undef, rfl, HUD.out, hideG TabZ.start⟩
                      · intro i l a U hi hInv
                        obtain ⟨z, ha, hS, hz⟩ := hInv
                        subst ha
                        obtain ⟨hun, o, ho, _⟩ := mem_ready.mp hi
                        have hlt := (Array.getElem?_eq_some_iff.mp ho).1
                        clear ho
                        simp only [List.size_toArray, List.length_cons, List.length_nil, Nat.reduceAdd] at hlt
                        obtain rfl | rfl | rfl | rfl | rfl | rfl | rfl | rfl | rfl | rfl | rfl | rfl | rfl | rfl | rfl | rfl | rfl | rfl | rfl : i = 0 ∨ i = 1 ∨ i = 2 ∨ i = 3 ∨ i = 4 ∨ i = 5 ∨ i = 6 ∨ i = 7 ∨ i = 8 ∨ i = 9 ∨ i = 10 ∨ i = 11 ∨ i = 12 ∨ i = 13 ∨ i = 14 ∨ i = 15 ∨ i = 16 ∨ i = 17 ∨ i = 18 := by omega
                        · refine inv_step (by rfl) (fun K hK => ?_)
                          go_simp
                          exact hK.out _ _ ⟨upZ z 0 (.pointer (some ⟨w1.heap.size, 2, none⟩)), rfl, hS, hideG (TabZ.step hz.out rfl)⟩
                        · have e0 : z 0 = .pointer (some ⟨w1.heap.size, 2, none⟩) := hz.out 0 (by decide) (dep_of hi (d := 0) (by kernel_rfl))
                          rw [e0]
                          have r2 := cell_below hS q2
                          have hb2 := below_of_cell r2
                          refine inv_step (by rfl) (fun K hK => ?_)
                          go_simp
                          exact hK.out _ _ ⟨upZ (upZ z 0 (.pointer (some ⟨w1.heap.size, 2, none⟩))) 1 (.slice oa2 (fixMd V).length oc2), rfl, hS, hideG (TabZ.step (TabZ.fill hz.out e0) rfl)⟩
                        · refine inv_step (by rfl) (fun K hK => ?_)
                          go_simp
                          exact hK.out _ _ ⟨upZ z 2 (.pointer (some ⟨w.heap.size, 4, none⟩)), rfl, hS, hideG (TabZ.step hz.out rfl)⟩
                        · have e2 : z 2 = .pointer (some ⟨w.heap.size, 4, none⟩) := hz.out 2 (by decide) (dep_of hi (d := 2) (by kernel_rfl))
                          rw [e2]
                          have r4 := cell_below hS p4
                          have hb4 := below_of_cell r4
                          refine inv_step (by rfl) (fun K hK => ?_)
                          go_simp
                          exact hK.out _ _ ⟨upZ (upZ z 2 (.pointer (some ⟨w.heap.size, 4, none⟩))) 3 (Value.slice (some { block := sb, off := off }) V.top.length qc), rfl, hS, hideG (TabZ.step (TabZ.fill hz.out e2) rfl)⟩
                        · refine inv_step (by rfl) (fun K hK => ?_)
                          go_simp
                          exact hK.out _ _ ⟨upZ z 4 (.int .i64 (k : Int)), rfl, hS, hideG (TabZ.step hz.out rfl)⟩
                        · have e3 : z 3 = Value.slice (some { block := sb, off := off }) V.top.length qc := hz.out 3 (by decide) (dep_of hi (d := 3) (by kernel_rfl))
                          have e4 : z 4 = .int .i64 (k : Int) := hz.out 4 (by decide) (dep_of hi (d := 4) (by kernel_rfl))
                          rw [e3, e4]
                          refine inv_step (by rfl) (fun K hK => ?_)
                          go_simp
                          exact hK.out _ _ ⟨upZ (upZ (upZ z 3 (Value.slice (some { block := sb, off := off }) V.top.length qc)) 4 (.int .i64 (k : Int))) 5 (.pointer (some ⟨sb, off + k, none⟩)), rfl, hS, hideG (TabZ.step (TabZ.fill (TabZ.fill hz.out e3) e4) rfl)⟩
                        · have e5 : z 5 = .pointer (some ⟨sb, off + k, none⟩) := hz.out 5 (by decide) (dep_of hi (d := 5) (by kernel_rfl))
                          rw [e5]
                          have r0 := cell_below hS c0
                          have hb0 := below_of_cell r0
                          refine inv_step (by rfl) (fun K hK => ?_)
                          go_simp
                          exact hK.out _ _ ⟨upZ (upZ z 5 (.pointer (some ⟨sb, off + k, none⟩))) 6 (.int .i64 x), rfl, hS, hideG (TabZ.step (TabZ.fill hz.out e5) rfl)⟩
                        · have e1 : z 1 = .slice oa2 (fixMd V).length oc2 := hz.out 1 (by decide) (dep_of hi (d := 1) (by kernel_rfl))
                          have e6 : z 6 = .int .i64 x := hz.out 6 (by decide) (dep_of hi (d := 6) (by kernel_rfl))
                          rw [e1, e6]
                          refine inv_step (by rfl) (fun K hK => ?_)
                          go_simp
                          (go_at_call 37; refine Calls.mono (refIn_any (fixMd V) _ x U (HI2.out.below hS) HML.out) ?_; rintro ex w9 ⟨rfl, hwz⟩; obtain rfl : _ = w9 := hwz.symm)
                          rw [HC1.out]
                          exact hK.out _ _ ⟨upZ (upZ (upZ z 1 (.slice oa2 (fixMd V).length oc2)) 6 (.int .i64 x)) 7 (.bool false), rfl, hS, hideG (TabZ.step (TabZ.fill (TabZ.fill hz.out e1) e6) rfl)⟩
                        · have e7 : z 7 = .bool false := hz.out 7 (by decide) (dep_of hi (d := 7) (by kernel_rfl))
                          rw [e7]
                          refine inv_step (by rfl) (fun K hK => ?_)
                          go_simp
                          exact hK.out _ _ ⟨upZ (upZ z 7 (.bool false)) 8 (.bool false), rfl, hS, hideG (TabZ.step (TabZ.fill hz.out e7) rfl)⟩
                        · have e8 : z 8 = .bool false := hz.out 8 (by decide) (dep_of hi (d := 8) (by kernel_rfl))
                          rw [e8]
                          refine inv_step (by rfl) (fun K hK => ?_)
                          go_simp
                          exact hK.out _ _ ⟨upZ (upZ z 8 (.bool false)) 9 (.pointer (some ⟨w1.heap.size, 3, none⟩)), rfl, hS, hideG (TabZ.step (TabZ.fill hz.out e8) rfl)⟩
                        · have e8 : z 8 = .bool false := hz.out 8 (by decide) (dep_of hi (d := 8) (by kernel_rfl))
                          have e9 : z 9 = .pointer (some ⟨w1.heap.size, 3, none⟩) := hz.out 9 (by decide) (dep_of hi (d := 9) (by kernel_rfl))
                          rw [e8, e9]
                          have r3 := cell_below hS q3
                          have hb3 := below_of_cell r3
                          refine inv_step (by rfl) (fun K hK => ?_)
                          go_simp
                          exact hK.out _ _ ⟨upZ (upZ (upZ z 8 (.bool false)) 9 (.pointer (some ⟨w1.heap.size, 3, none⟩))) 10 (.slice pxa (fixPs V).length pxc), rfl, hS, hideG (TabZ.step (TabZ.fill (TabZ.fill hz.out e8) e9) rfl)⟩
                        · have e8 : z 8 = .bool false := hz.out 8 (by decide) (dep_of hi (d := 8) (by kernel_rfl))
                          have e10 : z 10 = .slice pxa (fixPs V).length pxc := hz.out 10 (by decide) (dep_of hi (d := 10) (by kernel_rfl))
                          rw [e8, e10]
                          refine inv_step (by rfl) (fun K hK => ?_)
                          go_simp
                          (go_at_call 39; refine Calls.mono (refNodes_any (fixPs V) _ U (HP3.out.below hS) HPL.out) ?_; rintro ex w9 ⟨na, nc, rfl, hn9, hb9⟩)
                          have hI9 : IntsAt w9 (.slice na (fixPs V).length nc) (nodesL' (fixPs V)) := by
                            have h := hn9
                            rw [← nodesL'_len (fixPs V)] at h ⊢
                            exact ownsRow_ints h
                          exact hK.out _ _ ⟨upZ (upZ (upZ z 8 (.bool false)) 10 (.slice pxa (fixPs V).length pxc)) 11 _, rfl, hS.trans (hb9.mono hS.size), hideG (TabZ.step (TabZ.mono (TabZ.fill (TabZ.fill hz.out e8) e10) (R29P.mono hb9)) ⟨na, nc, rfl, hI9⟩)⟩
                        · have e8 : z 8 = .bool false := hz.out 8 (by decide) (dep_of hi (d := 8) (by kernel_rfl))
                          rw [e8]
                          refine inv_step (by rfl) (fun K hK => ?_)
                          go_simp
                          exact hK.out _ _ ⟨upZ (upZ z 8 (.bool false)) 12 (.pointer (some ⟨w.heap.size, 4, none⟩)), rfl, hS, hideG (TabZ.step (TabZ.fill hz.out e8) rfl)⟩
                        · have e8 : z 8 = .bool false := hz.out 8 (by decide) (dep_of hi (d := 8) (by kernel_rfl))
                          have e12 : z 12 = .pointer (some ⟨w.heap.size, 4, none⟩) := hz.out 12 (by decide) (dep_of hi (d := 12) (by kernel_rfl))
                          rw [e8, e12]
                          have r4 := cell_below hS p4
                          have hb4 := below_of_cell r4
                          refine inv_step (by rfl) (fun K hK => ?_)
                          go_simp
                          exact hK.out _ _ ⟨upZ (upZ (upZ z 8 (.bool false)) 12 (.pointer (some ⟨w.heap.size, 4, none⟩))) 13 (Value.slice (some { block := sb, off := off }) V.top.length qc), rfl, hS, hideG (TabZ.step (TabZ.fill (TabZ.fill hz.out e8) e12) rfl)⟩
                        · have e8 : z 8 = .bool false := hz.out 8 (by decide) (dep_of hi (d := 8) (by kernel_rfl))
                          rw [e8]
                          refine inv_step (by rfl) (fun K hK => ?_)
                          go_simp
                          exact hK.out _ _ ⟨upZ (upZ z 8 (.bool false)) 14 (.int .i64 (k : Int)), rfl, hS, hideG (TabZ.step (TabZ.fill hz.out e8) rfl)⟩
                        · have e8 : z 8 = .bool false := hz.out 8 (by decide) (dep_of hi (d := 8) (by kernel_rfl))
                          have e13 : z 13 = Value.slice (some { block := sb, off := off }) V.top.length qc := hz.out 13 (by decide) (dep_of hi (d := 13) (by kernel_rfl))
                          have e14 : z 14 = .int .i64 (k : Int) := hz.out 14 (by decide) (dep_of hi (d := 14) (by kernel_rfl))
                          rw [e8, e13, e14]
                          refine inv_step (by rfl) (fun K hK => ?_)
                          go_simp
                          exact hK.out _ _ ⟨upZ (upZ (upZ (upZ z 8 (.bool false)) 13 (Value.slice (some { block := sb, off := off }) V.top.length qc)) 14 (.int .i64 (k : Int))) 15 (.pointer (some ⟨sb, off + k, none⟩)), rfl, hS, hideG (TabZ.step (TabZ.fill (TabZ.fill (TabZ.fill hz.out e8) e13) e14) rfl)⟩
                        · have e8 : z 8 = .bool false := hz.out 8 (by decide) (dep_of hi (d := 8) (by kernel_rfl))
                          have e15 : z 15 = .pointer (some ⟨sb, off + k, none⟩) := hz.out 15 (by decide) (dep_of hi (d := 15) (by kernel_rfl))
                          rw [e8, e15]
                          have r0 := cell_below hS c0
                          have hb0 := below_of_cell r0
                          refine inv_step (by rfl) (fun K hK => ?_)
                          go_simp
                          exact hK.out _ _ ⟨upZ (upZ (upZ z 8 (.bool false)) 15 (.pointer (some ⟨sb, off + k, none⟩))) 16 (.int .i64 x), rfl, hS, hideG (TabZ.step (TabZ.fill (TabZ.fill hz.out e8) e15) rfl)⟩
                        · have e8 : z 8 = .bool false := hz.out 8 (by decide) (dep_of hi (d := 8) (by kernel_rfl))
                          have e16 : z 16 = .int .i64 x := hz.out 16 (by decide) (dep_of hi (d := 16) (by kernel_rfl))
                          obtain ⟨na, nc, e11, hI⟩ : ∃ na nc, z 11 = .slice na (fixPs V).length nc ∧ IntsAt U (.slice na (fixPs V).length nc) (nodesL' (fixPs V)) := hz.out 11 (by decide) (dep_of hi (d := 11) (by kernel_rfl))
                          rw [e8, e16, e11]
                          refine inv_step (by rfl) (fun K hK => ?_)
                          go_simp
                          (go_at_call 37; refine Calls.mono (refIn_any (nodesL' (fixPs V)) _ x U hI HN2.out) ?_; rintro ex w9 ⟨rfl, hwz⟩; obtain rfl : _ = w9 := hwz.symm)
                          exact hK.out _ _ ⟨upZ (upZ (upZ (upZ z 8 (.bool false)) 16 (.int .i64 x)) 11 (.slice na (fixPs V).length nc)) 17 (.bool (containsB (nodesL' (fixPs V)) x)), rfl, hS, hideG (TabZ.step (TabZ.fill (TabZ.fill (TabZ.fill hz.out e8) e16) e11) rfl)⟩
                        · have e8 : z 8 = .bool false := hz.out 8 (by decide) (dep_of hi (d := 8) (by kernel_rfl))
                          have e17 : z 17 = .bool (containsB (nodesL' (fixPs V)) x) := hz.out 17 (by decide) (dep_of hi (d := 17) (by kernel_rfl))
                          rw [e8, e17]
                          refine inv_step (by rfl) (fun K hK => ?_)
                          go_simp
                          exact hK.out _ _ ⟨upZ (upZ (upZ z 8 (.bool false)) 17 (.bool (containsB (nodesL' (fixPs V)) x))) 18 (.bool (containsB (nodesL' (fixPs V)) x)), rfl, hS, hideG (TabZ.step (TabZ.fill (TabZ.fill hz.out e8) e17) rfl)⟩
                      · intro l a U hall hInv
                        obtain ⟨z, ha, hS, hz⟩ := hInv
                        subst ha
                        have e18 : z 18 = .bool (containsB (nodesL' (fixPs V)) x) := hz.out 18 (by decide) (hall 18 (by decide))
                        rw [e18]
                        clear hz hall
                        go_wp2_with fail
                        go_meet
                        case rel => exact ⟨by rw [HCV.out], hS⟩
                    · have HC1 := hideG hc1
                      have HCV := hideG (show containsB (raisedL (fixV1 V)) x = true from HRS.out.trans ((congrArg (fun b => b || containsB (nodesL' (fixPs V)) x) HC1.out).trans (Bool.true_or _)))
                      have hcc : ∀ (d : Calm wr) (b o : Nat), b < wr.heap.size → d.to.cell? ⟨b, o, none⟩ = wr.cell? ⟨b, o, none⟩ := calmCell
                      have HD := hideG (show ∀ U, Below wr.heap.size wr U → Calls Tryz.prog 37 #[.slice oa2 (fixMd V).length oc2, .int .i64 x] U (fun e w' => e = .returned (.bool true) ∧ Below wr.heap.size wr w') from fun U hU => by
                        refine (refIn_any (fixMd V) _ x U (HI2.out.below hU) HML.out).mono ?_
                        rintro e w' ⟨rfl, rfl⟩
                        rw [HC1.out]
                        exact ⟨rfl, hU⟩)
                      clear hc1
                      refine wp_region_calm (by kernel_rfl) (by kernel_rfl) ?_
                      repeat (go_big_quiet_step (first | (go_at_call 37; refine Calls.mono (HD.out _ (Calm.below _)) ?_; rintro ex wx ⟨rfl, hbx⟩; exact ⟨rfl, ⟨wx, hbx⟩, rfl⟩)))
                      refine wpQuiet_nil ?_
                      intro _ hw'
                      obtain ⟨dq, hw''⟩ := hw'
                      subst hw''
                      go_wp2_with fail
                      go_meet
                      case rel => exact ⟨by rw [HCV.out], dq.below⟩
                  case rest =>
                    obtain ⟨rfl, hbw⟩ := hcut
                    have HF2 := hideG (HF.out.below hbw)
                    clear hbw q2 q3 c0 hbl hbs
                    clear FV p0 p1 p2 p3 p4 plt
                    cases hcn : containsB (raisedL (fixV1 V)) x
                    · have HN := hideG hcn
                      clear hcn
                      go_wp2_with fail
                      go_roundw
                      case rel => exact ⟨k + 1, T, tta, ttc, by omega, by go_num, by rw [HT.out, List.filter_append, ← HTE.out]; simp [HN.out], HF2.out⟩
                      case measure => simp [intOf]; omega
                    · have HN := hideG hcn
                      clear hcn
                      have FV := hideG (BX.out.below HF2.out.bel)
                      have p0 := FV.out.c0
                      have p1 := FV.out.c1
                      have p2 := FV.out.c2
                      have p3 := FV.out.c3
                      have p4 := FV.out.c4
                      have plt := FV.out.lt
                      have c0 := cell_below HF2.out.bel HSX.out
                      have hbl : sb < wc.heap.size := below_of_cell c0
                      have hgs : W0.heap.size ≤ wc.heap.size := HF2.out.bel.size
                      have hbs : w1.heap.size < wc.heap.size := HF2.out.box.lt
                      have q4 := HF2.out.box.cells.c4
                      have HRW := hideG (((HF2.out.rs.own 3 (by omega)).drew).alloc (.cells #[.int .i64 x] 3))
                      have HNW := hideG (show Holds (wc.drew.alloc (.cells #[.int .i64 x] 3)) (.slice (some ⟨wc.heap.size, 0, none⟩) 1 1) 1 [.int .i64 x] from row_new1 wc.drew x)
                      have HONE := hideG (show ∀ u ∈ ([.int .i64 x] : List Value), u.oneCell' = true from by intro y hy; simp at hy; subst hy; rfl)
                      have HMX := hideG (show T.length + 1 ≤ maxLen by simp only [maxLen]; omega)
                      have HBY := hideG (show (T.length + 1) * 8 ≤ 140737488355328 by omega)
                      have HBS := hideG (show w1.heap.size ≤ (wc.drew.alloc (.cells #[.int .i64 x] 3)).heap.size by rw [World.size_alloc]; show w1.heap.size ≤ wc.heap.size + 1; omega)
                      have HPOS := hideG (show 0 < 1 by decide)
                      have HFIN := hideG (show ∀ v4 w4, w4.ownsRow (w1.heap.size) 3 1 v4 (T.length + 1) (intCells T ++ [.int .i64 x]) → (wc.drew.alloc (.cells #[.int .i64 x] 3)).grownBy w4 (Value.slice tta T.length ttc).ownBlock → (∀ q, v4.ownBlock = some q → (Value.slice tta T.length ttc).ownBlock = some q ∨ (wc.drew.alloc (.cells #[.int .i64 x] 3)).heap.size ≤ q) → ∃ a4 c4, v4 = .slice a4 (T.length + 1) c4 ∧ w4.cell? ⟨w1.heap.size, 4, none⟩ = some (.slice tta T.length ttc) ∧ w4.frozen? ⟨w1.heap.size, 4, none⟩ = false ∧ Hid (FixS W0 (w1.heap.size) (w1.heap.size) (.slice ta V.tree.length tc) (.slice oa1 (fixOp V).length oc1) (.slice oa2 (fixMd V).length oc2) (.slice pxa (fixPs V).length pxc) (.slice a4 (T.length + 1) c4) (.slice ga (fixG V).length gc) (fixOp V) (fixMd V) (fixPs V) (T ++ [x]) (fixG V) (w4.setCell ⟨w1.heap.size, 4, none⟩ (.slice a4 (T.length + 1) c4))) from by
                        intro v4 w4 ho4 hg4 hf4
                        obtain ⟨a4, c4, rfl⟩ := ownsRow_shape ho4
                        rw [intCells_snoc] at ho4
                        have hbt : Below wc.heap.size wc (wc.drew.alloc (.cells #[.int .i64 x] 3)) := (below_drew' (Below.refl wc.heap.size wc)).alloc (Nat.le_refl _) _
                        have hk2 := (HF2.out.kept hbt (i := 3) (by omega) hg4 HB1.out.size).1
                        exact ⟨a4, c4, rfl, hk2.cells.c4, hk2.frozen 4 (by omega), hideG (HF2.out.app3 HB1.out.size HB1.out.size hbt ho4 hg4 hf4)⟩)
                      go_wp2_with fail
                      go_region_law (refine step_append_any rfl (.tmp 149) (.tmp 155) 24 rfl (w1.heap.size) 3 i3 _ 1 8 Tryz.underlying24 hi3 hz30 hz31 hz32 rfl HPOS.out _ T.length (intCells T) rfl HRW.out _ 1 _ rfl HNW.out rfl HONE.out HMX.out HBY.out HBS.out ?_; intro v4 w4 ho4 hg4 hf4; obtain ⟨a4, c4, rfl, hd3, hdf3, hfin⟩ := HFIN.out v4 w4 ho4 hg4 hf4; clear ho4 hg4 hf4)
                      all_goals
                        go_wp2_with fail
                        go_roundw
                        case rel => exact ⟨k + 1, T ++ [x], a4, c4, by omega, by go_num, by rw [HT.out, List.filter_append, ← HTE.out]; simp [HN.out], by rw [List.length_append]; exact hfin.out⟩
                        case measure => simp [intOf]; omega
                · have hkl : ¬ (k : Int) < (V.top.length : Int) := by omega
                  have hke : k = V.top.length := by omega
                  subst hke
                  rw [List.take_length] at HTE
                  have hTE := HTE.out
                  obtain rfl : T = fixTp V := hTE
                  have HRk := hideG (show ∀ j, j < 5 → ∃ u, wr.cell? ⟨w.heap.size + 1, j, none⟩ = some u ∧ wr.frozen? ⟨w.heap.size + 1, j, none⟩ = false from fun j hj => let ⟨u, h1, h2⟩ := HR.out j hj; ⟨u, cell_below HF.out.bel h1, frozen_below HF.out.bel h1 h2⟩)
                  obtain ⟨u0, rc0, rf0⟩ := HRk.out 0 (by decide)
                  obtain ⟨u1, rc1, rf1⟩ := HRk.out 1 (by decide)
                  obtain ⟨u2, rc2, rf2⟩ := HRk.out 2 (by decide)
                  obtain ⟨u3, rc3, rf3⟩ := HRk.out 3 (by decide)
                  obtain ⟨u4, rc4, rf4⟩ := HRk.out 4 (by decide)
                  have q0 := HF.out.box.cells.c0
                  have q1 := HF.out.box.cells.c1
                  have q2 := HF.out.box.cells.c2
                  have q3 := HF.out.box.cells.c3
                  have q4 := HF.out.box.cells.c4
                  have hbs : w1.heap.size < wr.heap.size := HF.out.box.lt
                  have hrb : w.heap.size + 1 < w1.heap.size := by have := HB1.out.size; have := HS0.out; omega
                  have HGI := hideG (HF.out.rs.own 4 (by omega))
                  go_wp2_with fail
                  have hat := set5_at (U := wr) (R := w.heap.size + 1) (v0 := .slice ta V.tree.length tc) (v1 := .slice oa1 (fixOp V).length oc1) (v2 := .slice oa2 (fixMd V).length oc2) (v3 := .slice pxa (fixPs V).length pxc) (v4 := .slice tta (fixTp V).length ttc) HRk.out
                  have hBL := set5_below (v0 := .slice ta V.tree.length tc) (v1 := .slice oa1 (fixOp V).length oc1) (v2 := .slice oa2 (fixMd V).length oc2) (v3 := .slice pxa (fixPs V).length pxc) (v4 := .slice tta (fixTp V).length ttc) (HB0.out.trans (HF.out.bel.mono HB0.out.size)) (show w.heap.size ≤ w.heap.size + 1 by omega)
                  have hkr : ∀ i, i < 5 → (set5 wr (w.heap.size + 1) (.slice ta V.tree.length tc) (.slice oa1 (fixOp V).length oc1) (.slice oa2 (fixMd V).length oc2) (.slice pxa (fixPs V).length pxc) (.slice tta (fixTp V).length ttc)).ownsRow (w1.heap.size) (x5 (fixOp V) (fixMd V) (fixPs V) (fixTp V) (fixG V) i).1 (x5 (fixOp V) (fixMd V) (fixPs V) (fixTp V) (fixG V) i).2.1 (v5 (.slice oa1 (fixOp V).length oc1) (.slice oa2 (fixMd V).length oc2) (.slice pxa (fixPs V).length pxc) (.slice tta (fixTp V).length ttc) (.slice ga (fixG V).length gc) i) (x5 (fixOp V) (fixMd V) (fixPs V) (fixTp V) (fixG V) i).2.2.1 (x5 (fixOp V) (fixMd V) (fixPs V) (fixTp V) (fixG V) i).2.2.2 := fun i hi => ownsRow_in (HF.out.rs.own i hi) (fun q hq => set5_block (by have := ((HF.out.rs.own i hi).lt q hq).1; omega))
                  have hT5 := HV.out.tree.below hBL
                  have h0 := ownsRow_ints (hkr 0 (by omega))
                  have h1 := ownsRow_ints (hkr 1 (by omega))
                  have h2 := ownsRow_shs (hkr 2 (by omega))
                  have h3 := ownsRow_ints (hkr 3 (by omega))
                  have h4 := ownsRow_ints (hkr 4 (by omega))
                  clear hkr
                  unfold set5 at hat hBL hT5 h0 h1 h2 h3 h4
                  obtain ⟨t0, t1, t2, t3, t4⟩ := hat
                  refine bodyPost_ret (v := .tuple #[.agg #[.slice ta V.tree.length tc, .slice oa1 (fixOp V).length oc1, .slice oa2 (fixMd V).length oc2, .slice pxa (fixPs V).length pxc, .slice tta (fixTp V).length ttc], .slice ga (fixG V).length gc, .int .i64 0]) (by simp [results, Tryz.f23, go_sem, t0, t1, t2, t3, t4]) rfl ?_
                  exact ⟨_, _, _, _, _, _, _, rfl, ⟨hT5, h0, h1, h2, h3⟩, h4, hBL⟩
end Go.Proofs.YtclhimodopgeoaaGreat

