/- The law on who is opened one behind the other. -/
import Derived.Deep.DeepCutAuto
import Derived.Test.YtclhimodopgeoaaGreatXLHigh
import Derived.Test.YtclhimodopgeoaaGreatXTopAny
import Derived.Test.YtclhimodopgeoaaGreatXTopAnyO
namespace Go.Proofs.YtclhimodopgeoaaGreat
open Go.RowKit

theorem may_empty (T : List Nd) : MayS ⟨T, [], [], [], []⟩ :=
  ⟨fun _ h => (List.not_mem_nil h).elim, fun _ h => (List.not_mem_nil h).elim, fun _ h => (List.not_mem_nil h).elim, fun _ h => (List.not_mem_nil h).elim, List.nodup_nil, List.Perm.refl _⟩
structure OrdS (w w1 : World) (T : List Nd) (k : Nat) (V : Vw) (ha : Option Addr) (hc : Nat) (a0 a1 a2 a3 a4 : Option Addr) (c0 c1 c2 c3 c4 : Nat) (wr : World) : Prop where
  row : wr.ownsRow w1.heap.size 3 1 (.slice ha V.top.length hc) V.top.length (intCells V.top)
  box : BoxO wr w1.heap.size (.slice a0 T.length c0) (.slice a1 V.op.length c1) (.slice a2 V.modal.length c2) (.slice a3 V.pops.length c3) (.slice a4 V.top.length c4)
  keep : ∀ W : World, (∀ j, j ≠ w1.heap.size → (Value.slice ha V.top.length hc).ownBlock ≠ some j → j < wr.heap.size → W.heap[j]? = wr.heap[j]?) → ViewAt W (.slice a0 T.length c0) (.slice a1 V.op.length c1) (.slice a2 V.modal.length c2) (.slice a3 V.pops.length c3) (.slice a4 V.top.length c4) V
  tree : V.tree = T
  chk : checkV V = 0
  lop : V.op.length ≤ k
  lmodal : V.modal.length ≤ k
  lpops : V.pops.length ≤ k
  ltop : V.top.length ≤ k
  bel : Below w.heap.size w wr
theorem ob_len (a : Option Addr) (n n' c c' : Nat) : (Value.slice a n c).ownBlock = (Value.slice a n' c').ownBlock := by cases a <;> rfl
theorem OrdS.next {w w1 wr W : World} {T : List Nd} {k : Nat} {V : Vw} {ha : Option Addr} {hc : Nat} {a0 a1 a2 a3 a4 : Option Addr} {c0 c1 c2 c3 c4 : Nat} (h : OrdS w w1 T k V ha hc a0 a1 a2 a3 a4 c0 c1 c2 c3 c4 wr) (hb : Below wr.heap.size wr W) : OrdS w w1 T (k + 1) V ha hc a0 a1 a2 a3 a4 c0 c1 c2 c3 c4 W :=
  ⟨ownsRow_below h.row hb (fun j e => (h.row.lt j e).2), h.box.below hb, fun X hX => h.keep X (fun j h1 h2 h3 => (hX j h1 h2 (by have := hb.size; omega)).trans (hb.block j h3)), h.tree, h.chk, by have := h.lop; omega, by have := h.lmodal; omega, by have := h.lpops; omega, by have := h.ltop; omega, h.bel.trans (hb.mono h.bel.size)⟩
theorem dlg_len1 {V : Vw} {n : Int} {m : Bool} (hck : checkV V = 0) : (dlgW V n m).op.length ≤ V.op.length + 1 ∧ (dlgW V n m).modal.length ≤ V.modal.length + 1 ∧ (dlgW V n m).pops.length ≤ V.pops.length + 1 ∧ (dlgW V n m).top.length ≤ V.top.length + 1 := by
  unfold dlgW
  rw [if_pos hck]
  split
  · cases m <;> simp
  · omega
theorem pop_len1 {V : Vw} {x : Sh} (hck : checkV V = 0) : (popW V x).op.length ≤ V.op.length + 1 ∧ (popW V x).modal.length ≤ V.modal.length + 1 ∧ (popW V x).pops.length ≤ V.pops.length + 1 ∧ (popW V x).top.length ≤ V.top.length + 1 := by
  unfold popW
  rw [if_pos hck]
  split
  · simp
  · omega
theorem dlg_top_false {V : Vw} {n : Int} (hck : checkV V = 0) : (dlgW V n false).top = V.top := by
  unfold dlgW
  rw [if_pos hck]
  split <;> rfl
theorem dlg_top_true {V : Vw} {n : Int} (hck : checkV V = 0) (h : dlgE V n = 0) : (dlgW V n true).top = V.top ++ [n] := by
  unfold dlgW
  rw [if_pos hck, if_pos h]
  rfl
set_option maxRecDepth 100000 in
set_option maxHeartbeats 16000000 in
theorem topOrder_walk (T : List Nd) (tv : Value) (L : List Sh) (sv : Value) (w : World) (hT : TreeAt w tv T) (hL : ShsAt w sv L) :
    Calls Tryz.prog 8 #[tv, sv] w fun e w' => e = .returned (.bool true) ∧ Below w.heap.size w w' := by
  obtain ⟨i3, hi3, hz30, hz31, hz32⟩ := info_parts infoT3
  obtain ⟨ta, tc, rfl⟩ := hT.shape
  obtain ⟨sa, sc, rfl⟩ := hL.shape
  have HT := hideG hT
  have HLS := hideG hL
  clear hT hL
  cases hs : smallB T
  · have HSS := hideG hs
    clear hs
    go_enter Tryz.func8, Tryz.ntmps8
    go_wp2_with fail
    refine (refSmall_any T _ w HT.out).mono ?_
    rintro ex wz ⟨rfl, hwz⟩
    obtain rfl : _ = wz := hwz.symm
    rw [HSS.out]
    go_wp2_with fail
    refine (live10_any _).mono ?_
    rintro ex wl ⟨rfl, hbl⟩
    have HBL := hideG ((Below.refl w.heap.size w).trans (hbl.mono (Below.refl w.heap.size w).size))
    clear hbl
    go_wp2_with fail
    go_ret
    exact ⟨rfl, HBL.out⟩
  · have HSS := hideG hs
    have HSN := hideG (small_sane hs)
    clear hs
    by_cases h16 : T.length ≤ 16
    · have h16i : ¬ (16 : Int) < (T.length : Int) := by omega
      by_cases h20 : L.length ≤ 20
      · have h20i : ¬ (20 : Int) < (L.length : Int) := by omega
        cases hm : mayB T
        · have HM := hideG hm
          clear hm
          go_enter Tryz.func8, Tryz.ntmps8
          go_wp2_with fail
          refine (refSmall_any T _ w HT.out).mono ?_
          rintro ex wz ⟨rfl, hwz⟩
          obtain rfl : _ = wz := hwz.symm
          rw [HSS.out]
          go_wp2_with fail
          refine (refMay_walk T HSN.out _ w HT.out).mono ?_
          rintro ex w1 ⟨rfl, hb1⟩
          rw [HM.out]
          have HB1 := hideG hb1
          clear hb1
          go_wp2_with fail
          refine (live10_any _).mono ?_
          rintro ex wl ⟨rfl, hbl⟩
          have HBL := hideG ((HB1.out).trans (hbl.mono (HB1.out).size))
          clear hbl
          go_wp2_with fail
          go_ret
          exact ⟨rfl, HBL.out⟩
        · have HM := hideG hm
          clear hm
          go_enter Tryz.func8, Tryz.ntmps8
          go_wp2_with fail
          refine (refSmall_any T _ w HT.out).mono ?_
          rintro ex wz ⟨rfl, hwz⟩
          obtain rfl : _ = wz := hwz.symm
          rw [HSS.out]
          go_wp2_with fail
          refine (refMay_walk T HSN.out _ w HT.out).mono ?_
          rintro ex w1 ⟨rfl, hb1⟩
          rw [HM.out]
          have HB1 := hideG hb1
          clear hb1
          go_wp2_with fail
          go_loopw [6, 7] (fun h i wr => ∃ (k : Nat) (V : Vw) (ha : Option Addr) (hc : Nat) (a0 a1 a2 a3 a4 : Option Addr) (c0 c1 c2 c3 c4 : Nat), k ≤ L.length ∧ i = .int .i64 (k : Int) ∧ h = .slice ha V.top.length hc ∧ OrdS w w1 T k V ha hc a0 a1 a2 a3 a4 c0 c1 c2 c3 c4 wr) (fun _ i _ => L.length - (intOf i).toNat)
          case atStart => exact ⟨0, ⟨T, [], [], [], []⟩, none, 0, ta, none, none, none, none, tc, 0, 0, 0, 0, Nat.zero_le _, rfl, rfl, ⟨World.ownsRow_nil _ _ _ _, BoxO.new _ _ _ _ _ _, fun W hW => ⟨HT.out.on (fun j hj => (hW j (by have := HB1.out.size; omega) (by simp [Value.ownBlock]) (by have := HB1.out.size; rw [World.size_alloc]; omega)).trans (((alB w1 _).block j (by have := HB1.out.size; omega)).trans (HB1.out.block j hj))), ints_none _, ints_none _, shs_none _, ints_none _⟩, rfl, check_iff.mpr ⟨HM.out, may_empty T⟩, Nat.zero_le _, Nat.zero_le _, Nat.zero_le _, Nat.zero_le _, HB1.out.alloc HB1.out.size _⟩⟩
          case round =>
            obtain ⟨k, V, ha, hc, a0, a1, a2, a3, a4, c0, c1, c2, c3, c4, hk, rfl, rfl, ho⟩ := hrel
            have HO := hideG ho
            clear ho
            have HSV := hideG (show Sane V.tree by rw [HO.out.tree]; exact HSN.out)
            have HLV := hideG (show smallL V by have h1 := HO.out.lop; have h2 := HO.out.lmodal; have h3 := HO.out.lpops; have h4 := HO.out.ltop; exact ⟨by omega, by omega, by omega, by omega⟩)
            have HTV := hideG (show V.tree.length ≤ 1000 by rw [HO.out.tree]; omega)
            have HVW := hideG (HO.out.keep wr (fun _ _ _ _ => rfl))
            have hbx := HO.out.box.cells
            have p0 := hbx.c0
            have p1 := hbx.c1
            have p2 := hbx.c2
            have p3 := hbx.c3
            have p4 := hbx.c4
            have plt := hbx.lt
            clear hbx
            by_cases hlt : k < L.length
            · have hkl : (k : Int) < (L.length : Int) := by omega
              have hk0 : (0 : Int) ≤ (k : Int) := by omega
              obtain ⟨a', c', hv, _, hcs⟩ := HLS.out
              injection hv with y1 y2 y3
              subst y1
              clear y2 y3
              obtain ⟨sb, off, hse, hd⟩ := hcs (by omega)
              have hHw := hd k hlt
              have hH := hHw.below HO.out.bel
              have hse' := hse
              subst hse'
              generalize L.getD k shD = x at *
              have s0 := hH.node
              have s1 := hH.inv
              have hsl : sb < wr.heap.size := below_of_cell s0
              have HSX := hideG hHw
              clear hd hH hHw hcs hse
              obtain ⟨m, hm⟩ : ∃ m : Bool, ((k : Int).tmod 2 == 0) = m := ⟨_, rfl⟩
              have hm2 : ((k : Int) % 2 == 0) = m := by rw [← Int.tmod_eq_emod_of_nonneg hk0]; exact hm
              go_upto_region 8 with fail
              go_cut [8, 9] (fun w8 e9 wx => ∃ (b : Nat) (ra0 ra1 ra2 ra3 ra4 : Option Addr) (rc0 rc1 rc2 rc3 rc4 : Nat), w8 = .pointer (some ⟨b, 0, none⟩) ∧ e9 = .int .i64 (dlgE V x.node) ∧ wr.heap.size ≤ b ∧ BoxO wx b (.slice ra0 T.length rc0) (.slice ra1 (dlgW V x.node m).op.length rc1) (.slice ra2 (dlgW V x.node m).modal.length rc2) (.slice ra3 (dlgW V x.node m).pops.length rc3) (.slice ra4 (dlgW V x.node m).top.length rc4) ∧ (dlgE V x.node = 0 → ∀ W : World, (∀ j, wr.heap.size ≤ j → j ≠ b → j < wx.heap.size → W.heap[j]? = wx.heap[j]?) → ViewAt W (.slice ra0 T.length rc0) (.slice ra1 (dlgW V x.node m).op.length rc1) (.slice ra2 (dlgW V x.node m).modal.length rc2) (.slice ra3 (dlgW V x.node m).pops.length rc3) (.slice ra4 (dlgW V x.node m).top.length rc4) (dlgW V x.node m)) ∧ Below wr.heap.size wr wx)
              case first =>
                have HDG := hideG (show ∀ U, Below wr.heap.size wr U → Calls Tryz.prog 29 #[.agg #[.slice a0 T.length c0, .slice a1 V.op.length c1, .slice a2 V.modal.length c2, .slice a3 V.pops.length c3, .slice a4 V.top.length c4], .int .i64 x.node, .bool m] U (fun e w' => ∃ ra0 rc0 ra1 rc1 ra2 rc2 ra3 rc3 ra4 rc4, e = .returned (.tuple #[.agg #[.slice ra0 T.length rc0, .slice ra1 (dlgW V x.node m).op.length rc1, .slice ra2 (dlgW V x.node m).modal.length rc2, .slice ra3 (dlgW V x.node m).pops.length rc3, .slice ra4 (dlgW V x.node m).top.length rc4], .int .i64 (dlgE V x.node)]) ∧ (dlgE V x.node = 0 → Fresh U w' (.slice ra0 T.length rc0) (.slice ra1 (dlgW V x.node m).op.length rc1) (.slice ra2 (dlgW V x.node m).modal.length rc2) (.slice ra3 (dlgW V x.node m).pops.length rc3) (.slice ra4 (dlgW V x.node m).top.length rc4) (dlgW V x.node m)) ∧ Below U.heap.size U w') from fun U hU => shapedO (dlg_anyO _ _ _ _ _ V U (HVW.out.below hU) HSV.out HLV.out HTV.out HO.out.chk x.node m) _ _ _ _ _ (by rw [dlg_tree HO.out.chk, HO.out.tree]) rfl rfl rfl rfl)
                have HUA := hideG (show Below wr.heap.size wr ((wr.alloc (.cells #[.slice none 0 0, .slice none 0 0, .slice none 0 0, .slice none 0 0, .slice none 0 0] 27)).drew) from below_drew' (alB wr _))
                have HUD := hideG (show Below wr.heap.size wr wr.drew from below_drew' (Below.refl wr.heap.size wr))
                have HBN := hideG (show BoxO ((wr.alloc (.cells #[.slice none 0 0, .slice none 0 0, .slice none 0 0, .slice none 0 0, .slice none 0 0] 27)).drew) wr.heap.size (.slice none 0 0) (.slice none 0 0) (.slice none 0 0) (.slice none 0 0) (.slice none 0 0) from BoxO.new wr _ _ _ _ _)
                have HDA := hideG (show Calls Tryz.prog 29 #[.agg #[.slice a0 T.length c0, .slice a1 V.op.length c1, .slice a2 V.modal.length c2, .slice a3 V.pops.length c3, .slice a4 V.top.length c4], .int .i64 x.node, .bool m] ((wr.alloc (.cells #[.slice none 0 0, .slice none 0 0, .slice none 0 0, .slice none 0 0, .slice none 0 0] 27)).drew) (fun e w' => (∃ ra0 rc0 ra1 rc1 ra2 rc2 ra3 rc3 ra4 rc4, e = .returned (.tuple #[.agg #[.slice ra0 T.length rc0, .slice ra1 (dlgW V x.node m).op.length rc1, .slice ra2 (dlgW V x.node m).modal.length rc2, .slice ra3 (dlgW V x.node m).pops.length rc3, .slice ra4 (dlgW V x.node m).top.length rc4], .int .i64 (dlgE V x.node)]) ∧ (dlgE V x.node = 0 → Fresh ((wr.alloc (.cells #[.slice none 0 0, .slice none 0 0, .slice none 0 0, .slice none 0 0, .slice none 0 0] 27)).drew) w' (.slice ra0 T.length rc0) (.slice ra1 (dlgW V x.node m).op.length rc1) (.slice ra2 (dlgW V x.node m).modal.length rc2) (.slice ra3 (dlgW V x.node m).pops.length rc3) (.slice ra4 (dlgW V x.node m).top.length rc4) (dlgW V x.node m)) ∧ Below ((wr.alloc (.cells #[.slice none 0 0, .slice none 0 0, .slice none 0 0, .slice none 0 0, .slice none 0 0] 27)).drew).heap.size ((wr.alloc (.cells #[.slice none 0 0, .slice none 0 0, .slice none 0 0, .slice none 0 0, .slice none 0 0] 27)).drew) w') ∧ w'.cell? ⟨wr.heap.size, 0, none⟩ = some (.slice none 0 0) ∧ w'.frozen? ⟨wr.heap.size, 0, none⟩ = false ∧ w'.cell? ⟨wr.heap.size, 1, none⟩ = some (.slice none 0 0) ∧ w'.frozen? ⟨wr.heap.size, 1, none⟩ = false ∧ w'.cell? ⟨wr.heap.size, 2, none⟩ = some (.slice none 0 0) ∧ w'.frozen? ⟨wr.heap.size, 2, none⟩ = false ∧ w'.cell? ⟨wr.heap.size, 3, none⟩ = some (.slice none 0 0) ∧ w'.frozen? ⟨wr.heap.size, 3, none⟩ = false ∧ w'.cell? ⟨wr.heap.size, 4, none⟩ = some (.slice none 0 0) ∧ w'.frozen? ⟨wr.heap.size, 4, none⟩ = false ∧ Hid (BoxO w' wr.heap.size (.slice none 0 0) (.slice none 0 0) (.slice none 0 0) (.slice none 0 0) (.slice none 0 0))) from by
                  refine (HDG.out _ HUA.out).mono ?_
                  rintro e w' ⟨ra0, rc0, ra1, rc1, ra2, rc2, ra3, rc3, ra4, rc4, he, hv, hb⟩
                  have hn := HBN.out.below hb
                  exact ⟨⟨ra0, rc0, ra1, rc1, ra2, rc2, ra3, rc3, ra4, rc4, he, hv, hb⟩, hn.cells.c0, hn.frozen 0 (by omega), hn.cells.c1, hn.frozen 1 (by omega), hn.cells.c2, hn.frozen 2 (by omega), hn.cells.c3, hn.frozen 3 (by omega), hn.cells.c4, hn.frozen 4 (by omega), hideG hn⟩)
                have HDB := hideG (HDG.out _ HUD.out)
                have HSU := hideG (show ((wr.alloc (.cells #[.slice none 0 0, .slice none 0 0, .slice none 0 0, .slice none 0 0, .slice none 0 0] 27)).drew).heap.size = wr.heap.size + 1 from World.size_alloc wr _)
                generalize dlgE V x.node = eA at *
                generalize (dlgW V x.node m) = A at *
                go_region_with (first | (go_at_call 29; with_reducible refine Calls.mono HDA.out ?_; rintro ex w9 ⟨⟨ra0, rc0, ra1, rc1, ra2, rc2, ra3, rc3, ra4, rc4, rfl, hv9, hb9a⟩, z0, zf0, z1, zf1, z2, zf2, z3, zf3, z4, zf4, hn9⟩) | (go_at_call 29; with_reducible refine Calls.mono HDB.out ?_; rintro ex w9 ⟨ra0, rc0, ra1, rc1, ra2, rc2, ra3, rc3, ra4, rc4, rfl, hv9, hb9b⟩))
                all_goals
                  go_wp2_with fail
                  go_meet
                  case rel =>
                    first
                    | exact ⟨w9.heap.size, ra0, ra1, ra2, ra3, ra4, rc0, rc1, rc2, rc3, rc4, rfl, rfl, (HUD.out.trans (hb9b.mono HUD.out.size)).size, BoxO.new _ _ _ _ _ _, fun he W hW => hv9 he W (fun j h1 h2 => (hW j h1 (Nat.ne_of_lt h2) (by rw [World.size_alloc]; omega)).trans ((alB w9 _).block j h2)), (HUD.out.trans (hb9b.mono HUD.out.size)).alloc (HUD.out.trans (hb9b.mono HUD.out.size)).size _⟩
                    | exact ⟨wr.heap.size, ra0, ra1, ra2, ra3, ra4, rc0, rc1, rc2, rc3, rc4, rfl, rfl, Nat.le_refl _, hn9.out.set5, fun he W hW => hv9 he W (fun j h1 h2 => by
                        have h1' : wr.heap.size + 1 ≤ j := by have := HSU.out; omega
                        refine (hW j (by omega) (by omega) ?_).trans (set5_block (U := w9) (by omega))
                        show j < (set5 w9 wr.heap.size _ _ _ _ _).heap.size
                        rw [set5_size]; exact h2), set5_below (HUA.out.trans (hb9a.mono HUA.out.size)) (Nat.le_refl _)⟩
              case rest =>
                obtain ⟨b, ra0, ra1, ra2, ra3, ra4, rc0, rc1, rc2, rc3, rc4, rfl, rfl, hbw, hbb, hfr, hw8⟩ := hcut
                have HW8 := hideG hw8
                have HBB := hideG hbb
                have HBGE := hideG hbw
                have HFR0 := hideG hfr
                have HBV := hideG (HO.out.box.below hw8)
                have HDM := hideG (fun h => dlg_may (m := m) (n := x.node) HO.out.chk h)
                have HLND := hideG (dlg_len1 (m := m) (n := x.node) HO.out.chk)
                have HTR := hideG (show (dlgW V x.node m).tree = T by rw [dlg_tree HO.out.chk, HO.out.tree])
                clear hw8 hbb hfr hbw p0 p1 p2 p3 p4 plt s0 s1 hsl
                have hbge := HBGE.out
                cases m
                · skip
                  by_cases hE : dlgE V x.node = 0
                  · have hE0 := hE
                    have HFR := hideG (HFR0.out hE)
                    have HCK := hideG (HDM.out hE).1
                    have HLN := hideG (show (dlgW V x.node false).op.length ≤ k + 1 ∧ (dlgW V x.node false).modal.length ≤ k + 1 ∧ (dlgW V x.node false).pops.length ≤ k + 1 ∧ (dlgW V x.node false).top.length ≤ k + 1 by have h0 := HLND.out; have h1 := HO.out.lop; have h2 := HO.out.lmodal; have h3 := HO.out.lpops; have h4 := HO.out.ltop; omega)
                    rw [hE]
                    clear hE HDM HFR0 HLND
                    have HTP := hideG (show (dlgW V x.node false).top = V.top from dlg_top_false HO.out.chk)
                    have hset := set5_size wc (w1.heap.size) (.slice ra0 T.length rc0) (.slice ra1 (dlgW V x.node false).op.length rc1) (.slice ra2 (dlgW V x.node false).modal.length rc2) (.slice ra3 (dlgW V x.node false).pops.length rc3) (.slice ra4 (dlgW V x.node false).top.length rc4)
                    have HORD := hideG (show OrdS w w1 T (k + 1) (dlgW V x.node false) ha hc ra0 ra1 ra2 ra3 ra4 rc0 rc1 rc2 rc3 rc4 (set5 wc (w1.heap.size) (.slice ra0 T.length rc0) (.slice ra1 (dlgW V x.node false).op.length rc1) (.slice ra2 (dlgW V x.node false).modal.length rc2) (.slice ra3 (dlgW V x.node false).pops.length rc3) (.slice ra4 (dlgW V x.node false).top.length rc4)) from ⟨by rw [HTP.out]; exact row_off (ownsRow_below HO.out.row HW8.out (fun j e => (HO.out.row.lt j e).2)) HBV.out set5_off, HBV.out.set5, by
                        intro W hW
                        refine HFR.out W (fun j h1 h2 h3 => ?_)
                        have hne : j ≠ w1.heap.size := by have := HO.out.box.lt; have := HW8.out.size; omega
                        have hjs : wr.heap.size ≤ j := by have := HW8.out.size; omega
                        exact (hW j hne (fun e => by have := (HO.out.row.lt j ((ob_len _ _ _ _ _).trans e)).2; omega) (by rw [hset]; omega)).trans (set5_block hne), HTR.out, HCK.out, HLN.out.1, HLN.out.2.1, HLN.out.2.2.1, HLN.out.2.2.2, set5_below (HO.out.bel.trans (HW8.out.mono HO.out.bel.size)) (by have := HB1.out.size; omega)⟩)
                    clear hset
                    have p0 := HBB.out.cells.c0
                    have p1 := HBB.out.cells.c1
                    have p2 := HBB.out.cells.c2
                    have p3 := HBB.out.cells.c3
                    have p4 := HBB.out.cells.c4
                    have plt := HBB.out.lt
                    have q0 := HBV.out.cells.c0
                    have q1 := HBV.out.cells.c1
                    have q2 := HBV.out.cells.c2
                    have q3 := HBV.out.cells.c3
                    have q4 := HBV.out.cells.c4
                    have qlt := HBV.out.lt
                    have qf0 := HBV.out.frozen 0 (by omega)
                    have qf1 := HBV.out.frozen 1 (by omega)
                    have qf2 := HBV.out.frozen 2 (by omega)
                    have qf3 := HBV.out.frozen 3 (by omega)
                    have qf4 := HBV.out.frozen 4 (by omega)
                    have hbne : b ≠ w1.heap.size := by have := HO.out.box.lt; omega
                    have HTL := hideG (show V.top.length = (dlgW V x.node false).top.length by rw [HTP.out])
                    generalize (dlgW V x.node false) = A at *
                    go_wp2_with fail
                    go_roundw
                    case rel => exact ⟨k + 1, A, ha, hc, ra0, ra1, ra2, ra3, ra4, rc0, rc1, rc2, rc3, rc4, by omega, by go_num, by rw [HTL.out], HORD.out⟩
                    case measure => simp [intOf]; omega
                  · clear HDM HLND HTR
                    have hE' : (dlgE V x.node == 0) = false := by simpa using hE
                    obtain ⟨wd, hwd⟩ : ∃ X, X = wc := ⟨_, rfl⟩
                    subst hwd
                    have HWD := HW8
                    have HVD := hideG (HVW.out.below HWD.out)
                    have HUD := hideG (show Below wd.heap.size wd wd.drew from below_drew' (Below.refl wd.heap.size wd))
                    have HDP := hideG (show Calls Tryz.prog 31 #[.agg #[.slice a0 T.length c0, .slice a1 V.op.length c1, .slice a2 V.modal.length c2, .slice a3 V.pops.length c3, .slice a4 V.top.length c4], .agg #[.int .i64 x.node, .int .i64 x.inv]] wd.drew (fun e w' => (∃ ra0 rc0 ra1 rc1 ra2 rc2 ra3 rc3 ra4 rc4, e = .returned (.tuple #[.agg #[.slice ra0 T.length rc0, .slice ra1 (popW V x).op.length rc1, .slice ra2 (popW V x).modal.length rc2, .slice ra3 (popW V x).pops.length rc3, .slice ra4 (popW V x).top.length rc4], .int .i64 (popE V x)]) ∧ (popE V x = 0 → Fresh wd.drew w' (.slice ra0 T.length rc0) (.slice ra1 (popW V x).op.length rc1) (.slice ra2 (popW V x).modal.length rc2) (.slice ra3 (popW V x).pops.length rc3) (.slice ra4 (popW V x).top.length rc4) (popW V x)) ∧ Below wd.drew.heap.size wd.drew w') ∧ w'.cell? ⟨b, 0, none⟩ = some (.slice ra0 T.length rc0) ∧ w'.frozen? ⟨b, 0, none⟩ = false ∧ w'.cell? ⟨b, 1, none⟩ = some (.slice ra1 (dlgW V x.node false).op.length rc1) ∧ w'.frozen? ⟨b, 1, none⟩ = false ∧ w'.cell? ⟨b, 2, none⟩ = some (.slice ra2 (dlgW V x.node false).modal.length rc2) ∧ w'.frozen? ⟨b, 2, none⟩ = false ∧ w'.cell? ⟨b, 3, none⟩ = some (.slice ra3 (dlgW V x.node false).pops.length rc3) ∧ w'.frozen? ⟨b, 3, none⟩ = false ∧ w'.cell? ⟨b, 4, none⟩ = some (.slice ra4 (dlgW V x.node false).top.length rc4) ∧ w'.frozen? ⟨b, 4, none⟩ = false ∧ Hid (BoxO w' b (.slice ra0 T.length rc0) (.slice ra1 (dlgW V x.node false).op.length rc1) (.slice ra2 (dlgW V x.node false).modal.length rc2) (.slice ra3 (dlgW V x.node false).pops.length rc3) (.slice ra4 (dlgW V x.node false).top.length rc4))) from by
                      refine (shapedO (pop_anyO _ _ _ _ _ V wd.drew (HVD.out.below HUD.out) HSV.out HLV.out HTV.out HO.out.chk x) _ _ _ _ _ (by rw [pop_tree HO.out.chk, HO.out.tree]) rfl rfl rfl rfl).mono ?_
                      rintro e w' ⟨ra0, rc0, ra1, rc1, ra2, rc2, ra3, rc3, ra4, rc4, he, hv, hb⟩
                      have hn := (HBB.out.below HUD.out).below hb
                      exact ⟨⟨ra0, rc0, ra1, rc1, ra2, rc2, ra3, rc3, ra4, rc4, he, hv, hb⟩, hn.cells.c0, hn.frozen 0 (by omega), hn.cells.c1, hn.frozen 1 (by omega), hn.cells.c2, hn.frozen 2 (by omega), hn.cells.c3, hn.frozen 3 (by omega), hn.cells.c4, hn.frozen 4 (by omega), hideG hn⟩)
                    have hsd := HSX.out.below (HO.out.bel.trans (HWD.out.mono HO.out.bel.size))
                    have sd0 := hsd.node
                    have sd1 := hsd.inv
                    have sdl := below_of_cell sd0
                    have q0 := HBV.out.cells.c0
                    have q1 := HBV.out.cells.c1
                    have q2 := HBV.out.cells.c2
                    have q3 := HBV.out.cells.c3
                    have q4 := HBV.out.cells.c4
                    have qlt := HBV.out.lt
                    generalize dlgE V x.node = eA at *
                    go_upto_region 13 with fail
                    go_cut [9] (fun e9 wx => ∃ (ra0 ra1 ra2 ra3 ra4 : Option Addr) (rc0 rc1 rc2 rc3 rc4 : Nat), e9 = .int .i64 (popE V x) ∧ BoxO wx b (.slice ra0 T.length rc0) (.slice ra1 (popW V x).op.length rc1) (.slice ra2 (popW V x).modal.length rc2) (.slice ra3 (popW V x).pops.length rc3) (.slice ra4 (popW V x).top.length rc4) ∧ (popE V x = 0 → ∀ W : World, (∀ j, wd.heap.size ≤ j → j < wx.heap.size → W.heap[j]? = wx.heap[j]?) → ViewAt W (.slice ra0 T.length rc0) (.slice ra1 (popW V x).op.length rc1) (.slice ra2 (popW V x).modal.length rc2) (.slice ra3 (popW V x).pops.length rc3) (.slice ra4 (popW V x).top.length rc4) (popW V x)) ∧ Below wr.heap.size wr wx)
                    case first =>
                      clear hE hE'
                      generalize popE V x = eP at *
                      generalize (popW V x) = C at *
                      go_region_with (go_at_call 31; with_reducible refine Calls.mono HDP.out ?_; rintro ex w9 ⟨⟨sa0, sc0, sa1, sc1, sa2, sc2, sa3, sc3, sa4, sc4, rfl, hv9, hb9⟩, z0, zf0, z1, zf1, z2, zf2, z3, zf3, z4, zf4, hn9⟩)
                      all_goals
                        go_wp2_with fail
                        go_meet
                        case rel =>
                          exact ⟨sa0, sa1, sa2, sa3, sa4, sc0, sc1, sc2, sc3, sc4, rfl, hn9.out.set5, fun he W hW => hv9 he W (fun j h1 h2 => by
                            have h1' : wd.heap.size ≤ j := h1
                            have hjb : j ≠ b := by have := HBB.out.lt; omega
                            refine (hW j h1' ?_).trans (set5_block (U := w9) hjb)
                            show j < (set5 w9 b _ _ _ _ _).heap.size
                            rw [set5_size]; exact h2), set5_below (HWD.out.trans ((HUD.out.trans (hb9.mono HUD.out.size)).mono HWD.out.size)) HBGE.out⟩
                    case rest =>
                      obtain ⟨ra0, ra1, ra2, ra3, ra4, rc0, rc1, rc2, rc3, rc4, rfl, hbb2, hfr2, hw82⟩ := hcut
                      clear HW8 HBB HFR0 HBV HDP HUD sd0 sd1 sdl hsd q0 q1 q2 q3 q4 qlt hE hE'
                      have HW8 := hideG hw82
                      have HBB := hideG hbb2
                      have HBV := hideG (HO.out.box.below hw82)
                      have HPM := hideG (fun h => pop_may (x := x) HO.out.chk h)
                      have HLN0 := hideG (pop_len1 (x := x) HO.out.chk)
                      have HTR := hideG (show (popW V x).tree = T by rw [pop_tree HO.out.chk, HO.out.tree])
                      have HSZD := hideG (show wr.heap.size ≤ wd.heap.size from HWD.out.size)
                      clear hbb2 hw82
                      by_cases hP : popE V x = 0
                      · have HFR := hideG (hfr2 hP)
                        have HCK := hideG (HPM.out hP).2.1
                        have HTP := hideG (show (popW V x).top = V.top ++ [x.node] by rw [(HPM.out hP).1])
                        have HLN := hideG (show (popW V x).op.length ≤ k + 1 ∧ (popW V x).modal.length ≤ k + 1 ∧ (popW V x).pops.length ≤ k + 1 ∧ (popW V x).top.length ≤ k + 1 by have h0 := HLN0.out; have h1 := HO.out.lop; have h2 := HO.out.lmodal; have h3 := HO.out.lpops; have h4 := HO.out.ltop; omega)
                        rw [hP]
                        clear hP hfr2 HLN0 HPM
                        generalize (popW V x) = C at *
                        have hszd : wr.heap.size ≤ wd.heap.size := HSZD.out
                        have p0 := HBB.out.cells.c0
                        have p1 := HBB.out.cells.c1
                        have p2 := HBB.out.cells.c2
                        have p3 := HBB.out.cells.c3
                        have p4 := HBB.out.cells.c4
                        have plt := HBB.out.lt
                        have q0 := HBV.out.cells.c0
                        have q1 := HBV.out.cells.c1
                        have q2 := HBV.out.cells.c2
                        have q3 := HBV.out.cells.c3
                        have q4 := HBV.out.cells.c4
                        have qlt := HBV.out.lt
                        have qf0 := HBV.out.frozen 0 (by omega)
                        have qf1 := HBV.out.frozen 1 (by omega)
                        have qf2 := HBV.out.frozen 2 (by omega)
                        have qf3 := HBV.out.frozen 3 (by omega)
                        have qf4 := HBV.out.frozen 4 (by omega)
                        have hbne : b ≠ w1.heap.size := by have := HO.out.box.lt; omega
                        go_upto_region 16 with fail
                        obtain ⟨X, hX⟩ : ∃ X, (set5 wc (w1.heap.size) (.slice ra0 T.length rc0) (.slice ra1 C.op.length rc1) (.slice ra2 C.modal.length rc2) (.slice ra3 C.pops.length rc3) (.slice ra4 C.top.length rc4)) = X := ⟨_, rfl⟩
                        have HXE := hideG hX
                        have hset := set5_size wc (w1.heap.size) (.slice ra0 T.length rc0) (.slice ra1 C.op.length rc1) (.slice ra2 C.modal.length rc2) (.slice ra3 C.pops.length rc3) (.slice ra4 C.top.length rc4)
                        have BX5 := hideG (show BoxO X (w1.heap.size) (.slice ra0 T.length rc0) (.slice ra1 C.op.length rc1) (.slice ra2 C.modal.length rc2) (.slice ra3 C.pops.length rc3) (.slice ra4 C.top.length rc4) by rw [← hX]; exact HBV.out.set5)
                        have HRX := hideG (show X.ownsRow w1.heap.size 3 1 (.slice ha V.top.length hc) V.top.length (intCells V.top) by rw [← hX]; exact row_off (ownsRow_below HO.out.row HW8.out (fun j e => (HO.out.row.lt j e).2)) HBV.out set5_off)
                        have HBX := hideG (show Below w.heap.size w X by rw [← hX]; exact set5_below (HO.out.bel.trans (HW8.out.mono HO.out.bel.size)) (by have := HB1.out.size; omega))
                        have hXs : wr.heap.size ≤ X.heap.size := by rw [← hX, hset]; exact HW8.out.size
                        have HKP := hideG (show ∀ W : World, (∀ j, wr.heap.size ≤ j → j ≠ w1.heap.size → j < X.heap.size → W.heap[j]? = X.heap[j]?) → ViewAt W (.slice ra0 T.length rc0) (.slice ra1 C.op.length rc1) (.slice ra2 C.modal.length rc2) (.slice ra3 C.pops.length rc3) (.slice ra4 C.top.length rc4) C from fun W hW => HFR.out W (fun j h1 h2 => by
                          have hne : j ≠ w1.heap.size := by have := HO.out.box.lt; have := HW8.out.size; omega
                          have hjs : wr.heap.size ≤ j := by have := HW8.out.size; omega
                          refine (hW j hjs hne (by rw [← hX, hset]; omega)).trans ?_
                          rw [← hX]
                          exact set5_block hne))
                        have hsx := HSX.out.below HBX.out
                        have sx0 := hsx.node
                        have sx1 := hsx.inv
                        have sxl := below_of_cell sx0
                        unfold set5 at hX
                        rw [hX]
                        clear hX hset hsx p0 p1 p2 p3 p4 plt q0 q1 q2 q3 q4 qlt qf0 qf1 qf2 qf3 qf4
                        go_wp2_with (at_builtin; refine wpList_append_any rfl (.tmp 76) (.tmp 82) 24 rfl w1.heap.size 3 i3 _ 1 8 Tryz.underlying24 hi3 hz30 hz31 hz32 rfl (by decide) _ V.top.length (intCells V.top) rfl (HRX.out.alloc _) _ 1 [.int .i64 x.node] rfl (row_new1 _ _) rfl ?h2 ?h3 ?h4 ?h5 ?_)
                        case h2 => first | rfl | (intro y hy; simp at hy; subst hy; rfl)
                        case h3 => have := HO.out.ltop; simp only [maxLen]; omega
                        case h4 => have := HO.out.ltop; omega
                        case h5 => have := BX5.out.lt; simp; omega
                        intro v4 w4 ho4 hg4 hf4
                        obtain ⟨a4', c4', rfl⟩ := ownsRow_shape ho4
                        rw [intCells_snoc] at ho4
                        have hal := alB X (.cells #[.int .i64 x.node] 3)
                        have hnb := row_ne HRX.out BX5.out
                        have hol : ∀ q, (Value.slice ha V.top.length hc).ownBlock = some q → w1.heap.size ≤ q ∧ q < wr.heap.size := fun q e => ⟨(HO.out.row.lt q e).1, (HO.out.row.lt q e).2⟩
                        have hold : ∀ j, j < X.heap.size → (Value.slice ha V.top.length hc).ownBlock ≠ some j → w4.heap[j]? = X.heap[j]? := fun j h1 h2 => (hg4.block j (by (try rw [World.size_alloc]); omega) (fun e => h2 e.symm)).trans (hal.block j h1)
                        have hB4 : Below w.heap.size w w4 := ((HBX.out.trans (hal.mono HBX.out.size)).grown hg4 (by have := (HBX.out.trans (hal.mono HBX.out.size)).size; exact this) (fun j e => by have h1 := (hol j e).1; have h2 := HB1.out.size; omega))
                        have hnew : ∀ q, (Value.slice a4' (V.top.length + 1) c4').ownBlock = some q → (Value.slice ha V.top.length hc).ownBlock = some q ∨ X.heap.size ≤ q := fun q e => (hf4 q e).imp id (fun h => by (try rw [World.size_alloc] at h); omega)
                        have hsz4 := hg4.size
                        try rw [World.size_alloc] at hsz4
                        have HORD := hideG (show OrdS w w1 T (k + 1) C a4' c4' ra0 ra1 ra2 ra3 ra4 rc0 rc1 rc2 rc3 rc4 w4 from ⟨by rw [HTP.out, List.length_append]; exact ho4, (hold _ BX5.out.lt hnb).trans BX5.out, by
                            intro W hW
                            refine HKP.out W (fun j h1 h2 h3 => ?_)
                            have hq : (Value.slice ha V.top.length hc).ownBlock ≠ some j := fun e => by have := (hol j e).2; omega
                            refine (hW j h2 (fun e => ?_) (by have := hal.size; omega)).trans (hold j h3 hq)
                            rcases hnew j ((ob_len _ _ _ _ _).trans e) with h | h
                            · exact hq h
                            · omega, HTR.out, HCK.out, HLN.out.1, HLN.out.2.1, HLN.out.2.2.1, HLN.out.2.2.2, hB4⟩)
                        have HTL := hideG (show V.top.length + 1 = C.top.length by rw [HTP.out, List.length_append]; rfl)
                        clear ho4 hg4 hf4 hal hnb hol hold hB4 hnew hsz4
                        go_wp2_with fail
                        go_roundw
                        case rel => exact ⟨k + 1, C, a4', c4', ra0, ra1, ra2, ra3, ra4, rc0, rc1, rc2, rc3, rc4, by omega, by go_num, by rw [HTL.out], HORD.out⟩
                        case measure => simp [intOf]; omega
                      · have hP' : (popE V x == 0) = false := by simpa using hP
                        have HORD := hideG (HO.out.next HW8.out)
                        clear hfr2 HPM HLN0 HTR
                        generalize popE V x = eP at *
                        go_wp2_with fail
                        go_roundw
                        case rel => exact ⟨k + 1, V, ha, hc, a0, a1, a2, a3, a4, c0, c1, c2, c3, c4, by omega, by go_num, rfl, HORD.out⟩
                        case measure => simp [intOf]; omega
                · skip
                  by_cases hE : dlgE V x.node = 0
                  · have hE0 := hE
                    have HFR := hideG (HFR0.out hE)
                    have HCK := hideG (HDM.out hE).1
                    have HLN := hideG (show (dlgW V x.node true).op.length ≤ k + 1 ∧ (dlgW V x.node true).modal.length ≤ k + 1 ∧ (dlgW V x.node true).pops.length ≤ k + 1 ∧ (dlgW V x.node true).top.length ≤ k + 1 by have h0 := HLND.out; have h1 := HO.out.lop; have h2 := HO.out.lmodal; have h3 := HO.out.lpops; have h4 := HO.out.ltop; omega)
                    rw [hE]
                    clear hE HDM HFR0 HLND
                    have HTP := hideG (show (dlgW V x.node true).top = V.top ++ [x.node] from dlg_top_true HO.out.chk hE0)
                    generalize (dlgW V x.node true) = A at *
                    have p0 := HBB.out.cells.c0
                    have p1 := HBB.out.cells.c1
                    have p2 := HBB.out.cells.c2
                    have p3 := HBB.out.cells.c3
                    have p4 := HBB.out.cells.c4
                    have plt := HBB.out.lt
                    have q0 := HBV.out.cells.c0
                    have q1 := HBV.out.cells.c1
                    have q2 := HBV.out.cells.c2
                    have q3 := HBV.out.cells.c3
                    have q4 := HBV.out.cells.c4
                    have qlt := HBV.out.lt
                    have qf0 := HBV.out.frozen 0 (by omega)
                    have qf1 := HBV.out.frozen 1 (by omega)
                    have qf2 := HBV.out.frozen 2 (by omega)
                    have qf3 := HBV.out.frozen 3 (by omega)
                    have qf4 := HBV.out.frozen 4 (by omega)
                    have hbne : b ≠ w1.heap.size := by have := HO.out.box.lt; omega
                    go_upto_region 12 with fail
                    obtain ⟨X, hX⟩ : ∃ X, (set5 wc (w1.heap.size) (.slice ra0 T.length rc0) (.slice ra1 A.op.length rc1) (.slice ra2 A.modal.length rc2) (.slice ra3 A.pops.length rc3) (.slice ra4 A.top.length rc4)) = X := ⟨_, rfl⟩
                    have HXE := hideG hX
                    have hset := set5_size wc (w1.heap.size) (.slice ra0 T.length rc0) (.slice ra1 A.op.length rc1) (.slice ra2 A.modal.length rc2) (.slice ra3 A.pops.length rc3) (.slice ra4 A.top.length rc4)
                    have BX5 := hideG (show BoxO X (w1.heap.size) (.slice ra0 T.length rc0) (.slice ra1 A.op.length rc1) (.slice ra2 A.modal.length rc2) (.slice ra3 A.pops.length rc3) (.slice ra4 A.top.length rc4) by rw [← hX]; exact HBV.out.set5)
                    have HRX := hideG (show X.ownsRow w1.heap.size 3 1 (.slice ha V.top.length hc) V.top.length (intCells V.top) by rw [← hX]; exact row_off (ownsRow_below HO.out.row HW8.out (fun j e => (HO.out.row.lt j e).2)) HBV.out set5_off)
                    have HBX := hideG (show Below w.heap.size w X by rw [← hX]; exact set5_below (HO.out.bel.trans (HW8.out.mono HO.out.bel.size)) (by have := HB1.out.size; omega))
                    have hXs : wr.heap.size ≤ X.heap.size := by rw [← hX, hset]; exact HW8.out.size
                    have HKP := hideG (show ∀ W : World, (∀ j, wr.heap.size ≤ j → j ≠ w1.heap.size → j < X.heap.size → W.heap[j]? = X.heap[j]?) → ViewAt W (.slice ra0 T.length rc0) (.slice ra1 A.op.length rc1) (.slice ra2 A.modal.length rc2) (.slice ra3 A.pops.length rc3) (.slice ra4 A.top.length rc4) A from fun W hW => HFR.out W (fun j h1 h2 h3 => by
                      have hne : j ≠ w1.heap.size := by have := HO.out.box.lt; have := HW8.out.size; omega
                      have hjs : wr.heap.size ≤ j := by have := HW8.out.size; omega
                      refine (hW j hjs hne (by rw [← hX, hset]; omega)).trans ?_
                      rw [← hX]
                      exact set5_block hne))
                    have hsx := HSX.out.below HBX.out
                    have sx0 := hsx.node
                    have sx1 := hsx.inv
                    have sxl := below_of_cell sx0
                    unfold set5 at hX
                    rw [hX]
                    clear hX hset hsx p0 p1 p2 p3 p4 plt q0 q1 q2 q3 q4 qlt qf0 qf1 qf2 qf3 qf4
                    go_wp2_with (at_builtin; refine wpList_append_any rfl (.tmp 56) (.tmp 62) 24 rfl w1.heap.size 3 i3 _ 1 8 Tryz.underlying24 hi3 hz30 hz31 hz32 rfl (by decide) _ V.top.length (intCells V.top) rfl (HRX.out.alloc _) _ 1 [.int .i64 x.node] rfl (row_new1 _ _) rfl ?h2 ?h3 ?h4 ?h5 ?_)
                    case h2 => first | rfl | (intro y hy; simp at hy; subst hy; rfl)
                    case h3 => have := HO.out.ltop; simp only [maxLen]; omega
                    case h4 => have := HO.out.ltop; omega
                    case h5 => have := BX5.out.lt; simp; omega
                    intro v4 w4 ho4 hg4 hf4
                    obtain ⟨a4', c4', rfl⟩ := ownsRow_shape ho4
                    rw [intCells_snoc] at ho4
                    have hal := alB X (.cells #[.int .i64 x.node] 3)
                    have hnb := row_ne HRX.out BX5.out
                    have hol : ∀ q, (Value.slice ha V.top.length hc).ownBlock = some q → w1.heap.size ≤ q ∧ q < wr.heap.size := fun q e => ⟨(HO.out.row.lt q e).1, (HO.out.row.lt q e).2⟩
                    have hold : ∀ j, j < X.heap.size → (Value.slice ha V.top.length hc).ownBlock ≠ some j → w4.heap[j]? = X.heap[j]? := fun j h1 h2 => (hg4.block j (by (try rw [World.size_alloc]); omega) (fun e => h2 e.symm)).trans (hal.block j h1)
                    have hB4 : Below w.heap.size w w4 := ((HBX.out.trans (hal.mono HBX.out.size)).grown hg4 (by have := (HBX.out.trans (hal.mono HBX.out.size)).size; exact this) (fun j e => by have h1 := (hol j e).1; have h2 := HB1.out.size; omega))
                    have hnew : ∀ q, (Value.slice a4' (V.top.length + 1) c4').ownBlock = some q → (Value.slice ha V.top.length hc).ownBlock = some q ∨ X.heap.size ≤ q := fun q e => (hf4 q e).imp id (fun h => by (try rw [World.size_alloc] at h); omega)
                    have hsz4 := hg4.size
                    try rw [World.size_alloc] at hsz4
                    have HORD := hideG (show OrdS w w1 T (k + 1) A a4' c4' ra0 ra1 ra2 ra3 ra4 rc0 rc1 rc2 rc3 rc4 w4 from ⟨by rw [HTP.out, List.length_append]; exact ho4, (hold _ BX5.out.lt hnb).trans BX5.out, by
                        intro W hW
                        refine HKP.out W (fun j h1 h2 h3 => ?_)
                        have hq : (Value.slice ha V.top.length hc).ownBlock ≠ some j := fun e => by have := (hol j e).2; omega
                        refine (hW j h2 (fun e => ?_) (by have := hal.size; omega)).trans (hold j h3 hq)
                        rcases hnew j ((ob_len _ _ _ _ _).trans e) with h | h
                        · exact hq h
                        · omega, HTR.out, HCK.out, HLN.out.1, HLN.out.2.1, HLN.out.2.2.1, HLN.out.2.2.2, hB4⟩)
                    have HTL := hideG (show V.top.length + 1 = A.top.length by rw [HTP.out, List.length_append]; rfl)
                    clear ho4 hg4 hf4 hal hnb hol hold hB4 hnew hsz4
                    go_wp2_with fail
                    go_roundw
                    case rel => exact ⟨k + 1, A, a4', c4', ra0, ra1, ra2, ra3, ra4, rc0, rc1, rc2, rc3, rc4, by omega, by go_num, by rw [HTL.out], HORD.out⟩
                    case measure => simp [intOf]; omega
                  · clear HDM HLND HTR
                    have hE' : (dlgE V x.node == 0) = false := by simpa using hE
                    obtain ⟨wd, hwd⟩ : ∃ X, X = wc := ⟨_, rfl⟩
                    subst hwd
                    have HWD := HW8
                    have HVD := hideG (HVW.out.below HWD.out)
                    have HUD := hideG (show Below wd.heap.size wd wd.drew from below_drew' (Below.refl wd.heap.size wd))
                    have HDP := hideG (show Calls Tryz.prog 31 #[.agg #[.slice a0 T.length c0, .slice a1 V.op.length c1, .slice a2 V.modal.length c2, .slice a3 V.pops.length c3, .slice a4 V.top.length c4], .agg #[.int .i64 x.node, .int .i64 x.inv]] wd.drew (fun e w' => (∃ ra0 rc0 ra1 rc1 ra2 rc2 ra3 rc3 ra4 rc4, e = .returned (.tuple #[.agg #[.slice ra0 T.length rc0, .slice ra1 (popW V x).op.length rc1, .slice ra2 (popW V x).modal.length rc2, .slice ra3 (popW V x).pops.length rc3, .slice ra4 (popW V x).top.length rc4], .int .i64 (popE V x)]) ∧ (popE V x = 0 → Fresh wd.drew w' (.slice ra0 T.length rc0) (.slice ra1 (popW V x).op.length rc1) (.slice ra2 (popW V x).modal.length rc2) (.slice ra3 (popW V x).pops.length rc3) (.slice ra4 (popW V x).top.length rc4) (popW V x)) ∧ Below wd.drew.heap.size wd.drew w') ∧ w'.cell? ⟨b, 0, none⟩ = some (.slice ra0 T.length rc0) ∧ w'.frozen? ⟨b, 0, none⟩ = false ∧ w'.cell? ⟨b, 1, none⟩ = some (.slice ra1 (dlgW V x.node true).op.length rc1) ∧ w'.frozen? ⟨b, 1, none⟩ = false ∧ w'.cell? ⟨b, 2, none⟩ = some (.slice ra2 (dlgW V x.node true).modal.length rc2) ∧ w'.frozen? ⟨b, 2, none⟩ = false ∧ w'.cell? ⟨b, 3, none⟩ = some (.slice ra3 (dlgW V x.node true).pops.length rc3) ∧ w'.frozen? ⟨b, 3, none⟩ = false ∧ w'.cell? ⟨b, 4, none⟩ = some (.slice ra4 (dlgW V x.node true).top.length rc4) ∧ w'.frozen? ⟨b, 4, none⟩ = false ∧ Hid (BoxO w' b (.slice ra0 T.length rc0) (.slice ra1 (dlgW V x.node true).op.length rc1) (.slice ra2 (dlgW V x.node true).modal.length rc2) (.slice ra3 (dlgW V x.node true).pops.length rc3) (.slice ra4 (dlgW V x.node true).top.length rc4))) from by
                      refine (shapedO (pop_anyO _ _ _ _ _ V wd.drew (HVD.out.below HUD.out) HSV.out HLV.out HTV.out HO.out.chk x) _ _ _ _ _ (by rw [pop_tree HO.out.chk, HO.out.tree]) rfl rfl rfl rfl).mono ?_
                      rintro e w' ⟨ra0, rc0, ra1, rc1, ra2, rc2, ra3, rc3, ra4, rc4, he, hv, hb⟩
                      have hn := (HBB.out.below HUD.out).below hb
                      exact ⟨⟨ra0, rc0, ra1, rc1, ra2, rc2, ra3, rc3, ra4, rc4, he, hv, hb⟩, hn.cells.c0, hn.frozen 0 (by omega), hn.cells.c1, hn.frozen 1 (by omega), hn.cells.c2, hn.frozen 2 (by omega), hn.cells.c3, hn.frozen 3 (by omega), hn.cells.c4, hn.frozen 4 (by omega), hideG hn⟩)
                    have hsd := HSX.out.below (HO.out.bel.trans (HWD.out.mono HO.out.bel.size))
                    have sd0 := hsd.node
                    have sd1 := hsd.inv
                    have sdl := below_of_cell sd0
                    have q0 := HBV.out.cells.c0
                    have q1 := HBV.out.cells.c1
                    have q2 := HBV.out.cells.c2
                    have q3 := HBV.out.cells.c3
                    have q4 := HBV.out.cells.c4
                    have qlt := HBV.out.lt
                    generalize dlgE V x.node = eA at *
                    go_upto_region 13 with fail
                    go_cut [9] (fun e9 wx => ∃ (ra0 ra1 ra2 ra3 ra4 : Option Addr) (rc0 rc1 rc2 rc3 rc4 : Nat), e9 = .int .i64 (popE V x) ∧ BoxO wx b (.slice ra0 T.length rc0) (.slice ra1 (popW V x).op.length rc1) (.slice ra2 (popW V x).modal.length rc2) (.slice ra3 (popW V x).pops.length rc3) (.slice ra4 (popW V x).top.length rc4) ∧ (popE V x = 0 → ∀ W : World, (∀ j, wd.heap.size ≤ j → j < wx.heap.size → W.heap[j]? = wx.heap[j]?) → ViewAt W (.slice ra0 T.length rc0) (.slice ra1 (popW V x).op.length rc1) (.slice ra2 (popW V x).modal.length rc2) (.slice ra3 (popW V x).pops.length rc3) (.slice ra4 (popW V x).top.length rc4) (popW V x)) ∧ Below wr.heap.size wr wx)
                    case first =>
                      clear hE hE'
                      generalize popE V x = eP at *
                      generalize (popW V x) = C at *
                      go_region_with (go_at_call 31; with_reducible refine Calls.mono HDP.out ?_; rintro ex w9 ⟨⟨sa0, sc0, sa1, sc1, sa2, sc2, sa3, sc3, sa4, sc4, rfl, hv9, hb9⟩, z0, zf0, z1, zf1, z2, zf2, z3, zf3, z4, zf4, hn9⟩)
                      all_goals
                        go_wp2_with fail
                        go_meet
                        case rel =>
                          exact ⟨sa0, sa1, sa2, sa3, sa4, sc0, sc1, sc2, sc3, sc4, rfl, hn9.out.set5, fun he W hW => hv9 he W (fun j h1 h2 => by
                            have h1' : wd.heap.size ≤ j := h1
                            have hjb : j ≠ b := by have := HBB.out.lt; omega
                            refine (hW j h1' ?_).trans (set5_block (U := w9) hjb)
                            show j < (set5 w9 b _ _ _ _ _).heap.size
                            rw [set5_size]; exact h2), set5_below (HWD.out.trans ((HUD.out.trans (hb9.mono HUD.out.size)).mono HWD.out.size)) HBGE.out⟩
                    case rest =>
                      obtain ⟨ra0, ra1, ra2, ra3, ra4, rc0, rc1, rc2, rc3, rc4, rfl, hbb2, hfr2, hw82⟩ := hcut
                      clear HW8 HBB HFR0 HBV HDP HUD sd0 sd1 sdl hsd q0 q1 q2 q3 q4 qlt hE hE'
                      have HW8 := hideG hw82
                      have HBB := hideG hbb2
                      have HBV := hideG (HO.out.box.below hw82)
                      have HPM := hideG (fun h => pop_may (x := x) HO.out.chk h)
                      have HLN0 := hideG (pop_len1 (x := x) HO.out.chk)
                      have HTR := hideG (show (popW V x).tree = T by rw [pop_tree HO.out.chk, HO.out.tree])
                      have HSZD := hideG (show wr.heap.size ≤ wd.heap.size from HWD.out.size)
                      clear hbb2 hw82
                      by_cases hP : popE V x = 0
                      · have HFR := hideG (hfr2 hP)
                        have HCK := hideG (HPM.out hP).2.1
                        have HTP := hideG (show (popW V x).top = V.top ++ [x.node] by rw [(HPM.out hP).1])
                        have HLN := hideG (show (popW V x).op.length ≤ k + 1 ∧ (popW V x).modal.length ≤ k + 1 ∧ (popW V x).pops.length ≤ k + 1 ∧ (popW V x).top.length ≤ k + 1 by have h0 := HLN0.out; have h1 := HO.out.lop; have h2 := HO.out.lmodal; have h3 := HO.out.lpops; have h4 := HO.out.ltop; omega)
                        rw [hP]
                        clear hP hfr2 HLN0 HPM
                        generalize (popW V x) = C at *
                        have hszd : wr.heap.size ≤ wd.heap.size := HSZD.out
                        have p0 := HBB.out.cells.c0
                        have p1 := HBB.out.cells.c1
                        have p2 := HBB.out.cells.c2
                        have p3 := HBB.out.cells.c3
                        have p4 := HBB.out.cells.c4
                        have plt := HBB.out.lt
                        have q0 := HBV.out.cells.c0
                        have q1 := HBV.out.cells.c1
                        have q2 := HBV.out.cells.c2
                        have q3 := HBV.out.cells.c3
                        have q4 := HBV.out.cells.c4
                        have qlt := HBV.out.lt
                        have qf0 := HBV.out.frozen 0 (by omega)
                        have qf1 := HBV.out.frozen 1 (by omega)
                        have qf2 := HBV.out.frozen 2 (by omega)
                        have qf3 := HBV.out.frozen 3 (by omega)
                        have qf4 := HBV.out.frozen 4 (by omega)
                        have hbne : b ≠ w1.heap.size := by have := HO.out.box.lt; omega
                        go_upto_region 16 with fail
                        obtain ⟨X, hX⟩ : ∃ X, (set5 wc (w1.heap.size) (.slice ra0 T.length rc0) (.slice ra1 C.op.length rc1) (.slice ra2 C.modal.length rc2) (.slice ra3 C.pops.length rc3) (.slice ra4 C.top.length rc4)) = X := ⟨_, rfl⟩
                        have HXE := hideG hX
                        have hset := set5_size wc (w1.heap.size) (.slice ra0 T.length rc0) (.slice ra1 C.op.length rc1) (.slice ra2 C.modal.length rc2) (.slice ra3 C.pops.length rc3) (.slice ra4 C.top.length rc4)
                        have BX5 := hideG (show BoxO X (w1.heap.size) (.slice ra0 T.length rc0) (.slice ra1 C.op.length rc1) (.slice ra2 C.modal.length rc2) (.slice ra3 C.pops.length rc3) (.slice ra4 C.top.length rc4) by rw [← hX]; exact HBV.out.set5)
                        have HRX := hideG (show X.ownsRow w1.heap.size 3 1 (.slice ha V.top.length hc) V.top.length (intCells V.top) by rw [← hX]; exact row_off (ownsRow_below HO.out.row HW8.out (fun j e => (HO.out.row.lt j e).2)) HBV.out set5_off)
                        have HBX := hideG (show Below w.heap.size w X by rw [← hX]; exact set5_below (HO.out.bel.trans (HW8.out.mono HO.out.bel.size)) (by have := HB1.out.size; omega))
                        have hXs : wr.heap.size ≤ X.heap.size := by rw [← hX, hset]; exact HW8.out.size
                        have HKP := hideG (show ∀ W : World, (∀ j, wr.heap.size ≤ j → j ≠ w1.heap.size → j < X.heap.size → W.heap[j]? = X.heap[j]?) → ViewAt W (.slice ra0 T.length rc0) (.slice ra1 C.op.length rc1) (.slice ra2 C.modal.length rc2) (.slice ra3 C.pops.length rc3) (.slice ra4 C.top.length rc4) C from fun W hW => HFR.out W (fun j h1 h2 => by
                          have hne : j ≠ w1.heap.size := by have := HO.out.box.lt; have := HW8.out.size; omega
                          have hjs : wr.heap.size ≤ j := by have := HW8.out.size; omega
                          refine (hW j hjs hne (by rw [← hX, hset]; omega)).trans ?_
                          rw [← hX]
                          exact set5_block hne))
                        have hsx := HSX.out.below HBX.out
                        have sx0 := hsx.node
                        have sx1 := hsx.inv
                        have sxl := below_of_cell sx0
                        unfold set5 at hX
                        rw [hX]
                        clear hX hset hsx p0 p1 p2 p3 p4 plt q0 q1 q2 q3 q4 qlt qf0 qf1 qf2 qf3 qf4
                        go_wp2_with (at_builtin; refine wpList_append_any rfl (.tmp 76) (.tmp 82) 24 rfl w1.heap.size 3 i3 _ 1 8 Tryz.underlying24 hi3 hz30 hz31 hz32 rfl (by decide) _ V.top.length (intCells V.top) rfl (HRX.out.alloc _) _ 1 [.int .i64 x.node] rfl (row_new1 _ _) rfl ?h2 ?h3 ?h4 ?h5 ?_)
                        case h2 => first | rfl | (intro y hy; simp at hy; subst hy; rfl)
                        case h3 => have := HO.out.ltop; simp only [maxLen]; omega
                        case h4 => have := HO.out.ltop; omega
                        case h5 => have := BX5.out.lt; simp; omega
                        intro v4 w4 ho4 hg4 hf4
                        obtain ⟨a4', c4', rfl⟩ := ownsRow_shape ho4
                        rw [intCells_snoc] at ho4
                        have hal := alB X (.cells #[.int .i64 x.node] 3)
                        have hnb := row_ne HRX.out BX5.out
                        have hol : ∀ q, (Value.slice ha V.top.length hc).ownBlock = some q → w1.heap.size ≤ q ∧ q < wr.heap.size := fun q e => ⟨(HO.out.row.lt q e).1, (HO.out.row.lt q e).2⟩
                        have hold : ∀ j, j < X.heap.size → (Value.slice ha V.top.length hc).ownBlock ≠ some j → w4.heap[j]? = X.heap[j]? := fun j h1 h2 => (hg4.block j (by (try rw [World.size_alloc]); omega) (fun e => h2 e.symm)).trans (hal.block j h1)
                        have hB4 : Below w.heap.size w w4 := ((HBX.out.trans (hal.mono HBX.out.size)).grown hg4 (by have := (HBX.out.trans (hal.mono HBX.out.size)).size; exact this) (fun j e => by have h1 := (hol j e).1; have h2 := HB1.out.size; omega))
                        have hnew : ∀ q, (Value.slice a4' (V.top.length + 1) c4').ownBlock = some q → (Value.slice ha V.top.length hc).ownBlock = some q ∨ X.heap.size ≤ q := fun q e => (hf4 q e).imp id (fun h => by (try rw [World.size_alloc] at h); omega)
                        have hsz4 := hg4.size
                        try rw [World.size_alloc] at hsz4
                        have HORD := hideG (show OrdS w w1 T (k + 1) C a4' c4' ra0 ra1 ra2 ra3 ra4 rc0 rc1 rc2 rc3 rc4 w4 from ⟨by rw [HTP.out, List.length_append]; exact ho4, (hold _ BX5.out.lt hnb).trans BX5.out, by
                            intro W hW
                            refine HKP.out W (fun j h1 h2 h3 => ?_)
                            have hq : (Value.slice ha V.top.length hc).ownBlock ≠ some j := fun e => by have := (hol j e).2; omega
                            refine (hW j h2 (fun e => ?_) (by have := hal.size; omega)).trans (hold j h3 hq)
                            rcases hnew j ((ob_len _ _ _ _ _).trans e) with h | h
                            · exact hq h
                            · omega, HTR.out, HCK.out, HLN.out.1, HLN.out.2.1, HLN.out.2.2.1, HLN.out.2.2.2, hB4⟩)
                        have HTL := hideG (show V.top.length + 1 = C.top.length by rw [HTP.out, List.length_append]; rfl)
                        clear ho4 hg4 hf4 hal hnb hol hold hB4 hnew hsz4
                        go_wp2_with fail
                        go_roundw
                        case rel => exact ⟨k + 1, C, a4', c4', ra0, ra1, ra2, ra3, ra4, rc0, rc1, rc2, rc3, rc4, by omega, by go_num, by rw [HTL.out], HORD.out⟩
                        case measure => simp [intOf]; omega
                      · have hP' : (popE V x == 0) = false := by simpa using hP
                        have HORD := hideG (HO.out.next HW8.out)
                        clear hfr2 HPM HLN0 HTR
                        generalize popE V x = eP at *
                        go_wp2_with fail
                        go_roundw
                        case rel => exact ⟨k + 1, V, ha, hc, a0, a1, a2, a3, a4, c0, c1, c2, c3, c4, by omega, by go_num, rfl, HORD.out⟩
                        case measure => simp [intOf]; omega
            · have hkl : ¬ (k : Int) < (L.length : Int) := by omega
              go_wp2_with fail
              clear p0 p1 p2 p3 p4 plt
              refine (refInts_any V.top V.top _ _ wr HVW.out.top (ownsRow_ints HO.out.row) (by have := HO.out.ltop; omega)).mono ?_
              rintro ex w2 ⟨rfl, hb2⟩
              rw [decide_eq_true (rfl : V.top = V.top)]
              have HB2 := hideG (HO.out.bel.trans (hb2.mono HO.out.bel.size))
              have HBX2 := hideG (HO.out.box.below hb2)
              have HV2 := hideG (HVW.out.below hb2)
              clear hb2
              have p0 := HBX2.out.cells.c0
              have p1 := HBX2.out.cells.c1
              have p2 := HBX2.out.cells.c2
              have p3 := HBX2.out.cells.c3
              have p4 := HBX2.out.cells.c4
              have plt := HBX2.out.lt
              go_wp2_with fail
              clear p0 p1 p2 p3 p4 plt
              refine (checkV_any _ _ _ _ _ V w2 HV2.out HSV.out HLV.out).mono ?_
              rintro ex w3 ⟨rfl, hb3⟩
              rw [HO.out.chk]
              have HB3 := hideG (HB2.out.trans (hb3.mono HB2.out.size))
              clear hb3
              go_wp2_with fail
              refine (live10_any _).mono ?_
              rintro ex wl ⟨rfl, hbl⟩
              have HBL := hideG ((HB3.out).trans (hbl.mono (HB3.out).size))
              clear hbl
              go_wp2_with fail
              go_ret
              exact ⟨rfl, HBL.out⟩
      · have h20i : (20 : Int) < (L.length : Int) := by omega
        go_enter Tryz.func8, Tryz.ntmps8
        go_wp2_with fail
        refine (refSmall_any T _ w HT.out).mono ?_
        rintro ex wz ⟨rfl, hwz⟩
        obtain rfl : _ = wz := hwz.symm
        rw [HSS.out]
        go_wp2_with fail
        refine (live10_any _).mono ?_
        rintro ex wl ⟨rfl, hbl⟩
        have HBL := hideG ((Below.refl w.heap.size w).trans (hbl.mono (Below.refl w.heap.size w).size))
        clear hbl
        go_wp2_with fail
        go_ret
        exact ⟨rfl, HBL.out⟩
    · have h16i : (16 : Int) < (T.length : Int) := by omega
      go_enter Tryz.func8, Tryz.ntmps8
      go_wp2_with fail
      refine (refSmall_any T _ w HT.out).mono ?_
      rintro ex wz ⟨rfl, hwz⟩
      obtain rfl : _ = wz := hwz.symm
      rw [HSS.out]
      go_wp2_with fail
      refine (live10_any _).mono ?_
      rintro ex wl ⟨rfl, hbl⟩
      have HBL := hideG ((Below.refl w.heap.size w).trans (hbl.mono (Below.refl w.heap.size w).size))
      clear hbl
      go_wp2_with fail
      go_ret
      exact ⟨rfl, HBL.out⟩
end Go.Proofs.YtclhimodopgeoaaGreat

