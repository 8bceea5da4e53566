/- Set of limelightref02. -/
import Derived.Deep.RegionWith
import Derived.Test.YtbfomnkapnlgeaaRefCopy
import Derived.Test.YtbfomnkapnlgeaaWithMath
import Derived.Test.YtbfomnkapnlgeaaMayEq2
import Derived.Test.YtbfomnkapnlgeaaBack
namespace Go.Proofs.Ytbfomnkapnlgeaa
open Go.RowKit

/-- What Set says, once the tree may be and the node is one that has attributes. -/
theorem setE_fits {T : List Nd} {k : Nat} {a : Int × Int} (hm : mayB T = true) (hk : k < T.length) (hkk : ((nd T k).kind != 1 && (nd T k).kind != 3) = false) : setE T k a = if attrFitsB (nd T k).kind a.1 a.2 then 0 else 7 := by
  have hi : isNodeB T.length (k : Int) = true := by simp [isNodeB]; omega
  rw [setE, faultE, hm, hi, Int.toNat_natCast, hkk]
  simp only [if_true, bne_self_eq_false, Bool.false_eq_true, if_false]
  cases hx : attrFitsB (nd T k).kind a.1 a.2
  · have : mayB (withAttrs T k (putL (nd T k).attrs a)) = false := by
      cases hmm : mayB (withAttrs T k (putL (nd T k).attrs a))
      · rfl
      · have := may_attrs hmm (m := k) (by rw [withAttrs_length]; exact hk)
        rw [nd_withAttrs _ _ _ hk, if_pos rfl] at this
        dsimp only at this
        rw [put_bad hx] at this
        cases this
    rw [this]
  · rw [may_withAttrs hm hk (put_fits hx (by have := fits_name hx; omega) (may_attrs hm hk))]

set_option maxRecDepth 100000 in
set_option maxHeartbeats 8000000 in
theorem refSet_bad (T : List Nd) (hS : Sane T) (v : Value) (n nm vl : Int) (W : World) (hT : TreeAt W v T) (hf : (faultE T n != 0) = true) :
    Calls Try.prog 37 #[v, .int .i64 n, .agg #[.int .i64 nm, .int .i64 vl]] W fun e w' => ∃ v', e = .returned (.tuple #[v', .int .i64 (setE T n (nm, vl))]) ∧ Below W.heap.size W w' ∧ TreeAt w' v' (setR T n (nm, vl)) := by
  have hE : setE T n (nm, vl) = faultE T n := by rw [setE, hf, if_pos rfl]
  have hb0 : ∀ o, Below W.heap.size W (W.alloc o) := fun o => (Below.refl _ W).alloc (Nat.le_refl _) o
  have HB := hideG hb0
  have HT := hideG hT
  have HMAY : Hid (∀ o, Calls Try.prog 29 #[v] (W.alloc o) fun e w' => e = .returned (.bool (mayB T)) ∧ Below W.heap.size W w') := fun o => by
    have := refMay_any T hS v (W.alloc o) (hT.below (hb0 o))
    rw [refMay_eq] at this
    exact after (hb0 o) this
  obtain ⟨a, cap, rfl⟩ := hT.shape
  clear hT hb0
  cases hm : mayB T
  · have e1 : setE T n (nm, vl) = 1 := by rw [hE, faultE, hm]; rfl
    have e2 : setR T n (nm, vl) = [] := by rw [setR, e1]; rfl
    rw [e1, e2]
    rw [hm] at HMAY
    clear e1 e2 hE hf
    go_enter Try.func37, Try.ntmps37
    go_wp2_with (go_at_call 29; refine Calls.mono (HMAY.out _) ?_; rintro e w1 ⟨rfl, hb1⟩)
    go_ret2
    exact ⟨_, rfl, hb1, treeAt_nil _⟩
  · have hi : isNodeB T.length n = false := by
      cases hi : isNodeB T.length n
      · rfl
      · rw [faultE, hm, hi] at hf; simp at hf
    have e1 : setE T n (nm, vl) = 2 := by rw [hE, faultE, hm, hi]; rfl
    have e2 : setR T n (nm, vl) = T := by rw [setR, e1]; rfl
    rw [e1, e2]
    rw [hm] at HMAY
    clear e1 e2 hE hf
    go_enter Try.func37, Try.ntmps37
    go_wp2_with (first | (go_at_call 29; refine Calls.mono (HMAY.out _) ?_; rintro e w1 ⟨rfl, hb1⟩) | (go_at_call 30; refine (refIs_any _ _ _ _ _).mono ?_; rw [hi]; rintro e w2 ⟨rfl, rfl⟩))
    go_ret2
    exact ⟨_, rfl, hb1, HT.out.below hb1⟩

set_option maxRecDepth 100000 in
set_option maxHeartbeats 8000000 in
theorem refSet_good (T : List Nd) (hS : Sane T) (v : Value) (k : Nat) (nm vl : Int) (W : World) (hT : TreeAt W v T) (hm : mayB T = true) (hk : k < T.length) (ha : (nd T k).attrs.length ≤ 1000) :
    Calls Try.prog 37 #[v, .int .i64 k, .agg #[.int .i64 nm, .int .i64 vl]] W fun e w' => ∃ v', e = .returned (.tuple #[v', .int .i64 (setE T k (nm, vl))]) ∧ Below W.heap.size W w' ∧ TreeAt w' v' (setR T k (nm, vl)) := by
  have hi : isNodeB T.length (k : Int) = true := by simp [isNodeB]; omega
  have hb0 : ∀ o, Below W.heap.size W (W.alloc o) := fun o => (Below.refl _ W).alloc (Nat.le_refl _) o
  have HB := hideG hb0
  have HT := hideG hT
  have HS := hideG hS
  have hpos := mayB_pos hm
  have HMAY : Hid (∀ o, Calls Try.prog 29 #[v] (W.alloc o) fun e w' => e = .returned (.bool true) ∧ Below (W.alloc o).heap.size (W.alloc o) w') := fun o => by
    have := refMay_any T hS v (W.alloc o) (hT.below (hb0 o))
    rwa [refMay_eq, hm] at this
  obtain ⟨b, off, cap, rfl, hc⟩ := hT.at (by omega)
  obtain ⟨kw, aw, hN⟩ := hc k hk
  have HN := hideG hN
  have c0 := hN.kind
  have hbz : b < W.heap.size := below_of_cell c0
  clear hT hb0 hc hN
  have HX0 := hideG (show (W.alloc (.cells #[.int .i64 nm, .int .i64 vl] 54)).cell? ⟨W.heap.size, 0, none⟩ = some (.int .i64 nm) by simp)
  have HX1 := hideG (show (W.alloc (.cells #[.int .i64 nm, .int .i64 vl] 54)).cell? ⟨W.heap.size, 1, none⟩ = some (.int .i64 vl) by simp)
  have HF : Hid (∀ wr w2, Below wr.heap.size wr w2 → Calls Try.prog 65 #[.int .i64 (nd T k).kind, .agg #[.int .i64 nm, .int .i64 vl]] w2 fun e w' => e = .returned (.bool (attrFitsB (nd T k).kind nm vl)) ∧ Below wr.heap.size wr w') := fun wr w2 h2 => after h2 (refAttr_any _ _ _ _)
  have hcc : ∀ (w : World) (d : Calm w) (b o : Nat), b < w.heap.size → d.to.cell? ⟨b, o, none⟩ = w.cell? ⟨b, o, none⟩ := fun _ => calmCell
  cases hkk : ((nd T k).kind != 1 && (nd T k).kind != 3)
  · have hE := setE_fits (a := (nm, vl)) hm hk hkk
    dsimp only at hE
    cases hx : attrFitsB (nd T k).kind nm vl
    · rw [hx] at hE
      have e1 : setE T k (nm, vl) = 7 := hE
      have e2 : setR T k (nm, vl) = T := by rw [setR, e1]; rfl
      rw [e1, e2]
      clear e1 e2 hE
      have hor : ((nd T k).kind != 1) = false ∨ (((nd T k).kind != 1) = true ∧ ((nd T k).kind != 3) = false) := by
        cases h1 : ((nd T k).kind != 1)
        · exact .inl rfl
        · right
          rw [h1, Bool.true_and] at hkk
          exact ⟨rfl, hkk⟩
      rw [hx] at HF
      clear hkk
      rcases hor with h1 | ⟨h1, h3⟩
      · go_enter Try.func37, Try.ntmps37
        go_wp2_with (first | (go_at_call 29; refine Calls.mono (HMAY.out _) ?_; rintro e w1 ⟨rfl, hb1⟩; have hbb := (HB.out (.cells #[.int .i64 nm, .int .i64 vl] 54)).trans (hb1.mono (by simp)); have g0 := cell_below hbb c0; have q0 := cell_below hb1 HX0.out; have q1 := cell_below hb1 HX1.out; have hbz1 : b < w1.heap.size := below_of_cell g0; have hbx1 : W.heap.size < w1.heap.size := below_of_cell q0) | (go_at_call 30; refine (refIs_any _ _ _ _ _).mono ?_; rw [hi]; rintro e w2 ⟨rfl, hw2⟩; subst hw2))
        refine wp_region_calm (by kernel_rfl) (by kernel_rfl) ?_
        repeat (go_big_quiet_step ((go_at_call 65; refine Calls.mono (HF.out _ _ (Calm.below _)) ?_; rintro e w3 ⟨rfl, hb⟩; exact ⟨rfl, ⟨w3, hb⟩, rfl⟩)))
        refine wpQuiet_nil ?_
        intro _ hw'
        obtain ⟨dq, hw''⟩ := hw'
        subst hw''
        go_wp2_with fail
        go_ret2
        have hfin := hbb.trans (dq.below.mono hbb.size)
        exact ⟨_, rfl, hfin, HT.out.below hfin⟩
      · go_enter Try.func37, Try.ntmps37
        go_wp2_with (first | (go_at_call 29; refine Calls.mono (HMAY.out _) ?_; rintro e w1 ⟨rfl, hb1⟩; have hbb := (HB.out (.cells #[.int .i64 nm, .int .i64 vl] 54)).trans (hb1.mono (by simp)); have g0 := cell_below hbb c0; have q0 := cell_below hb1 HX0.out; have q1 := cell_below hb1 HX1.out; have hbz1 : b < w1.heap.size := below_of_cell g0; have hbx1 : W.heap.size < w1.heap.size := below_of_cell q0) | (go_at_call 30; refine (refIs_any _ _ _ _ _).mono ?_; rw [hi]; rintro e w2 ⟨rfl, hw2⟩; subst hw2))
        refine wp_region_calm (by kernel_rfl) (by kernel_rfl) ?_
        repeat (go_big_quiet_step ((go_at_call 65; refine Calls.mono (HF.out _ _ (Calm.below _)) ?_; rintro e w3 ⟨rfl, hb⟩; exact ⟨rfl, ⟨w3, hb⟩, rfl⟩)))
        refine wpQuiet_nil ?_
        intro _ hw'
        obtain ⟨dq, hw''⟩ := hw'
        subst hw''
        go_wp2_with fail
        go_ret2
        have hfin := hbb.trans (dq.below.mono hbb.size)
        exact ⟨_, rfl, hfin, HT.out.below hfin⟩
    · rw [hx] at hE
      have e1 : setE T k (nm, vl) = 0 := hE
      have e2 : setR T k (nm, vl) = withAttrs T k (putL (nd T k).attrs (nm, vl)) := by rw [setR, e1, Int.toNat_natCast]; rfl
      rw [e1, e2]
      clear e1 e2 hE
      have hor : ((nd T k).kind != 1) = false ∨ (((nd T k).kind != 1) = true ∧ ((nd T k).kind != 3) = false) := by
        cases h1 : ((nd T k).kind != 1)
        · exact .inl rfl
        · right
          rw [h1, Bool.true_and] at hkk
          exact ⟨rfl, hkk⟩
      have HHX := hx
      rw [hx] at HF
      clear hkk
      obtain ⟨aa, ac, rfl⟩ := HN.out.attrs.shape
      have c6 := HN.out.attrsc
      rcases hor with h1 | ⟨h1, h3⟩
      · go_enter Try.func37, Try.ntmps37
        go_wp2_with (first | (go_at_call 29; refine Calls.mono (HMAY.out _) ?_; rintro e w1 ⟨rfl, hb1⟩; have hbb := (HB.out (.cells #[.int .i64 nm, .int .i64 vl] 54)).trans (hb1.mono (by simp)); have g0 := cell_below hbb c0; have q0 := cell_below hb1 HX0.out; have q1 := cell_below hb1 HX1.out; have hbz1 : b < w1.heap.size := below_of_cell g0; have hbx1 : W.heap.size < w1.heap.size := below_of_cell q0) | (go_at_call 30; refine (refIs_any _ _ _ _ _).mono ?_; rw [hi]; rintro e w2 ⟨rfl, hw2⟩; subst hw2))
        refine wp_region_calm (by kernel_rfl) (by kernel_rfl) ?_
        repeat (go_big_quiet_step ((go_at_call 65; refine Calls.mono (HF.out _ _ (Calm.below _)) ?_; rintro e w3 ⟨rfl, hb⟩; exact ⟨rfl, ⟨w3, hb⟩, rfl⟩)))
        refine wpQuiet_nil ?_
        intro _ hw'
        obtain ⟨dq, hw''⟩ := hw'
        subst hw''
        have hfin := hbb.trans (dq.below.mono hbb.size)
        have HFIN := hideG hfin
        have s0 := (calmCell dq W.heap.size 0 hbx1).trans q0
        have s1 := (calmCell dq W.heap.size 1 hbx1).trans q1
        clear hfin
        go_wp2_with (go_at_call 22; refine (refCopy_any T HS.out _ _ (HT.out.below HFIN.out) (by omega)).mono ?_; rintro e w4 ⟨v', kv', av', rfl, ho, hb4⟩; obtain ⟨g, cap', rfl⟩ := ownsRow_some ho.row hpos.1)
        have t0 := cell_below hb4 s0
        have t1 := cell_below hb4 s1
        have hb4W := HFIN.out.trans (hb4.mono HFIN.out.size)
        have m6 := cell_below hb4W c6
        have hoa := ho.attrs k hk
        obtain ⟨aa', ac', hav⟩ := ownsRow_shape hoa
        have k6 : w4.cell? ⟨g, k * 7 + 6, none⟩ = some (.slice aa' (nd T k).attrs.length ac') := by
          rw [ho.row.cellAt (k * 7 + 6) (by omega), rowL_at (by omega), rowCell_at _ _ _ _ _ (by omega), ← hav]; rfl
        have f6 := ho.row.frozenAt (k * 7 + 6)
        have hgl := ho.row.lt g rfl
        have HO := hideG ho
        have HB4 := hideG hb4
        have HB4W := hideG hb4W
        have hWITH : Calls Try.prog 66 #[.slice aa (nd T k).attrs.length ac, .agg #[.int .i64 nm, .int .i64 vl], .bool true] w4.drew fun e w5 => ∃ xa xl xc, e = .returned (.slice xa xl xc) ∧ w5.cell? ⟨g, k * 7 + 6, none⟩ = some (.slice aa' (nd T k).attrs.length ac') ∧ w5.frozen? ⟨g, k * 7 + 6, none⟩ = false ∧
            Hid (w5.ownsRow w4.heap.size 54 2 (.slice xa xl xc) (putL (nd T k).attrs (nm, vl)).length (attrCells (putL (nd T k).attrs (nm, vl))) ∧ Below w4.heap.size w4 w5) := by
          have hd : Below w4.heap.size w4 w4.drew := below_drew (Below.refl _ _)
          refine Calls.mono (refWith_any (nd T k).attrs _ nm vl true w4.drew (HN.out.attrs.below (hb4W.trans (hd.mono hb4W.size))) ha) ?_
          rintro e w5 ⟨v5, rfl, ho5, hb5⟩
          rw [with_put (may_attrs hm hk) (x := (nm, vl)) hx] at ho5
          obtain ⟨xa, xc, rfl⟩ := ownsRow_shape ho5
          have hb5' : Below w4.heap.size w4 w5 := hd.trans hb5
          exact ⟨xa, _, xc, rfl, cell_below hb5' k6, (hb5'.frozen (p := ⟨g, k * 7 + 6, none⟩) hgl.2).trans f6, ho5, hb5'⟩
        have HWITH := hideG hWITH
        have HAV := hideG hav
        clear hWITH ho hb4 hb4W hoa hav
        have hgz := hgl.2
        have hbz4 : b < w4.heap.size := below_of_cell m6
        have hbx4 : W.heap.size < w4.heap.size := below_of_cell t0
        go_region_with (go_at_call 66; refine Calls.mono HWITH.out ?_; rintro e w5 ⟨xa, xl, xc, rfl, d6, e6, HX⟩)
        all_goals
          obtain ⟨hx1, hb5⟩ := HX.out
          have hnew : OwnTree (w5.setCell ⟨g, k * 7 + 6, none⟩ (.slice xa xl xc)) dq.to.heap.size (.slice (some ⟨g, 0, none⟩) T.length cap') (withAttrs T k (putL (nd T k).attrs (nm, vl))) kv' (upd av' k (.slice xa xl xc)) :=
            HO.out.setAttr hk (ownsRow_base hx1 HB4.out.size) (toGrown hb5 _) (fun j e => .inr (hx1.lt j e).1)
          have hB6 : Below W.heap.size W (w5.setCell ⟨g, k * 7 + 6, none⟩ (.slice xa xl xc)) :=
            (HB4W.out.trans (hb5.mono HB4W.out.size)).setCell (p := ⟨g, k * 7 + 6, none⟩) (by have := HFIN.out.size; have := hgl.1; show W.heap.size ≤ g; omega) _
          have HNEW := hideG hnew
          have HB6 := hideG hB6
          clear hnew hB6 hx1 hb5 HX
          go_wp2_with fail
          go_ret2
          exact ⟨_, rfl, HB6.out, HNEW.out.treeAt⟩
      · go_enter Try.func37, Try.ntmps37
        go_wp2_with (first | (go_at_call 29; refine Calls.mono (HMAY.out _) ?_; rintro e w1 ⟨rfl, hb1⟩; have hbb := (HB.out (.cells #[.int .i64 nm, .int .i64 vl] 54)).trans (hb1.mono (by simp)); have g0 := cell_below hbb c0; have q0 := cell_below hb1 HX0.out; have q1 := cell_below hb1 HX1.out; have hbz1 : b < w1.heap.size := below_of_cell g0; have hbx1 : W.heap.size < w1.heap.size := below_of_cell q0) | (go_at_call 30; refine (refIs_any _ _ _ _ _).mono ?_; rw [hi]; rintro e w2 ⟨rfl, hw2⟩; subst hw2))
        refine wp_region_calm (by kernel_rfl) (by kernel_rfl) ?_
        repeat (go_big_quiet_step ((go_at_call 65; refine Calls.mono (HF.out _ _ (Calm.below _)) ?_; rintro e w3 ⟨rfl, hb⟩; exact ⟨rfl, ⟨w3, hb⟩, rfl⟩)))
        refine wpQuiet_nil ?_
        intro _ hw'
        obtain ⟨dq, hw''⟩ := hw'
        subst hw''
        have hfin := hbb.trans (dq.below.mono hbb.size)
        have HFIN := hideG hfin
        have s0 := (calmCell dq W.heap.size 0 hbx1).trans q0
        have s1 := (calmCell dq W.heap.size 1 hbx1).trans q1
        clear hfin
        go_wp2_with (go_at_call 22; refine (refCopy_any T HS.out _ _ (HT.out.below HFIN.out) (by omega)).mono ?_; rintro e w4 ⟨v', kv', av', rfl, ho, hb4⟩; obtain ⟨g, cap', rfl⟩ := ownsRow_some ho.row hpos.1)
        have t0 := cell_below hb4 s0
        have t1 := cell_below hb4 s1
        have hb4W := HFIN.out.trans (hb4.mono HFIN.out.size)
        have m6 := cell_below hb4W c6
        have hoa := ho.attrs k hk
        obtain ⟨aa', ac', hav⟩ := ownsRow_shape hoa
        have k6 : w4.cell? ⟨g, k * 7 + 6, none⟩ = some (.slice aa' (nd T k).attrs.length ac') := by
          rw [ho.row.cellAt (k * 7 + 6) (by omega), rowL_at (by omega), rowCell_at _ _ _ _ _ (by omega), ← hav]; rfl
        have f6 := ho.row.frozenAt (k * 7 + 6)
        have hgl := ho.row.lt g rfl
        have HO := hideG ho
        have HB4 := hideG hb4
        have HB4W := hideG hb4W
        have hWITH : Calls Try.prog 66 #[.slice aa (nd T k).attrs.length ac, .agg #[.int .i64 nm, .int .i64 vl], .bool true] w4.drew fun e w5 => ∃ xa xl xc, e = .returned (.slice xa xl xc) ∧ w5.cell? ⟨g, k * 7 + 6, none⟩ = some (.slice aa' (nd T k).attrs.length ac') ∧ w5.frozen? ⟨g, k * 7 + 6, none⟩ = false ∧
            Hid (w5.ownsRow w4.heap.size 54 2 (.slice xa xl xc) (putL (nd T k).attrs (nm, vl)).length (attrCells (putL (nd T k).attrs (nm, vl))) ∧ Below w4.heap.size w4 w5) := by
          have hd : Below w4.heap.size w4 w4.drew := below_drew (Below.refl _ _)
          refine Calls.mono (refWith_any (nd T k).attrs _ nm vl true w4.drew (HN.out.attrs.below (hb4W.trans (hd.mono hb4W.size))) ha) ?_
          rintro e w5 ⟨v5, rfl, ho5, hb5⟩
          rw [with_put (may_attrs hm hk) (x := (nm, vl)) hx] at ho5
          obtain ⟨xa, xc, rfl⟩ := ownsRow_shape ho5
          have hb5' : Below w4.heap.size w4 w5 := hd.trans hb5
          exact ⟨xa, _, xc, rfl, cell_below hb5' k6, (hb5'.frozen (p := ⟨g, k * 7 + 6, none⟩) hgl.2).trans f6, ho5, hb5'⟩
        have HWITH := hideG hWITH
        have HAV := hideG hav
        clear hWITH ho hb4 hb4W hoa hav
        have hgz := hgl.2
        have hbz4 : b < w4.heap.size := below_of_cell m6
        have hbx4 : W.heap.size < w4.heap.size := below_of_cell t0
        go_region_with (go_at_call 66; refine Calls.mono HWITH.out ?_; rintro e w5 ⟨xa, xl, xc, rfl, d6, e6, HX⟩)
        all_goals
          obtain ⟨hx1, hb5⟩ := HX.out
          have hnew : OwnTree (w5.setCell ⟨g, k * 7 + 6, none⟩ (.slice xa xl xc)) dq.to.heap.size (.slice (some ⟨g, 0, none⟩) T.length cap') (withAttrs T k (putL (nd T k).attrs (nm, vl))) kv' (upd av' k (.slice xa xl xc)) :=
            HO.out.setAttr hk (ownsRow_base hx1 HB4.out.size) (toGrown hb5 _) (fun j e => .inr (hx1.lt j e).1)
          have hB6 : Below W.heap.size W (w5.setCell ⟨g, k * 7 + 6, none⟩ (.slice xa xl xc)) :=
            (HB4W.out.trans (hb5.mono HB4W.out.size)).setCell (p := ⟨g, k * 7 + 6, none⟩) (by have := HFIN.out.size; have := hgl.1; show W.heap.size ≤ g; omega) _
          have HNEW := hideG hnew
          have HB6 := hideG hB6
          clear hnew hB6 hx1 hb5 HX
          go_wp2_with fail
          go_ret2
          exact ⟨_, rfl, HB6.out, HNEW.out.treeAt⟩
  · have e1 : setE T k (nm, vl) = 3 := by rw [setE, faultE, hm, hi, Int.toNat_natCast, hkk]; rfl
    have e2 : setR T k (nm, vl) = T := by rw [setR, e1]; rfl
    rw [e1, e2]
    simp only [Bool.and_eq_true] at hkk
    obtain ⟨h1, h3⟩ := hkk
    clear e1 e2
    go_enter Try.func37, Try.ntmps37
    go_wp2_with (first | (go_at_call 29; refine Calls.mono (HMAY.out _) ?_; rintro e w1 ⟨rfl, hb1⟩; have hbb := (HB.out (.cells #[.int .i64 nm, .int .i64 vl] 54)).trans (hb1.mono (by simp)); have g0 := cell_below hbb c0) | (go_at_call 30; refine (refIs_any _ _ _ _ _).mono ?_; rw [hi]; rintro e w2 ⟨rfl, rfl⟩))
    go_ret2
    exact ⟨_, rfl, hbb, HT.out.below hbb⟩
end Go.Proofs.Ytbfomnkapnlgeaa
