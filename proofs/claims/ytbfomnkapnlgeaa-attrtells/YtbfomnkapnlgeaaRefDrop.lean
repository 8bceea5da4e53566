/- Drop of limelightref02. -/
import Derived.Test.YtbfomnkapnlgeaaRefSet
namespace Go.Proofs.Ytbfomnkapnlgeaa
open Go.RowKit

theorem look_lost_ne {k nm j : Int} (hne : j ≠ nm) : ∀ {l : List (Int × Int)} {last : Int}, attrsFrom k last l = true → (lookL l nm).2 = true → lookL (lostL l nm) j = lookL l j
  | [], _, _, h => by simp [lookL_nil] at h
  | a :: l, last, hl, h => by
    rw [attrsFrom, Bool.and_eq_true] at hl
    rw [lookL_cons] at h
    rw [lostL_cons, lookL_cons]
    by_cases hn : nm ≤ a.1
    · rw [if_pos hn] at h ⊢
      have e : a.1 = nm := by
        by_cases e : a.1 = nm
        · exact e
        · rw [if_neg (by simpa using e)] at h; simp at h
      by_cases hj : j ≤ a.1
      · have hja : ¬ a.1 = j := by omega
        rw [if_pos hj, if_neg (by simpa using hja), look_gone hj hl.2]
      · rw [if_neg hj]
    · rw [if_neg hn] at h ⊢
      rw [lookL_cons, look_lost_ne hne hl.2 h]
theorem with_lost {k : Int} {l : List (Int × Int)} (hl : attrsFrom k (-1) l = true) {nm vl : Int} (hf : (lookL l nm).2 = true) : withTo l (nm, vl) false 10 = lostL l nm := by
  obtain ⟨h1, _, h3⟩ := listOf_spec (k := k) (f := fun j => if (j : Int) == (nm, vl).1 then (if false then some (nm, vl).2 else none) else if (lookL l (j : Int)).2 then some (lookL l (j : Int)).1 else none) (fun j v hv => by
    by_cases e : (j : Int) = nm
    · rw [if_pos (by simpa using e), if_neg (by simp)] at hv
      cases hv
    · rw [if_neg (by simpa using e)] at hv
      cases hk : (lookL l (j : Int)).2
      · rw [hk, if_neg (by simp)] at hv; cases hv
      · rw [hk, if_pos rfl] at hv
        obtain rfl := Option.some.inj hv
        exact look_fits hl hk) 10
  rw [withTo_listOf hl]
  refine ext_nat h1 (attrsFrom_lost hl) (fun j hj => ?_)
  rw [h3 j, if_pos hj]
  by_cases e : (j : Int) = nm
  · rw [if_pos (by simpa using e), if_neg (by simp), e, look_lost hl hf]
  · rw [if_neg (by simpa using e), look_lost_ne e hl hf]
    cases hk : (lookL l (j : Int)).2
    · rw [if_neg (by simp)]
      rw [lookL] at hk ⊢
      split at hk
      · cases hk
      · rename_i h; rw [if_neg h]
    · rw [if_pos rfl]; exact Prod.ext rfl hk.symm

set_option maxRecDepth 100000 in
set_option maxHeartbeats 8000000 in
theorem refDrop_bad (T : List Nd) (hS : Sane T) (v : Value) (n nm : Int) (W : World) (hT : TreeAt W v T) (hf : (faultE T n != 0) = true) :
    Calls Try.prog 39 #[v, .int .i64 n, .int .i64 nm] W fun e w' => ∃ v', e = .returned (.tuple #[v', .int .i64 (dropE T n nm)]) ∧ Below W.heap.size W w' ∧ TreeAt w' v' (dropR T n nm) := by
  have hE : dropE T n nm = faultE T n := by rw [dropE, hf, if_pos rfl]
  have HT := hideG hT
  have HMAY : Hid (Calls Try.prog 29 #[v] W fun e w' => e = .returned (.bool (mayB T)) ∧ Below W.heap.size W w') := by
    have := refMay_any T hS v W hT
    rwa [refMay_eq] at this
  obtain ⟨a, cap, rfl⟩ := hT.shape
  clear hT
  cases hm : mayB T
  · have e1 : dropE T n nm = 1 := by rw [hE, faultE, hm]; rfl
    have e2 : dropR T n nm = [] := by rw [dropR, e1]; rfl
    rw [e1, e2]
    rw [hm] at HMAY
    clear e1 e2 hE hf
    go_enter Try.func39, Try.ntmps39
    go_wp2_with (go_at_call 29; refine Calls.mono HMAY.out ?_; rintro e w1 ⟨rfl, hb1⟩)
    go_ret2
    exact ⟨_, rfl, hb1, treeAt_nil _⟩
  · have hi : isNodeB T.length n = false := by
      cases hi : isNodeB T.length n
      · rfl
      · rw [faultE, hm, hi] at hf; simp at hf
    have e1 : dropE T n nm = 2 := by rw [hE, faultE, hm, hi]; rfl
    have e2 : dropR T n nm = T := by rw [dropR, e1]; rfl
    rw [e1, e2]
    rw [hm] at HMAY
    clear e1 e2 hE hf
    go_enter Try.func39, Try.ntmps39
    go_wp2_with (first | (go_at_call 29; refine Calls.mono HMAY.out ?_; rintro e w1 ⟨rfl, hb1⟩) | (go_at_call 30; refine (refIs_any _ _ _ _ _).mono ?_; rw [hi]; rintro e w2 ⟨rfl, hw2⟩; subst hw2))
    go_ret2
    exact ⟨_, rfl, hb1, HT.out.below hb1⟩

set_option maxRecDepth 100000 in
set_option maxHeartbeats 8000000 in
theorem refDrop_good (T : List Nd) (hS : Sane T) (v : Value) (k : Nat) (nm : Int) (W : World) (hT : TreeAt W v T) (hm : mayB T = true) (hk : k < T.length) (ha : (nd T k).attrs.length ≤ 1000) :
    Calls Try.prog 39 #[v, .int .i64 k, .int .i64 nm] W fun e w' => ∃ v', e = .returned (.tuple #[v', .int .i64 (dropE T k nm)]) ∧ Below W.heap.size W w' ∧ TreeAt w' v' (dropR T k nm) := by
  have hi : isNodeB T.length (k : Int) = true := by simp [isNodeB]; omega
  have HT := hideG hT
  have HS := hideG hS
  have hpos := mayB_pos hm
  have HMAY : Hid (Calls Try.prog 29 #[v] W fun e w' => e = .returned (.bool true) ∧ Below W.heap.size W w') := by
    have := refMay_any T hS v W hT
    rwa [refMay_eq, hm] at this
  have hg : refGetL T k nm = lookL (nd T k).attrs nm := by rw [refGet_eq hm, getL_ok hm hk]
  have HHAS : Hid (∀ w2, Below W.heap.size W w2 → Calls Try.prog 68 #[v, .int .i64 k, .int .i64 nm] w2 fun e w' => e = .returned (.bool (lookL (nd T k).attrs nm).2) ∧ w' = w2) := fun w2 h2 => by
    have := refHas_any T hS v k nm w2 (hT.below h2)
    rwa [hg] at this
  have hfound : (searchL nm (nd T k).attrs).2 = (lookL (nd T k).attrs nm).2 := by
    rw [lookL]; cases (searchL nm (nd T k).attrs).2 <;> rfl
  obtain ⟨b, off, cap, rfl, hc⟩ := hT.at (by omega)
  obtain ⟨kw, aw, hN⟩ := hc k hk
  have HN := hideG hN
  obtain ⟨aa, ac, rfl⟩ := hN.attrs.shape
  have c6 := hN.attrsc
  have hbz : b < W.heap.size := below_of_cell c6
  clear hT hc hN hg
  cases hx : (lookL (nd T k).attrs nm).2
  · have e1 : dropE T k nm = 7 := by rw [dropE, faultE, hm, hi, Int.toNat_natCast, hfound, hx]; rfl
    have e2 : dropR T k nm = T := by rw [dropR, e1]; rfl
    rw [e1, e2]
    rw [hx] at HHAS
    clear e1 e2 hfound
    go_enter Try.func39, Try.ntmps39
    go_wp2_with (first | (go_at_call 29; refine Calls.mono HMAY.out ?_; rintro e w1 ⟨rfl, hb1⟩) | (go_at_call 30; refine (refIs_any _ _ _ _ _).mono ?_; rw [hi]; rintro e w2 ⟨rfl, hw2⟩; subst hw2) | (go_at_call 68; refine Calls.mono (HHAS.out _ hb1) ?_; rintro e w3 ⟨rfl, hw3⟩; subst hw3))
    go_ret2
    exact ⟨_, rfl, hb1, HT.out.below hb1⟩
  · have e1 : dropE T k nm = 0 := by rw [dropE, faultE, hm, hi, Int.toNat_natCast, hfound, hx]; rfl
    have e2 : dropR T k nm = withAttrs T k (lostL (nd T k).attrs nm) := by rw [dropR, e1, Int.toNat_natCast]; rfl
    rw [e1, e2]
    rw [hx] at HHAS
    clear e1 e2 hfound
    go_enter Try.func39, Try.ntmps39
    go_wp2_with (first | (go_at_call 29; refine Calls.mono HMAY.out ?_; rintro e w1 ⟨rfl, hb1⟩) | (go_at_call 30; refine (refIs_any _ _ _ _ _).mono ?_; rw [hi]; rintro e w2 ⟨rfl, hw2⟩; subst hw2) | (go_at_call 68; refine Calls.mono (HHAS.out _ hb1) ?_; rintro e w3 ⟨rfl, hw3⟩; subst hw3) | (go_at_call 22; refine (refCopy_any T HS.out _ _ (HT.out.below hb1) (by omega)).mono ?_; rintro e w4 ⟨v', kv', av', rfl, ho, hb4⟩; obtain ⟨g, cap', rfl⟩ := ownsRow_some ho.row hpos.1; have hb4W := hb1.trans (hb4.mono hb1.size); have m6 := cell_below hb4W c6; have HO := hideG ho; have HB4 := hideG hb4; have HB4W := hideG hb4W; clear ho hb4 hb4W))
    have ho := HO.out
    have hoa := ho.attrs k hk
    obtain ⟨aa', ac', hav⟩ := ownsRow_shape hoa
    have k6 : w4.cell? ⟨g, k * 7 + 6, none⟩ = some (.slice aa' (nd T k).attrs.length ac') := by
      rw [ho.row.cellAt (k * 7 + 6) (by omega), rowL_at (by omega), rowCell_at _ _ _ _ _ (by omega), ← hav]; rfl
    have f6 := ho.row.frozenAt (k * 7 + 6)
    have hgl := ho.row.lt g rfl
    refine Calls.mono (refWith_any (nd T k).attrs _ nm 0 false w4 (HN.out.attrs.below HB4W.out) ha) ?_
    rintro e w5 ⟨v5, rfl, ho5, hb5⟩
    rw [with_lost (may_attrs hm hk) hx] at ho5
    obtain ⟨xa, xc, rfl⟩ := ownsRow_shape ho5
    have d6 := cell_below hb5 k6
    have e6 := (hb5.frozen (p := ⟨g, k * 7 + 6, none⟩) hgl.2).trans f6
    have hnew : OwnTree (w5.setCell ⟨g, k * 7 + 6, none⟩ (.slice xa (lostL (nd T k).attrs nm).length xc)) _ (.slice (some ⟨g, 0, none⟩) T.length cap') (withAttrs T k (lostL (nd T k).attrs nm)) kv' (upd av' k (.slice xa (lostL (nd T k).attrs nm).length xc)) :=
      HO.out.setAttr hk (ownsRow_base ho5 HB4.out.size) (toGrown hb5 _) (fun j e => .inr (ho5.lt j e).1)
    have hB6 : Below W.heap.size W (w5.setCell ⟨g, k * 7 + 6, none⟩ (.slice xa (lostL (nd T k).attrs nm).length xc)) :=
      (HB4W.out.trans (hb5.mono HB4W.out.size)).setCell (p := ⟨g, k * 7 + 6, none⟩) (by have := hb1.size; have := hgl.1; show W.heap.size ≤ g; omega) _
    have HNEW := hideG hnew
    have HB6 := hideG hB6
    clear hnew hB6 ho5 hb5 ho hoa hav
    go_wp2_with fail
    go_ret2
    exact ⟨_, rfl, HB6.out, HNEW.out.treeAt⟩

theorem refSet_any (T : List Nd) (hS : Sane T) (v : Value) (n nm vl : Int) (W : World) (hT : TreeAt W v T) (hal : ∀ m, m < T.length → (nd T m).attrs.length ≤ 1000) :
    Calls Try.prog 37 #[v, .int .i64 n, .agg #[.int .i64 nm, .int .i64 vl]] W fun e w' => ∃ v', e = .returned (.tuple #[v', .int .i64 (setE T n (nm, vl))]) ∧ Below W.heap.size W w' ∧ TreeAt w' v' (setR T n (nm, vl)) := by
  cases hf : (faultE T n != 0)
  · obtain ⟨hm, k, rfl, hk⟩ := faultE_zero hf
    exact refSet_good T hS v k nm vl W hT hm hk (hal k hk)
  · exact refSet_bad T hS v n nm vl W hT hf
theorem refDrop_any (T : List Nd) (hS : Sane T) (v : Value) (n nm : Int) (W : World) (hT : TreeAt W v T) (hal : ∀ m, m < T.length → (nd T m).attrs.length ≤ 1000) :
    Calls Try.prog 39 #[v, .int .i64 n, .int .i64 nm] W fun e w' => ∃ v', e = .returned (.tuple #[v', .int .i64 (dropE T n nm)]) ∧ Below W.heap.size W w' ∧ TreeAt w' v' (dropR T n nm) := by
  cases hf : (faultE T n != 0)
  · obtain ⟨hm, k, rfl, hk⟩ := faultE_zero hf
    exact refDrop_good T hS v k nm W hT hm hk (hal k hk)
  · exact refDrop_bad T hS v n nm W hT hf
end Go.Proofs.Ytbfomnkapnlgeaa
