/- The document's own For and Drop of listeners. The document's own run of an event, as it lies in memory; its small functions. The document's own Next. The document's own All. -/
import Derived.Test.YtpmacpbhdgigfaaGreatHear7
import Derived.Test.YtpmacpbhdgigfaaGreatFireRun
import Derived.Test.YtpmacpbhdgigfaaGreatAimR
namespace Go.Proofs.YtpmacpbhdgigfaaGreat.L8
open Go.RowKit

set_option maxRecDepth 100000 in
set_option maxHeartbeats 4000000 in
theorem refFor_any (l : List Hr) (n kd : Int) (cp : Bool) (v : Value) (w : World) (hL : HearsAt w v l) (hl : l.length ≤ 1000000) :
    Calls Tryz.prog 133 #[v, .int .i64 n, .int .i64 kd, .bool cp] w fun x w' => ∃ a c, x = .returned (.slice a (forL l n kd cp).length c) ∧ w'.ownsRow w.heap.size 35 5 (.slice a (forL l n kd cp).length c) (forL l n kd cp).length (hearCells (forL l n kd cp)) ∧ Below w.heap.size w w' := by
  obtain ⟨i0, hi0, hz0, hz1, hz2⟩ := info_parts infoT24
  obtain ⟨a, cap, rfl, hc⟩ := hL
  have HC := hideG hc.2
  clear hc
  go_enter Tryz.func133, Tryz.ntmps133
  go_wp2_with fail
  go_loopw [9, 10] (fun o i wr => ∃ (k : Nat) (oa : Option Addr) (oc : Nat), k ≤ l.length ∧ i = .int .i64 k ∧ o = .slice oa ((l.take k).filter (hearsP n kd cp)).length oc ∧ wr.ownsRow w.heap.size 35 5 (.slice oa ((l.take k).filter (hearsP n kd cp)).length oc) ((l.take k).filter (hearsP n kd cp)).length (hearCells ((l.take k).filter (hearsP n kd cp))) ∧ Below w.heap.size w wr) (fun _ i _ => l.length - (intOf i).toNat)
  case atStart => exact ⟨0, none, 0, Nat.zero_le _, rfl, by simp, World.ownsRow_nil _ _ _ _, Below.refl _ _⟩
  case round =>
    obtain ⟨k, oa, oc, hk, rfl, rfl, hown, hB⟩ := hrel
    have HOW := hideG hown
    have HB := hideG hB
    clear hown hB
    by_cases hlt : k < l.length
    · obtain ⟨b, off, rfl, hd⟩ := HC.out (by omega)
      have hH := (hd k hlt).below HB.out
      have HT := hideG (filter_takeH hlt (hearsP n kd cp))
      have hfl := filter_takeH_le l k (hearsP n kd cp)
      generalize l.getD k hrD = x at *
      have c0 := hH.node
      have c1 := hH.type
      have c2 := hH.cap
      have c3 := hH.once
      have c4 := hH.prog
      have hbl : b < wr.heap.size := below_of_cell c0
      have hk0 : (0 : Int) ≤ (k : Int) := by omega
      clear hd hH
      cases h1 : (x.node == n)
      · have HE := hideG (show (l.take (k + 1)).filter (hearsP n kd cp) = (l.take k).filter (hearsP n kd cp) by rw [HT.out, show hearsP n kd cp x = false by simp [hearsP, h1]]; simp)
        go_wp2_with fail
        go_roundw
        case rel => exact ⟨k + 1, oa, oc, by omega, by go_num, by rw [HE.out], by rw [HE.out]; exact HOW.out, HB.out⟩
        case measure => simp [intOf]; omega
      · cases h2 : (x.type == kd)
        · have HE := hideG (show (l.take (k + 1)).filter (hearsP n kd cp) = (l.take k).filter (hearsP n kd cp) by rw [HT.out, show hearsP n kd cp x = false by simp [hearsP, h2]]; simp)
          go_wp2_with fail
          go_roundw
          case rel => exact ⟨k + 1, oa, oc, by omega, by go_num, by rw [HE.out], by rw [HE.out]; exact HOW.out, HB.out⟩
          case measure => simp [intOf]; omega
        · cases h3 : (x.cap == cp)
          · have HE := hideG (show (l.take (k + 1)).filter (hearsP n kd cp) = (l.take k).filter (hearsP n kd cp) by rw [HT.out, show hearsP n kd cp x = false by simp [hearsP, h3]]; simp)
            go_wp2_with fail
            go_roundw
            case rel => exact ⟨k + 1, oa, oc, by omega, by go_num, by rw [HE.out], by rw [HE.out]; exact HOW.out, HB.out⟩
            case measure => simp [intOf]; omega
          · have HE := hideG (show (l.take (k + 1)).filter (hearsP n kd cp) = (l.take k).filter (hearsP n kd cp) ++ [x] by rw [HT.out, show hearsP n kd cp x = true by simp [hearsP, h1, h2, h3]]; simp)
            generalize (l.take k).filter (hearsP n kd cp) = cur at *
            go_wp2_with (at_builtin; refine wpList_append_any rfl (.tmp 42) (.tmp 47) 26 rfl w.heap.size 35 i0 _ 5 32 Tryz.underlying26 hi0 hz0 hz1 hz2 rfl (by decide) _ cur.length (hearCells cur) rfl (HOW.out.alloc _) _ 1 [.int .i64 x.node, .int .i64 x.type, .bool x.cap, .bool x.once, .int .i64 x.prog] rfl (row_newH _ x) rfl ?h2 ?h3 ?h4 ?h5 ?_)
            case h2 => intro y hy; simp at hy; rcases hy with rfl | rfl | rfl | rfl | rfl <;> rfl
            case h3 => simp only [maxLen]; omega
            case h4 => omega
            case h5 => have := HB.out.size; simp; omega
            intro v4 w4 ho4 hg4 hf4
            obtain ⟨a4, c4, rfl⟩ := ownsRow_shape ho4
            have ec : hearCells cur ++ [.int .i64 x.node, .int .i64 x.type, .bool x.cap, .bool x.once, .int .i64 x.prog] = hearCells (cur ++ [x]) := by rw [hearCells_append]; rfl
            rw [ec] at ho4
            have HB4 := hideG ((HB.out.alloc HB.out.size (.cells #[.int .i64 x.node, .int .i64 x.type, .bool x.cap, .bool x.once, .int .i64 x.prog] 35)).grown hg4 (by have := HB.out.size; simp at this ⊢; omega) (fun j e => (HOW.out.lt j e).1))
            have hl4 : ((l.take (k + 1)).filter (hearsP n kd cp)).length = cur.length + 1 := by rw [HE.out]; simp
            have HL4 := hideG hl4
            have HO4 := hideG ho4
            clear ho4 hg4 hf4 hl4 ec
            go_wp2_with fail
            go_roundw
            case rel => exact ⟨k + 1, a4, c4, by omega, by go_num, by rw [HL4.out], by rw [HL4.out, HE.out]; exact HO4.out, HB4.out⟩
            case measure => simp [intOf]; omega
    · have hke : l.take k = l := List.take_of_length_le (by omega)
      rw [hke] at HOW ⊢
      go_wp2_with fail
      go_ret
      exact ⟨oa, oc, rfl, HOW.out, HB.out⟩


theorem cut_take {l : List Hr} {k q : Nat} (h : k < l.length) : cutL (l.take (k + 1)) q = cutL (l.take k) q ++ (if k = q then [] else [l.getD k hrD]) := by
  have hg : l.getD k hrD = l[k] := by rw [List.getD_eq_getElem?_getD, List.getElem?_eq_getElem h]; rfl
  rw [List.take_succ_eq_append_getElem h, hg]
  unfold cutL
  have hlk : (l.take k).length = k := by rw [List.length_take]; omega
  rcases Nat.lt_trichotomy k q with hk | hk | hk
  · have e1 : (l.take k ++ [l[k]]).take q = l.take k ++ [l[k]] := List.take_of_length_le (by rw [List.length_append, hlk]; simp; omega)
    have e2 : (l.take k ++ [l[k]]).drop (q + 1) = [] := List.drop_of_length_le (by rw [List.length_append, hlk]; simp; omega)
    have e3 : (l.take k).take q = l.take k := List.take_of_length_le (by omega)
    have e4 : (l.take k).drop (q + 1) = [] := List.drop_of_length_le (by omega)
    rw [if_neg (by omega), e1, e2, e3, e4]
    simp
  · subst hk
    have e1 : (l.take k ++ [l[k]]).take k = l.take k := by rw [List.take_append_of_le_length (by omega)]; exact List.take_of_length_le (by omega)
    have e2 : (l.take k ++ [l[k]]).drop (k + 1) = [] := List.drop_of_length_le (by rw [List.length_append, hlk]; simp)
    have e3 : (l.take k).take k = l.take k := List.take_of_length_le (by omega)
    have e4 : (l.take k).drop (k + 1) = [] := List.drop_of_length_le (by omega)
    rw [if_pos rfl, e1, e2, e3, e4]
    simp
  · rw [if_neg (by omega), List.take_append_of_le_length (by omega), List.drop_append_of_le_length (by omega), List.append_assoc]

set_option maxRecDepth 100000 in
set_option maxHeartbeats 4000000 in
theorem refDrop_any (l : List Hr) (h : Hr) (v : Value) (w : World) (hL : HearsAt w v l) (hl : l.length ≤ 100000) :
    Calls Tryz.prog 76 #[v, .agg #[.int .i64 h.node, .int .i64 h.type, .bool h.cap, .bool h.once, .int .i64 h.prog]] w fun x w' => ∃ a c, x = .returned (.tuple #[.slice a (dropL l h).length c, .int .i64 (dropE l h)]) ∧ HearsAt w' (.slice a (dropL l h).length c) (dropL l h) ∧ Below w.heap.size w w' ∧ (∀ q, a = some q → q.block < w.heap.size → .slice a (dropL l h).length c = v) := by
  obtain ⟨i0, hi0, hz0, hz1, hz2⟩ := info_parts infoT24
  have h6 : l.length ≤ 1000000 := by omega
  have HL := hideG hL
  obtain ⟨a, cap, rfl⟩ := hL.shape
  obtain ⟨W0, hW0⟩ : ∃ W0, w.alloc (.cells #[.int .i64 h.node, .int .i64 h.type, .bool h.cap, .bool h.once, .int .i64 h.prog] 35) = W0 := ⟨_, rfl⟩
  have HH : Hid (HearAt W0 w.heap.size 0 h) := by rw [← hW0]; exact ⟨by simp, by simp, by simp, by simp, by simp⟩
  have HB0 := hideG (show Below w.heap.size w W0 by rw [← hW0]; exact (Below.refl _ w).alloc (Nat.le_refl _) _)
  have HW0 := hideG hW0
  clear hL hW0
  cases hm : mayH h
  · have hq1 : dropL l h = l := by simp [dropL, hm]
    have hq2 : dropE l h = 1 := by simp [dropE, hm]
    rw [hq1, hq2]
    have HM := hideG hm
    clear hm hq1 hq2
    go_enter Tryz.func76, Tryz.ntmps76
    go_wp2_with fail
    rw [HW0.out]
    refine (refMay_any h _).mono ?_
    rintro e w1 ⟨rfl, hb1⟩
    rw [HM.out]
    have HB1 := hideG (HB0.out.trans (hb1.mono HB0.out.size))
    have HG := hideG (HH.out.below hb1)
    have h0 := HG.out.node
    have h1 := HG.out.type
    have h2 := HG.out.cap
    have h3 := HG.out.once
    have h4 := HG.out.prog
    clear hb1
    go_wp2_with fail
    go_ret2
    exact ⟨a, cap, rfl, HL.out.below HB1.out, HB1.out, fun _ _ _ => rfl⟩
  · have HM := hideG hm
    cases hh : hasB l h
    · have EF := hideG (show findI l h = -1 by rw [findI_has, hh]; rfl)
      have hq1 : dropL l h = l := by simp [dropL, hm, hh]
      have hq2 : dropE l h = 9 := by simp [dropE, hm, hh]
      rw [hq1, hq2]
      clear hm hh hq1 hq2
      go_enter Tryz.func76, Tryz.ntmps76
      go_wp2_with fail
      rw [HW0.out]
      refine (refMay_any h _).mono ?_
      rintro e w1 ⟨rfl, hb1⟩
      rw [HM.out]
      have HB1 := hideG (HB0.out.trans (hb1.mono HB0.out.size))
      have HG := hideG (HH.out.below hb1)
      have h0 := HG.out.node
      have h1 := HG.out.type
      have h2 := HG.out.cap
      have h3 := HG.out.once
      have h4 := HG.out.prog
      clear hb1
      go_wp2_with fail
      refine (refPlace_any l h _ _ (HL.out.below HB1.out) h6).mono ?_
      rintro e w2 ⟨rfl, hb2⟩
      rw [EF.out]
      have HB2 := hideG (HB1.out.trans (hb2.mono HB1.out.size))
      clear hb2 h0 h1 h2 h3 h4
      go_wp2_with fail
      go_ret2
      exact ⟨a, cap, rfl, HL.out.below HB2.out, HB2.out, fun _ _ _ => rfl⟩
    · have EF := hideG (show findI l h = (findL h l : Int) by rw [findI_has, hh]; rfl)
      have hfl : findL h l < l.length := by simpa [hasB] using hh
      have hq1 : dropL l h = cutL l (findL h l) := by simp [dropL, hm, hh]
      have hq2 : dropE l h = 0 := by simp [dropE, hm, hh]
      rw [hq1, hq2]
      clear hm hh hq1 hq2
      generalize findL h l = q at *
      have hq0 : (0 : Int) ≤ (q : Int) := by omega
      have hqn : ¬ ((q : Int) < 0) := by omega
      obtain ⟨a', cap', hv', hcap', hc'⟩ := HL.out
      simp only [Value.slice.injEq, true_and] at hv'
      obtain ⟨rfl, rfl⟩ := hv'
      have HC := hideG hc'
      clear hc' hcap'
      go_enter Tryz.func76, Tryz.ntmps76
      go_wp2_with fail
      rw [HW0.out]
      refine (refMay_any h _).mono ?_
      rintro e w1 ⟨rfl, hb1⟩
      rw [HM.out]
      have HB1 := hideG (HB0.out.trans (hb1.mono HB0.out.size))
      have HG := hideG (HH.out.below hb1)
      have h0 := HG.out.node
      have h1 := HG.out.type
      have h2 := HG.out.cap
      have h3 := HG.out.once
      have h4 := HG.out.prog
      clear hb1
      go_wp2_with fail
      refine (refPlace_any l h _ _ (HL.out.below HB1.out) h6).mono ?_
      rintro e w2 ⟨rfl, hb2⟩
      rw [EF.out]
      have HB2 := hideG (HB1.out.trans (hb2.mono HB1.out.size))
      clear hb2 h0 h1 h2 h3 h4
      go_wp2_with fail
      have HBW := HB2
      go_loopw [7, 8] (fun o i wr => ∃ (k : Nat) (oa : Option Addr) (oc : Nat), k ≤ l.length ∧ i = .int .i64 k ∧ o = .slice oa (cutL (l.take k) q).length oc ∧ wr.ownsRow w2.heap.size 35 5 (.slice oa (cutL (l.take k) q).length oc) (cutL (l.take k) q).length (hearCells (cutL (l.take k) q)) ∧ Below w2.heap.size w2 wr) (fun _ i _ => l.length - (intOf i).toNat)
      case atStart => exact ⟨0, none, 0, Nat.zero_le _, rfl, by simp [cutL], by rw [show cutL (l.take 0) q = [] by simp [cutL]]; exact World.ownsRow_nil _ _ _ _, Below.refl _ _⟩
      case round =>
        obtain ⟨k, oa, oc, hk, rfl, rfl, hown, hB⟩ := hrel
        have HOW := hideG hown
        have HB := hideG hB
        clear hown hB
        by_cases hlt : k < l.length
        · obtain ⟨b, off, rfl, hd⟩ := HC.out (by omega)
          have hH := ((hd k hlt).below HBW.out).below HB.out
          have HT := hideG (cut_take (q := q) hlt)
          have hfl2 : (cutL (l.take k) q).length ≤ l.length := by unfold cutL; simp; omega
          generalize l.getD k hrD = x at *
          have c0 := hH.node
          have c1 := hH.type
          have c2 := hH.cap
          have c3 := hH.once
          have c4 := hH.prog
          have hk0 : (0 : Int) ≤ (k : Int) := by omega
          clear hd hH
          by_cases hkq : k = q
          · have hne : ((k : Int) != (q : Int)) = false := by simp [hkq]
            have HE := hideG (show cutL (l.take (k + 1)) q = cutL (l.take k) q by rw [HT.out, if_pos hkq]; simp)
            clear hkq
            go_wp2_with fail
            go_roundw
            case rel => exact ⟨k + 1, oa, oc, by omega, by go_num, by rw [HE.out], by rw [HE.out]; exact HOW.out, HB.out⟩
            case measure => simp [intOf]; omega
          · have hne : ((k : Int) != (q : Int)) = true := by simp; omega
            have HE := hideG (show cutL (l.take (k + 1)) q = cutL (l.take k) q ++ [x] by rw [HT.out, if_neg hkq])
            clear hkq HT
            generalize cutL (l.take k) q = cur at *
            go_wp2_with (at_builtin; refine wpList_append_any rfl (.tmp 28) (.tmp 33) 26 rfl w2.heap.size 35 i0 _ 5 32 Tryz.underlying26 hi0 hz0 hz1 hz2 rfl (by decide) _ cur.length (hearCells cur) rfl (HOW.out.alloc _) _ 1 [.int .i64 x.node, .int .i64 x.type, .bool x.cap, .bool x.once, .int .i64 x.prog] rfl (row_newH _ x) rfl ?h2 ?h3 ?h4 ?h5 ?_)
            case h2 => intro y hy; simp at hy; rcases hy with rfl | rfl | rfl | rfl | rfl <;> rfl
            case h3 => simp only [maxLen]; omega
            case h4 => omega
            case h5 => have := HB.out.size; simp; omega
            intro v4 w4 ho4 hg4 hf4
            obtain ⟨a4, c4, rfl⟩ := ownsRow_shape ho4
            have ec : hearCells cur ++ [.int .i64 x.node, .int .i64 x.type, .bool x.cap, .bool x.once, .int .i64 x.prog] = hearCells (cur ++ [x]) := by rw [hearCells_append]; rfl
            rw [ec] at ho4
            have HB4 := hideG ((HB.out.alloc HB.out.size (.cells #[.int .i64 x.node, .int .i64 x.type, .bool x.cap, .bool x.once, .int .i64 x.prog] 35)).grown hg4 (by have := HB.out.size; simp at this ⊢; omega) (fun j e => (HOW.out.lt j e).1))
            have hl4 : (cutL (l.take (k + 1)) q).length = cur.length + 1 := by rw [HE.out]; simp
            have HL4 := hideG hl4
            have HO4 := hideG ho4
            clear ho4 hg4 hf4 hl4 ec
            go_wp2_with fail
            go_roundw
            case rel => exact ⟨k + 1, a4, c4, by omega, by go_num, by rw [HL4.out], by rw [HL4.out, HE.out]; exact HO4.out, HB4.out⟩
            case measure => simp [intOf]; omega
        · have hke : l.take k = l := List.take_of_length_le (by omega)
          rw [hke] at HOW ⊢
          have HHR := hideG (ownsRow_hears HOW.out)
          go_wp2_with fail
          go_ret2
          exact ⟨oa, oc, rfl, HHR.out, HBW.out.trans (HB.out.mono HBW.out.size), fun z e hz => absurd (HOW.out.lt z.block (by rw [e]; rfl)).1 (by have := HBW.out.size; omega)⟩
end Go.Proofs.YtpmacpbhdgigfaaGreat.L8
namespace Go.Proofs.YtpmacpbhdgigfaaGreat
open Go.RowKit
open L8 (Hr hrD HearAt HearsAt forL hearsP hearCells dropL)

/-- What of the document's own run is read: its cells, its lists. -/
structure RefAt (w : World) (b : Nat) (k : Int) (LF : List Vi) (CU : Vi) (WT : List Hr) (lv wv : Value) : Prop where
  kind : w.cell? ⟨b, 0, none⟩ = some (.int .i64 k)
  left : w.cell? ⟨b, 6, none⟩ = some lv
  cur : ViAt w b 7 CU
  wait : w.cell? ⟨b, 12, none⟩ = some wv
  stop : w.cell? ⟨b, 13, none⟩ = some (.bool false)
  lefts : VisAt w lv LF
  waits : HearsAt w wv WT
def RefOk (w : World) (b : Nat) (D : Nat → Prop) (k : Int) (left : List Vi) (cur : Vi) (wait : List Hr) : Prop := ∃ lv wv, RefAt w b k left cur wait lv wv ∧ (∀ j, j < 15 → w.frozen? ⟨b, j, none⟩ = false) ∧ (Off b lv ∧ Off b wv) ∧ OffD D lv ∧ OffD D wv
section
variable {w w' : World} {b : Nat} {D D' : Nat → Prop} {k : Int} {left : List Vi} {cur : Vi} {wait : List Hr}
theorem RefOk.below (h : RefOk w b D k left cur wait) (hb : Below w.heap.size w w') : RefOk w' b D k left cur wait := by
  obtain ⟨lv, wv, r, hf, h1⟩ := h
  have hl : b < w.heap.size := below_of_cell r.kind
  exact ⟨lv, wv, ⟨cell_below hb r.kind, cell_below hb r.left, r.cur.below hb, cell_below hb r.wait, cell_below hb r.stop, r.lefts.below hb, r.waits.below hb⟩, fun j hj => (hb.frozen (p := ⟨b, j, none⟩) hl).trans (hf j hj), h1⟩
theorem RefOk.lt (h : RefOk w b D k left cur wait) : b < w.heap.size := by
  obtain ⟨lv, wv, r, _⟩ := h
  exact below_of_cell r.kind
theorem RefOk.fresh (h : RefOk w b D k left cur wait) (hd : ∀ d, D' d → D d ∨ w.heap.size ≤ d) : RefOk w b D' k left cur wait := by
  obtain ⟨lv, wv, hr, hf, h1, h2, h3⟩ := h
  refine ⟨lv, wv, hr, hf, h1, fun d q => ?_, fun d q => ?_⟩
  · rcases hd d q with q | q
    · exact h2 d q
    · exact Off.vis hr.lefts q
  · rcases hd d q with q | q
    · exact h3 d q
    · exact Off.hears hr.waits q
theorem RefOk.sub (h : RefOk w b D k left cur wait) (hd : ∀ d, D' d → D d) : RefOk w b D' k left cur wait := h.fresh (fun d q => .inl (hd d q))
theorem RefOk.turn {d : Nat} (h : RefOk w b D k left cur wait) (ht : Turn d w w') (hd : D d) (hne : b ≠ d) : RefOk w' b D k left cur wait := by
  obtain ⟨lv, wv, hr, hf, h1, h2, h3⟩ := h
  have hl : b < w.heap.size := below_of_cell hr.kind
  refine ⟨lv, wv, ⟨ht.cell hr.kind hne, ht.cell hr.left hne, ViAt_turn hr.cur ht hne, ht.cell hr.wait hne, ht.cell hr.stop hne, VisAt_turn hr.lefts ht (h2 d hd), HearsAt_turn hr.waits ht (h3 d hd)⟩, fun j hj => ?_, h1, h2, h3⟩
  have e := ht.block b hl hne
  unfold World.frozen? at hf ⊢
  simp only [e]
  exact hf j hj
theorem RefOk.grown {row : Option Nat} (h : RefOk w b D k left cur wait) (hg : w.grownBy w' row) (hd : ∀ k, row = some k → D k ∧ k ≠ b) : RefOk w' b D k left cur wait := by
  obtain ⟨lv, wv, hr, hf, h1, h2, h3⟩ := h
  have hne : row ≠ some b := fun e => (hd b e).2 rfl
  have hl : b < w.heap.size := below_of_cell hr.kind
  exact ⟨lv, wv, ⟨grown_cell hg hr.kind hne, grown_cell hg hr.left hne, ⟨grown_cell hg hr.cur.node hne, grown_cell hg hr.cur.tg hne, grown_cell hg hr.cur.rel hne, grown_cell hg hr.cur.phase hne, grown_cell hg hr.cur.cap hne⟩, grown_cell hg hr.wait hne, grown_cell hg hr.stop hne, vis_grown hg hr.lefts (fun k e => h2 k (hd k e).1), hears_grown hg hr.waits (fun k e => h3 k (hd k e).1)⟩, fun j hj => grown_frz hg hl (hf j hj) hne, h1, h2, h3⟩
end

set_option maxRecDepth 100000 in
set_option maxHeartbeats 4000000 in
theorem refThere_any (l : List Hr) (h : Hr) (v : Value) (w : World) (hL : HearsAt w v l) (hl : l.length ≤ 100000) :
    Calls Tryz.prog 134 #[v, .agg #[.int .i64 h.node, .int .i64 h.type, .bool h.cap, .bool h.once, .int .i64 h.prog]] w fun x w' => x = .returned (.bool (amongB l h)) ∧ Below w.heap.size w w' := by
  obtain ⟨va, vc, rfl⟩ := hL.shape
  obtain ⟨W0, hW0⟩ : ∃ W0, w.alloc (.cells #[.int .i64 h.node, .int .i64 h.type, .bool h.cap, .bool h.once, .int .i64 h.prog] 35) = W0 := ⟨_, rfl⟩
  have HB0 := hideG (show Below w.heap.size w W0 by rw [← hW0]; exact (Below.refl _ w).alloc (Nat.le_refl _) _)
  have p0 : W0.cell? ⟨w.heap.size, 0, none⟩ = some (.int .i64 h.node) := by rw [← hW0]; simp
  have p1 : W0.cell? ⟨w.heap.size, 1, none⟩ = some (.int .i64 h.type) := by rw [← hW0]; simp
  have p2 : W0.cell? ⟨w.heap.size, 2, none⟩ = some (.bool h.cap) := by rw [← hW0]; simp
  have P4 := hideG (show W0.cell? ⟨w.heap.size, 4, none⟩ = some (.int .i64 h.prog) by rw [← hW0]; simp)
  have HF := hideG (L8.refFor_any l h.node h.type h.cap (.slice va l.length vc) W0 (hL.below HB0.out) (by omega))
  have HW0 := hideG hW0
  have HAM := hideG (show amongB l h = ((forL l h.node h.type h.cap).any fun o => o.prog == h.prog) from rfl)
  have hfl := forL_le l h.node h.type h.cap
  clear hL hW0
  go_enter Tryz.func134, Tryz.ntmps134
  go_wp2_with fail
  rw [HW0.out]
  refine HF.out.mono ?_
  rintro ex w1 ⟨fa, fc, rfl, ho1, hb1⟩
  generalize forL l h.node h.type h.cap = F at *
  have HB1 := hideG (HB0.out.trans (hb1.mono HB0.out.size))
  have HX1 := hideG hb1
  have HFA := hideG (L8.ownsRow_hears ho1)
  clear ho1 hb1 p0 p1 p2
  go_wp2_with fail
  go_loopw [6] (fun i wr => ∃ k : Nat, k ≤ F.length ∧ i = .int .i64 (k : Int) ∧ (∀ j, j < k → ((F.getD j hrD).prog == h.prog) = false) ∧ Below w1.heap.size w1 wr) (fun i _ => F.length - (intOf i).toNat)
  case atStart => exact ⟨0, Nat.zero_le _, rfl, fun j hj => by omega, Below.refl _ _⟩
  case round =>
    obtain ⟨k, hk, rfl, hno, hB⟩ := hrel
    have HNO := hideG hno
    have HB := hideG hB
    have p4 := cell_below (HX1.out.trans (hB.mono HX1.out.size)) P4.out
    have hwr : w.heap.size < wr.heap.size := below_of_cell p4
    clear hno hB
    by_cases hlt : k < F.length
    · obtain ⟨a', c', he, hd⟩ := HFA.out
      injection he with q1 q2 q3
      subst q1
      subst q3
      clear q2
      obtain ⟨b, off, rfl, hd'⟩ := hd.2 (by omega)
      have hH := (hd' k hlt).below HB.out
      generalize hx : F.getD k hrD = x at *
      have HX := hideG hx
      have c4 := hH.prog
      have hk0 : (0 : Int) ≤ (k : Int) := by omega
      have hbb : b < wr.heap.size := below_of_cell c4
      have hcc : ∀ (d : Calm wr) (b o : Nat), b < wr.heap.size → d.to.cell? ⟨b, o, none⟩ = wr.cell? ⟨b, o, none⟩ := calmCell
      clear hd hd' hH hx
      cases hp : (x.prog == h.prog)
      · have HP := hideG hp
        go_wp2_with fail
        refine wp_region_calm (by kernel_rfl) (by kernel_rfl) ?_
        repeat (go_big_quiet_step (fail))
        refine wpQuiet_nil ?_
        intro _ hw'
        obtain ⟨dq, hw''⟩ := hw'
        subst hw''
        have HB9 := hideG (HB.out.trans (dq.below.mono HB.out.size))
        generalize dq.to = wd at *
        clear dq hcc c4 p4
        go_wp2_with fail
        go_roundw
        case rel => exact ⟨k + 1, by omega, by go_num, fun j hj => by
          by_cases e : j = k
          · subst e; rw [HX.out]; exact HP.out
          · exact HNO.out j (by omega), HB9.out⟩
        case measure => simp [intOf]; omega
      · have HQ := hideG (show amongB l h = true by rw [HAM.out]; exact any_hit hlt (by rw [HX.out]; exact hp))
        go_wp2_with fail
        refine wp_region_calm (by kernel_rfl) (by kernel_rfl) ?_
        repeat (go_big_quiet_step (fail))
        refine wpQuiet_nil ?_
        intro _ hw'
        obtain ⟨dq, hw''⟩ := hw'
        subst hw''
        have HB9 := hideG (HB.out.trans (dq.below.mono HB.out.size))
        generalize dq.to = wd at *
        clear dq hcc c4 p4
        go_wp2_with fail
        go_ret
        exact ⟨ret_bool HQ.out.symm, HB1.out.trans (HB9.out.mono HB1.out.size)⟩
    · have HQ := hideG (show amongB l h = false by rw [HAM.out]; exact any_miss (fun j hj => HNO.out j (by omega)))
      go_wp2_with fail
      go_ret
      exact ⟨ret_bool HQ.out.symm, HB1.out.trans (HB.out.mono HB1.out.size)⟩

set_option maxRecDepth 100000 in
set_option maxHeartbeats 4000000 in
theorem refNewNone_any (T : List Nd) (hS : Sane T) (v : Value) (e : Ev) (w : World) (hT : TreeAt w v T) (hb : bothB T e.target e.target = false) :
    Calls Tryz.prog 74 #[v, .agg #[.int .i64 e.type, .int .i64 e.target, .int .i64 e.related, .bool e.bub, .bool e.can, .bool e.comp]] w fun x w' => x = .returned (.pointer none) ∧ Below w.heap.size w w' := by
  obtain ⟨W0, hW0⟩ : ∃ W0, w.alloc (.cells #[.int .i64 e.type, .int .i64 e.target, .int .i64 e.related, .bool e.bub, .bool e.can, .bool e.comp] 25) = W0 := ⟨_, rfl⟩
  have HB0 := hideG (show Below w.heap.size w W0 by rw [← hW0]; exact (Below.refl _ w).alloc (Nat.le_refl _) _)
  have p1 : W0.cell? ⟨w.heap.size, 1, none⟩ = some (.int .i64 e.target) := by rw [← hW0]; simp
  have HR := hideG (refBoth_any T hS v e.target e.target W0 (hT.below HB0.out))
  have HW0 := hideG hW0
  rw [hb] at HR
  clear hb hT hW0
  go_enter Tryz.func74, Tryz.ntmps74
  go_wp2_with fail
  rw [HW0.out]
  refine HR.out.mono ?_
  rintro ex w1 ⟨rfl, hb1⟩
  have HB1 := hideG (HB0.out.trans (hb1.mono HB0.out.size))
  clear hb1 p1
  go_wp2_with fail
  go_ret
  exact ⟨rfl, HB1.out⟩

set_option maxRecDepth 100000 in
set_option maxHeartbeats 8000000 in
theorem refNew_any (T : List Nd) (hS : Sane T) (v : Value) (e : Ev) (w : World) (hT : TreeAt w v T) (hm : mayB T = true) (tg : Nat) (htg : e.target = (tg : Int)) (htl : tg < T.length) :
    Calls Tryz.prog 74 #[v, .agg #[.int .i64 e.type, .int .i64 e.target, .int .i64 e.related, .bool e.bub, .bool e.can, .bool e.comp]] w fun x w' => ∃ b, x = .returned (.pointer (some ⟨b, 0, none⟩)) ∧ (∀ D : Nat → Prop, (∀ d, D d → d < w.heap.size) → RefOk w' b D e.type (visitsI T e) viD []) ∧ w.heap.size ≤ b ∧ Below w.heap.size w w' := by
  obtain ⟨ta, tc, rfl⟩ := hT.shape
  obtain ⟨W0, hW0⟩ : ∃ W0, w.alloc (.cells #[.int .i64 e.type, .int .i64 e.target, .int .i64 e.related, .bool e.bub, .bool e.can, .bool e.comp] 25) = W0 := ⟨_, rfl⟩
  have HB0 := hideG (show Below w.heap.size w W0 by rw [← hW0]; exact (Below.refl _ w).alloc (Nat.le_refl _) _)
  have hP : SN w W0 e W0 := by rw [← hW0]; exact ⟨Below.refl _ _, by simp, by simp, by simp, by simp, by simp, by simp⟩
  have HP := hideG hP
  have HT0 := hideG (hT.below HB0.out)
  have hbo : bothB T e.target e.target = true := by simp only [bothB, hm, Bool.true_and, Bool.and_self, isNodeB, htg]; simp; omega
  have hkn : knownB T [e.target] = true := by rw [htg]; exact known_of hm htl
  have HBO := hideG (refBoth_any T hS (.slice ta T.length tc) e.target e.target W0 HT0.out)
  rw [hbo] at HBO
  have HW0 := hideG hW0
  have HSZ := hideG (show w.heap.size < W0.heap.size by rw [← hW0]; simp)
  have HS := hideG hS
  have HKN := hideG hkn
  have p1x := hP.2.2.1
  clear hW0 hT hm hP hS htg htl hbo hkn
  go_enter Tryz.func74, Tryz.ntmps74
  go_wp2_with fail
  rw [HW0.out]
  refine HBO.out.mono ?_
  rintro ex w1 ⟨rfl, hb1⟩
  have HB1 := hideG (HB0.out.trans (hb1.mono HB0.out.size))
  have HP1 : SN w w1 e w1 := by have := sn_call hb1 hb1 HP.out; exact ⟨Below.refl _ _, this.2⟩
  have p1 := HP1.2.2.1
  have HQ := hideG HP1
  have hwl : w.heap.size < w1.heap.size := below_of_cell p1
  have HR := hideG (show ∀ U, Below w1.heap.size w1 U → Calls Tryz.prog 132 #[.slice ta T.length tc, .agg #[.int .i64 e.type, .int .i64 e.target, .int .i64 e.related, .bool e.bub, .bool e.can, .bool e.comp]] U (fun x w' => ∃ a c, x = .returned (.slice a (visitsI T e).length c) ∧ (VisAt w' (.slice a (visitsI T e).length c) (visitsI T e) ∧ ∀ d, d < w1.heap.size → Off d (.slice a (visitsI T e).length c)) ∧ Below U.heap.size U w' ∧ Below w1.heap.size w1 w') from fun U hU => by
    refine (refVisits7_any T HS.out _ e HKN.out U ((HT0.out.below hb1).below hU)).mono ?_
    rintro x w' ⟨a, c, rfl, ho, hb⟩
    exact ⟨a, c, rfl, ⟨ownsRow_viCells ho, fun d hd => Off.own ho (Nat.lt_of_lt_of_le hd hU.size)⟩, hb, hU.trans (hb.mono hU.size)⟩)
  clear hb1 HP1 p1x
  go_wp2_with fail
  clear p1
  have hS0 : SN w w1 e w1.drew := sn_call (below_drewS _) (below_drewS _) HQ.out
  go_region_held3 (fun w' => Below w1.heap.size w1 w' ∧ w'.cell? ⟨w.heap.size, 0, none⟩ = some (.int .i64 e.type) ∧ w'.cell? ⟨w.heap.size, 1, none⟩ = some (.int .i64 e.target) ∧ w'.cell? ⟨w.heap.size, 2, none⟩ = some (.int .i64 e.related) ∧ w'.cell? ⟨w.heap.size, 3, none⟩ = some (.bool e.bub) ∧ w'.cell? ⟨w.heap.size, 4, none⟩ = some (.bool e.can) ∧ w'.cell? ⟨w.heap.size, 5, none⟩ = some (.bool e.comp))
    (first | assumption | exact hS0 | exact sn_call (by assumption) (by assumption) (by assumption) | exact sn_alloc (by assumption))
    (first | (go_at_call 132; refine Calls.mono (HR.out _ (by first | assumption | exact below_drew' (Below.refl _ _))) ?_; rintro x w' ⟨fa, fc, rfl, ho, hbU, hbV⟩))
  all_goals
    have HVA := hideG ho.1
    have HVO := hideG ho.2
    have HBV := hideG hbV
    have hle : w1.heap.size ≤ w'.heap.size := hbV.size
    have HLE := hideG hle
    have HWL := hideG hwl
    have HFIN := hideG (show ∀ D : Nat → Prop, (∀ d, D d → d < w.heap.size) → RefOk (w'.alloc (.cells #[.int .i64 e.type, .int .i64 e.target, .int .i64 e.related, .bool e.bub, .bool e.can, .bool e.comp, .slice fa (visitsI T e).length fc, .int .i64 0, .int .i64 0, .int .i64 0, .int .i64 0, .bool false, .slice none 0 0, .bool false, .bool false] 146)) w'.heap.size D e.type (visitsI T e) viD [] from fun D hD =>
      ⟨_, _, ⟨by simp, by simp, ⟨by simp [viD], by simp [viD], by simp [viD], by simp [viD], by simp [viD]⟩, by simp, by simp, HVA.out.below ((Below.refl _ _).alloc (Nat.le_refl _) _), hears_none _⟩, fun j hj => by
        have : j = 0 ∨ j = 1 ∨ j = 2 ∨ j = 3 ∨ j = 4 ∨ j = 5 ∨ j = 6 ∨ j = 7 ∨ j = 8 ∨ j = 9 ∨ j = 10 ∨ j = 11 ∨ j = 12 ∨ j = 13 ∨ j = 14 := by omega
        rcases this with rfl | rfl | rfl | rfl | rfl | rfl | rfl | rfl | rfl | rfl | rfl | rfl | rfl | rfl | rfl <;> simp, ⟨Off.vis HVA.out (Nat.le_refl _), Off.nil⟩, fun d hd => HVO.out d (by have := hD d hd; have := HWL.out; omega), fun _ _ => Off.nil⟩)
    clear ho hbU hbV hle hwl
    go_wp2_with fail
    go_ret
    exact ⟨_, rfl, HFIN.out, by have := HLE.out; have := HWL.out; omega, HB1.out.trans ((HBV.out.alloc HBV.out.size _).mono HB1.out.size)⟩
end Go.Proofs.YtpmacpbhdgigfaaGreat
namespace Go.Proofs.YtpmacpbhdgigfaaGreat
open Go.RowKit
open L8 (Hr hrD HearAt HearsAt forL hearsP hearCells dropL)

def RefUni (l : List Hr) (k : Int) (left : List Vi) (cur : Vi) (wait : List Hr) (b : Nat) (D : Nat → Prop) (w : World) (x : Ending) (w' : World) : Prop :=
  ∃ (c : Cl) (isb : Bool) (left' : List Vi) (cur' : Vi) (wait' : List Hr), x = .returned (.tuple #[.agg #[.int .i64 c.1.node, .int .i64 c.1.type, .bool c.1.cap, .bool c.1.once, .int .i64 c.1.prog, .int .i64 c.2.s.node, .int .i64 c.2.s.tg, .int .i64 c.2.s.rel, .int .i64 c.2.phase, .bool c.2.cap], .bool isb]) ∧ Turn b w w' ∧ RefOk w' b D k left' cur' wait' ∧
    (isb = true → cur' = c.2 ∧ nextL l k left cur wait = some (c.1, c.2, left', wait')) ∧ (isb = false → c = clD ∧ left' = [] ∧ wait' = [] ∧ nextL l k left cur wait = none)
def SQ (b : Nat) (V : World) (k : Int) (lv : Value) (x : Vi) (U : World) : Prop := Turn b V U ∧ U.cell? ⟨b, 0, none⟩ = some (.int .i64 k) ∧ U.cell? ⟨b, 6, none⟩ = some lv ∧ U.cell? ⟨b, 7, none⟩ = some (.int .i64 x.s.node) ∧ U.cell? ⟨b, 8, none⟩ = some (.int .i64 x.s.tg) ∧ U.cell? ⟨b, 9, none⟩ = some (.int .i64 x.s.rel) ∧ U.cell? ⟨b, 10, none⟩ = some (.int .i64 x.phase) ∧ U.cell? ⟨b, 11, none⟩ = some (.bool x.cap) ∧ U.cell? ⟨b, 12, none⟩ = some (boxAt U ⟨b, 12, none⟩) ∧ U.cell? ⟨b, 13, none⟩ = some (.bool false) ∧ U.frozen? ⟨b, 12, none⟩ = false
theorem sq_call {b : Nat} {V : World} {k : Int} {lv : Value} {x : Vi} {U w' : World} (hb : Below U.heap.size U w') (h : SQ b V k lv x U) : SQ b V k lv x w' := by
  obtain ⟨ht, h0, h6, h7, h8, h9, h10, h11, h12, h13, f⟩ := h
  exact ⟨ht.trans (Turn.of_below hb), cell_below hb h0, cell_below hb h6, cell_below hb h7, cell_below hb h8, cell_below hb h9, cell_below hb h10, cell_below hb h11, boxAt_below hb h12, cell_below hb h13, frozen_below hb h12 f⟩
theorem sq_set {b : Nat} {V : World} {k : Int} {lv : Value} {x : Vi} {U : World} {u : Value} (h : SQ b V k lv x U) : SQ b V k lv x (U.setCell ⟨b, 12, none⟩ u) := by
  obtain ⟨ht, h0, h6, h7, h8, h9, h10, h11, h12, h13, f⟩ := h
  have hne : ∀ i, i ≠ 12 → (⟨b, 12, none⟩ : Addr) ≠ ⟨b, i, none⟩ := fun i hi => ne_off (fun e => hi e.symm)
  exact ⟨ht.setCell 12 _, (World.cell?_setCell_other _ _ _ _ (hne 0 (by omega))).trans h0, (World.cell?_setCell_other _ _ _ _ (hne 6 (by omega))).trans h6, (World.cell?_setCell_other _ _ _ _ (hne 7 (by omega))).trans h7, (World.cell?_setCell_other _ _ _ _ (hne 8 (by omega))).trans h8, (World.cell?_setCell_other _ _ _ _ (hne 9 (by omega))).trans h9, (World.cell?_setCell_other _ _ _ _ (hne 10 (by omega))).trans h10, (World.cell?_setCell_other _ _ _ _ (hne 11 (by omega))).trans h11, boxAt_set h12, (World.cell?_setCell_other _ _ _ _ (hne 13 (by omega))).trans h13, by rw [World.frozen?_setCell]; exact f⟩
theorem ViAt.turnD {w w' : World} {b c o : Nat} {x : Vi} {u : Value} (h : ViAt w c o x) (hb : Below w.heap.size w w') (hne : c ≠ b) : ViAt (w'.setCell ⟨b, 12, none⟩ u) c o x :=
  ViAt_turn (h.below hb) ((Turn.refl b w').setCell 12 u) hne

set_option maxRecDepth 100000 in
set_option maxHeartbeats 16000000 in
theorem refNext_any (w : World) (b : Nat) (D : Nat → Prop) (k : Int) (left0 : List Vi) (cur0 : Vi) (wait0 : List Hr) (v : Value) (l : List Hr) (hL : HearsAt w v l) (hl : l.length ≤ 100000) (h : RefOk w b D k left0 cur0 wait0) (hD : ∀ d, D d → d < w.heap.size) (hr : left0.length ≤ 100000) (hw : wait0.length ≤ 100000) (hvb : Off b v) :
    Calls Tryz.prog 75 #[.pointer (some ⟨b, 0, none⟩), v] w (RefUni l k left0 cur0 wait0 b D w) := by
  obtain ⟨D1, hD1⟩ : ∃ D1 : Nat → Prop, D1 = fun d => D d ∨ d = w.heap.size := ⟨_, rfl⟩
  have HD1 := hideG (show (∀ d, D1 d → D d ∨ d = w.heap.size) ∧ (∀ d, D d → D1 d) ∧ D1 w.heap.size by subst hD1; exact ⟨fun _ k => k, fun _ k => .inl k, .inr rfl⟩)
  have HDL := hideG hD
  clear hD1
  obtain ⟨va, vc, rfl⟩ := hL.shape
  have hbs := h.lt
  obtain ⟨W0, hW0⟩ : ∃ W0, w.alloc (.cells #[.int .i64 0, .int .i64 0, .bool false, .bool false, .int .i64 0, .int .i64 0, .int .i64 0, .int .i64 0, .int .i64 0, .bool false] 46) = W0 := ⟨_, rfl⟩
  have HB0 := hideG (show Below w.heap.size w W0 by rw [← hW0]; exact (Below.refl _ w).alloc (Nat.le_refl _) _)
  have P := hideG (show ∀ j : Nat, j < 10 → ∃ u, W0.cell? ⟨w.heap.size, j, none⟩ = some u ∧ W0.frozen? ⟨w.heap.size, j, none⟩ = false by
    intro j hj
    rw [← hW0]
    have : j = 0 ∨ j = 1 ∨ j = 2 ∨ j = 3 ∨ j = 4 ∨ j = 5 ∨ j = 6 ∨ j = 7 ∨ j = 8 ∨ j = 9 := by omega
    rcases this with rfl | rfl | rfl | rfl | rfl | rfl | rfl | rfl | rfl | rfl <;> exact ⟨_, by simp; rfl, by simp⟩)
  have HS0 := hideG (show W0.heap.size = w.heap.size + 1 by rw [← hW0]; simp)
  have HL := hideG (hL.below HB0.out)
  have HVO := hideG hvb
  have HR0 := hideG (RefOk.below (RefOk.fresh (D' := D1) h (fun d k => (HD1.out.1 d k).imp id (fun e => by omega))) HB0.out)
  have HN := hideG (show left0.length ≤ 100000 ∧ wait0.length ≤ 100000 from ⟨hr, hw⟩)
  have HW0 := hideG hW0
  have HBS := hideG hbs
  clear hL hvb h hr hw hW0 hbs hD
  go_enter Tryz.func75, Tryz.ntmps75
  go_wp2_with fail
  rw [HW0.out]
  go_loopg [] (todo l.length left0 wait0) (fun g wr => Hid (∃ left cur wait, g = todo l.length left wait ∧ RefOk wr b D1 k left cur wait ∧ nextL l k left cur wait = nextL l k left0 cur0 wait0 ∧ left.length ≤ 100000 ∧ wait.length ≤ 100000 ∧ Turn b W0 wr))
  case atStart => exact hideG ⟨left0, cur0, wait0, rfl, HR0.out, rfl, HN.out.1, HN.out.2, Turn.refl b _⟩
  case round =>
    obtain ⟨left, cur, wait, hg, hok, hnx, hll, hwl, htu⟩ := hrel.out
    clear hrel
    have HO := hideG hok
    have HX := hideG hnx
    have HT := hideG htu
    have HG := hideG hg
    have HLW := hideG (HearsAt_turn HL.out htu HVO.out)
    have HBLW := hideG hok.lt
    have HDW := hideG (show ∀ d, D1 d → d < wr.heap.size from fun d k => by
      have h1 := htu.size
      have h2 := HS0.out
      rcases HD1.out.1 d k with k | k
      · have := HDL.out d k; omega
      · omega)
    clear hnx htu hg
    obtain ⟨lv, wv, hra, hf, ⟨hol, how⟩, hdl, hdw⟩ := hok
    have HF := hideG hf
    cases wait with
    | nil =>
      obtain ⟨wa, wc, hwv⟩ := hra.waits.shape
      subst hwv
      cases left with
      | nil =>
        have HXN := hideG (show nextL l k left0 cur0 wait0 = none from HX.out.symm)
        obtain ⟨la, lc, hlv⟩ := hra.lefts.shape
        subst hlv
        have c6 := hra.left
        have c12 := hra.wait
        have hne : w.heap.size ≠ b := by have := HBS.out; omega
        have HNE := hideG hne
        have tz := fun (j : Nat) (u : Value) (hc : W0.cell? ⟨w.heap.size, j, none⟩ = some u) => HT.out.cell hc hne
        have fr := fun (j : Nat) (u : Value) (hc : W0.cell? ⟨w.heap.size, j, none⟩ = some u) (hf : W0.frozen? ⟨w.heap.size, j, none⟩ = false) => Turn.frozenAny HT.out hc hne hf
        obtain ⟨z0, y0, g0⟩ := P.out 0 (by omega)
        obtain ⟨z1, y1, g1⟩ := P.out 1 (by omega)
        obtain ⟨z2, y2, g2⟩ := P.out 2 (by omega)
        obtain ⟨z3, y3, g3⟩ := P.out 3 (by omega)
        obtain ⟨z4, y4, g4⟩ := P.out 4 (by omega)
        obtain ⟨z5, y5, g5⟩ := P.out 5 (by omega)
        obtain ⟨z6, y6, g6⟩ := P.out 6 (by omega)
        obtain ⟨z7, y7, g7⟩ := P.out 7 (by omega)
        obtain ⟨z8, y8, g8⟩ := P.out 8 (by omega)
        obtain ⟨z9, y9, g9⟩ := P.out 9 (by omega)
        have f0 := fr 0 _ y0 g0
        have f1 := fr 1 _ y1 g1
        have f2 := fr 2 _ y2 g2
        have f3 := fr 3 _ y3 g3
        have f4 := fr 4 _ y4 g4
        have f5 := fr 5 _ y5 g5
        have f6 := fr 6 _ y6 g6
        have f7 := fr 7 _ y7 g7
        have f8 := fr 8 _ y8 g8
        have f9 := fr 9 _ y9 g9
        have t0 := tz 0 _ y0
        have t1 := tz 1 _ y1
        have t2 := tz 2 _ y2
        have t3 := tz 3 _ y3
        have t4 := tz 4 _ y4
        have t5 := tz 5 _ y5
        have t6 := tz 6 _ y6
        have t7 := tz 7 _ y7
        have t8 := tz 8 _ y8
        have t9 := tz 9 _ y9
        obtain ⟨W5, hW5, htw, k0, k1, k2, k3, k4, k5, k6, k7, k8, k9⟩ := set10 (x0 := .int .i64 0) (x1 := .int .i64 0) (x2 := .bool false) (x3 := .bool false) (x4 := .int .i64 0) (x5 := .int .i64 0) (x6 := .int .i64 0) (x7 := .int .i64 0) (x8 := .int .i64 0) (x9 := .bool false) (U := wr) t0 t1 t2 t3 t4 t5 t6 t7 t8 t9
        have HW5 := hideG hW5
        have HTW := hideG htw
        clear hW5 htw y0 y1 y2 y3 y4 y5 y6 y7 y8 y9 g0 g1 g2 g3 g4 g5 g6 g7 g8 g9 fr tz hne hra hf hol how hdl hdw hll hwl
        go_wp2_with fail
        rw [← HW5.out]
        try rw [Exit.noGoto_ret]
        have HTT := hideG (show Turn b w W5 by
          rw [HW5.out]
          exact (((((((((((Turn.of_below HB0.out).trans HT.out).setNew (Nat.le_refl _) 0 _).setNew (Nat.le_refl _) 1 _).setNew (Nat.le_refl _) 2 _).setNew (Nat.le_refl _) 3 _).setNew (Nat.le_refl _) 4 _).setNew (Nat.le_refl _) 5 _).setNew (Nat.le_refl _) 6 _).setNew (Nat.le_refl _) 7 _).setNew (Nat.le_refl _) 8 _).setNew (Nat.le_refl _) 9 _)
        refine bodyPost_ret (v := .tuple #[.agg #[.int .i64 0, .int .i64 0, .bool false, .bool false, .int .i64 0, .int .i64 0, .int .i64 0, .int .i64 0, .int .i64 0, .bool false], .bool false]) (by simp [results, Tryz.results75, go_sem, k0, k1, k2, k3, k4, k5, k6, k7, k8, k9]) rfl ⟨clD, false, [], cur, [], rfl, HTT.out, RefOk.sub (RefOk.turn HO.out HTW.out HD1.out.2.2 (fun e => HNE.out e.symm)) HD1.out.2.1, fun e => (by cases e), fun _ => ⟨rfl, rfl, rfl, HXN.out⟩⟩
      | cons x rest =>
        obtain ⟨a, c, hlv, hcap, hd⟩ := hra.lefts
        subst hlv
        obtain ⟨bb, off, rfl, hd'⟩ := hd (by simp)
        have hH := hd' 0 (by simp)
        rw [List.getD_cons_zero] at hH
        have g0 := hH.node
        have g1 := hH.tg
        have g2 := hH.rel
        have g3 := hH.phase
        have g4 := hH.cap
        simp only [Nat.zero_mul, Nat.add_zero] at g0 g1 g2 g3 g4
        have c0 := hra.kind
        have c6 := hra.left
        have c7 := hra.cur.node
        have c8 := hra.cur.tg
        have c9 := hra.cur.rel
        have c10 := hra.cur.phase
        have c11 := hra.cur.cap
        have c12 := hra.wait
        have c13 := hra.stop
        simp only [Nat.reduceAdd] at c8 c9 c10 c11
        simp only [List.length_cons] at c6 hcap hll
        simp only [List.length_nil] at c12
        have f6 := hf 6 (by omega)
        have f7 := hf 7 (by omega)
        have f8 := hf 8 (by omega)
        have f9 := hf 9 (by omega)
        have f10 := hf 10 (by omega)
        have f11 := hf 11 (by omega)
        have f12 := hf 12 (by omega)
        have hbl : b < wr.heap.size := HBLW.out
        have HD := hideG hd'
        have HBN := hideG (hol bb off _ _ rfl (by simp))
        have HDN := hideG (show ∀ d, D1 d → bb ≠ d from fun d hd => hdl d hd bb off _ _ rfl (by simp))
        have HLL := hideG (show rest.length ≤ 100000 by omega)
        have HRL := hideG (show rest.length + 1 ≤ c from hcap)
        have HFL := hideG (show (forL l x.s.node k x.cap).length ≤ l.length ∧ (forL l x.s.node k x.cap).length ≤ 100000 from ⟨forL_le .., Nat.le_trans (forL_le ..) hl⟩)
        have hc1 : 1 ≤ c := by omega
        have hrl : rest.length ≤ 100000 := by omega
        clear hra hf hol how hdl hdw hwl hd hd' hH HO hll hcap
        by_cases hc : c = 1
        · subst hc
          go_wp2_with fail
          obtain ⟨V, hV⟩ : ∃ V, ((((((wr.setCell ⟨b, 7, none⟩ (.int .i64 x.s.node)).setCell ⟨b, 8, none⟩ (.int .i64 x.s.tg)).setCell ⟨b, 9, none⟩ (.int .i64 x.s.rel)).setCell ⟨b, 10, none⟩ (.int .i64 x.phase)).setCell ⟨b, 11, none⟩ (.bool x.cap)).setCell ⟨b, 6, none⟩ (.slice (some ⟨bb, off, none⟩) rest.length 0)) = V := ⟨_, rfl⟩
          rw [hV]
          have hTV : Turn b wr V := by rw [← hV]; exact (((((((Turn.refl b wr).setCell 7 _).setCell 8 _).setCell 9 _).setCell 10 _).setCell 11 _).setCell 6 _)
          have hS0 : SQ b V k (.slice (some ⟨bb, off, none⟩) rest.length 0) x V.drew := by
            refine sq_call (below_drewS V) ?_
            rw [← hV]
            refine ⟨Turn.refl b _, set_other (set_other (set_other (set_other (set_other (set_other (c0) (by omega)) (by omega)) (by omega)) (by omega)) (by omega)) (by omega), set_same (set_other (set_other (set_other (set_other (set_other (c6) (by omega)) (by omega)) (by omega)) (by omega)) (by omega)), set_other (set_other (set_other (set_other (set_other (set_same (c7)) (by omega)) (by omega)) (by omega)) (by omega)) (by omega), set_other (set_other (set_other (set_other (set_same (set_other (c8) (by omega))) (by omega)) (by omega)) (by omega)) (by omega), set_other (set_other (set_other (set_same (set_other (set_other (c9) (by omega)) (by omega))) (by omega)) (by omega)) (by omega), set_other (set_other (set_same (set_other (set_other (set_other (c10) (by omega)) (by omega)) (by omega))) (by omega)) (by omega), set_other (set_same (set_other (set_other (set_other (set_other (c11) (by omega)) (by omega)) (by omega)) (by omega))) (by omega), boxAt_some (set_other (set_other (set_other (set_other (set_other (set_other (c12) (by omega)) (by omega)) (by omega)) (by omega)) (by omega)) (by omega)), set_other (set_other (set_other (set_other (set_other (set_other (c13) (by omega)) (by omega)) (by omega)) (by omega)) (by omega)) (by omega), ?_⟩
            simp only [World.frozen?_setCell]
            exact HF.out 12 (by omega)
          have HR := hideG (show ∀ U, Turn b V U → Calls Tryz.prog 133 #[.slice va l.length vc, .int .i64 x.s.node, .int .i64 k, .bool x.cap] U (fun e w' => ∃ a c, e = .returned (.slice a (forL l x.s.node k x.cap).length c) ∧ w'.ownsRow U.heap.size 35 5 (.slice a (forL l x.s.node k x.cap).length c) (forL l x.s.node k x.cap).length (hearCells (forL l x.s.node k x.cap)) ∧ Below U.heap.size U w' ∧ Turn b V w') from fun U hU => by
            refine (L8.refFor_any l x.s.node k x.cap _ U (HearsAt_turn HLW.out (hTV.trans hU) HVO.out) (by omega)).mono ?_
            rintro e w' ⟨a, c, rfl, ho, hb⟩
            exact ⟨a, c, rfl, ho, hb, hU.trans (Turn.of_below hb)⟩)
          have HTV := hideG hTV
          have hbV : b < V.heap.size := Nat.lt_of_lt_of_le hbl hTV.size
          have HBL := hideG hbV
          clear hV hTV c0 c6 c7 c8 c9 c10 c11 c12 c13 f6 f7 f8 f9 f10 f11 f12 g0 g1 g2 g3 g4 hbl hbV
          go_region_held3 (fun w' => Turn b V w' ∧ w'.cell? ⟨b, 0, none⟩ = some (.int .i64 k) ∧ w'.cell? ⟨b, 6, none⟩ = some (.slice (some ⟨bb, off, none⟩) rest.length 0) ∧ w'.cell? ⟨b, 7, none⟩ = some (.int .i64 x.s.node) ∧ w'.cell? ⟨b, 8, none⟩ = some (.int .i64 x.s.tg) ∧ w'.cell? ⟨b, 9, none⟩ = some (.int .i64 x.s.rel) ∧ w'.cell? ⟨b, 10, none⟩ = some (.int .i64 x.phase) ∧ w'.cell? ⟨b, 11, none⟩ = some (.bool x.cap) ∧ w'.cell? ⟨b, 12, none⟩ = some (boxAt w' ⟨b, 12, none⟩) ∧ w'.cell? ⟨b, 13, none⟩ = some (.bool false) ∧ w'.frozen? ⟨b, 12, none⟩ = false)
            (first | assumption | exact hS0 | exact sq_call (by assumption) (by assumption) | exact sq_set (by assumption))
            (first | (go_at_call 133; refine Calls.mono (HR.out _ (by first | assumption | exact Turn.of_below (below_drew' (Below.refl _ _)))) ?_; rintro ex w' ⟨fa, fc, rfl, ho, hbU, hbV⟩))
          all_goals
            have hS1 := sq_call hbU hS0
            have hS2 := sq_set (u := .slice fa (forL l x.s.node k x.cap).length fc) hS1
            have k9 := set_same (v := .slice fa (forL l x.s.node k x.cap).length fc) hS1.2.2.2.2.2.2.2.2.1
            have hbd : b < V.drew.heap.size := below_of_cell hS0.2.1
            have hrow := ownsRow_kept_set (g := b) (j := 12) (u := .slice fa (forL l x.s.node k x.cap).length fc) ho (fun e => by have := (ho.lt _ e).1; omega)
            have hwt := L8.ownsRow_hears hrow
            have HFIN := hideG (show RefOk (w'.setCell ⟨b, 12, none⟩ (.slice fa (forL l x.s.node k x.cap).length fc)) b D1 k rest x (forL l x.s.node k x.cap) ∧ Turn b wr (w'.setCell ⟨b, 12, none⟩ (.slice fa (forL l x.s.node k x.cap).length fc)) from by
              obtain ⟨ht, i0, i6, i7, i8, i9, i10, i11, _, i13, _⟩ := hS2
              refine ⟨⟨_, _, ⟨i0, i6, ⟨i7, i8, i9, i10, i11⟩, k9, i13, ?_, hwt⟩, fun j hj => ((HTV.out.trans ht).frz j HBLW.out).trans (HF.out j hj), ⟨Off.slice HBN.out, Off.own ho hbd⟩, fun d hd => Off.slice (HDN.out d hd), fun d hd => Off.own ho (Nat.lt_of_lt_of_le (HDW.out d hd) HTV.out.size)⟩, HTV.out.trans ht⟩
              show VisAt _ _ rest
              exact ⟨_, _, rfl, by have := HRL.out; omega, fun h0 => by have := HRL.out; omega⟩)
            clear hS1 hS2 k9 hrow hwt ho hbd
            go_wp2_with fail
            go_roundg (todo l.length rest (forL l x.s.node k x.cap))
            case measure =>
              rw [HG.out]
              have := HFL.out
              unfold todo
              simp only [List.length_cons, List.length_nil, Nat.add_zero]
              rw [Nat.succ_mul]
              omega
            case rel => exact hideG ⟨rest, x, forL l x.s.node k x.cap, rfl, HFIN.out.1, by rw [← HX.out, nextL_go], HLL.out, by have := HFL.out; omega, HT.out.trans HFIN.out.2⟩
        · skip
          go_wp2_with fail
          obtain ⟨V, hV⟩ : ∃ V, ((((((wr.setCell ⟨b, 7, none⟩ (.int .i64 x.s.node)).setCell ⟨b, 8, none⟩ (.int .i64 x.s.tg)).setCell ⟨b, 9, none⟩ (.int .i64 x.s.rel)).setCell ⟨b, 10, none⟩ (.int .i64 x.phase)).setCell ⟨b, 11, none⟩ (.bool x.cap)).setCell ⟨b, 6, none⟩ (.slice (some ⟨bb, off + 5, none⟩) rest.length (c - 1))) = V := ⟨_, rfl⟩
          rw [hV]
          have hTV : Turn b wr V := by rw [← hV]; exact (((((((Turn.refl b wr).setCell 7 _).setCell 8 _).setCell 9 _).setCell 10 _).setCell 11 _).setCell 6 _)
          have hS0 : SQ b V k (.slice (some ⟨bb, off + 5, none⟩) rest.length (c - 1)) x V.drew := by
            refine sq_call (below_drewS V) ?_
            rw [← hV]
            refine ⟨Turn.refl b _, set_other (set_other (set_other (set_other (set_other (set_other (c0) (by omega)) (by omega)) (by omega)) (by omega)) (by omega)) (by omega), set_same (set_other (set_other (set_other (set_other (set_other (c6) (by omega)) (by omega)) (by omega)) (by omega)) (by omega)), set_other (set_other (set_other (set_other (set_other (set_same (c7)) (by omega)) (by omega)) (by omega)) (by omega)) (by omega), set_other (set_other (set_other (set_other (set_same (set_other (c8) (by omega))) (by omega)) (by omega)) (by omega)) (by omega), set_other (set_other (set_other (set_same (set_other (set_other (c9) (by omega)) (by omega))) (by omega)) (by omega)) (by omega), set_other (set_other (set_same (set_other (set_other (set_other (c10) (by omega)) (by omega)) (by omega))) (by omega)) (by omega), set_other (set_same (set_other (set_other (set_other (set_other (c11) (by omega)) (by omega)) (by omega)) (by omega))) (by omega), boxAt_some (set_other (set_other (set_other (set_other (set_other (set_other (c12) (by omega)) (by omega)) (by omega)) (by omega)) (by omega)) (by omega)), set_other (set_other (set_other (set_other (set_other (set_other (c13) (by omega)) (by omega)) (by omega)) (by omega)) (by omega)) (by omega), ?_⟩
            simp only [World.frozen?_setCell]
            exact HF.out 12 (by omega)
          have HR := hideG (show ∀ U, Turn b V U → Calls Tryz.prog 133 #[.slice va l.length vc, .int .i64 x.s.node, .int .i64 k, .bool x.cap] U (fun e w' => ∃ a c, e = .returned (.slice a (forL l x.s.node k x.cap).length c) ∧ w'.ownsRow U.heap.size 35 5 (.slice a (forL l x.s.node k x.cap).length c) (forL l x.s.node k x.cap).length (hearCells (forL l x.s.node k x.cap)) ∧ Below U.heap.size U w' ∧ Turn b V w') from fun U hU => by
            refine (L8.refFor_any l x.s.node k x.cap _ U (HearsAt_turn HLW.out (hTV.trans hU) HVO.out) (by omega)).mono ?_
            rintro e w' ⟨a, c, rfl, ho, hb⟩
            exact ⟨a, c, rfl, ho, hb, hU.trans (Turn.of_below hb)⟩)
          have HTV := hideG hTV
          have hbV : b < V.heap.size := Nat.lt_of_lt_of_le hbl hTV.size
          have HBL := hideG hbV
          clear hV hTV c0 c6 c7 c8 c9 c10 c11 c12 c13 f6 f7 f8 f9 f10 f11 f12 g0 g1 g2 g3 g4 hbl hbV
          go_region_held3 (fun w' => Turn b V w' ∧ w'.cell? ⟨b, 0, none⟩ = some (.int .i64 k) ∧ w'.cell? ⟨b, 6, none⟩ = some (.slice (some ⟨bb, off + 5, none⟩) rest.length (c - 1)) ∧ w'.cell? ⟨b, 7, none⟩ = some (.int .i64 x.s.node) ∧ w'.cell? ⟨b, 8, none⟩ = some (.int .i64 x.s.tg) ∧ w'.cell? ⟨b, 9, none⟩ = some (.int .i64 x.s.rel) ∧ w'.cell? ⟨b, 10, none⟩ = some (.int .i64 x.phase) ∧ w'.cell? ⟨b, 11, none⟩ = some (.bool x.cap) ∧ w'.cell? ⟨b, 12, none⟩ = some (boxAt w' ⟨b, 12, none⟩) ∧ w'.cell? ⟨b, 13, none⟩ = some (.bool false) ∧ w'.frozen? ⟨b, 12, none⟩ = false)
            (first | assumption | exact hS0 | exact sq_call (by assumption) (by assumption) | exact sq_set (by assumption))
            (first | (go_at_call 133; refine Calls.mono (HR.out _ (by first | assumption | exact Turn.of_below (below_drew' (Below.refl _ _)))) ?_; rintro ex w' ⟨fa, fc, rfl, ho, hbU, hbV⟩))
          all_goals
            have hS1 := sq_call hbU hS0
            have hS2 := sq_set (u := .slice fa (forL l x.s.node k x.cap).length fc) hS1
            have k9 := set_same (v := .slice fa (forL l x.s.node k x.cap).length fc) hS1.2.2.2.2.2.2.2.2.1
            have hbd : b < V.drew.heap.size := below_of_cell hS0.2.1
            have hrow := ownsRow_kept_set (g := b) (j := 12) (u := .slice fa (forL l x.s.node k x.cap).length fc) ho (fun e => by have := (ho.lt _ e).1; omega)
            have hwt := L8.ownsRow_hears hrow
            have HFIN := hideG (show RefOk (w'.setCell ⟨b, 12, none⟩ (.slice fa (forL l x.s.node k x.cap).length fc)) b D1 k rest x (forL l x.s.node k x.cap) ∧ Turn b wr (w'.setCell ⟨b, 12, none⟩ (.slice fa (forL l x.s.node k x.cap).length fc)) from by
              obtain ⟨ht, i0, i6, i7, i8, i9, i10, i11, _, i13, _⟩ := hS2
              refine ⟨⟨_, _, ⟨i0, i6, ⟨i7, i8, i9, i10, i11⟩, k9, i13, ?_, hwt⟩, fun j hj => ((HTV.out.trans ht).frz j HBLW.out).trans (HF.out j hj), ⟨Off.slice HBN.out, Off.own ho hbd⟩, fun d hd => Off.slice (HDN.out d hd), fun d hd => Off.own ho (Nat.lt_of_lt_of_le (HDW.out d hd) HTV.out.size)⟩, HTV.out.trans ht⟩
              show VisAt _ _ rest
              exact ⟨_, _, rfl, by have := HRL.out; omega, fun h0 => ⟨bb, off + 5, rfl, fun j hj => by
                have h7 := HD.out (j + 1) (by simp; omega)
                rw [List.getD_cons_succ, show off + (j + 1) * 5 = off + 5 + j * 5 by omega] at h7
                exact ((ViAt_turn h7 HTV.out HBN.out).below (below_drewS _)).turnD hbU HBN.out⟩⟩)
            clear hS1 hS2 k9 hrow hwt ho hbd
            go_wp2_with fail
            go_roundg (todo l.length rest (forL l x.s.node k x.cap))
            case measure =>
              rw [HG.out]
              have := HFL.out
              unfold todo
              simp only [List.length_cons, List.length_nil, Nat.add_zero]
              rw [Nat.succ_mul]
              omega
            case rel => exact hideG ⟨rest, x, forL l x.s.node k x.cap, rfl, HFIN.out.1, by rw [← HX.out, nextL_go], HLL.out, by have := HFL.out; omega, HT.out.trans HFIN.out.2⟩
    | cons h rest =>
      obtain ⟨a, c, hwv, hcap, hd⟩ := hra.waits
      subst hwv
      obtain ⟨bb, off, rfl, hd'⟩ := hd (by simp)
      have hH := hd' 0 (by simp)
      rw [List.getD_cons_zero] at hH
      have g0 := hH.node
      have g1 := hH.type
      have g2 := hH.cap
      have g3 := hH.once
      have g4 := hH.prog
      simp only [Nat.zero_mul, Nat.add_zero] at g0 g1 g2 g3 g4
      have c12 := hra.wait
      simp only [List.length_cons] at c12 hcap hwl
      have f12 := hf 12 (by omega)
      have hbl : b < wr.heap.size := HBLW.out
      have hbb : bb < wr.heap.size := below_of_cell g0
      have HD := hideG hd'
      have HBN := hideG (how bb off _ _ rfl (by simp))
      have HDN := hideG (show ∀ d, D1 d → bb ≠ d from fun d hd => hdw d hd bb off _ _ rfl (by simp))
      have HLL := hideG hll
      have HWL := hideG (show (h :: rest).length ≤ 100000 by simp only [List.length_cons]; omega)
      have HRL := hideG (show rest.length + 1 ≤ c from hcap)
      have hc1 : 1 ≤ c := by omega
      have hrl : rest.length ≤ 100000 := by omega
      have HRA := hideG hra
      have HOD := hideG (show Off b lv ∧ OffD D1 lv from ⟨hol, hdl⟩)
      clear hd hd' hH HO hdw how hra hf hol hdl hll hwl hcap
      by_cases hc : c = 1
      · subst hc
        go_wp2_with fail
        obtain ⟨V, hV⟩ : ∃ V, (wr.setCell ⟨b, 12, none⟩ (.slice (some ⟨bb, off, none⟩) rest.length 0)).alloc (.cells #[.int .i64 h.node, .int .i64 h.type, .bool h.cap, .bool h.once, .int .i64 h.prog] 35) = V := ⟨_, rfl⟩
        have hsU : (wr.setCell ⟨b, 12, none⟩ (.slice (some ⟨bb, off, none⟩) rest.length 0)).heap.size = wr.heap.size := by simp
        have ht0 : Turn b wr (wr.setCell ⟨b, 12, none⟩ (.slice (some ⟨bb, off, none⟩) rest.length 0)) := (Turn.refl b wr).setCell 12 _
        have hbA : Below (wr.setCell ⟨b, 12, none⟩ (.slice (some ⟨bb, off, none⟩) rest.length 0)).heap.size (wr.setCell ⟨b, 12, none⟩ (.slice (some ⟨bb, off, none⟩) rest.length 0)) V := by rw [← hV]; exact (Below.refl _ _).alloc (Nat.le_refl _) _
        have hTV : Turn b wr V := ht0.trans (Turn.of_below hbA)
        have hOKV : RefOk V b D1 k left cur rest := by
          refine RefOk.below ?_ hbA
          refine ⟨lv, .slice (some ⟨bb, off, none⟩) rest.length 0, ⟨set_other HRA.out.kind (by omega), set_other HRA.out.left (by omega), ⟨set_other HRA.out.cur.node (by omega), set_other HRA.out.cur.tg (by omega), set_other HRA.out.cur.rel (by omega), set_other HRA.out.cur.phase (by omega), set_other HRA.out.cur.cap (by omega)⟩, set_same HRA.out.wait, set_other HRA.out.stop (by omega), VisAt_turn HRA.out.lefts ht0 HOD.out.1, ?_⟩, fun j hj => by rw [World.frozen?_setCell]; exact HF.out j hj, ⟨HOD.out.1, Off.slice HBN.out⟩, HOD.out.2, fun d hd => Off.slice (HDN.out d hd)⟩
          refine HearsAt_turn ?_ ht0 (Off.slice HBN.out)
          exact ⟨_, _, rfl, by have := HRL.out; omega, fun h0 => by have := HRL.out; omega⟩
        have hh : HearAt ((wr.setCell ⟨b, 12, none⟩ (.slice (some ⟨bb, off, none⟩) rest.length 0)).alloc (.cells #[.int .i64 h.node, .int .i64 h.type, .bool h.cap, .bool h.once, .int .i64 h.prog] 35)) (wr.setCell ⟨b, 12, none⟩ (.slice (some ⟨bb, off, none⟩) rest.length 0)).heap.size 0 h := by
          generalize wr.setCell ⟨b, 12, none⟩ (.slice (some ⟨bb, off, none⟩) rest.length 0) = U
          exact ⟨by simp, by simp, by simp, by simp, by simp⟩
        rw [hV, hsU] at hh
        have q0 := hh.node
        have q1 := hh.type
        have q2 := hh.cap
        have q3 := hh.once
        have q4 := hh.prog
        clear hh
        have HOV := hideG hOKV
        have HTV := hideG hTV
        have HA := hideG (refThere_any l h (.slice va l.length vc) V (HearsAt_turn HLW.out hTV HVO.out) hl)
        clear hOKV hTV hbA ht0 hsU
        rw [hV]
        refine HA.out.mono ?_
        rintro ex w4 ⟨rfl, hb4⟩
        have HTW := hideG (HT.out.trans (HTV.out.trans (Turn.of_below hb4)))
        clear hV
        cases ham : amongB l h
        · have HX4 := hideG (show nextL l k left cur rest = nextL l k left0 cur0 wait0 from (nextL_miss ham).symm.trans HX.out)
          have HO4 := hideG (RefOk.below HOV.out hb4)
          clear hb4 q0 q1 q2 q3 q4 ham c12 g0 g1 g2 g3 g4 f12
          go_wp2_with fail
          go_roundg (todo l.length left rest)
          case measure => rw [HG.out]; unfold todo; simp only [List.length_cons]; omega
          case rel => exact hideG ⟨left, cur, rest, rfl, HO4.out, HX4.out, HLL.out, by have := HWL.out; simp at this; omega, HTW.out⟩
        · have HX4 := hideG (show nextL l k left0 cur0 wait0 = some (h, cur, left, rest) from HX.out.symm.trans (nextL_hit ham))
          have HO4 := hideG (RefOk.below HOV.out hb4)
          have r0 := cell_below hb4 q0
          have r1 := cell_below hb4 q1
          have r2 := cell_below hb4 q2
          have r3 := cell_below hb4 q3
          have r4 := cell_below hb4 q4
          clear hb4 q0 q1 q2 q3 q4 ham c12 g0 g1 g2 g3 g4 f12
          have hne : w.heap.size ≠ b := by have := HBS.out; omega
          have HNE := hideG hne
          obtain ⟨lv', wv', hrb, _⟩ := HO4.out
          have e4 := hrb.cur.node
          have e5 := hrb.cur.tg
          have e6 := hrb.cur.rel
          have e7 := hrb.cur.phase
          have e8 := hrb.cur.cap
          simp only [Nat.reduceAdd] at e4 e5 e6 e7 e8
          have hlt2 : wr.heap.size < w4.heap.size := below_of_cell r0
          obtain ⟨z0, y0, g0⟩ := P.out 0 (by omega)
          obtain ⟨z1, y1, g1⟩ := P.out 1 (by omega)
          obtain ⟨z2, y2, g2⟩ := P.out 2 (by omega)
          obtain ⟨z3, y3, g3⟩ := P.out 3 (by omega)
          obtain ⟨z4, y4, g4⟩ := P.out 4 (by omega)
          obtain ⟨z5, y5, g5⟩ := P.out 5 (by omega)
          obtain ⟨z6, y6, g6⟩ := P.out 6 (by omega)
          obtain ⟨z7, y7, g7⟩ := P.out 7 (by omega)
          obtain ⟨z8, y8, g8⟩ := P.out 8 (by omega)
          obtain ⟨z9, y9, g9⟩ := P.out 9 (by omega)
          have fr := fun (j : Nat) (u : Value) (hc : W0.cell? ⟨w.heap.size, j, none⟩ = some u) (hf : W0.frozen? ⟨w.heap.size, j, none⟩ = false) => Turn.frozenAny HTW.out hc hne hf
          have f0' := fr 0 _ y0 g0
          have f1' := fr 1 _ y1 g1
          have f2' := fr 2 _ y2 g2
          have f3' := fr 3 _ y3 g3
          have f4' := fr 4 _ y4 g4
          have f5' := fr 5 _ y5 g5
          have f6' := fr 6 _ y6 g6
          have f7' := fr 7 _ y7 g7
          have f8' := fr 8 _ y8 g8
          have f9' := fr 9 _ y9 g9
          have t0 := HTW.out.cell y0 hne
          have t1 := HTW.out.cell y1 hne
          have t2 := HTW.out.cell y2 hne
          have t3 := HTW.out.cell y3 hne
          have t4 := HTW.out.cell y4 hne
          have t5 := HTW.out.cell y5 hne
          have t6 := HTW.out.cell y6 hne
          have t7 := HTW.out.cell y7 hne
          have t8 := HTW.out.cell y8 hne
          have t9 := HTW.out.cell y9 hne
          obtain ⟨W5, hW5, htw, k0, k1, k2, k3, k4, k5, k6, k7, k8, k9⟩ := set10 (x0 := .int .i64 h.node) (x1 := .int .i64 h.type) (x2 := .bool h.cap) (x3 := .bool h.once) (x4 := .int .i64 h.prog) (x5 := .int .i64 cur.s.node) (x6 := .int .i64 cur.s.tg) (x7 := .int .i64 cur.s.rel) (x8 := .int .i64 cur.phase) (x9 := .bool cur.cap) (U := w4) t0 t1 t2 t3 t4 t5 t6 t7 t8 t9
          have HW5 := hideG hW5
          have HTW5 := hideG htw
          clear hW5 htw y0 y1 y2 y3 y4 y5 y6 y7 y8 y9 g0 g1 g2 g3 g4 g5 g6 g7 g8 g9 fr hne hrb
          go_wp2_with fail
          go_region
          rw [← HW5.out]
          have hd5 := below_drewS W5
          have k0' := cell_below hd5 k0
          have k1' := cell_below hd5 k1
          have k2' := cell_below hd5 k2
          have k3' := cell_below hd5 k3
          have k4' := cell_below hd5 k4
          have k5' := cell_below hd5 k5
          have k6' := cell_below hd5 k6
          have k7' := cell_below hd5 k7
          have k8' := cell_below hd5 k8
          have k9' := cell_below hd5 k9
          have HOK := hideG (RefOk.sub ((RefOk.turn HO4.out HTW5.out HD1.out.2.2 (fun e => HNE.out e.symm)).below hd5) HD1.out.2.1)
          have HTT := hideG (show Turn b w W5.drew by
            rw [HW5.out]
            exact ((((((((((((Turn.of_below HB0.out).trans HTW.out).setNew (Nat.le_refl _) 0 _).setNew (Nat.le_refl _) 1 _).setNew (Nat.le_refl _) 2 _).setNew (Nat.le_refl _) 3 _).setNew (Nat.le_refl _) 4 _).setNew (Nat.le_refl _) 5 _).setNew (Nat.le_refl _) 6 _).setNew (Nat.le_refl _) 7 _).setNew (Nat.le_refl _) 8 _).setNew (Nat.le_refl _) 9 _).trans (Turn.of_below (below_drewS _)))
          clear t0 t1 t2 t3 t4 t5 t6 t7 t8 t9 f0' f1' f2' f3' f4' f5' f6' f7' f8' f9' hd5 k0 k1 k2 k3 k4 k5 k6 k7 k8 k9
          go_wp2_with fail
          try rw [Exit.noGoto_ret]
          refine bodyPost_ret (v := .tuple #[.agg #[.int .i64 h.node, .int .i64 h.type, .bool h.cap, .bool h.once, .int .i64 h.prog, .int .i64 cur.s.node, .int .i64 cur.s.tg, .int .i64 cur.s.rel, .int .i64 cur.phase, .bool cur.cap], .bool true]) (by simp [results, Tryz.results75, go_sem, k0', k1', k2', k3', k4', k5', k6', k7', k8', k9']) rfl ⟨(h, cur), true, left, cur, rest, rfl, HTT.out, HOK.out, fun _ => ⟨rfl, HX4.out⟩, fun e => (by cases e)⟩
      · skip
        go_wp2_with fail
        obtain ⟨V, hV⟩ : ∃ V, (wr.setCell ⟨b, 12, none⟩ (.slice (some ⟨bb, off + 5, none⟩) rest.length (c - 1))).alloc (.cells #[.int .i64 h.node, .int .i64 h.type, .bool h.cap, .bool h.once, .int .i64 h.prog] 35) = V := ⟨_, rfl⟩
        have hsU : (wr.setCell ⟨b, 12, none⟩ (.slice (some ⟨bb, off + 5, none⟩) rest.length (c - 1))).heap.size = wr.heap.size := by simp
        have ht0 : Turn b wr (wr.setCell ⟨b, 12, none⟩ (.slice (some ⟨bb, off + 5, none⟩) rest.length (c - 1))) := (Turn.refl b wr).setCell 12 _
        have hbA : Below (wr.setCell ⟨b, 12, none⟩ (.slice (some ⟨bb, off + 5, none⟩) rest.length (c - 1))).heap.size (wr.setCell ⟨b, 12, none⟩ (.slice (some ⟨bb, off + 5, none⟩) rest.length (c - 1))) V := by rw [← hV]; exact (Below.refl _ _).alloc (Nat.le_refl _) _
        have hTV : Turn b wr V := ht0.trans (Turn.of_below hbA)
        have hOKV : RefOk V b D1 k left cur rest := by
          refine RefOk.below ?_ hbA
          refine ⟨lv, .slice (some ⟨bb, off + 5, none⟩) rest.length (c - 1), ⟨set_other HRA.out.kind (by omega), set_other HRA.out.left (by omega), ⟨set_other HRA.out.cur.node (by omega), set_other HRA.out.cur.tg (by omega), set_other HRA.out.cur.rel (by omega), set_other HRA.out.cur.phase (by omega), set_other HRA.out.cur.cap (by omega)⟩, set_same HRA.out.wait, set_other HRA.out.stop (by omega), VisAt_turn HRA.out.lefts ht0 HOD.out.1, ?_⟩, fun j hj => by rw [World.frozen?_setCell]; exact HF.out j hj, ⟨HOD.out.1, Off.slice HBN.out⟩, HOD.out.2, fun d hd => Off.slice (HDN.out d hd)⟩
          refine HearsAt_turn ?_ ht0 (Off.slice HBN.out)
          exact ⟨_, _, rfl, by have := HRL.out; omega, fun h0 => ⟨bb, off + 5, rfl, fun j hj => by
            have h7 := HD.out (j + 1) (by simp; omega)
            rw [List.getD_cons_succ, show off + (j + 1) * 5 = off + 5 + j * 5 by omega] at h7
            exact h7⟩⟩
        have hh : HearAt ((wr.setCell ⟨b, 12, none⟩ (.slice (some ⟨bb, off + 5, none⟩) rest.length (c - 1))).alloc (.cells #[.int .i64 h.node, .int .i64 h.type, .bool h.cap, .bool h.once, .int .i64 h.prog] 35)) (wr.setCell ⟨b, 12, none⟩ (.slice (some ⟨bb, off + 5, none⟩) rest.length (c - 1))).heap.size 0 h := by
          generalize wr.setCell ⟨b, 12, none⟩ (.slice (some ⟨bb, off + 5, none⟩) rest.length (c - 1)) = U
          exact ⟨by simp, by simp, by simp, by simp, by simp⟩
        rw [hV, hsU] at hh
        have q0 := hh.node
        have q1 := hh.type
        have q2 := hh.cap
        have q3 := hh.once
        have q4 := hh.prog
        clear hh
        have HOV := hideG hOKV
        have HTV := hideG hTV
        have HA := hideG (refThere_any l h (.slice va l.length vc) V (HearsAt_turn HLW.out hTV HVO.out) hl)
        clear hOKV hTV hbA ht0 hsU
        rw [hV]
        refine HA.out.mono ?_
        rintro ex w4 ⟨rfl, hb4⟩
        have HTW := hideG (HT.out.trans (HTV.out.trans (Turn.of_below hb4)))
        clear hV
        cases ham : amongB l h
        · have HX4 := hideG (show nextL l k left cur rest = nextL l k left0 cur0 wait0 from (nextL_miss ham).symm.trans HX.out)
          have HO4 := hideG (RefOk.below HOV.out hb4)
          clear hb4 q0 q1 q2 q3 q4 ham c12 g0 g1 g2 g3 g4 f12
          go_wp2_with fail
          go_roundg (todo l.length left rest)
          case measure => rw [HG.out]; unfold todo; simp only [List.length_cons]; omega
          case rel => exact hideG ⟨left, cur, rest, rfl, HO4.out, HX4.out, HLL.out, by have := HWL.out; simp at this; omega, HTW.out⟩
        · have HX4 := hideG (show nextL l k left0 cur0 wait0 = some (h, cur, left, rest) from HX.out.symm.trans (nextL_hit ham))
          have HO4 := hideG (RefOk.below HOV.out hb4)
          have r0 := cell_below hb4 q0
          have r1 := cell_below hb4 q1
          have r2 := cell_below hb4 q2
          have r3 := cell_below hb4 q3
          have r4 := cell_below hb4 q4
          clear hb4 q0 q1 q2 q3 q4 ham c12 g0 g1 g2 g3 g4 f12
          have hne : w.heap.size ≠ b := by have := HBS.out; omega
          have HNE := hideG hne
          obtain ⟨lv', wv', hrb, _⟩ := HO4.out
          have e4 := hrb.cur.node
          have e5 := hrb.cur.tg
          have e6 := hrb.cur.rel
          have e7 := hrb.cur.phase
          have e8 := hrb.cur.cap
          simp only [Nat.reduceAdd] at e4 e5 e6 e7 e8
          have hlt2 : wr.heap.size < w4.heap.size := below_of_cell r0
          obtain ⟨z0, y0, g0⟩ := P.out 0 (by omega)
          obtain ⟨z1, y1, g1⟩ := P.out 1 (by omega)
          obtain ⟨z2, y2, g2⟩ := P.out 2 (by omega)
          obtain ⟨z3, y3, g3⟩ := P.out 3 (by omega)
          obtain ⟨z4, y4, g4⟩ := P.out 4 (by omega)
          obtain ⟨z5, y5, g5⟩ := P.out 5 (by omega)
          obtain ⟨z6, y6, g6⟩ := P.out 6 (by omega)
          obtain ⟨z7, y7, g7⟩ := P.out 7 (by omega)
          obtain ⟨z8, y8, g8⟩ := P.out 8 (by omega)
          obtain ⟨z9, y9, g9⟩ := P.out 9 (by omega)
          have fr := fun (j : Nat) (u : Value) (hc : W0.cell? ⟨w.heap.size, j, none⟩ = some u) (hf : W0.frozen? ⟨w.heap.size, j, none⟩ = false) => Turn.frozenAny HTW.out hc hne hf
          have f0' := fr 0 _ y0 g0
          have f1' := fr 1 _ y1 g1
          have f2' := fr 2 _ y2 g2
          have f3' := fr 3 _ y3 g3
          have f4' := fr 4 _ y4 g4
          have f5' := fr 5 _ y5 g5
          have f6' := fr 6 _ y6 g6
          have f7' := fr 7 _ y7 g7
          have f8' := fr 8 _ y8 g8
          have f9' := fr 9 _ y9 g9
          have t0 := HTW.out.cell y0 hne
          have t1 := HTW.out.cell y1 hne
          have t2 := HTW.out.cell y2 hne
          have t3 := HTW.out.cell y3 hne
          have t4 := HTW.out.cell y4 hne
          have t5 := HTW.out.cell y5 hne
          have t6 := HTW.out.cell y6 hne
          have t7 := HTW.out.cell y7 hne
          have t8 := HTW.out.cell y8 hne
          have t9 := HTW.out.cell y9 hne
          obtain ⟨W5, hW5, htw, k0, k1, k2, k3, k4, k5, k6, k7, k8, k9⟩ := set10 (x0 := .int .i64 h.node) (x1 := .int .i64 h.type) (x2 := .bool h.cap) (x3 := .bool h.once) (x4 := .int .i64 h.prog) (x5 := .int .i64 cur.s.node) (x6 := .int .i64 cur.s.tg) (x7 := .int .i64 cur.s.rel) (x8 := .int .i64 cur.phase) (x9 := .bool cur.cap) (U := w4) t0 t1 t2 t3 t4 t5 t6 t7 t8 t9
          have HW5 := hideG hW5
          have HTW5 := hideG htw
          clear hW5 htw y0 y1 y2 y3 y4 y5 y6 y7 y8 y9 g0 g1 g2 g3 g4 g5 g6 g7 g8 g9 fr hne hrb
          go_wp2_with fail
          go_region
          rw [← HW5.out]
          have hd5 := below_drewS W5
          have k0' := cell_below hd5 k0
          have k1' := cell_below hd5 k1
          have k2' := cell_below hd5 k2
          have k3' := cell_below hd5 k3
          have k4' := cell_below hd5 k4
          have k5' := cell_below hd5 k5
          have k6' := cell_below hd5 k6
          have k7' := cell_below hd5 k7
          have k8' := cell_below hd5 k8
          have k9' := cell_below hd5 k9
          have HOK := hideG (RefOk.sub ((RefOk.turn HO4.out HTW5.out HD1.out.2.2 (fun e => HNE.out e.symm)).below hd5) HD1.out.2.1)
          have HTT := hideG (show Turn b w W5.drew by
            rw [HW5.out]
            exact ((((((((((((Turn.of_below HB0.out).trans HTW.out).setNew (Nat.le_refl _) 0 _).setNew (Nat.le_refl _) 1 _).setNew (Nat.le_refl _) 2 _).setNew (Nat.le_refl _) 3 _).setNew (Nat.le_refl _) 4 _).setNew (Nat.le_refl _) 5 _).setNew (Nat.le_refl _) 6 _).setNew (Nat.le_refl _) 7 _).setNew (Nat.le_refl _) 8 _).setNew (Nat.le_refl _) 9 _).trans (Turn.of_below (below_drewS _)))
          clear t0 t1 t2 t3 t4 t5 t6 t7 t8 t9 f0' f1' f2' f3' f4' f5' f6' f7' f8' f9' hd5 k0 k1 k2 k3 k4 k5 k6 k7 k8 k9
          go_wp2_with fail
          try rw [Exit.noGoto_ret]
          refine bodyPost_ret (v := .tuple #[.agg #[.int .i64 h.node, .int .i64 h.type, .bool h.cap, .bool h.once, .int .i64 h.prog, .int .i64 cur.s.node, .int .i64 cur.s.tg, .int .i64 cur.s.rel, .int .i64 cur.phase, .bool cur.cap], .bool true]) (by simp [results, Tryz.results75, go_sem, k0', k1', k2', k3', k4', k5', k6', k7', k8', k9']) rfl ⟨(h, cur), true, left, cur, rest, rfl, HTT.out, HOK.out, fun _ => ⟨rfl, HX4.out⟩, fun e => (by cases e)⟩
end Go.Proofs.YtpmacpbhdgigfaaGreat
namespace Go.Proofs.YtpmacpbhdgigfaaGreat
open Go.RowKit
open L8 (Hr hrD HearAt HearsAt forL hearsP hearCells dropL)

structure RefK (kind : Int) (l0 : List Hr) (L0 : List Vi) (w1 : World) (b : Nat) (va : Option Addr) (vc : Nat) (oa : Option Addr) (oc : Nat) (l : List Hr) (out : List Cl) (left : List Vi) (cur : Vi) (wait : List Hr) (wr : World) : Prop where
  hears : HearsAt wr (.slice va l.length vc) l
  off : Off b (.slice va l.length vc)
  offr : ∀ z, oa = some z → Off z.block (.slice va l.length vc)
  few : l.length ≤ 1000
  row : wr.ownsRow w1.heap.size 46 10 (.slice oa out.length oc) out.length (callCells out)
  run : RefOk wr b (fun d => ∃ z : Addr, oa = some z ∧ d = z.block) kind left cur wait
  turn : Turn b w1 wr
  yes : ∀ rest, AllR kind l left cur wait rest → AllR kind l0 L0 viD [] (out ++ rest)
  lens : left.length ≤ L0.length ∧ wait.length ≤ 1000
  cnt : out.length + todo 1000 left wait ≤ todo 1000 L0 []
theorem infoCr : (Tryz.prog.info? 46).map (fun i => (i.zero, i.size, i.bytes)) = some (some (.agg #[.int .i64 0, .int .i64 0, .bool false, .bool false, .int .i64 0, .int .i64 0, .int .i64 0, .int .i64 0, .int .i64 0, .bool false]), 10, 72) := by kernel_rfl

set_option maxRecDepth 100000 in
set_option maxHeartbeats 4000000 in
theorem refAllNone_any (T : List Nd) (hS : Sane T) (v : Value) (e : Ev) (w : World) (hT : TreeAt w v T) (hb : bothB T e.target e.target = false) (a : Option Addr) (n c : Nat) :
    Calls Tryz.prog 22 #[v, .agg #[.int .i64 e.type, .int .i64 e.target, .int .i64 e.related, .bool e.bub, .bool e.can, .bool e.comp], .slice a n c] w fun x w' => x = .returned (.slice none 0 0) ∧ Below w.heap.size w w' := by
  obtain ⟨ta, tc, rfl⟩ := hT.shape
  obtain ⟨W0, hW0⟩ : ∃ W0, w.alloc (.cells #[.int .i64 e.type, .int .i64 e.target, .int .i64 e.related, .bool e.bub, .bool e.can, .bool e.comp] 25) = W0 := ⟨_, rfl⟩
  have HB0 := hideG (show Below w.heap.size w W0 by rw [← hW0]; exact (Below.refl _ w).alloc (Nat.le_refl _) _)
  have HN := hideG (refNewNone_any T hS _ e W0 (hT.below HB0.out) hb)
  have HW0 := hideG hW0
  clear hW0 hT hb
  go_enter Tryz.func22, Tryz.ntmps22
  go_wp2_with fail
  rw [HW0.out]
  refine HN.out.mono ?_
  rintro ex w1 ⟨rfl, hb1⟩
  have HB1 := hideG (HB0.out.trans (hb1.mono HB0.out.size))
  clear hb1
  go_wp2_with fail
  go_ret
  exact ⟨rfl, HB1.out⟩

set_option maxRecDepth 100000 in
set_option maxHeartbeats 16000000 in
theorem refAll_any (T : List Nd) (hS : Sane T) (v : Value) (e : Ev) (w : World) (hT : TreeAt w v T) (l : List Hr) (vl : Value) (hL : HearsAt w vl l) (hl : l.length ≤ 1000) (hm : mayB T = true) (tg : Nat) (htg : e.target = (tg : Int)) (htl : tg < T.length) (hvs : (visitsI T e).length ≤ 2000) :
    Calls Tryz.prog 22 #[v, .agg #[.int .i64 e.type, .int .i64 e.target, .int .i64 e.related, .bool e.bub, .bool e.can, .bool e.comp], vl] w fun x w' => ∃ a c out, x = .returned (.slice a out.length c) ∧ w'.ownsRow w.heap.size 46 10 (.slice a out.length c) out.length (callCells out) ∧ AllR e.type l (visitsI T e) viD [] out ∧ Below w.heap.size w w' := by
  obtain ⟨i0, hi0, hz0, hz1, hz2⟩ := info_parts infoCr
  obtain ⟨ta, tc, rfl⟩ := hT.shape
  obtain ⟨va, vc, rfl⟩ := hL.shape
  obtain ⟨W0, hW0⟩ : ∃ W0, w.alloc (.cells #[.int .i64 e.type, .int .i64 e.target, .int .i64 e.related, .bool e.bub, .bool e.can, .bool e.comp] 25) = W0 := ⟨_, rfl⟩
  have HB0 := hideG (show Below w.heap.size w W0 by rw [← hW0]; exact (Below.refl _ w).alloc (Nat.le_refl _) _)
  have HL0 := hideG (hL.below HB0.out)
  have HN := hideG (refNew_any T hS _ e W0 (hT.below HB0.out) hm tg htg htl)
  have HSV := hideG (show (visitsI T e).length ≤ 2000 from hvs)
  have HW0 := hideG hW0
  clear hW0 hT hL hm htg htl hS hvs
  go_enter Tryz.func22, Tryz.ntmps22
  go_wp2_with fail
  rw [HW0.out]
  refine HN.out.mono ?_
  rintro ex w1 ⟨b, rfl, hrun, hbW, hb1⟩
  obtain ⟨L0, hL0⟩ : ∃ L0, visitsI T e = L0 := ⟨_, rfl⟩
  rw [hL0] at hrun HSV
  have HLV := hideG hL0
  clear hL0
  have hr1 : RefOk w1 b (fun d => ∃ z : Addr, (none : Option Addr) = some z ∧ d = z.block) e.type L0 viD [] := hrun _ (fun d ⟨z, q, _⟩ => (by cases q))
  have HB1 := hideG (HB0.out.trans (hb1.mono HB0.out.size))
  have HK := hideG (show RefK e.type l L0 w1 b va vc none 0 l [] L0 viD [] w1 from ⟨HL0.out.below hb1, Off.hears HL0.out hbW, fun z q => (by cases q), hl, World.ownsRow_nil _ _ _ _, hr1, Turn.refl b w1, fun rest hr => hr, ⟨Nat.le_refl _, by simp⟩, by simp⟩)
  have HBW := hideG (show W0.heap.size ≤ b ∧ b < w1.heap.size from ⟨hbW, hr1.lt⟩)
  clear hrun hb1 hbW hr1 HN HL0
  go_wp2_with fail
  go_loopg [2, 7] (todo 1000 L0 []) (fun g s2 s7 wr => Hid (∃ va vc oa oc l' out left cur wait, s2 = .slice va (List.length (α := Hr) l') vc ∧ s7 = .slice oa (List.length (α := Cl) out) oc ∧ g = todo 1000 left wait ∧ RefK e.type l L0 w1 b va vc oa oc l' out left cur wait wr))
  case atStart => exact hideG ⟨_, _, _, _, _, [], _, _, _, rfl, rfl, rfl, HK.out⟩
  case round =>
    obtain ⟨va, vc, oa, oc, l', out, left, cur, wait, rfl, rfl, hg, hK⟩ := hrel.out
    clear hrel HK
    have HKK := hideG hK
    have HG := hideG hg
    have HX := hideG (refNext_any wr b _ e.type left cur wait (.slice va l'.length vc) l' hK.hears (by have := hK.few; omega) hK.run (fun d ⟨z, q, r⟩ => by rw [r]; exact (hK.row.lt z.block (by rw [q]; rfl)).2) (by have := hK.lens.1; have := HSV.out; omega) (by have := hK.lens.2; omega) hK.off)
    clear hg hK
    go_wp2_with fail
    refine HX.out.mono ?_
    rintro ex w2 ⟨c, isb, left', cur', wait', rfl, ht2, hk2, hy2, hn2⟩
    obtain ⟨g, hgg⟩ : ∃ g, w2.heap.size = g := ⟨_, rfl⟩
    obtain ⟨W3, hW3⟩ : ∃ W3, w2.alloc (.cells #[.int .i64 c.1.node, .int .i64 c.1.type, .bool c.1.cap, .bool c.1.once, .int .i64 c.1.prog, .int .i64 c.2.s.node, .int .i64 c.2.s.tg, .int .i64 c.2.s.rel, .int .i64 c.2.phase, .bool c.2.cap] 46) = W3 := ⟨_, rfl⟩
    have hb3 : Below w2.heap.size w2 W3 := by rw [← hW3]; exact (Below.refl _ w2).alloc (Nat.le_refl _) _
    have HT3 := hideG ((HKK.out.turn.trans ht2).trans (Turn.of_below hb3))
    have HW3 := hideG hW3
    cases isb
    · obtain ⟨hcz, rfl, rfl, hnx⟩ := hn2 rfl
      clear hcz
      have HRO := hideG (ownsRow_below (ownsRow_turn HKK.out.row ht2 HBW.out.2) hb3 (fun g e => ((ownsRow_turn HKK.out.row ht2 HBW.out.2).lt g e).2))
      have HAL := hideG (show AllR e.type l L0 viD [] out by have := HKK.out.yes [] (AllR.done hnx); rwa [List.append_nil] at this)
      clear hb3 hW3 ht2 hk2 hy2 hn2 hnx
      have hZ := HW3.out
      go_wp2_with fail
      go_ret
      have hB := Turn.below HB1.out HT3.out (by have := HBW.out; have := HB0.out.size; omega)
      exact ⟨oa, oc, out, rfl, ownsRow_base HRO.out HB1.out.size, by rw [HLV.out]; exact HAL.out, hB⟩
    · obtain ⟨hcur, hnx⟩ := hy2 rfl
      subst hcur
      have HC3 := hideG (show CallAt W3 g 0 c by rw [← hW3, ← hgg]; exact callAt_new w2 46 c)
      have HGN := hideG (show ∀ z : Addr, oa = some z → z.block < g from fun z q => by
        have h1 := (HKK.out.row.lt z.block (by rw [q]; rfl)).2
        have h2 := ht2.size
        omega)
      have HEAR3 := hideG ((HearsAt_turn HKK.out.hears ht2 HKK.out.off).below hb3)
      have HRU0 := ownsRow_below (ownsRow_turn HKK.out.row ht2 HBW.out.2) hb3 (fun g e => ((ownsRow_turn HKK.out.row ht2 HBW.out.2).lt g e).2)
      have HOK3 := hideG (RefOk.below hk2 hb3)
      have HOFF := hideG HKK.out.off
      have HOFR := hideG HKK.out.offr
      have HFEW := hideG HKK.out.few
      have HYES := hideG HKK.out.yes
      have HNX := hideG hnx
      have HTD := hideG (todo_lt HKK.out.few hnx)
      have HLW := hideG (show left'.length ≤ L0.length ∧ wait'.length ≤ 1000 from ⟨Nat.le_trans (wait_le HKK.out.few HKK.out.lens.2 hnx).2 HKK.out.lens.1, (wait_le HKK.out.few HKK.out.lens.2 hnx).1⟩)
      have HSZ3 := hideG (show w1.heap.size ≤ W3.heap.size from HT3.out.size)
      have hcnt : out.length + 1 + todo 1000 left' wait' ≤ todo 1000 L0 [] := by have h1 := HKK.out.cnt; have h2 := HTD.out; omega
      have hcl : out.length + 1 ≤ 2100000 := by
        have h2 := HSV.out
        unfold todo at hcnt
        simp only [List.length_nil] at hcnt
        have h3 : L0.length * (1000 + 1) ≤ 2000 * (1000 + 1) := Nat.mul_le_mul_right _ h2
        omega
      have HCNT := hideG hcnt
      have HCL := hideG hcl
      clear hb3 hW3 ht2 hk2 hy2 hn2 hnx hcnt hcl HX HKK
      generalize hn : out.length = n at *
      have HN := hideG hn
      have HRU := hideG HRU0
      clear hn HRU0
      obtain ⟨⟨n0, t0, c0, o0, p0⟩, ⟨⟨s0, s1, s2⟩, ph, cc⟩⟩ := c
      dsimp only at HW3 ⊢
      cases o0
      · skip
        have HE := hideG (show CallAt W3 g 0 ((⟨n0, t0, c0, false, p0⟩, ⟨⟨s0, s1, s2⟩, ph, cc⟩) : Cl) from HC3.out)
        obtain ⟨k0, k1, k2, k3, k4, k5, k6, k7, k8, k9⟩ := HE.out
        dsimp only [Nat.zero_add] at k0 k1 k2 k3 k4 k5 k6 k7 k8 k9
        have hgl : g < W3.heap.size := below_of_cell k0
        go_wp2_with (first | rw [HW3.out] | (at_builtin; refine wpList_append_any rfl (.tmp 28) (.tmp 30) 31 rfl w1.heap.size 46 i0 _ 10 72 Tryz.underlying31 hi0 hz0 hz1 hz2 rfl (by decide) _ n (callCells out) rfl (HRU.out.alloc _) _ 1 (callCs ((⟨n0, t0, c0, false, p0⟩, ⟨⟨s0, s1, s2⟩, ph, cc⟩) : Cl)) rfl (holds_call (callAt_new W3 46 ((⟨n0, t0, c0, false, p0⟩, ⟨⟨s0, s1, s2⟩, ph, cc⟩) : Cl))) rfl ?h2 ?h3 ?h4 ?h5 ?_))
        case h2 => exact callCs_one _
        case h3 => have := HCL.out; simp only [maxLen]; omega
        case h4 => have := HCL.out; omega
        case h5 => have := HSZ3.out; simp; omega
        intro v4 w4 ho4 hg4 hf4
        obtain ⟨a4, c4, rfl⟩ := ownsRow_shape ho4
        rw [callCells_snoc] at ho4
        obtain ⟨UA, hUA⟩ : ∃ UA, W3.alloc (.cells #[.int .i64 n0, .int .i64 t0, .bool c0, .bool false, .int .i64 p0, .int .i64 s0, .int .i64 s1, .int .i64 s2, .int .i64 ph, .bool cc] 46) = UA := ⟨_, rfl⟩
        have hg4' : UA.grownBy w4 (Value.slice oa n oc).ownBlock := by rw [← hUA]; exact hg4
        have hf4' : ∀ k, (Value.slice a4 (n + 1) c4).ownBlock = some k → (Value.slice oa n oc).ownBlock = some k ∨ UA.heap.size ≤ k := fun k e => by
          rcases hf4 k e with h | h
          · exact .inl h
          · exact .inr (by rw [← hUA, World.size_alloc]; exact h)
        have hbUA : Below W3.heap.size W3 UA := by rw [← hUA]; exact (Below.refl _ _).alloc (Nat.le_refl _) _
        clear hg4 hf4
        have hrowB : ∀ k, (Value.slice oa n oc).ownBlock = some k → w1.heap.size ≤ k ∧ k < W3.heap.size := fun k e => HRU.out.lt k e
        have hoz : ∀ k, (Value.slice oa n oc).ownBlock = some k → ∃ z : Addr, oa = some z ∧ k = z.block := fun k e => by
          cases oa with
          | none => cases e
          | some z => cases e; exact ⟨z, rfl, rfl⟩
        have ha4 : ∀ z : Addr, a4 = some z → (Value.slice oa n oc).ownBlock = some z.block ∨ UA.heap.size ≤ z.block := fun z e => hf4' z.block (by rw [e]; rfl)
        have hbb := HBW.out.2
        have h4t : Turn b w1 w4 := turn_grown (HT3.out.trans (Turn.of_below hbUA)) hg4' (fun k e => (hrowB k e).1) hbb
        have h4h : HearsAt w4 (.slice va l'.length vc) l' := hears_grown hg4' (HEAR3.out.below hbUA) (fun k e => by obtain ⟨z, e1, e2⟩ := hoz k e; rw [e2]; exact HOFR.out z e1)
        have h4r : RefOk w4 b (fun d => ∃ z : Addr, a4 = some z ∧ d = z.block) e.type left' (((⟨n0, t0, c0, false, p0⟩, ⟨⟨s0, s1, s2⟩, ph, cc⟩) : Cl)).2 wait' := by
          have r1 := RefOk.below HOK3.out hbUA
          have r2 := RefOk.fresh (D' := fun d => (∃ z : Addr, oa = some z ∧ d = z.block) ∨ UA.heap.size ≤ d) r1 (fun d k => k)
          have r3 := RefOk.grown r2 hg4' (fun k e => ⟨.inl (by obtain ⟨z, e1, e2⟩ := hoz k e; exact ⟨z, e1, e2⟩), by have := (hrowB k e).1; omega⟩)
          refine RefOk.sub r3 (fun d k => ?_)
          obtain ⟨z, e1, e2⟩ := k
          rcases ha4 z e1 with h | h
          · obtain ⟨z', e3, e4⟩ := hoz _ h; exact .inl ⟨z', e3, by rw [e2, e4]⟩
          · exact .inr (by rw [e2]; exact h)
        have h4o : ∀ z : Addr, a4 = some z → Off z.block (.slice va l'.length vc) := fun z e => by
          rcases ha4 z e with h | h
          · obtain ⟨z', e3, e4⟩ := hoz _ h; rw [e4]; exact HOFR.out z' e3
          · exact Off.hears HEAR3.out (Nat.le_trans hbUA.size h)
        have hgne : (Value.slice oa n oc).ownBlock ≠ some g := fun e => by obtain ⟨z, e1, e2⟩ := hoz g e; have := HGN.out z e1; omega
        obtain ⟨m0, m1, m2, m3, m4, m5, m6, m7, m8, m9⟩ : CallAt w4 g 0 ((⟨n0, t0, c0, false, p0⟩, ⟨⟨s0, s1, s2⟩, ph, cc⟩) : Cl) := CallAt.grown hg4' (CallAt.below HE.out hbUA) hgne
        dsimp only [Nat.zero_add] at m0 m1 m2 m3 m4 m5 m6 m7 m8 m9
        have hgl4 : g < w4.heap.size := below_of_cell m0
        have HO4 := hideG ho4
        have H4T := hideG h4t
        have H4H := hideG h4h
        have H4O := hideG h4o
        have H4R := hideG h4r
        have hlen : (out ++ [((⟨n0, t0, c0, false, p0⟩, ⟨⟨s0, s1, s2⟩, ph, cc⟩) : Cl)]).length = n + 1 := by rw [List.length_append, HN.out]; rfl
        have HLEN2 := hideG hlen
        clear k0 k1 k2 k3 k4 k5 k6 k7 k8 k9 ho4 h4t h4h h4r h4o hgne ha4 hoz hrowB hbb hbUA hf4' hg4' hUA hgl hlen
        go_wp2_with fail
        go_roundg (todo 1000 left' wait')
        case measure => rw [HG.out]; exact HTD.out
        case rel => exact hideG ⟨va, vc, a4, c4, l', out ++ [((⟨n0, t0, c0, false, p0⟩, ⟨⟨s0, s1, s2⟩, ph, cc⟩) : Cl)], left', (((⟨n0, t0, c0, false, p0⟩, ⟨⟨s0, s1, s2⟩, ph, cc⟩) : Cl)).2, wait', rfl, by rw [HLEN2.out], rfl, H4H.out, HOFF.out, H4O.out, HFEW.out, by rw [HLEN2.out]; exact HO4.out, H4R.out, H4T.out, fun rest hr => by
          have := HYES.out (((⟨n0, t0, c0, false, p0⟩, ⟨⟨s0, s1, s2⟩, ph, cc⟩) : Cl) :: rest) (AllR.call HNX.out hr)
          rw [List.append_assoc]
          exact this, HLW.out, by rw [HLEN2.out]; have := HCNT.out; omega⟩
      · skip
        have HE := hideG (show CallAt W3 g 0 ((⟨n0, t0, c0, true, p0⟩, ⟨⟨s0, s1, s2⟩, ph, cc⟩) : Cl) from HC3.out)
        obtain ⟨k0, k1, k2, k3, k4, k5, k6, k7, k8, k9⟩ := HE.out
        dsimp only [Nat.zero_add] at k0 k1 k2 k3 k4 k5 k6 k7 k8 k9
        have hgl : g < W3.heap.size := below_of_cell k0
        go_wp2_with (first | rw [HW3.out] | (at_builtin; refine wpList_append_any rfl (.tmp 28) (.tmp 30) 31 rfl w1.heap.size 46 i0 _ 10 72 Tryz.underlying31 hi0 hz0 hz1 hz2 rfl (by decide) _ n (callCells out) rfl (HRU.out.alloc _) _ 1 (callCs ((⟨n0, t0, c0, true, p0⟩, ⟨⟨s0, s1, s2⟩, ph, cc⟩) : Cl)) rfl (holds_call (callAt_new W3 46 ((⟨n0, t0, c0, true, p0⟩, ⟨⟨s0, s1, s2⟩, ph, cc⟩) : Cl))) rfl ?h2 ?h3 ?h4 ?h5 ?_))
        case h2 => exact callCs_one _
        case h3 => have := HCL.out; simp only [maxLen]; omega
        case h4 => have := HCL.out; omega
        case h5 => have := HSZ3.out; simp; omega
        intro v4 w4 ho4 hg4 hf4
        obtain ⟨a4, c4, rfl⟩ := ownsRow_shape ho4
        rw [callCells_snoc] at ho4
        obtain ⟨UA, hUA⟩ : ∃ UA, W3.alloc (.cells #[.int .i64 n0, .int .i64 t0, .bool c0, .bool true, .int .i64 p0, .int .i64 s0, .int .i64 s1, .int .i64 s2, .int .i64 ph, .bool cc] 46) = UA := ⟨_, rfl⟩
        have hg4' : UA.grownBy w4 (Value.slice oa n oc).ownBlock := by rw [← hUA]; exact hg4
        have hf4' : ∀ k, (Value.slice a4 (n + 1) c4).ownBlock = some k → (Value.slice oa n oc).ownBlock = some k ∨ UA.heap.size ≤ k := fun k e => by
          rcases hf4 k e with h | h
          · exact .inl h
          · exact .inr (by rw [← hUA, World.size_alloc]; exact h)
        have hbUA : Below W3.heap.size W3 UA := by rw [← hUA]; exact (Below.refl _ _).alloc (Nat.le_refl _) _
        clear hg4 hf4
        have hrowB : ∀ k, (Value.slice oa n oc).ownBlock = some k → w1.heap.size ≤ k ∧ k < W3.heap.size := fun k e => HRU.out.lt k e
        have hoz : ∀ k, (Value.slice oa n oc).ownBlock = some k → ∃ z : Addr, oa = some z ∧ k = z.block := fun k e => by
          cases oa with
          | none => cases e
          | some z => cases e; exact ⟨z, rfl, rfl⟩
        have ha4 : ∀ z : Addr, a4 = some z → (Value.slice oa n oc).ownBlock = some z.block ∨ UA.heap.size ≤ z.block := fun z e => hf4' z.block (by rw [e]; rfl)
        have hbb := HBW.out.2
        have h4t : Turn b w1 w4 := turn_grown (HT3.out.trans (Turn.of_below hbUA)) hg4' (fun k e => (hrowB k e).1) hbb
        have h4h : HearsAt w4 (.slice va l'.length vc) l' := hears_grown hg4' (HEAR3.out.below hbUA) (fun k e => by obtain ⟨z, e1, e2⟩ := hoz k e; rw [e2]; exact HOFR.out z e1)
        have h4r : RefOk w4 b (fun d => ∃ z : Addr, a4 = some z ∧ d = z.block) e.type left' (((⟨n0, t0, c0, true, p0⟩, ⟨⟨s0, s1, s2⟩, ph, cc⟩) : Cl)).2 wait' := by
          have r1 := RefOk.below HOK3.out hbUA
          have r2 := RefOk.fresh (D' := fun d => (∃ z : Addr, oa = some z ∧ d = z.block) ∨ UA.heap.size ≤ d) r1 (fun d k => k)
          have r3 := RefOk.grown r2 hg4' (fun k e => ⟨.inl (by obtain ⟨z, e1, e2⟩ := hoz k e; exact ⟨z, e1, e2⟩), by have := (hrowB k e).1; omega⟩)
          refine RefOk.sub r3 (fun d k => ?_)
          obtain ⟨z, e1, e2⟩ := k
          rcases ha4 z e1 with h | h
          · obtain ⟨z', e3, e4⟩ := hoz _ h; exact .inl ⟨z', e3, by rw [e2, e4]⟩
          · exact .inr (by rw [e2]; exact h)
        have h4o : ∀ z : Addr, a4 = some z → Off z.block (.slice va l'.length vc) := fun z e => by
          rcases ha4 z e with h | h
          · obtain ⟨z', e3, e4⟩ := hoz _ h; rw [e4]; exact HOFR.out z' e3
          · exact Off.hears HEAR3.out (Nat.le_trans hbUA.size h)
        have hgne : (Value.slice oa n oc).ownBlock ≠ some g := fun e => by obtain ⟨z, e1, e2⟩ := hoz g e; have := HGN.out z e1; omega
        obtain ⟨m0, m1, m2, m3, m4, m5, m6, m7, m8, m9⟩ : CallAt w4 g 0 ((⟨n0, t0, c0, true, p0⟩, ⟨⟨s0, s1, s2⟩, ph, cc⟩) : Cl) := CallAt.grown hg4' (CallAt.below HE.out hbUA) hgne
        dsimp only [Nat.zero_add] at m0 m1 m2 m3 m4 m5 m6 m7 m8 m9
        have hgl4 : g < w4.heap.size := below_of_cell m0
        have HO4 := hideG ho4
        have H4T := hideG h4t
        have H4H := hideG h4h
        have H4O := hideG h4o
        have H4R := hideG h4r
        have hlen : (out ++ [((⟨n0, t0, c0, true, p0⟩, ⟨⟨s0, s1, s2⟩, ph, cc⟩) : Cl)]).length = n + 1 := by rw [List.length_append, HN.out]; rfl
        have HLEN2 := hideG hlen
        clear k0 k1 k2 k3 k4 k5 k6 k7 k8 k9 ho4 h4t h4h h4r h4o hgne ha4 hoz hrowB hbb hbUA hf4' hg4' hUA hgl hlen
        have HDR := hideG (L8.refDrop_any l' ((⟨n0, t0, c0, true, p0⟩, ⟨⟨s0, s1, s2⟩, ph, cc⟩) : Cl).1 (.slice va l'.length vc) w4 H4H.out (by have := HFEW.out; omega))
        go_wp2_with fail
        refine HDR.out.mono ?_
        rintro ex w5 ⟨va2, vc2, rfl, hhu, hub, hor⟩
        have HH5 := hideG hhu
        have HB5 := hideG hub
        have hoffs : ∀ d, d < w4.heap.size → Off d (.slice va l'.length vc) → Off d (.slice va2 (dropL l' ((⟨n0, t0, c0, true, p0⟩, ⟨⟨s0, s1, s2⟩, ph, cc⟩) : Cl).1).length vc2) := by
          intro d hd ho c' o' n' k' e h0
          injection e with e1 e2 e3
          subst e1
          by_cases hc : c' < w4.heap.size
          · exact ho c' o' (dropL l' ((⟨n0, t0, c0, true, p0⟩, ⟨⟨s0, s1, s2⟩, ph, cc⟩) : Cl).1).length vc2 (by rw [← hor _ rfl hc]) (by omega)
          · omega
        have HOFS := hideG hoffs
        clear m0 m1 m2 m3 m4 m5 m6 m7 m8 m9 hhu hub hor hoffs HDR
        go_wp2_with fail
        go_roundg (todo 1000 left' wait')
        case measure => rw [HG.out]; exact HTD.out
        case rel => exact hideG ⟨va2, vc2, a4, c4, dropL l' ((⟨n0, t0, c0, true, p0⟩, ⟨⟨s0, s1, s2⟩, ph, cc⟩) : Cl).1, out ++ [((⟨n0, t0, c0, true, p0⟩, ⟨⟨s0, s1, s2⟩, ph, cc⟩) : Cl)], left', (((⟨n0, t0, c0, true, p0⟩, ⟨⟨s0, s1, s2⟩, ph, cc⟩) : Cl)).2, wait', rfl, by rw [HLEN2.out], rfl, HH5.out, HOFS.out b (Nat.lt_of_lt_of_le HBW.out.2 H4T.out.size) HOFF.out, fun z e => HOFS.out z.block (HO4.out.lt z.block (by rw [e]; rfl)).2 (H4O.out z e), by have := dropL_le l' ((⟨n0, t0, c0, true, p0⟩, ⟨⟨s0, s1, s2⟩, ph, cc⟩) : Cl).1; have := HFEW.out; omega, by rw [HLEN2.out]; exact ownsRow_below HO4.out HB5.out (fun g e => (HO4.out.lt g e).2), RefOk.below H4R.out HB5.out, H4T.out.trans (Turn.of_below HB5.out), fun rest hr => by
          have := HYES.out (((⟨n0, t0, c0, true, p0⟩, ⟨⟨s0, s1, s2⟩, ph, cc⟩) : Cl) :: rest) (AllR.call HNX.out hr)
          rw [List.append_assoc]
          exact this, HLW.out, by rw [HLEN2.out]; have := HCNT.out; omega⟩
end Go.Proofs.YtpmacpbhdgigfaaGreat
