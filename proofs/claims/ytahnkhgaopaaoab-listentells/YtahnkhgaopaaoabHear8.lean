/- The document's own Drop of layer 8. -/
import Derived.Test.YtahnkhgaopaaoabHear7
namespace Go.Proofs.Ytahnkhgaopaaoab
open Go.RowKit

theorem cut_take {l : List Hr} {k q : Nat} (h : k < l.length) : cutL (l.take (k + 1)) q = cutL (l.take k) q ++ (if k = q then [] else [l.getD k hrD]) := by
  have hg : l.getD k hrD = l[k] := by rw [List.getD_eq_getElem?_getD, List.getElem?_eq_getElem h]; rfl
  rw [List.take_succ_eq_append_getElem h, hg]
  unfold cutL
  have hlk : (l.take k).length = k := by rw [List.length_take]; omega
  rcases Nat.lt_trichotomy k q with hk | hk | hk
  · have e1 : (l.take k ++ [l[k]]).take q = l.take k ++ [l[k]] := List.take_of_length_le (by rw [List.length_append, hlk]; simp; omega)
    have e2 : (l.take k ++ [l[k]]).drop (q + 1) = [] := List.drop_of_length_le (by rw [List.length_append, hlk]; simp; omega)
    have e3 : (l.take k).take q = l.take k := List.take_of_length_le (by omega)
    have e4 : (l.take k).drop (q + 1) = [] := List.drop_of_length_le (by omega)
    rw [if_neg (by omega), e1, e2, e3, e4]
    simp
  · subst hk
    have e1 : (l.take k ++ [l[k]]).take k = l.take k := by rw [List.take_append_of_le_length (by omega)]; exact List.take_of_length_le (by omega)
    have e2 : (l.take k ++ [l[k]]).drop (k + 1) = [] := List.drop_of_length_le (by rw [List.length_append, hlk]; simp)
    have e3 : (l.take k).take k = l.take k := List.take_of_length_le (by omega)
    have e4 : (l.take k).drop (k + 1) = [] := List.drop_of_length_le (by omega)
    rw [if_pos rfl, e1, e2, e3, e4]
    simp
  · rw [if_neg (by omega), List.take_append_of_le_length (by omega), List.drop_append_of_le_length (by omega), List.append_assoc]

set_option maxRecDepth 100000 in
set_option maxHeartbeats 4000000 in
theorem refDrop_any (l : List Hr) (h : Hr) (v : Value) (w : World) (hL : HearsAt w v l) (hl : l.length ≤ 100000) :
    Calls Try.prog 12 #[v, .agg #[.int .i64 h.node, .int .i64 h.type, .bool h.cap, .bool h.once, .int .i64 h.prog]] w fun x w' => ∃ a c, x = .returned (.tuple #[.slice a (dropL l h).length c, .int .i64 (dropE l h)]) ∧ HearsAt w' (.slice a (dropL l h).length c) (dropL l h) ∧ Below w.heap.size w w' := by
  obtain ⟨i0, hi0, hz0, hz1, hz2⟩ := info_parts infoT24
  have h6 : l.length ≤ 1000000 := by omega
  have HL := hideG hL
  obtain ⟨a, cap, rfl⟩ := hL.shape
  obtain ⟨W0, hW0⟩ : ∃ W0, w.alloc (.cells #[.int .i64 h.node, .int .i64 h.type, .bool h.cap, .bool h.once, .int .i64 h.prog] 24) = W0 := ⟨_, rfl⟩
  have HH : Hid (HearAt W0 w.heap.size 0 h) := by rw [← hW0]; exact ⟨by simp, by simp, by simp, by simp, by simp⟩
  have HB0 := hideG (show Below w.heap.size w W0 by rw [← hW0]; exact (Below.refl _ w).alloc (Nat.le_refl _) _)
  have HW0 := hideG hW0
  clear hL hW0
  cases hm : mayH h
  · have hq1 : dropL l h = l := by simp [dropL, hm]
    have hq2 : dropE l h = 1 := by simp [dropE, hm]
    rw [hq1, hq2]
    have HM := hideG hm
    clear hm hq1 hq2
    go_enter Try.func12, Try.ntmps12
    go_wp2_with fail
    rw [HW0.out]
    refine (refMay_any h _).mono ?_
    rintro e w1 ⟨rfl, hb1⟩
    rw [HM.out]
    have HB1 := hideG (HB0.out.trans (hb1.mono HB0.out.size))
    have HG := hideG (HH.out.below hb1)
    have h0 := HG.out.node
    have h1 := HG.out.type
    have h2 := HG.out.cap
    have h3 := HG.out.once
    have h4 := HG.out.prog
    clear hb1
    go_wp2_with fail
    go_ret2
    exact ⟨a, cap, rfl, HL.out.below HB1.out, HB1.out⟩
  · have HM := hideG hm
    cases hh : hasB l h
    · have EF := hideG (show findI l h = -1 by rw [findI_has, hh]; rfl)
      have hq1 : dropL l h = l := by simp [dropL, hm, hh]
      have hq2 : dropE l h = 9 := by simp [dropE, hm, hh]
      rw [hq1, hq2]
      clear hm hh hq1 hq2
      go_enter Try.func12, Try.ntmps12
      go_wp2_with fail
      rw [HW0.out]
      refine (refMay_any h _).mono ?_
      rintro e w1 ⟨rfl, hb1⟩
      rw [HM.out]
      have HB1 := hideG (HB0.out.trans (hb1.mono HB0.out.size))
      have HG := hideG (HH.out.below hb1)
      have h0 := HG.out.node
      have h1 := HG.out.type
      have h2 := HG.out.cap
      have h3 := HG.out.once
      have h4 := HG.out.prog
      clear hb1
      go_wp2_with fail
      refine (refPlace_any l h _ _ (HL.out.below HB1.out) h6).mono ?_
      rintro e w2 ⟨rfl, hb2⟩
      rw [EF.out]
      have HB2 := hideG (HB1.out.trans (hb2.mono HB1.out.size))
      clear hb2 h0 h1 h2 h3 h4
      go_wp2_with fail
      go_ret2
      exact ⟨a, cap, rfl, HL.out.below HB2.out, HB2.out⟩
    · have EF := hideG (show findI l h = (findL h l : Int) by rw [findI_has, hh]; rfl)
      have hfl : findL h l < l.length := by simpa [hasB] using hh
      have hq1 : dropL l h = cutL l (findL h l) := by simp [dropL, hm, hh]
      have hq2 : dropE l h = 0 := by simp [dropE, hm, hh]
      rw [hq1, hq2]
      clear hm hh hq1 hq2
      generalize findL h l = q at *
      have hq0 : (0 : Int) ≤ (q : Int) := by omega
      have hqn : ¬ ((q : Int) < 0) := by omega
      obtain ⟨a', cap', hv', hcap', hc'⟩ := HL.out
      simp only [Value.slice.injEq, true_and] at hv'
      obtain ⟨rfl, rfl⟩ := hv'
      have HC := hideG hc'
      clear hc' hcap'
      go_enter Try.func12, Try.ntmps12
      go_wp2_with fail
      rw [HW0.out]
      refine (refMay_any h _).mono ?_
      rintro e w1 ⟨rfl, hb1⟩
      rw [HM.out]
      have HB1 := hideG (HB0.out.trans (hb1.mono HB0.out.size))
      have HG := hideG (HH.out.below hb1)
      have h0 := HG.out.node
      have h1 := HG.out.type
      have h2 := HG.out.cap
      have h3 := HG.out.once
      have h4 := HG.out.prog
      clear hb1
      go_wp2_with fail
      refine (refPlace_any l h _ _ (HL.out.below HB1.out) h6).mono ?_
      rintro e w2 ⟨rfl, hb2⟩
      rw [EF.out]
      have HB2 := hideG (HB1.out.trans (hb2.mono HB1.out.size))
      clear hb2 h0 h1 h2 h3 h4
      go_wp2_with fail
      have HBW := HB2
      go_loopw [7, 8] (fun o i wr => ∃ (k : Nat) (oa : Option Addr) (oc : Nat), k ≤ l.length ∧ i = .int .i64 k ∧ o = .slice oa (cutL (l.take k) q).length oc ∧ wr.ownsRow w2.heap.size 24 5 (.slice oa (cutL (l.take k) q).length oc) (cutL (l.take k) q).length (hearCells (cutL (l.take k) q)) ∧ Below w2.heap.size w2 wr) (fun _ i _ => l.length - (intOf i).toNat)
      case atStart => exact ⟨0, none, 0, Nat.zero_le _, rfl, by simp [cutL], by rw [show cutL (l.take 0) q = [] by simp [cutL]]; exact World.ownsRow_nil _ _ _ _, Below.refl _ _⟩
      case round =>
        obtain ⟨k, oa, oc, hk, rfl, rfl, hown, hB⟩ := hrel
        have HOW := hideG hown
        have HB := hideG hB
        clear hown hB
        by_cases hlt : k < l.length
        · obtain ⟨b, off, rfl, hd⟩ := HC.out (by omega)
          have hH := ((hd k hlt).below HBW.out).below HB.out
          have HT := hideG (cut_take (q := q) hlt)
          have hfl2 : (cutL (l.take k) q).length ≤ l.length := by unfold cutL; simp; omega
          generalize l.getD k hrD = x at *
          have c0 := hH.node
          have c1 := hH.type
          have c2 := hH.cap
          have c3 := hH.once
          have c4 := hH.prog
          have hk0 : (0 : Int) ≤ (k : Int) := by omega
          clear hd hH
          by_cases hkq : k = q
          · have hne : ((k : Int) != (q : Int)) = false := by simp [hkq]
            have HE := hideG (show cutL (l.take (k + 1)) q = cutL (l.take k) q by rw [HT.out, if_pos hkq]; simp)
            clear hkq
            go_wp2_with fail
            go_roundw
            case rel => exact ⟨k + 1, oa, oc, by omega, by go_num, by rw [HE.out], by rw [HE.out]; exact HOW.out, HB.out⟩
            case measure => simp [intOf]; omega
          · have hne : ((k : Int) != (q : Int)) = true := by simp; omega
            have HE := hideG (show cutL (l.take (k + 1)) q = cutL (l.take k) q ++ [x] by rw [HT.out, if_neg hkq])
            clear hkq HT
            generalize cutL (l.take k) q = cur at *
            go_wp2_with (at_builtin; refine wpList_append_any rfl (.tmp 28) (.tmp 33) 22 rfl w2.heap.size 24 i0 _ 5 32 Try.underlying22 hi0 hz0 hz1 hz2 rfl (by decide) _ cur.length (hearCells cur) rfl (HOW.out.alloc _) _ 1 [.int .i64 x.node, .int .i64 x.type, .bool x.cap, .bool x.once, .int .i64 x.prog] rfl (row_newH _ x) rfl ?h2 ?h3 ?h4 ?h5 ?_)
            case h2 => intro y hy; simp at hy; rcases hy with rfl | rfl | rfl | rfl | rfl <;> rfl
            case h3 => simp only [maxLen]; omega
            case h4 => omega
            case h5 => have := HB.out.size; simp; omega
            intro v4 w4 ho4 hg4 hf4
            obtain ⟨a4, c4, rfl⟩ := ownsRow_shape ho4
            have ec : hearCells cur ++ [.int .i64 x.node, .int .i64 x.type, .bool x.cap, .bool x.once, .int .i64 x.prog] = hearCells (cur ++ [x]) := by rw [hearCells_append]; rfl
            rw [ec] at ho4
            have HB4 := hideG ((HB.out.alloc HB.out.size (.cells #[.int .i64 x.node, .int .i64 x.type, .bool x.cap, .bool x.once, .int .i64 x.prog] 24)).grown hg4 (by have := HB.out.size; simp at this ⊢; omega) (fun j e => (HOW.out.lt j e).1))
            have hl4 : (cutL (l.take (k + 1)) q).length = cur.length + 1 := by rw [HE.out]; simp
            have HL4 := hideG hl4
            have HO4 := hideG ho4
            clear ho4 hg4 hf4 hl4 ec
            go_wp2_with fail
            go_roundw
            case rel => exact ⟨k + 1, a4, c4, by omega, by go_num, by rw [HL4.out], by rw [HL4.out, HE.out]; exact HO4.out, HB4.out⟩
            case measure => simp [intOf]; omega
        · have hke : l.take k = l := List.take_of_length_le (by omega)
          rw [hke] at HOW ⊢
          have HHR := hideG (ownsRow_hears HOW.out)
          go_wp2_with fail
          go_ret2
          exact ⟨oa, oc, rfl, HHR.out, HBW.out.trans (HB.out.mono HBW.out.size)⟩
end Go.Proofs.Ytahnkhgaopaaoab
