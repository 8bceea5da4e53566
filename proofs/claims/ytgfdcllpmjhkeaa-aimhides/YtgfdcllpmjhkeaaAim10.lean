/- The document's own Visits of layer 7. -/
import Derived.Test.YtgfdcllpmjhkeaaAim9
namespace Go.Proofs.Ytgfdcllpmjhkeaa
open Go.RowKit

theorem drop_rev (p : List St) {k : Nat} (h : k < p.length) : ((p.drop k).reverse).map (vis true) = ((p.drop (k + 1)).reverse).map (vis true) ++ [vis true (p.getD k stD)] := by
  rw [List.drop_eq_getElem_cons h, List.reverse_cons, List.map_append, List.getD_eq_getElem?_getD, List.getElem?_eq_getElem h]; rfl
theorem drop_rev_le (p : List St) (k : Nat) : (((p.drop k).reverse).map (vis true)).length ≤ p.length := by simp

set_option maxRecDepth 100000 in
set_option maxHeartbeats 8000000 in
theorem refVisits7_any (T : List Nd) (hS : Sane T) (v : Value) (e : Ev) (hkt : knownB T [e.target] = true) (w : World) (hT : TreeAt w v T) :
    Calls Try.prog 20 #[v, .agg #[.int .i64 e.type, .int .i64 e.target, .int .i64 e.related, .bool e.bub, .bool e.can, .bool e.comp]] w fun x w' => ∃ a c, x = .returned (.slice a (visitsI T e).length c) ∧ w'.ownsRow w.heap.size 46 5 (.slice a (visitsI T e).length c) (visitsI T e).length (viCells (visitsI T e)) ∧ Below w.heap.size w w' := by
  obtain ⟨i0, hi0, hz0, hz1, hz2⟩ := info_parts infoViR
  obtain ⟨ta, tc, rfl⟩ := hT.shape
  have HT := hideG hT
  have HS := hideG hS
  obtain ⟨W0, hW0⟩ : ∃ W0, w.alloc (.cells #[.int .i64 e.type, .int .i64 e.target, .int .i64 e.related, .bool e.bub, .bool e.can, .bool e.comp] 25) = W0 := ⟨_, rfl⟩
  have HB0 := hideG (show Below w.heap.size w W0 by rw [← hW0]; exact (Below.refl _ w).alloc (Nat.le_refl _) _)
  have P3 := hideG (show W0.cell? ⟨w.heap.size, 3, none⟩ = some (.bool e.bub) by rw [← hW0]; simp)
  have HPL := hideG (pathI_le (T := T) e)
  have HPA := hideG (refPath7_any T HS.out (.slice ta T.length tc) e hkt W0 (HT.out.below HB0.out))
  have HW0 := hideG hW0
  clear hT hS hW0 hkt
  go_enter Try.func20, Try.ntmps20
  go_wp2_with fail
  rw [HW0.out]
  refine HPA.out.mono ?_
  rintro ex w1 ⟨pa, pc, rfl, ho1, hb1⟩
  have HVD := hideG (show visitsI T e = visitsL (pathI T e) e.bub from rfl)
  generalize pathI T e = p at *
  have HB1 := hideG (HB0.out.trans (hb1.mono HB0.out.size))
  have Q3 := hideG (cell_below hb1 P3.out)
  have HST := hideG (ownsRow_stCells ho1)
  have hpl : p.length ≤ 64 := HPL.out
  have hw0 : IntKind.i64.wrap ((p.length : Int) - 1) = (p.length : Int) - 1 := by rw [IntKind.wrap_i64]; omega
  clear ho1 hb1
  go_wp2_with fail
  clear hw0
  go_loopw [5, 7] (fun o i wr => ∃ (k : Nat) (oa : Option Addr) (oc : Nat), k ≤ p.length ∧ i = .int .i64 ((k : Int) - 1) ∧ o = .slice oa (((p.drop k).reverse).map (vis true)).length oc ∧ wr.ownsRow w1.heap.size 46 5 (.slice oa (((p.drop k).reverse).map (vis true)).length oc) (((p.drop k).reverse).map (vis true)).length (viCells (((p.drop k).reverse).map (vis true))) ∧ Below w1.heap.size w1 wr) (fun _ i _ => (intOf i + 1).toNat)
  case atStart => exact ⟨p.length, none, 0, Nat.le_refl _, by first | rfl | simp, by simp, by simp only [List.drop_length, List.reverse_nil, List.map_nil, viCells]; exact World.ownsRow_nil _ _ _ _, Below.refl _ _⟩
  case round =>
    obtain ⟨k, oa, oc, hk, rfl, rfl, hown, hB⟩ := hrel
    have HOW := hideG hown
    have HB := hideG hB
    have HBw := hideG (HB1.out.trans (hB.mono HB1.out.size))
    clear hown hB
    cases k with
    | zero =>
      have e0 : ((0 : Nat) : Int) - 1 = -1 := rfl
      rw [e0]
      rw [show ((p.drop 0).reverse).map (vis true) = visK p e.bub 0 by simp [visK]] at HOW ⊢
      go_wp2_with fail
      go_loopw [5, 9] (fun o i wr2 => ∃ (k : Nat) (oa : Option Addr) (oc : Nat), k ≤ p.length ∧ i = .int .i64 (k : Int) ∧ o = .slice oa (visK p e.bub k).length oc ∧ wr2.ownsRow w1.heap.size 46 5 (.slice oa (visK p e.bub k).length oc) (visK p e.bub k).length (viCells (visK p e.bub k)) ∧ Below w1.heap.size w1 wr2) (fun _ i _ => p.length - (intOf i).toNat)
      case atStart => exact ⟨0, oa, oc, Nat.zero_le _, rfl, rfl, HOW.out, HB.out⟩
      case round =>
        obtain ⟨k, oa, oc, hk, rfl, rfl, hown, hB⟩ := hrel
        have HOW := hideG hown
        have HB := hideG hB
        have HBw := hideG (HB1.out.trans (hB.mono HB1.out.size))
        have q3 := cell_below hB Q3.out
        clear hown hB
        by_cases hlt : k < p.length
        · have HE := hideG (visK_succ p e.bub hlt)
          have hvl := visK_le p e.bub k
          obtain ⟨a', c', hav, hd⟩ := HST.out
          simp only [Value.slice.injEq, true_and] at hav
          obtain ⟨rfl, rfl⟩ := hav
          obtain ⟨b, off, rfl, hd'⟩ := hd.2 (by omega)
          have hH := (hd' k hlt).below HB.out
          generalize p.getD k stD = x at *
          have g0 := hH.node
          have g1 := hH.tg
          have g2 := hH.rel
          have hk0 : (0 : Int) ≤ (k : Int) := by omega
          have hk1 : (k : Int) < (p.length : Int) := by omega
          have hbb : b < wr.heap.size := below_of_cell g0
          clear hd hd' hH
          generalize visK p e.bub k = cur at *
          cases hn : (x.node == x.tg)
          · have HV := hideG (show (vis false x) = ⟨x, 3, false⟩ by simp [vis, hn])
            rcases (Bool.eq_false_or_eq_true e.bub).symm with hbu | hbu
            · rw [show backP e.bub (vis false x) = false by rw [HV.out]; simp [backP, hbu]] at HE
              simp only [Bool.false_eq_true, if_false, List.append_nil] at HE
              rw [hbu] at q3
              clear hbu
              go_wp2_with fail
              go_region
              go_wp2_with fail
              go_roundw
              case rel => exact ⟨k + 1, oa, oc, by omega, by go_num, by rw [HE.out], by rw [HE.out]; exact ownsRow_below HOW.out (below_drew' (Below.refl _ _)) (fun j e => (HOW.out.lt j e).2), below_drew' HB.out⟩
              case measure => simp [intOf]; omega
            · rw [show backP e.bub (vis false x) = true by rw [HV.out]; simp [backP, hbu]] at HE
              simp only [if_true] at HE
              rw [hbu] at q3
              clear hbu
              go_wp2_with fail
              go_region
              go_wp2_with (at_builtin; refine wpList_append_any rfl (.tmp 68) (.tmp 74) 41 rfl w1.heap.size 46 i0 _ 5 40 Try.underlying41 hi0 hz0 hz1 hz2 rfl (by decide) _ cur.length (viCells cur) rfl (HOW.out.alloc _) _ 1 [.int .i64 x.node, .int .i64 x.tg, .int .i64 x.rel, .int .i64 3, .bool false] rfl (row_newV1 _ _ x 3 false) rfl ?h2 ?h3 ?h4 ?h5 ?_)
              case h2 => intro u hu; simp at hu; rcases hu with rfl | rfl | rfl | rfl | rfl <;> rfl
              case h3 => simp only [maxLen]; omega
              case h4 => omega
              case h5 => have h1 := HB.out.size; simp; omega
              intro v4 w4 ho4 hg4 hf4
              obtain ⟨a4, c4, rfl⟩ := ownsRow_shape ho4
              have ec : viCells cur ++ [.int .i64 x.node, .int .i64 x.tg, .int .i64 x.rel, .int .i64 3, .bool false] = viCells (cur ++ [vis false x]) := by rw [viCells_append, HV.out]; rfl
              rw [ec, ← HE.out] at ho4
              have hBA := below_drew' ((Below.refl wr.heap.size wr).alloc (Nat.le_refl _) (.cells #[.int .i64 x.node, .int .i64 x.tg, .int .i64 x.rel, .int .i64 3, .bool false] 46))
              have HB4 := hideG ((HB.out.trans (hBA.mono HB.out.size)).grown hg4 (HB.out.trans (hBA.mono HB.out.size)).size (fun j e => (HOW.out.lt j e).1))
              have hl4 : (visK p e.bub (k + 1)).length = cur.length + 1 := by rw [HE.out]; simp
              have HL4 := hideG hl4
              have HO4 := hideG ho4
              clear ho4 hg4 hf4 ec hBA hl4
              go_wp2_with fail
              go_roundw
              case rel => exact ⟨k + 1, a4, c4, by omega, by go_num, by rw [HL4.out], by rw [HL4.out]; simpa [HL4.out] using HO4.out, HB4.out⟩
              case measure => simp [intOf]; omega
          · have HV := hideG (show (vis false x) = ⟨x, 2, false⟩ by simp [vis, hn])
            rw [show backP e.bub (vis false x) = true by rw [HV.out]; simp [backP]] at HE
            simp only [if_true] at HE
            go_wp2_with fail
            go_region
            go_wp2_with (at_builtin; refine wpList_append_any rfl (.tmp 58) (.tmp 64) 41 rfl w1.heap.size 46 i0 _ 5 40 Try.underlying41 hi0 hz0 hz1 hz2 rfl (by decide) _ cur.length (viCells cur) rfl (HOW.out.alloc _) _ 1 [.int .i64 x.node, .int .i64 x.tg, .int .i64 x.rel, .int .i64 2, .bool false] rfl (row_newV1 _ _ x 2 false) rfl ?h2 ?h3 ?h4 ?h5 ?_)
            case h2 => intro u hu; simp at hu; rcases hu with rfl | rfl | rfl | rfl | rfl <;> rfl
            case h3 => simp only [maxLen]; omega
            case h4 => omega
            case h5 => have h1 := HB.out.size; simp; omega
            intro v4 w4 ho4 hg4 hf4
            obtain ⟨a4, c4, rfl⟩ := ownsRow_shape ho4
            have ec : viCells cur ++ [.int .i64 x.node, .int .i64 x.tg, .int .i64 x.rel, .int .i64 2, .bool false] = viCells (cur ++ [vis false x]) := by rw [viCells_append, HV.out]; rfl
            rw [ec, ← HE.out] at ho4
            have hBA := below_drew' ((Below.refl wr.heap.size wr).alloc (Nat.le_refl _) (.cells #[.int .i64 x.node, .int .i64 x.tg, .int .i64 x.rel, .int .i64 2, .bool false] 46))
            have HB4 := hideG ((HB.out.trans (hBA.mono HB.out.size)).grown hg4 (HB.out.trans (hBA.mono HB.out.size)).size (fun j e => (HOW.out.lt j e).1))
            have hl4 : (visK p e.bub (k + 1)).length = cur.length + 1 := by rw [HE.out]; simp
            have HL4 := hideG hl4
            have HO4 := hideG ho4
            clear ho4 hg4 hf4 ec hBA hl4
            go_wp2_with fail
            go_roundw
            case rel => exact ⟨k + 1, a4, c4, by omega, by go_num, by rw [HL4.out], by rw [HL4.out]; simpa [HL4.out] using HO4.out, HB4.out⟩
            case measure => simp [intOf]; omega
        · have hvk : visK p e.bub k = visitsI T e := by rw [visK_all p e.bub (by omega), HVD.out]
          rw [hvk] at HOW ⊢
          go_wp2_with fail
          go_ret
          exact ⟨oa, oc, rfl, ownsRow_base HOW.out HB1.out.size, HBw.out⟩
    | succ k =>
      have e0 : ((k + 1 : Nat) : Int) - 1 = (k : Int) := by omega
      rw [e0]
      have hlt : k < p.length := by omega
      have HE := hideG (drop_rev p hlt)
      have hvl := drop_rev_le p (k + 1)
      obtain ⟨a', c', hav, hd⟩ := HST.out
      simp only [Value.slice.injEq, true_and] at hav
      obtain ⟨rfl, rfl⟩ := hav
      obtain ⟨b, off, rfl, hd'⟩ := hd.2 (by omega)
      have hH := (hd' k hlt).below HB.out
      generalize p.getD k stD = x at *
      have g0 := hH.node
      have g1 := hH.tg
      have g2 := hH.rel
      have hk0 : (0 : Int) ≤ (k : Int) := by omega
      have hk1 : (k : Int) < (p.length : Int) := by omega
      have hbb : b < wr.heap.size := below_of_cell g0
      clear hd hd' hH
      generalize ((p.drop (k + 1)).reverse).map (vis true) = cur at *
      cases hn : (x.node == x.tg)
      · have HV := hideG (show (vis true x) = ⟨x, 1, true⟩ by simp [vis, hn])
        go_wp2_with fail
        go_region
        go_wp2_with (at_builtin; refine wpList_append_any rfl (.tmp 37) (.tmp 39) 41 rfl w1.heap.size 46 i0 _ 5 40 Try.underlying41 hi0 hz0 hz1 hz2 rfl (by decide) _ cur.length (viCells cur) rfl ((HOW.out.alloc _).alloc _) _ 1 [.int .i64 x.node, .int .i64 x.tg, .int .i64 x.rel, .int .i64 1, .bool true] rfl (row_newV2 _ _ _ x 1 true) rfl ?h2 ?h3 ?h4 ?h5 ?_)
        case h2 => intro u hu; simp at hu; rcases hu with rfl | rfl | rfl | rfl | rfl <;> rfl
        case h3 => simp only [maxLen]; omega
        case h4 => omega
        case h5 => have h1 := HB.out.size; simp; omega
        intro v4 w4 ho4 hg4 hf4
        obtain ⟨a4, c4, rfl⟩ := ownsRow_shape ho4
        have ec : viCells cur ++ [.int .i64 x.node, .int .i64 x.tg, .int .i64 x.rel, .int .i64 1, .bool true] = viCells (cur ++ [vis true x]) := by rw [viCells_append, HV.out]; rfl
        rw [ec, ← HE.out] at ho4
        have hBA := below_drew' (((Below.refl wr.heap.size wr).alloc (Nat.le_refl _) (.cells #[.int .i64 x.node, .int .i64 x.tg, .int .i64 x.rel, .int .i64 1, .bool true] 46)).alloc (by simp) (.cells #[.int .i64 x.node, .int .i64 x.tg, .int .i64 x.rel, .int .i64 1, .bool true] 46))
        have HB4 := hideG ((HB.out.trans (hBA.mono HB.out.size)).grown hg4 (HB.out.trans (hBA.mono HB.out.size)).size (fun j e => (HOW.out.lt j e).1))
        have hl4 : (((p.drop k).reverse).map (vis true)).length = cur.length + 1 := by rw [HE.out]; simp
        have HL4 := hideG hl4
        have HO4 := hideG ho4
        have hwk : IntKind.i64.wrap ((k : Int) - 1) = (k : Int) - 1 := by rw [IntKind.wrap_i64]; omega
        clear ho4 hg4 hf4 ec hBA hl4
        go_wp2_with fail
        go_roundw
        case rel => exact ⟨k, a4, c4, by omega, rfl, by rw [HL4.out], by rw [HL4.out]; simpa [HL4.out] using HO4.out, HB4.out⟩
        case measure => simp [intOf]
      · have HV := hideG (show (vis true x) = ⟨x, 2, true⟩ by simp [vis, hn])
        go_wp2_with fail
        go_region
        go_wp2_with (at_builtin; refine wpList_append_any rfl (.tmp 37) (.tmp 39) 41 rfl w1.heap.size 46 i0 _ 5 40 Try.underlying41 hi0 hz0 hz1 hz2 rfl (by decide) _ cur.length (viCells cur) rfl ((HOW.out.alloc _).alloc _) _ 1 [.int .i64 x.node, .int .i64 x.tg, .int .i64 x.rel, .int .i64 2, .bool true] rfl (row_newV2 _ _ _ x 2 true) rfl ?h2 ?h3 ?h4 ?h5 ?_)
        case h2 => intro u hu; simp at hu; rcases hu with rfl | rfl | rfl | rfl | rfl <;> rfl
        case h3 => simp only [maxLen]; omega
        case h4 => omega
        case h5 => have h1 := HB.out.size; simp; omega
        intro v4 w4 ho4 hg4 hf4
        obtain ⟨a4, c4, rfl⟩ := ownsRow_shape ho4
        have ec : viCells cur ++ [.int .i64 x.node, .int .i64 x.tg, .int .i64 x.rel, .int .i64 2, .bool true] = viCells (cur ++ [vis true x]) := by rw [viCells_append, HV.out]; rfl
        rw [ec, ← HE.out] at ho4
        have hBA := below_drew' (((Below.refl wr.heap.size wr).alloc (Nat.le_refl _) (.cells #[.int .i64 x.node, .int .i64 x.tg, .int .i64 x.rel, .int .i64 2, .bool true] 46)).alloc (by simp) (.cells #[.int .i64 x.node, .int .i64 x.tg, .int .i64 x.rel, .int .i64 2, .bool true] 46))
        have HB4 := hideG ((HB.out.trans (hBA.mono HB.out.size)).grown hg4 (HB.out.trans (hBA.mono HB.out.size)).size (fun j e => (HOW.out.lt j e).1))
        have hl4 : (((p.drop k).reverse).map (vis true)).length = cur.length + 1 := by rw [HE.out]; simp
        have HL4 := hideG hl4
        have HO4 := hideG ho4
        have hwk : IntKind.i64.wrap ((k : Int) - 1) = (k : Int) - 1 := by rw [IntKind.wrap_i64]; omega
        clear ho4 hg4 hf4 ec hBA hl4
        go_wp2_with fail
        go_roundw
        case rel => exact ⟨k, a4, c4, by omega, rfl, by rw [HL4.out], by rw [HL4.out]; simpa [HL4.out] using HO4.out, HB4.out⟩
        case measure => simp [intOf]
end Go.Proofs.Ytgfdcllpmjhkeaa
