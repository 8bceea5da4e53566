/- aim.Path. -/
import Derived.Test.YtpmacpbhdgigfaaGreatAim2
namespace Go.Proofs.YtpmacpbhdgigfaaGreat
open Go.RowKit

theorem row_newS2 (w : World) (o : Obj) (t : TypeId) (a b c : Int) : Holds ((w.alloc o).alloc (.cells #[.int .i64 a, .int .i64 b, .int .i64 c] t)) (.slice (some ⟨w.heap.size + 1, 0, none⟩) 1 1) 1 [.int .i64 a, .int .i64 b, .int .i64 c] := by
  have := row_newS (w.alloc o) t a b c
  rw [World.size_alloc] at this
  exact this
theorem aimParI_known {T : List Nd} (hm : mayB T = true) {e : Ev} {tg n : Nat} (he : e.target = (tg : Int)) (ht : tg < T.length) (hn : n < T.length) : aimParI T (n : Int) e = parA T e.target.toNat e.comp n := by
  unfold aimParI
  rw [he, known_of hm ht, known_of hm hn]; simp

set_option maxRecDepth 100000 in
set_option maxHeartbeats 8000000 in
theorem path_any (T : List Nd) (hS : Sane T) (v : Value) (e : Ev) (w : World) (hT : TreeAt w v T) (h6 : T.length ≤ 1000) :
    Calls Tryz.prog 167 #[v, .agg #[.int .i64 e.type, .int .i64 e.target, .int .i64 e.related, .bool e.bub, .bool e.can, .bool e.comp]] w fun x w' => ∃ a c, x = .returned (.slice a (pathI T e).length c) ∧ w'.ownsRow w.heap.size 37 3 (.slice a (pathI T e).length c) (pathI T e).length (stCells (pathI T e)) ∧ Below w.heap.size w w' := by
  obtain ⟨i0, hi0, hz0, hz1, hz2⟩ := info_parts infoSt
  have HT := hideG hT
  have HS := hideG hS
  obtain ⟨W0, hW0⟩ : ∃ W0, w.alloc (.cells #[.int .i64 e.type, .int .i64 e.target, .int .i64 e.related, .bool e.bub, .bool e.can, .bool e.comp] 25) = W0 := ⟨_, rfl⟩
  have HB0 := hideG (show Below w.heap.size w W0 by rw [← hW0]; exact (Below.refl _ w).alloc (Nat.le_refl _) _)
  have P0 := hideG (show W0.cell? ⟨w.heap.size, 0, none⟩ = some (.int .i64 e.type) by rw [← hW0]; simp)
  have P1 := hideG (show W0.cell? ⟨w.heap.size, 1, none⟩ = some (.int .i64 e.target) by rw [← hW0]; simp)
  have P2 := hideG (show W0.cell? ⟨w.heap.size, 2, none⟩ = some (.int .i64 e.related) by rw [← hW0]; simp)
  have P3 := hideG (show W0.cell? ⟨w.heap.size, 3, none⟩ = some (.bool e.bub) by rw [← hW0]; simp)
  have P4 := hideG (show W0.cell? ⟨w.heap.size, 4, none⟩ = some (.bool e.can) by rw [← hW0]; simp)
  have P5 := hideG (show W0.cell? ⟨w.heap.size, 5, none⟩ = some (.bool e.comp) by rw [← hW0]; simp)
  have HW0 := hideG hW0
  clear hW0
  cases hkt : knownB T [e.target]
  · obtain ⟨ta, tc, rfl⟩ := hT.shape
    have E1 := hideG (show topI T e.target = -1 by simp [topI, hkt])
    have HQ := hideG (show pathI T e = [] by simp [pathI, hkt])
    clear hT hS hkt
    have p1 := P1.out
    go_enter Tryz.func167, Tryz.ntmps167
    go_wp2_with fail
    rw [HW0.out]
    go_wp2_with (go_at_call 181; refine (orderTop_any T HS.out _ _ _ (HT.out.below HB0.out)).mono ?_; rintro ex w1 ⟨rfl, hb1⟩; rw [E1.out]; have HB1 := hideG (HB0.out.trans (hb1.mono HB0.out.size)); clear hb1)
    go_ret
    rw [HQ.out]
    exact ⟨none, 0, rfl, World.ownsRow_nil _ _ _ _, HB1.out⟩
  · obtain ⟨hm, tg, htg, htl⟩ := known_one hkt
    have E1 := hideG (show topI T e.target = (topN T tg : Int) by rw [htg]; exact topI_known hm htl)
    have htn : ((topN T tg : Int) == -1) = false := by simp
    have HQ := hideG (show pathI T e = pathA T e tg by unfold pathI; rw [hkt, htg]; simp)
    have HPL := hideG (pathI_le (T := T) e)
    obtain ⟨tb, to, tc, rfl, hct⟩ := hT.at (by omega)
    have HM := hideG hm
    have HTG := hideG htg
    clear hT hS hkt hct hm htg
    have p1 := P1.out
    go_enter Tryz.func167, Tryz.ntmps167
    go_wp2_with fail
    rw [HW0.out]
    go_wp2_with (go_at_call 181; refine (orderTop_any T HS.out _ _ _ (HT.out.below HB0.out)).mono ?_; rintro ex w1 ⟨rfl, hb1⟩; rw [E1.out]; have HB1 := hideG hb1; have p1' := cell_below hb1 P1.out; clear hb1)
    clear p1'
    go_loopw [5, 6] (fun p i wr => ∃ (pre : List St) (oa : Option Addr) (oc : Nat), p = .slice oa pre.length oc ∧ wr.ownsRow W0.heap.size 37 3 (.slice oa pre.length oc) pre.length (stCells pre) ∧ Below W0.heap.size W0 wr ∧ ((∃ m : Nat, m < T.length ∧ i = .int .i64 (m : Int) ∧ pathI T e = pre ++ pathA T e m) ∨ (i = .int .i64 (-1) ∧ pathI T e = pre))) (fun _ i _ => if intOf i = -1 then 0 else rkF T (intOf i).toNat + 1)
    case atStart => exact ⟨[], none, 0, rfl, World.ownsRow_nil _ _ _ _, HB1.out, .inl ⟨tg, htl, by rw [HTG.out], by rw [HQ.out]; rfl⟩⟩
    case round =>
      obtain ⟨pre, oa, oc, rfl, hown, hB, hrel⟩ := hrel
      have HOW := hideG hown
      have HB := hideG hB
      have HBw := hideG (HB0.out.trans (hB.mono HB0.out.size))
      have p0 := cell_below hB P0.out
      have p1 := cell_below hB P1.out
      have p2 := cell_below hB P2.out
      have p3 := cell_below hB P3.out
      have p4 := cell_below hB P4.out
      have p5 := cell_below hB P5.out
      have hpl : pre.length ≤ 64 := by
        have h1 := HPL.out
        rcases hrel with ⟨m, _, _, h2⟩ | ⟨_, h2⟩
        · rw [h2, List.length_append] at h1; omega
        · rw [h2] at h1; exact h1
      clear hown hB
      rcases hrel with ⟨m, hml, rfl, hpm⟩ | ⟨rfl, hpm⟩
      · have HPM := hideG hpm
        clear hpm
        have hm1 : ((m : Int) != -1) = true := by simp
        have HST := hideG (stopAt_any T HS.out (.slice (some ⟨tb, to, none⟩) T.length tc) m e wr (HT.out.below HBw.out) h6)
        cases ho : oneS e (stopT T e m)
        · have HPAR := hideG (aimParI_known HM.out HTG.out htl hml)
          have HO := hideG ho
          have hor : ((stopT T e m).tg == (stopT T e m).rel) = false ∨ (((stopT T e m).tg == (stopT T e m).rel) = true ∧ (e.target != e.related) = false) := by
            unfold oneS at ho
            cases h1 : ((stopT T e m).tg == (stopT T e m).rel)
            · exact .inl rfl
            · rw [h1] at ho
              exact .inr ⟨rfl, by rw [bne]; simpa using ho⟩
          clear ho
          rcases hor with h1 | ⟨h1, h2⟩
          · simp only [stopT] at h1
            go_wp2_with (first | (go_at_call 199; refine HST.out.mono ?_; rintro ex w2 ⟨rfl, hb2⟩; have HB2 := hideG hb2; clear hb2; have q0 := cell_below HB2.out p0; have q1 := cell_below HB2.out p1; have q2 := cell_below HB2.out p2; have q3 := cell_below HB2.out p3; have q4 := cell_below HB2.out p4; have q5 := cell_below HB2.out p5; have hlt2 : w.heap.size < w2.heap.size := below_of_cell q1; have HOW2 := hideG (ownsRow_below HOW.out HB2.out (fun j e => (HOW.out.lt j e).2)); clear p0 p1 p2 p3 p4 p5) | (at_builtin; refine wpList_append_any rfl (.tmp 37) (.tmp 39) 158 rfl W0.heap.size 37 i0 _ 3 24 Tryz.underlying158 hi0 hz0 hz1 hz2 rfl (by decide) _ pre.length (stCells pre) rfl ((HOW2.out.alloc _).alloc _) _ 1 [.int .i64 (m : Int), .int .i64 (retI T e.target m), .int .i64 (retI T e.related m)] rfl (row_newS2 _ _ _ _ _ _) rfl ?h2 ?h3 ?h4 ?h5 ?_))
            case h2 => intro y hy; simp at hy; rcases hy with rfl | rfl | rfl <;> rfl
            case h3 => simp only [maxLen]; omega
            case h4 => omega
            case h5 => have h1 := HB.out.size; have h2 := HB2.out.size; simp; omega
            intro v4 w4 ho4 hg4 hf4
            obtain ⟨a4, c4, rfl⟩ := ownsRow_shape ho4
            have ec : stCells pre ++ [.int .i64 (m : Int), .int .i64 (retI T e.target m), .int .i64 (retI T e.related m)] = stCells (pre ++ [stopT T e m]) := by rw [stCells_append]; rfl
            rw [ec] at ho4
            have HB3 := hideG ((HB2.out.alloc HB2.out.size (.cells #[.int .i64 (m : Int), .int .i64 (retI T e.target m), .int .i64 (retI T e.related m)] 37)).alloc (HB2.out.alloc HB2.out.size (.cells #[.int .i64 (m : Int), .int .i64 (retI T e.target m), .int .i64 (retI T e.related m)] 37)).size (.cells #[.int .i64 (m : Int), .int .i64 (retI T e.target m), .int .i64 (retI T e.related m)] 37))
            have HB4 := hideG ((HB.out.trans (HB3.out.mono HB.out.size)).grown hg4 (HB.out.trans (HB3.out.mono HB.out.size)).size (fun j e => (HOW2.out.lt j e).1))
            have HO4 := hideG ho4
            clear ho4 hg4 hf4 ec q0 q1 q2 q3 q4 q5
            have p0 := cell_below HB4.out P0.out; have p1 := cell_below HB4.out P1.out; have p2 := cell_below HB4.out P2.out; have p3 := cell_below HB4.out P3.out; have p4 := cell_below HB4.out P4.out; have p5 := cell_below HB4.out P5.out
            have HP := hideG (aimParent_any T HS.out (.slice (some ⟨tb, to, none⟩) T.length tc) (m : Int) e w4 (HT.out.below (HB0.out.trans (HB4.out.mono HB0.out.size))))
            rcases parA_cases HM.out e.target.toNat e.comp hml with hp | ⟨m', hml', hp, hr⟩
            · have HR := hideG (pathA_none hml HO.out hp)
              have HE := hideG (HPAR.out.trans hp)
              clear hp
              go_wp2_with (go_at_call 198; refine HP.out.mono ?_; rw [HE.out]; rintro ex w5 ⟨rfl, hb5⟩; have HB5 := hideG hb5; clear hb5)
              go_roundw
              case rel => exact ⟨pre ++ [stopT T e m], a4, c4, by simp, by simpa using ownsRow_below HO4.out HB5.out (fun j e => (HO4.out.lt j e).2), HB4.out.trans (HB5.out.mono HB4.out.size), .inr ⟨rfl, by rw [HPM.out, HR.out]⟩⟩
              case measure =>
                have h2 : ¬ ((m : Int) = -1) := by omega
                simp [intOf, h2]
            · have HR := hideG (pathA_some HM.out hml HO.out hp)
              have HE := hideG (HPAR.out.trans hp)
              clear hp
              go_wp2_with (go_at_call 198; refine HP.out.mono ?_; rw [HE.out]; rintro ex w5 ⟨rfl, hb5⟩; have HB5 := hideG hb5; clear hb5)
              go_roundw
              case rel => exact ⟨pre ++ [stopT T e m], a4, c4, by simp, by simpa using ownsRow_below HO4.out HB5.out (fun j e => (HO4.out.lt j e).2), HB4.out.trans (HB5.out.mono HB4.out.size), .inl ⟨m', hml', rfl, by rw [HPM.out, HR.out.2.1]; simp⟩⟩
              case measure =>
                simp [intOf]
                omega
          · simp only [stopT] at h1
            go_wp2_with (first | (go_at_call 199; refine HST.out.mono ?_; rintro ex w2 ⟨rfl, hb2⟩; have HB2 := hideG hb2; clear hb2; have q0 := cell_below HB2.out p0; have q1 := cell_below HB2.out p1; have q2 := cell_below HB2.out p2; have q3 := cell_below HB2.out p3; have q4 := cell_below HB2.out p4; have q5 := cell_below HB2.out p5; have hlt2 : w.heap.size < w2.heap.size := below_of_cell q1; have HOW2 := hideG (ownsRow_below HOW.out HB2.out (fun j e => (HOW.out.lt j e).2)); clear p0 p1 p2 p3 p4 p5) | (at_builtin; refine wpList_append_any rfl (.tmp 37) (.tmp 39) 158 rfl W0.heap.size 37 i0 _ 3 24 Tryz.underlying158 hi0 hz0 hz1 hz2 rfl (by decide) _ pre.length (stCells pre) rfl ((HOW2.out.alloc _).alloc _) _ 1 [.int .i64 (m : Int), .int .i64 (retI T e.target m), .int .i64 (retI T e.related m)] rfl (row_newS2 _ _ _ _ _ _) rfl ?h2 ?h3 ?h4 ?h5 ?_))
            case h2 => intro y hy; simp at hy; rcases hy with rfl | rfl | rfl <;> rfl
            case h3 => simp only [maxLen]; omega
            case h4 => omega
            case h5 => have h1 := HB.out.size; have h2 := HB2.out.size; simp; omega
            intro v4 w4 ho4 hg4 hf4
            obtain ⟨a4, c4, rfl⟩ := ownsRow_shape ho4
            have ec : stCells pre ++ [.int .i64 (m : Int), .int .i64 (retI T e.target m), .int .i64 (retI T e.related m)] = stCells (pre ++ [stopT T e m]) := by rw [stCells_append]; rfl
            rw [ec] at ho4
            have HB3 := hideG ((HB2.out.alloc HB2.out.size (.cells #[.int .i64 (m : Int), .int .i64 (retI T e.target m), .int .i64 (retI T e.related m)] 37)).alloc (HB2.out.alloc HB2.out.size (.cells #[.int .i64 (m : Int), .int .i64 (retI T e.target m), .int .i64 (retI T e.related m)] 37)).size (.cells #[.int .i64 (m : Int), .int .i64 (retI T e.target m), .int .i64 (retI T e.related m)] 37))
            have HB4 := hideG ((HB.out.trans (HB3.out.mono HB.out.size)).grown hg4 (HB.out.trans (HB3.out.mono HB.out.size)).size (fun j e => (HOW2.out.lt j e).1))
            have HO4 := hideG ho4
            clear ho4 hg4 hf4 ec q0 q1 q2 q3 q4 q5
            have p0 := cell_below HB4.out P0.out; have p1 := cell_below HB4.out P1.out; have p2 := cell_below HB4.out P2.out; have p3 := cell_below HB4.out P3.out; have p4 := cell_below HB4.out P4.out; have p5 := cell_below HB4.out P5.out
            have HP := hideG (aimParent_any T HS.out (.slice (some ⟨tb, to, none⟩) T.length tc) (m : Int) e w4 (HT.out.below (HB0.out.trans (HB4.out.mono HB0.out.size))))
            rcases parA_cases HM.out e.target.toNat e.comp hml with hp | ⟨m', hml', hp, hr⟩
            · have HR := hideG (pathA_none hml HO.out hp)
              have HE := hideG (HPAR.out.trans hp)
              clear hp
              go_wp2_with (go_at_call 198; refine HP.out.mono ?_; rw [HE.out]; rintro ex w5 ⟨rfl, hb5⟩; have HB5 := hideG hb5; clear hb5)
              go_roundw
              case rel => exact ⟨pre ++ [stopT T e m], a4, c4, by simp, by simpa using ownsRow_below HO4.out HB5.out (fun j e => (HO4.out.lt j e).2), HB4.out.trans (HB5.out.mono HB4.out.size), .inr ⟨rfl, by rw [HPM.out, HR.out]⟩⟩
              case measure =>
                have h2 : ¬ ((m : Int) = -1) := by omega
                simp [intOf, h2]
            · have HR := hideG (pathA_some HM.out hml HO.out hp)
              have HE := hideG (HPAR.out.trans hp)
              clear hp
              go_wp2_with (go_at_call 198; refine HP.out.mono ?_; rw [HE.out]; rintro ex w5 ⟨rfl, hb5⟩; have HB5 := hideG hb5; clear hb5)
              go_roundw
              case rel => exact ⟨pre ++ [stopT T e m], a4, c4, by simp, by simpa using ownsRow_below HO4.out HB5.out (fun j e => (HO4.out.lt j e).2), HB4.out.trans (HB5.out.mono HB4.out.size), .inl ⟨m', hml', rfl, by rw [HPM.out, HR.out.2.1]; simp⟩⟩
              case measure =>
                simp [intOf]
                omega
        · have h1 : ((stopT T e m).tg == (stopT T e m).rel) = true := by unfold oneS at ho; simp only [Bool.and_eq_true] at ho; exact ho.1
          have h2 : (e.target != e.related) = true := by unfold oneS at ho; simp only [Bool.and_eq_true] at ho; exact ho.2
          have HQ2 := hideG (show pathI T e = pre by rw [HPM.out, pathA_stop HM.out hml ho, List.append_nil])
          clear ho
          simp only [stopT] at h1
          go_wp2_with (go_at_call 199; refine HST.out.mono ?_; rintro ex w2 ⟨rfl, hb2⟩; have HB2 := hideG hb2; clear hb2; have q0 := cell_below HB2.out p0; have q1 := cell_below HB2.out p1; have q2 := cell_below HB2.out p2; have q3 := cell_below HB2.out p3; have q4 := cell_below HB2.out p4; have q5 := cell_below HB2.out p5; have hlt2 : w.heap.size < w2.heap.size := below_of_cell q1; have HOW2 := hideG (ownsRow_below HOW.out HB2.out (fun j e => (HOW.out.lt j e).2)); clear p0 p1 p2 p3 p4 p5)
          go_ret
          rw [HQ2.out]
          exact ⟨oa, oc, rfl, ownsRow_base (ownsRow_below HOW.out (HB2.out.alloc HB2.out.size _) (fun j e => (HOW.out.lt j e).2)) HB0.out.size, (HBw.out.trans (HB2.out.mono HBw.out.size)).alloc (HBw.out.trans (HB2.out.mono HBw.out.size)).size _⟩
      · rw [← hpm] at HOW ⊢
        go_wp2_with fail
        go_ret
        exact ⟨oa, oc, rfl, ownsRow_base HOW.out HB0.out.size, HBw.out⟩
end Go.Proofs.YtpmacpbhdgigfaaGreat
