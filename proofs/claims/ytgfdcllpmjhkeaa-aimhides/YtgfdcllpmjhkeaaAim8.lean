/- The document's own stop of layer 7. -/
import Derived.Test.YtgfdcllpmjhkeaaAim7
namespace Go.Proofs.Ytgfdcllpmjhkeaa
open Go.RowKit

set_option maxRecDepth 100000 in
set_option maxHeartbeats 4000000 in
theorem refStop7_any (T : List Nd) (hm : mayB T = true) (v : Value) (n tg : Nat) (hn : n < T.length) (htl : tg < T.length) (e : Ev) (he : e.target = (tg : Int)) (w : World) (hT : TreeAt w v T) :
    Calls Try.prog 38 #[v, .int .i64 (n : Int), .agg #[.int .i64 e.type, .int .i64 e.target, .int .i64 e.related, .bool e.bub, .bool e.can, .bool e.comp]] w fun x w' => x = .returned (.agg #[.int .i64 (n : Int), .int .i64 (retI T e.target n), .int .i64 (retI T e.related n)]) ∧ Below w.heap.size w w' := by
  obtain ⟨ta, tc, rfl⟩ := hT.shape
  have HM := hideG hm
  obtain ⟨V, hV⟩ : ∃ V, (w.alloc (.cells #[.int .i64 e.type, .int .i64 e.target, .int .i64 e.related, .bool e.bub, .bool e.can, .bool e.comp] 25)).alloc (.cells #[.int .i64 0, .int .i64 0, .int .i64 0] 35) = V := ⟨_, rfl⟩
  have HBV := hideG (show Below w.heap.size w V by rw [← hV]; exact ((Below.refl _ w).alloc (Nat.le_refl _) _).alloc (by simp) _)
  have HVS := hideG (show V.heap.size = w.heap.size + 2 by rw [← hV]; simp)
  have p1 : V.cell? ⟨w.heap.size, 1, none⟩ = some (.int .i64 (tg : Int)) := by rw [← hV, ← he]; simp
  have P2 := hideG (show V.cell? ⟨w.heap.size, 2, none⟩ = some (.int .i64 e.related) by rw [← hV]; simp)
  have B0 := hideG (show V.cell? ⟨w.heap.size + 1, 0, none⟩ = some (.int .i64 0) by rw [← hV]; simp)
  have B1 := hideG (show V.cell? ⟨w.heap.size + 1, 1, none⟩ = some (.int .i64 0) by rw [← hV]; simp)
  have B2 := hideG (show V.cell? ⟨w.heap.size + 1, 2, none⟩ = some (.int .i64 0) by rw [← hV]; simp)
  have F0 := hideG (show V.frozen? ⟨w.heap.size + 1, 0, none⟩ = false by rw [← hV]; simp)
  have F1 := hideG (show V.frozen? ⟨w.heap.size + 1, 1, none⟩ = false by rw [← hV]; simp)
  have F2 := hideG (show V.frozen? ⟨w.heap.size + 1, 2, none⟩ = false by rw [← hV]; simp)
  have HT := hideG hT
  have HV := hideG hV
  have E1 := hideG (show retI T e.target n = (ret T (supI T (n : Int)) tg : Int) by rw [he]; exact retI_known hm htl hn)
  have HTE := hideG he
  clear hV he hT
  cases hr : isNodeB T.length e.related
  · have HR := hideG hr
    have E2 := hideG (show retI T e.related n = -1 by simp [retI, knownB, hr])
    clear hr hm
    go_enter Try.func38, Try.ntmps38
    go_wp2_with fail
    rw [HV.out, HTE.out]
    refine (refRet4_any T HM.out _ tg n htl hn _ (HT.out.below HBV.out)).mono ?_
    rintro ex w1 ⟨rfl, hb1⟩
    have HB1 := hideG hb1
    have p2 := cell_below hb1 P2.out
    have hl1 : w.heap.size < w1.heap.size := below_of_cell p2
    have b0 := cell_below hb1 B0.out
    have hl2 : w.heap.size + 1 < w1.heap.size := below_of_cell b0
    have b1 := cell_below hb1 B1.out
    have b2 := cell_below hb1 B2.out
    have f0 := frozen_below hb1 B0.out F0.out
    have f1 := frozen_below hb1 B1.out F1.out
    have f2 := frozen_below hb1 B2.out F2.out
    clear hb1 p1
    go_wp2_with (go_at_call 17; refine (refIs_any _ _ _ _ _).mono ?_; rintro ex w2 ⟨rfl, hw2⟩; rw [HR.out]; subst hw2)
    refine bodyPost_ret (v := .agg #[.int .i64 (n : Int), .int .i64 (ret T (supI T (n : Int)) tg : Int), .int .i64 (-1)]) (by simp [results, Try.results38, go_sem, *]) rfl ⟨by rw [E1.out, E2.out], ?_⟩
    have hz := (HBV.out.trans (HB1.out.mono HBV.out.size))
    exact ((((hz.setCell (p := ⟨w.heap.size + 1, 0, none⟩) (by simp) _).setCell (p := ⟨w.heap.size + 1, 1, none⟩) (by simp) _).setCell (p := ⟨w.heap.size + 1, 2, none⟩) (by simp) _).alloc (by simp; omega) _)
  · obtain ⟨r, hre, hrl⟩ := isNodeB_true hr
    have HR := hideG hr
    have E2 := hideG (show retI T e.related n = (ret T (supI T (n : Int)) r : Int) by rw [hre]; exact retI_known hm hrl hn)
    have HRE := hideG hre
    rw [hre] at P2
    clear hr hm hre
    go_enter Try.func38, Try.ntmps38
    go_wp2_with fail
    rw [HV.out, HTE.out]
    refine (refRet4_any T HM.out _ tg n htl hn _ (HT.out.below HBV.out)).mono ?_
    rintro ex w1 ⟨rfl, hb1⟩
    have HB1 := hideG hb1
    have p2 := cell_below hb1 P2.out
    have hl1 : w.heap.size < w1.heap.size := below_of_cell p2
    have b0 := cell_below hb1 B0.out
    have hl2 : w.heap.size + 1 < w1.heap.size := below_of_cell b0
    have b1 := cell_below hb1 B1.out
    have b2 := cell_below hb1 B2.out
    have f0 := frozen_below hb1 B0.out F0.out
    have f1 := frozen_below hb1 B1.out F1.out
    have f2 := frozen_below hb1 B2.out F2.out
    clear hb1 p1
    go_wp2_with fail
    refine (refIs_any _ _ _ _ _).mono ?_
    rintro ex w2 ⟨rfl, hw2⟩
    rw [← HRE.out, HR.out, HRE.out]
    subst hw2
    go_wp2_with fail
    have HBA := hideG ((HBV.out.trans (HB1.out.mono HBV.out.size)).alloc (by omega) (.cells #[.int .i64 (n : Int), .int .i64 (ret T (supI T (n : Int)) tg : Int), .int .i64 (-1)] 35))
    refine (refRet4_any T HM.out _ r n hrl hn _ (HT.out.below HBA.out)).mono ?_
    rintro ex w3 ⟨rfl, hb3⟩
    have HB3 := hideG hb3; have b0x := cell_below hb3 (cell_alloc_l (.cells #[.int .i64 (n : Int), .int .i64 (ret T (supI T (n : Int)) tg : Int), .int .i64 (-1)] 35) b0); have f0x := frozen_below hb3 (cell_alloc_l (.cells #[.int .i64 (n : Int), .int .i64 (ret T (supI T (n : Int)) tg : Int), .int .i64 (-1)] 35) b0) (frozen_alloc_l (.cells #[.int .i64 (n : Int), .int .i64 (ret T (supI T (n : Int)) tg : Int), .int .i64 (-1)] 35) b0 f0); have b1x := cell_below hb3 (cell_alloc_l (.cells #[.int .i64 (n : Int), .int .i64 (ret T (supI T (n : Int)) tg : Int), .int .i64 (-1)] 35) b1); have f1x := frozen_below hb3 (cell_alloc_l (.cells #[.int .i64 (n : Int), .int .i64 (ret T (supI T (n : Int)) tg : Int), .int .i64 (-1)] 35) b1) (frozen_alloc_l (.cells #[.int .i64 (n : Int), .int .i64 (ret T (supI T (n : Int)) tg : Int), .int .i64 (-1)] 35) b1 f1); have b2x := cell_below hb3 (cell_alloc_l (.cells #[.int .i64 (n : Int), .int .i64 (ret T (supI T (n : Int)) tg : Int), .int .i64 (-1)] 35) b2); have f2x := frozen_below hb3 (cell_alloc_l (.cells #[.int .i64 (n : Int), .int .i64 (ret T (supI T (n : Int)) tg : Int), .int .i64 (-1)] 35) b2) (frozen_alloc_l (.cells #[.int .i64 (n : Int), .int .i64 (ret T (supI T (n : Int)) tg : Int), .int .i64 (-1)] 35) b2 f2); have c0x := cell_below hb3 (show (w1.alloc (.cells #[.int .i64 (n : Int), .int .i64 (ret T (supI T (n : Int)) tg : Int), .int .i64 (-1)] 35)).cell? ⟨w1.heap.size, 0, none⟩ = some (.int .i64 (n : Int)) by simp); have d0x := frozen_below hb3 (show (w1.alloc (.cells #[.int .i64 (n : Int), .int .i64 (ret T (supI T (n : Int)) tg : Int), .int .i64 (-1)] 35)).cell? ⟨w1.heap.size, 0, none⟩ = some (.int .i64 (n : Int)) by simp) (show (w1.alloc (.cells #[.int .i64 (n : Int), .int .i64 (ret T (supI T (n : Int)) tg : Int), .int .i64 (-1)] 35)).frozen? ⟨w1.heap.size, 0, none⟩ = false by simp); have c1x := cell_below hb3 (show (w1.alloc (.cells #[.int .i64 (n : Int), .int .i64 (ret T (supI T (n : Int)) tg : Int), .int .i64 (-1)] 35)).cell? ⟨w1.heap.size, 1, none⟩ = some (.int .i64 (ret T (supI T (n : Int)) tg : Int)) by simp); have d1x := frozen_below hb3 (show (w1.alloc (.cells #[.int .i64 (n : Int), .int .i64 (ret T (supI T (n : Int)) tg : Int), .int .i64 (-1)] 35)).cell? ⟨w1.heap.size, 1, none⟩ = some (.int .i64 (ret T (supI T (n : Int)) tg : Int)) by simp) (show (w1.alloc (.cells #[.int .i64 (n : Int), .int .i64 (ret T (supI T (n : Int)) tg : Int), .int .i64 (-1)] 35)).frozen? ⟨w1.heap.size, 1, none⟩ = false by simp); have c2x := cell_below hb3 (show (w1.alloc (.cells #[.int .i64 (n : Int), .int .i64 (ret T (supI T (n : Int)) tg : Int), .int .i64 (-1)] 35)).cell? ⟨w1.heap.size, 2, none⟩ = some (.int .i64 (-1)) by simp); have d2x := frozen_below hb3 (show (w1.alloc (.cells #[.int .i64 (n : Int), .int .i64 (ret T (supI T (n : Int)) tg : Int), .int .i64 (-1)] 35)).cell? ⟨w1.heap.size, 2, none⟩ = some (.int .i64 (-1)) by simp) (show (w1.alloc (.cells #[.int .i64 (n : Int), .int .i64 (ret T (supI T (n : Int)) tg : Int), .int .i64 (-1)] 35)).frozen? ⟨w1.heap.size, 2, none⟩ = false by simp); have hl3 : w1.heap.size < w3.heap.size := below_of_cell c0x; have hne : w1.heap.size ≠ w.heap.size + 1 := (by omega); clear hb3 b0 b1 b2 f0 f1 f2 p2
    go_wp2_with fail
    refine bodyPost_ret (v := .agg #[.int .i64 (n : Int), .int .i64 (ret T (supI T (n : Int)) tg : Int), .int .i64 (ret T (supI T (n : Int)) r : Int)]) (by simp [results, Try.results38, go_sem, *]) rfl ⟨by rw [E1.out, E2.out], ?_⟩
    have hz := HBA.out.trans (HB3.out.mono HBA.out.size)
    have hw1 : w.heap.size ≤ w1.heap.size := (HBV.out.trans (HB1.out.mono HBV.out.size)).size
    refine Below.setCell (Below.setCell (Below.setCell (Below.setCell hz ?_ _) ?_ _) ?_ _) ?_ _ <;> first | exact hw1 | exact Nat.le_succ _
end Go.Proofs.Ytgfdcllpmjhkeaa
