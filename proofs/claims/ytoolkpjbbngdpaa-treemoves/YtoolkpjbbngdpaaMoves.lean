/- TreeMoves, walked. -/
import Derived.Test.YtoolkpjbbngdpaaRefInsert
import Derived.Test.YtoolkpjbbngdpaaOnce
import Derived.Test.YtoolkpjbbngdpaaBack1
namespace Go.Proofs.Ytoolkpjbbngdpaa
open Go.RowKit

set_option maxRecDepth 100000 in
set_option maxHeartbeats 4000000 in
theorem refInsert_any (T : List Nd) (hS : Sane T) (v : Value) (p c b : Int) (w : World) (hT : TreeAt w v T) :
    Calls Try.prog 29 #[v, .agg #[.int .i64 p, .int .i64 c, .int .i64 b]] w fun e w' => ∃ v', e = .returned (.tuple #[v', .int .i64 (insertE T p c b)]) ∧ Below w.heap.size w w' ∧ TreeAt w' v' (insertR T p c b) := by
  cases hm : mayB T
  · have hE : insertE T p c b = 1 := by simp only [insertE, hm, Bool.false_eq_true, if_false]
    rw [insertR_one hE, hE]
    obtain ⟨a, cap, rfl⟩ := hT.shape
    have HB0 := hideG ((Below.refl _ w).alloc (Nat.le_refl _) (.cells #[.int .i64 p, .int .i64 c, .int .i64 b] 33))
    have HT := hideG hT
    have HS := hideG hS
    clear hT hS hE
    go_enter Try.func29, Try.ntmps29
    go_wp2_with (go_at_call 33; refine (refMay_walk T HS.out _ _ (HT.out.below HB0.out)).mono ?_; rintro e w1 ⟨rfl, hb1⟩; simp only [World.size_alloc] at hb1; have HB1 := hideG (HB0.out.trans (hb1.mono (by omega))); clear hb1)
    go_ret2
    exact ⟨_, rfl, HB1.out, treeAt_nil _⟩
  · have hE : insertE T p c b = insertF T p c b := by simp only [insertE, hm, if_true]
    have hpos := mayB_pos hm
    have h1000 : T.length ≤ 1000 := by omega
    cases h0 : (insertF T p c b != 0)
    · have h0' : insertF T p c b = 0 := by simpa using h0
      obtain ⟨p, c, rfl, rfl, _⟩ := insertF_zero h0'
      rw [h0'] at hE
      rw [insertR_zero hE, hE, Int.toNat_natCast, Int.toNat_natCast]
      cases hbc : (b == (c : Int))
      · exact refInsert_ok T hS v p c b w hT hm h0' hbc
      · have hR : insertL T p c b = T := by unfold insertL; rw [hbc]; rfl
        rw [hR]
        obtain ⟨a, cap, rfl⟩ := hT.shape
        have HB0 := hideG ((Below.refl _ w).alloc (Nat.le_refl _) (.cells #[.int .i64 p, .int .i64 c, .int .i64 b] 33))
        have HT := hideG hT
        have HS := hideG hS
        have HM := hideG hm
        clear hT hS hE hR
        go_enter Try.func29, Try.ntmps29
        go_wp2_with (first | (go_at_call 33; refine (refMay_walk T HS.out _ _ (HT.out.below HB0.out)).mono ?_; rintro e w1 ⟨rfl, hb1⟩; simp only [World.size_alloc] at hb1; have x0 := hb1.cell (p := ⟨w.heap.size, 0, none⟩) (by simp); have x1 := hb1.cell (p := ⟨w.heap.size, 1, none⟩) (by simp); have x2 := hb1.cell (p := ⟨w.heap.size, 2, none⟩) (by simp); simp only [World.cell?_alloc_new] at x0 x1 x2; simp at x0 x1 x2; have hs1 := hb1.size; simp only [World.size_alloc] at hs1; have HB1 := hideG (HB0.out.trans (hb1.mono (by omega))); clear hb1) | (go_at_call 75; refine (refWrong_any T HM.out _ _ _ _ _ (HT.out.below HB1.out)).mono ?_; rintro e w2 ⟨rfl, hb2⟩; have y1 := (hb2.cell (p := ⟨w.heap.size, 1, none⟩) (by simp; omega)).trans x1; have y2 := (hb2.cell (p := ⟨w.heap.size, 2, none⟩) (by simp; omega)).trans x2; have hs2 := hb2.size; have HB2 := hideG (HB1.out.trans (hb2.mono (by omega))); clear hb2 x0 x1 x2) | (go_at_call 26; refine (refCopy_any T HS.out _ _ (HT.out.below HB2.out) h1000).mono ?_; rintro e w3 ⟨v', kv, av, rfl, ho, hb3⟩; obtain ⟨g, cap', rfl⟩ := ownsRow_some ho.row hpos.1; have z1 := (hb3.cell (p := ⟨w.heap.size, 1, none⟩) (by simp; omega)).trans y1; have z2 := (hb3.cell (p := ⟨w.heap.size, 2, none⟩) (by simp; omega)).trans y2; have HB3 := hideG (HB2.out.trans (hb3.mono (by omega))); have HO := hideG ho; clear ho hb3 y1 y2))
        go_ret2
        exact ⟨_, rfl, HB3.out, HO.out.treeAt⟩
    · rw [insertR_else (T := T) (by rw [hE]; exact insertF_ne) (by rw [hE]; simpa using h0), hE]
      obtain ⟨a, cap, rfl⟩ := hT.shape
      have HB0 := hideG ((Below.refl _ w).alloc (Nat.le_refl _) (.cells #[.int .i64 p, .int .i64 c, .int .i64 b] 33))
      have HT := hideG hT
      have HS := hideG hS
      have HM := hideG hm
      clear hT hS hE
      generalize hz : insertF T p c b = z at *
      have HZ := hideG hz
      clear hz
      go_enter Try.func29, Try.ntmps29
      go_wp2_with (first | (go_at_call 33; refine (refMay_walk T HS.out _ _ (HT.out.below HB0.out)).mono ?_; rintro e w1 ⟨rfl, hb1⟩; simp only [World.size_alloc] at hb1; have x0 := hb1.cell (p := ⟨w.heap.size, 0, none⟩) (by simp); have x1 := hb1.cell (p := ⟨w.heap.size, 1, none⟩) (by simp); have x2 := hb1.cell (p := ⟨w.heap.size, 2, none⟩) (by simp); simp only [World.cell?_alloc_new] at x0 x1 x2; simp at x0 x1 x2; have hs1 := hb1.size; simp only [World.size_alloc] at hs1; have HB1 := hideG (HB0.out.trans (hb1.mono (by omega))); clear hb1) | (go_at_call 75; refine (refWrong_any T HM.out _ _ _ _ _ (HT.out.below HB1.out)).mono ?_; rintro e w2 ⟨rfl, hb2⟩; rw [HZ.out]; have HB2 := hideG (HB1.out.trans (hb2.mono (by omega))); clear hb2 x0 x1 x2))
      go_ret2
      exact ⟨_, rfl, HB2.out, HT.out.below HB2.out⟩

theorem sane_insert {T : List Nd} (hS : Sane T) (p c b : Int) : Sane (insertR T p c b) := by
  by_cases h1 : insertE T p c b = 1
  · rw [insertR_one h1]; exact fun n hn => by simp at hn
  · by_cases h0 : insertE T p c b = 0
    · have hm : mayB T = true := by
        cases e : mayB T
        · exact absurd (by simp only [insertE, e, Bool.false_eq_true, if_false]) h1
        · rfl
      have hF : insertF T p c b = 0 := by simpa only [insertE, hm, if_true] using h0
      rw [insertR_zero h0]
      obtain ⟨p, c, rfl, rfl, _⟩ := insertF_zero hF
      rw [Int.toNat_natCast, Int.toNat_natCast]
      obtain ⟨f1, f2⟩ := fine_insert (mayB_fine hm) hF
      exact f2.sane f1 hS
    · rw [insertR_else h1 h0]; exact hS
theorem sane_remove {T : List Nd} (hS : Sane T) (c : Int) : Sane (removeR T c) := by
  by_cases h1 : removeE T c = 1
  · rw [removeR_one h1]; exact fun n hn => by simp at hn
  · by_cases h0 : removeE T c = 0
    · have hm : mayB T = true := by
        cases e : mayB T
        · exact absurd (by simp only [removeE, e, Bool.false_eq_true, if_false]) h1
        · rfl
      rw [removeR_zero h0]
      cases hi : isNodeB T.length c
      · simp only [removeE, hm, hi, Bool.false_eq_true, if_false, if_true] at h0
        exact absurd h0 (by decide)
      · obtain ⟨c, rfl, hc⟩ := isNodeB_true hi
        rw [Int.toNat_natCast]
        have hF := mayB_fine hm
        exact (takeL_same hc (fine_placed hF hc)).sane (fine_take hF hc).1 hS
    · rw [removeR_else h1 h0]; exact hS
theorem insertR_le (T : List Nd) (p c b : Int) : (insertR T p c b).length ≤ T.length := by
  unfold insertR
  split
  · simp
  · split
    · unfold insertL
      split
      · exact Nat.le_refl _
      · rw [layL_length, takeL_length]; exact Nat.le_refl _
    · exact Nat.le_refl _
theorem removeR_le (T : List Nd) (c : Int) : (removeR T c).length ≤ T.length := by
  unfold removeR
  split
  · simp
  · split
    · rw [takeL_length]; exact Nat.le_refl _
    · exact Nat.le_refl _
set_option maxRecDepth 100000 in
set_option maxHeartbeats 4000000 in
theorem moves_walk (T : List Nd) (v : Value) (p c b : Int) (w : World) (hT : TreeAt w v T) :
    Calls Try.prog 4 #[v, .agg #[.int .i64 p, .int .i64 c, .int .i64 b]] w fun e w' => e = .returned (.bool true) ∧ Below w.heap.size w w' := by
  have HA := hideG ((Below.refl _ w).alloc (Nat.le_refl _) (.cells #[.int .i64 p, .int .i64 c, .int .i64 b] 33))
  have HT0 := hideG hT
  have HT := hideG (hT.below HA.out)
  obtain ⟨a, cap, rfl⟩ := hT.shape
  clear hT
  cases hs : smallB T
  · go_enter Try.func4, Try.ntmps4
    go_wp2_with (first | (go_at_call 19; refine (refSmall_any T _ _ HT.out).mono ?_; rintro e w1 ⟨rfl, rfl⟩) | (go_at_call 20; refine (live1_any _).mono ?_; rintro e w2 ⟨rfl, hb2⟩; simp only [World.size_alloc] at hb2))
    go_ret
    exact ⟨rfl, HA.out.trans (hb2.mono (by omega))⟩
  · have HS := hideG (small_sane hs)
    have h70 := (smallB_at hs).1
    have h1000 : T.length ≤ 1000 := by omega
    have m1 := insertR_le T p c b
    have m2 := removeR_le T c
    have m1' : (insertR T p c b).length ≤ 1000000 := by omega
    have m2' : (removeR T c).length ≤ 1000000 := by omega
    have m3' : T.length ≤ 1000000 := by omega
    clear m1 m2
    generalize hE : insertE T p c b = ze at *
    generalize hE2 : removeE T c = ze2 at *
    have HE := hideG hE
    have HE2 := hideG hE2
    clear hE hE2
    go_enter Try.func4, Try.ntmps4
    go_wp2_with (first | (go_at_call 19; refine (refSmall_any T _ _ HT.out).mono ?_; rintro e w1 ⟨rfl, rfl⟩) | (go_at_call 26; refine (refCopy_any T HS.out _ _ HT.out h1000).mono ?_; rintro e w1 ⟨v1, kv, av, rfl, ho, hb1⟩; obtain ⟨a1, c1, rfl⟩ := ownsRow_shape ho.row; simp only [World.size_alloc] at hb1; have x0 := hb1.cell (p := ⟨w.heap.size, 0, none⟩) (by simp); have x1 := hb1.cell (p := ⟨w.heap.size, 1, none⟩) (by simp); have x2 := hb1.cell (p := ⟨w.heap.size, 2, none⟩) (by simp); simp only [World.cell?_alloc_new] at x0 x1 x2; simp at x0 x1 x2; have hs1 := hb1.size; simp only [World.size_alloc] at hs1; have HB1 := hideG (HA.out.trans (hb1.mono (by omega))); have HWas := hideG ho.treeAt; clear hb1 ho) | (go_at_call 28; refine (own_any _ _ _ _).mono ?_; rintro e w2 ⟨rfl, hb2⟩; have y0 := (hb2.cell (p := ⟨w.heap.size, 0, none⟩) (by simp; omega)).trans x0; have y1 := (hb2.cell (p := ⟨w.heap.size, 1, none⟩) (by simp; omega)).trans x1; have y2 := (hb2.cell (p := ⟨w.heap.size, 2, none⟩) (by simp; omega)).trans x2; have hs2 := hb2.size; have HB2 := hideG (HB1.out.trans (hb2.mono (by omega))); have HWas2 := hideG (HWas.out.below hb2); clear hb2 x0 x1 x2 HWas) | (go_at_call 27; refine (insert_any T HS.out _ _ _ _ _ (HT0.out.below HB2.out)).mono ?_; rintro e w3 ⟨v3, rfl, hb3, ht3⟩; rw [HE.out]; obtain ⟨a3, c3, rfl⟩ := ht3.shape; have z0 := (hb3.cell (p := ⟨w.heap.size, 0, none⟩) (by simp; omega)).trans y0; have z1 := (hb3.cell (p := ⟨w.heap.size, 1, none⟩) (by simp; omega)).trans y1; have z2 := (hb3.cell (p := ⟨w.heap.size, 2, none⟩) (by simp; omega)).trans y2; have hs3 := hb3.size; have HB3 := hideG (HB2.out.trans (hb3.mono (by omega))); have HWas3 := hideG (HWas2.out.below hb3); have HI3 := hideG ht3; clear hb3 ht3 y0 y1 y2 HWas2) | (go_at_call 29; refine (refInsert_any T HS.out _ _ _ _ _ (HT0.out.below HB3.out)).mono ?_; rintro e w4 ⟨v4, rfl, hb4, ht4⟩; rw [HE.out]; obtain ⟨a4, c4, rfl⟩ := ht4.shape; have u1 := (hb4.cell (p := ⟨w.heap.size, 1, none⟩) (by simp; omega)).trans z1; have hs4 := hb4.size; have HB4 := hideG (HB3.out.trans (hb4.mono (by omega))); have HWas4 := hideG (HWas3.out.below hb4); have HI4 := hideG (HI3.out.below hb4); have HJ4 := hideG ht4; clear hb4 ht4 z0 z1 z2 HWas3 HI3) | (go_at_call 30; refine (remove_any T HS.out _ _ _ (HT0.out.below HB4.out)).mono ?_; rintro e w5 ⟨v5, rfl, hb5, ht5⟩; rw [HE2.out]; obtain ⟨a5, c5, rfl⟩ := ht5.shape; have t1 := (hb5.cell (p := ⟨w.heap.size, 1, none⟩) (by simp; omega)).trans u1; have hs5 := hb5.size; have HB5 := hideG (HB4.out.trans (hb5.mono (by omega))); have HWas5 := hideG (HWas4.out.below hb5); have HI5 := hideG (HI4.out.below hb5); have HJ5 := hideG (HJ4.out.below hb5); have HR5 := hideG ht5; clear hb5 ht5 u1 HWas4 HI4 HJ4) | (go_at_call 31; refine (refRemove_any T HS.out _ _ _ (HT0.out.below HB5.out)).mono ?_; rintro e w6 ⟨v6, rfl, hb6, ht6⟩; rw [HE2.out]; obtain ⟨a6, c6, rfl⟩ := ht6.shape; have HB6 := hideG (HB5.out.trans (hb6.mono (by omega))); have HWas6 := hideG (HWas5.out.below hb6); have HI6 := hideG (HI5.out.below hb6); have HJ6 := hideG (HJ5.out.below hb6); have HR6 := hideG (HR5.out.below hb6); have HQ6 := hideG ht6; clear hb6 ht6 t1 HWas5 HI5 HJ5 HR5) | (go_at_call 25; refine (refSame_any (insertR T p c b) (insertR T p c b) (sane_insert HS.out p c b) _ _ _ HI6.out HJ6.out m1').mono ?_; rintro e w7 ⟨rfl, hb7⟩; rw [decide_eq_true rfl]; have HB7 := hideG (HB6.out.trans (hb7.mono HB6.out.size)); have HWas7 := hideG (HWas6.out.below hb7); have HR7 := hideG (HR6.out.below hb7); have HQ7 := hideG (HQ6.out.below hb7); clear hb7 HI6) | (go_at_call 25; refine (refSame_any (removeR T c) (removeR T c) (sane_remove HS.out c) _ _ _ HR7.out HQ7.out m2').mono ?_; rintro e w8 ⟨rfl, hb8⟩; rw [decide_eq_true rfl]; have HB8 := hideG (HB7.out.trans (hb8.mono HB7.out.size)); have HWas8 := hideG (HWas7.out.below hb8); clear hb8 HR7) | (go_at_call 25; refine (refSame_any T T HS.out _ _ _ (HT0.out.below HB8.out) HWas8.out m3').mono ?_; rintro e w9 ⟨rfl, hb9⟩; rw [decide_eq_true rfl]; have HB9 := hideG (HB8.out.trans (hb9.mono HB8.out.size)); clear hb9) | (go_at_call 20; refine (live1_any _).mono ?_; rintro e w10 ⟨rfl, hb10⟩))
    go_ret
    exact ⟨rfl, HB9.out.trans (hb10.mono HB9.out.size)⟩
end Go.Proofs.Ytoolkpjbbngdpaa
