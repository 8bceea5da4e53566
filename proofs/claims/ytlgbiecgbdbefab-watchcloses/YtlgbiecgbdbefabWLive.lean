/- WLive: the answers that the document gives for layer 18. -/
import Derived.Test.YtlgbiecgbdbefabWClose
import Derived.Test.YtlgbiecgbdbefabWSame
namespace Go.Proofs.Ytlgbiecgbdbefab
open Go.RowKit

theorem openL {g g' : List (List Int)} {a x : Int} {n : Bool} {L : Nat} (h : (wtOpen ⟨g, a, n⟩ x).g = g') (hL : g'.length = L) (hf : fewG g 1000) (gv : Value) (w : World) (hG : GrpsAt w gv g) :
    Calls Try.prog 11 #[.agg #[gv, .int .i64 a, .bool n], .int .i64 x] w fun e w' => ∃ va vc, e = .returned (.agg #[.slice va L vc, .int .i64 a, .bool true]) ∧ OwnX w' w.heap.size (.slice va L vc) g' ∧ Below w.heap.size w w' := by
  subst h hL
  exact open_any g hf gv a n x w hG
theorem dropL {g g' : List (List Int)} {a x : Int} {n : Bool} {L : Nat} (h : dropG g x = g') (hL : g'.length = L) (hf : fewG g 1000) (gv : Value) (w : World) (hG : GrpsAt w gv g) :
    Calls Try.prog 14 #[.agg #[gv, .int .i64 a, .bool n], .int .i64 x] w fun e w' => ∃ va vc, e = .returned (.agg #[.slice va L vc, .int .i64 a, .bool n]) ∧ OwnX w' w.heap.size (.slice va L vc) g' ∧ Below w.heap.size w w' := by
  subst h hL
  exact drop_any g hf gv a n x w hG
theorem actL {g : List (List Int)} {a a' : Int} {n : Bool} {L : Nat} (h : (if n && decide (a < 1000) then a + 1 else a) = a') (hL : g.length = L) (hf : fewG g 1000) (gv : Value) (w : World) (hG : GrpsAt w gv g) (ha : -9223372036854775808 ≤ a) :
    Calls Try.prog 10 #[.agg #[gv, .int .i64 a, .bool n]] w fun e w' => ∃ va vc, e = .returned (.agg #[.slice va L vc, .int .i64 a', .bool false]) ∧ OwnX w' w.heap.size (.slice va L vc) g ∧ Below w.heap.size w w' := by
  subst h hL
  exact act_any g hf gv a n w hG ha
theorem closeL {g : List (List Int)} {l : List Int} {a a' : Int} {n : Bool} {L M : Nat} (h : clA a = a') (hl : toldL ⟨g, a, n⟩ = l) (hL : g.length = L) (hM : l.length = M) (hf : fewG g 1000) (gv : Value) (w : World) (hG : GrpsAt w gv g) :
    Calls Try.prog 12 #[.agg #[gv, .int .i64 a, .bool n]] w fun e w' => ∃ va vc la lc, e = .returned (.tuple #[.agg #[.slice va L vc, .int .i64 a', .bool n], .slice la M lc]) ∧ OwnX w' w.heap.size (.slice va L vc) g ∧ IntsAt w' (.slice la M lc) l ∧ Below w.heap.size w w' := by
  subst h hL hM
  refine (close_any g hf gv a n w hG).mono ?_
  rintro e w' ⟨va, vc, lv, rfl, h1, h2, h3⟩
  obtain ⟨la, lc, rfl⟩ := h2.shape
  rw [hl] at h2 ⊢
  exact ⟨va, vc, la, lc, rfl, h1, h2, h3⟩
theorem intsTwo (w : World) (x y : Int) : IntsAt (w.alloc (.cells #[.int .i64 x, .int .i64 y] 3)) (.slice (some ⟨w.heap.size, 0, none⟩) 2 2) [x, y] := by
  refine ⟨_, 2, rfl, fun _ => ⟨w.heap.size, 0, rfl, fun j hj => ?_⟩⟩
  have hj' : j < 2 := hj
  rw [Nat.zero_add]
  match j, hj' with
  | 0, _ => simp
  | 1, _ => simp
theorem nilG (w : World) : GrpsAt w (.slice none 0 0) [] := ⟨by simp, none, 0, rfl, fun h => by simp at h⟩
set_option maxRecDepth 100000 in
set_option maxHeartbeats 8000000 in
theorem live_any (w : World) : Calls Try.prog 8 #[] w fun e w' => e = .returned (.bool true) ∧ Below w.heap.size w w' := by
  go_enter Try.func8, Try.ntmps8
  go_wp2_with fail
  refine (new_any w).mono ?_
  rintro e w1 ⟨rfl, hb1⟩
  have H1 := hideG hb1
  clear hb1
  go_wp2_with fail
  refine (openL (g := []) (g' := [[1]]) (L := 1) (by decide) rfl (by decide) _ w1 (nilG _)).mono ?_
  rintro e w2 ⟨v2, k2, rfl, hg2, hb2⟩
  have H2 := hideG (H1.out.trans (hb2.mono H1.out.size))
  have G2 := hideG (hg2.grps.below (alB w2 (.cells #[.slice v2 1 k2, .int .i64 1, .bool true] 26)))
  clear hg2 hb2
  go_wp2_with fail
  refine (openL (g := [[1]]) (g' := [[1, 2]]) (L := 1) (by decide) rfl (by decide) _ _ G2.out).mono ?_
  rintro e w3 ⟨v3, k3, rfl, hg3, hb3⟩
  have H3 := hideG (show Below w.heap.size w w3 from (H2.out.alloc H2.out.size _).trans (hb3.mono (by have := H2.out.size; simp; omega)))
  have HA := hideG (Box3.new w3 (.slice v3 1 k3) (.int .i64 1) (.bool true) 26)
  have G3 := hideG (hg3.grps.below (alB w3 (.cells #[.slice v3 1 k3, .int .i64 1, .bool true] 26)))
  clear hg3 hb3 G2
  go_wp2_with fail
  refine (actL (g := [[1, 2]]) (a' := 2) (L := 1) (by decide) rfl (by decide) _ _ G3.out (by decide)).mono ?_
  rintro e w4 ⟨v4, k4, rfl, hg4, hb4⟩
  have H4 := hideG (show Below w.heap.size w w4 from (H3.out.alloc H3.out.size _).trans (hb4.mono (by have := H3.out.size; simp; omega)))
  have HA4 := hideG (HA.out.call hb4)
  have G4 := hideG hg4.grps
  clear hg4 hb4 G3 HA
  go_wp2_with fail
  refine (openL (g := [[1, 2]]) (g' := [[1, 2], [3]]) (L := 2) (by decide) rfl (by decide) _ _ G4.out).mono ?_
  rintro e w5 ⟨v5, k5, rfl, hg5, hb5⟩
  have H5 := hideG (H4.out.trans (hb5.mono H4.out.size))
  have HA5 := hideG ((HA4.out.call hb5).alloc (.cells #[.slice v5 2 k5, .int .i64 2, .bool true] 26))
  have HB := hideG (Box3.new w5 (.slice v5 2 k5) (.int .i64 2) (.bool true) 26)
  have G5 := hideG (hg5.grps.below (alB w5 (.cells #[.slice v5 2 k5, .int .i64 2, .bool true] 26)))
  clear hg5 hb5 G4 HA4
  go_wp2_with fail
  refine (closeL (g := [[1, 2], [3]]) (a' := 1) (l := [3]) (L := 2) (M := 1) (by simp [clA, wrap64]) (by decide) rfl rfl (by decide) _ _ G5.out).mono ?_
  rintro e w6 ⟨v6, k6, l6, c6, rfl, hg6, hi6, hb6⟩
  have H6 := hideG (show Below w.heap.size w w6 from (H5.out.alloc H5.out.size _).trans (hb6.mono (by have := H5.out.size; simp; omega)))
  have HA6 := hideG ((HA5.out.call hb6).alloc (.cells #[.slice v6 2 k6, .int .i64 1, .bool true] 26))
  have HB6 := hideG ((HB.out.call hb6).alloc (.cells #[.slice v6 2 k6, .int .i64 1, .bool true] 26))
  have HC6 := hideG (Box3.new w6 (.slice v6 2 k6) (.int .i64 1) (.bool true) 26)
  have G6 := hideG ((G5.out.below hb6).below (alB w6 (.cells #[.slice v6 2 k6, .int .i64 1, .bool true] 26)))
  have I6 := hideG (hi6.below (alB w6 (.cells #[.slice v6 2 k6, .int .i64 1, .bool true] 26)))
  clear hg6 hi6 hb6 G5 HA5
  have p0 := HB.out.c0
  have q0 := HB6.out.c0
  have q1 := HB6.out.c1
  have q2 := HB6.out.c2
  have qlt := HB6.out.lt
  go_wp2_with fail
  refine (dropL (g := [[1, 2], [3]]) (g' := [[1, 2]]) (L := 1) (by decide) rfl (by decide) _ _ G6.out).mono ?_
  rintro e w7 ⟨v7, k7, rfl, hg7, hb7⟩
  have H7 := hideG (show Below w.heap.size w w7 from (H6.out.alloc H6.out.size _).trans (hb7.mono (by have := H6.out.size; simp; omega)))
  have HA7 := hideG ((HA6.out.call hb7).alloc (.cells #[.slice v7 1 k7, .int .i64 2, .bool true] 26))
  have HB7 := hideG ((HB6.out.call hb7).alloc (.cells #[.slice v7 1 k7, .int .i64 2, .bool true] 26))
  have HC7 := hideG ((HC6.out.call hb7).alloc (.cells #[.slice v7 1 k7, .int .i64 2, .bool true] 26))
  have HD7 := hideG (Box3.new w7 (.slice v7 1 k7) (.int .i64 2) (.bool true) 26)
  have G7 := hideG (hg7.grps.below (alB w7 (.cells #[.slice v7 1 k7, .int .i64 2, .bool true] 26)))
  have I7 := hideG ((I6.out.below hb7).below (alB w7 (.cells #[.slice v7 1 k7, .int .i64 2, .bool true] 26)))
  clear hg7 hb7 p0 q0 q1 q2 qlt
  clear G6
  go_wp2_with fail
  refine (closeL (g := [[1, 2]]) (a' := 1) (l := [2, 1]) (L := 1) (M := 2) (by simp [clA, wrap64]) (by decide) rfl rfl (by decide) _ _ G7.out).mono ?_
  rintro e w8 ⟨v8, k8, l8, c8, rfl, hg8, hi8, hb8⟩
  have H8 := hideG (show Below w.heap.size w w8 from (H7.out.alloc H7.out.size _).trans (hb8.mono (by have := H7.out.size; simp; omega)))
  have HA8 := hideG (HA7.out.call hb8)
  have HB8 := hideG (HB7.out.call hb8)
  have HC8 := hideG (HC7.out.call hb8)
  have HD8 := hideG (HD7.out.call hb8)
  have I8 := hideG (I7.out.below hb8)
  have J8 := hideG hi8
  clear hg8 hi8 hb8
  obtain ⟨W9, hW9⟩ : ∃ W9, w8.alloc (.cells #[.slice v8 1 k8, .int .i64 1, .bool true] 26) = W9 := ⟨_, rfl⟩
  have H9 := hideG (show Below w.heap.size w W9 by rw [← hW9]; exact H8.out.alloc H8.out.size _)
  have HA9 := hideG (show Box3 W9 _ _ _ _ by rw [← hW9]; exact HA8.out.alloc _)
  have HB9 := hideG (show Box3 W9 _ _ _ _ by rw [← hW9]; exact HB8.out.alloc _)
  have HC9 := hideG (show Box3 W9 _ _ _ _ by rw [← hW9]; exact HC8.out.alloc _)
  have HD9 := hideG (show Box3 W9 _ _ _ _ by rw [← hW9]; exact HD8.out.alloc _)
  have I9 := hideG (show IntsAt W9 _ _ by rw [← hW9]; exact I8.out.below (alB _ _))
  have J9 := hideG (show IntsAt W9 _ _ by rw [← hW9]; exact J8.out.below (alB _ _))
  have hs9 : W9.heap.size = w8.heap.size + 1 := by rw [← hW9]; simp
  have H3L : Hid (IntsAt (W9.alloc (.cells #[.int .i64 3] 3)) (.slice (some ⟨w8.heap.size + 1, 0, none⟩) 1 1) [3]) := hideG (by have h := ownsRow_ints (rowOwn1 W9 3); rw [hs9] at h; exact h)
  clear hs9
  have HW9 := hideG hW9
  clear hW9
  have a0 := HA8.out.c0
  have b0 := HB8.out.c0
  have b1 := HB8.out.c1
  have b2 := HB8.out.c2
  have alt := HA8.out.lt
  have blt := HB8.out.lt
  go_wp2_with fail
  rw [HW9.out]
  clear HW9
  refine (refInts_any [3] [3] _ _ _ (I9.out.below (alB _ _)) H3L.out (by decide)).mono ?_
  rintro e wa ⟨rfl, hba⟩
  have HLa := hideG (show Below W9.heap.size W9 wa from (alB _ _).trans (hba.mono (by simp)))
  have HCa := hideG (HC9.out.call HLa.out)
  have HDa := hideG (HD9.out.call HLa.out)
  have Ja := hideG ((J9.out.below HLa.out).below (alB wa (.cells #[.int .i64 2, .int .i64 1] 3)))
  have HT := hideG (intsTwo wa 2 1)
  clear hba a0 b0 b1 b2 alt blt
  have c1 := HCa.out.c1
  have d0 := HDa.out.c0
  have clt := HCa.out.lt
  have dlt := HDa.out.lt
  go_wp2_with fail
  refine (refInts_any [2, 1] [2, 1] _ _ _ Ja.out HT.out (by decide)).mono ?_
  rintro e wb ⟨rfl, hbb⟩
  have HBF := hideG (show Below w.heap.size w wb from ((H9.out.trans (HLa.out.mono H9.out.size)).alloc (Nat.le_trans H9.out.size HLa.out.size) _).trans (hbb.mono (by have h1 := H9.out.size; have h2 := HLa.out.size; simp; omega)))
  clear hbb
  go_wp2_with fail
  go_ret
  exact ⟨ret_bool (by decide), HBF.out⟩
end Go.Proofs.Ytlgbiecgbdbefab
