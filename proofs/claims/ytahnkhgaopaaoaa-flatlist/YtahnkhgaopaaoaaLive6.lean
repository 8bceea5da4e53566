/- live of package limelightlaw06. -/
import Derived.Test.YtahnkhgaopaaoaaRef6b
namespace Go.Proofs.Ytahnkhgaopaaoaa
open Go.RowKit

theorem l6Up (T : List Nd) (hs : shortB T = true) (n : Int) (L : Nat) (l : List Int) (hl : fupI T n = l) (hL : l.length = L) (v : Value) (w : World) (h : TreeAt w v T) :
    Calls Try.prog 25 #[v, .int .i64 n] w fun x w' => ∃ a c, x = .returned (.slice a L c) ∧ IntsAt w' (.slice a L c) l ∧ Below w.heap.size w w' := by
  refine (flatUp_any T (sane_of hs) v n w h).mono ?_
  rintro x w' ⟨a, c, rfl, ho, hb⟩
  have hi := ownsRow_ints ho
  rw [hl, hL] at hi
  exact ⟨a, c, by rw [hl, hL], hi, hb⟩
theorem l6Kids (T : List Nd) (hs : shortB T = true) (n : Int) (L : Nat) (l : List Int) (hl : fkidsI T n = l) (hL : l.length = L) (v : Value) (w : World) (h : TreeAt w v T) :
    Calls Try.prog 23 #[v, .int .i64 n] w fun x w' => ∃ a c, x = .returned (.slice a L c) ∧ IntsAt w' (.slice a L c) l ∧ Below w.heap.size w w' := by
  refine (flatKids_any T (sane_of hs) v n w h).mono ?_
  rintro x w' ⟨a, c, rfl, ho, hb⟩
  have hi := ownsRow_ints ho
  rw [hl, hL] at hi
  exact ⟨a, c, by rw [hl, hL], hi, hb⟩
theorem l6List (T : List Nd) (hs : shortB T = true) (L : Nat) (l : List Int) (hl : flistI T = l) (hL : l.length = L) (v : Value) (w : World) (h : TreeAt w v T) :
    Calls Try.prog 34 #[v] w fun x w' => ∃ a c, x = .returned (.slice a L c) ∧ IntsAt w' (.slice a L c) l ∧ Below w.heap.size w w' := by
  refine (flatList_any T (sane_of hs) v w h).mono ?_
  rintro x w' ⟨a, c, rfl, ho, hb⟩
  have hi := ownsRow_ints ho
  rw [hl, hL] at hi
  exact ⟨a, c, by rw [hl, hL], hi, hb⟩
theorem l6Par (T : List Nd) (hs : shortB T = true) (n r : Int) (hr : fparI T n = r) (v : Value) (w : World) (h : TreeAt w v T) :
    Calls Try.prog 24 #[v, .int .i64 n] w fun x w' => x = .returned (.int .i64 r) ∧ Below w.heap.size w w' := by
  rw [← hr]; exact flatParent_any T (sane_of hs) v n w h
theorem l6Has (T : List Nd) (hs : shortB T = true) (n : Int) (r : Bool) (hr : faboveI T 0 n = r) (v : Value) (w : World) (h : TreeAt w v T) :
    Calls Try.prog 26 #[v, .int .i64 n] w fun x w' => x = .returned (.bool r) ∧ Below w.heap.size w w' := by
  rw [← hr]; exact flatHas_any T (sane_of hs) v n w h
theorem l6Abv (T : List Nd) (hs : shortB T = true) (a n : Int) (r : Bool) (hr : faboveI T a n = r) (v : Value) (w : World) (h : TreeAt w v T) :
    Calls Try.prog 22 #[v, .int .i64 a, .int .i64 n] w fun x w' => x = .returned (.bool r) ∧ Below w.heap.size w w' := by
  rw [← hr]; exact flatAbove_any T (sane_of hs) v a n w h

def ls6 : List Nd := [⟨0, 0, -1, [1], -1, -1, []⟩, ⟨1, 0, 0, [4, 5], -1, 2, []⟩, ⟨3, 0, -1, [3], 1, -1, []⟩, ⟨1, 3, 2, [6], -1, -1, []⟩, ⟨1, 0, 1, [], -1, -1, [(4, 7)]⟩, ⟨2, 0, 1, [], -1, -1, []⟩, ⟨1, 0, 3, [], -1, -1, []⟩]
def ls6rows (s : Nat) : List (Nd × Value × Value) := [(⟨0, 0, -1, [1], -1, -1, []⟩, .slice (some ⟨s + 0, 0, none⟩) 1 1, .slice none 0 0), (⟨1, 0, 0, [4, 5], -1, 2, []⟩, .slice (some ⟨s + 1, 0, none⟩) 2 2, .slice none 0 0), (⟨3, 0, -1, [3], 1, -1, []⟩, .slice (some ⟨s + 2, 0, none⟩) 1 1, .slice none 0 0), (⟨1, 3, 2, [6], -1, -1, []⟩, .slice (some ⟨s + 3, 0, none⟩) 1 1, .slice none 0 0), (⟨1, 0, 1, [], -1, -1, [(4, 7)]⟩, .slice none 0 0, .slice (some ⟨s + 4, 0, none⟩) 1 1), (⟨2, 0, 1, [], -1, -1, []⟩, .slice none 0 0, .slice none 0 0), (⟨1, 0, 3, [], -1, -1, []⟩, .slice none 0 0, .slice none 0 0)]
def ls6objs (s : Nat) : List Obj := [.cells (intCells [1]).toArray 3, .cells (intCells [4, 5]).toArray 3, .cells (intCells [3]).toArray 3, .cells (intCells [6]).toArray 3, .cells (attrCells [(4, 7)]).toArray 33, .cells (nodesL (ls6rows s)).toArray 31]
theorem ls6_tree (w : World) : TreeAt (allocs w (ls6objs w.heap.size)) (.slice (some ⟨w.heap.size + 5, 0, none⟩) 7 7) ls6 :=
  tree_lit (ls6rows w.heap.size) (allocs_at w _ 5 _ rfl) rfl (List.forall_mem_cons.mpr ⟨⟨ints_lit [1] (allocs_at w _ 0 _ rfl) rfl, attrs_none _⟩, List.forall_mem_cons.mpr ⟨⟨ints_lit [4, 5] (allocs_at w _ 1 _ rfl) rfl, attrs_none _⟩, List.forall_mem_cons.mpr ⟨⟨ints_lit [3] (allocs_at w _ 2 _ rfl) rfl, attrs_none _⟩, List.forall_mem_cons.mpr ⟨⟨ints_lit [6] (allocs_at w _ 3 _ rfl) rfl, attrs_none _⟩, List.forall_mem_cons.mpr ⟨⟨ints_none _, attrs_lit [(4, 7)] (allocs_at w _ 4 _ rfl) rfl⟩, List.forall_mem_cons.mpr ⟨⟨ints_none _, attrs_none _⟩, List.forall_mem_cons.mpr ⟨⟨ints_none _, attrs_none _⟩, fun p h => by cases h⟩⟩⟩⟩⟩⟩⟩)

set_option maxRecDepth 100000 in
set_option maxHeartbeats 4000000 in
theorem live6_any (w : World) : Calls Try.prog 21 #[] w fun e w' => e = .returned (.bool true) ∧ Below w.heap.size w w' := by
  have hs : shortB ls6 = true := by decide
  have HT0 := hideG (ls6_tree w)
  have HB0 := hideG (allocs_below w (ls6objs w.heap.size))
  go_enter Try.func21, Try.ntmps21
  go_wp2_with fail
  refine (l6List ls6 hs 4 [0, 1, 3, 5] (by decide +kernel) rfl _ _ HT0.out).mono ?_
  rintro e w1 ⟨a1, c1, rfl, hi1, hb1⟩
  have HI1 := hideG hi1
  have HT1 := hideG (HT0.out.below hb1)
  have HB1 := hideG (HB0.out.trans (hb1.mono HB0.out.size))
  clear hb1 hi1 HT0 HB0
  go_wp2_with fail
  refine (lints [0, 1, 3, 5] [0, 1, 3, 5] true (by decide) (by decide) _ _ _ (HI1.out.below ((Below.refl _ _).alloc (Nat.le_refl _) _)) (ints_lit [0, 1, 3, 5] (World.alloc_heap_new _ _) rfl)).mono ?_
  rintro e w2 ⟨rfl, hb2⟩
  have hx2 := ((Below.refl w1.heap.size w1).alloc (Nat.le_refl _) (.cells #[.int .i64 0, .int .i64 1, .int .i64 3, .int .i64 5] 3)).trans (hb2.mono (by simp))
  clear hb2
  have HT2 := hideG (HT1.out.below hx2)
  have HB2 := hideG (HB1.out.trans (hx2.mono HB1.out.size))
  clear hx2 HT1 HB1
  go_wp2_with fail
  refine (l6Par ls6 hs 5 (3) (by decide +kernel) _ _ HT2.out).mono ?_
  rintro e w3 ⟨rfl, hb3⟩
  have HT3 := hideG (HT2.out.below hb3)
  have HB3 := hideG (HB2.out.trans (hb3.mono HB2.out.size))
  clear hb3 HT2 HB2
  go_wp2_with fail
  refine (l6Par ls6 hs 4 (-1) (by decide +kernel) _ _ HT3.out).mono ?_
  rintro e w4 ⟨rfl, hb4⟩
  have HT4 := hideG (HT3.out.below hb4)
  have HB4 := hideG (HB3.out.trans (hb4.mono HB3.out.size))
  clear hb4 HT3 HB3
  go_wp2_with fail
  refine (l6Par ls6 hs 6 (-1) (by decide +kernel) _ _ HT4.out).mono ?_
  rintro e w5 ⟨rfl, hb5⟩
  have HT5 := hideG (HT4.out.below hb5)
  have HB5 := hideG (HB4.out.trans (hb5.mono HB4.out.size))
  clear hb5 HT4 HB4
  go_wp2_with fail
  refine (l6Par ls6 hs 3 (1) (by decide +kernel) _ _ HT5.out).mono ?_
  rintro e w6 ⟨rfl, hb6⟩
  have HT6 := hideG (HT5.out.below hb6)
  have HB6 := hideG (HB5.out.trans (hb6.mono HB5.out.size))
  clear hb6 HT5 HB5
  go_wp2_with fail
  refine (l6Up ls6 hs 5 4 [5, 3, 1, 0] (by decide +kernel) rfl _ _ HT6.out).mono ?_
  rintro e w7 ⟨a7, c7, rfl, hi7, hb7⟩
  have HI7 := hideG hi7
  have HT7 := hideG (HT6.out.below hb7)
  have HB7 := hideG (HB6.out.trans (hb7.mono HB6.out.size))
  clear hb7 hi7 HT6 HB6
  go_wp2_with fail
  refine (lints [5, 3, 1, 0] [5, 3, 1, 0] true (by decide) (by decide) _ _ _ (HI7.out.below ((Below.refl _ _).alloc (Nat.le_refl _) _)) (ints_lit [5, 3, 1, 0] (World.alloc_heap_new _ _) rfl)).mono ?_
  rintro e w8 ⟨rfl, hb8⟩
  have hx8 := ((Below.refl w7.heap.size w7).alloc (Nat.le_refl _) (.cells #[.int .i64 5, .int .i64 3, .int .i64 1, .int .i64 0] 3)).trans (hb8.mono (by simp))
  clear hb8
  have HT8 := hideG (HT7.out.below hx8)
  have HB8 := hideG (HB7.out.trans (hx8.mono HB7.out.size))
  clear hx8 HT7 HB7
  go_wp2_with fail
  refine (l6Has ls6 hs 5 true (by decide +kernel) _ _ HT8.out).mono ?_
  rintro e w9 ⟨rfl, hb9⟩
  have HT9 := hideG (HT8.out.below hb9)
  have HB9 := hideG (HB8.out.trans (hb9.mono HB8.out.size))
  clear hb9 HT8 HB8
  go_wp2_with fail
  refine (l6Has ls6 hs 6 false (by decide +kernel) _ _ HT9.out).mono ?_
  rintro e w10 ⟨rfl, hb10⟩
  have HT10 := hideG (HT9.out.below hb10)
  have HB10 := hideG (HB9.out.trans (hb10.mono HB9.out.size))
  clear hb10 HT9 HB9
  go_wp2_with fail
  refine (l6Abv ls6 hs 1 5 true (by decide +kernel) _ _ HT10.out).mono ?_
  rintro e w11 ⟨rfl, hb11⟩
  have HT11 := hideG (HT10.out.below hb11)
  have HB11 := hideG (HB10.out.trans (hb11.mono HB10.out.size))
  clear hb11 HT10 HB10
  go_wp2_with fail
  refine (l6Kids ls6 hs 1 1 [3] (by decide +kernel) rfl _ _ HT11.out).mono ?_
  rintro e w12 ⟨a12, c12, rfl, hi12, hb12⟩
  have HI12 := hideG hi12
  have HT12 := hideG (HT11.out.below hb12)
  have HB12 := hideG (HB11.out.trans (hb12.mono HB11.out.size))
  clear hb12 hi12 HT11 HB11
  go_wp2_with fail
  refine (lints [3] [3] true (by decide) (by decide) _ _ _ (HI12.out.below ((Below.refl _ _).alloc (Nat.le_refl _) _)) (ints_lit [3] (World.alloc_heap_new _ _) rfl)).mono ?_
  rintro e w13 ⟨rfl, hb13⟩
  have hx13 := ((Below.refl w12.heap.size w12).alloc (Nat.le_refl _) (.cells #[.int .i64 3] 3)).trans (hb13.mono (by simp))
  clear hb13
  have HT13 := hideG (HT12.out.below hx13)
  have HB13 := hideG (HB12.out.trans (hx13.mono HB12.out.size))
  clear hx13 HT12 HB12
  go_wp2_with fail
  refine (l6Kids ls6 hs 2 0 [] (by decide +kernel) rfl _ _ HT13.out).mono ?_
  rintro e w14 ⟨a14, c14, rfl, hi14, hb14⟩
  have HT14 := hideG (HT13.out.below hb14)
  have HB14 := hideG (HB13.out.trans (hb14.mono HB13.out.size))
  clear hb14 hi14 HT13 HB13
  go_wp2_with fail
  refine (l6List [] (by decide) 0 [] (by decide +kernel) rfl _ _ (treeAt_nil _)).mono ?_
  rintro e w15 ⟨a15, c15, rfl, hi15, hb15⟩
  have HT15 := hideG (HT14.out.below hb15)
  have HB15 := hideG (HB14.out.trans (hb15.mono HB14.out.size))
  clear hb15 hi15 HT14 HB14
  go_wp2_with fail
  go_ret
  exact ⟨rfl, HB15.out⟩
end Go.Proofs.Ytahnkhgaopaaoaa
