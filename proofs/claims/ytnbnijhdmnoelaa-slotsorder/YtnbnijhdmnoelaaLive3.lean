/- live of package limelightlaw03. -/
import Derived.Test.YtnbnijhdmnoelaaLit
import Derived.Test.YtnbnijhdmnoelaaRef3b
namespace Go.Proofs.Ytnbnijhdmnoelaa
open Go.RowKit

theorem dn_short {T : List Nd} (m : Nat) (hm : mayB T = true) (h : m < T.length) : (dn T m).length ≤ 1000 := by
  have h1 := (forest3 hm).d_len h
  have h2 := mayB_pos hm
  omega
theorem listO_any (T : List Nd) (hS : Sane T) (v : Value) (n : Int) (w : World) (hT : TreeAt w v T) :
    Calls Try.prog 31 #[v, .int .i64 n] w fun e w' => ∃ a c, e = .returned (.slice a (dnI T n).length c) ∧ w'.ownsRow w.heap.size 3 1 (.slice a (dnI T n).length c) (dnI T n).length (intCells (dnI T n)) ∧ Below w.heap.size w w' :=
  orderList_any T hS v n w hT (fun m => dn_short m)
theorem loList (T : List Nd) (hs : shortB T = true) (n : Int) (L : Nat) (l : List Int) (hl : dnI T n = l) (hL : l.length = L) (v : Value) (w : World) (h : TreeAt w v T) :
    Calls Try.prog 31 #[v, .int .i64 n] w fun x w' => ∃ a c, x = .returned (.slice a L c) ∧ IntsAt w' (.slice a L c) l ∧ Below w.heap.size w w' := by
  refine (listO_any T (sane_of hs) v n w h).mono ?_
  rintro x w' ⟨a, c, rfl, ho, hb⟩
  have hi := ownsRow_ints ho
  rw [hl, hL] at hi
  exact ⟨a, c, by rw [hl, hL], hi, hb⟩
theorem loUp (T : List Nd) (hs : shortB T = true) (n : Int) (L : Nat) (l : List Int) (hl : upI T n = l) (hL : l.length = L) (v : Value) (w : World) (h : TreeAt w v T) :
    Calls Try.prog 32 #[v, .int .i64 n] w fun x w' => ∃ a c, x = .returned (.slice a L c) ∧ IntsAt w' (.slice a L c) l ∧ Below w.heap.size w w' := by
  refine (orderUp_any T (sane_of hs) v n w h).mono ?_
  rintro x w' ⟨a, c, rfl, ho, hb⟩
  have hi := ownsRow_ints ho
  rw [hl, hL] at hi
  exact ⟨a, c, by rw [hl, hL], hi, hb⟩
theorem loTop (T : List Nd) (hs : shortB T = true) (n r : Int) (hr : topI T n = r) (v : Value) (w : World) (h : TreeAt w v T) :
    Calls Try.prog 33 #[v, .int .i64 n] w fun x w' => x = .returned (.int .i64 r) ∧ Below w.heap.size w w' := by
  rw [← hr]; exact orderTop_any T (sane_of hs) v n w h
theorem loAbove (T : List Nd) (hs : shortB T = true) (a b : Int) (r : Bool) (hr : aboveO T a b = r) (v : Value) (w : World) (h : TreeAt w v T) :
    Calls Try.prog 28 #[v, .int .i64 a, .int .i64 b] w fun x w' => x = .returned (.bool r) ∧ Below w.heap.size w w' := by
  rw [← hr]; exact orderAbove_any T (sane_of hs) v a b w h
theorem loBefore (T : List Nd) (hs : shortB T = true) (a b : Int) (r : Bool) (hr : beforeI T a b = r) (v : Value) (w : World) (h : TreeAt w v T) :
    Calls Try.prog 29 #[v, .int .i64 a, .int .i64 b] w fun x w' => x = .returned (.bool r) ∧ Below w.heap.size w w' := by
  rw [← hr]; exact orderBefore_any T (sane_of hs) v a b w h
theorem loCommon (T : List Nd) (hs : shortB T = true) (a b r : Int) (hr : commonI T a b = r) (v : Value) (w : World) (h : TreeAt w v T) :
    Calls Try.prog 30 #[v, .int .i64 a, .int .i64 b] w fun x w' => x = .returned (.int .i64 r) ∧ Below w.heap.size w w' := by
  rw [← hr]; exact orderCommon_any T (sane_of hs) v a b w h

def ls3 : List Nd := [⟨0, 0, -1, [2, 1], -1, -1, []⟩, ⟨1, 0, 0, [3], -1, -1, []⟩, ⟨1, 0, 0, [], -1, -1, []⟩, ⟨1, 0, 1, [], -1, -1, []⟩, ⟨1, 0, -1, [], -1, -1, []⟩]
def ls3rows (s : Nat) : List (Nd × Value × Value) := [(⟨0, 0, -1, [2, 1], -1, -1, []⟩, .slice (some ⟨s + 0, 0, none⟩) 2 2, .slice none 0 0), (⟨1, 0, 0, [3], -1, -1, []⟩, .slice (some ⟨s + 1, 0, none⟩) 1 1, .slice none 0 0), (⟨1, 0, 0, [], -1, -1, []⟩, .slice none 0 0, .slice none 0 0), (⟨1, 0, 1, [], -1, -1, []⟩, .slice none 0 0, .slice none 0 0), (⟨1, 0, -1, [], -1, -1, []⟩, .slice none 0 0, .slice none 0 0)]
def ls3objs (s : Nat) : List Obj := [.cells (intCells [2, 1]).toArray 3, .cells (intCells [3]).toArray 3, .cells (nodesL (ls3rows s)).toArray 38]
theorem ls3_tree (w : World) : TreeAt (allocs w (ls3objs w.heap.size)) (.slice (some ⟨w.heap.size + 2, 0, none⟩) 5 5) ls3 :=
  tree_lit (ls3rows w.heap.size) (allocs_at w _ 2 _ rfl) rfl (List.forall_mem_cons.mpr ⟨⟨ints_lit [2, 1] (allocs_at w _ 0 _ rfl) rfl, attrs_none _⟩, List.forall_mem_cons.mpr ⟨⟨ints_lit [3] (allocs_at w _ 1 _ rfl) rfl, attrs_none _⟩, List.forall_mem_cons.mpr ⟨⟨ints_none _, attrs_none _⟩, List.forall_mem_cons.mpr ⟨⟨ints_none _, attrs_none _⟩, List.forall_mem_cons.mpr ⟨⟨ints_none _, attrs_none _⟩, fun p h => by cases h⟩⟩⟩⟩⟩)

set_option maxRecDepth 100000 in
set_option maxHeartbeats 4000000 in
theorem live3_any (w : World) : Calls Try.prog 26 #[] w fun e w' => e = .returned (.bool true) ∧ Below w.heap.size w w' := by
  have hs : shortB ls3 = true := by decide
  have HT0 := hideG (ls3_tree w)
  have HB0 := hideG (allocs_below w (ls3objs w.heap.size))
  go_enter Try.func26, Try.ntmps26
  go_wp2_with fail
  refine (loList ls3 hs 0 4 [0, 2, 1, 3] (by decide +kernel) rfl _ _ HT0.out).mono ?_
  rintro e w1 ⟨a1, c1, rfl, hi1, hb1⟩
  have HI1 := hideG hi1
  have HT1 := hideG (HT0.out.below hb1)
  have HB1 := hideG (HB0.out.trans (hb1.mono HB0.out.size))
  clear hb1 hi1 HT0 HB0
  go_wp2_with fail
  refine (lints [0, 2, 1, 3] [0, 2, 1, 3] true (by decide) (by decide) _ _ _ (HI1.out.below ((Below.refl _ _).alloc (Nat.le_refl _) _)) (ints_lit [0, 2, 1, 3] (World.alloc_heap_new _ _) rfl)).mono ?_
  rintro e w2 ⟨rfl, hb2⟩
  have hx2 := ((Below.refl w1.heap.size w1).alloc (Nat.le_refl _) (.cells #[.int .i64 0, .int .i64 2, .int .i64 1, .int .i64 3] 3)).trans (hb2.mono (by simp))
  clear hb2
  have HT2 := hideG (HT1.out.below hx2)
  have HB2 := hideG (HB1.out.trans (hx2.mono HB1.out.size))
  clear hx2 HT1 HB1
  go_wp2_with fail
  refine (loTop ls3 hs 3 0 (by decide +kernel) _ _ HT2.out).mono ?_
  rintro e w3 ⟨rfl, hb3⟩
  have HT3 := hideG (HT2.out.below hb3)
  have HB3 := hideG (HB2.out.trans (hb3.mono HB2.out.size))
  clear hb3 HT2 HB2
  go_wp2_with fail
  refine (loTop ls3 hs 4 4 (by decide +kernel) _ _ HT3.out).mono ?_
  rintro e w4 ⟨rfl, hb4⟩
  have HT4 := hideG (HT3.out.below hb4)
  have HB4 := hideG (HB3.out.trans (hb4.mono HB3.out.size))
  clear hb4 HT3 HB3
  go_wp2_with fail
  refine (loAbove ls3 hs 1 3 true (by decide +kernel) _ _ HT4.out).mono ?_
  rintro e w5 ⟨rfl, hb5⟩
  have HT5 := hideG (HT4.out.below hb5)
  have HB5 := hideG (HB4.out.trans (hb5.mono HB4.out.size))
  clear hb5 HT4 HB4
  go_wp2_with fail
  refine (loAbove ls3 hs 2 3 false (by decide +kernel) _ _ HT5.out).mono ?_
  rintro e w6 ⟨rfl, hb6⟩
  have HT6 := hideG (HT5.out.below hb6)
  have HB6 := hideG (HB5.out.trans (hb6.mono HB5.out.size))
  clear hb6 HT5 HB5
  go_wp2_with fail
  refine (loBefore ls3 hs 2 3 true (by decide +kernel) _ _ HT6.out).mono ?_
  rintro e w7 ⟨rfl, hb7⟩
  have HT7 := hideG (HT6.out.below hb7)
  have HB7 := hideG (HB6.out.trans (hb7.mono HB6.out.size))
  clear hb7 HT6 HB6
  go_wp2_with fail
  refine (loBefore ls3 hs 3 2 false (by decide +kernel) _ _ HT7.out).mono ?_
  rintro e w8 ⟨rfl, hb8⟩
  have HT8 := hideG (HT7.out.below hb8)
  have HB8 := hideG (HB7.out.trans (hb8.mono HB7.out.size))
  clear hb8 HT7 HB7
  go_wp2_with fail
  refine (loUp ls3 hs 3 3 [3, 1, 0] (by decide +kernel) rfl _ _ HT8.out).mono ?_
  rintro e w9 ⟨a9, c9, rfl, hi9, hb9⟩
  have HI9 := hideG hi9
  have HT9 := hideG (HT8.out.below hb9)
  have HB9 := hideG (HB8.out.trans (hb9.mono HB8.out.size))
  clear hb9 hi9 HT8 HB8
  go_wp2_with fail
  refine (lints [3, 1, 0] [3, 1, 0] true (by decide) (by decide) _ _ _ (HI9.out.below ((Below.refl _ _).alloc (Nat.le_refl _) _)) (ints_lit [3, 1, 0] (World.alloc_heap_new _ _) rfl)).mono ?_
  rintro e w10 ⟨rfl, hb10⟩
  have hx10 := ((Below.refl w9.heap.size w9).alloc (Nat.le_refl _) (.cells #[.int .i64 3, .int .i64 1, .int .i64 0] 3)).trans (hb10.mono (by simp))
  clear hb10
  have HT10 := hideG (HT9.out.below hx10)
  have HB10 := hideG (HB9.out.trans (hx10.mono HB9.out.size))
  clear hx10 HT9 HB9
  go_wp2_with fail
  refine (loCommon ls3 hs 3 2 0 (by decide +kernel) _ _ HT10.out).mono ?_
  rintro e w11 ⟨rfl, hb11⟩
  have HT11 := hideG (HT10.out.below hb11)
  have HB11 := hideG (HB10.out.trans (hb11.mono HB10.out.size))
  clear hb11 HT10 HB10
  go_wp2_with fail
  refine (loCommon ls3 hs 3 4 (-1) (by decide +kernel) _ _ HT11.out).mono ?_
  rintro e w12 ⟨rfl, hb12⟩
  have HT12 := hideG (HT11.out.below hb12)
  have HB12 := hideG (HB11.out.trans (hb12.mono HB11.out.size))
  clear hb12 HT11 HB11
  go_wp2_with fail
  refine (loTop ls3 hs 5 (-1) (by decide +kernel) _ _ HT12.out).mono ?_
  rintro e w13 ⟨rfl, hb13⟩
  have HT13 := hideG (HT12.out.below hb13)
  have HB13 := hideG (HB12.out.trans (hb13.mono HB12.out.size))
  clear hb13 HT12 HB12
  go_wp2_with fail
  refine (loList [] (by decide) 0 0 [] (by decide +kernel) rfl _ _ (treeAt_nil _)).mono ?_
  rintro e w14 ⟨a14, c14, rfl, hi14, hb14⟩
  have HT14 := hideG (HT13.out.below hb14)
  have HB14 := hideG (HB13.out.trans (hb14.mono HB13.out.size))
  clear hb14 hi14 HT13 HB13
  go_wp2_with fail
  go_ret
  exact ⟨rfl, HB14.out⟩
end Go.Proofs.Ytnbnijhdmnoelaa
