/- live of package limelightlaw07. -/
import Derived.Test.YtgfdcllpmjhkeaaStEq
import Derived.Test.YtgfdcllpmjhkeaaLit
namespace Go.Proofs.Ytgfdcllpmjhkeaa
open Go.RowKit

theorem visits_any (T : List Nd) (hS : Sane T) (v : Value) (e : Ev) (w : World) (hT : TreeAt w v T) (h6 : T.length ≤ 1000) :
    Calls Try.prog 19 #[v, .agg #[.int .i64 e.type, .int .i64 e.target, .int .i64 e.related, .bool e.bub, .bool e.can, .bool e.comp]] w fun x w' => ∃ a c, x = .returned (.slice a (visitsI T e).length c) ∧ w'.ownsRow w.heap.size 44 5 (.slice a (visitsI T e).length c) (visitsI T e).length (viCells (visitsI T e)) ∧ Below w.heap.size w w' := callsIn_wide.1 (visits_in T hS v e w hT h6)
theorem l7Path (T : List Nd) (hs : shortB T = true) (e : Ev) (L : Nat) (l : List St) (hl : pathI T e = l) (hL : l.length = L) (v : Value) (w : World) (h : TreeAt w v T) (h6 : T.length ≤ 1000) :
    Calls Try.prog 13 #[v, .agg #[.int .i64 e.type, .int .i64 e.target, .int .i64 e.related, .bool e.bub, .bool e.can, .bool e.comp]] w fun x w' => ∃ a c, x = .returned (.slice a L c) ∧ StsAt w' (.slice a L c) l ∧ Below w.heap.size w w' := by
  refine (path_any T (sane_of hs) v e w h h6).mono ?_
  rintro x w' ⟨a, c, rfl, ho, hb⟩
  have hi := ownsRow_stCells ho
  rw [hl, hL] at hi
  exact ⟨a, c, by rw [hl, hL], hi, hb⟩
theorem l7Visits (T : List Nd) (hs : shortB T = true) (e : Ev) (L : Nat) (l : List Vi) (hl : visitsI T e = l) (hL : l.length = L) (v : Value) (w : World) (h : TreeAt w v T) (h6 : T.length ≤ 1000) :
    Calls Try.prog 19 #[v, .agg #[.int .i64 e.type, .int .i64 e.target, .int .i64 e.related, .bool e.bub, .bool e.can, .bool e.comp]] w fun x w' => ∃ a c, x = .returned (.slice a L c) ∧ VisAt w' (.slice a L c) l ∧ Below w.heap.size w w' := by
  refine (visits_any T (sane_of hs) v e w h h6).mono ?_
  rintro x w' ⟨a, c, rfl, ho, hb⟩
  have hi := ownsRow_viCells ho
  rw [hl, hL] at hi
  exact ⟨a, c, by rw [hl, hL], hi, hb⟩
theorem l7Parent (T : List Nd) (hs : shortB T = true) (n : Int) (e : Ev) (r : Int) (hr : aimParI T n e = r) (v : Value) (w : World) (h : TreeAt w v T) :
    Calls Try.prog 15 #[v, .int .i64 n, .agg #[.int .i64 e.type, .int .i64 e.target, .int .i64 e.related, .bool e.bub, .bool e.can, .bool e.comp]] w fun x w' => x = .returned (.int .i64 r) ∧ Below w.heap.size w w' := by
  rw [← hr]; exact aimParent_any T (sane_of hs) v n e w h

def ls7 : List Nd := [⟨0, 0, -1, [1], -1, -1, []⟩, ⟨1, 0, 0, [], -1, 2, []⟩, ⟨3, 0, -1, [3, 4], 1, -1, []⟩, ⟨1, 0, 2, [], -1, -1, []⟩, ⟨1, 0, 2, [], -1, -1, []⟩]
def ls7rows (s : Nat) : List (Nd × Value × Value) := [(⟨0, 0, -1, [1], -1, -1, []⟩, .slice (some ⟨s + 0, 0, none⟩) 1 1, .slice none 0 0), (⟨1, 0, 0, [], -1, 2, []⟩, .slice none 0 0, .slice none 0 0), (⟨3, 0, -1, [3, 4], 1, -1, []⟩, .slice (some ⟨s + 1, 0, none⟩) 2 2, .slice none 0 0), (⟨1, 0, 2, [], -1, -1, []⟩, .slice none 0 0, .slice none 0 0), (⟨1, 0, 2, [], -1, -1, []⟩, .slice none 0 0, .slice none 0 0)]
def ls7objs (s : Nat) : List Obj := [.cells (intCells [1]).toArray 3, .cells (intCells [3, 4]).toArray 3, .cells (nodesL (ls7rows s)).toArray 53]
theorem ls7_tree (w : World) : TreeAt (allocs w (ls7objs w.heap.size)) (.slice (some ⟨w.heap.size + 2, 0, none⟩) 5 5) ls7 :=
  tree_lit (ls7rows w.heap.size) (allocs_at w _ 2 _ rfl) rfl (List.forall_mem_cons.mpr ⟨⟨ints_lit [1] (allocs_at w _ 0 _ rfl) rfl, attrs_none _⟩, List.forall_mem_cons.mpr ⟨⟨ints_none _, attrs_none _⟩, List.forall_mem_cons.mpr ⟨⟨ints_lit [3, 4] (allocs_at w _ 1 _ rfl) rfl, attrs_none _⟩, List.forall_mem_cons.mpr ⟨⟨ints_none _, attrs_none _⟩, List.forall_mem_cons.mpr ⟨⟨ints_none _, attrs_none _⟩, fun p h => by cases h⟩⟩⟩⟩⟩)

set_option maxRecDepth 100000 in
set_option maxHeartbeats 4000000 in
theorem live7_any (w : World) : Calls Try.prog 12 #[] w fun e w' => e = .returned (.bool true) ∧ Below w.heap.size w w' := by
  have hs : shortB ls7 = true := by decide
  have HT0 := hideG (ls7_tree w)
  have HB0 := hideG (allocs_below w (ls7objs w.heap.size))
  go_enter Try.func12, Try.ntmps12
  go_wp2_with fail
  refine (l7Path ls7 hs ⟨0, 3, -1, false, false, true⟩ 4 [⟨3, 3, -1⟩, ⟨2, 3, -1⟩, ⟨1, 1, -1⟩, ⟨0, 1, -1⟩] (by decide +kernel) rfl _ _ HT0.out (by decide)).mono ?_
  rintro x w1 ⟨a1, c1, rfl, hi1, hb1⟩
  obtain ⟨a1', c1', e1, hd1⟩ := hi1
  injection e1 with q1 q2 q3
  subst q1
  subst q3
  clear q2
  obtain ⟨b1, o1, rfl, hx1⟩ := hd1.2 (by decide)
  have hA2 := hx1 2 (by decide)
  have hA3 := hx1 3 (by decide)
  have A0 := hideG hA2.node
  have A1 := hideG hA2.tg
  have A2 := hideG hA2.rel
  have A3 := hideG hA3.node
  have A4 := hideG hA3.tg
  have A5 := hideG hA3.rel
  clear hd1 hx1 hA2 hA3
  have HT1 := hideG (HT0.out.below hb1)
  have HB1 := hideG (HB0.out.trans (hb1.mono HB0.out.size))
  clear hb1 HT0 HB0
  go_wp2_with fail
  refine (l7Path ls7 hs ⟨0, 3, 4, false, false, true⟩ 2 [⟨3, 3, 4⟩, ⟨2, 3, 4⟩] (by decide +kernel) rfl _ _ HT1.out (by decide)).mono ?_
  rintro x w2 ⟨a2, c2, rfl, hi2, hb2⟩
  clear hi2
  have HT2 := hideG (HT1.out.below hb2)
  have HB2 := hideG (HB1.out.trans (hb2.mono HB1.out.size))
  have A0' := hideG (cell_below hb2 A0.out)
  clear A0
  have A0 := A0'
  clear A0'
  have A1' := hideG (cell_below hb2 A1.out)
  clear A1
  have A1 := A1'
  clear A1'
  have A2' := hideG (cell_below hb2 A2.out)
  clear A2
  have A2 := A2'
  clear A2'
  have A3' := hideG (cell_below hb2 A3.out)
  clear A3
  have A3 := A3'
  clear A3'
  have A4' := hideG (cell_below hb2 A4.out)
  clear A4
  have A4 := A4'
  clear A4'
  have A5' := hideG (cell_below hb2 A5.out)
  clear A5
  have A5 := A5'
  clear A5'
  clear hb2 HT1 HB1
  go_wp2_with fail
  refine (l7Path ls7 hs ⟨0, 3, -1, false, false, false⟩ 2 [⟨3, 3, -1⟩, ⟨2, 3, -1⟩] (by decide +kernel) rfl _ _ HT2.out (by decide)).mono ?_
  rintro x w3 ⟨a3, c3, rfl, hi3, hb3⟩
  clear hi3
  have HT3 := hideG (HT2.out.below hb3)
  have HB3 := hideG (HB2.out.trans (hb3.mono HB2.out.size))
  have A0' := hideG (cell_below hb3 A0.out)
  clear A0
  have A0 := A0'
  clear A0'
  have A1' := hideG (cell_below hb3 A1.out)
  clear A1
  have A1 := A1'
  clear A1'
  have A2' := hideG (cell_below hb3 A2.out)
  clear A2
  have A2 := A2'
  clear A2'
  have A3' := hideG (cell_below hb3 A3.out)
  clear A3
  have A3 := A3'
  clear A3'
  have A4' := hideG (cell_below hb3 A4.out)
  clear A4
  have A4 := A4'
  clear A4'
  have A5' := hideG (cell_below hb3 A5.out)
  clear A5
  have A5 := A5'
  clear A5'
  clear hb3 HT2 HB2
  go_wp2_with fail
  refine (l7Visits ls7 hs ⟨0, 3, -1, false, false, true⟩ 6 [⟨⟨0, 1, -1⟩, 1, true⟩, ⟨⟨1, 1, -1⟩, 2, true⟩, ⟨⟨2, 3, -1⟩, 1, true⟩, ⟨⟨3, 3, -1⟩, 2, true⟩, ⟨⟨3, 3, -1⟩, 2, false⟩, ⟨⟨1, 1, -1⟩, 2, false⟩] (by decide +kernel) rfl _ _ HT3.out (by decide)).mono ?_
  rintro x w4 ⟨a4, c4, rfl, hi4, hb4⟩
  obtain ⟨a4', c4', e4, hd4⟩ := hi4
  injection e4 with q1 q2 q3
  subst q1
  subst q3
  clear q2
  obtain ⟨b4, o4, rfl, hx4⟩ := hd4.2 (by decide)
  have V0 := hideG (hx4 0 (by decide)).node
  have V1 := hideG (hx4 0 (by decide)).phase
  have V2 := hideG (hx4 1 (by decide)).phase
  have V3 := hideG (hx4 4 (by decide)).node
  have V4 := hideG (hx4 4 (by decide)).cap
  have V5 := hideG (hx4 5 (by decide)).node
  clear hd4 hx4
  have HT4 := hideG (HT3.out.below hb4)
  have HB4 := hideG (HB3.out.trans (hb4.mono HB3.out.size))
  have A0' := hideG (cell_below hb4 A0.out)
  clear A0
  have A0 := A0'
  clear A0'
  have A1' := hideG (cell_below hb4 A1.out)
  clear A1
  have A1 := A1'
  clear A1'
  have A2' := hideG (cell_below hb4 A2.out)
  clear A2
  have A2 := A2'
  clear A2'
  have A3' := hideG (cell_below hb4 A3.out)
  clear A3
  have A3 := A3'
  clear A3'
  have A4' := hideG (cell_below hb4 A4.out)
  clear A4
  have A4 := A4'
  clear A4'
  have A5' := hideG (cell_below hb4 A5.out)
  clear A5
  have A5 := A5'
  clear A5'
  have gA0 : w4.cell? ⟨b1, o1 + 6, none⟩ = some (.int .i64 1) := A0.out
  have gA1 : w4.cell? ⟨b1, o1 + 7, none⟩ = some (.int .i64 1) := A1.out
  have gA2 : w4.cell? ⟨b1, o1 + 8, none⟩ = some (.int .i64 (-1)) := A2.out
  have gA3 : w4.cell? ⟨b1, o1 + 9, none⟩ = some (.int .i64 0) := A3.out
  have gA4 : w4.cell? ⟨b1, o1 + 10, none⟩ = some (.int .i64 1) := A4.out
  have gA5 : w4.cell? ⟨b1, o1 + 11, none⟩ = some (.int .i64 (-1)) := A5.out
  have gV0 : w4.cell? ⟨b4, o4, none⟩ = some (.int .i64 0) := V0.out
  have gV1 : w4.cell? ⟨b4, o4 + 3, none⟩ = some (.int .i64 1) := V1.out
  have gV2 : w4.cell? ⟨b4, o4 + 8, none⟩ = some (.int .i64 2) := V2.out
  have gV3 : w4.cell? ⟨b4, o4 + 20, none⟩ = some (.int .i64 3) := V3.out
  have gV4 : w4.cell? ⟨b4, o4 + 24, none⟩ = some (.bool false) := V4.out
  have gV5 : w4.cell? ⟨b4, o4 + 25, none⟩ = some (.int .i64 1) := V5.out
  have he := fun wx => st_eql 1 1 (-1) wx
  have he2 := fun wx => st_eql 0 1 (-1) wx
  clear hb4 HT3 HB3
  go_wp2_with fail
  refine (l7Parent ls7 hs 2 ⟨0, 3, 0, false, false, false⟩ (-1) (by decide +kernel) _ _ HT4.out).mono ?_
  rintro x w5 ⟨rfl, hb5⟩
  clear gA0 gA1 gA2 gA3 gA4 gA5 gV0 gV1 gV2 gV3 gV4 gV5
  have HT5 := hideG (HT4.out.below hb5)
  have HB5 := hideG (HB4.out.trans (hb5.mono HB4.out.size))
  have gV0 : w5.cell? ⟨b4, o4, none⟩ = some (.int .i64 0) := cell_below hb5 V0.out
  have gV1 : w5.cell? ⟨b4, o4 + 3, none⟩ = some (.int .i64 1) := cell_below hb5 V1.out
  have gV2 : w5.cell? ⟨b4, o4 + 8, none⟩ = some (.int .i64 2) := cell_below hb5 V2.out
  have gV3 : w5.cell? ⟨b4, o4 + 20, none⟩ = some (.int .i64 3) := cell_below hb5 V3.out
  have gV4 : w5.cell? ⟨b4, o4 + 24, none⟩ = some (.bool false) := cell_below hb5 V4.out
  have gV5 : w5.cell? ⟨b4, o4 + 25, none⟩ = some (.int .i64 1) := cell_below hb5 V5.out
  clear hb5 HT4 HB4
  go_wp2_with fail
  refine (l7Path ls7 hs ⟨0, 9, 0, false, false, false⟩ 0 [] (by decide +kernel) rfl _ _ HT5.out (by decide)).mono ?_
  rintro x w6 ⟨a6, c6, rfl, hi6, hb6⟩
  clear hi6 gV0 gV1 gV2 gV3 gV4 gV5
  have HT6 := hideG (HT5.out.below hb6)
  have HB6 := hideG (HB5.out.trans (hb6.mono HB5.out.size))
  clear hb6 HT5 HB5
  go_wp2_with fail
  go_ret
  exact ⟨rfl, HB6.out⟩
end Go.Proofs.Ytgfdcllpmjhkeaa
