/- live of package limelightlaw09. -/
import Derived.Test.YtpmacpbhdgigfaaGreatFireRun
import Derived.Test.YtpmacpbhdgigfaaGreatLit
namespace Go.Proofs.YtpmacpbhdgigfaaGreat
open Go.RowKit
open L8 (Hr hrD HearAt HearsAt forL hearsP hearCells dropL)

theorem next_is (w : World) (b : Nat) (D : Nat → Prop) (r : Rn) (v : Value) (l : List Hr) (hL : HearsAt w v l) (hl : l.length ≤ 100000) (h : RunOk w b D r) (hD : ∀ d, D d → d < w.heap.size) (hr : r.left.length ≤ 100000) (hw : r.wait.length ≤ 100000) (hvb : Off b v)
    (n0 t0 : Int) (c0 o0 : Bool) (p0 s0 s1 s2 ph : Int) (cc : Bool) (left : List Vi) (wait : List Hr) (hn : nextL l r.kind r.left r.cur r.wait = some (⟨n0, t0, c0, o0, p0⟩, ⟨⟨s0, s1, s2⟩, ph, cc⟩, left, wait)) :
    Calls Tryz.prog 70 #[.pointer (some ⟨b, 0, none⟩), v] w fun x w' => x = .returned (.tuple #[.agg #[.int .i64 n0, .int .i64 t0, .bool c0, .bool o0, .int .i64 p0, .int .i64 s0, .int .i64 s1, .int .i64 s2, .int .i64 ph, .bool cc], .bool true]) ∧ Turn b w w' ∧ RunOk w' b D { r with left := left, cur := ⟨⟨s0, s1, s2⟩, ph, cc⟩, wait := wait } := by
  refine (next_any w b D r v l hL hl h hD hr hw hvb).mono ?_
  rintro x w' ⟨ht, h1, _⟩
  obtain ⟨hx, hk⟩ := h1 _ _ _ _ hn
  exact ⟨hx, ht, hk⟩
theorem next_no (w : World) (b : Nat) (D : Nat → Prop) (r : Rn) (v : Value) (l : List Hr) (hL : HearsAt w v l) (hl : l.length ≤ 100000) (h : RunOk w b D r) (hD : ∀ d, D d → d < w.heap.size) (hr : r.left.length ≤ 100000) (hw : r.wait.length ≤ 100000) (hvb : Off b v) (hn : nextL l r.kind r.left r.cur r.wait = none) :
    Calls Tryz.prog 70 #[.pointer (some ⟨b, 0, none⟩), v] w fun x w' => x = .returned (.tuple #[.agg #[.int .i64 0, .int .i64 0, .bool false, .bool false, .int .i64 0, .int .i64 0, .int .i64 0, .int .i64 0, .int .i64 0, .bool false], .bool false]) ∧ Turn b w w' ∧ ∃ cur, RunOk w' b D { r with left := [], cur := cur, wait := [] } := by
  refine (next_any w b D r v l hL hl h hD hr hw hvb).mono ?_
  rintro x w' ⟨ht, _, h2⟩
  obtain ⟨hx, hk⟩ := h2 hn
  exact ⟨hx, ht, hk⟩
theorem hears_lit {U : World} {g : Nat} {t : TypeId} (l : List Hr) {cs : Array Value} (h : U.heap[g]? = some (.cells cs t)) (hc : cs = (hearCells l).toArray) : HearsAt U (.slice (some ⟨g, 0, none⟩) l.length l.length) l := by
  refine ⟨_, _, rfl, Nat.le_refl _, fun _ => ⟨g, 0, rfl, fun j hj => ?_⟩⟩
  subst hc
  obtain ⟨e0, e1, e2, e3, e4⟩ := L8.hearCells_at hj
  rw [Nat.zero_add]
  exact ⟨cell_of_cells h (by simpa using e0), cell_of_cells h (by simpa using e1), cell_of_cells h (by simpa using e2), cell_of_cells h (by simpa using e3), cell_of_cells h (by simpa using e4)⟩

def ls9h : List Hr := [⟨1, 2, false, false, 1⟩, ⟨1, 2, false, false, 2⟩, ⟨0, 2, false, false, 3⟩, ⟨0, 2, true, false, 4⟩]
def ls9 : List Nd := [⟨0, 0, -1, [1], -1, -1, []⟩, ⟨1, 0, 0, [], -1, -1, []⟩]
def ls9rows (s : Nat) : List (Nd × Value × Value) := [(⟨0, 0, -1, [1], -1, -1, []⟩, .slice (some ⟨s + 0, 0, none⟩) 1 1, .slice none 0 0), (⟨1, 0, 0, [], -1, -1, []⟩, .slice none 0 0, .slice none 0 0)]
def ls9objs (s : Nat) : List Obj := [.cells (intCells [1]).toArray 3, .cells (nodesL (ls9rows s)).toArray 79, .cells (hearCells ls9h).toArray 35, .cells #[.int .i64 2, .int .i64 1, .int .i64 (-1), .bool true, .bool true, .bool false] 25]
theorem ls9_tree (w : World) : TreeAt (allocs w (ls9objs w.heap.size)) (.slice (some ⟨w.heap.size + 1, 0, none⟩) 2 2) ls9 :=
  tree_lit (ls9rows w.heap.size) (allocs_at w _ 1 _ rfl) rfl (List.forall_mem_cons.mpr ⟨⟨ints_lit [1] (allocs_at w _ 0 _ rfl) rfl, attrs_none _⟩, List.forall_mem_cons.mpr ⟨⟨ints_none _, attrs_none _⟩, fun p h => by cases h⟩⟩)

theorem ls9_hears (w : World) : HearsAt (allocs w (ls9objs w.heap.size)) (.slice (some ⟨w.heap.size + 2, 0, none⟩) 4 4) ls9h := hears_lit ls9h (allocs_at w _ 2 _ rfl) rfl
theorem ls9_all : AllR 2 ls9h [⟨⟨0, 1, -1⟩, 1, true⟩, ⟨⟨1, 1, -1⟩, 2, true⟩, ⟨⟨1, 1, -1⟩, 2, false⟩, ⟨⟨0, 1, -1⟩, 3, false⟩] viD [] [(⟨0, 2, true, false, 4⟩, ⟨⟨0, 1, -1⟩, 1, true⟩), (⟨1, 2, false, false, 1⟩, ⟨⟨1, 1, -1⟩, 2, false⟩), (⟨1, 2, false, false, 2⟩, ⟨⟨1, 1, -1⟩, 2, false⟩), (⟨0, 2, false, false, 3⟩, ⟨⟨0, 1, -1⟩, 3, false⟩)] :=
  AllR.call (left' := [⟨⟨1, 1, -1⟩, 2, true⟩, ⟨⟨1, 1, -1⟩, 2, false⟩, ⟨⟨0, 1, -1⟩, 3, false⟩]) (wait' := []) (by decide +kernel) (AllR.call (left' := [⟨⟨0, 1, -1⟩, 3, false⟩]) (wait' := [⟨1, 2, false, false, 2⟩]) (by decide +kernel) (AllR.call (left' := [⟨⟨0, 1, -1⟩, 3, false⟩]) (wait' := []) (by decide +kernel) (AllR.call (left' := []) (wait' := []) (by decide +kernel) (AllR.done (by decide +kernel)))))

set_option maxRecDepth 100000 in
set_option maxHeartbeats 8000000 in
theorem live9_any (w : World) : Calls Tryz.prog 20 #[] w fun e w' => e = .returned (.bool true) ∧ Below w.heap.size w w' := by
  have hs : shortB ls9 = true := by decide
  have hm : mayB ls9 = true := by decide +kernel
  have hv : visitsI ls9 (⟨2, 1, -1, true, true, false⟩ : Ev) = [⟨⟨0, 1, -1⟩, 1, true⟩, ⟨⟨1, 1, -1⟩, 2, true⟩, ⟨⟨1, 1, -1⟩, 2, false⟩, ⟨⟨0, 1, -1⟩, 3, false⟩] := by decide +kernel
  have HT0 := hideG (ls9_tree w)
  have HL0 := hideG (ls9_hears w)
  have HB0 := hideG (allocs_below w (ls9objs w.heap.size))
  have HP0 := hideG (show ∀ j u, (#[.int .i64 2, .int .i64 1, .int .i64 (-1), .bool true, .bool true, .bool false] : Array Value)[j]? = some u → (allocs w (ls9objs w.heap.size)).cell? ⟨w.heap.size + 3, j, none⟩ = some u from fun j u hj => cell_of_cells (allocs_at w _ 3 _ rfl) hj)
  have HSZ := hideG (show (allocs w (ls9objs w.heap.size)).heap.size = w.heap.size + 4 from allocs_size w _)
  have HN := hideG (new_any ls9 (sane_of hs) _ (⟨2, 1, -1, true, true, false⟩ : Ev) _ HT0.out (by decide) hm 1 rfl (by decide))
  rw [hv] at HN
  have HV := hideG hv
  have HM := hideG hm
  have HS := hideG hs
  obtain ⟨WL, hWL⟩ : ∃ WL, allocs w (ls9objs w.heap.size) = WL := ⟨_, rfl⟩
  have HWL := hideG hWL
  rw [hWL] at HT0 HL0 HB0 HP0 HSZ HN
  clear hv hm hs hWL
  go_enter Tryz.func20, Tryz.ntmps20
  go_wp2_with fail
  have hN := HN.out
  rw [← HWL.out] at hN
  refine hN.mono ?_
  rintro ex w1 ⟨b, rfl, hrun, hbW, hb1⟩
  have HHN : Hid True := hideG trivial
  clear hN
  replace hb1 : Below WL.heap.size WL w1 := by rw [← HWL.out]; exact hb1
  replace hbW : WL.heap.size ≤ b := by rw [← HWL.out]; exact hbW
  have hr1 : RunOk w1 b (fun _ => False) _ := hrun _ (fun _ k => k.elim)
  have hbl : b < w1.heap.size := hr1.lt
  have HBW := hideG hbW
  have hof : Off b (.slice (some ⟨w.heap.size + 2, 0, none⟩) 4 4) := Off.hears HL0.out hbW
  have HOF := hideG hof
  have HR1 := hideG hr1
  have HB1 := hideG hb1
  have HX1 := hideG (next_is w1 b (fun _ => False) _ _ ls9h (HL0.out.below hb1) (by decide) hr1 (fun _ k => k.elim) (by decide) (by decide) hof 0 2 true false 4 0 1 (-1) 1 true [⟨⟨1, 1, -1⟩, 2, true⟩, ⟨⟨1, 1, -1⟩, 2, false⟩, ⟨⟨0, 1, -1⟩, 3, false⟩] [] (by decide +kernel))
  have HBL := hideG hbl
  clear hrun hbW hb1 hr1 hbl hof HN
  go_wp2_with fail
  refine HX1.out.mono ?_
  rintro ex w2 ⟨rfl, ht2, hk2⟩
  have HLE1 := hideG (Nat.le_refl w1.heap.size)
  obtain ⟨V2, hV2⟩ : ∃ V, w2.alloc (.cells #[.int .i64 0, .int .i64 2, .bool true, .bool false, .int .i64 4, .int .i64 0, .int .i64 1, .int .i64 (-1), .int .i64 1, .bool true] 41) = V := ⟨_, rfl⟩
  have hbv2 : Below w2.heap.size w2 V2 := by rw [← hV2]; exact (Below.refl _ _).alloc (Nat.le_refl _) _
  have HB2 := hideG ((Turn.below HB1.out ht2 HBW.out).trans (hbv2.mono (Turn.below HB1.out ht2 HBW.out).size))
  have hne2 : w2.heap.size ≠ b := by have := HBL.out; have := ht2.size; have := HLE1.out; omega
  have HLE2 := hideG (show w1.heap.size ≤ V2.heap.size by have := hbv2.size; have := ht2.size; have := HLE1.out; omega)
  have CA := hideG (show V2.cell? ⟨w2.heap.size, 4, none⟩ = some (.int .i64 4) by rw [← hV2]; simp)
  have CAE := hideG hne2
  have HV2 := hideG hV2
  have HR2 := hideG (RunOk.below hk2 hbv2)
  have HX2 := hideG (next_is V2 b (fun _ => False) _ _ ls9h (HL0.out.below HB2.out) (by decide) HR2.out (fun _ k => k.elim) (by decide) (by decide) HOF.out 1 2 false false 1 1 1 (-1) 2 false [⟨⟨0, 1, -1⟩, 3, false⟩] [⟨1, 2, false, false, 2⟩] (by decide +kernel))
  clear hV2 hbv2 ht2 hk2 hne2
  clear HR1 HX1 HB1
  go_wp2_with (first | rw [HV2.out])
  refine HX2.out.mono ?_
  rintro ex w3 ⟨rfl, ht3, hk3⟩
  obtain ⟨V3, hV3⟩ : ∃ V, w3.alloc (.cells #[.int .i64 1, .int .i64 2, .bool false, .bool false, .int .i64 1, .int .i64 1, .int .i64 1, .int .i64 (-1), .int .i64 2, .bool false] 41) = V := ⟨_, rfl⟩
  have hbv3 : Below w3.heap.size w3 V3 := by rw [← hV3]; exact (Below.refl _ _).alloc (Nat.le_refl _) _
  have HB3 := hideG ((Turn.below HB2.out ht3 HBW.out).trans (hbv3.mono (Turn.below HB2.out ht3 HBW.out).size))
  have hne3 : w3.heap.size ≠ b := by have := HBL.out; have := ht3.size; have := HLE2.out; omega
  have HLE3 := hideG (show w1.heap.size ≤ V3.heap.size by have := hbv3.size; have := ht3.size; have := HLE2.out; omega)
  have CAn := hideG (cell_below hbv3 (Turn.cell ht3 CA.out (by have := CAE.out; omega)))
  clear CA
  have CA := CAn
  clear CAn
  have CB := hideG (show V3.cell? ⟨w3.heap.size, 4, none⟩ = some (.int .i64 1) by rw [← hV3]; simp)
  have CBE := hideG hne3
  have CD := hideG (show V3.cell? ⟨w3.heap.size, 8, none⟩ = some (.int .i64 2) by rw [← hV3]; simp)
  have CDE := hideG hne3
  have HV3 := hideG hV3
  have HR3 := hideG (RunOk.below hk3 hbv3)
  have HX3 := hideG (tell_any V3 b _ _ true false true HR3.out)
  clear hV3 hbv3 ht3 hk3 hne3 HR2 HX2 HB2
  go_wp2_with (first | rw [HV3.out])
  refine HX3.out.mono ?_
  rintro ex w4 ⟨rfl, hk4, ht4⟩
  have hk4' : RunOk w4 b (fun _ => False) ⟨2, true, true, [], ⟨⟨1, 1, -1⟩, 2, false⟩, [⟨1, 2, false, false, 2⟩]⟩ := hk4
  have HB4 := hideG (Turn.below HB3.out ht4 HBW.out)
  have HLE4 := hideG (show w1.heap.size ≤ w4.heap.size by have := ht4.size; have := HLE3.out; omega)
  have CAn := hideG (Turn.cell ht4 CA.out CAE.out)
  have CBn := hideG (Turn.cell ht4 CB.out CBE.out)
  have CDn := hideG (Turn.cell ht4 CD.out CDE.out)
  clear CA CB CD
  have CA := CAn
  have CB := CBn
  have CD := CDn
  clear CAn CBn CDn
  have HX4 := hideG (next_is w4 b (fun _ => False) _ _ ls9h (HL0.out.below HB4.out) (by decide) hk4' (fun _ k => k.elim) (by decide) (by decide) HOF.out 1 2 false false 2 1 1 (-1) 2 false [] [] (by decide +kernel))
  clear hk4 hk4' ht4 HR3 HX3 HB3
  go_wp2_with fail
  refine HX4.out.mono ?_
  rintro ex w5 ⟨rfl, ht5, hk5⟩
  obtain ⟨V5, hV5⟩ : ∃ V, w5.alloc (.cells #[.int .i64 1, .int .i64 2, .bool false, .bool false, .int .i64 2, .int .i64 1, .int .i64 1, .int .i64 (-1), .int .i64 2, .bool false] 41) = V := ⟨_, rfl⟩
  have hbv5 : Below w5.heap.size w5 V5 := by rw [← hV5]; exact (Below.refl _ _).alloc (Nat.le_refl _) _
  have HB5 := hideG ((Turn.below HB4.out ht5 HBW.out).trans (hbv5.mono (Turn.below HB4.out ht5 HBW.out).size))
  have hne5 : w5.heap.size ≠ b := by have := HBL.out; have := ht5.size; have := HLE4.out; omega
  have HLE5 := hideG (show w1.heap.size ≤ V5.heap.size by have := hbv5.size; have := ht5.size; have := HLE4.out; omega)
  have CAn := hideG (cell_below hbv5 (Turn.cell ht5 CA.out (by have := CAE.out; omega)))
  clear CA
  have CA := CAn
  clear CAn
  have CBn := hideG (cell_below hbv5 (Turn.cell ht5 CB.out (by have := CBE.out; omega)))
  clear CB
  have CB := CBn
  clear CBn
  have CDn := hideG (cell_below hbv5 (Turn.cell ht5 CD.out (by have := CDE.out; omega)))
  clear CD
  have CD := CDn
  clear CDn
  have CE := hideG (show V5.cell? ⟨w5.heap.size, 4, none⟩ = some (.int .i64 2) by rw [← hV5]; simp)
  have CEE := hideG hne5
  have HV5 := hideG hV5
  have HR5 := hideG (RunOk.below hk5 hbv5)
  have HX5 := hideG (next_no V5 b (fun _ => False) _ _ ls9h (HL0.out.below HB5.out) (by decide) HR5.out (fun _ k => k.elim) (by decide) (by decide) HOF.out (by decide +kernel))
  clear hV5 hbv5 ht5 hk5 hne5
  clear HX4 HB4
  go_wp2_with (first | rw [HV5.out])
  refine HX5.out.mono ?_
  rintro ex w6 ⟨rfl, ht6, cur6, hk6⟩
  obtain ⟨V6, hV6⟩ : ∃ V, w6.alloc (.cells #[.int .i64 0, .int .i64 0, .bool false, .bool false, .int .i64 0, .int .i64 0, .int .i64 0, .int .i64 0, .int .i64 0, .bool false] 41) = V := ⟨_, rfl⟩
  have hbv6 : Below w6.heap.size w6 V6 := by rw [← hV6]; exact (Below.refl _ _).alloc (Nat.le_refl _) _
  have HB6 := hideG ((Turn.below HB5.out ht6 HBW.out).trans (hbv6.mono (Turn.below HB5.out ht6 HBW.out).size))
  have hne6 : w6.heap.size ≠ b := by have := HBL.out; have := ht6.size; have := HLE5.out; omega
  have HLE6 := hideG (show w1.heap.size ≤ V6.heap.size by have := hbv6.size; have := ht6.size; have := HLE5.out; omega)
  have CAn := hideG (cell_below hbv6 (Turn.cell ht6 CA.out (by have := CAE.out; omega)))
  clear CA
  have CA := CAn
  clear CAn
  have CBn := hideG (cell_below hbv6 (Turn.cell ht6 CB.out (by have := CBE.out; omega)))
  clear CB
  have CB := CBn
  clear CBn
  have CDn := hideG (cell_below hbv6 (Turn.cell ht6 CD.out (by have := CDE.out; omega)))
  clear CD
  have CD := CDn
  clear CDn
  have CEn := hideG (cell_below hbv6 (Turn.cell ht6 CE.out (by have := CEE.out; omega)))
  clear CE
  have CE := CEn
  clear CEn
  have HV6 := hideG hV6
  have HR6 := hideG (RunOk.below hk6 hbv6)
  have HX6 := hideG (all_any ls9 (sane_of HS.out) _ (⟨2, 1, -1, true, true, false⟩ : Ev) V6 (HT0.out.below HB6.out) (by decide) ls9h _ (HL0.out.below HB6.out) (by decide) HM.out 1 rfl (by decide) (by rw [HV.out]; decide))
  have HB6w := Turn.below HB5.out ht6 HBW.out
  have hlt3 : w.heap.size + 3 < w6.heap.size := by have := HB6w.size; have := HSZ.out; omega
  have P0 : w6.cell? ⟨w.heap.size + 3, 0, none⟩ = some (.int .i64 2) := cell_below HB6w (HP0.out 0 _ rfl)
  have P1 : w6.cell? ⟨w.heap.size + 3, 1, none⟩ = some (.int .i64 1) := cell_below HB6w (HP0.out 1 _ rfl)
  have P2 : w6.cell? ⟨w.heap.size + 3, 2, none⟩ = some (.int .i64 (-1)) := cell_below HB6w (HP0.out 2 _ rfl)
  have P3 : w6.cell? ⟨w.heap.size + 3, 3, none⟩ = some (.bool true) := cell_below HB6w (HP0.out 3 _ rfl)
  have P4 : w6.cell? ⟨w.heap.size + 3, 4, none⟩ = some (.bool true) := cell_below HB6w (HP0.out 4 _ rfl)
  have P5 : w6.cell? ⟨w.heap.size + 3, 5, none⟩ = some (.bool false) := cell_below HB6w (HP0.out 5 _ rfl)
  clear hV6 hbv6 ht6 hk6 hne6 HX5 HB5 HR5 HB6w
  go_wp2_with fail
  rw [HV6.out]
  refine HX6.out.mono ?_
  rintro ex w7 ⟨a7, c7, out, rfl, ho7, hal, hb7⟩
  have hlen : out.length = 4 := by
    rw [HV.out] at hal
    rw [AllR.det hal ls9_all]; rfl
  rw [hlen]
  have HB7 := hideG (HB6.out.trans (hb7.mono HB6.out.size))
  obtain ⟨lv, wv, hra, _⟩ := RunOk.below HR6.out hb7
  have HCN := hideG (cancelled_any w7 b _ lv wv hra)
  have ca : w7.cell? ⟨w2.heap.size, 4, none⟩ = some (.int .i64 4) := cell_below hb7 CA.out
  have cb : w7.cell? ⟨w3.heap.size, 4, none⟩ = some (.int .i64 1) := cell_below hb7 CB.out
  have cd : w7.cell? ⟨w3.heap.size, 8, none⟩ = some (.int .i64 2) := cell_below hb7 CD.out
  have ce : w7.cell? ⟨w5.heap.size, 4, none⟩ = some (.int .i64 2) := cell_below hb7 CE.out
  clear P0 P1 P2 P3 P4 P5 hlt3 hb7 ho7 hal hra hlen HX6
  go_wp2_with fail
  refine HCN.out.mono ?_
  rintro ex wz ⟨rfl, hwz⟩
  obtain rfl : _ = wz := hwz.symm
  go_wp2_with fail
  refine (newNone_any ls9 (sane_of HS.out) _ ⟨0, 2, 0, false, false, false⟩ _ (HT0.out.below HB7.out) (by decide +kernel)).mono ?_
  rintro ex w8 ⟨rfl, hb8⟩
  have HB8 := hideG (HB0.out.trans ((HB7.out.trans (hb8.mono HB7.out.size)).mono HB0.out.size))
  clear hb8 ca cb cd ce
  go_wp2_with fail
  go_ret
  exact ⟨rfl, HB8.out⟩
end Go.Proofs.YtpmacpbhdgigfaaGreat
