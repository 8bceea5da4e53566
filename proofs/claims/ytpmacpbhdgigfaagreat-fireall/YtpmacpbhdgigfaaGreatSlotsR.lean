/- The document's own Few and layer 5; live of package limelightlaw05. -/
import Derived.Test.YtpmacpbhdgigfaaGreatBits2
import Derived.Test.YtpmacpbhdgigfaaGreatSlotsA
namespace Go.Proofs.YtpmacpbhdgigfaaGreat
open Go.RowKit

def fewB (T : List Nd) : Bool := smallB T && decide (T.length ≤ 30)
set_option maxHeartbeats 800000 in
theorem refFew_any (T : List Nd) (v : Value) (w : World) (hT : TreeAt w v T) :
    Calls Tryz.prog 19 #[v] w fun e w' => e = .returned (.bool (fewB T)) ∧ w' = w := by
  obtain ⟨ta, tc, rfl⟩ := hT.shape
  have HT := hideG hT
  clear hT
  cases hs : smallB T
  · have HQ := hideG (show fewB T = false by simp [fewB, hs])
    go_enter Tryz.func19, Tryz.ntmps19
    go_wp2_with (go_at_call 48; refine (refSmall_any T _ _ HT.out).mono ?_; rintro e w1 ⟨rfl, hw⟩; subst hw)
    go_ret
    exact ⟨ret_bool HQ.out.symm, rfl⟩
  · by_cases h30 : T.length ≤ 30
    · have HQ := hideG (show fewB T = true by simp [fewB, hs, h30])
      have h30' : (T.length : Int) ≤ 30 := by omega
      go_enter Tryz.func19, Tryz.ntmps19
      go_wp2_with (go_at_call 48; refine (refSmall_any T _ _ HT.out).mono ?_; rintro e w1 ⟨rfl, hw⟩; subst hw)
      go_ret
      exact ⟨ret_bool HQ.out.symm, rfl⟩
    · have HQ := hideG (show fewB T = false by simp [fewB, h30])
      have h30' : ¬ (T.length : Int) ≤ 30 := by omega
      go_enter Tryz.func19, Tryz.ntmps19
      go_wp2_with (go_at_call 48; refine (refSmall_any T _ _ HT.out).mono ?_; rintro e w1 ⟨rfl, hw⟩; subst hw)
      go_ret
      exact ⟨ret_bool (by rw [HQ.out]; exact decide_eq_false (by omega)), rfl⟩
theorem few_small {T : List Nd} (h : fewB T = true) : smallB T = true := by
  simp only [fewB, Bool.and_eq_true] at h; exact h.1

end Go.Proofs.YtpmacpbhdgigfaaGreat
namespace Go.Proofs.YtpmacpbhdgigfaaGreat
open Go.RowKit

def isSlotB (T : List Nd) (n : Nat) : Bool := (nd T n).kind == 1 && ((nd T n).tag == 3 && (nd T (topN T n)).kind == 3)
theorem tag_elem {T : List Nd} (hm : mayB T = true) {n : Nat} (hn : n < T.length) (h : (nd T n).tag = 3) : (nd T n).kind = 1 := by
  have hk := (mayB_fine hm).kind n hn
  have ht : tagFitsB (nd T n).kind (nd T n).tag = true := by
    unfold kindFitsB at hk
    split at hk <;> simp only [Bool.and_eq_true] at hk <;> exact hk.2
  unfold tagFitsB at ht
  split at ht
  · rename_i h1; simpa using h1
  · rw [h] at ht; simp at ht
theorem top_shadow {T : List Nd} (hm : mayB T = true) {r : Nat} (hr : r < T.length) (hk : (nd T r).kind = 3) : topN T r = r :=
  topN_none (by rw [fine_shadow_parent (mayB_fine hm) hr hk]; rfl)
theorem slot_below {T : List Nd} (hm : mayB T = true) {r : Nat} (hr : r < T.length) (hk : (nd T r).kind = 3) {n : Nat} (hn : n ∈ dn T r) : n < T.length ∧ isSlotB T n = ((nd T n).tag == 3) := by
  obtain ⟨hnl, hpar, _⟩ := (forest3 hm).d_segment hr hn
  have ht : topN T n = r := by rw [← top_eq hm hnl hpar, top_shadow hm hr hk]
  refine ⟨hnl, ?_⟩
  unfold isSlotB
  rw [ht, hk]
  cases h : ((nd T n).tag == 3)
  · simp
  · have := tag_elem hm hnl (by simpa using h)
    rw [this]; rfl

end Go.Proofs.YtpmacpbhdgigfaaGreat
namespace Go.Proofs.YtpmacpbhdgigfaaGreat
open Go.RowKit

theorem place_man {T : List Nd} {r : Nat} {k : Int} (h : manB T (r : Int) = true) : placeI T r k = byNumI T (castL (slotsN T r)) k := by
  unfold placeI placeV; rw [h]; rfl
theorem place_nam {T : List Nd} {r : Nat} {k : Int} (h : manB T (r : Int) = false) : placeI T r k = byNameI T (castL (slotsN T r)) (namesI T r) k := by
  unfold placeI placeV; rw [h]; rfl
theorem names_getD {T : List Nd} {r j : Nat} (h : j < (slotsN T r).length) : (namesI T r).getD j 0 = nameI T (((slotsN T r).getD j 0 : Nat) : Int) := by
  unfold namesI
  rw [List.getD_eq_getElem?_getD, List.getElem?_map, List.getD_eq_getElem?_getD, List.getElem?_eq_getElem h]; rfl

/-- Who lies in a slot: a kid of the host whose Of is the slot. -/
theorem of_kid {T : List Nd} (hm : mayB T = true) {r h : Nat} (hr : r < T.length) (hk : (nd T r).kind = 3) (hho : (nd T r).host = (h : Int)) (hh : h < T.length) {k : Int} (hkk : k ∈ (nd T h).kids) : ∃ m : Nat, k = m ∧ m < T.length ∧ ofN T m = placeI T r k := by
  obtain ⟨m, rfl, hml, _, hp⟩ := kidP_iff.mp ((mayB_fine hm).kid h hh k hkk)
  refine ⟨m, rfl, hml, ?_⟩
  have hro := fine_hostroot hm hr hk hho
  unfold ofN
  have e1 : ((nd T m).parent == -1) = false := by rw [hp]; simp
  have e2 : ((nd T h).root == -1) = false := by rw [hro]; simp
  rw [e1, hp, Int.toNat_natCast, e2, hro, Int.toNat_natCast]; rfl
theorem filter_takeI {l : List Int} {k : Nat} (h : k < l.length) (p : Int → Bool) : (l.take (k + 1)).filter p = (l.take k).filter p ++ (if p (l.getD k 0) then [l.getD k 0] else []) := by
  rw [List.take_succ_eq_append_getElem h, List.filter_append, List.getD_eq_getElem?_getD, List.getElem?_eq_getElem h]
  congr 1
  simp only [Option.getD_some, List.filter_cons, List.filter_nil]
theorem isSlot_iff {T : List Nd} (hm : mayB T = true) {n : Nat} (hn : n < T.length) : isSlotB T n = ((nd T (topN T n)).kind == 3 && (nd T n).tag == 3) := by
  unfold isSlotB
  cases h : ((nd T n).tag == 3)
  · simp
  · have := tag_elem hm hn (by simpa using h)
    rw [this]; simp

end Go.Proofs.YtpmacpbhdgigfaaGreat
namespace Go.Proofs.YtpmacpbhdgigfaaGreat
open Go.RowKit

theorem l5Of (T : List Nd) (hs : shortB T = true) (n r : Int) (hr : ofI T n = r) (v : Value) (w : World) (h : TreeAt w v T) :
    Calls Tryz.prog 223 #[v, .int .i64 n] w fun x w' => x = .returned (.int .i64 r) ∧ Below w.heap.size w w' := by
  rw [← hr]; exact slotOf_any T (sane_of hs) v n w h

def ls5 : List Nd := [⟨0, 0, -1, [1], -1, -1, []⟩, ⟨1, 0, 0, [5, 6], -1, 2, []⟩, ⟨3, 0, -1, [3, 4], 1, -1, []⟩, ⟨1, 3, 2, [], -1, -1, []⟩, ⟨1, 3, 2, [], -1, -1, [(4, 7)]⟩, ⟨1, 0, 1, [], -1, -1, [(4, 7)]⟩, ⟨2, 0, 1, [], -1, -1, []⟩]
def ls5rows (s : Nat) : List (Nd × Value × Value) := [(⟨0, 0, -1, [1], -1, -1, []⟩, .slice (some ⟨s + 0, 0, none⟩) 1 1, .slice none 0 0), (⟨1, 0, 0, [5, 6], -1, 2, []⟩, .slice (some ⟨s + 1, 0, none⟩) 2 2, .slice none 0 0), (⟨3, 0, -1, [3, 4], 1, -1, []⟩, .slice (some ⟨s + 2, 0, none⟩) 2 2, .slice none 0 0), (⟨1, 3, 2, [], -1, -1, []⟩, .slice none 0 0, .slice none 0 0), (⟨1, 3, 2, [], -1, -1, [(4, 7)]⟩, .slice none 0 0, .slice (some ⟨s + 3, 0, none⟩) 1 1), (⟨1, 0, 1, [], -1, -1, [(4, 7)]⟩, .slice none 0 0, .slice (some ⟨s + 4, 0, none⟩) 1 1), (⟨2, 0, 1, [], -1, -1, []⟩, .slice none 0 0, .slice none 0 0)]
def ls5objs (s : Nat) : List Obj := [.cells (intCells [1]).toArray 3, .cells (intCells [5, 6]).toArray 3, .cells (intCells [3, 4]).toArray 3, .cells (attrCells [(4, 7)]).toArray 82, .cells (attrCells [(4, 7)]).toArray 82, .cells (nodesL (ls5rows s)).toArray 79]
theorem ls5_tree (w : World) : TreeAt (allocs w (ls5objs w.heap.size)) (.slice (some ⟨w.heap.size + 5, 0, none⟩) 7 7) ls5 :=
  tree_lit (ls5rows w.heap.size) (allocs_at w _ 5 _ rfl) rfl (List.forall_mem_cons.mpr ⟨⟨ints_lit [1] (allocs_at w _ 0 _ rfl) rfl, attrs_none _⟩, List.forall_mem_cons.mpr ⟨⟨ints_lit [5, 6] (allocs_at w _ 1 _ rfl) rfl, attrs_none _⟩, List.forall_mem_cons.mpr ⟨⟨ints_lit [3, 4] (allocs_at w _ 2 _ rfl) rfl, attrs_none _⟩, List.forall_mem_cons.mpr ⟨⟨ints_none _, attrs_none _⟩, List.forall_mem_cons.mpr ⟨⟨ints_none _, attrs_lit [(4, 7)] (allocs_at w _ 3 _ rfl) rfl⟩, List.forall_mem_cons.mpr ⟨⟨ints_none _, attrs_lit [(4, 7)] (allocs_at w _ 4 _ rfl) rfl⟩, List.forall_mem_cons.mpr ⟨⟨ints_none _, attrs_none _⟩, fun p h => by cases h⟩⟩⟩⟩⟩⟩⟩)

end Go.Proofs.YtpmacpbhdgigfaaGreat
