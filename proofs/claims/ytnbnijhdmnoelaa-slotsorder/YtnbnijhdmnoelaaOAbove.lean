/- order.isAbove, Above: who is above whom, by parents. order.Common: the first one above both. -/
import Derived.Test.YtnbnijhdmnoelaaOrdMath
import Derived.RangeFuncCalls
namespace Go.Proofs.Ytnbnijhdmnoelaa
open Go.RowKit Go.Shelf

attribute [local go_sem] Oper.semAt_some

/-- Is somebody above, by parents? -/
def abvB (T : List Nd) (a : Int) (n : Nat) : Bool := (pars T n).any fun x => (x : Int) == a
theorem abvB_iff {T : List Nd} {a n : Nat} : abvB T (a : Int) n = true ↔ a ∈ pars T n := by
  unfold abvB
  rw [List.any_eq_true]
  constructor
  · rintro ⟨x, hx, e⟩
    have e' : (x : Int) = (a : Int) := by simpa using e
    have : x = a := by omega
    exact this ▸ hx
  · intro h; exact ⟨a, h, by simp⟩

set_option maxRecDepth 100000 in
set_option maxHeartbeats 2000000 in
theorem isAbove_in (T : List Nd) (hm : mayB T = true) (v : Value) (a : Int) (n : Nat) (hn : n < T.length) (w : World) (hT : TreeAt w v T) :
    CallsIn Fence.wide 6 Try.prog 80 #[v, .int .i64 a, .int .i64 n] w fun e W' => e = .returned (.bool (abvB T a n)) ∧ Below w.heap.size w W' := by
  obtain ⟨b, off, cap, hv, hc⟩ := hT.at (by omega)
  clear hc
  have HT : Hid (TreeAt w v T) := hT
  clear hT
  subst hv
  refine callsIn_of_wp_marks Try.func80 rfl trivial ?_ rfl
  simp only [Try.ntmps80, List.size_toArray, List.length_cons, List.length_nil, Nat.reduceAdd, Nat.reduceSub, Array.replicate_succ, Array.replicate_zero, List.push_toArray, List.append_toArray, List.nil_append, List.cons_append]
  gi_wp2_with (refine ⟨trivial, ?_⟩; gi_at_call 83; refine (oup_in _ _ _ _ _ _).mono ?_; rintro e w' ⟨rfl, rfl⟩)
  have c0 := cell_new_l w (.int .i64 a) 3
  have c1 := cell_new_l (w.alloc (.cells #[.int .i64 a] 3)) (.bool false) 4
  have c2 := cell_new_l ((w.alloc (.cells #[.int .i64 a] 3)).alloc (.cells #[.bool false] 4)) (.slice (some ⟨b, off, none⟩) T.length cap) 23
  have c3 := cell_new_l (((w.alloc (.cells #[.int .i64 a] 3)).alloc (.cells #[.bool false] 4)).alloc (.cells #[.slice (some ⟨b, off, none⟩) T.length cap] 23)) (.int .i64 (n : Int)) 3
  simp only [World.size_alloc] at c1 c2 c3
  have hB0 : Below w.heap.size w ((((w.alloc (.cells #[.int .i64 a] 3)).alloc (.cells #[.bool false] 4)).alloc (.cells #[.slice (some ⟨b, off, none⟩) T.length cap] 23)).alloc (.cells #[.int .i64 (n : Int)] 3)) :=
    ((((Below.refl _ w).alloc (Nat.le_refl _) _).alloc (by simp) _).alloc (by simp; omega) _).alloc (by simp; omega) _
  refine wpIn_rangeFunc_ownF rfl (by omega) (gf := 110) (lb := #[.pointer (some ⟨w.heap.size + 1 + 1 + 1, 0, none⟩), .pointer (some ⟨w.heap.size + 1 + 1, 0, none⟩)]) rfl trivial (enters_of Try.func110 (by kernel_rfl) rfl)
    (oup_stops T hm _ n hn (w.heap.size + 1 + 1 + 1) (w.heap.size + 1 + 1) _ (Below ((((w.alloc (.cells #[.int .i64 a] 3)).alloc (.cells #[.bool false] 4)).alloc (.cells #[.slice (some ⟨b, off, none⟩) T.length cap] 23)).alloc (.cells #[.int .i64 (n : Int)] 3)).heap.size) belowK_t (fun _ h => h) (fun V hV => ⟨(HT.out.below hB0).below hV, cell_below hV c3.1, cell_below hV (cell_alloc_l _ c2.1)⟩) ⟨b, off, cap, rfl⟩) belowK_t (belowK_b (Nat.le_refl _)) (Below.refl _ _) (fun _ => rfl)
    (fun pre W => ((∀ y ∈ pre, ((y : Int) == a) = false) ∧ W.cell? ⟨w.heap.size, 0, none⟩ = some (.int .i64 a) ∧ W.cell? ⟨w.heap.size + 1, 0, none⟩ = some (.bool false) ∧ W.frozen? ⟨w.heap.size + 1, 0, none⟩ = false) ∧ Below w.heap.size w W)
    (fun c pre W => (c = .ret ∧ (∃ y ∈ pre, ((y : Int) == a) = true) ∧ W.cell? ⟨w.heap.size + 1, 0, none⟩ = some (.bool true)) ∧ Below w.heap.size w W)
    (OwnFrom.and (Own.from (fun s A B row hs hg hr => ⟨hs.1, cell_kept hs.2.1 hg hr, cell_kept hs.2.2.1 hg hr, (frozen_kept hs.2.2.1 hg hr).trans hs.2.2.2⟩) _) (ownFrom_below (Nat.le_refl _) (by simp; omega)))
    (fun c => OwnFrom.and (Own.from (fun s A B row hs hg hr => ⟨hs.1, hs.2.1, cell_kept hs.2.2 hg hr⟩) _) (ownFrom_below (Nat.le_refl _) (by simp; omega)))
    ⟨⟨by simp, cell_alloc_l _ (cell_alloc_l _ (cell_alloc_l _ c0.1)), cell_alloc_l _ (cell_alloc_l _ c1.1), frozen_alloc_l _ (cell_alloc_l _ c1.1) (frozen_alloc_l _ c1.1 c1.2)⟩, hB0⟩
    (fun x => { tmps := #[.slice (some ⟨b, off, none⟩) T.length cap, .int .i64 a, .int .i64 (n : Int), undef, .pointer (some ⟨w.heap.size, 0, none⟩), undef, .pointer (some ⟨w.heap.size + 1, 0, none⟩), .int .i64 (x : Int),
      .slice (some ⟨b, off, none⟩) T.length cap, .int .i64 (n : Int), .func (.func 110) #[] #[.pointer (some ⟨w.heap.size + 1 + 1 + 1, 0, none⟩), .pointer (some ⟨w.heap.size + 1 + 1, 0, none⟩)], .int .i64 (x : Int), undef, undef, undef], defers := [] }) ?assign ?body ?done ?stop
  case assign =>
    intro l x W K hK
    gi_wp2
    exact hK
  case body =>
    rintro l pre x W ⟨⟨hp, hcw, hcr, hfr⟩, hB⟩ _
    gi_wp2
    · rename_i hx
      exact ⟨KeepsOthers.setCell _ _ _, ⟨rfl, ⟨x, List.mem_append.2 (.inr (by simp)), hx⟩, World.cell?_setCell_same' _ _ _ (by rw [hcr]; rfl)⟩, hB.setCell (p := ⟨w.heap.size + 1, 0, none⟩) (by simp) _⟩
    · rename_i hx
      exact ⟨KeepsOthers.refl _, Below.refl _ _, ⟨fun y hy => (List.mem_append.1 hy).elim (hp y) (fun e => by simp at e; subst e; simpa using hx), hcw, hcr, hfr⟩, hB⟩
  case done =>
    rintro D ys W hD rfl ⟨⟨hne, _, hcr, hfr⟩, hB⟩ hK
    gi_wp2
    have hK' := (KeepsOthers.setCell W ⟨w.heap.size + 1, 0, none⟩ (.bool false)).same D _ hK rfl
    refine ⟨by simp, .inl ⟨_, _, rfl, run_takeDeferred hK', ?_⟩⟩
    have hc5 := cell_kept (World.cell?_setCell_same' W ⟨w.heap.size + 1, 0, none⟩ (.bool false) (by rw [hcr]; rfl)) (grownBy_putObj' _ D (.deferred none)) (fun r e => by cases e; exact ⟨_, hK', rfl⟩)
    have hval : abvB T a n = false := by
      simp only [abvB, List.any_eq_false]
      intro y hy
      simp [hne y hy]
    refine ⟨.bool false, ?_, by rw [hval], (hB.setCell (p := ⟨w.heap.size + 1, 0, none⟩) (by simp) _).trans (belowK_b (w := w) (Nat.le_refl _) _ D _ _ (by simp at hD; omega) hK' rfl rfl)⟩
    simp [results, Try.f80, go_sem, hc5]
  case stop =>
    rintro D c pre W hD hpre ⟨⟨rfl, hin, hcr⟩, hB⟩ hK
    gi_wp2
    refine ⟨by simp, .inl ⟨_, _, rfl, run_takeDeferred hK, ?_⟩⟩
    have hc5 := cell_kept hcr (grownBy_putObj' _ D (.deferred none)) (fun r e => by cases e; exact ⟨_, hK, rfl⟩)
    have hval : abvB T a n = true := by
      obtain ⟨y, hy, hya⟩ := hin
      simp only [abvB, List.any_eq_true]
      exact ⟨y, hpre.subset hy, hya⟩
    refine ⟨.bool true, ?_, by rw [hval], hB.trans (belowK_b (w := w) (Nat.le_refl _) W D _ _ (by simp at hD; omega) hK rfl rfl)⟩
    simp [results, Try.f80, go_sem, hc5]

theorem isAbove_any (T : List Nd) (hm : mayB T = true) (v : Value) (a : Int) (n : Nat) (hn : n < T.length) (w : World) (hT : TreeAt w v T) :
    Calls Try.prog 80 #[v, .int .i64 a, .int .i64 n] w fun e W' => e = .returned (.bool (abvB T a n)) ∧ Below w.heap.size w W' := callsIn_wide.1 (isAbove_in T hm v a n hn w hT)


/-- order.Above. -/
def aboveO (T : List Nd) (a b : Int) : Bool := knownB T [a, b] && abvB T a b.toNat
theorem known_two {T : List Nd} {a b : Int} (h : knownB T [a, b] = true) : mayB T = true ∧ (∃ m : Nat, a = m ∧ m < T.length) ∧ ∃ m : Nat, b = m ∧ m < T.length := by
  simp only [knownB, List.all_cons, List.all_nil, Bool.and_true, Bool.and_eq_true] at h
  exact ⟨h.1, isNodeB_true h.2.1, isNodeB_true h.2.2⟩
theorem known_both (T : List Nd) (a b : Int) : knownB T [a, b] = bothB T a b := by
  simp [knownB, bothB, Bool.and_assoc]
theorem ints_new2 (w : World) (x y : Int) : IntsAt (w.alloc (.cells #[.int .i64 x, .int .i64 y] 3)) (.slice (some ⟨w.heap.size, 0, none⟩) 2 2) [x, y] := by
  refine ⟨_, 2, rfl, fun _ => ⟨w.heap.size, 0, rfl, fun j hj => ?_⟩⟩
  match j, hj with
  | 0, _ | 1, _ => simp

set_option maxRecDepth 100000 in
set_option maxHeartbeats 2000000 in
theorem orderAbove_any (T : List Nd) (hS : Sane T) (v : Value) (a b : Int) (w : World) (hT : TreeAt w v T) :
    Calls Try.prog 28 #[v, .int .i64 a, .int .i64 b] w fun e w' => e = .returned (.bool (aboveO T a b)) ∧ Below w.heap.size w w' := by
  obtain ⟨ta, tc, rfl⟩ := hT.shape
  have HA := hideG ((Below.refl _ w).alloc (Nat.le_refl _) (.cells #[.int .i64 a, .int .i64 b] 3))
  have HT := hideG (hT.below HA.out)
  have HT0 := hideG hT
  have HS := hideG hS
  clear hT hS
  cases hk : knownB T [a, b]
  · have HQ := hideG (show aboveO T a b = false by simp [aboveO, hk])
    go_enter Try.func28, Try.ntmps28
    go_wp2_with (go_at_call 79; refine (known_any T HS.out _ [a, b] _ _ HT.out (ints_new2 _ _ _) (by simp)).mono ?_; rintro e w1 ⟨rfl, hb1⟩; simp only [World.size_alloc] at hb1)
    go_ret
    exact ⟨ret_bool HQ.out.symm, HA.out.trans (hb1.mono (by omega))⟩
  · obtain ⟨hm, _, n, rfl, hn⟩ := known_two hk
    have HQ := hideG (show aboveO T a (n : Int) = abvB T a n by simp [aboveO, hk])
    have HM := hideG hm
    clear hm
    go_enter Try.func28, Try.ntmps28
    go_wp2_with (first | (go_at_call 79; refine (known_any T HS.out _ [a, (n : Int)] _ _ HT.out (ints_new2 _ _ _) (by simp)).mono ?_; rintro e w1 ⟨rfl, hb1⟩; simp only [World.size_alloc] at hb1; have HB1 := hideG (HA.out.trans (hb1.mono (by omega))); clear hb1) | (go_at_call 80; refine (isAbove_any T HM.out _ a n hn _ (HT0.out.below HB1.out)).mono ?_; rintro e w2 ⟨rfl, hb2⟩; have HB2 := hideG (HB1.out.trans (hb2.mono HB1.out.size)); clear hb2))
    go_ret
    exact ⟨ret_bool HQ.out.symm, HB2.out⟩
end Go.Proofs.Ytnbnijhdmnoelaa
