/- flat.Above, Has, Kids, Parent; slices.Clone. -/
import Derived.Test.YtahnkhgaopaaoaaFlat2
namespace Go.Proofs.Ytahnkhgaopaaoaa
open Go.RowKit Go.Shelf

attribute [local go_sem] Oper.semAt_some

theorem frozen_below {w w' : World} (hb : Below w.heap.size w w') {a : Addr} {v : Value} (hc : w.cell? a = some v) (h : w.frozen? a = false) : w'.frozen? a = false :=
  (World.frozen?_of_block (a := a) (hb.block a.block (below_of_cell hc))).trans h

set_option maxRecDepth 100000 in
set_option maxHeartbeats 2000000 in
theorem fabove_in (T : List Nd) (hm : mayB T = true) (hS : Sane T) (v : Value) (a : Int) (n : Nat) (hn : n < T.length) (w : World) (hT : TreeAt w v T) :
    CallsIn Fence.wide 6 Try.prog 22 #[v, .int .i64 a, .int .i64 (n : Int)] w fun e W' => e = .returned (.bool (fabvB T a n)) ∧ Below w.heap.size w W' := by
  obtain ⟨b, off, cap, hv, hc⟩ := hT.at (by omega)
  clear hc
  have HT : Hid (TreeAt w v T) := hT
  have HS := hideG hS
  have HK := hideG (known_of hm hn)
  clear hT
  subst hv
  have c0 := cell_new_l w (.int .i64 a) 3
  have c1 := cell_new_l (w.alloc (.cells #[.int .i64 a] 3)) (.bool false) 4
  simp only [World.size_alloc] at c1
  obtain ⟨W0, hW0⟩ : ∃ W0, (w.alloc (.cells #[.int .i64 a] 3)).alloc (.cells #[.bool false] 4) = W0 := ⟨_, rfl⟩
  have HB0 := hideG (show Below w.heap.size w W0 by rw [← hW0]; exact ((Below.refl _ w).alloc (Nat.le_refl _) _).alloc (by simp) _)
  have d0 : W0.cell? ⟨w.heap.size, 0, none⟩ = some (.int .i64 a) := by rw [← hW0]; exact cell_alloc_l _ c0.1
  have d1 : W0.cell? ⟨w.heap.size + 1, 0, none⟩ = some (.bool false) := by rw [← hW0]; exact c1.1
  have f1 : W0.frozen? ⟨w.heap.size + 1, 0, none⟩ = false := by rw [← hW0]; exact c1.2
  have HW0 := hideG hW0
  clear hW0 c0 c1
  refine callsIn_of_wp_marks Try.func22 rfl trivial ?_ rfl
  simp only [Try.ntmps22, List.size_toArray, List.length_cons, List.length_nil, Nat.reduceAdd, Nat.reduceSub, Array.replicate_succ, Array.replicate_zero, List.push_toArray, List.append_toArray, List.nil_append, List.cons_append]
  gi_wp2_with fail
  rw [HW0.out]
  clear HW0
  refine ⟨trivial, ?_⟩
  gi_at_call 58
  refine CallsIn.mono (callsIn_wide.2 (fknown_any T HS.out _ _ _ (HT.out.below HB0.out))) ?_
  rintro e w1 ⟨rfl, hb1⟩
  rw [HK.out]
  have HB1 := hideG (HB0.out.trans (hb1.mono HB0.out.size))
  have e0 := cell_below hb1 d0
  have e1 := cell_below hb1 d1
  have ef := frozen_below hb1 d1 f1
  clear hb1 d0 d1 f1
  gi_wp2_with fail
  refine ⟨trivial, ?_⟩
  gi_at_call 59
  refine (fup_in _ _ _ _ _ _).mono ?_
  rintro e w' ⟨rfl, rfl⟩
  gi_wp2_with fail
  have c2 := cell_new_l w1 (.slice (some ⟨b, off, none⟩) T.length cap) 23
  have c3 := cell_new_l (w1.alloc (.cells #[.slice (some ⟨b, off, none⟩) T.length cap] 23)) (.int .i64 (n : Int)) 3
  simp only [World.size_alloc] at c3
  have hBB : Below w1.heap.size w1 ((w1.alloc (.cells #[.slice (some ⟨b, off, none⟩) T.length cap] 23)).alloc (.cells #[.int .i64 (n : Int)] 3)) := ((Below.refl _ w1).alloc (Nat.le_refl _) _).alloc (by simp) _
  have c2' := cell_alloc_l (.cells #[.int .i64 (n : Int)] 3) c2.1
  obtain ⟨W2, hW2⟩ : ∃ W2, (w1.alloc (.cells #[.slice (some ⟨b, off, none⟩) T.length cap] 23)).alloc (.cells #[.int .i64 (n : Int)] 3) = W2 := ⟨_, rfl⟩
  rw [hW2] at c2' c3 hBB ⊢
  clear hW2 c2
  have hB2 := HB1.out.trans (hBB.mono HB1.out.size)
  have hs2 := hB2.size
  have hw1s : w.heap.size + 1 < w1.heap.size := below_of_cell e1
  have hs21 := hBB.size
  refine wpIn_rangeFunc_ownF rfl (by omega) (gf := 88) (lb := #[.pointer (some ⟨w1.heap.size + 1, 0, none⟩), .pointer (some ⟨w1.heap.size, 0, none⟩)]) rfl trivial (enters_of Try.func88 (by kernel_rfl) rfl)
    (fup_stops T hm hS _ n hn (w1.heap.size + 1) w1.heap.size _ (Below W2.heap.size) belowK_t (fun _ h => h) (fun hA hb => hb.mono hA.size) (fun V hV => ⟨(HT.out.below hB2).below hV, cell_below hV c3.1, cell_below hV c2'⟩) ⟨b, off, cap, rfl⟩) belowK_t (belowK_b (Nat.le_refl _)) (Below.refl _ _) (fun _ => rfl)
    (fun pre W => ((∀ y ∈ pre, ((y : Int) == a) = false) ∧ W.cell? ⟨w.heap.size, 0, none⟩ = some (.int .i64 a) ∧ W.cell? ⟨w.heap.size + 1, 0, none⟩ = some (.bool false) ∧ W.frozen? ⟨w.heap.size + 1, 0, none⟩ = false) ∧ Below w.heap.size w W)
    (fun c pre W => (c = .ret ∧ (∃ y ∈ pre, ((y : Int) == a) = true) ∧ W.cell? ⟨w.heap.size + 1, 0, none⟩ = some (.bool true)) ∧ Below w.heap.size w W)
    (OwnFrom.and (Own.from (fun s A B row hs hg hr => ⟨hs.1, cell_kept hs.2.1 hg hr, cell_kept hs.2.2.1 hg hr, (frozen_kept hs.2.2.1 hg hr).trans hs.2.2.2⟩) _) (ownFrom_below (Nat.le_refl _) hs2))
    (fun c => OwnFrom.and (Own.from (fun s A B row hs hg hr => ⟨hs.1, hs.2.1, cell_kept hs.2.2 hg hr⟩) _) (ownFrom_below (Nat.le_refl _) hs2))
    ⟨⟨by simp, cell_below hBB e0, cell_below hBB e1, frozen_below hBB e1 ef⟩, hB2⟩
    (fun x => { tmps := #[.slice (some ⟨b, off, none⟩) T.length cap, .int .i64 a, .int .i64 (n : Int), undef, .pointer (some ⟨w.heap.size, 0, none⟩), undef, .pointer (some ⟨w.heap.size + 1, 0, none⟩), .int .i64 (x : Int),
      .slice (some ⟨b, off, none⟩) T.length cap, .int .i64 (n : Int), .bool true, .bool false, .slice (some ⟨b, off, none⟩) T.length cap, .int .i64 (n : Int), .func (.func 88) #[] #[.pointer (some ⟨w1.heap.size + 1, 0, none⟩), .pointer (some ⟨w1.heap.size, 0, none⟩)], .int .i64 (x : Int), undef, undef, undef], defers := [] }) ?assign ?body ?done ?stop
  case assign =>
    intro l x W K hK
    gi_wp2
    exact hK
  case body =>
    rintro l pre x W ⟨⟨hp, hcw, hcr, hfr⟩, hB⟩ _
    clear e0 e1 ef
    gi_wp2
    · rename_i hx
      exact ⟨KeepsOthers.setCell _ _ _, ⟨rfl, ⟨x, List.mem_append.2 (.inr (by simp)), hx⟩, World.cell?_setCell_same' _ _ _ (by rw [hcr]; rfl)⟩, hB.setCell (p := ⟨w.heap.size + 1, 0, none⟩) (by simp) _⟩
    · rename_i hx
      exact ⟨KeepsOthers.refl _, Below.refl _ _, ⟨fun y hy => (List.mem_append.1 hy).elim (hp y) (fun e => by simp at e; subst e; simpa using hx), hcw, hcr, hfr⟩, hB⟩
  case done =>
    rintro D ys W hD rfl ⟨⟨hne, _, hcr, hfr⟩, hB⟩ hK
    clear e0 e1 ef
    gi_wp2
    have hK' := (KeepsOthers.setCell W ⟨w.heap.size + 1, 0, none⟩ (.bool false)).same D _ hK rfl
    refine ⟨by simp, .inl ⟨_, _, rfl, run_takeDeferred hK', ?_⟩⟩
    have hc5 := cell_kept (World.cell?_setCell_same' W ⟨w.heap.size + 1, 0, none⟩ (.bool false) (by rw [hcr]; rfl)) (grownBy_putObj' _ D (.deferred none)) (fun r e => by cases e; exact ⟨_, hK', rfl⟩)
    have hval : fabvB T a n = false := by
      simp only [fabvB, List.any_eq_false]
      intro y hy
      simp [hne y hy]
    refine ⟨.bool false, ?_, by rw [hval], (hB.setCell (p := ⟨w.heap.size + 1, 0, none⟩) (by simp) _).trans (belowK_b (w := w) (Nat.le_refl _) _ D _ _ (by omega) hK' rfl rfl)⟩
    simp [results, Try.f22, go_sem, hc5]
  case stop =>
    rintro D c pre W hD hpre ⟨⟨rfl, hin, hcr⟩, hB⟩ hK
    clear e0 e1 ef
    gi_wp2
    refine ⟨by simp, .inl ⟨_, _, rfl, run_takeDeferred hK, ?_⟩⟩
    have hc5 := cell_kept hcr (grownBy_putObj' _ D (.deferred none)) (fun r e => by cases e; exact ⟨_, hK, rfl⟩)
    have hval : fabvB T a n = true := by
      obtain ⟨y, hy, hya⟩ := hin
      simp only [fabvB, List.any_eq_true]
      exact ⟨y, hpre.subset hy, hya⟩
    refine ⟨.bool true, ?_, by rw [hval], hB.trans (belowK_b (w := w) (Nat.le_refl _) W D _ _ (by omega) hK rfl rfl)⟩
    simp [results, Try.f22, go_sem, hc5]

set_option maxRecDepth 100000 in
set_option maxHeartbeats 2000000 in
theorem flatAbove_any (T : List Nd) (hS : Sane T) (v : Value) (a n : Int) (w : World) (hT : TreeAt w v T) :
    Calls Try.prog 22 #[v, .int .i64 a, .int .i64 n] w fun e W' => e = .returned (.bool (faboveI T a n)) ∧ Below w.heap.size w W' := by
  cases hk : knownB T [n]
  · have HQ := hideG (show faboveI T a n = false by simp [faboveI, hk])
    obtain ⟨ta, tc, rfl⟩ := hT.shape
    have HT := hideG hT
    have HS := hideG hS
    have HK := hideG hk
    clear hT hS hk
    have c0 := cell_new_l w (.int .i64 a) 3
    have c1 := cell_new_l (w.alloc (.cells #[.int .i64 a] 3)) (.bool false) 4
    simp only [World.size_alloc] at c1
    obtain ⟨W0, hW0⟩ : ∃ W0, (w.alloc (.cells #[.int .i64 a] 3)).alloc (.cells #[.bool false] 4) = W0 := ⟨_, rfl⟩
    have HB0 := hideG (show Below w.heap.size w W0 by rw [← hW0]; exact ((Below.refl _ w).alloc (Nat.le_refl _) _).alloc (by simp) _)
    have d1 : W0.cell? ⟨w.heap.size + 1, 0, none⟩ = some (.bool false) := by rw [← hW0]; exact c1.1
    have f1 : W0.frozen? ⟨w.heap.size + 1, 0, none⟩ = false := by rw [← hW0]; exact c1.2
    have HW0 := hideG hW0
    clear hW0 c0 c1
    refine (callsIn_wide (n := 6)).1 ?_
    refine callsIn_of_wp_marks Try.func22 rfl trivial ?_ rfl
    simp only [Try.ntmps22, List.size_toArray, List.length_cons, List.length_nil, Nat.reduceAdd, Nat.reduceSub, Array.replicate_succ, Array.replicate_zero, List.push_toArray, List.append_toArray, List.nil_append, List.cons_append]
    gi_wp2_with fail
    rw [HW0.out]
    clear HW0
    refine ⟨trivial, ?_⟩
    gi_at_call 58
    refine CallsIn.mono (callsIn_wide.2 (fknown_any T HS.out _ _ _ (HT.out.below HB0.out))) ?_
    rintro e w1 ⟨rfl, hb1⟩
    rw [HK.out]
    have HB1 := hideG (HB0.out.trans (hb1.mono HB0.out.size))
    have e1 := cell_below hb1 d1
    have ef := frozen_below hb1 d1 f1
    clear hb1 d1 f1
    gi_wp2_with fail
    refine ⟨.bool false, by simp [results, Try.f22, go_sem, e1], by rw [HQ.out], HB1.out.setCell (p := ⟨w.heap.size + 1, 0, none⟩) (by simp) _⟩
  · obtain ⟨hm, m, rfl, hml⟩ := known_one hk
    have hq : faboveI T a (m : Int) = fabvB T a m := by simp [faboveI, hk]
    rw [hq]
    exact callsIn_wide.1 (fabove_in T hm hS v a m hml w hT)

set_option maxHeartbeats 1000000 in
theorem flatHas_any (T : List Nd) (hS : Sane T) (v : Value) (n : Int) (w : World) (hT : TreeAt w v T) :
    Calls Try.prog 26 #[v, .int .i64 n] w fun e W' => e = .returned (.bool (faboveI T 0 n)) ∧ Below w.heap.size w W' := by
  obtain ⟨ta, tc, rfl⟩ := hT.shape
  have H := hideG (flatAbove_any T hS _ 0 n w hT)
  clear hT
  go_enter Try.func26, Try.ntmps26
  go_wp2_with (go_at_call 22; refine H.out.mono ?_; rintro e w1 ⟨rfl, hb⟩)
  go_ret
  exact ⟨rfl, hb⟩

/-- flat.Parent. -/
def fparI (T : List Nd) (n : Int) : Int := if knownB T [n] then parF T n.toNat else -1
set_option maxHeartbeats 1000000 in
theorem flatParent_any (T : List Nd) (hS : Sane T) (v : Value) (n : Int) (w : World) (hT : TreeAt w v T) :
    Calls Try.prog 24 #[v, .int .i64 n] w fun e W' => e = .returned (.int .i64 (fparI T n)) ∧ Below w.heap.size w W' := by
  have HT := hideG hT
  have HS := hideG hS
  obtain ⟨ta, tc, rfl⟩ := hT.shape
  clear hT
  cases hk : knownB T [n]
  · have HQ := hideG (show fparI T n = -1 by simp [fparI, hk])
    have HK := hideG hk
    clear hk
    go_enter Try.func24, Try.ntmps24
    go_wp2_with (go_at_call 58; refine (fknown_any T HS.out _ _ _ HT.out).mono ?_; rintro e w1 ⟨rfl, hb1⟩; rw [HK.out])
    go_ret
    exact ⟨ret_int HQ.out.symm, hb1⟩
  · obtain ⟨hm, m, rfl, hml⟩ := known_one hk
    have HQ := hideG (show fparI T (m : Int) = parF T m by simp [fparI, hk])
    have HK := hideG hk
    have HM := hideG hm
    clear hk hm
    go_enter Try.func24, Try.ntmps24
    go_wp2_with (first | (go_at_call 58; refine (fknown_any T HS.out _ _ _ HT.out).mono ?_; rintro e w1 ⟨rfl, hb1⟩; rw [HK.out]; have HB1 := hideG hb1; clear hb1) | (go_at_call 62; refine (fparent_any T HM.out HS.out _ m hml _ (HT.out.below HB1.out)).mono ?_; rintro e w2 ⟨rfl, hb2⟩; have HB2 := hideG (HB1.out.trans (hb2.mono HB1.out.size)); clear hb2))
    go_ret
    exact ⟨ret_int HQ.out.symm, HB2.out⟩
end Go.Proofs.Ytahnkhgaopaaoaa
