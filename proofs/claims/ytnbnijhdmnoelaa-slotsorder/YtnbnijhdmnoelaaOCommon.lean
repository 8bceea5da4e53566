/- order.Common: the first one above both. -/
import Derived.Test.YtnbnijhdmnoelaaOAbove
namespace Go.Proofs.Ytnbnijhdmnoelaa
open Go.RowKit Go.Shelf

attribute [local go_sem] Oper.semAt_some

theorem keepsOthers_of_below {A B : World} (h : Below A.heap.size A B) : KeepsOthers A B :=
  ⟨h.size, fun j _ ho _ => (h.block j (Array.getElem?_eq_some_iff.1 ho).1).trans ho⟩
theorem com_of_pre {T : List Nd} {a b x : Nat} {q : List Nat} (hp : (q ++ [x]) <+: pars T a) (hq : ∀ y ∈ q, abvB T (y : Int) b = false) (hx : abvB T (x : Int) b = true) : comN T a b = some x := by
  obtain ⟨r, hr⟩ := hp
  unfold comN
  rw [← hr, List.append_assoc, List.find?_append]
  have h1 : q.find? (fun x => decide (x ∈ pars T b)) = none := by
    rw [List.find?_eq_none]
    intro y hy
    have := hq y hy
    simp only [decide_eq_true_eq]
    intro h
    rw [abvB_iff.mpr h] at this
    cases this
  rw [h1]
  simp [abvB_iff.mp hx]
theorem com_of_all {T : List Nd} {a b : Nat} (h : ∀ y ∈ pars T a, abvB T (y : Int) b = false) : comN T a b = none := by
  unfold comN
  rw [List.find?_eq_none]
  intro y hy
  have := h y hy
  simp only [decide_eq_true_eq]
  intro h'
  rw [abvB_iff.mpr h'] at this
  cases this

/-- order.Common. -/
def commonI (T : List Nd) (a b : Int) : Int := if knownB T [a, b] then comI T a.toNat b.toNat else -1

set_option maxRecDepth 100000 in
set_option maxHeartbeats 4000000 in
theorem common_in (T : List Nd) (hS : Sane T) (tb to tc : Nat) (a b : Nat) (hk : knownB T [(a : Int), (b : Int)] = true) (w : World) (hT : TreeAt w (.slice (some ⟨tb, to, none⟩) T.length tc) T) :
    CallsIn Fence.wide 6 Try.prog 30 #[.slice (some ⟨tb, to, none⟩) T.length tc, .int .i64 (a : Int), .int .i64 (b : Int)] w fun e W' => e = .returned (.int .i64 (comI T a b)) ∧ Below w.heap.size w W' := by
  obtain ⟨hm, ⟨a', ea, ha⟩, b', eb, hb⟩ := known_two hk
  obtain rfl : a = a' := by omega
  obtain rfl : b = b' := by omega
  have hB3 : Below w.heap.size w (((w.alloc (.cells #[.slice (some ⟨tb, to, none⟩) T.length tc] 23)).alloc (.cells #[.int .i64 (b : Int)] 3)).alloc (.cells #[.int .i64 0] 3)) := (((Below.refl _ w).alloc (Nat.le_refl _) _).alloc (by simp) _).alloc (by simp; omega) _
  have c0 := cell_new_l w (.slice (some ⟨tb, to, none⟩) T.length tc) 23
  have c1 := cell_new_l (w.alloc (.cells #[.slice (some ⟨tb, to, none⟩) T.length tc] 23)) (.int .i64 (b : Int)) 3
  have c2 := cell_new_l ((w.alloc (.cells #[.slice (some ⟨tb, to, none⟩) T.length tc] 23)).alloc (.cells #[.int .i64 (b : Int)] 3)) (.int .i64 0) 3
  simp only [World.size_alloc] at c1 c2
  have q0 := cell_alloc_l (.cells #[.int .i64 0] 3) (cell_alloc_l (.cells #[.int .i64 (b : Int)] 3) c0.1)
  have q1 := cell_alloc_l (.cells #[.int .i64 0] 3) c1.1
  have q2 := c2.1
  have f2 := c2.2
  have hs3 : (((w.alloc (.cells #[.slice (some ⟨tb, to, none⟩) T.length tc] 23)).alloc (.cells #[.int .i64 (b : Int)] 3)).alloc (.cells #[.int .i64 0] 3)).heap.size = w.heap.size + 3 := by simp
  refine callsIn_of_wp_marks Try.func30 rfl trivial ?_ rfl
  simp only [Try.ntmps30, List.size_toArray, List.length_cons, List.length_nil, Nat.reduceAdd, Nat.reduceSub, Array.replicate_succ, Array.replicate_zero, List.push_toArray, List.append_toArray, List.nil_append, List.cons_append]
  have HT := hideG hT
  have HS := hideG hS
  have HM := hideG hm
  have HB3 := hideG hB3
  clear hT hS hm hB3 c0 c1 c2 ea eb
  have HKN := hideG (show Calls Try.prog 79 #[.slice (some ⟨tb, to, none⟩) T.length tc, .slice (some ⟨w.heap.size + 1 + 1 + 1, 0, none⟩) 2 2] ((((w.alloc (.cells #[.slice (some ⟨tb, to, none⟩) T.length tc] 23)).alloc (.cells #[.int .i64 (b : Int)] 3)).alloc (.cells #[.int .i64 0] 3)).alloc (.cells #[.int .i64 (a : Int), .int .i64 (b : Int)] 3)) (fun e w' => e = .returned (.bool true) ∧ Below (((w.alloc (.cells #[.slice (some ⟨tb, to, none⟩) T.length tc] 23)).alloc (.cells #[.int .i64 (b : Int)] 3)).alloc (.cells #[.int .i64 0] 3)).heap.size (((w.alloc (.cells #[.slice (some ⟨tb, to, none⟩) T.length tc] 23)).alloc (.cells #[.int .i64 (b : Int)] 3)).alloc (.cells #[.int .i64 0] 3)) w') from by
    have hi := ints_new2 (((w.alloc (.cells #[.slice (some ⟨tb, to, none⟩) T.length tc] 23)).alloc (.cells #[.int .i64 (b : Int)] 3)).alloc (.cells #[.int .i64 0] 3)) (a : Int) (b : Int)
    simp only [World.size_alloc] at hi
    refine (known_any T HS.out _ [(a : Int), (b : Int)] _ _ (HT.out.below (HB3.out.alloc HB3.out.size _)) hi (by simp)).mono ?_
    rintro e w' ⟨rfl, hb⟩
    exact ⟨by rw [hk], ((Below.refl _ (((w.alloc (.cells #[.slice (some ⟨tb, to, none⟩) T.length tc] 23)).alloc (.cells #[.int .i64 (b : Int)] 3)).alloc (.cells #[.int .i64 0] 3))).alloc (Nat.le_refl _) _).trans (hb.mono (by simp))⟩)
  clear hk HS
  gi_wp2_with fail
  refine ⟨trivial, ?_⟩
  gi_at_call 79
  refine CallsIn.mono (callsIn_wide.2 HKN.out) ?_
  clear HKN
  rintro e w1 ⟨rfl, hb1⟩
  have HB1 := hideG hb1
  have r0 := cell_below hb1 q0
  have r1 := cell_below hb1 q1
  have r2 := cell_below hb1 q2
  have s2 := (hb1.frozen (p := ⟨w.heap.size + 1 + 1, 0, none⟩) (by simp)).trans f2
  have hz := hb1.size
  rw [hs3] at hz
  have HB := hideG (HB3.out.trans (hb1.mono HB3.out.size))
  clear hb1 HB1 q0 q1 q2 f2 hs3
  gi_wp2_with fail
  refine ⟨trivial, ?_⟩
  gi_at_call 83
  refine (oup_in _ _ _ _ _ _).mono ?_
  rintro e w' ⟨rfl, rfl⟩
  gi_wp2_with fail
  have d1 := cell_new_l w1 (.slice (some ⟨tb, to, none⟩) T.length tc) 23
  have d2 := cell_new_l (w1.alloc (.cells #[.slice (some ⟨tb, to, none⟩) T.length tc] 23)) (.int .i64 (a : Int)) 3
  simp only [World.size_alloc] at d2
  have hBB : Below w1.heap.size w1 ((w1.alloc (.cells #[.slice (some ⟨tb, to, none⟩) T.length tc] 23)).alloc (.cells #[.int .i64 (a : Int)] 3)) := ((Below.refl _ w1).alloc (Nat.le_refl _) _).alloc (by simp) _
  have cT := cell_alloc_l (.cells #[.int .i64 (a : Int)] 3) d1.1
  have cA := d2.1
  obtain ⟨V, hV⟩ : ∃ V, (w1.alloc (.cells #[.slice (some ⟨tb, to, none⟩) T.length tc] 23)).alloc (.cells #[.int .i64 (a : Int)] 3) = V := ⟨_, rfl⟩
  have hsV : V.heap.size = w1.heap.size + 2 := by rw [← hV]; simp
  rw [hV] at hBB cT cA ⊢
  clear d1 d2 hV
  have hBV : Below w.heap.size w V := HB.out.trans (hBB.mono HB.out.size)
  have v0 := cell_below hBB r0
  have v1 := cell_below hBB r1
  have v2 := cell_below hBB r2
  have fz := (hBB.frozen (p := ⟨w.heap.size + 1 + 1, 0, none⟩) (by simp; omega)).trans s2
  refine wpIn_rangeFunc_ownF rfl (by omega) (gf := 110) (lb := #[.pointer (some ⟨w1.heap.size + 1, 0, none⟩), .pointer (some ⟨w1.heap.size, 0, none⟩)]) rfl trivial (enters_of Try.func110 (by kernel_rfl) rfl)
    (oup_stops T HM.out _ a ha (w1.heap.size + 1) w1.heap.size V (Below V.heap.size) belowK_t (fun _ h => h) (fun U hU => ⟨(HT.out.below hBV).below hU, cell_below hU cA, cell_below hU cT⟩) ⟨tb, to, tc, rfl⟩) belowK_t (belowK_b (Nat.le_refl _)) (Below.refl _ _) (fun _ => rfl)
    (fun pre U => ((∀ y ∈ pre, abvB T ((y : Nat) : Int) b = false) ∧ U.cell? ⟨w.heap.size, 0, none⟩ = some (.slice (some ⟨tb, to, none⟩) T.length tc) ∧ U.cell? ⟨w.heap.size + 1, 0, none⟩ = some (.int .i64 (b : Int)) ∧ U.cell? ⟨w.heap.size + 1 + 1, 0, none⟩ = some (.int .i64 0) ∧ U.frozen? ⟨w.heap.size + 1 + 1, 0, none⟩ = false ∧ V.heap.size ≤ U.heap.size) ∧ Below w.heap.size w U)
    (fun c pre U => (c = .ret ∧ ∃ (q : List Nat) (x : Nat), pre = q ++ [x] ∧ (∀ y ∈ q, abvB T ((y : Nat) : Int) b = false) ∧ abvB T (x : Int) b = true ∧ U.cell? ⟨w.heap.size + 1 + 1, 0, none⟩ = some (.int .i64 (x : Int))) ∧ Below w.heap.size w U)
    (OwnFrom.and (Own.from (fun s A B row hs hg hr => ⟨hs.1, cell_kept hs.2.1 hg hr, cell_kept hs.2.2.1 hg hr, cell_kept hs.2.2.2.1 hg hr, (frozen_kept hs.2.2.2.1 hg hr).trans hs.2.2.2.2.1, Nat.le_trans hs.2.2.2.2.2 hg.size⟩) _) (ownFrom_below (Nat.le_refl _) hBV.size))
    (fun c => OwnFrom.and (Own.from (fun s A B row hs hg hr => by
      obtain ⟨h1, q, x, h2, h3, h4, h5⟩ := hs
      exact ⟨h1, q, x, h2, h3, h4, cell_kept h5 hg hr⟩) _) (ownFrom_below (Nat.le_refl _) hBV.size))
    ⟨⟨fun y h => (by cases h), v0, v1, v2, fz, Nat.le_refl _⟩, hBV⟩
    (fun x => { tmps := #[.slice (some ⟨tb, to, none⟩) T.length tc, .int .i64 (a : Int), .int .i64 (b : Int), .pointer (some ⟨w.heap.size, 0, none⟩), undef, .pointer (some ⟨w.heap.size + 1, 0, none⟩), .pointer (some ⟨w.heap.size + 1 + 1, 0, none⟩), .int .i64 (x : Int),
      .slice (some ⟨tb, to, none⟩) T.length tc, .int .i64 (a : Int), .int .i64 (b : Int), .slice (some ⟨w.heap.size + 3, 0, none⟩) 2 2, .bool true, .bool false, .slice (some ⟨tb, to, none⟩) T.length tc, .int .i64 (a : Int),
      .func (.func 110) #[] #[.pointer (some ⟨w1.heap.size + 1, 0, none⟩), .pointer (some ⟨w1.heap.size, 0, none⟩)], .int .i64 (x : Int), undef, undef, undef, undef, undef], defers := [] }) ?assign ?body ?done ?stop
  case assign =>
    intro l x W K hK
    gi_wp2
    exact hK
  case body =>
    rintro l pre x W ⟨⟨hp, h0, h1, h2, hf, hsz⟩, hB⟩ _
    have HP := hideG hp
    have HBW := hideG hB
    have HTW := hideG (HT.out.below hB)
    have HSZ := hideG hsz
    clear hp hB hsz v0 v1 v2 fz r0 r1 r2 s2 cT cA
    cases hx : abvB T (x : Int) b
    · have HIS := hideG (show Calls Try.prog 80 #[.slice (some ⟨tb, to, none⟩) T.length tc, .int .i64 (x : Int), .int .i64 (b : Int)] W (fun e w' => e = .returned (.bool false) ∧ Below W.heap.size W w') from by
        refine (isAbove_any T HM.out _ (x : Int) b hb W HTW.out).mono ?_
        rintro e w' ⟨rfl, h⟩
        exact ⟨by rw [hx], h⟩)
      have HX := hideG hx
      clear hx
      gi_wp2_with fail
      refine ⟨trivial, ?_⟩
      gi_at_call 80
      refine CallsIn.mono (CallsIn.inRound l (callsIn_wide.2 HIS.out)) ?_
      rintro e W1 ⟨rfl, hb1⟩
      have HB1 := hideG hb1
      clear hb1 HIS
      gi_wp2_with fail
      exact ⟨keepsOthers_of_below HB1.out, HB1.out.mono HSZ.out, ⟨fun y hy => (List.mem_append.1 hy).elim (HP.out y) (fun e => by simp at e; subst e; exact HX.out), cell_below HB1.out h0, cell_below HB1.out h1, cell_below HB1.out h2, (HB1.out.frozen (p := ⟨w.heap.size + 1 + 1, 0, none⟩) (below_of_cell h2)).trans hf, Nat.le_trans HSZ.out HB1.out.size⟩, HBW.out.trans (HB1.out.mono HBW.out.size)⟩
    · have HIS := hideG (show Calls Try.prog 80 #[.slice (some ⟨tb, to, none⟩) T.length tc, .int .i64 (x : Int), .int .i64 (b : Int)] W (fun e w' => e = .returned (.bool true) ∧ Below W.heap.size W w') from by
        refine (isAbove_any T HM.out _ (x : Int) b hb W HTW.out).mono ?_
        rintro e w' ⟨rfl, h⟩
        exact ⟨by rw [hx], h⟩)
      have HX := hideG hx
      clear hx
      gi_wp2_with fail
      refine ⟨trivial, ?_⟩
      gi_at_call 80
      refine CallsIn.mono (CallsIn.inRound l (callsIn_wide.2 HIS.out)) ?_
      rintro e W1 ⟨rfl, hb1⟩
      have HB1 := hideG hb1
      have k2 := cell_below hb1 h2
      have kf := (hb1.frozen (p := ⟨w.heap.size + 1 + 1, 0, none⟩) (below_of_cell h2)).trans hf
      clear hb1 HIS
      gi_wp2_with fail
      exact ⟨(keepsOthers_of_below HB1.out).trans (KeepsOthers.setCell _ _ _), ⟨rfl, pre, x, rfl, HP.out, HX.out, World.cell?_setCell_same' _ _ _ (by rw [k2]; rfl)⟩, (HBW.out.trans (HB1.out.mono HBW.out.size)).setCell (p := ⟨w.heap.size + 1 + 1, 0, none⟩) (by simp; omega) _⟩
  case done =>
    rintro D ys W hD rfl ⟨⟨hne, _, _, hcr, hfr, _⟩, hB⟩ hK
    gi_wp2
    have hK' := (KeepsOthers.setCell W ⟨w.heap.size + 1 + 1, 0, none⟩ (.int .i64 (-1))).same D _ hK rfl
    refine ⟨by simp, .inl ⟨_, _, rfl, run_takeDeferred hK', ?_⟩⟩
    have hc5 := cell_kept (World.cell?_setCell_same' W ⟨w.heap.size + 1 + 1, 0, none⟩ (.int .i64 (-1)) (by rw [hcr]; rfl)) (grownBy_putObj' _ D (.deferred none)) (fun r e => by cases e; exact ⟨_, hK', rfl⟩)
    have hval : comI T a b = -1 := by unfold comI; rw [com_of_all hne]
    refine ⟨.int .i64 (-1), ?_, by rw [hval], (hB.setCell (p := ⟨w.heap.size + 1 + 1, 0, none⟩) (by simp; omega) _).trans (belowK_b (w := w) (Nat.le_refl _) _ D _ _ (by have := hBV.size; omega) hK' rfl rfl)⟩
    simp [results, Try.f30, go_sem, hc5]
  case stop =>
    rintro D c pre W hD hpre ⟨⟨rfl, q, x, rfl, hq, hx, hcr⟩, hB⟩ hK
    gi_wp2
    refine ⟨by simp, .inl ⟨_, _, rfl, run_takeDeferred hK, ?_⟩⟩
    have hc5 := cell_kept hcr (grownBy_putObj' _ D (.deferred none)) (fun r e => by cases e; exact ⟨_, hK, rfl⟩)
    have hval : comI T a b = (x : Int) := by unfold comI; rw [com_of_pre hpre hq hx]
    refine ⟨.int .i64 (x : Int), ?_, by rw [hval], hB.trans (belowK_b (w := w) (Nat.le_refl _) W D _ _ (by have := hBV.size; omega) hK rfl rfl)⟩
    simp [results, Try.f30, go_sem, hc5]

set_option maxRecDepth 100000 in
set_option maxHeartbeats 2000000 in
theorem common_no (T : List Nd) (hS : Sane T) (ta : Option Addr) (tc : Nat) (a b : Int) (hk : knownB T [a, b] = false) (w : World) (hT : TreeAt w (.slice ta T.length tc) T) :
    CallsIn Fence.wide 6 Try.prog 30 #[.slice ta T.length tc, .int .i64 a, .int .i64 b] w fun e W' => e = .returned (.int .i64 (-1)) ∧ Below w.heap.size w W' := by
  have hB3 : Below w.heap.size w (((w.alloc (.cells #[.slice ta T.length tc] 23)).alloc (.cells #[.int .i64 b] 3)).alloc (.cells #[.int .i64 0] 3)) := (((Below.refl _ w).alloc (Nat.le_refl _) _).alloc (by simp) _).alloc (by simp; omega) _
  have c2 := cell_new_l ((w.alloc (.cells #[.slice ta T.length tc] 23)).alloc (.cells #[.int .i64 b] 3)) (.int .i64 0) 3
  simp only [World.size_alloc] at c2
  have q2 := c2.1
  have f2 := c2.2
  have HKN := hideG (show Calls Try.prog 79 #[.slice ta T.length tc, .slice (some ⟨w.heap.size + 1 + 1 + 1, 0, none⟩) 2 2] ((((w.alloc (.cells #[.slice ta T.length tc] 23)).alloc (.cells #[.int .i64 b] 3)).alloc (.cells #[.int .i64 0] 3)).alloc (.cells #[.int .i64 a, .int .i64 b] 3)) (fun e w' => e = .returned (.bool false) ∧ Below (((w.alloc (.cells #[.slice ta T.length tc] 23)).alloc (.cells #[.int .i64 b] 3)).alloc (.cells #[.int .i64 0] 3)).heap.size (((w.alloc (.cells #[.slice ta T.length tc] 23)).alloc (.cells #[.int .i64 b] 3)).alloc (.cells #[.int .i64 0] 3)) w') from by
    have hi := ints_new2 (((w.alloc (.cells #[.slice ta T.length tc] 23)).alloc (.cells #[.int .i64 b] 3)).alloc (.cells #[.int .i64 0] 3)) a b
    simp only [World.size_alloc] at hi
    refine (known_any T hS _ [a, b] _ _ (hT.below (hB3.alloc hB3.size _)) hi (by simp)).mono ?_
    rintro e w' ⟨rfl, hb⟩
    exact ⟨by rw [hk], ((Below.refl _ _).alloc (Nat.le_refl _) _).trans (hb.mono (by simp))⟩)
  have HB3 := hideG hB3
  clear hk hS hT hB3 c2
  refine callsIn_of_wp_marks Try.func30 rfl trivial ?_ rfl
  simp only [Try.ntmps30, List.size_toArray, List.length_cons, List.length_nil, Nat.reduceAdd, Nat.reduceSub, Array.replicate_succ, Array.replicate_zero, List.push_toArray, List.append_toArray, List.nil_append, List.cons_append]
  gi_wp2_with fail
  refine ⟨trivial, ?_⟩
  gi_at_call 79
  refine CallsIn.mono (callsIn_wide.2 HKN.out) ?_
  clear HKN
  rintro e w1 ⟨rfl, hb1⟩
  have r2 := cell_below hb1 q2
  have s2 := (hb1.frozen (p := ⟨w.heap.size + 1 + 1, 0, none⟩) (by simp)).trans f2
  have HB := hideG (HB3.out.trans (hb1.mono HB3.out.size))
  clear hb1 q2 f2
  gi_wp2_with fail
  refine ⟨.int .i64 (-1), ?_, rfl, HB.out.setCell (p := ⟨w.heap.size + 1 + 1, 0, none⟩) (by simp; omega) _⟩
  have hc5 := World.cell?_setCell_same' w1 ⟨w.heap.size + 1 + 1, 0, none⟩ (.int .i64 (-1)) (by rw [r2]; rfl)
  simp [results, Try.f30, go_sem, hc5]

theorem orderCommon_any (T : List Nd) (hS : Sane T) (v : Value) (a b : Int) (w : World) (hT : TreeAt w v T) :
    Calls Try.prog 30 #[v, .int .i64 a, .int .i64 b] w fun e w' => e = .returned (.int .i64 (commonI T a b)) ∧ Below w.heap.size w w' := by
  cases hk : knownB T [a, b]
  · obtain ⟨ta, tc, rfl⟩ := hT.shape
    have : commonI T a b = -1 := by simp [commonI, hk]
    rw [this]
    exact callsIn_wide.1 (common_no T hS ta tc a b hk w hT)
  · obtain ⟨_, ⟨a, rfl, ha⟩, b, rfl, hb⟩ := known_two hk
    obtain ⟨tb, to, tc, rfl, _⟩ := hT.at (by omega)
    have : commonI T (a : Int) (b : Int) = comI T a b := by simp [commonI, hk]
    rw [this]
    exact callsIn_wide.1 (common_in T hS tb to tc a b hk w hT)
end Go.Proofs.Ytnbnijhdmnoelaa
