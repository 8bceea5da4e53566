/- order.Before: who stands ahead. -/
import Derived.Deep.RegionHeld3
import Derived.Test.YtnbnijhdmnoelaaOCommon
import Derived.Test.YtnbnijhdmnoelaaList
namespace Go.Proofs.Ytnbnijhdmnoelaa
open Go.RowKit Go.Shelf

attribute [local go_sem] Oper.semAt_some

theorem scan_app {a b : Nat} : ∀ {q : List Nat} (r : List Nat), (∀ y ∈ q, y ≠ a ∧ y ≠ b) → scan a b (q ++ r) = scan a b r
  | [], r, _ => rfl
  | y :: q, r, h => by
    have h1 := h y (List.mem_cons_self ..)
    have ih := scan_app (q := q) r (fun z hz => h z (List.mem_cons_of_mem _ hz))
    simp only [List.cons_append, scan, h1.1, h1.2, if_false, ih]
theorem scan_all {a b : Nat} {l : List Nat} (h : ∀ y ∈ l, y ≠ a ∧ y ≠ b) : scan a b l = false := by
  have := scan_app [] h
  rw [List.append_nil] at this
  rw [this]; rfl
theorem scan_hit {a b : Nat} {q l : List Nat} (hp : (q ++ [a]) <+: l) (h : ∀ y ∈ q, y ≠ a ∧ y ≠ b) : scan a b l = true := by
  obtain ⟨r, rfl⟩ := hp
  rw [List.append_assoc, scan_app _ h]; simp [scan]
theorem scan_stop {a b : Nat} {q l : List Nat} (hp : (q ++ [b]) <+: l) (h : ∀ y ∈ q, y ≠ a ∧ y ≠ b) (hab : a ≠ b) : scan a b l = false := by
  obtain ⟨r, rfl⟩ := hp
  have : b ≠ a := fun e => hab e.symm
  rw [List.append_assoc, scan_app _ h]; simp [scan, this]
theorem ints_drew {w : World} {v : Value} {l : List Int} (h : IntsAt w v l) : IntsAt w.drew v l := h.below (below_drew' (Below.refl _ _))

set_option maxRecDepth 100000 in
set_option maxHeartbeats 4000000 in
theorem before_in (T : List Nd) (hS : Sane T) (tb to tc : Nat) (a b : Nat) (hk : knownB T [(a : Int), (b : Int)] = true) (hab : a ≠ b) (ht : topN T a = topN T b) (w : World) (hT : TreeAt w (.slice (some ⟨tb, to, none⟩) T.length tc) T) :
    CallsIn Fence.wide 6 Try.prog 29 #[.slice (some ⟨tb, to, none⟩) T.length tc, .int .i64 (a : Int), .int .i64 (b : Int)] w fun e W' => e = .returned (.bool (befN T a b)) ∧ Below w.heap.size w W' := by
  obtain ⟨hm, ⟨a', ea, ha⟩, b', eb, hb⟩ := known_two hk
  obtain rfl : a = a' := by omega
  obtain rfl : b = b' := by omega
  have hB3 : Below w.heap.size w (((w.alloc (.cells #[.int .i64 (a : Int)] 3)).alloc (.cells #[.int .i64 (b : Int)] 3)).alloc (.cells #[.bool false] 4)) := (((Below.refl _ w).alloc (Nat.le_refl _) _).alloc (by simp) _).alloc (by simp; omega) _
  have c0 := cell_new_l w (.int .i64 (a : Int)) 3
  have c1 := cell_new_l (w.alloc (.cells #[.int .i64 (a : Int)] 3)) (.int .i64 (b : Int)) 3
  have c2 := cell_new_l ((w.alloc (.cells #[.int .i64 (a : Int)] 3)).alloc (.cells #[.int .i64 (b : Int)] 3)) (.bool false) 4
  simp only [World.size_alloc] at c1 c2
  have q0 := cell_alloc_l (.cells #[.bool false] 4) (cell_alloc_l (.cells #[.int .i64 (b : Int)] 3) c0.1)
  have q1 := cell_alloc_l (.cells #[.bool false] 4) c1.1
  have q2 := c2.1
  have f2 := c2.2
  have hs3 : (((w.alloc (.cells #[.int .i64 (a : Int)] 3)).alloc (.cells #[.int .i64 (b : Int)] 3)).alloc (.cells #[.bool false] 4)).heap.size = w.heap.size + 3 := by simp
  refine callsIn_of_wp_marks Try.func29 rfl trivial ?_ rfl
  simp only [Try.ntmps29, List.size_toArray, List.length_cons, List.length_nil, Nat.reduceAdd, Nat.reduceSub, Array.replicate_succ, Array.replicate_zero, List.push_toArray, List.append_toArray, List.nil_append, List.cons_append]
  have HT := hideG hT
  have HS := hideG hS
  have HM := hideG hm
  have HB3 := hideG hB3
  clear hT hS hm hB3 c0 c1 c2 ea eb
  gi_wp2_with fail
  generalize (((w.alloc (.cells #[.int .i64 (a : Int)] 3)).alloc (.cells #[.int .i64 (b : Int)] 3)).alloc (.cells #[.bool false] 4)) = V at *
  refine wpIn_wide.2 ?_
  have HS3 := hideG hs3
  clear hs3
  have hne : ((a : Int) == (b : Int)) = false := by simp; omega
  have hnt : ((topN T a : Int) != (topN T b : Int)) = false := by simp [ht]
  have HTT := hideG ht
  clear ht
  have HKN := hideG (show ∀ U u, Below V.heap.size V U → IntsAt U u [(a : Int), (b : Int)] → Calls Try.prog 79 #[.slice (some ⟨tb, to, none⟩) T.length tc, u] U (fun e w' => e = .returned (.bool true) ∧ Below V.heap.size V w') from fun U u hU hi => by
    refine (known_any T HS.out _ [(a : Int), (b : Int)] _ _ (HT.out.below (HB3.out.trans (hU.mono HB3.out.size))) hi (by simp)).mono ?_
    rintro e w' ⟨rfl, hb⟩
    exact ⟨by rw [hk], hU.trans (hb.mono hU.size)⟩)
  have HLA := hideG (show ∀ U (x : Nat), x < T.length → Below V.heap.size V U → Calls Try.prog 81 #[.slice (some ⟨tb, to, none⟩) T.length tc, .int .i64 (x : Int)] U (fun e w' => e = .returned (.int .i64 (topN T x : Int)) ∧ Below V.heap.size V w') from fun U x hx hU => by
    refine (last_any T HM.out _ x hx _ (HT.out.below (HB3.out.trans (hU.mono HB3.out.size)))).mono ?_
    rintro e w' ⟨rfl, hb⟩
    exact ⟨rfl, hU.trans (hb.mono hU.size)⟩)
  go_region_held3 (fun w' => Below V.heap.size V w' ∧ w'.cell? ⟨w.heap.size, 0, none⟩ = some (.int .i64 (a : Int)) ∧ w'.cell? ⟨w.heap.size + 1, 0, none⟩ = some (.int .i64 (b : Int))) ((refine ⟨?_, ?_, ?_⟩ <;> first | assumption | exact below_drew' (Below.refl _ _) | exact below_drew' (by assumption) | exact below_drew' ((Below.refl _ _).alloc (Nat.le_refl _) _) | exact Below.alloc (by assumption) (Below.size (by assumption)) _ | exact cell_below (by assumption) q0 | exact cell_below (by assumption) q1 | exact cell_alloc_l _ (by assumption) | go_keep)) (first | (go_at_call 79; refine (HKN.out _ _ (below_drew' ((Below.refl _ _).alloc (Nat.le_refl _) _)) (ints_drew (ints_new2 _ _ _))).mono ?_; rintro e w' ⟨rfl, hb1⟩) | (go_at_call 81; refine (HLA.out _ _ ?_ ?_).mono ?_; (first | exact ha | exact hb); assumption; rintro e w' ⟨rfl, hb1⟩))
  gi_wp2_with fail
  refine ⟨trivial, ?_⟩
  gi_at_call 81
  refine CallsIn.mono (callsIn_wide.2 (HLA.out _ a ha hb1)) ?_
  rintro e w2 ⟨rfl, hb2⟩
  have HB2 := hideG hb2
  clear hb2 HLA HKN
  gi_wp2_with fail
  refine ⟨trivial, ?_⟩
  gi_at_call 82
  refine (odown_in _ _ _ _ _ _).mono ?_
  rintro e w3 ⟨rfl, rfl⟩
  gi_wp2_with fail
  have d1 := cell_new_l w2 (.slice (some ⟨tb, to, none⟩) T.length tc) 23
  have d2 := cell_new_l (w2.alloc (.cells #[.slice (some ⟨tb, to, none⟩) T.length tc] 23)) (.int .i64 (topN T a : Int)) 3
  simp only [World.size_alloc] at d2
  have hBB : Below w2.heap.size w2 ((w2.alloc (.cells #[.slice (some ⟨tb, to, none⟩) T.length tc] 23)).alloc (.cells #[.int .i64 (topN T a : Int)] 3)) := ((Below.refl _ w2).alloc (Nat.le_refl _) _).alloc (by simp) _
  have cT := cell_alloc_l (.cells #[.int .i64 (topN T a : Int)] 3) d1.1
  have cA := d2.1
  obtain ⟨V2, hV2⟩ : ∃ V2, (w2.alloc (.cells #[.slice (some ⟨tb, to, none⟩) T.length tc] 23)).alloc (.cells #[.int .i64 (topN T a : Int)] 3) = V2 := ⟨_, rfl⟩
  have hsV : V2.heap.size = w2.heap.size + 2 := by rw [← hV2]; simp
  rw [hV2] at hBB cT cA ⊢
  clear d1 d2 hV2
  have hs2 := HB2.out.size
  have hs3 := HS3.out
  have hVB : Below V.heap.size V V2 := HB2.out.trans (hBB.mono hs2)
  have hBV : Below w.heap.size w V2 := HB3.out.trans (hVB.mono HB3.out.size)
  have v0 := cell_below hVB q0
  have v1 := cell_below hVB q1
  have v2 := cell_below hVB q2
  have fz := (hVB.frozen (p := ⟨w.heap.size + 1 + 1, 0, none⟩) (by show w.heap.size + 1 + 1 < V.heap.size; omega)).trans f2
  have hx0 : ownX (w.heap.size + 1 + 1) V2 = none := by unfold ownX; rw [v2]; rfl
  have hxf : ∀ (U : World) (x : Bool), U.cell? ⟨w.heap.size + 1 + 1, 0, none⟩ = some (.bool x) → ownX (w.heap.size + 1 + 1) U = none := fun U x h => by unfold ownX; rw [h]; rfl
  have htl := top_lt HM.out ha
  have hpos := mayB_pos HM.out
  refine range_deep rfl (enters_of Try.func109 (by kernel_rfl) rfl) (fun x : Nat => #[Value.int .i64 (x : Int)]) (fun _ => rfl) (w.heap.size + 1 + 1) (fun k => k = w.heap.size + 1 + 1) (fun k e => by omega) (by omega) (fun g hg => by rw [hx0] at hg; cases hg) (dn T (topN T a)) ?seq
    (fun pre U => ((∀ y ∈ pre, y ≠ a ∧ y ≠ b) ∧ U.cell? ⟨w.heap.size, 0, none⟩ = some (.int .i64 (a : Int)) ∧ U.cell? ⟨w.heap.size + 1, 0, none⟩ = some (.int .i64 (b : Int)) ∧ U.cell? ⟨w.heap.size + 1 + 1, 0, none⟩ = some (.bool false) ∧ U.frozen? ⟨w.heap.size + 1 + 1, 0, none⟩ = false) ∧ Below w.heap.size w U)
    (fun c pre U => ((c = .ret ∧ (∃ q, pre = q ++ [a] ∧ ∀ y ∈ q, y ≠ a ∧ y ≠ b) ∧ U.cell? ⟨w.heap.size + 1 + 1, 0, none⟩ = some (.bool true)) ∨ (c = .exit 0 ∧ (∃ q, pre = q ++ [b] ∧ ∀ y ∈ q, y ≠ a ∧ y ≠ b) ∧ U.cell? ⟨w.heap.size + 1 + 1, 0, none⟩ = some (.bool false) ∧ U.frozen? ⟨w.heap.size + 1 + 1, 0, none⟩ = false)) ∧ Below w.heap.size w U)
    (OwnFrom.and (Own.from (fun s A B row hs hg hr => ⟨hs.1, cell_kept hs.2.1 hg hr, cell_kept hs.2.2.1 hg hr, cell_kept hs.2.2.2.1 hg hr, (frozen_kept hs.2.2.2.1 hg hr).trans hs.2.2.2.2⟩) _) (ownFrom_below (Nat.le_refl _) hBV.size))
    (fun c => OwnFrom.and (Own.from (fun s A B row hs hg hr => by
      rcases hs with ⟨h1, h2, h3⟩ | ⟨h1, h2, h3, h4⟩
      · exact .inl ⟨h1, h2, cell_kept h3 hg hr⟩
      · exact .inr ⟨h1, h2, cell_kept h3 hg hr, (frozen_kept h3 hg hr).trans h4⟩) _) (ownFrom_below (Nat.le_refl _) hBV.size))
    ⟨⟨fun y h => (by cases h), v0, v1, v2, fz⟩, hBV⟩
    (fun x => { tmps := #[.slice (some ⟨tb, to, none⟩) T.length tc, .int .i64 (a : Int), .int .i64 (b : Int), undef, .pointer (some ⟨w.heap.size, 0, none⟩), .pointer (some ⟨w.heap.size + 1, 0, none⟩), .pointer (some ⟨w.heap.size + 1 + 1, 0, none⟩), .int .i64 (x : Int),
      .slice (some ⟨tb, to, none⟩) T.length tc, .int .i64 (a : Int), .int .i64 (b : Int), .slice (some ⟨V.heap.size, 0, none⟩) 2 2, .bool true, .bool false, .bool false, .int .i64 (a : Int), .int .i64 (b : Int), .bool false, .bool false, .bool false, .slice (some ⟨tb, to, none⟩) T.length tc, .int .i64 (a : Int), .int .i64 (topN T a : Int), .slice (some ⟨tb, to, none⟩) T.length tc, .int .i64 (b : Int), .int .i64 (topN T b : Int), .bool false, .bool false, .slice (some ⟨tb, to, none⟩) T.length tc, .slice (some ⟨tb, to, none⟩) T.length tc, .int .i64 (a : Int), .int .i64 (topN T a : Int), .func (.func 109) #[] #[.pointer (some ⟨w2.heap.size + 1, 0, none⟩), .pointer (some ⟨w2.heap.size, 0, none⟩)], .int .i64 (x : Int), undef, undef, undef, undef, undef, undef], defers := [] }) ?assign ?body ?done ?stop
  case seq =>
    intro U hBU hsU
    have hoU : ownX (w.heap.size + 1 + 1) U = none := by rw [ownX_block (hBU.block _ (by omega))]; exact hx0
    have hh : ∀ k, w2.heap.size ≤ k → k < V2.heap.size → Held (fun k => k = w.heap.size + 1 + 1 ∨ k = V2.heap.size + 1) (w.heap.size + 1 + 1) U k := fun k h1 h2 => ⟨by omega, by omega, by rw [hoU]; intro e; cases e⟩
    exact down1_in T HM.out tb to tc w HT.out (w.heap.size + 1 + 1) (T.length + 1) (topN T a) htl (by omega) _ _ (w2.heap.size + 1) w2.heap.size U (fun k e => by omega) (by omega) (by omega) (hBV.trans (hBU.mono hBV.size)) (fun g hg => by rw [hoU] at hg; cases hg) (hh _ (by omega) (by omega)) (hh _ (by omega) (by omega)) (cell_below hBU cA) (cell_below hBU cT)
  case assign =>
    intro l m x W K hK
    clear hs3
    gi_wp2
    exact hK
  case body =>
    rintro l m pre x W ⟨⟨hp, h0, h1, h2, hf⟩, hB⟩ _
    have HP := hideG hp
    have HBW := hideG hB
    have HXF := hideG hxf
    clear hp hB hxf v0 v1 v2 fz q0 q1 q2 f2 cT cA
    have hsw : w.heap.size + 1 + 1 < W.heap.size := below_of_cell h2
    by_cases ea : x = a
    · subst ea
      have hxx : ((x : Int) == (x : Int)) = true := by simp
      gi_wp2_with fail
      have hcs := World.cell?_setCell_same' W ⟨w.heap.size + 1 + 1, 0, none⟩ (.bool true) (by rw [h2]; rfl)
      refine ⟨⟨rfl, rfl, rfl, by simp, fun k hk he _ => heap_setCell_other W ⟨w.heap.size + 1 + 1, 0, none⟩ k _ (fun e => he e), fun g hg => ?_⟩, .inl ⟨rfl, ⟨pre, rfl, HP.out⟩, hcs⟩, HBW.out.setCell (p := ⟨w.heap.size + 1 + 1, 0, none⟩) (by simp; omega) _⟩
      rw [HXF.out _ _ hcs] at hg; cases hg
    · have hxa : ((x : Int) == (a : Int)) = false := by simp; omega
      by_cases eb : x = b
      · subst eb
        have hxx : ((x : Int) == (x : Int)) = true := by simp
        gi_wp2_with fail
        exact ⟨Kd.refl _ _ _, .inr ⟨rfl, ⟨pre, rfl, HP.out⟩, h2, hf⟩, HBW.out⟩
      · have hxb : ((x : Int) == (b : Int)) = false := by simp; omega
        gi_wp2_with fail
        exact ⟨Kd.refl _ _ _, ⟨fun y hy => (List.mem_append.1 hy).elim (HP.out y) (fun e => by simp at e; subst e; exact ⟨ea, eb⟩), h0, h1, h2, hf⟩, HBW.out⟩
  case done =>
    rintro W ⟨⟨hne, _, _, hcr, hfr⟩, hB⟩ hK _
    gi_wp2
    have hK' := (KeepsOthers.setCell W ⟨w.heap.size + 1 + 1, 0, none⟩ (.bool false)).same V2.heap.size _ hK rfl
    refine ⟨by simp, .inl ⟨_, _, rfl, run_takeDeferred hK', ?_⟩⟩
    have hc5 := cell_kept (World.cell?_setCell_same' W ⟨w.heap.size + 1 + 1, 0, none⟩ (.bool false) (by rw [hcr]; rfl)) (grownBy_putObj' _ V2.heap.size (.deferred none)) (fun r e => by cases e; exact ⟨_, hK', rfl⟩)
    have hval : befN T a b = false := by rw [← scan_bef HM.out ha hb hab HTT.out]; exact scan_all hne
    refine ⟨.bool false, ?_, by rw [hval], (hB.setCell (p := ⟨w.heap.size + 1 + 1, 0, none⟩) (by simp; omega) _).trans (belowK_b (w := w) (Nat.le_refl _) _ V2.heap.size _ _ hBV.size hK' rfl rfl)⟩
    simp [results, Try.f29, go_sem, hc5]
  case stop =>
    rintro c pre W hpre ⟨(⟨rfl, ⟨q, rfl, hq⟩, hcr⟩ | ⟨rfl, ⟨q, rfl, hq⟩, hcr, hfr⟩), hB⟩ hK _
    · gi_wp2
      refine ⟨by simp, .inl ⟨_, _, rfl, run_takeDeferred hK, ?_⟩⟩
      have hc5 := cell_kept hcr (grownBy_putObj' _ V2.heap.size (.deferred none)) (fun r e => by cases e; exact ⟨_, hK, rfl⟩)
      have hval : befN T a b = true := by rw [← scan_bef HM.out ha hb hab HTT.out]; exact scan_hit hpre hq
      refine ⟨.bool true, ?_, by rw [hval], hB.trans (belowK_b (w := w) (Nat.le_refl _) W V2.heap.size _ _ hBV.size hK rfl rfl)⟩
      simp [results, Try.f29, go_sem, hc5]
    · gi_wp2
      have hK' := (KeepsOthers.setCell W ⟨w.heap.size + 1 + 1, 0, none⟩ (.bool false)).same V2.heap.size _ hK rfl
      refine ⟨by simp, .inl ⟨_, _, rfl, run_takeDeferred hK', ?_⟩⟩
      have hc5 := cell_kept (World.cell?_setCell_same' W ⟨w.heap.size + 1 + 1, 0, none⟩ (.bool false) (by rw [hcr]; rfl)) (grownBy_putObj' _ V2.heap.size (.deferred none)) (fun r e => by cases e; exact ⟨_, hK', rfl⟩)
      have hval : befN T a b = false := by rw [← scan_bef HM.out ha hb hab HTT.out]; exact scan_stop hpre hq (fun e => hab e)
      refine ⟨.bool false, ?_, by rw [hval], (hB.setCell (p := ⟨w.heap.size + 1 + 1, 0, none⟩) (by simp; omega) _).trans (belowK_b (w := w) (Nat.le_refl _) _ V2.heap.size _ _ hBV.size hK' rfl rfl)⟩
      simp [results, Try.f29, go_sem, hc5]

/-- order.Before. -/
def beforeI (T : List Nd) (a b : Int) : Bool := bothB T a b && befN T a.toNat b.toNat

set_option maxRecDepth 100000 in
set_option maxHeartbeats 4000000 in
theorem before_no (T : List Nd) (hS : Sane T) (ta : Option Addr) (tc : Nat) (a b : Int) (hq : knownB T [a, b] = false ∨ (knownB T [a, b] = true ∧ ((a == b) = true ∨ ((a == b) = false ∧ ∃ x y : Nat, a = x ∧ b = y ∧ ((topN T x : Int) != (topN T y : Int)) = true)))) (w : World) (hT : TreeAt w (.slice ta T.length tc) T) :
    CallsIn Fence.wide 6 Try.prog 29 #[.slice ta T.length tc, .int .i64 a, .int .i64 b] w fun e W' => e = .returned (.bool false) ∧ Below w.heap.size w W' := by
  have hB3 : Below w.heap.size w (((w.alloc (.cells #[.int .i64 a] 3)).alloc (.cells #[.int .i64 b] 3)).alloc (.cells #[.bool false] 4)) := (((Below.refl _ w).alloc (Nat.le_refl _) _).alloc (by simp) _).alloc (by simp; omega) _
  have c0 := cell_new_l w (.int .i64 a) 3
  have c1 := cell_new_l (w.alloc (.cells #[.int .i64 a] 3)) (.int .i64 b) 3
  have c2 := cell_new_l ((w.alloc (.cells #[.int .i64 a] 3)).alloc (.cells #[.int .i64 b] 3)) (.bool false) 4
  simp only [World.size_alloc] at c1 c2
  have q0 := cell_alloc_l (.cells #[.bool false] 4) (cell_alloc_l (.cells #[.int .i64 b] 3) c0.1)
  have q1 := cell_alloc_l (.cells #[.bool false] 4) c1.1
  have q2 := c2.1
  have f2 := c2.2
  have hs3 : (((w.alloc (.cells #[.int .i64 a] 3)).alloc (.cells #[.int .i64 b] 3)).alloc (.cells #[.bool false] 4)).heap.size = w.heap.size + 3 := by simp
  have HT := hideG hT
  have HS := hideG hS
  have HB3 := hideG hB3
  have HS3 := hideG hs3
  clear hT hS hB3 c0 c1 c2 hs3
  have HLA := hideG (show knownB T [a, b] = true → ∀ U (z : Int), (z = a ∨ z = b) → Below (((w.alloc (.cells #[.int .i64 a] 3)).alloc (.cells #[.int .i64 b] 3)).alloc (.cells #[.bool false] 4)).heap.size (((w.alloc (.cells #[.int .i64 a] 3)).alloc (.cells #[.int .i64 b] 3)).alloc (.cells #[.bool false] 4)) U → Calls Try.prog 81 #[.slice ta T.length tc, .int .i64 z] U (fun e w' => e = .returned (.int .i64 (topN T z.toNat : Int)) ∧ Below (((w.alloc (.cells #[.int .i64 a] 3)).alloc (.cells #[.int .i64 b] 3)).alloc (.cells #[.bool false] 4)).heap.size (((w.alloc (.cells #[.int .i64 a] 3)).alloc (.cells #[.int .i64 b] 3)).alloc (.cells #[.bool false] 4)) w') from fun hk U z hz hU => by
    obtain ⟨hm, ⟨x, ex, hx⟩, y, ey, hy⟩ := known_two hk
    have hzl : ∃ n : Nat, z = n ∧ n < T.length := by
      rcases hz with rfl | rfl
      · exact ⟨x, ex, hx⟩
      · exact ⟨y, ey, hy⟩
    obtain ⟨n, rfl, hn⟩ := hzl
    refine (last_any T hm _ n hn _ (HT.out.below (HB3.out.trans (hU.mono HB3.out.size)))).mono ?_
    rintro e w' ⟨rfl, hb⟩
    exact ⟨by simp, hU.trans (hb.mono hU.size)⟩)
  have HKN := hideG (show ∀ U u, Below (((w.alloc (.cells #[.int .i64 a] 3)).alloc (.cells #[.int .i64 b] 3)).alloc (.cells #[.bool false] 4)).heap.size (((w.alloc (.cells #[.int .i64 a] 3)).alloc (.cells #[.int .i64 b] 3)).alloc (.cells #[.bool false] 4)) U → IntsAt U u [a, b] → Calls Try.prog 79 #[.slice ta T.length tc, u] U (fun e w' => e = .returned (.bool (knownB T [a, b])) ∧ Below (((w.alloc (.cells #[.int .i64 a] 3)).alloc (.cells #[.int .i64 b] 3)).alloc (.cells #[.bool false] 4)).heap.size (((w.alloc (.cells #[.int .i64 a] 3)).alloc (.cells #[.int .i64 b] 3)).alloc (.cells #[.bool false] 4)) w') from fun U u hU hi => by
    refine (known_any T HS.out _ [a, b] _ _ (HT.out.below (HB3.out.trans (hU.mono HB3.out.size))) hi (by simp)).mono ?_
    rintro e w' ⟨rfl, hb⟩
    exact ⟨rfl, hU.trans (hb.mono hU.size)⟩)
  have fin : ∀ W1 : World, Below (((w.alloc (.cells #[.int .i64 a] 3)).alloc (.cells #[.int .i64 b] 3)).alloc (.cells #[.bool false] 4)).heap.size (((w.alloc (.cells #[.int .i64 a] 3)).alloc (.cells #[.int .i64 b] 3)).alloc (.cells #[.bool false] 4)) W1 → W1.cell? ⟨w.heap.size + 1 + 1, 0, none⟩ = some (.bool false) ∧ W1.frozen? ⟨w.heap.size + 1 + 1, 0, none⟩ = false ∧ Below w.heap.size w W1 := fun W1 h => ⟨cell_below h q2, (h.frozen (p := ⟨w.heap.size + 1 + 1, 0, none⟩) (by show w.heap.size + 1 + 1 < _; have := HS3.out; omega)).trans f2, HB3.out.trans (h.mono HB3.out.size)⟩
  have FIN := hideG fin
  clear fin q2 f2
  rcases hq with hk | ⟨hk, hab | ⟨hab, x, y, ex, ey, hxy⟩⟩
  · rw [hk] at HKN
    clear HLA
    refine callsIn_of_wp_marks Try.func29 rfl trivial ?_ rfl
    simp only [Try.ntmps29, List.size_toArray, List.length_cons, List.length_nil, Nat.reduceAdd, Nat.reduceSub, Array.replicate_succ, Array.replicate_zero, List.push_toArray, List.append_toArray, List.nil_append, List.cons_append]
    gi_wp2_with fail
    generalize (((w.alloc (.cells #[.int .i64 a] 3)).alloc (.cells #[.int .i64 b] 3)).alloc (.cells #[.bool false] 4)) = V at *
    refine wpIn_wide.2 ?_
    refine wp_region_noPanic ?_
    refine wp_region_held_drew (S := fun w' => Below V.heap.size V w' ∧ w'.cell? ⟨w.heap.size, 0, none⟩ = some (.int .i64 a) ∧ w'.cell? ⟨w.heap.size + 1, 0, none⟩ = some (.int .i64 b)) (by kernel_rfl) ⟨below_drew' (Below.refl _ _), q0, q1⟩ (fun hHeld => ?_)
    refine wpAnyH_take (i := 0) (v := .slice ta T.length tc) rfl (by kernel_rfl) (by kernel_rfl) (by kernel_rfl) (fun _ _ _ h => h) (Or.inl ⟨by rfl, ?_⟩) hHeld ?_
    · (intro wq hSw; (try dsimp only at hSw); go_simp)
    try simp only [Act.put, List.setIfInBounds_toArray, List.set_cons_zero, List.set_cons_succ, List.getElem_toArray, List.getElem_cons_zero]
    refine wpAnyH_take (i := 1) (v := .int .i64 a) rfl (by kernel_rfl) (by kernel_rfl) (by kernel_rfl) (fun _ _ _ h => h) (Or.inl ⟨by rfl, ?_⟩) hHeld ?_
    · (intro wq hSw; (try dsimp only at hSw); go_simp)
    try simp only [Act.put, List.setIfInBounds_toArray, List.set_cons_zero, List.set_cons_succ, List.getElem_toArray, List.getElem_cons_zero, List.getElem_cons_succ]
    refine wpAnyH_take (i := 2) (v := .int .i64 b) rfl (by kernel_rfl) (by kernel_rfl) (by kernel_rfl) (fun _ _ _ h => h) (Or.inl ⟨by rfl, ?_⟩) hHeld ?_
    · (intro wq hSw; (try dsimp only at hSw); go_simp)
    try simp only [Act.put, List.setIfInBounds_toArray, List.set_cons_zero, List.set_cons_succ, List.getElem_toArray, List.getElem_cons_zero, List.getElem_cons_succ]
    refine wpAnyH_ready (rs := [3]) (by kernel_rfl) (by simp) ?_
    refine AllReadyH.cons rfl (fun K hK => ?_) AllReadyH.nil
    go_simp
    refine hK.out _ _ ⟨below_drew' ((Below.refl _ _).alloc (Nat.le_refl _) _), cell_alloc_l _ q0, cell_alloc_l _ q1⟩ (fun hHeld => ?_)
    clear hK K
    try simp only [Act.put, List.setIfInBounds_toArray, List.set_cons_zero, List.set_cons_succ, List.getElem_toArray, List.getElem_cons_zero, List.getElem_cons_succ]
    refine wpAnyH_ready (rs := [4]) (by kernel_rfl) (by simp) ?_
    refine AllReadyH.cons rfl (fun K hK => ?_) AllReadyH.nil
    go_simp
    go_at_call 79
    refine (HKN.out _ _ (below_drew' ((Below.refl _ _).alloc (Nat.le_refl _) _)) (ints_drew (ints_new2 _ _ _))).mono ?_
    rintro e w' ⟨rfl, hb1⟩
    go_wp2_with fail
    refine hK.out _ _ ⟨hb1, cell_below hb1 q0, cell_below hb1 q1⟩ (fun hHeld => ?_)
    clear hK K
    try simp only [Act.put, List.setIfInBounds_toArray, List.set_cons_zero, List.set_cons_succ, List.getElem_toArray, List.getElem_cons_zero, List.getElem_cons_succ]
    refine wpAnyH_take (i := 5) (v := .bool true) rfl (by kernel_rfl) (by kernel_rfl) (by kernel_rfl) (fun _ _ _ h => h) (Or.inl ⟨by rfl, ?_⟩) hHeld ?_
    · (intro wq hSw; (try dsimp only at hSw); go_simp)
    try simp only [Act.put, List.setIfInBounds_toArray, List.set_cons_zero, List.set_cons_succ, List.getElem_toArray, List.getElem_cons_zero, List.getElem_cons_succ]
    refine wpAnyH_take (i := 6) (v := .bool true) rfl (by kernel_rfl) (by kernel_rfl) (by kernel_rfl) (fun _ _ _ h => h) (Or.inl ⟨by rfl, ?_⟩) hHeld ?_
    · (intro wq hSw; (try dsimp only at hSw); go_simp)
    try simp only [Act.put, List.setIfInBounds_toArray, List.set_cons_zero, List.set_cons_succ, List.getElem_toArray, List.getElem_cons_zero, List.getElem_cons_succ]
    refine wpAnyH_take (i := 7) (v := undef) rfl (by kernel_rfl) (by kernel_rfl) (by kernel_rfl) (fun _ _ _ h => h) (Or.inr ⟨by rfl, rfl⟩) hHeld ?_
    try simp only [Act.put, List.setIfInBounds_toArray, List.set_cons_zero, List.set_cons_succ, List.getElem_toArray, List.getElem_cons_zero, List.getElem_cons_succ]
    refine wpAnyH_take (i := 8) (v := undef) rfl (by kernel_rfl) (by kernel_rfl) (by kernel_rfl) (fun _ _ _ h => h) (Or.inr ⟨by rfl, rfl⟩) hHeld ?_
    try simp only [Act.put, List.setIfInBounds_toArray, List.set_cons_zero, List.set_cons_succ, List.getElem_toArray, List.getElem_cons_zero, List.getElem_cons_succ]
    refine wpAnyH_take (i := 9) (v := undef) rfl (by kernel_rfl) (by kernel_rfl) (by kernel_rfl) (fun _ _ _ h => h) (Or.inr ⟨by rfl, rfl⟩) hHeld ?_
    try simp only [Act.put, List.setIfInBounds_toArray, List.set_cons_zero, List.set_cons_succ, List.getElem_toArray, List.getElem_cons_zero, List.getElem_cons_succ]
    refine wpAnyH_take (i := 10) (v := .bool true) rfl (by kernel_rfl) (by kernel_rfl) (by kernel_rfl) (fun _ _ _ h => h) (Or.inl ⟨by rfl, ?_⟩) hHeld ?_
    · (intro wq hSw; (try dsimp only at hSw); go_simp)
    try simp only [Act.put, List.setIfInBounds_toArray, List.set_cons_zero, List.set_cons_succ, List.getElem_toArray, List.getElem_cons_zero, List.getElem_cons_succ]
    refine wpAnyH_take (i := 11) (v := .bool true) rfl (by kernel_rfl) (by kernel_rfl) (by kernel_rfl) (fun _ _ _ h => h) (Or.inl ⟨by rfl, ?_⟩) hHeld ?_
    · (intro wq hSw; (try dsimp only at hSw); go_simp)
    try simp only [Act.put, List.setIfInBounds_toArray, List.set_cons_zero, List.set_cons_succ, List.getElem_toArray, List.getElem_cons_zero, List.getElem_cons_succ]
    refine wpAnyH_take (i := 12) (v := undef) rfl (by kernel_rfl) (by kernel_rfl) (by kernel_rfl) (fun _ _ _ h => h) (Or.inr ⟨by rfl, rfl⟩) hHeld ?_
    try simp only [Act.put, List.setIfInBounds_toArray, List.set_cons_zero, List.set_cons_succ, List.getElem_toArray, List.getElem_cons_zero, List.getElem_cons_succ]
    refine wpAnyH_take (i := 13) (v := undef) rfl (by kernel_rfl) (by kernel_rfl) (by kernel_rfl) (fun _ _ _ h => h) (Or.inr ⟨by rfl, rfl⟩) hHeld ?_
    try simp only [Act.put, List.setIfInBounds_toArray, List.set_cons_zero, List.set_cons_succ, List.getElem_toArray, List.getElem_cons_zero, List.getElem_cons_succ]
    refine wpAnyH_take (i := 15) (v := undef) rfl (by kernel_rfl) (by kernel_rfl) (by kernel_rfl) (fun _ _ _ h => h) (Or.inr ⟨by rfl, rfl⟩) hHeld ?_
    try simp only [Act.put, List.setIfInBounds_toArray, List.set_cons_zero, List.set_cons_succ, List.getElem_toArray, List.getElem_cons_zero, List.getElem_cons_succ]
    refine wpAnyH_take (i := 16) (v := undef) rfl (by kernel_rfl) (by kernel_rfl) (by kernel_rfl) (fun _ _ _ h => h) (Or.inr ⟨by rfl, rfl⟩) hHeld ?_
    try simp only [Act.put, List.setIfInBounds_toArray, List.set_cons_zero, List.set_cons_succ, List.getElem_toArray, List.getElem_cons_zero, List.getElem_cons_succ]
    refine wpAnyH_take (i := 14) (v := undef) rfl (by kernel_rfl) (by kernel_rfl) (by kernel_rfl) (fun _ _ _ h => h) (Or.inr ⟨by rfl, rfl⟩) hHeld ?_
    try simp only [Act.put, List.setIfInBounds_toArray, List.set_cons_zero, List.set_cons_succ, List.getElem_toArray, List.getElem_cons_zero, List.getElem_cons_succ]
    refine wpAnyH_take (i := 17) (v := undef) rfl (by kernel_rfl) (by kernel_rfl) (by kernel_rfl) (fun _ _ _ h => h) (Or.inr ⟨by rfl, rfl⟩) hHeld ?_
    try simp only [Act.put, List.setIfInBounds_toArray, List.set_cons_zero, List.set_cons_succ, List.getElem_toArray, List.getElem_cons_zero, List.getElem_cons_succ]
    refine wpAnyH_take (i := 18) (v := undef) rfl (by kernel_rfl) (by kernel_rfl) (by kernel_rfl) (fun _ _ _ h => h) (Or.inr ⟨by rfl, rfl⟩) hHeld ?_
    try simp only [Act.put, List.setIfInBounds_toArray, List.set_cons_zero, List.set_cons_succ, List.getElem_toArray, List.getElem_cons_zero, List.getElem_cons_succ]
    refine wpAnyH_take (i := 19) (v := .bool true) rfl (by kernel_rfl) (by kernel_rfl) (by kernel_rfl) (fun _ _ _ h => h) (Or.inl ⟨by rfl, ?_⟩) hHeld ?_
    · (intro wq hSw; (try dsimp only at hSw); go_simp)
    try simp only [Act.put, List.setIfInBounds_toArray, List.set_cons_zero, List.set_cons_succ, List.getElem_toArray, List.getElem_cons_zero, List.getElem_cons_succ]
    refine wpAnyH_done (by kernel_rfl) ?_ _
    refine NoPanic.normal ?_
    obtain ⟨r2, s2, hbw⟩ := FIN.out _ hb1
    have HBW := hideG hbw
    clear hbw
    gi_wp2_with fail
    refine ⟨.bool false, ?_, rfl, HBW.out.setCell (p := ⟨w.heap.size + 1 + 1, 0, none⟩) (by simp; omega) _⟩
    have hc5 := World.cell?_setCell_same' w' ⟨w.heap.size + 1 + 1, 0, none⟩ (.bool false) (by rw [r2]; rfl)
    simp [results, Try.f29, go_sem, hc5]
  · rw [hk] at HKN
    clear HLA
    refine callsIn_of_wp_marks Try.func29 rfl trivial ?_ rfl
    simp only [Try.ntmps29, List.size_toArray, List.length_cons, List.length_nil, Nat.reduceAdd, Nat.reduceSub, Array.replicate_succ, Array.replicate_zero, List.push_toArray, List.append_toArray, List.nil_append, List.cons_append]
    gi_wp2_with fail
    generalize (((w.alloc (.cells #[.int .i64 a] 3)).alloc (.cells #[.int .i64 b] 3)).alloc (.cells #[.bool false] 4)) = V at *
    refine wpIn_wide.2 ?_
    refine wp_region_noPanic ?_
    refine wp_region_held_drew (S := fun w' => Below V.heap.size V w' ∧ w'.cell? ⟨w.heap.size, 0, none⟩ = some (.int .i64 a) ∧ w'.cell? ⟨w.heap.size + 1, 0, none⟩ = some (.int .i64 b)) (by kernel_rfl) ⟨below_drew' (Below.refl _ _), q0, q1⟩ (fun hHeld => ?_)
    refine wpAnyH_take (i := 0) (v := .slice ta T.length tc) rfl (by kernel_rfl) (by kernel_rfl) (by kernel_rfl) (fun _ _ _ h => h) (Or.inl ⟨by rfl, ?_⟩) hHeld ?_
    · (intro wq hSw; (try dsimp only at hSw); go_simp)
    try simp only [Act.put, List.setIfInBounds_toArray, List.set_cons_zero, List.set_cons_succ, List.getElem_toArray, List.getElem_cons_zero]
    refine wpAnyH_take (i := 1) (v := .int .i64 a) rfl (by kernel_rfl) (by kernel_rfl) (by kernel_rfl) (fun _ _ _ h => h) (Or.inl ⟨by rfl, ?_⟩) hHeld ?_
    · (intro wq hSw; (try dsimp only at hSw); go_simp)
    try simp only [Act.put, List.setIfInBounds_toArray, List.set_cons_zero, List.set_cons_succ, List.getElem_toArray, List.getElem_cons_zero, List.getElem_cons_succ]
    refine wpAnyH_take (i := 2) (v := .int .i64 b) rfl (by kernel_rfl) (by kernel_rfl) (by kernel_rfl) (fun _ _ _ h => h) (Or.inl ⟨by rfl, ?_⟩) hHeld ?_
    · (intro wq hSw; (try dsimp only at hSw); go_simp)
    try simp only [Act.put, List.setIfInBounds_toArray, List.set_cons_zero, List.set_cons_succ, List.getElem_toArray, List.getElem_cons_zero, List.getElem_cons_succ]
    refine wpAnyH_ready (rs := [3]) (by kernel_rfl) (by simp) ?_
    refine AllReadyH.cons rfl (fun K hK => ?_) AllReadyH.nil
    go_simp
    refine hK.out _ _ ⟨below_drew' ((Below.refl _ _).alloc (Nat.le_refl _) _), cell_alloc_l _ q0, cell_alloc_l _ q1⟩ (fun hHeld => ?_)
    clear hK K
    try simp only [Act.put, List.setIfInBounds_toArray, List.set_cons_zero, List.set_cons_succ, List.getElem_toArray, List.getElem_cons_zero, List.getElem_cons_succ]
    refine wpAnyH_ready (rs := [4]) (by kernel_rfl) (by simp) ?_
    refine AllReadyH.cons rfl (fun K hK => ?_) AllReadyH.nil
    go_simp
    go_at_call 79
    refine (HKN.out _ _ (below_drew' ((Below.refl _ _).alloc (Nat.le_refl _) _)) (ints_drew (ints_new2 _ _ _))).mono ?_
    rintro e w' ⟨rfl, hb1⟩
    go_wp2_with fail
    refine hK.out _ _ ⟨hb1, cell_below hb1 q0, cell_below hb1 q1⟩ (fun hHeld => ?_)
    clear hK K
    try simp only [Act.put, List.setIfInBounds_toArray, List.set_cons_zero, List.set_cons_succ, List.getElem_toArray, List.getElem_cons_zero, List.getElem_cons_succ]
    refine wpAnyH_take (i := 5) (v := .bool false) rfl (by kernel_rfl) (by kernel_rfl) (by kernel_rfl) (fun _ _ _ h => h) (Or.inl ⟨by rfl, ?_⟩) hHeld ?_
    · (intro wq hSw; (try dsimp only at hSw); go_simp)
    try simp only [Act.put, List.setIfInBounds_toArray, List.set_cons_zero, List.set_cons_succ, List.getElem_toArray, List.getElem_cons_zero, List.getElem_cons_succ]
    refine wpAnyH_take (i := 6) (v := .bool false) rfl (by kernel_rfl) (by kernel_rfl) (by kernel_rfl) (fun _ _ _ h => h) (Or.inl ⟨by rfl, ?_⟩) hHeld ?_
    · (intro wq hSw; (try dsimp only at hSw); go_simp)
    try simp only [Act.put, List.setIfInBounds_toArray, List.set_cons_zero, List.set_cons_succ, List.getElem_toArray, List.getElem_cons_zero, List.getElem_cons_succ]
    refine wpAnyH_take (i := 7) (v := .int .i64 a) rfl (by kernel_rfl) (by kernel_rfl) (by kernel_rfl) (fun _ _ _ h => h) (Or.inl ⟨by rfl, ?_⟩) hHeld ?_
    · (intro wq hSw; (try dsimp only at hSw); go_simp)
    try simp only [Act.put, List.setIfInBounds_toArray, List.set_cons_zero, List.set_cons_succ, List.getElem_toArray, List.getElem_cons_zero, List.getElem_cons_succ]
    refine wpAnyH_take (i := 8) (v := .int .i64 b) rfl (by kernel_rfl) (by kernel_rfl) (by kernel_rfl) (fun _ _ _ h => h) (Or.inl ⟨by rfl, ?_⟩) hHeld ?_
    · (intro wq hSw; (try dsimp only at hSw); go_simp)
    try simp only [Act.put, List.setIfInBounds_toArray, List.set_cons_zero, List.set_cons_succ, List.getElem_toArray, List.getElem_cons_zero, List.getElem_cons_succ]
    refine wpAnyH_take (i := 9) (v := .bool true) rfl (by kernel_rfl) (by kernel_rfl) (by kernel_rfl) (fun _ _ _ h => h) (Or.inl ⟨by rfl, ?_⟩) hHeld ?_
    · (intro wq hSw; (try dsimp only at hSw); go_simp)
    try simp only [Act.put, List.setIfInBounds_toArray, List.set_cons_zero, List.set_cons_succ, List.getElem_toArray, List.getElem_cons_zero, List.getElem_cons_succ]
    refine wpAnyH_take (i := 10) (v := .bool true) rfl (by kernel_rfl) (by kernel_rfl) (by kernel_rfl) (fun _ _ _ h => h) (Or.inl ⟨by rfl, ?_⟩) hHeld ?_
    · (intro wq hSw; (try dsimp only at hSw); go_simp)
    try simp only [Act.put, List.setIfInBounds_toArray, List.set_cons_zero, List.set_cons_succ, List.getElem_toArray, List.getElem_cons_zero, List.getElem_cons_succ]
    refine wpAnyH_take (i := 11) (v := .bool true) rfl (by kernel_rfl) (by kernel_rfl) (by kernel_rfl) (fun _ _ _ h => h) (Or.inl ⟨by rfl, ?_⟩) hHeld ?_
    · (intro wq hSw; (try dsimp only at hSw); go_simp)
    try simp only [Act.put, List.setIfInBounds_toArray, List.set_cons_zero, List.set_cons_succ, List.getElem_toArray, List.getElem_cons_zero, List.getElem_cons_succ]
    refine wpAnyH_take (i := 12) (v := undef) rfl (by kernel_rfl) (by kernel_rfl) (by kernel_rfl) (fun _ _ _ h => h) (Or.inr ⟨by rfl, rfl⟩) hHeld ?_
    try simp only [Act.put, List.setIfInBounds_toArray, List.set_cons_zero, List.set_cons_succ, List.getElem_toArray, List.getElem_cons_zero, List.getElem_cons_succ]
    refine wpAnyH_take (i := 13) (v := undef) rfl (by kernel_rfl) (by kernel_rfl) (by kernel_rfl) (fun _ _ _ h => h) (Or.inr ⟨by rfl, rfl⟩) hHeld ?_
    try simp only [Act.put, List.setIfInBounds_toArray, List.set_cons_zero, List.set_cons_succ, List.getElem_toArray, List.getElem_cons_zero, List.getElem_cons_succ]
    refine wpAnyH_take (i := 15) (v := undef) rfl (by kernel_rfl) (by kernel_rfl) (by kernel_rfl) (fun _ _ _ h => h) (Or.inr ⟨by rfl, rfl⟩) hHeld ?_
    try simp only [Act.put, List.setIfInBounds_toArray, List.set_cons_zero, List.set_cons_succ, List.getElem_toArray, List.getElem_cons_zero, List.getElem_cons_succ]
    refine wpAnyH_take (i := 16) (v := undef) rfl (by kernel_rfl) (by kernel_rfl) (by kernel_rfl) (fun _ _ _ h => h) (Or.inr ⟨by rfl, rfl⟩) hHeld ?_
    try simp only [Act.put, List.setIfInBounds_toArray, List.set_cons_zero, List.set_cons_succ, List.getElem_toArray, List.getElem_cons_zero, List.getElem_cons_succ]
    refine wpAnyH_take (i := 14) (v := undef) rfl (by kernel_rfl) (by kernel_rfl) (by kernel_rfl) (fun _ _ _ h => h) (Or.inr ⟨by rfl, rfl⟩) hHeld ?_
    try simp only [Act.put, List.setIfInBounds_toArray, List.set_cons_zero, List.set_cons_succ, List.getElem_toArray, List.getElem_cons_zero, List.getElem_cons_succ]
    refine wpAnyH_take (i := 17) (v := undef) rfl (by kernel_rfl) (by kernel_rfl) (by kernel_rfl) (fun _ _ _ h => h) (Or.inr ⟨by rfl, rfl⟩) hHeld ?_
    try simp only [Act.put, List.setIfInBounds_toArray, List.set_cons_zero, List.set_cons_succ, List.getElem_toArray, List.getElem_cons_zero, List.getElem_cons_succ]
    refine wpAnyH_take (i := 18) (v := undef) rfl (by kernel_rfl) (by kernel_rfl) (by kernel_rfl) (fun _ _ _ h => h) (Or.inr ⟨by rfl, rfl⟩) hHeld ?_
    try simp only [Act.put, List.setIfInBounds_toArray, List.set_cons_zero, List.set_cons_succ, List.getElem_toArray, List.getElem_cons_zero, List.getElem_cons_succ]
    refine wpAnyH_take (i := 19) (v := .bool true) rfl (by kernel_rfl) (by kernel_rfl) (by kernel_rfl) (fun _ _ _ h => h) (Or.inl ⟨by rfl, ?_⟩) hHeld ?_
    · (intro wq hSw; (try dsimp only at hSw); go_simp)
    try simp only [Act.put, List.setIfInBounds_toArray, List.set_cons_zero, List.set_cons_succ, List.getElem_toArray, List.getElem_cons_zero, List.getElem_cons_succ]
    refine wpAnyH_done (by kernel_rfl) ?_ _
    refine NoPanic.normal ?_
    obtain ⟨r2, s2, hbw⟩ := FIN.out _ hb1
    have HBW := hideG hbw
    clear hbw
    gi_wp2_with fail
    refine ⟨.bool false, ?_, rfl, HBW.out.setCell (p := ⟨w.heap.size + 1 + 1, 0, none⟩) (by simp; omega) _⟩
    have hc5 := World.cell?_setCell_same' w' ⟨w.heap.size + 1 + 1, 0, none⟩ (.bool false) (by rw [r2]; rfl)
    simp [results, Try.f29, go_sem, hc5]
  · rw [hk] at HKN
    have HLB := hideG (HLA.out hk)
    have hxy' : ((topN T a.toNat : Int) != (topN T b.toNat : Int)) = true := by rw [ex, ey]; simpa using hxy
    clear HLA hxy
    generalize ha' : topN T a.toNat = ta' at *
    generalize hb' : topN T b.toNat = tb' at *
    have HA' := hideG ha'
    have HB' := hideG hb'
    clear ha' hb' ex ey x y
    refine callsIn_of_wp_marks Try.func29 rfl trivial ?_ rfl
    simp only [Try.ntmps29, List.size_toArray, List.length_cons, List.length_nil, Nat.reduceAdd, Nat.reduceSub, Array.replicate_succ, Array.replicate_zero, List.push_toArray, List.append_toArray, List.nil_append, List.cons_append]
    gi_wp2_with fail
    generalize (((w.alloc (.cells #[.int .i64 a] 3)).alloc (.cells #[.int .i64 b] 3)).alloc (.cells #[.bool false] 4)) = V at *
    refine wpIn_wide.2 ?_
    go_region_held3 (fun w' => Below V.heap.size V w' ∧ w'.cell? ⟨w.heap.size, 0, none⟩ = some (.int .i64 a) ∧ w'.cell? ⟨w.heap.size + 1, 0, none⟩ = some (.int .i64 b)) ((refine ⟨?_, ?_, ?_⟩ <;> first | assumption | exact below_drew' (Below.refl _ _) | exact below_drew' (by assumption) | exact below_drew' ((Below.refl _ _).alloc (Nat.le_refl _) _) | exact Below.alloc (by assumption) (Below.size (by assumption)) _ | exact cell_below (by assumption) q0 | exact cell_below (by assumption) q1 | exact cell_alloc_l _ (by assumption) | go_keep)) (first | (go_at_call 79; refine (HKN.out _ _ (below_drew' ((Below.refl _ _).alloc (Nat.le_refl _) _)) (ints_drew (ints_new2 _ _ _))).mono ?_; rintro e w' ⟨rfl, hb1⟩) | (go_at_call 81; refine (HLB.out _ _ ?_ ?_).mono ?_; (first | exact .inl rfl | exact .inr rfl); assumption; rintro e w' ⟨rfl, hb1⟩; (first | rw [HA'.out] | rw [HB'.out])))
    obtain ⟨r2, s2, hbw⟩ := FIN.out _ hb1
    have HBW := hideG hbw
    clear hbw
    gi_wp2_with fail
    refine ⟨.bool false, ?_, rfl, HBW.out.setCell (p := ⟨w.heap.size + 1 + 1, 0, none⟩) (by simp; omega) _⟩
    have hc5 := World.cell?_setCell_same' w' ⟨w.heap.size + 1 + 1, 0, none⟩ (.bool false) (by rw [r2]; rfl)
    simp [results, Try.f29, go_sem, hc5]

theorem orderBefore_any (T : List Nd) (hS : Sane T) (v : Value) (a b : Int) (w : World) (hT : TreeAt w v T) :
    Calls Try.prog 29 #[v, .int .i64 a, .int .i64 b] w fun e w' => e = .returned (.bool (beforeI T a b)) ∧ Below w.heap.size w w' := by
  obtain ⟨ta, tc, rfl⟩ := hT.shape
  cases hk : knownB T [a, b]
  · have : beforeI T a b = false := by rw [known_both] at hk; simp [beforeI, hk]
    rw [this]
    exact callsIn_wide.1 (before_no T hS ta tc a b (.inl hk) w hT)
  · obtain ⟨hm, ⟨x, rfl, hx⟩, y, rfl, hy⟩ := known_two hk
    have hbo := hk
    rw [known_both] at hbo
    have hbf : beforeI T (x : Int) (y : Int) = befN T x y := by simp [beforeI, hbo]
    rw [hbf]
    by_cases exy : x = y
    · have : befN T x y = false := by subst exy; simp [befN]
      rw [this]
      exact callsIn_wide.1 (before_no T hS ta tc x y (.inr ⟨hk, .inl (by simp [exy])⟩) w hT)
    · by_cases ht : topN T x = topN T y
      · obtain ⟨tb, to, tc', hv, _⟩ := hT.at (by omega)
        simp only [Value.slice.injEq, true_and] at hv
        obtain ⟨rfl, rfl⟩ := hv
        exact callsIn_wide.1 (before_in T hS tb to tc x y hk exy ht w hT)
      · have : befN T x y = false := by simp [befN, ht]
        rw [this]
        exact callsIn_wide.1 (before_no T hS ta tc x y (.inr ⟨hk, .inr ⟨by simp; omega, x, y, rfl, rfl, by simp; omega⟩⟩) w hT)
end Go.Proofs.Ytnbnijhdmnoelaa
