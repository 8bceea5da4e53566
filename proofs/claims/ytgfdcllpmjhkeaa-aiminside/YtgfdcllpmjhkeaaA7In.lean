/- AimInside, walked. -/
import Derived.Test.YtgfdcllpmjhkeaaA7Tell
import Derived.Test.YtgfdcllpmjhkeaaHid7
namespace Go.Proofs.Ytgfdcllpmjhkeaa
open Go.RowKit

theorem inside_in {T : List Nd} (hm : mayB T = true) {e : Ev} {tg : Nat} (he : e.target = (tg : Int)) (ht : tg < T.length) (hk3 : (nd T (topN T tg)).kind = 3) {k : Nat} (hk : k < (pathI T { e with comp := false }).length) :
    ∃ x : Nat, x < T.length ∧ ((pathI T { e with comp := false }).getD k stD).node = (x : Int) ∧ aboveS T (topN T tg : Int) (x : Int) = true := by
  have hp : pathI T { e with comp := false } = pathA T { e with comp := false } tg := by unfold pathI; simp only [he, known_of hm ht]; simp
  rw [hp] at hk ⊢
  have hmem : (pathA T { e with comp := false } tg).getD k stD ∈ pathA T { e with comp := false } tg := by rw [getD_atS hk]; exact List.getElem_mem hk
  obtain ⟨x, hx, hxu, hs, _⟩ := pathA_mem hm _ ht hmem
  rw [hs]
  refine ⟨x, hx, rfl, (above_iff hm hx).mpr (upA_inside hm hk3 ht (top_mem hm ht) x ?_)⟩
  simpa [he] using hxu
theorem inside_node {T : List Nd} (hm : mayB T = true) {e : Ev} {tg : Nat} (he : e.target = (tg : Int)) (ht : tg < T.length) {k : Nat} (hk : k < (pathI T { e with comp := false }).length) :
    ∃ x : Nat, x < T.length ∧ ((pathI T { e with comp := false }).getD k stD).node = (x : Int) ∧ True := by
  have hp : pathI T { e with comp := false } = pathA T { e with comp := false } tg := by unfold pathI; simp only [he, known_of hm ht]; simp
  rw [hp] at hk ⊢
  have hmem : (pathA T { e with comp := false } tg).getD k stD ∈ pathA T { e with comp := false } tg := by rw [getD_atS hk]; exact List.getElem_mem hk
  obtain ⟨x, hx, _, hs, _⟩ := pathA_mem hm _ ht hmem
  exact ⟨x, hx, by rw [hs]; rfl, trivial⟩
theorem inside_pre {T : List Nd} (hm : mayB T = true) {e : Ev} {tg : Nat} (he : e.target = (tg : Int)) (ht : tg < T.length) : pathI T { e with comp := false } <+: pathI T { e with comp := true } := by
  have hp : ∀ c, pathI T { e with comp := c } = pathA T { e with comp := c } tg := fun c => by unfold pathI; simp only [he, known_of hm ht]; simp
  rw [hp, hp]; exact pathA_prefix hm e ht
theorem inside_eq {T : List Nd} (hm : mayB T = true) {e : Ev} {tg : Nat} (he : e.target = (tg : Int)) (ht : tg < T.length) (hk : ((nd T (topN T tg)).kind == 3) = false) : (pathI T { e with comp := true }).length = (pathI T { e with comp := false }).length := by
  have hp : ∀ c, pathI T { e with comp := c } = pathA T { e with comp := c } tg := fun c => by unfold pathI; simp only [he, known_of hm ht]; simp
  rw [hp, hp, pathA_plain (e := e) (by rw [he]; simpa using hk)]
theorem prefix_getD {p q : List St} (h : p <+: q) {k : Nat} (hk : k < p.length) : q.getD k stD = p.getD k stD := by
  obtain ⟨r, rfl⟩ := h
  rw [List.getD_eq_getElem?_getD, List.getD_eq_getElem?_getD, List.getElem?_append_left hk]

set_option maxRecDepth 100000 in
set_option maxHeartbeats 8000000 in
theorem aimInside_walk (T : List Nd) (v : Value) (e : Ev) (w : World) (hT : TreeAt w v T) :
    Calls Try.prog 7 #[v, .agg #[.int .i64 e.type, .int .i64 e.target, .int .i64 e.related, .bool e.bub, .bool e.can, .bool e.comp]] w fun x w' => x = .returned (.bool true) ∧ Below w.heap.size w w' := by
  have HTT := hideG hT
  obtain ⟨ta, tc, rfl⟩ := hT.shape
  obtain ⟨W0, hW0⟩ : ∃ W0, w.alloc (.cells #[.int .i64 e.type, .int .i64 e.target, .int .i64 e.related, .bool e.bub, .bool e.can, .bool e.comp] 25) = W0 := ⟨_, rfl⟩
  have HB0 := hideG (show Below w.heap.size w W0 by rw [← hW0]; exact (Below.refl _ w).alloc (Nat.le_refl _) _)
  have HX0 := hideG (Below.refl W0.heap.size W0)
  have P0 := hideG (show W0.cell? ⟨w.heap.size, 0, none⟩ = some (.int .i64 e.type) by rw [← hW0]; simp)
  have P1 := hideG (show W0.cell? ⟨w.heap.size, 1, none⟩ = some (.int .i64 e.target) by rw [← hW0]; simp)
  have P2 := hideG (show W0.cell? ⟨w.heap.size, 2, none⟩ = some (.int .i64 e.related) by rw [← hW0]; simp)
  have P3 := hideG (show W0.cell? ⟨w.heap.size, 3, none⟩ = some (.bool e.bub) by rw [← hW0]; simp)
  have P4 := hideG (show W0.cell? ⟨w.heap.size, 4, none⟩ = some (.bool e.can) by rw [← hW0]; simp)
  have P5 := hideG (show W0.cell? ⟨w.heap.size, 5, none⟩ = some (.bool e.comp) by rw [← hW0]; simp)
  have HT0 := hideG (hT.below HB0.out)
  have HW0 := hideG hW0
  clear hW0 hT
  cases hs : fewB T
  · go_enter Try.func7, Try.ntmps7
    go_wp2_with fail
    rw [HW0.out]
    refine (refFew_any T _ _ HT0.out).mono ?_
    rintro ex wz ⟨rfl, hwz⟩
    subst hwz
    go_wp2_with fail
    refine (live7_any _).mono ?_
    rintro ex w1 ⟨rfl, hb1⟩
    have HB1 := hideG (HB0.out.trans (hb1.mono HB0.out.size))
    clear hb1
    go_wp2_with fail
    go_ret
    exact ⟨rfl, HB1.out⟩
  · have HS := hideG (small_sane (few_small hs))
    have h6 := few_len hs
    cases hb : bothB T e.target e.target
    · have EB := hideG hb
      clear hb
      go_enter Try.func7, Try.ntmps7
      go_wp2_with fail
      rw [HW0.out]
      refine (refFew_any T _ _ HT0.out).mono ?_
      rintro ex wz ⟨rfl, hwz⟩
      subst hwz
      have p1x0 := cell_below HX0.out P1.out
      go_wp2_with fail
      refine (refBoth_any T HS.out _ _ _ _ HT0.out).mono ?_
      rintro ex w1 ⟨rfl, hb1⟩
      rw [EB.out]
      clear p1x0
      have HT1 := hideG (HT0.out.below hb1)
      have HB1 := hideG (HB0.out.trans (hb1.mono HB0.out.size))
      have HX1 := hideG (HX0.out.trans (hb1.mono HX0.out.size))
      clear hb1
      go_wp2_with fail
      refine (live7_any _).mono ?_
      rintro ex w2 ⟨rfl, hb2⟩
      have HB2 := hideG (HB1.out.trans (hb2.mono HB1.out.size))
      clear hb2
      go_wp2_with fail
      go_ret
      exact ⟨rfl, HB2.out⟩
    · obtain ⟨hm, ⟨tg, htg, htl⟩, _⟩ := both_true hb
      have EB := hideG hb
      have HM := hideG hm
      have HTG := hideG htg
      have HPL := hideG (pathI_le (T := T) { e with comp := false })
      have HQL := hideG (pathI_le (T := T) { e with comp := true })
      have hpre := inside_pre hm htg htl
      have HLE := hideG hpre.length_le
      have HPQ := hideG (fun k (hk : k < (pathI T { e with comp := false }).length) => prefix_getD hpre hk)
      have htt := top_lt hm htl
      obtain ⟨tb, to, tc', htv, hct⟩ := HTT.out.at (by omega)
      simp only [Value.slice.injEq, true_and] at htv
      obtain ⟨rfl, rfl⟩ := htv
      obtain ⟨kv, av, hN⟩ := hct _ htt
      have G0 := hideG hN.kind
      have ht0 : (0 : Int) ≤ (topN T tg : Int) := by omega
      have htn : (topN T tg : Int) < (T.length : Int) := by omega
      clear hct hN hpre
      cases hk3 : ((nd T (topN T tg)).kind == 3)
      · have HAT := hideG (fun k (hk : k < (pathI T { e with comp := false }).length) => inside_node hm htg htl hk)
        have HEQ := hideG (inside_eq hm htg htl hk3)
        clear hb hm htg
        go_enter Try.func7, Try.ntmps7
        go_wp2_with fail
        rw [HW0.out]
        refine (refFew_any T _ _ HT0.out).mono ?_
        rintro ex wz ⟨rfl, hwz⟩
        subst hwz
        have p0x0 := cell_below HX0.out P0.out
        have p1x0 := cell_below HX0.out P1.out
        have p2x0 := cell_below HX0.out P2.out
        have p3x0 := cell_below HX0.out P3.out
        have p4x0 := cell_below HX0.out P4.out
        have p5x0 := cell_below HX0.out P5.out
        go_wp2_with fail
        refine (refBoth_any T HS.out _ _ _ _ HT0.out).mono ?_
        rintro ex w1 ⟨rfl, hb1⟩
        rw [EB.out]
        clear p0x0 p1x0 p2x0 p3x0 p4x0 p5x0
        have HT1 := hideG (HT0.out.below hb1)
        have HB1 := hideG (HB0.out.trans (hb1.mono HB0.out.size))
        have HX1 := hideG (HX0.out.trans (hb1.mono HX0.out.size))
        clear hb1
        have p0x1 := cell_below HX1.out P0.out
        have p1x1 := cell_below HX1.out P1.out
        have p2x1 := cell_below HX1.out P2.out
        have p3x1 := cell_below HX1.out P3.out
        have p4x1 := cell_below HX1.out P4.out
        have p5x1 := cell_below HX1.out P5.out
        have hlw : w.heap.size < w1.heap.size := below_of_cell p0x1
        obtain ⟨V, hV⟩ : ∃ V, w1.alloc (.cells #[.int .i64 e.type, .int .i64 e.target, .int .i64 e.related, .bool e.bub, .bool e.can, .bool false] 25) = V := ⟨_, rfl⟩
        have HBa := hideG (show Below w1.heap.size w1 V by rw [← hV]; exact (Below.refl _ w1).alloc (Nat.le_refl _) _)
        have HVs := hideG (show V.heap.size = w1.heap.size + 1 by rw [← hV]; simp)
        have Q0 := hideG (show V.cell? ⟨w1.heap.size, 0, none⟩ = some (.int .i64 e.type) by rw [← hV]; simp)
        have Q1 := hideG (show V.cell? ⟨w1.heap.size, 1, none⟩ = some (.int .i64 e.target) by rw [← hV]; simp)
        have Q2 := hideG (show V.cell? ⟨w1.heap.size, 2, none⟩ = some (.int .i64 e.related) by rw [← hV]; simp)
        have Q3 := hideG (show V.cell? ⟨w1.heap.size, 3, none⟩ = some (.bool e.bub) by rw [← hV]; simp)
        have Q4 := hideG (show V.cell? ⟨w1.heap.size, 4, none⟩ = some (.bool e.can) by rw [← hV]; simp)
        have Q5 := hideG (show V.cell? ⟨w1.heap.size, 5, none⟩ = some (.bool false) by rw [← hV]; simp)
        have FZ := hideG (show V.frozen? ⟨w1.heap.size, 5, none⟩ = false by rw [← hV]; simp)
        have HV := hideG hV
        clear hV
        go_wp2_with fail
        rw [HV.out]
        refine (path_any T HS.out _ { e with comp := false } _ (HT1.out.below HBa.out) h6).mono ?_
        rintro ex w2 ⟨a2, c2, rfl, ho2, hb2'⟩
        generalize hpp : pathI T { e with comp := false } = p at *
        clear hpp
        have hb2 := HBa.out.trans (hb2'.mono HBa.out.size)
        have HV2 := hideG hb2'
        have HO2 := hideG ho2
        clear hb2' ho2
        clear p0x1 p1x1 p2x1 p3x1 p4x1 p5x1
        have HD2 := hideG hb2
        have HT2 := hideG (HT1.out.below hb2)
        have HB2 := hideG (HB1.out.trans (hb2.mono HB1.out.size))
        have HX2 := hideG (HX1.out.trans (hb2.mono HX1.out.size))
        clear hb2
        have p1x2 := cell_below HX2.out P1.out
        go_wp2_with fail
        rw [HTG.out]
        refine (refTop3_any T HM.out _ tg htl _ HT2.out).mono ?_
        rintro ex w3 ⟨rfl, hb3⟩
        have HV3 := hideG (HV2.out.trans (hb3.mono HV2.out.size))
        have HD3 := hideG (HD2.out.trans (hb3.mono HD2.out.size))
        have HO3 := hideG (ownsRow_below HO2.out hb3 (fun j e => (HO2.out.lt j e).2))
        clear p1x2
        have HT3 := hideG (HT2.out.below hb3)
        have HB3 := hideG (HB2.out.trans (hb3.mono HB2.out.size))
        have HX3 := hideG (HX2.out.trans (hb3.mono HX2.out.size))
        clear hb3
        have HA3 := hideG (ownsRow_stCells HO3.out)
        have hpl : p.length ≤ 64 := HPL.out
        go_wp2_with fail
        go_loopw [8] (fun i wr => ∃ k : Nat, k ≤ p.length ∧ i = .int .i64 (k : Int) ∧ Below w3.heap.size w3 wr) (fun i _ => p.length - (intOf i).toNat)
        case atStart => exact ⟨0, Nat.zero_le _, rfl, Below.refl _ _⟩
        case round =>
          obtain ⟨k, hk, rfl, hBk⟩ := hrel
          have HBk := hideG hBk
          clear hBk
          have g0 := cell_below (HB3.out.trans (HBk.out.mono HB3.out.size)) G0.out
          by_cases hlt : k < p.length
          · obtain ⟨a1b, a1c, a1e, a1d⟩ := HA3.out
            injection a1e with q1 q2 q3
            subst q1
            subst q3
            clear q2
            obtain ⟨b1, o1, rfl, a1x⟩ := a1d.2 (by omega)
            obtain ⟨x, hxl, hpx, hab⟩ := HAT.out k hlt
            have HAB := hideG hab
            have h1 := (a1x k hlt).below HBk.out
            have c0 := h1.node
            rw [hpx] at c0
            have hk0 : (0 : Int) ≤ (k : Int) := by omega
            have hk1 : (k : Int) < (p.length : Int) := by omega
            clear a1d a1x h1 hab hpx
            go_wp2_with fail
            go_roundw
            case rel => exact ⟨k + 1, by omega, by go_num, HBk.out⟩
            case measure => simp [intOf]; omega
          · have HBr := hideG (HB3.out.trans (HBk.out.mono HB3.out.size))
            have HVr := hideG (HV3.out.trans (HBk.out.mono HV3.out.size))
            have HDr := hideG (HD3.out.trans (HBk.out.mono HD3.out.size))
            have HOr := hideG (ownsRow_below HO3.out HBk.out (fun j e => (HO3.out.lt j e).2))
            have q0 := cell_below HVr.out Q0.out
            have q1 := cell_below HVr.out Q1.out
            have q2 := cell_below HVr.out Q2.out
            have q3 := cell_below HVr.out Q3.out
            have q4 := cell_below HVr.out Q4.out
            have q5 := cell_below HVr.out Q5.out
            have fz := frozen_below HVr.out Q5.out FZ.out
            have HDs := hideG (HDr.out.setCell (p := ⟨w1.heap.size, 5, none⟩) (by simp) (.bool true))
            have hos := ownsRow_kept_set (g := w1.heap.size) (j := 5) (u := .bool true) HOr.out (fun e => by have := (HOr.out.lt _ e).1; have h7 := HVs.out; omega)
            have HOs := hideG hos
            clear g0 hos
            go_wp2_with fail
            refine (path_any T HS.out _ { e with comp := true } _ (HT1.out.below HDs.out) h6).mono ?_
            rintro ex w4 ⟨a4, c4, rfl, ho4, hb4⟩
            generalize hqq : pathI T { e with comp := true } = q at *
            clear hqq q0 q1 q2 q3 q4 q5 fz
            have HC4 := hideG (ownsRow_stCells ho4)
            have HA4 := hideG ((ownsRow_stCells HOs.out).below hb4)
            have HB4 := hideG (HB1.out.trans ((HDs.out.trans (hb4.mono HDs.out.size)).mono HB1.out.size))
            clear ho4 hb4
            have hqle : p.length ≤ q.length := HLE.out
            have hql : q.length ≤ 64 := HQL.out
            have hql3 : decide ((q.length : Int) < (p.length : Int)) = false := by simp; omega
            go_wp2_with fail
            go_loopw [10] (fun i wr2 => ∃ k : Nat, k ≤ p.length ∧ i = .int .i64 (k : Int) ∧ Below w4.heap.size w4 wr2) (fun i _ => p.length - (intOf i).toNat)
            case atStart => exact ⟨0, Nat.zero_le _, rfl, Below.refl _ _⟩
            case round =>
              obtain ⟨k, hk, rfl, hBk⟩ := hrel
              have HBm := hideG hBk
              clear hBk
              by_cases hlt : k < p.length
              · obtain ⟨a1b, a1c, a1e, a1d⟩ := HA4.out
                injection a1e with q1 q2 q3
                subst q1
                subst q3
                clear q2
                obtain ⟨b1, o1, rfl, a1x⟩ := a1d.2 (by omega)
                obtain ⟨a2b, a2c, a2e, a2d⟩ := HC4.out
                injection a2e with q1 q2 q3
                subst q1
                subst q3
                clear q2
                obtain ⟨b2, o2, rfl, a2x⟩ := a2d.2 (by omega)
                have h1 := (a1x k hlt).below HBm.out
                have h2 := (a2x k (by omega)).below HBm.out
                rw [HPQ.out k hlt] at h2
                clear a1d a1x a2d a2x
                generalize p.getD k stD = x at *
                have c0 := h1.node
                have c1 := h1.tg
                have c2 := h1.rel
                have d0 := h2.node
                have d1 := h2.tg
                have d2 := h2.rel
                have hk0 : (0 : Int) ≤ (k : Int) := by omega
                have hk1 : (k : Int) < (p.length : Int) := by omega
                have hk2 : (k : Int) < (q.length : Int) := by omega
                have he := fun wx => st_neq x.node x.tg x.rel wx
                clear h1 h2
                go_wp2_with fail
                go_region
                go_wp2_with fail
                go_roundw
                case rel => exact ⟨k + 1, by omega, by go_num, below_drew' HBm.out⟩
                case measure => simp [intOf]; omega
              · have HBy := hideG (HB4.out.trans (HBm.out.mono HB4.out.size))
                have g0' := cell_below HBy.out G0.out
                have hle : ((q.length : Int) == (p.length : Int)) = true := by rw [HEQ.out]; simp
                go_wp2_with fail
                refine (live7_any _).mono ?_
                rintro ex w6 ⟨rfl, hb6⟩
                have HB6 := hideG (HBy.out.trans (hb6.mono HBy.out.size))
                clear hb6
                go_wp2_with fail
                go_ret
                exact ⟨rfl, HB6.out⟩
      · have HAT := hideG (fun k (hk : k < (pathI T { e with comp := false }).length) => inside_in hm htg htl (by simpa using hk3) hk)
        clear hb hm htg
        go_enter Try.func7, Try.ntmps7
        go_wp2_with fail
        rw [HW0.out]
        refine (refFew_any T _ _ HT0.out).mono ?_
        rintro ex wz ⟨rfl, hwz⟩
        subst hwz
        have p0x0 := cell_below HX0.out P0.out
        have p1x0 := cell_below HX0.out P1.out
        have p2x0 := cell_below HX0.out P2.out
        have p3x0 := cell_below HX0.out P3.out
        have p4x0 := cell_below HX0.out P4.out
        have p5x0 := cell_below HX0.out P5.out
        go_wp2_with fail
        refine (refBoth_any T HS.out _ _ _ _ HT0.out).mono ?_
        rintro ex w1 ⟨rfl, hb1⟩
        rw [EB.out]
        clear p0x0 p1x0 p2x0 p3x0 p4x0 p5x0
        have HT1 := hideG (HT0.out.below hb1)
        have HB1 := hideG (HB0.out.trans (hb1.mono HB0.out.size))
        have HX1 := hideG (HX0.out.trans (hb1.mono HX0.out.size))
        clear hb1
        have p0x1 := cell_below HX1.out P0.out
        have p1x1 := cell_below HX1.out P1.out
        have p2x1 := cell_below HX1.out P2.out
        have p3x1 := cell_below HX1.out P3.out
        have p4x1 := cell_below HX1.out P4.out
        have p5x1 := cell_below HX1.out P5.out
        have hlw : w.heap.size < w1.heap.size := below_of_cell p0x1
        obtain ⟨V, hV⟩ : ∃ V, w1.alloc (.cells #[.int .i64 e.type, .int .i64 e.target, .int .i64 e.related, .bool e.bub, .bool e.can, .bool false] 25) = V := ⟨_, rfl⟩
        have HBa := hideG (show Below w1.heap.size w1 V by rw [← hV]; exact (Below.refl _ w1).alloc (Nat.le_refl _) _)
        have HVs := hideG (show V.heap.size = w1.heap.size + 1 by rw [← hV]; simp)
        have Q0 := hideG (show V.cell? ⟨w1.heap.size, 0, none⟩ = some (.int .i64 e.type) by rw [← hV]; simp)
        have Q1 := hideG (show V.cell? ⟨w1.heap.size, 1, none⟩ = some (.int .i64 e.target) by rw [← hV]; simp)
        have Q2 := hideG (show V.cell? ⟨w1.heap.size, 2, none⟩ = some (.int .i64 e.related) by rw [← hV]; simp)
        have Q3 := hideG (show V.cell? ⟨w1.heap.size, 3, none⟩ = some (.bool e.bub) by rw [← hV]; simp)
        have Q4 := hideG (show V.cell? ⟨w1.heap.size, 4, none⟩ = some (.bool e.can) by rw [← hV]; simp)
        have Q5 := hideG (show V.cell? ⟨w1.heap.size, 5, none⟩ = some (.bool false) by rw [← hV]; simp)
        have FZ := hideG (show V.frozen? ⟨w1.heap.size, 5, none⟩ = false by rw [← hV]; simp)
        have HV := hideG hV
        clear hV
        go_wp2_with fail
        rw [HV.out]
        refine (path_any T HS.out _ { e with comp := false } _ (HT1.out.below HBa.out) h6).mono ?_
        rintro ex w2 ⟨a2, c2, rfl, ho2, hb2'⟩
        generalize hpp : pathI T { e with comp := false } = p at *
        clear hpp
        have hb2 := HBa.out.trans (hb2'.mono HBa.out.size)
        have HV2 := hideG hb2'
        have HO2 := hideG ho2
        clear hb2' ho2
        clear p0x1 p1x1 p2x1 p3x1 p4x1 p5x1
        have HD2 := hideG hb2
        have HT2 := hideG (HT1.out.below hb2)
        have HB2 := hideG (HB1.out.trans (hb2.mono HB1.out.size))
        have HX2 := hideG (HX1.out.trans (hb2.mono HX1.out.size))
        clear hb2
        have p1x2 := cell_below HX2.out P1.out
        go_wp2_with fail
        rw [HTG.out]
        refine (refTop3_any T HM.out _ tg htl _ HT2.out).mono ?_
        rintro ex w3 ⟨rfl, hb3⟩
        have HV3 := hideG (HV2.out.trans (hb3.mono HV2.out.size))
        have HD3 := hideG (HD2.out.trans (hb3.mono HD2.out.size))
        have HO3 := hideG (ownsRow_below HO2.out hb3 (fun j e => (HO2.out.lt j e).2))
        clear p1x2
        have HT3 := hideG (HT2.out.below hb3)
        have HB3 := hideG (HB2.out.trans (hb3.mono HB2.out.size))
        have HX3 := hideG (HX2.out.trans (hb3.mono HX2.out.size))
        clear hb3
        have HA3 := hideG (ownsRow_stCells HO3.out)
        have hpl : p.length ≤ 64 := HPL.out
        go_wp2_with fail
        go_loopw [8] (fun i wr => ∃ k : Nat, k ≤ p.length ∧ i = .int .i64 (k : Int) ∧ Below w3.heap.size w3 wr) (fun i _ => p.length - (intOf i).toNat)
        case atStart => exact ⟨0, Nat.zero_le _, rfl, Below.refl _ _⟩
        case round =>
          obtain ⟨k, hk, rfl, hBk⟩ := hrel
          have HBk := hideG hBk
          clear hBk
          have g0 := cell_below (HB3.out.trans (HBk.out.mono HB3.out.size)) G0.out
          by_cases hlt : k < p.length
          · obtain ⟨a1b, a1c, a1e, a1d⟩ := HA3.out
            injection a1e with q1 q2 q3
            subst q1
            subst q3
            clear q2
            obtain ⟨b1, o1, rfl, a1x⟩ := a1d.2 (by omega)
            obtain ⟨x, hxl, hpx, hab⟩ := HAT.out k hlt
            have HAB := hideG hab
            have h1 := (a1x k hlt).below HBk.out
            have c0 := h1.node
            rw [hpx] at c0
            have hk0 : (0 : Int) ≤ (k : Int) := by omega
            have hk1 : (k : Int) < (p.length : Int) := by omega
            clear a1d a1x h1 hab hpx
            go_wp2_with fail
            refine (refAbove4_any T HM.out _ (topN T tg : Int) x hxl _ (HT3.out.below HBk.out)).mono ?_
            rintro ex w9 ⟨rfl, hb9⟩
            rw [HAB.out]
            have HB9 := hideG (HBk.out.trans (hb9.mono HBk.out.size))
            clear hb9 g0 c0
            go_wp2_with fail
            go_roundw
            case rel => exact ⟨k + 1, by omega, by go_num, HB9.out⟩
            case measure => simp [intOf]; omega
          · have HBr := hideG (HB3.out.trans (HBk.out.mono HB3.out.size))
            have HVr := hideG (HV3.out.trans (HBk.out.mono HV3.out.size))
            have HDr := hideG (HD3.out.trans (HBk.out.mono HD3.out.size))
            have HOr := hideG (ownsRow_below HO3.out HBk.out (fun j e => (HO3.out.lt j e).2))
            have q0 := cell_below HVr.out Q0.out
            have q1 := cell_below HVr.out Q1.out
            have q2 := cell_below HVr.out Q2.out
            have q3 := cell_below HVr.out Q3.out
            have q4 := cell_below HVr.out Q4.out
            have q5 := cell_below HVr.out Q5.out
            have fz := frozen_below HVr.out Q5.out FZ.out
            have HDs := hideG (HDr.out.setCell (p := ⟨w1.heap.size, 5, none⟩) (by simp) (.bool true))
            have hos := ownsRow_kept_set (g := w1.heap.size) (j := 5) (u := .bool true) HOr.out (fun e => by have := (HOr.out.lt _ e).1; have h7 := HVs.out; omega)
            have HOs := hideG hos
            clear g0 hos
            go_wp2_with fail
            refine (path_any T HS.out _ { e with comp := true } _ (HT1.out.below HDs.out) h6).mono ?_
            rintro ex w4 ⟨a4, c4, rfl, ho4, hb4⟩
            generalize hqq : pathI T { e with comp := true } = q at *
            clear hqq q0 q1 q2 q3 q4 q5 fz
            have HC4 := hideG (ownsRow_stCells ho4)
            have HA4 := hideG ((ownsRow_stCells HOs.out).below hb4)
            have HB4 := hideG (HB1.out.trans ((HDs.out.trans (hb4.mono HDs.out.size)).mono HB1.out.size))
            clear ho4 hb4
            have hqle : p.length ≤ q.length := HLE.out
            have hql : q.length ≤ 64 := HQL.out
            have hql3 : decide ((q.length : Int) < (p.length : Int)) = false := by simp; omega
            go_wp2_with fail
            go_loopw [10] (fun i wr2 => ∃ k : Nat, k ≤ p.length ∧ i = .int .i64 (k : Int) ∧ Below w4.heap.size w4 wr2) (fun i _ => p.length - (intOf i).toNat)
            case atStart => exact ⟨0, Nat.zero_le _, rfl, Below.refl _ _⟩
            case round =>
              obtain ⟨k, hk, rfl, hBk⟩ := hrel
              have HBm := hideG hBk
              clear hBk
              by_cases hlt : k < p.length
              · obtain ⟨a1b, a1c, a1e, a1d⟩ := HA4.out
                injection a1e with q1 q2 q3
                subst q1
                subst q3
                clear q2
                obtain ⟨b1, o1, rfl, a1x⟩ := a1d.2 (by omega)
                obtain ⟨a2b, a2c, a2e, a2d⟩ := HC4.out
                injection a2e with q1 q2 q3
                subst q1
                subst q3
                clear q2
                obtain ⟨b2, o2, rfl, a2x⟩ := a2d.2 (by omega)
                have h1 := (a1x k hlt).below HBm.out
                have h2 := (a2x k (by omega)).below HBm.out
                rw [HPQ.out k hlt] at h2
                clear a1d a1x a2d a2x
                generalize p.getD k stD = x at *
                have c0 := h1.node
                have c1 := h1.tg
                have c2 := h1.rel
                have d0 := h2.node
                have d1 := h2.tg
                have d2 := h2.rel
                have hk0 : (0 : Int) ≤ (k : Int) := by omega
                have hk1 : (k : Int) < (p.length : Int) := by omega
                have hk2 : (k : Int) < (q.length : Int) := by omega
                have he := fun wx => st_neq x.node x.tg x.rel wx
                clear h1 h2
                go_wp2_with fail
                go_region
                go_wp2_with fail
                go_roundw
                case rel => exact ⟨k + 1, by omega, by go_num, below_drew' HBm.out⟩
                case measure => simp [intOf]; omega
              · have HBy := hideG (HB4.out.trans (HBm.out.mono HB4.out.size))
                have g0' := cell_below HBy.out G0.out
                go_wp2_with fail
                refine (live7_any _).mono ?_
                rintro ex w6 ⟨rfl, hb6⟩
                have HB6 := hideG (HBy.out.trans (hb6.mono HBy.out.size))
                clear hb6
                go_wp2_with fail
                go_ret
                exact ⟨rfl, HB6.out⟩
end Go.Proofs.Ytgfdcllpmjhkeaa
