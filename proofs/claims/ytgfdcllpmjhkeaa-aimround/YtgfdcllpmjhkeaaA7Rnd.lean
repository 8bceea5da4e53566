/- AimRound, walked. -/
import Derived.Test.YtgfdcllpmjhkeaaA7Tell
import Derived.Test.YtgfdcllpmjhkeaaHid7
namespace Go.Proofs.Ytgfdcllpmjhkeaa
open Go.RowKit

theorem getD_atV {l : List Vi} {k : Nat} (h : k < l.length) : l.getD k viD = l[k] := by rw [List.getD_eq_getElem?_getD, List.getElem?_eq_getElem h]; rfl
theorem round_len (p : List St) : (visitsL p true).length = 2 * p.length := by rw [visitsL_bub]; simp; omega
theorem round_down (p : List St) {k : Nat} (h : k < p.length) : (visitsL p true).getD k viD = vis true (p.getD (p.length - 1 - k) stD) := by
  rw [getD_atV (by rw [round_len]; omega), getD_atS (by omega)]
  simp only [visitsL_bub]
  rw [List.getElem_append_left (by simpa using h)]
  simp
theorem round_up (p : List St) {k : Nat} (h : k < p.length) : (visitsL p true).getD (p.length + k) viD = vis false (p.getD k stD) := by
  rw [getD_atV (by rw [round_len]; omega), getD_atS h]
  simp only [visitsL_bub]
  rw [List.getElem_append_right (by simp)]
  simp
theorem still_len (p : List St) : p.length ≤ (visitsL p false).length ∧ (visitsL p false).length ≤ 2 * p.length := by
  refine ⟨?_, visitsL_le p false⟩
  unfold visitsL; simp
theorem still_down (p : List St) {k : Nat} (h : k < p.length) : (visitsL p false).getD k viD = (visitsL p true).getD k viD := by
  have h1 := still_len p
  rw [getD_atV (by omega), getD_atV (by rw [round_len]; omega)]
  unfold visitsL
  rw [List.getElem_append_left (by simpa using h), List.getElem_append_left (by simpa using h)]
theorem still_up (p : List St) {k : Nat} (h : p.length ≤ k) (hk : k < (visitsL p false).length) : ((visitsL p false).getD k viD).phase = 2 ∧ ((visitsL p false).getD k viD).cap = false := by
  rw [getD_atV hk]
  have hm : (visitsL p false)[k] ∈ (p.map (vis false)).filter (backP false) := by
    have e1 : (visitsL p false)[k]? = ((p.map (vis false)).filter (backP false))[k - (p.reverse.map (vis true)).length]? := by
      unfold visitsL
      rw [List.getElem?_append_right (by simpa using h)]
    rw [List.getElem?_eq_getElem hk] at e1
    exact List.mem_of_getElem? e1.symm
  obtain ⟨h1, h2⟩ := List.mem_filter.mp hm
  obtain ⟨x, _, hx⟩ := List.mem_map.mp h1
  refine ⟨by simpa [backP] using h2, ?_⟩
  rw [← hx]; rfl

set_option maxRecDepth 100000 in
set_option maxHeartbeats 8000000 in
theorem aimRound_walk (T : List Nd) (v : Value) (e : Ev) (w : World) (hT : TreeAt w v T) :
    Calls Try.prog 6 #[v, .agg #[.int .i64 e.type, .int .i64 e.target, .int .i64 e.related, .bool e.bub, .bool e.can, .bool e.comp]] w fun x w' => x = .returned (.bool true) ∧ Below w.heap.size w w' := by
  obtain ⟨ta, tc, rfl⟩ := hT.shape
  obtain ⟨W0, hW0⟩ : ∃ W0, w.alloc (.cells #[.int .i64 e.type, .int .i64 e.target, .int .i64 e.related, .bool e.bub, .bool e.can, .bool e.comp] 25) = W0 := ⟨_, rfl⟩
  have HB0 := hideG (show Below w.heap.size w W0 by rw [← hW0]; exact (Below.refl _ w).alloc (Nat.le_refl _) _)
  have HX0 := hideG (Below.refl W0.heap.size W0)
  have P0 := hideG (show W0.cell? ⟨w.heap.size, 0, none⟩ = some (.int .i64 e.type) by rw [← hW0]; simp)
  have P1 := hideG (show W0.cell? ⟨w.heap.size, 1, none⟩ = some (.int .i64 e.target) by rw [← hW0]; simp)
  have P2 := hideG (show W0.cell? ⟨w.heap.size, 2, none⟩ = some (.int .i64 e.related) by rw [← hW0]; simp)
  have P3 := hideG (show W0.cell? ⟨w.heap.size, 3, none⟩ = some (.bool e.bub) by rw [← hW0]; simp)
  have P4 := hideG (show W0.cell? ⟨w.heap.size, 4, none⟩ = some (.bool e.can) by rw [← hW0]; simp)
  have P5 := hideG (show W0.cell? ⟨w.heap.size, 5, none⟩ = some (.bool e.comp) by rw [← hW0]; simp)
  have HT0 := hideG (hT.below HB0.out)
  have HW0 := hideG hW0
  clear hW0 hT
  cases hs : fewB T
  · go_enter Try.func6, Try.ntmps6
    go_wp2_with fail
    rw [HW0.out]
    refine (refFew_any T _ _ HT0.out).mono ?_
    rintro ex wz ⟨rfl, hwz⟩
    obtain rfl : _ = wz := hwz.symm
    go_wp2_with fail
    refine (live7_any _).mono ?_
    rintro ex w1 ⟨rfl, hb1⟩
    have HB1 := hideG (HB0.out.trans (hb1.mono HB0.out.size))
    clear hb1
    go_wp2_with fail
    go_ret
    exact ⟨rfl, HB1.out⟩
  · have HS := hideG (small_sane (few_small hs))
    have h6 := few_len hs
    have HPL := hideG (pathI_le (T := T) e)
    have HP0 := hideG (show pathI T { e with bub := true } = pathI T e from rfl)
    have HW0v := hideG (show visitsI T { e with bub := true } = visitsL (pathI T e) true from rfl)
    have HW3 := hideG (show visitsI T { e with bub := false } = visitsL (pathI T e) false from rfl)
    have HVL := hideG (round_len (pathI T e))
    have HV1 := hideG (fun k (hk : k < (pathI T e).length) => round_down (pathI T e) hk)
    have HV2 := hideG (fun k (hk : k < (pathI T e).length) => round_up (pathI T e) hk)
    have HW1 := hideG (fun k (hk : k < (pathI T e).length) => still_down (pathI T e) hk)
    have HW2 := hideG (fun k (h : (pathI T e).length ≤ k) (hk : k < (visitsL (pathI T e) false).length) => still_up (pathI T e) h hk)
    have HWL := hideG (still_len (pathI T e)).1
    have HWL2 := hideG (still_len (pathI T e)).2
    go_enter Try.func6, Try.ntmps6
    go_wp2_with fail
    rw [HW0.out]
    refine (refFew_any T _ _ HT0.out).mono ?_
    rintro ex wz ⟨rfl, hwz⟩
    obtain rfl : _ = wz := hwz.symm
    have p0x0 := cell_below HX0.out P0.out
    have p1x0 := cell_below HX0.out P1.out
    have p2x0 := cell_below HX0.out P2.out
    have p3x0 := cell_below HX0.out P3.out
    have p4x0 := cell_below HX0.out P4.out
    have p5x0 := cell_below HX0.out P5.out
    obtain ⟨V, hV⟩ : ∃ V, W0.alloc (.cells #[.int .i64 e.type, .int .i64 e.target, .int .i64 e.related, .bool true, .bool e.can, .bool e.comp] 25) = V := ⟨_, rfl⟩
    have HBa := hideG (show Below W0.heap.size W0 V by rw [← hV]; exact (Below.refl _ W0).alloc (Nat.le_refl _) _)
    have HVs := hideG (show V.heap.size = W0.heap.size + 1 by rw [← hV]; simp)
    have Q0 := hideG (show V.cell? ⟨W0.heap.size, 0, none⟩ = some (.int .i64 e.type) by rw [← hV]; simp)
    have Q1 := hideG (show V.cell? ⟨W0.heap.size, 1, none⟩ = some (.int .i64 e.target) by rw [← hV]; simp)
    have Q2 := hideG (show V.cell? ⟨W0.heap.size, 2, none⟩ = some (.int .i64 e.related) by rw [← hV]; simp)
    have Q3 := hideG (show V.cell? ⟨W0.heap.size, 3, none⟩ = some (.bool true) by rw [← hV]; simp)
    have Q4 := hideG (show V.cell? ⟨W0.heap.size, 4, none⟩ = some (.bool e.can) by rw [← hV]; simp)
    have Q5 := hideG (show V.cell? ⟨W0.heap.size, 5, none⟩ = some (.bool e.comp) by rw [← hV]; simp)
    have FZ := hideG (show V.frozen? ⟨W0.heap.size, 3, none⟩ = false by rw [← hV]; simp)
    have HV := hideG hV
    have hlw : w.heap.size < W0.heap.size := below_of_cell p0x0
    clear hV
    go_wp2_with fail
    rw [HV.out]
    refine (path_any T HS.out _ { e with bub := true } _ (HT0.out.below HBa.out) h6).mono ?_
    rintro ex w1 ⟨a1, c1, rfl, ho1, hb1⟩
    rw [HP0.out] at ho1 ⊢
    have HX1 := hideG hb1
    have HD1 := hideG (HBa.out.trans (hb1.mono HBa.out.size))
    have HA1 := hideG (ownsRow_stCells ho1)
    have q0 := cell_below hb1 Q0.out
    have q1 := cell_below hb1 Q1.out
    have q2 := cell_below hb1 Q2.out
    have q3 := cell_below hb1 Q3.out
    have q4 := cell_below hb1 Q4.out
    have q5 := cell_below hb1 Q5.out
    clear ho1 hb1 p0x0 p1x0 p2x0 p3x0 p4x0 p5x0
    go_wp2_with fail
    refine (visits_any T HS.out _ { e with bub := true } _ (HT0.out.below HD1.out) h6).mono ?_
    rintro ex w2 ⟨a2, c2, rfl, ho2, hb2⟩
    rw [HW0v.out] at ho2 ⊢
    generalize pathI T e = p at *
    generalize visitsL p true = vs at *
    have hpl : p.length ≤ 64 := HPL.out
    have HX2 := hideG (HX1.out.trans (hb2.mono HX1.out.size))
    have HD2 := hideG (HD1.out.trans (hb2.mono HD1.out.size))
    have HA2 := hideG (HA1.out.below hb2)
    have HO2 := hideG ho2
    have HC2 := hideG (ownsRow_viCells ho2)
    clear ho2 hb2 q0 q1 q2 q3 q4 q5
    have hmul : IntKind.i64.wrap (2 * (p.length : Int)) = 2 * (p.length : Int) := by rw [IntKind.wrap_i64]; omega
    have hmn : ((vs.length : Int) != 2 * (p.length : Int)) = false := by have := HVL.out; simp; omega
    go_wp2_with fail
    clear hmul hmn
    go_loopw [9] (fun i wr => ∃ k : Nat, k ≤ p.length ∧ i = .int .i64 (k : Int) ∧ Below w2.heap.size w2 wr) (fun i _ => p.length - (intOf i).toNat)
    case atStart => exact ⟨0, Nat.zero_le _, rfl, Below.refl _ _⟩
    case round =>
      obtain ⟨k, hk, rfl, hBk⟩ := hrel
      have HBk := hideG hBk
      clear hBk
      by_cases hlt : k < p.length
      · obtain ⟨a1b, a1c, a1e, a1d⟩ := HA2.out
        injection a1e with q1 q2 q3
        subst q1
        subst q3
        clear q2
        obtain ⟨b1, o1, rfl, a1x⟩ := a1d.2 (by omega)
        obtain ⟨a2b, a2c, a2e, a2d⟩ := HC2.out
        injection a2e with q1 q2 q3
        subst q1
        subst q3
        clear q2
        obtain ⟨b2, o2, rfl, a2x⟩ := a2d.2 (by have := HVL.out; omega)
        obtain ⟨m, hm⟩ : ∃ m, m = p.length - 1 - k := ⟨_, rfl⟩
        obtain ⟨u, hu⟩ : ∃ u, u = p.length + k := ⟨_, rfl⟩
        have hvl := HVL.out
        have h1 := (a1x m (by omega)).below HBk.out
        have h2 := (a1x k hlt).below HBk.out
        have h3 := (a2x k (by omega)).below HBk.out
        have h4 := (a2x u (by omega)).below HBk.out
        rw [HV1.out k hlt, ← hm] at h3
        rw [hu, HV2.out k hlt, ← hu] at h4
        clear a1d a1x a2d a2x
        generalize p.getD m stD = x at *
        generalize p.getD k stD = y at *
        have c0 := h1.node
        have c1 := h1.tg
        have c2 := h1.rel
        have d0 := h2.node
        have d1 := h2.tg
        have d2 := h2.rel
        have e0 : wr.cell? ⟨b2, o2 + k * 5, none⟩ = some (.int .i64 x.node) := h3.node
        have e1 : wr.cell? ⟨b2, o2 + k * 5 + 1, none⟩ = some (.int .i64 x.tg) := h3.tg
        have e2 : wr.cell? ⟨b2, o2 + k * 5 + 2, none⟩ = some (.int .i64 x.rel) := h3.rel
        have e4 : wr.cell? ⟨b2, o2 + k * 5 + 4, none⟩ = some (.bool true) := h3.cap
        have f0 : wr.cell? ⟨b2, o2 + u * 5, none⟩ = some (.int .i64 y.node) := h4.node
        have f1 : wr.cell? ⟨b2, o2 + u * 5 + 1, none⟩ = some (.int .i64 y.tg) := h4.tg
        have f2 : wr.cell? ⟨b2, o2 + u * 5 + 2, none⟩ = some (.int .i64 y.rel) := h4.rel
        have f4 : wr.cell? ⟨b2, o2 + u * 5 + 4, none⟩ = some (.bool false) := h4.cap
        have hw1 : IntKind.i64.wrap ((p.length : Int) - 1) = (p.length : Int) - 1 := by rw [IntKind.wrap_i64]; omega
        have hw2 : IntKind.i64.wrap ((p.length : Int) - 1 - (k : Int)) = (m : Int) := by rw [IntKind.wrap_i64]; omega
        have hw3 : IntKind.i64.wrap ((p.length : Int) + (k : Int)) = (u : Int) := by rw [IntKind.wrap_i64]; omega
        have hk0 : (0 : Int) ≤ (k : Int) := by omega
        have hk1 : (k : Int) < (p.length : Int) := by omega
        have hm0 : (0 : Int) ≤ (m : Int) := by omega
        have hm1 : (m : Int) < (p.length : Int) := by omega
        have hu0 : (0 : Int) ≤ (u : Int) := by omega
        have hu1 : (u : Int) < (vs.length : Int) := by omega
        have hk2 : (k : Int) < (vs.length : Int) := by omega
        have he := fun wx => st_neq x.node x.tg x.rel wx
        have he2 := fun wx => st_neq y.node y.tg y.rel wx
        clear h1 h2 h3 h4 hm hu hvl
        go_wp2_with fail
        go_region
        go_wp2_with fail
        go_roundw
        case rel => exact ⟨k + 1, by omega, by go_num, below_drew' HBk.out⟩
        case measure => simp [intOf]; omega
      · have HVr := hideG (HX2.out.trans (HBk.out.mono HX2.out.size))
        have HDr := hideG (HD2.out.trans (HBk.out.mono HD2.out.size))
        have HOr := hideG (ownsRow_below HO2.out HBk.out (fun j e => (HO2.out.lt j e).2))
        have q0 := cell_below HVr.out Q0.out
        have q1 := cell_below HVr.out Q1.out
        have q2 := cell_below HVr.out Q2.out
        have q3 := cell_below HVr.out Q3.out
        have q4 := cell_below HVr.out Q4.out
        have q5 := cell_below HVr.out Q5.out
        have fz := frozen_below HVr.out Q3.out FZ.out
        have HDs := hideG (HDr.out.setCell (p := ⟨W0.heap.size, 3, none⟩) (by simp) (.bool false))
        have hos := ownsRow_kept_set (g := W0.heap.size) (j := 3) (u := .bool false) HOr.out (fun e => by have := (HOr.out.lt _ e).1; have h7 := HVs.out; have h8 := HX1.out.size; omega)
        have HOs := hideG hos
        clear hos
        go_wp2_with fail
        refine (visits_any T HS.out _ { e with bub := false } _ (HT0.out.below HDs.out) h6).mono ?_
        rintro ex w3 ⟨a3, c3, rfl, ho3, hb3⟩
        rw [HW3.out] at ho3 ⊢
        generalize visitsL p false = ws at *
        clear q0 q1 q2 q3 q4 q5 fz
        have HE3 := hideG (ownsRow_viCells ho3)
        have HC3 := hideG ((ownsRow_viCells HOs.out).below hb3)
        have HB3 := hideG (HB0.out.trans ((HDs.out.trans (hb3.mono HDs.out.size)).mono HB0.out.size))
        clear ho3 hb3
        have hwl := HWL.out
        have hwl2 := HWL2.out
        go_wp2_with fail
        go_loopw [11] (fun i wr2 => ∃ k : Nat, k ≤ p.length ∧ i = .int .i64 (k : Int) ∧ Below w3.heap.size w3 wr2) (fun i _ => p.length - (intOf i).toNat)
        case atStart => exact ⟨0, Nat.zero_le _, rfl, Below.refl _ _⟩
        case round =>
          obtain ⟨k, hk, rfl, hBk⟩ := hrel
          have HBm := hideG hBk
          clear hBk
          by_cases hlt : k < p.length
          · obtain ⟨a1b, a1c, a1e, a1d⟩ := HE3.out
            injection a1e with q1 q2 q3
            subst q1
            subst q3
            clear q2
            obtain ⟨b1, o1, rfl, a1x⟩ := a1d.2 (by omega)
            obtain ⟨a2b, a2c, a2e, a2d⟩ := HC3.out
            injection a2e with q1 q2 q3
            subst q1
            subst q3
            clear q2
            obtain ⟨b2, o2, rfl, a2x⟩ := a2d.2 (by have := HVL.out; omega)
            have hvl := HVL.out
            have h1 := (a1x k (by omega)).below HBm.out
            have h2 := (a2x k (by omega)).below HBm.out
            rw [HW1.out k hlt] at h1
            clear a1d a1x a2d a2x
            generalize vs.getD k viD = x at *
            have c0 := h1.node
            have c1 := h1.tg
            have c2 := h1.rel
            have c3 := h1.phase
            have c4 := h1.cap
            have d0 := h2.node
            have d1 := h2.tg
            have d2 := h2.rel
            have d3 := h2.phase
            have d4 := h2.cap
            have hk0 : (0 : Int) ≤ (k : Int) := by omega
            have hk1 : (k : Int) < (p.length : Int) := by omega
            have hk2 : (k : Int) < (ws.length : Int) := by omega
            have hk3 : (k : Int) < (vs.length : Int) := by omega
            have he := fun wx => vi_neq x.s.node x.s.tg x.s.rel x.phase x.cap wx
            clear h1 h2 hvl
            go_wp2_with fail
            go_region
            go_wp2_with fail
            go_roundw
            case rel => exact ⟨k + 1, by omega, by go_num, below_drew' HBm.out⟩
            case measure => simp [intOf]; omega
          · go_wp2_with fail
            go_loopw [12] (fun i wr3 => ∃ j : Nat, p.length ≤ j ∧ j ≤ ws.length ∧ i = .int .i64 (j : Int) ∧ Below w3.heap.size w3 wr3) (fun i _ => ws.length - (intOf i).toNat)
            case atStart => exact ⟨p.length, Nat.le_refl _, by omega, rfl, HBm.out⟩
            case round =>
              obtain ⟨j, hpj, hj, rfl, hBj⟩ := hrel
              have HBj := hideG hBj
              clear hBj
              by_cases hjl : j < ws.length
              · obtain ⟨a1b, a1c, a1e, a1d⟩ := HE3.out
                injection a1e with q1 q2 q3
                subst q1
                subst q3
                clear q2
                obtain ⟨b1, o1, rfl, a1x⟩ := a1d.2 (by omega)
                have h1 := (a1x j hjl).below HBj.out
                obtain ⟨hph, hcp⟩ := HW2.out j hpj hjl
                have c3 := h1.phase
                have c4 := h1.cap
                rw [hph] at c3
                rw [hcp] at c4
                have hj0 : (0 : Int) ≤ (j : Int) := by omega
                have hj1 : (j : Int) < (ws.length : Int) := by omega
                clear h1 a1d a1x hph hcp
                go_wp2_with fail
                go_roundw
                case rel => exact ⟨j + 1, by omega, by omega, by go_num, HBj.out⟩
                case measure => simp [intOf]; omega
              · have HBy := hideG (HB3.out.trans (HBj.out.mono HB3.out.size))
                have hge : decide ((p.length : Int) ≤ (ws.length : Int)) = true := by simp; omega
                go_wp2_with fail
                refine (live7_any _).mono ?_
                rintro ex w6 ⟨rfl, hb6⟩
                have HB6 := hideG (HBy.out.trans (hb6.mono HBy.out.size))
                clear hb6
                go_wp2_with fail
                go_ret
                exact ⟨rfl, HB6.out⟩
end Go.Proofs.Ytgfdcllpmjhkeaa
