/- WSame: the document's Same: contract. -/
import Derived.Test.YtlgbiecgbdbefabWSm
namespace Go.Proofs.Ytlgbiecgbdbefab
open Go.RowKit

theorem list_ext_g {l m : List (List Int)} (hl : l.length = m.length) (h : ∀ j, j < l.length → l.getD j [] = m.getD j []) : l = m := by
  apply List.ext_getElem hl
  intro j h1 h2
  have := h j h1
  simpa [List.getD_eq_getElem?_getD, List.getElem?_eq_getElem h1, List.getElem?_eq_getElem h2] using this
set_option maxRecDepth 100000 in
set_option maxHeartbeats 8000000 in
theorem same_any (g g' : List (List Int)) (gv gv' : Value) (a a' : Int) (n n' : Bool) (w : World) (hG : GrpsAt w gv g) (hG' : GrpsAt w gv' g') (hf : fewG g 1000000) :
    Calls Try.prog 16 #[.agg #[gv, .int .i64 a, .bool n], .agg #[gv', .int .i64 a', .bool n']] w fun e w' => e = .returned (.bool (decide ((⟨g, a, n⟩ : Wt) = ⟨g', a', n'⟩))) ∧ Below w.heap.size w w' := by
  obtain ⟨ga, gc, rfl⟩ := hG.shape
  obtain ⟨ga', gc', rfl⟩ := hG'.shape
  obtain ⟨W1, hW1⟩ : ∃ W1, (w.alloc (.cells #[.slice ga g.length gc, .int .i64 a, .bool n] 33)).alloc (.cells #[.slice ga' g'.length gc', .int .i64 a', .bool n'] 33) = W1 := ⟨_, rfl⟩
  have HB := hideG (show Below w.heap.size w W1 by rw [← hW1]; exact (alB _ _).trans ((alB _ _).mono (by simp)))
  have HX := hideG (show Box3 W1 w.heap.size (.slice ga g.length gc) (.int .i64 a) (.bool n) by rw [← hW1]; exact (Box3.new _ _ _ _ _).alloc _)
  have HY := hideG (show Box3 W1 (w.heap.size + 1) (.slice ga' g'.length gc') (.int .i64 a') (.bool n') by
    rw [← hW1]
    have := Box3.new (w.alloc (.cells #[.slice ga g.length gc, .int .i64 a, .bool n] 33)) (.slice ga' g'.length gc') (.int .i64 a') (.bool n') 33
    rw [World.size_alloc] at this
    exact this)
  have HG := hideG (hG.below HB.out)
  have HG' := hideG (hG'.below HB.out)
  have HF := hideG hf
  have hgl := hG.1
  have HW1 := hideG hW1
  clear hW1 hG hG' hf
  have c0 := HX.out.c0
  have c1 := HX.out.c1
  have c2 := HX.out.c2
  have clt := HX.out.lt
  have d0 := HY.out.c0
  have d1 := HY.out.c1
  have d2 := HY.out.c2
  have dlt := HY.out.lt
  by_cases hlen : g.length = g'.length
  · have hne : ((g.length : Int) != (g'.length : Int)) = false := by simp [hlen]
    have HL := hideG hlen
    clear hlen
    cases ha : (a != a')
    · by_cases hn : n = n'
      · have HA := hideG (show a = a' by simpa using ha)
        subst hn
        go_enter Try.func16, Try.ntmps16
        go_wp2_with fail
        rw [HW1.out]
        clear HW1 ha hne c0 c1 c2 clt d0 d1 d2 dlt
        go_loopw [5] (fun i wr => ∃ k : Nat, k ≤ g.length ∧ i = .int .i64 (k : Int) ∧ Below W1.heap.size W1 wr ∧ Hid (∀ j, j < k → g.getD j [] = g'.getD j [])) (fun i _ => g.length - (intOf i).toNat)
        case atStart => exact ⟨0, Nat.zero_le _, rfl, Below.refl _ _, hideG (fun j h => by omega)⟩
        case round =>
          obtain ⟨k, hk, rfl, hB, hle⟩ := hrel
          have HBW := hideG hB
          have HX1 := hideG (HX.out.call hB)
          have HY1 := hideG (HY.out.call hB)
          clear hB
          have c0 := HX1.out.c0
          have clt := HX1.out.lt
          have d0 := HY1.out.c0
          have dlt := HY1.out.lt
          by_cases hlt : k < g.length
          · have hlt' : k < g'.length := by have := HL.out; omega
            obtain ⟨b, off, ra, rc, rfl, cR0, hI⟩ := HG.out.at hlt
            obtain ⟨b', off', ra', rc', rfl, cR0', hI'⟩ := HG'.out.at hlt'
            have cR := cell_below HBW.out cR0
            have cR' := cell_below HBW.out cR0'
            have HNE := hideG (fun (h : g.getD k [] ≠ g'.getD k []) => show (decide ((⟨g, a, n⟩ : Wt) = ⟨g', a', n⟩)) = false from decide_eq_false (fun e => h (congrArg (fun t => (Wt.g t).getD k []) e)))
            have HEQ := hideG (fun (h : g.getD k [] = g'.getD k []) (j : Nat) (hj : j < k + 1) => show g.getD j [] = g'.getD j [] from if e : j = k then e ▸ h else hle.out j (by omega))
            have HRL := hideG (HF.out.row (j := k))
            generalize g.getD k [] = row at *
            generalize g'.getD k [] = row' at *
            clear hle
            have HI0 := hideG hI
            have HI0' := hideG hI'
            have HCR := hideG cR0
            have HCR' := hideG cR0'
            clear hI hI' cR0 cR0'
            have clr := below_of_cell cR
            have clr' := below_of_cell cR'
            cases hx : ((row.length : Int) != (row'.length : Int))
            · have hrl : row.length = row'.length := by have := (by simpa using hx : (row.length : Int) = (row'.length : Int)); omega
              have hr6 := HRL.out
              have HRE := hideG hrl
              clear hrl
              go_wp2_with fail
              go_quiet (fail)
              go_wp2_with fail
              have HBW1 := hideG (below_drewN HBW.out nq)
              generalize hwq : wr.drewN nq = wq at *
              clear c0 clt d0 dlt cR cR' clr clr' hx
              go_loopw [6] (fun i ws => ∃ m : Nat, m ≤ row.length ∧ i = .int .i64 (m : Int) ∧ Below W1.heap.size W1 ws ∧ Hid (∀ j, j < m → row.getD j 0 = row'.getD j 0)) (fun i _ => row.length - (intOf i).toNat)
              case atStart => exact ⟨0, Nat.zero_le _, rfl, HBW1.out, hideG (fun j h => by omega)⟩
              case round =>
                obtain ⟨m, hm, rfl, hBq, hlm⟩ := hrel
                have HBQ := hideG hBq
                have HX2 := hideG (HX.out.call hBq)
                have HY2 := hideG (HY.out.call hBq)
                have cR2 := cell_below hBq HCR.out
                have cR2' := cell_below hBq HCR'.out
                have HJ := hideG (HI0.out.below hBq)
                have HJ' := hideG (HI0'.out.below hBq)
                clear hBq
                have c0 := HX2.out.c0
                have clt := HX2.out.lt
                have d0 := HY2.out.c0
                have dlt := HY2.out.lt
                have clr := below_of_cell cR2
                have clr' := below_of_cell cR2'
                by_cases hml : m < row.length
                · have hml' : m < row'.length := by have := HRE.out; omega
                  obtain ⟨bb, oo, rfl, cE⟩ := HJ.out.at hml
                  obtain ⟨bb', oo', rfl, cE'⟩ := HJ'.out.at hml'
                  have cle := below_of_cell cE
                  have cle' := below_of_cell cE'
                  have HNE2 := hideG (fun (h : row.getD m 0 ≠ row'.getD m 0) => show (decide ((⟨g, a, n⟩ : Wt) = ⟨g', a', n⟩)) = false from HNE.out (fun e => h (by rw [e])))
                  have HEQ2 := hideG (fun (h : row.getD m 0 = row'.getD m 0) (j : Nat) (hj : j < m + 1) => show row.getD j 0 = row'.getD j 0 from if e : j = m then e ▸ h else hlm.out j (by omega))
                  generalize row.getD m 0 = x at *
                  generalize row'.getD m 0 = x' at *
                  clear hlm
                  cases hx : (x != x')
                  · have HXE := hideG (show x = x' by simpa using hx)
                    go_wp2_with fail
                    go_quiet (fail)
                    go_wp2_with fail
                    go_roundw
                    case rel => exact ⟨m + 1, by omega, by go_num, below_drewN HBQ.out _, hideG (HEQ2.out HXE.out)⟩
                    case measure => simp [intOf]; omega
                  · have HXN := hideG (show x ≠ x' by simpa using hx)
                    go_wp2_with fail
                    go_quiet (fail)
                    go_wp2_with fail
                    go_ret
                    exact ⟨ret_bool (HNE2.out HXN.out).symm, HB.out.trans ((below_drewN HBQ.out _).mono HB.out.size)⟩
                · have HRW := hideG (show row = row' from list_ext_getD HRE.out (fun j hj => hlm.out j (by omega)))
                  clear hlm
                  go_wp2_with fail
                  go_roundw
                  case rel => exact ⟨k + 1, by omega, by go_num, HBQ.out, hideG (HEQ.out HRW.out)⟩
                  case measure => simp [intOf]; omega
            · go_wp2_with fail
              go_quiet (fail)
              go_wp2_with fail
              go_ret
              refine ⟨ret_bool (HNE.out (fun e => ?_)).symm, HB.out.trans ((below_drewN HBW.out _).mono HB.out.size)⟩
              subst e
              simp at hx
          · have HE := hideG (show g = g' from list_ext_g HL.out (fun j hj => hle.out j (by omega)))
            clear hle
            go_wp2_with fail
            go_ret
            refine ⟨ret_bool (decide_eq_true ?_).symm, HB.out.trans (HBW.out.mono HB.out.size)⟩
            rw [HA.out, HE.out]
      · have HNN := hideG hn
        cases n <;> cases n' <;> first | exact absurd rfl hn | skip
        all_goals
          clear hn
          go_enter Try.func16, Try.ntmps16
          go_wp2_with fail
          rw [HW1.out]
          go_ret
          exact ⟨ret_bool (decide_eq_false (fun e => HNN.out (congrArg Wt.n e))).symm, HB.out⟩
    · go_enter Try.func16, Try.ntmps16
      go_wp2_with fail
      rw [HW1.out]
      go_ret
      refine ⟨ret_bool (decide_eq_false (fun e => ?_)).symm, HB.out⟩
      have := congrArg Wt.a e
      simp at this
      subst this
      simp at ha
  · have hne : ((g.length : Int) != (g'.length : Int)) = true := by simp; omega
    have HNE := hideG hlen
    clear hlen
    go_enter Try.func16, Try.ntmps16
    go_wp2_with fail
    rw [HW1.out]
    go_ret
    exact ⟨ret_bool (decide_eq_false (fun e => HNE.out (congrArg (fun t => (Wt.g t).length) e))).symm, HB.out⟩
end Go.Proofs.Ytlgbiecgbdbefab
