/- FireSame, walked. -/
import Derived.Test.YtpmacpbhdgigfaaLive9
namespace Go.Proofs.Ytpmacpbhdgigfaa
open Go.RowKit
open L8 (Hr hrD HearAt HearsAt forL hearsP hearCells dropL)

theorem few_len {T : List Nd} (h : fewB T = true) : T.length ≤ 1000 := by
  unfold fewB at h
  simp only [Bool.and_eq_true, decide_eq_true_eq] at h
  omega
theorem ownsRow_len {w : World} {base : Nat} {e : TypeId} {size : Nat} {v : Value} {n : Nat} {xs : List Value} (h : w.ownsRow base e size v n xs) : n ≤ 9223372036854775807 := by
  rcases h.2 with ⟨_, h0⟩ | ⟨g, cap, cur, _, _, _, hn, hm, _⟩
  · omega
  · simp only [maxLen] at hm; omega
theorem visitsI_le {T : List Nd} (e : Ev) : (visitsI T e).length ≤ 128 := by
  have h := visK_le (pathI T e) e.bub (pathI T e).length
  rw [visK_all _ _ (Nat.le_refl _)] at h
  have := pathI_le (T := T) e
  unfold visitsI
  omega
theorem getD_hr {l : List Hr} {k : Nat} (h : k < l.length) : l.getD k hrD = l[k] := by rw [List.getD_eq_getElem?_getD, List.getElem?_eq_getElem h]; rfl
theorem drop_cl {l : List Cl} {k : Nat} (h : k < l.length) : l.drop k = l.getD k clD :: l.drop (k + 1) := by
  rw [List.getD_eq_getElem?_getD, List.getElem?_eq_getElem h]; exact List.drop_eq_getElem_cons h
theorem AllR.nil_none {kind : Int} {l : List Hr} {left : List Vi} {cur : Vi} {wait : List Hr} (h : AllR kind l left cur wait []) : nextL l kind left cur wait = none := by
  cases h with
  | done e => exact e

set_option maxRecDepth 100000 in
set_option maxHeartbeats 4000000 in
theorem allNone_any (T : List Nd) (hS : Sane T) (v : Value) (e : Ev) (w : World) (hT : TreeAt w v T) (hb : bothB T e.target e.target = false) (l : List Hr) (vl : Value) (hL : HearsAt w vl l) :
    Calls Try.prog 10 #[v, .agg #[.int .i64 e.type, .int .i64 e.target, .int .i64 e.related, .bool e.bub, .bool e.can, .bool e.comp], vl] w fun x w' => x = .returned (.slice none 0 0) ∧ Below w.heap.size w w' := by
  obtain ⟨ta, tc, rfl⟩ := hT.shape
  obtain ⟨va, vc, rfl⟩ := hL.shape
  obtain ⟨W0, hW0⟩ : ∃ W0, w.alloc (.cells #[.int .i64 e.type, .int .i64 e.target, .int .i64 e.related, .bool e.bub, .bool e.can, .bool e.comp] 25) = W0 := ⟨_, rfl⟩
  have HB0 := hideG (show Below w.heap.size w W0 by rw [← hW0]; exact (Below.refl _ w).alloc (Nat.le_refl _) _)
  have HP0 := hideG (show ∀ j u, (#[.int .i64 e.type, .int .i64 e.target, .int .i64 e.related, .bool e.bub, .bool e.can, .bool e.comp] : Array Value)[j]? = some u → W0.cell? ⟨w.heap.size, j, none⟩ = some u from fun j u hj => by
    rw [← hW0]
    have hlt : j < 6 := by have := (Array.getElem?_eq_some_iff.1 hj).1; simpa using this
    have hc : j = 0 ∨ j = 1 ∨ j = 2 ∨ j = 3 ∨ j = 4 ∨ j = 5 := by omega
    rcases hc with rfl | rfl | rfl | rfl | rfl | rfl <;> simpa using hj)
  have HT0 := hideG (hT.below HB0.out)
  have HL0 := hideG (hL.below HB0.out)
  have HSZ := hideG (show w.heap.size < W0.heap.size by rw [← hW0]; simp)
  have HW0 := hideG hW0
  clear hW0 hT hL
  have p0 : W0.cell? ⟨w.heap.size, 0, none⟩ = some (.int .i64 e.type) := HP0.out 0 _ rfl
  have p1 : W0.cell? ⟨w.heap.size, 1, none⟩ = some (.int .i64 e.target) := HP0.out 1 _ rfl
  have p2 : W0.cell? ⟨w.heap.size, 2, none⟩ = some (.int .i64 e.related) := HP0.out 2 _ rfl
  have p3 : W0.cell? ⟨w.heap.size, 3, none⟩ = some (.bool e.bub) := HP0.out 3 _ rfl
  have p4 : W0.cell? ⟨w.heap.size, 4, none⟩ = some (.bool e.can) := HP0.out 4 _ rfl
  have p5 : W0.cell? ⟨w.heap.size, 5, none⟩ = some (.bool e.comp) := HP0.out 5 _ rfl
  have HN := hideG (newNone_any T hS _ e W0 HT0.out hb)
  clear hb hS
  go_enter Try.func10, Try.ntmps10
  go_wp2_with fail
  rw [HW0.out]
  refine HN.out.mono ?_
  rintro ex w1 ⟨rfl, hb1⟩
  have HB1 := hideG (HB0.out.trans (hb1.mono HB0.out.size))
  clear hb1 p0 p1 p2 p3 p4 p5
  go_wp2_with fail
  refine (nextNil_any va l.length vc w1).mono ?_
  rintro ex w2 ⟨rfl, hb2⟩
  simp only [callZ]
  have HB2 := hideG (HB1.out.trans (hb2.mono HB1.out.size))
  have HB3 := hideG (HB2.out.alloc HB2.out.size (.cells #[.int .i64 0, .int .i64 0, .bool false, .bool false, .int .i64 0, .int .i64 0, .int .i64 0, .int .i64 0, .int .i64 0, .bool false] 41))
  clear hb2
  go_wp2_with fail
  go_loopg [8, 10] 0 (fun g s8 s10 wr => Hid (s8 = .slice none 0 0 ∧ s10 = .bool false ∧ wr = w2.alloc (.cells #[.int .i64 0, .int .i64 0, .bool false, .bool false, .int .i64 0, .int .i64 0, .int .i64 0, .int .i64 0, .int .i64 0, .bool false] 41)))
  case atStart => exact hideG ⟨rfl, rfl, rfl⟩
  case round =>
    obtain ⟨rfl, rfl, hwr⟩ := hrel.out
    clear hrel
    go_wp2_with fail
    go_ret
    exact ⟨rfl, by rw [hwr]; exact HB3.out⟩

set_option maxRecDepth 100000 in
set_option maxHeartbeats 16000000 in
theorem fireSame_walk (T : List Nd) (v : Value) (e : Ev) (l : List Hr) (vl : Value) (w : World) (hT : TreeAt w v T) (hL : HearsAt w vl l) :
    Calls Try.prog 5 #[v, .agg #[.int .i64 e.type, .int .i64 e.target, .int .i64 e.related, .bool e.bub, .bool e.can, .bool e.comp], vl] w fun x w' => x = .returned (.bool true) ∧ Below w.heap.size w w' := by
  obtain ⟨ta, tc, rfl⟩ := hT.shape
  obtain ⟨va, vc, rfl⟩ := hL.shape
  obtain ⟨W0, hW0⟩ : ∃ W0, w.alloc (.cells #[.int .i64 e.type, .int .i64 e.target, .int .i64 e.related, .bool e.bub, .bool e.can, .bool e.comp] 25) = W0 := ⟨_, rfl⟩
  have HB0 := hideG (show Below w.heap.size w W0 by rw [← hW0]; exact (Below.refl _ w).alloc (Nat.le_refl _) _)
  have HP0 := hideG (show ∀ j u, (#[.int .i64 e.type, .int .i64 e.target, .int .i64 e.related, .bool e.bub, .bool e.can, .bool e.comp] : Array Value)[j]? = some u → W0.cell? ⟨w.heap.size, j, none⟩ = some u from fun j u hj => by
    rw [← hW0]
    have hlt : j < 6 := by have := (Array.getElem?_eq_some_iff.1 hj).1; simpa using this
    have hc : j = 0 ∨ j = 1 ∨ j = 2 ∨ j = 3 ∨ j = 4 ∨ j = 5 := by omega
    rcases hc with rfl | rfl | rfl | rfl | rfl | rfl <;> simpa using hj)
  have HT0 := hideG (hT.below HB0.out)
  have HL0 := hideG (hL.below HB0.out)
  have HSZ := hideG (show w.heap.size < W0.heap.size by rw [← hW0]; simp)
  have HW0 := hideG hW0
  clear hW0 hT hL
  cases hs : fewB T
  · go_enter Try.func5, Try.ntmps5
    go_wp2_with fail
    rw [HW0.out]
    refine (refFew_any T _ _ HT0.out).mono ?_
    rintro ex wz ⟨rfl, hwz⟩
    obtain rfl : _ = wz := hwz.symm
    rw [hs]
    go_wp2_with fail
    refine (live9_any _).mono ?_
    rintro ex w1 ⟨rfl, hb1⟩
    have HB1 := hideG (HB0.out.trans (hb1.mono HB0.out.size))
    clear hb1
    go_wp2_with fail
    go_ret
    exact ⟨rfl, HB1.out⟩
  · have HS := hideG (small_sane (few_small hs))
    have h6 := few_len hs
    have HFEW := hideG hs
    clear hs
    by_cases hl : 30 < l.length
    · have hl' : (30 : Int) < (l.length : Int) := by omega
      go_enter Try.func5, Try.ntmps5
      go_wp2_with fail
      rw [HW0.out]
      refine (refFew_any T _ _ HT0.out).mono ?_
      rintro ex wz ⟨rfl, hwz⟩
      obtain rfl : _ = wz := hwz.symm
      rw [HFEW.out]
      go_wp2_with fail
      refine (live9_any _).mono ?_
      rintro ex w1 ⟨rfl, hb1⟩
      have HB1 := hideG (HB0.out.trans (hb1.mono HB0.out.size))
      clear hb1
      go_wp2_with fail
      go_ret
      exact ⟨rfl, HB1.out⟩
    · have hl' : (l.length : Int) ≤ 30 := by omega
      go_enter Try.func5, Try.ntmps5
      go_wp2_with fail
      rw [HW0.out]
      refine (refFew_any T _ _ HT0.out).mono ?_
      rintro ex wz ⟨rfl, hwz⟩
      obtain rfl : _ = wz := hwz.symm
      rw [HFEW.out]
      go_wp2_with fail
      go_loop [7] (fun i => ∃ k : Nat, k ≤ l.length ∧ i = .int .i64 (k : Int) ∧ ∀ j, j < k → (l.getD j hrD).once = false) (fun i => l.length - (intOf i).toNat)
      case atStart => exact ⟨0, Nat.zero_le _, rfl, fun j hj => by omega⟩
      case round =>
        obtain ⟨k, hk, rfl, hno⟩ := hrel
        have HNO := hideG hno
        clear hno
        by_cases hlt : k < l.length
        · obtain ⟨b', c', hv, _, hd⟩ := HL0.out
          injection hv with e1 e2 e3
          subst e1
          clear e2 e3
          obtain ⟨lb, lo, rfl, hd'⟩ := hd (by omega)
          have c3 := (hd' k hlt).once
          have hk0 : (0 : Int) ≤ (k : Int) := by omega
          clear hd hd'
          cases ho : (l.getD k hrD).once
          · have HO := hideG ho
            rw [ho] at c3
            clear ho
            go_wp2_with fail
            go_round
            case rel => exact ⟨k + 1, by omega, by go_num, fun j hj => by
              by_cases q : j = k
              · subst q; exact HO.out
              · exact HNO.out j (by omega)⟩
            case measure => simp [intOf]; omega
          · rw [ho] at c3
            clear ho
            go_wp2_with fail
            refine (live9_any _).mono ?_
            rintro ex w1 ⟨rfl, hb1⟩
            have HB1 := hideG (HB0.out.trans (hb1.mono HB0.out.size))
            clear hb1
            go_wp2_with fail
            go_ret
            exact ⟨rfl, HB1.out⟩
        · have hkl : k = l.length := by omega
          have HONCE := hideG (show ∀ x ∈ l, x.once = false from fun x hx => by
            obtain ⟨j, hj, rfl⟩ := List.getElem_of_mem hx
            have := HNO.out j (by omega)
            rwa [getD_hr hj] at this)
          have HL30 := hideG (show l.length ≤ 30 by omega)
          have p0 : W0.cell? ⟨w.heap.size, 0, none⟩ = some (.int .i64 e.type) := HP0.out 0 _ rfl
          have p1 : W0.cell? ⟨w.heap.size, 1, none⟩ = some (.int .i64 e.target) := HP0.out 1 _ rfl
          have p2 : W0.cell? ⟨w.heap.size, 2, none⟩ = some (.int .i64 e.related) := HP0.out 2 _ rfl
          have p3 : W0.cell? ⟨w.heap.size, 3, none⟩ = some (.bool e.bub) := HP0.out 3 _ rfl
          have p4 : W0.cell? ⟨w.heap.size, 4, none⟩ = some (.bool e.can) := HP0.out 4 _ rfl
          have p5 : W0.cell? ⟨w.heap.size, 5, none⟩ = some (.bool e.comp) := HP0.out 5 _ rfl
          clear hkl HNO
          cases hb : bothB T e.target e.target
          · have HA := hideG (allNone_any T HS.out _ e W0 HT0.out hb l _ HL0.out)
            have EB := hideG hb
            clear hb
            go_wp2_with fail
            refine HA.out.mono ?_
            rintro ex w1 ⟨rfl, hb1⟩
            have HT1 := hideG (HT0.out.below hb1)
            have HB1 := hideG (HB0.out.trans (hb1.mono HB0.out.size))
            have q0 : w1.cell? ⟨w.heap.size, 0, none⟩ = some (.int .i64 e.type) := cell_below hb1 (HP0.out 0 _ rfl)
            have q1 : w1.cell? ⟨w.heap.size, 1, none⟩ = some (.int .i64 e.target) := cell_below hb1 (HP0.out 1 _ rfl)
            have q2 : w1.cell? ⟨w.heap.size, 2, none⟩ = some (.int .i64 e.related) := cell_below hb1 (HP0.out 2 _ rfl)
            have q3 : w1.cell? ⟨w.heap.size, 3, none⟩ = some (.bool e.bub) := cell_below hb1 (HP0.out 3 _ rfl)
            have q4 : w1.cell? ⟨w.heap.size, 4, none⟩ = some (.bool e.can) := cell_below hb1 (HP0.out 4 _ rfl)
            have q5 : w1.cell? ⟨w.heap.size, 5, none⟩ = some (.bool e.comp) := cell_below hb1 (HP0.out 5 _ rfl)
            clear hb1 p0 p1 p2 p3 p4 p5
            go_wp2_with fail
            refine (newNone_any T HS.out _ e w1 HT1.out EB.out).mono ?_
            rintro ex w2 ⟨rfl, hb2⟩
            have HB2 := hideG (HB1.out.trans (hb2.mono HB1.out.size))
            clear hb2 q0 q1 q2 q3 q4 q5
            go_wp2_with fail
            refine (live9_any _).mono ?_
            rintro ex w3 ⟨rfl, hb3⟩
            have HB3 := hideG (HB2.out.trans (hb3.mono HB2.out.size))
            clear hb3
            go_wp2_with fail
            go_ret
            exact ⟨rfl, HB3.out⟩
          · obtain ⟨hm, ⟨tg, htg, htl⟩, _⟩ := both_true hb
            have HA := hideG (all_any T HS.out _ e W0 HT0.out (by omega) l _ HL0.out (by omega) hm tg htg htl (Nat.le_trans (visitsI_le e) (by omega)))
            have HM := hideG (show mayB T = true ∧ e.target = (tg : Int) ∧ tg < T.length from ⟨hm, htg, htl⟩)
            clear hm htg htl hb
            go_wp2_with fail
            refine HA.out.mono ?_
            rintro ex w1 ⟨a1, c1, out, rfl, ho1, hal, hb1⟩
            have HT1 := hideG (HT0.out.below hb1)
            have HB1 := hideG (HB0.out.trans (hb1.mono HB0.out.size))
            have HX1 := hideG hb1
            have HAL := hideG hal
            have HCS := hideG (ownsRow_calls ho1)
            have hol := ownsRow_len ho1
            have HN := hideG (new_any T HS.out _ e w1 HT1.out (by omega) HM.out.1 tg HM.out.2.1 HM.out.2.2)
            have q0 : w1.cell? ⟨w.heap.size, 0, none⟩ = some (.int .i64 e.type) := cell_below hb1 (HP0.out 0 _ rfl)
            have q1 : w1.cell? ⟨w.heap.size, 1, none⟩ = some (.int .i64 e.target) := cell_below hb1 (HP0.out 1 _ rfl)
            have q2 : w1.cell? ⟨w.heap.size, 2, none⟩ = some (.int .i64 e.related) := cell_below hb1 (HP0.out 2 _ rfl)
            have q3 : w1.cell? ⟨w.heap.size, 3, none⟩ = some (.bool e.bub) := cell_below hb1 (HP0.out 3 _ rfl)
            have q4 : w1.cell? ⟨w.heap.size, 4, none⟩ = some (.bool e.can) := cell_below hb1 (HP0.out 4 _ rfl)
            have q5 : w1.cell? ⟨w.heap.size, 5, none⟩ = some (.bool e.comp) := cell_below hb1 (HP0.out 5 _ rfl)
            clear hb1 p0 p1 p2 p3 p4 p5 ho1 hal HA
            go_wp2_with fail
            refine HN.out.mono ?_
            rintro ex w2 ⟨b, rfl, hrun, hbW, hb2⟩
            have hr2 : RunOk w2 b (fun _ => False) _ := hrun _ (fun _ k => k.elim)
            have HR2 := hideG hr2
            have HBW := hideG hbW
            have HBL := hideG hr2.lt
            have HX2 := hideG hb2
            have HB2 := hideG (HB1.out.trans (hb2.mono HB1.out.size))
            have HOF := hideG (show Off b (.slice va l.length vc) from Off.hears (HL0.out.below HX1.out) hbW)
            clear hrun hbW hb2 hr2 q0 q1 q2 q3 q4 q5 HN
            go_wp2_with fail
            go_loopw [10] (fun i wr => Hid (∃ (k : Nat) (left : List Vi) (cur : Vi) (wait : List Hr), k ≤ out.length ∧ i = .int .i64 (k : Int) ∧ RunOk wr b (fun _ => False) ⟨e.type, e.can, false, left, cur, wait⟩ ∧ AllR e.type l left cur wait (out.drop k) ∧ (∀ x ∈ wait, x ∈ l) ∧ left.length ≤ 128 ∧ wait.length ≤ 30 ∧ Turn b w2 wr)) (fun i _ => out.length - (intOf i).toNat)
            case atStart => exact hideG ⟨0, visitsI T e, viD, [], Nat.zero_le _, rfl, HR2.out, HAL.out, fun x hx => (by cases hx), visitsI_le e, by simp, Turn.refl b w2⟩
            case round =>
              obtain ⟨k, left, cur, wait, hk, rfl, hok, hal, hwm, hll, hwl, htu⟩ := hrel.out
              clear hrel
              have HW1 := hideG (Turn.below HX2.out htu HBW.out)
              have HL1 := hideG ((HL0.out.below HX1.out).below HW1.out)
              by_cases hlt : k < out.length
              · rw [drop_cl hlt] at hal
                obtain ⟨cb', cc', hv, hcap, hd⟩ := HCS.out
                injection hv with e1 e2 e3
                subst e1
                subst e3
                clear e2
                obtain ⟨ab, ao, rfl, hd'⟩ := hd (by omega)
                have hC := (hd' k hlt).below HW1.out
                generalize out.getD k clD = c at *
                obtain ⟨⟨n0, t0, c0, o0, pp⟩, ⟨⟨s0, s1, s2⟩, ph, cc⟩⟩ := c
                obtain ⟨left', wait', hnx, hal', hwm'⟩ := AllR.same HONCE.out hwm hal
                have hlens := wait_le (M := 30) HL30.out hwl hnx
                have HAL' := hideG hal'
                have HWM := hideG hwm'
                have HLN := hideG (show left'.length ≤ 128 ∧ wait'.length ≤ 30 from ⟨Nat.le_trans hlens.2 hll, hlens.1⟩)
                have HTU := hideG htu
                have HC := hideG hC
                have HX := hideG (next_is wr b (fun _ => False) _ _ l HL1.out (by omega) hok (fun _ k => k.elim) (by simp only; omega) (by simp only; omega) HOF.out n0 t0 c0 o0 pp s0 s1 s2 ph cc left' wait' hnx)
                have hk0 : (0 : Int) ≤ (k : Int) := by omega
                have HABL := hideG (show ab < w1.heap.size from below_of_cell (hd' k hlt).c0)
                clear hal hal' hwm hwm' hlens hnx hok htu hd hd' hC hll hwl
                go_wp2_with fail
                refine HX.out.mono ?_
                rintro ex w3 ⟨rfl, ht3, hk3⟩
                obtain ⟨V3, hV3⟩ : ∃ V, w3.alloc (.cells #[.int .i64 n0, .int .i64 t0, .bool c0, .bool o0, .int .i64 pp, .int .i64 s0, .int .i64 s1, .int .i64 s2, .int .i64 ph, .bool cc] 41) = V := ⟨_, rfl⟩
                have hbv : Below w3.heap.size w3 V3 := by rw [← hV3]; exact (Below.refl _ _).alloc (Nat.le_refl _) _
                obtain ⟨d0, d1, d2, d3, d4, d5, d6, d7, d8, d9⟩ := CallAt.below (CallAt.turn HC.out ht3 (by have := HABL.out; have := HBW.out; omega)) hbv
                obtain ⟨e0, e1, e2, e3, e4, e5, e6, e7, e8, e9⟩ := (show CallAt V3 w3.heap.size 0 ((⟨n0, t0, c0, o0, pp⟩, ⟨⟨s0, s1, s2⟩, ph, cc⟩) : Cl) by rw [← hV3]; exact callAt_new w3 41 ((⟨n0, t0, c0, o0, pp⟩, ⟨⟨s0, s1, s2⟩, ph, cc⟩) : Cl))
                dsimp only [Nat.zero_add] at d0 d1 d2 d3 d4 d5 d6 d7 d8 d9 e0 e1 e2 e3 e4 e5 e6 e7 e8 e9
                have HR3 := hideG (RunOk.below hk3 hbv)
                have HT3 := hideG ((HTU.out.trans ht3).trans (Turn.of_below hbv))
                have hq1 : w3.heap.size < V3.heap.size := below_of_cell e0
                have hq2 : ab < V3.heap.size := below_of_cell d0
                have HV3 := hideG hV3
                clear hV3 hbv ht3 hk3 HX
                go_wp2_with (first | rw [HV3.out])
                have hcq : ∀ (d : Calm V3) (b o : Nat), b < V3.heap.size → d.to.cell? ⟨b, o, none⟩ = V3.cell? ⟨b, o, none⟩ := calmCell
                have he := fun wx => cl_neq n0 t0 c0 o0 pp s0 s1 s2 ph cc wx
                refine wp_region_calm (by kernel_rfl) (by kernel_rfl) ?_
                repeat (go_big_quiet_step (fail))
                refine wpQuiet_nil ?_
                intro _ hw'
                obtain ⟨dq, hw''⟩ := hw'
                subst hw''
                have HR4 := hideG (RunOk.below HR3.out dq.below)
                have HT4 := hideG (HT3.out.trans (Turn.of_below dq.below))
                generalize dq.to = w4 at *
                clear dq hcq he d0 d1 d2 d3 d4 d5 d6 d7 d8 d9 e0 e1 e2 e3 e4 e5 e6 e7 e8 e9
                go_wp2_with fail
                go_roundw
                case rel => exact hideG ⟨k + 1, left', _, wait', by omega, by go_num, HR4.out, HAL'.out, HWM.out, HLN.out.1, HLN.out.2, HT4.out⟩
                case measure => simp [intOf]; omega
              · have hke : out.drop k = [] := List.drop_eq_nil_iff.mpr (by omega)
                rw [hke] at hal
                have hnx := AllR.nil_none hal
                have HX := hideG (next_no wr b (fun _ => False) _ _ l HL1.out (by omega) hok (fun _ k => k.elim) (by simp only; omega) (by simp only; omega) HOF.out hnx)
                have HTU := hideG htu
                clear hal hwm hnx hok htu hll hwl hke
                go_wp2_with fail
                refine HX.out.mono ?_
                rintro ex w3 ⟨rfl, ht3, cur3, hk3⟩
                have HB3 := hideG (Turn.below HB2.out (HTU.out.trans ht3) (by have := HBW.out; have := HB1.out.size; omega))
                have HB4 := hideG (HB3.out.alloc HB3.out.size (.cells #[.int .i64 0, .int .i64 0, .bool false, .bool false, .int .i64 0, .int .i64 0, .int .i64 0, .int .i64 0, .int .i64 0, .bool false] 41))
                obtain ⟨lv, wv, hra, _⟩ := RunOk.below hk3 ((Below.refl _ w3).alloc (Nat.le_refl _) (.cells #[.int .i64 0, .int .i64 0, .bool false, .bool false, .int .i64 0, .int .i64 0, .int .i64 0, .int .i64 0, .int .i64 0, .bool false] 41))
                have HCN := hideG (cancelled_any _ b _ lv wv hra)
                clear ht3 hk3 hra HX
                go_wp2_with fail
                refine HCN.out.mono ?_
                rintro ex wz ⟨rfl, hwz⟩
                obtain rfl : _ = wz := hwz.symm
                go_wp2_with fail
                refine (live9_any _).mono ?_
                rintro ex w5 ⟨rfl, hb5⟩
                have HB5 := hideG (HB4.out.trans (hb5.mono HB4.out.size))
                clear hb5
                go_wp2_with fail
                go_ret
                exact ⟨rfl, HB5.out⟩
end Go.Proofs.Ytpmacpbhdgigfaa
