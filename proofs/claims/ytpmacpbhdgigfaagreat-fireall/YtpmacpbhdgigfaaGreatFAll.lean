/- FireSame, walked. FireAll, walked. -/
import Derived.Test.YtpmacpbhdgigfaaGreatLive9
import Derived.Test.YtpmacpbhdgigfaaGreatFRefs
namespace Go.Proofs.YtpmacpbhdgigfaaGreat
open Go.RowKit
open L8 (Hr hrD HearAt HearsAt forL hearsP hearCells dropL)

theorem few_len {T : List Nd} (h : fewB T = true) : T.length ≤ 1000 := by
  unfold fewB at h
  simp only [Bool.and_eq_true, decide_eq_true_eq] at h
  omega
theorem ownsRow_len {w : World} {base : Nat} {e : TypeId} {size : Nat} {v : Value} {n : Nat} {xs : List Value} (h : w.ownsRow base e size v n xs) : n ≤ 9223372036854775807 := by
  rcases h.2 with ⟨_, h0⟩ | ⟨g, cap, cur, _, _, _, hn, hm, _⟩
  · omega
  · simp only [maxLen] at hm; omega
theorem visitsI_le {T : List Nd} (e : Ev) : (visitsI T e).length ≤ 128 := by
  have h := visK_le (pathI T e) e.bub (pathI T e).length
  rw [visK_all _ _ (Nat.le_refl _)] at h
  have := pathI_le (T := T) e
  unfold visitsI
  omega
theorem getD_hr {l : List Hr} {k : Nat} (h : k < l.length) : l.getD k hrD = l[k] := by rw [List.getD_eq_getElem?_getD, List.getElem?_eq_getElem h]; rfl
theorem drop_cl {l : List Cl} {k : Nat} (h : k < l.length) : l.drop k = l.getD k clD :: l.drop (k + 1) := by
  rw [List.getD_eq_getElem?_getD, List.getElem?_eq_getElem h]; exact List.drop_eq_getElem_cons h
theorem AllR.nil_none {kind : Int} {l : List Hr} {left : List Vi} {cur : Vi} {wait : List Hr} (h : AllR kind l left cur wait []) : nextL l kind left cur wait = none := by
  cases h with
  | done e => exact e

set_option maxRecDepth 100000 in
set_option maxHeartbeats 4000000 in
theorem allNone_any (T : List Nd) (hS : Sane T) (v : Value) (e : Ev) (w : World) (hT : TreeAt w v T) (hb : bothB T e.target e.target = false) (l : List Hr) (vl : Value) (hL : HearsAt w vl l) :
    Calls Tryz.prog 21 #[v, .agg #[.int .i64 e.type, .int .i64 e.target, .int .i64 e.related, .bool e.bub, .bool e.can, .bool e.comp], vl] w fun x w' => x = .returned (.slice none 0 0) ∧ Below w.heap.size w w' := by
  obtain ⟨ta, tc, rfl⟩ := hT.shape
  obtain ⟨va, vc, rfl⟩ := hL.shape
  obtain ⟨W0, hW0⟩ : ∃ W0, w.alloc (.cells #[.int .i64 e.type, .int .i64 e.target, .int .i64 e.related, .bool e.bub, .bool e.can, .bool e.comp] 25) = W0 := ⟨_, rfl⟩
  have HB0 := hideG (show Below w.heap.size w W0 by rw [← hW0]; exact (Below.refl _ w).alloc (Nat.le_refl _) _)
  have HP0 := hideG (show ∀ j u, (#[.int .i64 e.type, .int .i64 e.target, .int .i64 e.related, .bool e.bub, .bool e.can, .bool e.comp] : Array Value)[j]? = some u → W0.cell? ⟨w.heap.size, j, none⟩ = some u from fun j u hj => by
    rw [← hW0]
    have hlt : j < 6 := by have := (Array.getElem?_eq_some_iff.1 hj).1; simpa using this
    have hc : j = 0 ∨ j = 1 ∨ j = 2 ∨ j = 3 ∨ j = 4 ∨ j = 5 := by omega
    rcases hc with rfl | rfl | rfl | rfl | rfl | rfl <;> simpa using hj)
  have HT0 := hideG (hT.below HB0.out)
  have HL0 := hideG (hL.below HB0.out)
  have HSZ := hideG (show w.heap.size < W0.heap.size by rw [← hW0]; simp)
  have HW0 := hideG hW0
  clear hW0 hT hL
  have p0 : W0.cell? ⟨w.heap.size, 0, none⟩ = some (.int .i64 e.type) := HP0.out 0 _ rfl
  have p1 : W0.cell? ⟨w.heap.size, 1, none⟩ = some (.int .i64 e.target) := HP0.out 1 _ rfl
  have p2 : W0.cell? ⟨w.heap.size, 2, none⟩ = some (.int .i64 e.related) := HP0.out 2 _ rfl
  have p3 : W0.cell? ⟨w.heap.size, 3, none⟩ = some (.bool e.bub) := HP0.out 3 _ rfl
  have p4 : W0.cell? ⟨w.heap.size, 4, none⟩ = some (.bool e.can) := HP0.out 4 _ rfl
  have p5 : W0.cell? ⟨w.heap.size, 5, none⟩ = some (.bool e.comp) := HP0.out 5 _ rfl
  have HN := hideG (newNone_any T hS _ e W0 HT0.out hb)
  clear hb hS
  go_enter Tryz.func21, Tryz.ntmps21
  go_wp2_with fail
  rw [HW0.out]
  refine HN.out.mono ?_
  rintro ex w1 ⟨rfl, hb1⟩
  have HB1 := hideG (HB0.out.trans (hb1.mono HB0.out.size))
  clear hb1 p0 p1 p2 p3 p4 p5
  go_wp2_with fail
  refine (nextNil_any va l.length vc w1).mono ?_
  rintro ex w2 ⟨rfl, hb2⟩
  simp only [callZ]
  have HB2 := hideG (HB1.out.trans (hb2.mono HB1.out.size))
  have HB3 := hideG (HB2.out.alloc HB2.out.size (.cells #[.int .i64 0, .int .i64 0, .bool false, .bool false, .int .i64 0, .int .i64 0, .int .i64 0, .int .i64 0, .int .i64 0, .bool false] 41))
  clear hb2
  go_wp2_with fail
  go_loopg [8, 10] 0 (fun g s8 s10 wr => Hid (s8 = .slice none 0 0 ∧ s10 = .bool false ∧ wr = w2.alloc (.cells #[.int .i64 0, .int .i64 0, .bool false, .bool false, .int .i64 0, .int .i64 0, .int .i64 0, .int .i64 0, .int .i64 0, .bool false] 41)))
  case atStart => exact hideG ⟨rfl, rfl, rfl⟩
  case round =>
    obtain ⟨rfl, rfl, hwr⟩ := hrel.out
    clear hrel
    go_wp2_with fail
    go_ret
    exact ⟨rfl, by rw [hwr]; exact HB3.out⟩

end Go.Proofs.YtpmacpbhdgigfaaGreat
namespace Go.Proofs.YtpmacpbhdgigfaaGreat
open Go.RowKit
open L8 (Hr hrD HearAt HearsAt forL hearsP hearCells dropL)

set_option maxRecDepth 100000 in
set_option maxHeartbeats 2000000 in
theorem str_eql (a b c : Int) (w : World) : (binOp .eql 42 (.agg #[.int .i64 a, .int .i64 b, .int .i64 c]) (.agg #[.int .i64 a, .int .i64 b, .int .i64 c])).run Tryz.prog w = .ok (.bool true) w := by
  rw [run_eql_struct, run_equalIn_agg (hp := by kernel_rfl) (ht := by kernel_rfl)]
  simp [go_sem, Op.eqFields, Tryz.underlying42, Tryz.underlying3, Program.fieldsOf]
set_option maxRecDepth 100000 in
set_option maxHeartbeats 4000000 in
theorem same_self (n t : Int) (c o : Bool) (p a b d f : Int) (g : Bool) (w : World) :
    Calls Tryz.prog 23 #[.agg #[.int .i64 n, .int .i64 t, .bool c, .bool o, .int .i64 p, .int .i64 a, .int .i64 b, .int .i64 d, .int .i64 f, .bool g], .agg #[.int .i64 n, .int .i64 t, .bool c, .bool o, .int .i64 p, .int .i64 a, .int .i64 b, .int .i64 d, .int .i64 f, .bool g]] w fun x w' => x = .returned (.bool true) ∧ Below w.heap.size w w' := by
  have e1 : L8.eqC n t c o p n t c o p = true := by simp [L8.eqC]
  have he := fun wx => L8.hear_eql n t c o p n t c o p wx
  rw [e1] at he
  have he2 := fun wx => str_eql a b d wx
  clear e1
  go_enter Tryz.func23, Tryz.ntmps23
  go_wp2_with fail
  go_ret
  exact ⟨rfl, ((Below.refl _ w).alloc (Nat.le_refl _) _).alloc (by simp) _⟩

set_option maxRecDepth 100000 in
set_option maxHeartbeats 16000000 in
theorem fireAll_walk (T : List Nd) (v : Value) (e : Ev) (l : List Hr) (vl : Value) (w : World) (hT : TreeAt w v T) (hL : HearsAt w vl l) :
    Calls Tryz.prog 3 #[v, .agg #[.int .i64 e.type, .int .i64 e.target, .int .i64 e.related, .bool e.bub, .bool e.can, .bool e.comp], vl] w fun x w' => x = .returned (.bool true) ∧ Below w.heap.size w w' := by
  obtain ⟨ta, tc, rfl⟩ := hT.shape
  obtain ⟨va, vc, rfl⟩ := hL.shape
  obtain ⟨W0, hW0⟩ : ∃ W0, w.alloc (.cells #[.int .i64 e.type, .int .i64 e.target, .int .i64 e.related, .bool e.bub, .bool e.can, .bool e.comp] 25) = W0 := ⟨_, rfl⟩
  have HB0 := hideG (show Below w.heap.size w W0 by rw [← hW0]; exact (Below.refl _ w).alloc (Nat.le_refl _) _)
  have HP0 := hideG (show ∀ j u, (#[.int .i64 e.type, .int .i64 e.target, .int .i64 e.related, .bool e.bub, .bool e.can, .bool e.comp] : Array Value)[j]? = some u → W0.cell? ⟨w.heap.size, j, none⟩ = some u from fun j u hj => by
    rw [← hW0]
    have hlt : j < 6 := by have := (Array.getElem?_eq_some_iff.1 hj).1; simpa using this
    have hc : j = 0 ∨ j = 1 ∨ j = 2 ∨ j = 3 ∨ j = 4 ∨ j = 5 := by omega
    rcases hc with rfl | rfl | rfl | rfl | rfl | rfl <;> simpa using hj)
  have HT0 := hideG (hT.below HB0.out)
  have HL0 := hideG (hL.below HB0.out)
  have HSZ := hideG (show w.heap.size < W0.heap.size by rw [← hW0]; simp)
  have HW0 := hideG hW0
  clear hW0 hT hL
  cases hs : fewB T
  · go_enter Tryz.func3, Tryz.ntmps3
    go_wp2_with fail
    rw [HW0.out]
    refine (refFew_any T _ _ HT0.out).mono ?_
    rintro ex wz ⟨rfl, hwz⟩
    obtain rfl : _ = wz := hwz.symm
    rw [hs]
    go_wp2_with fail
    refine (live9_any _).mono ?_
    rintro ex w1 ⟨rfl, hb1⟩
    have HB1 := hideG (HB0.out.trans (hb1.mono HB0.out.size))
    clear hb1
    go_wp2_with fail
    go_ret
    exact ⟨rfl, HB1.out⟩
  · have HS := hideG (small_sane (few_small hs))
    have h6 := few_len hs
    have HFEW := hideG hs
    clear hs
    by_cases hl : 100 < l.length
    · have hl' : (100 : Int) < (l.length : Int) := by omega
      go_enter Tryz.func3, Tryz.ntmps3
      go_wp2_with fail
      rw [HW0.out]
      refine (refFew_any T _ _ HT0.out).mono ?_
      rintro ex wz ⟨rfl, hwz⟩
      obtain rfl : _ = wz := hwz.symm
      rw [HFEW.out]
      go_wp2_with fail
      refine (live9_any _).mono ?_
      rintro ex w1 ⟨rfl, hb1⟩
      have HB1 := hideG (HB0.out.trans (hb1.mono HB0.out.size))
      clear hb1
      go_wp2_with fail
      go_ret
      exact ⟨rfl, HB1.out⟩
    · have hl' : (l.length : Int) ≤ 100 := by omega
      have p0 : W0.cell? ⟨w.heap.size, 0, none⟩ = some (.int .i64 e.type) := HP0.out 0 _ rfl
      have p1 : W0.cell? ⟨w.heap.size, 1, none⟩ = some (.int .i64 e.target) := HP0.out 1 _ rfl
      have p2 : W0.cell? ⟨w.heap.size, 2, none⟩ = some (.int .i64 e.related) := HP0.out 2 _ rfl
      have p3 : W0.cell? ⟨w.heap.size, 3, none⟩ = some (.bool e.bub) := HP0.out 3 _ rfl
      have p4 : W0.cell? ⟨w.heap.size, 4, none⟩ = some (.bool e.can) := HP0.out 4 _ rfl
      have p5 : W0.cell? ⟨w.heap.size, 5, none⟩ = some (.bool e.comp) := HP0.out 5 _ rfl
      cases hb : bothB T e.target e.target
      · have HA := hideG (allNone_any T HS.out _ e W0 HT0.out hb l _ HL0.out)
        have EB := hideG hb
        clear hb
        go_enter Tryz.func3, Tryz.ntmps3
        go_wp2_with fail
        rw [HW0.out]
        refine (refFew_any T _ _ HT0.out).mono ?_
        rintro ex wz ⟨rfl, hwz⟩
        obtain rfl : _ = wz := hwz.symm
        rw [HFEW.out]
        go_wp2_with fail
        refine HA.out.mono ?_
        rintro ex w1 ⟨rfl, hb1⟩
        have HT1 := hideG (HT0.out.below hb1)
        have HB1 := hideG (HB0.out.trans (hb1.mono HB0.out.size))
        have q0 : w1.cell? ⟨w.heap.size, 0, none⟩ = some (.int .i64 e.type) := cell_below hb1 (HP0.out 0 _ rfl)
        have q1 : w1.cell? ⟨w.heap.size, 1, none⟩ = some (.int .i64 e.target) := cell_below hb1 (HP0.out 1 _ rfl)
        have q2 : w1.cell? ⟨w.heap.size, 2, none⟩ = some (.int .i64 e.related) := cell_below hb1 (HP0.out 2 _ rfl)
        have q3 : w1.cell? ⟨w.heap.size, 3, none⟩ = some (.bool e.bub) := cell_below hb1 (HP0.out 3 _ rfl)
        have q4 : w1.cell? ⟨w.heap.size, 4, none⟩ = some (.bool e.can) := cell_below hb1 (HP0.out 4 _ rfl)
        have q5 : w1.cell? ⟨w.heap.size, 5, none⟩ = some (.bool e.comp) := cell_below hb1 (HP0.out 5 _ rfl)
        clear hb1 p0 p1 p2 p3 p4 p5
        go_wp2_with fail
        refine (refAllNone_any T HS.out _ e w1 HT1.out EB.out va l.length vc).mono ?_
        rintro ex w2 ⟨rfl, hb2⟩
        have HB2 := hideG (HB1.out.trans (hb2.mono HB1.out.size))
        clear hb2 q0 q1 q2 q3 q4 q5
        go_wp2_with fail
        go_loop [9] (fun i => i = .int .i64 0) (fun _ => 0)
        case atStart => rfl
        case round =>
          subst hrel
          go_wp2_with fail
          refine (live9_any _).mono ?_
          rintro ex w3 ⟨rfl, hb3⟩
          have HB3 := hideG (HB2.out.trans (hb3.mono HB2.out.size))
          clear hb3
          go_wp2_with fail
          go_ret
          exact ⟨rfl, HB3.out⟩
      · obtain ⟨hm, ⟨tg, htg, htl⟩, _⟩ := both_true hb
        have HA := hideG (all_any T HS.out _ e W0 HT0.out (by omega) l _ HL0.out (by omega) hm tg htg htl (Nat.le_trans (visitsI_le e) (by omega)))
        have HM := hideG (show mayB T = true ∧ e.target = (tg : Int) ∧ tg < T.length from ⟨hm, htg, htl⟩)
        clear hm htg htl hb
        go_enter Tryz.func3, Tryz.ntmps3
        go_wp2_with fail
        rw [HW0.out]
        refine (refFew_any T _ _ HT0.out).mono ?_
        rintro ex wz ⟨rfl, hwz⟩
        obtain rfl : _ = wz := hwz.symm
        rw [HFEW.out]
        go_wp2_with fail
        refine HA.out.mono ?_
        rintro ex w1 ⟨a1, c1, out, rfl, ho1, hal, hb1⟩
        have HT1 := hideG (HT0.out.below hb1)
        have HB1 := hideG (HB0.out.trans (hb1.mono HB0.out.size))
        have HAL := hideG hal
        have HCS := hideG (ownsRow_calls ho1)
        have hol := ownsRow_len ho1
        have HN := hideG (refAll_any T HS.out _ e w1 HT1.out l _ (HL0.out.below hb1) (by omega) HM.out.1 tg HM.out.2.1 HM.out.2.2 (Nat.le_trans (visitsI_le e) (by omega)))
        have q0 : w1.cell? ⟨w.heap.size, 0, none⟩ = some (.int .i64 e.type) := cell_below hb1 (HP0.out 0 _ rfl)
        have q1 : w1.cell? ⟨w.heap.size, 1, none⟩ = some (.int .i64 e.target) := cell_below hb1 (HP0.out 1 _ rfl)
        have q2 : w1.cell? ⟨w.heap.size, 2, none⟩ = some (.int .i64 e.related) := cell_below hb1 (HP0.out 2 _ rfl)
        have q3 : w1.cell? ⟨w.heap.size, 3, none⟩ = some (.bool e.bub) := cell_below hb1 (HP0.out 3 _ rfl)
        have q4 : w1.cell? ⟨w.heap.size, 4, none⟩ = some (.bool e.can) := cell_below hb1 (HP0.out 4 _ rfl)
        have q5 : w1.cell? ⟨w.heap.size, 5, none⟩ = some (.bool e.comp) := cell_below hb1 (HP0.out 5 _ rfl)
        clear hb1 p0 p1 p2 p3 p4 p5 ho1 hal HA
        go_wp2_with fail
        refine HN.out.mono ?_
        rintro ex w2 ⟨a2, c2, out2, rfl, ho2, hal2, hb2⟩
        obtain rfl : out2 = out := AllR.det hal2 HAL.out
        have HC1 := hideG (HCS.out.below hb2)
        have HC2 := hideG (ownsRow_calls ho2)
        have HB2 := hideG (HB1.out.trans (hb2.mono HB1.out.size))
        clear hb2 ho2 hal2 q0 q1 q2 q3 q4 q5 HN HCS HAL
        go_wp2_with fail
        go_loopw [9] (fun i wr => ∃ k : Nat, k ≤ out2.length ∧ i = .int .i64 (k : Int) ∧ Below w2.heap.size w2 wr) (fun i _ => out2.length - (intOf i).toNat)
        case atStart => exact ⟨0, Nat.zero_le _, rfl, Below.refl _ _⟩
        case round =>
          obtain ⟨k, hk, rfl, hB⟩ := hrel
          have HB := hideG hB
          clear hB
          by_cases hlt : k < out2.length
          · obtain ⟨x1, y1, hv1, hcap1, hd1⟩ := HC1.out
            injection hv1 with u1 u2 u3
            subst u1
            subst u3
            clear u2
            obtain ⟨b1, o1, rfl, hd1'⟩ := hd1 (by omega)
            obtain ⟨x2, y2, hv2, hcap2, hd2⟩ := HC2.out
            injection hv2 with u1 u2 u3
            subst u1
            subst u3
            clear u2
            obtain ⟨b2, o2, rfl, hd2'⟩ := hd2 (by omega)
            have hCa := (hd1' k hlt).below HB.out
            have hCb := (hd2' k hlt).below HB.out
            generalize out2.getD k clD = c at *
            obtain ⟨⟨n0, t0, c0, o0, pp⟩, ⟨⟨s0, s1, s2⟩, ph, cc⟩⟩ := c
            obtain ⟨d0, d1, d2, d3, d4, d5, d6, d7, d8, d9⟩ := hCa
            obtain ⟨e0, e1, e2, e3, e4, e5, e6, e7, e8, e9⟩ := hCb
            dsimp only at d0 d1 d2 d3 d4 d5 d6 d7 d8 d9 e0 e1 e2 e3 e4 e5 e6 e7 e8 e9
            have hk0 : (0 : Int) ≤ (k : Int) := by omega
            have hq1 : b1 < wr.heap.size := below_of_cell d0
            have hq2 : b2 < wr.heap.size := below_of_cell e0
            have hcq : ∀ (d : Calm wr) (b o : Nat), b < wr.heap.size → d.to.cell? ⟨b, o, none⟩ = wr.cell? ⟨b, o, none⟩ := calmCell
            have HSM := hideG (show ∀ U, Below wr.heap.size wr U → Calls Tryz.prog 23 #[.agg #[.int .i64 n0, .int .i64 t0, .bool c0, .bool o0, .int .i64 pp, .int .i64 s0, .int .i64 s1, .int .i64 s2, .int .i64 ph, .bool cc], .agg #[.int .i64 n0, .int .i64 t0, .bool c0, .bool o0, .int .i64 pp, .int .i64 s0, .int .i64 s1, .int .i64 s2, .int .i64 ph, .bool cc]] U (fun x w' => x = .returned (.bool true) ∧ Below wr.heap.size wr w') from fun U hU => by
              refine (same_self n0 t0 c0 o0 pp s0 s1 s2 ph cc U).mono ?_
              rintro x w' ⟨rfl, hb⟩
              exact ⟨rfl, hU.trans (hb.mono hU.size)⟩)
            clear hd1 hd1' hd2 hd2'
            go_wp2_with fail
            refine wp_region_calm (by kernel_rfl) (by kernel_rfl) ?_
            repeat (go_big_quiet_step (first | (go_at_call 23; refine Calls.mono (HSM.out _ (Calm.below _)) ?_; rintro ex wx ⟨rfl, hbx⟩; exact ⟨rfl, ⟨wx, hbx⟩, rfl⟩)))
            refine wpQuiet_nil ?_
            intro _ hw'
            obtain ⟨dq, hw''⟩ := hw'
            subst hw''
            have HB4 := hideG (HB.out.trans (dq.below.mono HB.out.size))
            generalize dq.to = w4 at *
            clear dq hcq d0 d1 d2 d3 d4 d5 d6 d7 d8 d9 e0 e1 e2 e3 e4 e5 e6 e7 e8 e9
            go_wp2_with fail
            go_roundw
            case rel => exact ⟨k + 1, by omega, by go_num, HB4.out⟩
            case measure => simp [intOf]; omega
          · have HBE := hideG (HB2.out.trans (HB.out.mono HB2.out.size))
            go_wp2_with fail
            refine (live9_any _).mono ?_
            rintro ex w6 ⟨rfl, hb6⟩
            have HB6 := hideG (HBE.out.trans (hb6.mono HBE.out.size))
            clear hb6
            go_wp2_with fail
            go_ret
            exact ⟨rfl, HB6.out⟩
end Go.Proofs.YtpmacpbhdgigfaaGreat
