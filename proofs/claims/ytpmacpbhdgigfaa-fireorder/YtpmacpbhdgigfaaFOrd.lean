/- FireOrder, walked. -/
import Derived.Test.YtpmacpbhdgigfaaFSame
import Derived.Test.YtpmacpbhdgigfaaFCheck
namespace Go.Proofs.Ytpmacpbhdgigfaa
open Go.RowKit
open L8 (Hr hrD HearAt HearsAt forL hearsP hearCells dropL badH hasB findL find_self hear_eql eqC eqC_hr)

theorem plL_hit {h : Hr} : ∀ {l : List Hr} {k : Nat}, k < l.length → l.getD k hrD = h → (∀ j, j < k → l.getD j hrD ≠ h) → plL h l = k
  | [], k, hk, _, _ => by simp at hk
  | x :: l, 0, _, e, _ => by simp at e; simp [plL, e]
  | x :: l, k + 1, hk, e, hn => by
    have h0 := hn 0 (by omega)
    simp at h0
    have := plL_hit (l := l) (k := k) (by simpa using hk) (by simpa using e) (fun j hj => by have := hn (j + 1) (by omega); simpa using this)
    simp [plL, h0, this]
theorem plL_miss {h : Hr} : ∀ {l : List Hr}, (∀ j, j < l.length → l.getD j hrD ≠ h) → plL h l = l.length
  | [], _ => rfl
  | x :: l, hn => by
    have h0 := hn 0 (by simp)
    simp at h0
    have := plL_miss (l := l) (fun j hj => by have := hn (j + 1) (by simpa using hj); simpa using this)
    simp [plL, h0, this]
theorem hasB_mem {l : List Hr} {h : Hr} (hm : h ∈ l) : hasB l h = true := by
  obtain ⟨j, hj, rfl⟩ := List.getElem_of_mem hm
  have := find_self (l := l) hj
  rw [getD_hr hj] at this
  unfold hasB
  exact decide_eq_true (by omega)
theorem nodup_of_check {l : List Hr} {n : Int} (h : L8.checkE l n = 0) : l.length ≤ 64 ∧ l.Nodup := by
  unfold L8.checkE at h
  split at h
  · exact absurd h (by decide)
  · split at h
    · exact absurd h (by decide)
    · rename_i h1 h2
      refine ⟨by omega, ?_⟩
      rw [List.Nodup, List.pairwise_iff_getElem]
      intro i j hi hj hij e
      apply h2
      refine List.any_eq_true.mpr ⟨j, List.mem_range.mpr hj, ?_⟩
      unfold badH
      rw [getD_hr hj]
      have : hasB (l.take j) l[j] = true := hasB_mem (by
        rw [← e]
        have h3 : i < (l.take j).length := by rw [List.length_take]; omega
        have := List.getElem_mem h3
        rwa [List.getElem_take] at this)
      rw [this]
      simp

set_option maxRecDepth 100000 in
set_option maxHeartbeats 4000000 in
theorem placeH_any (l : List Hr) (h : Hr) (v : Value) (w : World) (hL : HearsAt w v l) (hl : l.length ≤ 1000000) :
    Calls Try.prog 11 #[v, .agg #[.int .i64 h.node, .int .i64 h.type, .bool h.cap, .bool h.once, .int .i64 h.prog]] w fun x w' => x = .returned (.int .i64 (plI l h)) ∧ Below w.heap.size w w' := by
  obtain ⟨va, vc, rfl⟩ := hL.shape
  obtain ⟨W0, hW0⟩ : ∃ W0, w.alloc (.cells #[.int .i64 h.node, .int .i64 h.type, .bool h.cap, .bool h.once, .int .i64 h.prog] 35) = W0 := ⟨_, rfl⟩
  have HH : Hid (HearAt W0 w.heap.size 0 h) := by rw [← hW0]; exact ⟨by simp, by simp, by simp, by simp, by simp⟩
  have HB0 := hideG (show Below w.heap.size w W0 by rw [← hW0]; exact (Below.refl _ w).alloc (Nat.le_refl _) _)
  have HL0 := hideG (hL.below HB0.out)
  have HW0 := hideG hW0
  clear hL hW0
  go_enter Try.func11, Try.ntmps11
  go_wp2_with fail
  rw [HW0.out]
  go_loopw [5] (fun i wr => ∃ k : Nat, k ≤ l.length ∧ i = .int .i64 (k : Int) ∧ (∀ j, j < k → l.getD j hrD ≠ h) ∧ Below W0.heap.size W0 wr) (fun i _ => l.length - (intOf i).toNat)
  case atStart => exact ⟨0, Nat.zero_le _, rfl, fun j hj => by omega, Below.refl _ _⟩
  case round =>
    obtain ⟨k, hk, rfl, hno, hB⟩ := hrel
    have HNO := hideG hno
    have HB := hideG hB
    have HBW := hideG (HB0.out.trans (hB.mono HB0.out.size))
    by_cases hlt : k < l.length
    · obtain ⟨a', c', hv, _, hd⟩ := HL0.out
      injection hv with e1 e2 e3
      subst e1
      clear e2 e3
      obtain ⟨b, off, rfl, hd'⟩ := hd (by omega)
      have hH := (hd' k hlt).below HB.out
      have hG := HH.out.below HB.out
      generalize hx : l.getD k hrD = x at *
      have d0 := hH.node
      have d1 := hH.type
      have d2 := hH.cap
      have d3 := hH.once
      have d4 := hH.prog
      have e0 := hG.node
      have e1 := hG.type
      have e2 := hG.cap
      have e3 := hG.once
      have e4 := hG.prog
      have hb1 : b < wr.heap.size := below_of_cell d0
      have hb2 : w.heap.size < wr.heap.size := below_of_cell e0
      have hk0 : (0 : Int) ≤ (k : Int) := by omega
      have HX := hideG hx
      have heq := eqC_hr x h
      have hcc : ∀ (d : Calm wr) (b o : Nat), b < wr.heap.size → d.to.cell? ⟨b, o, none⟩ = wr.cell? ⟨b, o, none⟩ := calmCell
      have he := fun wx => hear_eql x.node x.type x.cap x.once x.prog h.node h.type h.cap h.once h.prog wx
      clear hno hB hH hG hd hd' hx
      by_cases hxe : x = h
      · rw [decide_eq_true hxe] at heq
        rw [heq] at he
        have HQ := hideG (show plI l h = (k : Int) by
          have := plL_hit hlt (by rw [HX.out]; exact hxe) HNO.out
          unfold plI; rw [this, if_pos hlt])
        clear heq hxe
        go_wp2_with fail
        refine wp_region_calm (by kernel_rfl) (by kernel_rfl) ?_
        repeat (go_big_quiet_step (fail))
        refine wpQuiet_nil ?_
        intro _ hw'
        obtain ⟨dq, hw''⟩ := hw'
        subst hw''
        have HB9 := hideG (HBW.out.trans (dq.below.mono HBW.out.size))
        generalize dq.to = wd at *
        clear dq hcc he d0 d1 d2 d3 d4 e0 e1 e2 e3 e4
        go_wp2_with fail
        go_ret
        exact ⟨ret_int HQ.out.symm, HB9.out⟩
      · rw [decide_eq_false hxe] at heq
        rw [heq] at he
        have HO := hideG hxe
        clear heq hxe
        go_wp2_with fail
        refine wp_region_calm (by kernel_rfl) (by kernel_rfl) ?_
        repeat (go_big_quiet_step (fail))
        refine wpQuiet_nil ?_
        intro _ hw'
        obtain ⟨dq, hw''⟩ := hw'
        subst hw''
        have HB9 := hideG (HB.out.trans (dq.below.mono HB.out.size))
        generalize dq.to = wd at *
        clear dq hcc he d0 d1 d2 d3 d4 e0 e1 e2 e3 e4
        go_wp2_with fail
        go_roundw
        case rel => exact ⟨k + 1, by omega, by go_num, fun j hj => by
          by_cases q : j = k
          · subst q; rw [HX.out]; exact HO.out
          · exact HNO.out j (by omega), HB9.out⟩
        case measure => simp [intOf]; omega
    · have HQ := hideG (show plI l h = -1 by
        have := plL_miss (fun j hj => HNO.out j (by omega) : ∀ j, j < l.length → l.getD j hrD ≠ h)
        unfold plI; rw [this]; simp)
      clear hno hB
      go_wp2_with fail
      go_ret
      exact ⟨ret_int HQ.out.symm, HBW.out⟩

/-- What FireOrder asks of each call. -/
theorem order_facts {T : List Nd} (hm : mayB T = true) {e : Ev} {tg : Nat} (he : e.target = (tg : Int)) (ht : tg < T.length) {l : List Hr} (hnd : l.Nodup) {out : List Cl} (ha : AllR e.type l (visitsI T e) viD [] out) {k : Nat} (hk : k < out.length) :
    (out.getD k clD).1.type = e.type ∧ (out.getD k clD).1.node = (out.getD k clD).2.s.node ∧ (out.getD k clD).1.cap = (out.getD k clD).2.cap ∧ (out.getD k clD).1 ∈ l ∧
      ∀ j, j < k → (out.getD j clD).1 ≠ (out.getD k clD).1 ∧ ((out.getD j clD).2 = (out.getD k clD).2 → plL (out.getD j clD).1 l ≤ plL (out.getD k clD).1 l) := by
  have gd : ∀ j, j < out.length → out.getD j clD = out[j]! := fun j hj => by rw [List.getD_eq_getElem?_getD, List.getElem!_eq_getElem?_getD, List.getElem?_eq_getElem hj]; rfl
  have ge : ∀ {j : Nat} (hj : j < out.length), out.getD j clD = out[j] := fun hj => by rw [List.getD_eq_getElem?_getD, List.getElem?_eq_getElem hj]; rfl
  have hp : pathI T e = pathA T e tg := by unfold pathI; rw [he, known_of hm ht]; simp
  have hkeys : ((visitsI T e).map keyV).Nodup := visits_keys (by rw [hp]; exact pathA_nodup hm e ht) e.bub
  have hmem := ha.mem (List.Sublist.refl l) out[k] (List.getElem_mem hk)
  have hpair := ha.pair hnd (List.Sublist.refl l) (List.nil_sublist _) hkeys (fun h => (h rfl).elim)
  rw [ge hk]
  rcases hmem with ⟨_, h⟩ | ⟨_, h⟩
  · cases h
  · obtain ⟨h1, h2, h3, h4⟩ := forL_mem.mp h
    refine ⟨h3, h2, h4, h1, fun j hj => ?_⟩
    have hj' : j < out.length := by omega
    rw [ge hj']
    obtain ⟨p1, p2⟩ := (List.pairwise_iff_getElem.mp hpair) j k hj' hk hj
    exact ⟨p1, fun q => plL_sub hnd (p2 q)⟩
theorem eqV_iff (a b : Vi) : eqV a.s.node a.s.tg a.s.rel a.phase a.cap b.s.node b.s.tg b.s.rel b.phase b.cap = decide (a = b) := by
  obtain ⟨⟨a1, a2, a3⟩, a4, a5⟩ := a
  obtain ⟨⟨b1, b2, b3⟩, b4, b5⟩ := b
  rw [Bool.eq_iff_iff]
  simp [eqV, and_assoc]

set_option maxRecDepth 100000 in
set_option maxHeartbeats 16000000 in
theorem fireOrder_walk (T : List Nd) (v : Value) (e : Ev) (l : List Hr) (vl : Value) (w : World) (hT : TreeAt w v T) (hL : HearsAt w vl l) (hl : l.length ≤ 9223372036854775807) :
    Calls Try.prog 3 #[v, .agg #[.int .i64 e.type, .int .i64 e.target, .int .i64 e.related, .bool e.bub, .bool e.can, .bool e.comp], vl] w fun x w' => x = .returned (.bool true) ∧ Below w.heap.size w w' := by
  obtain ⟨ta, tc, rfl⟩ := hT.shape
  obtain ⟨va, vc, rfl⟩ := hL.shape
  obtain ⟨W0, hW0⟩ : ∃ W0, w.alloc (.cells #[.int .i64 e.type, .int .i64 e.target, .int .i64 e.related, .bool e.bub, .bool e.can, .bool e.comp] 25) = W0 := ⟨_, rfl⟩
  have HB0 := hideG (show Below w.heap.size w W0 by rw [← hW0]; exact (Below.refl _ w).alloc (Nat.le_refl _) _)
  have HP0 := hideG (show ∀ j u, (#[.int .i64 e.type, .int .i64 e.target, .int .i64 e.related, .bool e.bub, .bool e.can, .bool e.comp] : Array Value)[j]? = some u → W0.cell? ⟨w.heap.size, j, none⟩ = some u from fun j u hj => by
    rw [← hW0]
    have hlt : j < 6 := by have := (Array.getElem?_eq_some_iff.1 hj).1; simpa using this
    have hc : j = 0 ∨ j = 1 ∨ j = 2 ∨ j = 3 ∨ j = 4 ∨ j = 5 := by omega
    rcases hc with rfl | rfl | rfl | rfl | rfl | rfl <;> simpa using hj)
  have HT0 := hideG (hT.below HB0.out)
  have HL0 := hideG (hL.below HB0.out)
  have HSZ := hideG (show w.heap.size < W0.heap.size by rw [← hW0]; simp)
  have HW0 := hideG hW0
  clear hW0 hT hL
  cases hs : fewB T
  · clear hl
    go_enter Try.func3, Try.ntmps3
    go_wp2_with fail
    rw [HW0.out]
    refine (refFew_any T _ _ HT0.out).mono ?_
    rintro ex wz ⟨rfl, hwz⟩
    obtain rfl : _ = wz := hwz.symm
    rw [hs]
    go_wp2_with fail
    refine (live9_any _).mono ?_
    rintro ex w1 ⟨rfl, hb1⟩
    have HB1 := hideG (HB0.out.trans (hb1.mono HB0.out.size))
    clear hb1
    go_wp2_with fail
    go_ret
    exact ⟨rfl, HB1.out⟩
  · have HS := hideG (small_sane (few_small hs))
    have h6 := few_len hs
    have HFEW := hideG hs
    have HCK := hideG (L8.refCheckM_any l 64 _ W0 HL0.out hl)
    clear hs hl
    cases hck : (L8.checkE l 64 == 0)
    · have hne : (L8.checkE l 64 != 0) = true := by simp [bne, hck]
      go_enter Try.func3, Try.ntmps3
      go_wp2_with fail
      rw [HW0.out]
      refine (refFew_any T _ _ HT0.out).mono ?_
      rintro ex wz ⟨rfl, hwz⟩
      obtain rfl : _ = wz := hwz.symm
      rw [HFEW.out]
      go_wp2_with fail
      refine HCK.out.mono ?_
      rintro ex w1 ⟨rfl, hb1⟩
      have HB1 := hideG (HB0.out.trans (hb1.mono HB0.out.size))
      clear hb1
      go_wp2_with fail
      refine (live9_any _).mono ?_
      rintro ex w2 ⟨rfl, hb2⟩
      have HB2 := hideG (HB1.out.trans (hb2.mono HB1.out.size))
      clear hb2
      go_wp2_with fail
      go_ret
      exact ⟨rfl, HB2.out⟩
    · have hc0 : L8.checkE l 64 = 0 := by simpa using hck
      obtain ⟨hl64, hnd⟩ := nodup_of_check hc0
      rw [hc0] at HCK
      have HND := hideG hnd
      clear hck hc0 hnd
      cases hb : bothB T e.target e.target
      · have EB := hideG hb
        clear hb
        go_enter Try.func3, Try.ntmps3
        go_wp2_with fail
        rw [HW0.out]
        refine (refFew_any T _ _ HT0.out).mono ?_
        rintro ex wz ⟨rfl, hwz⟩
        obtain rfl : _ = wz := hwz.symm
        rw [HFEW.out]
        go_wp2_with fail
        refine HCK.out.mono ?_
        rintro ex w1 ⟨rfl, hb1⟩
        have HT1 := hideG (HT0.out.below hb1)
        have HB1 := hideG (HB0.out.trans (hb1.mono HB0.out.size))
        have p1 : w1.cell? ⟨w.heap.size, 1, none⟩ = some (.int .i64 e.target) := cell_below hb1 (HP0.out 1 _ rfl)
        clear hb1
        go_wp2_with fail
        refine (refBoth_any T HS.out _ _ _ _ HT1.out).mono ?_
        rintro ex w2 ⟨rfl, hb2⟩
        rw [EB.out]
        have HB2 := hideG (HB1.out.trans (hb2.mono HB1.out.size))
        clear hb2 p1
        go_wp2_with fail
        refine (live9_any _).mono ?_
        rintro ex w3 ⟨rfl, hb3⟩
        have HB3 := hideG (HB2.out.trans (hb3.mono HB2.out.size))
        clear hb3
        go_wp2_with fail
        go_ret
        exact ⟨rfl, HB3.out⟩
      · obtain ⟨hm, ⟨tg, htg, htl⟩, _⟩ := both_true hb
        have EB := hideG hb
        have HM := hideG (show mayB T = true ∧ e.target = (tg : Int) ∧ tg < T.length from ⟨hm, htg, htl⟩)
        clear hb hm htg htl
        go_enter Try.func3, Try.ntmps3
        go_wp2_with fail
        rw [HW0.out]
        refine (refFew_any T _ _ HT0.out).mono ?_
        rintro ex wz ⟨rfl, hwz⟩
        obtain rfl : _ = wz := hwz.symm
        rw [HFEW.out]
        go_wp2_with fail
        refine HCK.out.mono ?_
        rintro ex w1 ⟨rfl, hb1⟩
        have HT1 := hideG (HT0.out.below hb1)
        have HB1 := hideG (HB0.out.trans (hb1.mono HB0.out.size))
        have HX1 := hideG hb1
        have p1 : w1.cell? ⟨w.heap.size, 1, none⟩ = some (.int .i64 e.target) := cell_below hb1 (HP0.out 1 _ rfl)
        clear hb1
        go_wp2_with fail
        refine (refBoth_any T HS.out _ _ _ _ HT1.out).mono ?_
        rintro ex w2 ⟨rfl, hb2⟩
        rw [EB.out]
        have HT2 := hideG (HT1.out.below hb2)
        have HB2 := hideG (HB1.out.trans (hb2.mono HB1.out.size))
        have HX2 := hideG (HX1.out.trans (hb2.mono HX1.out.size))
        clear hb2 p1
        have HL2 := hideG (HL0.out.below HX2.out)
        have HA := hideG (all_any T HS.out _ e w2 HT2.out (by omega) l _ HL2.out (by omega) HM.out.1 tg HM.out.2.1 HM.out.2.2 (Nat.le_trans (visitsI_le e) (by omega)))
        have q0 : w2.cell? ⟨w.heap.size, 0, none⟩ = some (.int .i64 e.type) := cell_below HX2.out (HP0.out 0 _ rfl)
        have q1 : w2.cell? ⟨w.heap.size, 1, none⟩ = some (.int .i64 e.target) := cell_below HX2.out (HP0.out 1 _ rfl)
        have q2 : w2.cell? ⟨w.heap.size, 2, none⟩ = some (.int .i64 e.related) := cell_below HX2.out (HP0.out 2 _ rfl)
        have q3 : w2.cell? ⟨w.heap.size, 3, none⟩ = some (.bool e.bub) := cell_below HX2.out (HP0.out 3 _ rfl)
        have q4 : w2.cell? ⟨w.heap.size, 4, none⟩ = some (.bool e.can) := cell_below HX2.out (HP0.out 4 _ rfl)
        have q5 : w2.cell? ⟨w.heap.size, 5, none⟩ = some (.bool e.comp) := cell_below HX2.out (HP0.out 5 _ rfl)
        go_wp2_with fail
        refine HA.out.mono ?_
        rintro ex w3 ⟨a1, c1, out, rfl, ho1, hal, hb3⟩
        have HF := hideG (fun (k : Nat) (hk : k < out.length) => order_facts HM.out.1 HM.out.2.1 HM.out.2.2 HND.out hal hk)
        have HCS := hideG (ownsRow_calls ho1)
        have hol := ownsRow_len ho1
        have HB3 := hideG (HB2.out.trans (hb3.mono HB2.out.size))
        have HL3 := hideG (HL2.out.below hb3)
        have HX3 := hideG (HX2.out.trans (hb3.mono HX2.out.size))
        clear hb3 ho1 hal HA q0 q1 q2 q3 q4 q5
        go_wp2_with fail
        go_loopw [8] (fun i wr => ∃ k : Nat, k ≤ out.length ∧ i = .int .i64 (k : Int) ∧ Below w3.heap.size w3 wr) (fun i _ => out.length - (intOf i).toNat)
        case atStart => exact ⟨0, Nat.zero_le _, rfl, Below.refl _ _⟩
        case round =>
          obtain ⟨k, hk, rfl, hB⟩ := hrel
          have HB := hideG hB
          clear hB
          by_cases hlt : k < out.length
          · obtain ⟨ca', cc', hv, hcap, hd⟩ := HCS.out
            injection hv with x1 x2 x3
            subst x1
            subst x3
            clear x2
            obtain ⟨ab, ao, rfl, hd'⟩ := hd (by omega)
            have hC := (hd' k hlt).below HB.out
            have HDD := hideG hd'
            have hab : ab < w3.heap.size := below_of_cell (hd' k hlt).c0
            obtain ⟨f1, f2, f3, f4, f5⟩ := HF.out k hlt
            obtain ⟨c, hc⟩ : ∃ c, out.getD k clD = c := ⟨_, rfl⟩
            rw [hc] at f1 f2 f3 f4 f5 hC
            clear hc
            obtain ⟨⟨n0, t0, c0, o0, pp⟩, ⟨⟨s0, s1, s2⟩, ph, cc⟩⟩ := c
            dsimp only at f1 f2 f3 f4 f5
            replace f2 := f2.symm
            replace f3 := f3.symm
            subst f1 f2 f3
            have HIN := hideG (plI_mem f4)
            have HF5 := hideG f5
            obtain ⟨d0, d1, d2, d3, d4, d5, d6, d7, d8, d9⟩ := hC
            dsimp only at d0 d1 d2 d3 d4 d5 d6 d7 d8 d9
            have hk0 : (0 : Int) ≤ (k : Int) := by omega
            obtain ⟨V, hV⟩ : ∃ V, wr.alloc (.cells #[.int .i64 s0, .int .i64 e.type, .bool cc, .bool o0, .int .i64 pp, .int .i64 s0, .int .i64 s1, .int .i64 s2, .int .i64 ph, .bool cc] 41) = V := ⟨_, rfl⟩
            have HBV := hideG (show Below w3.heap.size w3 V by rw [← hV]; exact HB.out.alloc HB.out.size _)
            have HVC := hideG (show CallAt V wr.heap.size 0 ((⟨s0, e.type, cc, o0, pp⟩, ⟨⟨s0, s1, s2⟩, ph, cc⟩) : Cl) by rw [← hV]; exact callAt_new wr 41 ((⟨s0, e.type, cc, o0, pp⟩, ⟨⟨s0, s1, s2⟩, ph, cc⟩) : Cl))
            have p0 : V.cell? ⟨w.heap.size, 0, none⟩ = some (.int .i64 e.type) := cell_below HBV.out (cell_below HX3.out (HP0.out 0 _ rfl))
            obtain ⟨e0, e1, e2, e3, e4, e5, e6, e7, e8, e9⟩ := HVC.out
            dsimp only [Nat.zero_add] at e0 e1 e2 e3 e4 e5 e6 e7 e8 e9
            have HAB := hideG hab
            have HV := hideG hV
            clear f4 f5 hV hd hd' hab
            go_wp2_with (first | rw [HV.out])
            clear HV HB p0 d0 d1 d2 d3 d4 d5 d6 d7 d8 d9 e0 e1 e2 e3 e4 e5 e6 e7 e8 e9
            generalize wr.heap.size = g at *
            go_loopw [10] (fun i wr => ∃ j : Nat, j ≤ k ∧ i = .int .i64 (j : Int) ∧ Below V.heap.size V wr) (fun i _ => k - (intOf i).toNat)
            case atStart => exact ⟨0, Nat.zero_le _, rfl, Below.refl _ _⟩
            case round =>
              obtain ⟨j, hj, rfl, hB⟩ := hrel
              have HB := hideG hB
              have HB3w := hideG (HBV.out.trans (hB.mono HBV.out.size))
              obtain ⟨e0, e1, e2, e3, e4, e5, e6, e7, e8, e9⟩ := HVC.out.below hB
              dsimp only [Nat.zero_add] at e0 e1 e2 e3 e4 e5 e6 e7 e8 e9
              have hgl : g < wr.heap.size := below_of_cell e0
              clear hB
              by_cases hjk : j < k
              · obtain ⟨d0, d1, d2, d3, d4, d5, d6, d7, d8, d9⟩ := (HDD.out j (by omega)).below HB3w.out
                obtain ⟨g1, g2⟩ := HF5.out j hjk
                generalize out.getD j clD = d at *
                obtain ⟨dh, dv⟩ := d
                have hq1 := eqC_hr dh ⟨s0, e.type, cc, o0, pp⟩
                rw [decide_eq_false g1] at hq1
                have he1 := fun wx => hear_eql dh.node dh.type dh.cap dh.once dh.prog s0 e.type cc o0 pp wx
                dsimp only at hq1
                rw [hq1] at he1
                have hq2 := eqV_iff dv ⟨⟨s0, s1, s2⟩, ph, cc⟩
                have he2 := fun wx => vi_eqB dv.s.node dv.s.tg dv.s.rel dv.phase dv.cap s0 s1 s2 ph cc wx
                dsimp only at hq2 d0 d1 d2 d3 d4 d5 d6 d7 d8 d9
                rw [hq2] at he2
                have hj0 : (0 : Int) ≤ (j : Int) := by omega
                have hja : j < out.length := by omega
                have hjl : (j : Int) < (out.length : Int) := by omega
                have hjk' : (j : Int) < (k : Int) := by omega
                have habw : ab < wr.heap.size := below_of_cell d0
                have HG2 := hideG g2
                have hcc : ∀ (d : Calm wr) (b o : Nat), b < wr.heap.size → d.to.cell? ⟨b, o, none⟩ = wr.cell? ⟨b, o, none⟩ := calmCell
                clear g1 g2 hq1 hq2
                go_wp2_with fail
                refine wp_region_calm (by kernel_rfl) (by kernel_rfl) ?_
                repeat (go_big_quiet_step (fail))
                refine wpQuiet_nil ?_
                intro _ hw'
                obtain ⟨dq, hw''⟩ := hw'
                subst hw''
                have HQ4 := hideG dq.below
                obtain ⟨d0', d1', d2', d3', d4', d5', d6', d7', d8', d9'⟩ : CallAt dq.to ab (ao + j * 10) ((dh, dv) : Cl) := CallAt.below ⟨d0, d1, d2, d3, d4, d5, d6, d7, d8, d9⟩ dq.below
                obtain ⟨e0', e1', e2', e3', e4', e5', e6', e7', e8', e9'⟩ : CallAt dq.to g 0 ((⟨s0, e.type, cc, o0, pp⟩, ⟨⟨s0, s1, s2⟩, ph, cc⟩) : Cl) := CallAt.below ⟨e0, e1, e2, e3, e4, e5, e6, e7, e8, e9⟩ dq.below
                dsimp only [Nat.zero_add] at d0' d1' d2' d3' d4' d5' d6' d7' d8' d9' e0' e1' e2' e3' e4' e5' e6' e7' e8' e9'
                have hgl4 : g < dq.to.heap.size := below_of_cell e0'
                have hab4 : ab < dq.to.heap.size := below_of_cell d0'
                generalize dq.to = w4 at *
                clear dq hcc he1 d0 d1 d2 d3 d4 d5 d6 d7 d8 d9 e0 e1 e2 e3 e4 e5 e6 e7 e8 e9
                have HB4 := hideG (HB.out.trans (HQ4.out.mono HB.out.size))
                have HPL := hideG (show ∀ U n t (c o : Bool) p, Below w4.heap.size w4 U → Calls Try.prog 11 #[.slice va l.length vc, .agg #[.int .i64 n, .int .i64 t, .bool c, .bool o, .int .i64 p]] U (fun x w' => x = .returned (.int .i64 (plI l ⟨n, t, c, o, p⟩)) ∧ Below w4.heap.size w4 w') from fun U n t c o p hU => by
                  refine (placeH_any l ⟨n, t, c, o, p⟩ _ U (((HL3.out.below HB3w.out).below HQ4.out).below hU) (by omega)).mono ?_
                  rintro x w' ⟨rfl, hb⟩
                  exact ⟨rfl, hU.trans (hb.mono hU.size)⟩)
                have hc4 : ∀ (d : Calm w4) (b o : Nat), b < w4.heap.size → d.to.cell? ⟨b, o, none⟩ = w4.cell? ⟨b, o, none⟩ := calmCell
                by_cases hve : dv = ⟨⟨s0, s1, s2⟩, ph, cc⟩
                · rw [decide_eq_true hve] at he2
                  have hle := HG2.out hve
                  have hgt : decide (plI l ⟨s0, e.type, cc, o0, pp⟩ < plI l ⟨dh.node, dh.type, dh.cap, dh.once, dh.prog⟩) = false := decide_eq_false (by
                    rw [HIN.out]
                    unfold plI
                    split
                    · have : plL ⟨dh.node, dh.type, dh.cap, dh.once, dh.prog⟩ l ≤ plL ⟨s0, e.type, cc, o0, pp⟩ l := hle
                      omega
                    · omega)
                  clear hve hle
                  go_wp2_with fail
                  have hgt2 := hgt
                  refine wp_region_calm (by kernel_rfl) (by kernel_rfl) ?_
                  repeat (go_big_quiet_step (first | (go_at_call 11; refine Calls.mono (HPL.out _ _ _ _ _ _ (Calm.below _)) ?_; rintro ex wx ⟨rfl, hbx⟩; exact ⟨rfl, ⟨wx, hbx⟩, rfl⟩)))
                  refine wpQuiet_nil ?_
                  intro _ hw'
                  obtain ⟨dq, hw''⟩ := hw'
                  subst hw''
                  have HB5 := hideG (HB4.out.trans (dq.below.mono HB4.out.size))
                  generalize dq.to = w5 at *
                  clear dq hc4 he2 d0' d1' d2' d3' d4' d5' d6' d7' d8' d9' e0' e1' e2' e3' e4' e5' e6' e7' e8' e9' hgt hgt2
                  go_wp2_with fail
                  go_roundw
                  case rel => exact ⟨j + 1, by omega, by go_num, HB5.out⟩
                  case measure => simp [intOf]; omega
                · rw [decide_eq_false hve] at he2
                  clear hve
                  go_wp2_with fail
                  refine wp_region_calm (by kernel_rfl) (by kernel_rfl) ?_
                  repeat (go_big_quiet_step (fail))
                  refine wpQuiet_nil ?_
                  intro _ hw'
                  obtain ⟨dq, hw''⟩ := hw'
                  subst hw''
                  have HB5 := hideG (HB4.out.trans (dq.below.mono HB4.out.size))
                  generalize dq.to = w5 at *
                  clear dq hc4 he2 d0' d1' d2' d3' d4' d5' d6' d7' d8' d9' e0' e1' e2' e3' e4' e5' e6' e7' e8' e9'
                  go_wp2_with fail
                  go_roundw
                  case rel => exact ⟨j + 1, by omega, by go_num, HB5.out⟩
                  case measure => simp [intOf]; omega
              · have hkj : ¬ (j : Int) < (k : Int) := by omega
                have HPL := hideG (placeH_any l ⟨s0, e.type, cc, o0, pp⟩ _ wr (HL3.out.below HB3w.out) (by omega))
                have HB4 := HB3w
                go_wp2_with fail
                refine HPL.out.mono ?_
                rintro ex w5 ⟨rfl, hb5⟩
                rw [HIN.out]
                generalize plL (⟨s0, e.type, cc, o0, pp⟩ : Hr) l = pq at *
                have hpq : (0 : Int) ≤ (pq : Int) := by omega
                have HB5 := hideG (HB4.out.trans (hb5.mono HB4.out.size))
                clear hb5 e0 e1 e2 e3 e4 e5 e6 e7 e8 e9
                go_wp2_with fail
                go_roundw
                case rel => exact ⟨k + 1, by omega, by go_num, HB5.out⟩
                case measure => simp [intOf]; omega
          · have HBE := hideG (HB3.out.trans (HB.out.mono HB3.out.size))
            go_wp2_with fail
            refine (live9_any _).mono ?_
            rintro ex w6 ⟨rfl, hb6⟩
            have HB6 := hideG (HBE.out.trans (hb6.mono HBE.out.size))
            clear hb6
            go_wp2_with fail
            go_ret
            exact ⟨rfl, HB6.out⟩
end Go.Proofs.Ytpmacpbhdgigfaa
