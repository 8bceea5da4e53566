/- ListenBack, walked. -/
import Derived.Test.YtahnkhgaopaaoabLFor
namespace Go.Proofs.Ytahnkhgaopaaoab
open Go.RowKit

theorem one_self (h : Hr) : oneH h h = true := by simp [oneH]
theorem find_snoc {h : Hr} : ∀ {l : List Hr}, hasB l h = false → findL h (l ++ [h]) = l.length
  | [], _ => by simp [findL, one_self]
  | a :: l, e => by
    have e' : ¬ (findL h (a :: l) < (a :: l).length) := by simpa [hasB] using e
    cases ha : oneH a h
    · have h1 : hasB l h = false := by
        simp only [findL, ha, Bool.false_eq_true, if_false, List.length_cons] at e'
        simp [hasB]; omega
      have := find_snoc h1
      simp [findL, ha, this]
    · simp [findL, ha] at e'
theorem drop_snoc {l : List Hr} {h : Hr} (hm : mayH h = true) (hh : hasB l h = false) : dropL (l ++ [h]) h = l ∧ dropE (l ++ [h]) h = 0 := by
  have hf := find_snoc hh
  have hb : hasB (l ++ [h]) h = true := by simp [hasB, hf]
  constructor
  · simp [dropL, hm, hb, hf, cutL]
  · simp [dropE, hm, hb]

set_option maxRecDepth 100000 in
set_option maxHeartbeats 8000000 in
theorem listenBack_walk (l : List Hr) (v : Value) (h : Hr) (w : World) (hL : HearsAt w v l) :
    Calls Try.prog 7 #[v, .agg #[.int .i64 h.node, .int .i64 h.type, .bool h.cap, .bool h.once, .int .i64 h.prog]] w fun x w' => x = .returned (.bool true) ∧ Below w.heap.size w w' := by
  have HL := hideG hL
  obtain ⟨a, cap, rfl⟩ := hL.shape
  obtain ⟨W0, hW0⟩ : ∃ W0, w.alloc (.cells #[.int .i64 h.node, .int .i64 h.type, .bool h.cap, .bool h.once, .int .i64 h.prog] 24) = W0 := ⟨_, rfl⟩
  have HH : Hid (HearAt W0 w.heap.size 0 h) := by rw [← hW0]; exact ⟨by simp, by simp, by simp, by simp, by simp⟩
  have HB0 := hideG (show Below w.heap.size w W0 by rw [← hW0]; exact (Below.refl _ w).alloc (Nat.le_refl _) _)
  have HW0 := hideG hW0
  clear hL hW0
  by_cases h100 : (100 : Int) < (l.length : Int)
  · go_enter Try.func7, Try.ntmps7
    go_wp2_with fail
    rw [HW0.out]
    refine (live8_any _).mono ?_
    rintro e w2 ⟨rfl, hb2⟩
    have HB2 := hideG (HB0.out.trans (hb2.mono HB0.out.size))
    clear hb2
    go_wp2_with fail
    go_ret
    exact ⟨rfl, HB2.out⟩
  · have h6 : l.length ≤ 1000000 := by omega
    cases hm : mayH h
    · have EL := hideG (show addL l h = l by simp [addL, hm])
      have EE := hideG (show addE l h = 1 by simp [addE, hm])
      go_enter Try.func7, Try.ntmps7
      go_wp2_with fail
      rw [HW0.out]
      refine (add_any l h _ _ (HL.out.below HB0.out) (by omega)).mono ?_
      rintro e w1 ⟨a1, c1, rfl, hh1, hb1⟩
      rw [EL.out, EE.out]
      rw [EL.out] at hh1
      have HH1 := hideG hh1
      have HB1 := hideG (HB0.out.trans (hb1.mono HB0.out.size))
      clear hh1 hb1
      go_wp2_with fail
      refine (refSame_any l l _ _ _ HH1.out (HL.out.below HB1.out) h6).mono ?_
      rintro e w2 ⟨rfl, hb2⟩
      rw [show decide (l = l) = true by simp]
      have HB2 := hideG (HB1.out.trans (hb2.mono HB1.out.size))
      clear hb2
      go_wp2_with fail
      refine (live8_any _).mono ?_
      rintro e w3 ⟨rfl, hb3⟩
      have HB3 := hideG (HB2.out.trans (hb3.mono HB2.out.size))
      clear hb3
      go_wp2_with fail
      go_ret
      exact ⟨rfl, HB3.out⟩
    · cases hh : hasB l h
      · by_cases h64 : (64 : Int) ≤ (l.length : Int)
        · have EL := hideG (show addL l h = l by simp [addL, hm, hh]; omega)
          have EE := hideG (show addE l h = 4 by simp [addE, hm, hh]; omega)
          go_enter Try.func7, Try.ntmps7
          go_wp2_with fail
          rw [HW0.out]
          refine (add_any l h _ _ (HL.out.below HB0.out) (by omega)).mono ?_
          rintro e w1 ⟨a1, c1, rfl, hh1, hb1⟩
          rw [EL.out, EE.out]
          rw [EL.out] at hh1
          have HH1 := hideG hh1
          have HB1 := hideG (HB0.out.trans (hb1.mono HB0.out.size))
          clear hh1 hb1
          go_wp2_with fail
          refine (refSame_any l l _ _ _ HH1.out (HL.out.below HB1.out) h6).mono ?_
          rintro e w2 ⟨rfl, hb2⟩
          rw [show decide (l = l) = true by simp]
          have HB2 := hideG (HB1.out.trans (hb2.mono HB1.out.size))
          clear hb2
          go_wp2_with fail
          refine (live8_any _).mono ?_
          rintro e w3 ⟨rfl, hb3⟩
          have HB3 := hideG (HB2.out.trans (hb3.mono HB2.out.size))
          clear hb3
          go_wp2_with fail
          go_ret
          exact ⟨rfl, HB3.out⟩
        · have EL := hideG (show addL l h = l ++ [h] by simp [addL, hm, hh]; omega)
          have EE := hideG (show addE l h = 0 by simp [addE, hm, hh]; omega)
          have ED := hideG (drop_snoc hm hh)
          clear hm hh
          have hls : (l ++ [h]).length = l.length + 1 := by simp
          have HLS := hideG hls
          clear hls
          go_enter Try.func7, Try.ntmps7
          go_wp2_with fail
          rw [HW0.out]
          refine (add_any l h _ _ (HL.out.below HB0.out) (by omega)).mono ?_
          rintro e w1 ⟨a1, c1, rfl, hh1, hb1⟩
          rw [EL.out, EE.out]
          rw [EL.out] at hh1
          have HH1 := hideG hh1
          rw [HLS.out] at hh1 ⊢
          obtain ⟨a1', c1', hv1, hc1, hd1⟩ := HH1.out
          rw [HLS.out] at hv1 hc1
          simp only [Value.slice.injEq, true_and] at hv1
          obtain ⟨rfl, rfl⟩ := hv1
          obtain ⟨b, off, rfl, hdd⟩ := hd1 (by rw [HLS.out]; omega)
          have hx := hdd l.length (by rw [HLS.out]; omega)
          have hgx : (l ++ [h]).getD l.length hrD = h := by simp
          rw [hgx] at hx
          have s0 := hx.node
          have s1 := hx.type
          have s2 := hx.cap
          have s3 := hx.once
          have s4 := hx.prog
          have HG := hideG (HH.out.below hb1)
          have p0 : w1.cell? ⟨w.heap.size, 0, none⟩ = some (.int .i64 h.node) := HG.out.node
          have p1 : w1.cell? ⟨w.heap.size, 1, none⟩ = some (.int .i64 h.type) := HG.out.type
          have p2 : w1.cell? ⟨w.heap.size, 2, none⟩ = some (.bool h.cap) := HG.out.cap
          have p3 : w1.cell? ⟨w.heap.size, 3, none⟩ = some (.bool h.once) := HG.out.once
          have p4 : w1.cell? ⟨w.heap.size, 4, none⟩ = some (.int .i64 h.prog) := HG.out.prog
          have HB1 := hideG (HB0.out.trans (hb1.mono HB0.out.size))
          have HTK := hideG (show HearsAt w1 (.slice (some ⟨b, off, none⟩) l.length c1) l by
            have := hears_take HH1.out (k := l.length) (by rw [HLS.out]; omega)
            rwa [List.take_left] at this)
          have he := fun wx => hear_neq h.node h.type h.cap h.once h.prog h.node h.type h.cap h.once h.prog wx
          rw [eqC_hr, show decide (h = h) = true by simp] at he
          have hl0 : (0 : Int) ≤ (l.length : Int) := by omega
          have hl1 : (l.length : Int) < (l.length : Int) + 1 := by omega
          have hl2 : (l.length : Int) ≤ (c1 : Int) := by omega
          have hl3 : ((l.length : Int) + 1 == (l.length : Int)) = false := by rw [beq_eq_false_iff_ne]; omega
          have hl4 : ((l.length : Int) + 1 != (l.length : Int) + 1) = false := by simp
          have hwp : IntKind.i64.wrap ((l.length : Int) + 1) = (l.length : Int) + 1 := by rw [IntKind.wrap_i64]; omega
          have HSA := hideG (show ∀ U, Below w1.heap.size w1 U → Calls Try.prog 15 #[.slice (some ⟨b, off, none⟩) l.length c1, .slice a l.length cap] U (fun e w' => e = .returned (.bool true) ∧ Below w1.heap.size w1 w') from fun U hU => by
            refine (refSame_any l l _ _ U (HTK.out.below hU) (HL.out.below (HB1.out.trans (hU.mono HB1.out.size))) h6).mono ?_
            rintro e w' ⟨rfl, hb⟩
            exact ⟨by simp, hU.trans (hb.mono hU.size)⟩)
          clear hh1 hb1 hd1 hdd hx hgx hc1
          go_wp2_with fail
          go_region_held3 (fun w' => Below w1.heap.size w1 w' ∧ w'.cell? ⟨w.heap.size, 0, none⟩ = some (.int .i64 h.node) ∧ w'.cell? ⟨w.heap.size, 1, none⟩ = some (.int .i64 h.type) ∧ w'.cell? ⟨w.heap.size, 2, none⟩ = some (.bool h.cap) ∧ w'.cell? ⟨w.heap.size, 3, none⟩ = some (.bool h.once) ∧ w'.cell? ⟨w.heap.size, 4, none⟩ = some (.int .i64 h.prog) ∧ w'.cell? ⟨b, off + l.length * 5, none⟩ = some (.int .i64 h.node) ∧ w'.cell? ⟨b, off + l.length * 5 + 1, none⟩ = some (.int .i64 h.type) ∧ w'.cell? ⟨b, off + l.length * 5 + 2, none⟩ = some (.bool h.cap) ∧ w'.cell? ⟨b, off + l.length * 5 + 3, none⟩ = some (.bool h.once) ∧ w'.cell? ⟨b, off + l.length * 5 + 4, none⟩ = some (.int .i64 h.prog)) (refine ⟨?_, ?_, ?_, ?_, ?_, ?_, ?_, ?_, ?_, ?_, ?_⟩ <;> first | assumption | exact below_drew' (Below.refl _ _) | exact below_drew' (by assumption) | exact cell_below (by assumption) (by assumption) | go_keep) (first | (go_at_call 15; refine Calls.mono (HSA.out _ (by first | assumption | exact below_drew' (Below.refl _ _) | exact below_drew' (by assumption))) ?_; rintro e w' ⟨rfl, hb2⟩))
          have HB9 : Hid (Below w1.heap.size w1 w') := by show Below _ _ _; assumption
          have HG2 := hideG (HG.out.below HB9.out)
          have q0 : w'.cell? ⟨w.heap.size, 0, none⟩ = some (.int .i64 h.node) := HG2.out.node
          have q1 : w'.cell? ⟨w.heap.size, 1, none⟩ = some (.int .i64 h.type) := HG2.out.type
          have q2 : w'.cell? ⟨w.heap.size, 2, none⟩ = some (.bool h.cap) := HG2.out.cap
          have q3 : w'.cell? ⟨w.heap.size, 3, none⟩ = some (.bool h.once) := HG2.out.once
          have q4 : w'.cell? ⟨w.heap.size, 4, none⟩ = some (.int .i64 h.prog) := HG2.out.prog
          have HBW := hideG (HB1.out.trans (HB9.out.mono HB1.out.size))
          have HH2 := hideG (show HearsAt w' (.slice (some ⟨b, off, none⟩) (l.length + 1) c1) (l ++ [h]) from (by have := HH1.out.below HB9.out; rwa [HLS.out] at this))
          clear s0 s1 s2 s3 s4 p0 p1 p2 p3 p4
          go_wp2_with fail
          refine (drop_any (l ++ [h]) h _ _ HH2.out (by rw [HLS.out]; omega)).mono ?_
          rintro e w3 ⟨a3, c3, rfl, hh3, hb3⟩
          rw [ED.out.1, ED.out.2]
          rw [ED.out.1] at hh3
          have HH3 := hideG hh3
          have HB3 := hideG (HBW.out.trans (hb3.mono HBW.out.size))
          clear hh3 hb3 q0 q1 q2 q3 q4
          go_wp2_with fail
          refine (refSame_any l l _ _ _ HH3.out (HL.out.below HB3.out) h6).mono ?_
          rintro e w4 ⟨rfl, hb4⟩
          rw [show decide (l = l) = true by simp]
          have HB4 := hideG (HB3.out.trans (hb4.mono HB3.out.size))
          clear hb4
          go_wp2_with fail
          refine (live8_any _).mono ?_
          rintro e w5 ⟨rfl, hb5⟩
          have HB5 := hideG (HB4.out.trans (hb5.mono HB4.out.size))
          clear hb5
          go_wp2_with fail
          go_ret
          exact ⟨rfl, HB5.out⟩
      · have EL := hideG (show addL l h = l by simp [addL, hm, hh])
        have EE := hideG (show addE l h = 0 by simp [addE, hm, hh])
        go_enter Try.func7, Try.ntmps7
        go_wp2_with fail
        rw [HW0.out]
        refine (add_any l h _ _ (HL.out.below HB0.out) (by omega)).mono ?_
        rintro e w1 ⟨a1, c1, rfl, hh1, hb1⟩
        rw [EL.out, EE.out]
        rw [EL.out] at hh1
        have HH1 := hideG hh1
        have HB1 := hideG (HB0.out.trans (hb1.mono HB0.out.size))
        clear hh1 hb1
        go_wp2_with fail
        refine (refSame_any l l _ _ _ HH1.out (HL.out.below HB1.out) h6).mono ?_
        rintro e w2 ⟨rfl, hb2⟩
        rw [show decide (l = l) = true by simp]
        have HB2 := hideG (HB1.out.trans (hb2.mono HB1.out.size))
        clear hb2
        go_wp2_with fail
        refine (live8_any _).mono ?_
        rintro e w3 ⟨rfl, hb3⟩
        have HB3 := hideG (HB2.out.trans (hb3.mono HB2.out.size))
        clear hb3
        go_wp2_with fail
        go_ret
        exact ⟨rfl, HB3.out⟩
end Go.Proofs.Ytahnkhgaopaaoab
