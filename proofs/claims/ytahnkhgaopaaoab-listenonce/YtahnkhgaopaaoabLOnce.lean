/- ListenOnce, walked. -/
import Derived.Test.YtahnkhgaopaaoabOnceM
namespace Go.Proofs.Ytahnkhgaopaaoab
open Go.RowKit

set_option maxRecDepth 100000 in
set_option maxHeartbeats 8000000 in
theorem listenOnce_walk (s : List Hr) (v : Value) (w : World) (hL : HearsAt w v s) :
    Calls Try.prog 5 #[v] w fun x w' => x = .returned (.bool true) ∧ Below w.heap.size w w' := by
  have HL := hideG hL
  obtain ⟨a, cap, rfl⟩ := hL.shape
  obtain ⟨a', cap', hv', _, hc⟩ := hL
  simp only [Value.slice.injEq, true_and] at hv'
  obtain ⟨rfl, rfl⟩ := hv'
  have HC := hideG hc
  clear hc
  by_cases h100 : (100 : Int) < (s.length : Int)
  · go_enter Try.func5, Try.ntmps5
    go_wp2_with fail
    refine (live8_any _).mono ?_
    rintro e w2 ⟨rfl, hb2⟩
    have HB2 := hideG hb2
    clear hb2
    go_wp2_with fail
    go_ret
    exact ⟨rfl, HB2.out⟩
  · go_enter Try.func5, Try.ntmps5
    go_wp2_with fail
    go_loopw [3, 4] (fun lv i wr => ∃ (k : Nat) (l : List Hr) (la : Option Addr) (lc : Nat), k ≤ s.length ∧ okH l ∧ lv = .slice la l.length lc ∧ i = .int .i64 k ∧ HearsAt wr (.slice la l.length lc) l ∧ Below w.heap.size w wr) (fun _ i _ => s.length - (intOf i).toNat)
    case atStart => exact ⟨0, [], none, 0, Nat.zero_le _, ok_nil, rfl, rfl, ⟨none, 0, rfl, by simp, fun h => absurd h (by simp)⟩, Below.refl _ _⟩
    case round =>
      obtain ⟨k, l, la, lc, hk, hok, rfl, rfl, hl, hB⟩ := hrel
      have HOK := hideG hok
      have HLL := hideG hl
      have HBk := hideG hB
      have h64 : l.length ≤ 64 := hok.1
      clear hok hl hB
      by_cases hlt : k < s.length
      · obtain ⟨b, off, rfl, hd⟩ := HC.out (by omega)
        have hH := (hd k hlt).below HBk.out
        generalize hx : s.getD k hrD = h at *
        have HH := hideG hH
        have c0 := hH.node
        have c1 := hH.type
        have c2 := hH.cap
        have c3 := hH.once
        have c4 := hH.prog
        have hk0 : (0 : Int) ≤ (k : Int) := by omega
        have hbb : b < wr.heap.size := below_of_cell c0
        clear hd hH hx
        obtain ⟨W0, hW0⟩ : ∃ W0, wr.alloc (.cells #[.int .i64 h.node, .int .i64 h.type, .bool h.cap, .bool h.once, .int .i64 h.prog] 24) = W0 := ⟨_, rfl⟩
        have HH0 : Hid (HearAt W0 wr.heap.size 0 h) := by rw [← hW0]; exact ⟨by simp, by simp, by simp, by simp, by simp⟩
        have HB0 := hideG (show Below wr.heap.size wr W0 by rw [← hW0]; exact (Below.refl _ wr).alloc (Nat.le_refl _) _)
        have HW0 := hideG hW0
        clear hW0
        by_cases h3 : k % 3 = 2
        · have hr3 : ((k : Int) % 3 == 2) = true := by rw [beq_iff_eq]; omega
          clear h3
          go_wp2_with fail
          rw [HW0.out]
          refine (add_any l h _ _ (HLL.out.below HB0.out) (by omega)).mono ?_
          rintro e w1 ⟨a1, c1', rfl, hh1, hb1⟩
          have HH1 := hideG (HH0.out.below hb1)
          have HL1 := hideG ((HLL.out.below HB0.out).below hb1)
          have HB1 := hideG (HBk.out.trans ((HB0.out.trans (hb1.mono HB0.out.size)).mono HBk.out.size))
          clear hh1 hb1 HB0 HH0
          have p0 : w1.cell? ⟨wr.heap.size, 0, none⟩ = some (.int .i64 h.node) := HH1.out.node
          have p1 : w1.cell? ⟨wr.heap.size, 1, none⟩ = some (.int .i64 h.type) := HH1.out.type
          have p2 : w1.cell? ⟨wr.heap.size, 2, none⟩ = some (.bool h.cap) := HH1.out.cap
          have p3 : w1.cell? ⟨wr.heap.size, 3, none⟩ = some (.bool h.once) := HH1.out.once
          have p4 : w1.cell? ⟨wr.heap.size, 4, none⟩ = some (.int .i64 h.prog) := HH1.out.prog
          clear c0 c1 c2 c3 c4
          go_wp2_with fail
          refine (drop_any l h _ _ HL1.out (by omega)).mono ?_
          rintro e wn ⟨a2, c2', rfl, hh2, hb2⟩
          have HHn := hideG (HH1.out.below hb2)
          have HBn := hideG (HB1.out.trans (hb2.mono HB1.out.size))
          have HMn := hideG hh2
          clear hh2 hb2 p0 p1 p2 p3 p4
          have HOM := hideG (ok_drop HOK.out h)
          have HO := hideG (show dropE l h = 0 → oneN (dropL l h) h = 0 from drop_one HOK.out)
          have HCK := hideG (ok_check HOM.out)
          generalize dropL l h = m at *
          generalize dropE l h = er at *
          have hm64 : m.length ≤ 64 := HOM.out.1
          clear HOK HLL HW0
          generalize wr.heap.size = g at *
          go_wp2_with fail
          go_loopw [8, 9] (fun cv i wz => ∃ q : Nat, q ≤ m.length ∧ cv = .int .i64 (oneK m h q : Int) ∧ i = .int .i64 q ∧ Below wn.heap.size wn wz) (fun _ i _ => m.length - (intOf i).toNat)
          case atStart => exact ⟨0, Nat.zero_le _, by rw [oneK_zero]; rfl, rfl, Below.refl _ _⟩
          case round =>
            obtain ⟨q, hq, rfl, rfl, hBq⟩ := hrel
            have HBq := hideG hBq
            clear hBq
            have HHq := hideG (HHn.out.below HBq.out)
            by_cases hltq : q < m.length
            · obtain ⟨a5, c5, hv5, _, hd5⟩ := HMn.out
              simp only [Value.slice.injEq, true_and] at hv5
              obtain ⟨rfl, rfl⟩ := hv5
              obtain ⟨b5, off5, rfl, hd6⟩ := hd5 (by omega)
              have hX := (hd6 q hltq).below HBq.out
              have HK := hideG (oneK_succ (h := h) hltq)
              have hkl := oneK_le m h q
              generalize hx : m.getD q hrD = x at *
              have s0 := hX.node
              have s1 := hX.type
              have s2 := hX.cap
              have s3 := hX.once
              have s4 := hX.prog
              have p0 : wr.cell? ⟨g, 0, none⟩ = some (.int .i64 h.node) := HHq.out.node
              have p1 : wr.cell? ⟨g, 1, none⟩ = some (.int .i64 h.type) := HHq.out.type
              have p2 : wr.cell? ⟨g, 2, none⟩ = some (.bool h.cap) := HHq.out.cap
              have p3 : wr.cell? ⟨g, 3, none⟩ = some (.bool h.once) := HHq.out.once
              have p4 : wr.cell? ⟨g, 4, none⟩ = some (.int .i64 h.prog) := HHq.out.prog
              have hq0 : (0 : Int) ≤ (q : Int) := by omega
              have hb5 : b5 < wr.heap.size := below_of_cell s0
              have hb6 : g < wr.heap.size := below_of_cell p0
              clear hd5 hd6 hX hx
              have he := fun wx => hear_eql x.node x.type x.cap h.once x.prog h.node h.type h.cap h.once h.prog wx
              rw [show eqC x.node x.type x.cap h.once x.prog h.node h.type h.cap h.once h.prog = oneH x h from (eqC_hr ⟨x.node, x.type, x.cap, h.once, x.prog⟩ h).trans (once_eq x h)] at he
              cases hox : oneH x h
              · rw [hox] at he
                have HE := hideG (show oneK m h (q + 1) = oneK m h q by rw [HK.out, hox]; rfl)
                clear hox
                go_wp2_with fail
                go_roundw
                case rel => exact ⟨q + 1, by omega, by rw [HE.out], by go_num, HBq.out.alloc HBq.out.size _⟩
                case measure => simp [intOf]; omega
              · rw [hox] at he
                have HE := hideG (show oneK m h (q + 1) = oneK m h q + 1 by rw [HK.out, hox]; rfl)
                clear hox
                go_wp2_with fail
                go_roundw
                case rel => exact ⟨q + 1, by omega, by rw [HE.out]; go_num, by go_num, HBq.out.alloc HBq.out.size _⟩
                case measure => simp [intOf]; omega
            · have hqe : q = m.length := by omega
              subst hqe
              rw [oneK_all]
              have HBN := hideG (HBn.out.trans (HBq.out.mono HBn.out.size))
              have HMq := hideG (HMn.out.below HBq.out)
              by_cases he0 : er = 0
              · have hone := HO.out he0
                subst he0
                rw [hone]
                go_wp2_with fail
                refine (check_any m 64 _ _ HMq.out (by omega)).mono ?_
                rintro e w9 ⟨rfl, hb9⟩
                rw [HCK.out]
                have HM9 := hideG (HMq.out.below hb9)
                have HB9 := hideG (HBN.out.trans (hb9.mono HBN.out.size))
                clear hb9
                go_wp2_with fail
                go_roundw
                case rel => exact ⟨k + 1, m, _, _, by omega, HOM.out, rfl, by go_num, HM9.out, HB9.out⟩
                case measure => simp [intOf]; omega
              · have he1 : (er == 0) = false := by rw [beq_eq_false_iff_ne]; exact he0
                go_wp2_with fail
                refine (check_any m 64 _ _ HMq.out (by omega)).mono ?_
                rintro e w9 ⟨rfl, hb9⟩
                rw [HCK.out]
                have HM9 := hideG (HMq.out.below hb9)
                have HB9 := hideG (HBN.out.trans (hb9.mono HBN.out.size))
                clear hb9
                go_wp2_with fail
                go_roundw
                case rel => exact ⟨k + 1, m, _, _, by omega, HOM.out, rfl, by go_num, HM9.out, HB9.out⟩
                case measure => simp [intOf]; omega
        · have hr3 : ((k : Int) % 3 == 2) = false := by rw [beq_eq_false_iff_ne]; omega
          clear h3
          go_wp2_with fail
          rw [HW0.out]
          refine (add_any l h _ _ (HLL.out.below HB0.out) (by omega)).mono ?_
          rintro e wn ⟨a1, c1', rfl, hh1, hb1⟩
          have HHn := hideG (HH0.out.below hb1)
          have HBn := hideG (HBk.out.trans ((HB0.out.trans (hb1.mono HB0.out.size)).mono HBk.out.size))
          have HMn := hideG hh1
          clear hh1 hb1 HB0 HH0 c0 c1 c2 c3 c4
          have HOM := hideG (ok_add HOK.out h)
          have HO := hideG (show addE l h = 0 → oneN (addL l h) h = 1 from add_one HOK.out)
          have HCK := hideG (ok_check HOM.out)
          generalize addL l h = m at *
          generalize addE l h = er at *
          have hm64 : m.length ≤ 64 := HOM.out.1
          clear HOK HLL HW0
          generalize wr.heap.size = g at *
          go_wp2_with fail
          go_loopw [8, 9] (fun cv i wz => ∃ q : Nat, q ≤ m.length ∧ cv = .int .i64 (oneK m h q : Int) ∧ i = .int .i64 q ∧ Below wn.heap.size wn wz) (fun _ i _ => m.length - (intOf i).toNat)
          case atStart => exact ⟨0, Nat.zero_le _, by rw [oneK_zero]; rfl, rfl, Below.refl _ _⟩
          case round =>
            obtain ⟨q, hq, rfl, rfl, hBq⟩ := hrel
            have HBq := hideG hBq
            clear hBq
            have HHq := hideG (HHn.out.below HBq.out)
            by_cases hltq : q < m.length
            · obtain ⟨a5, c5, hv5, _, hd5⟩ := HMn.out
              simp only [Value.slice.injEq, true_and] at hv5
              obtain ⟨rfl, rfl⟩ := hv5
              obtain ⟨b5, off5, rfl, hd6⟩ := hd5 (by omega)
              have hX := (hd6 q hltq).below HBq.out
              have HK := hideG (oneK_succ (h := h) hltq)
              have hkl := oneK_le m h q
              generalize hx : m.getD q hrD = x at *
              have s0 := hX.node
              have s1 := hX.type
              have s2 := hX.cap
              have s3 := hX.once
              have s4 := hX.prog
              have p0 : wr.cell? ⟨g, 0, none⟩ = some (.int .i64 h.node) := HHq.out.node
              have p1 : wr.cell? ⟨g, 1, none⟩ = some (.int .i64 h.type) := HHq.out.type
              have p2 : wr.cell? ⟨g, 2, none⟩ = some (.bool h.cap) := HHq.out.cap
              have p3 : wr.cell? ⟨g, 3, none⟩ = some (.bool h.once) := HHq.out.once
              have p4 : wr.cell? ⟨g, 4, none⟩ = some (.int .i64 h.prog) := HHq.out.prog
              have hq0 : (0 : Int) ≤ (q : Int) := by omega
              have hb5 : b5 < wr.heap.size := below_of_cell s0
              have hb6 : g < wr.heap.size := below_of_cell p0
              clear hd5 hd6 hX hx
              have he := fun wx => hear_eql x.node x.type x.cap h.once x.prog h.node h.type h.cap h.once h.prog wx
              rw [show eqC x.node x.type x.cap h.once x.prog h.node h.type h.cap h.once h.prog = oneH x h from (eqC_hr ⟨x.node, x.type, x.cap, h.once, x.prog⟩ h).trans (once_eq x h)] at he
              cases hox : oneH x h
              · rw [hox] at he
                have HE := hideG (show oneK m h (q + 1) = oneK m h q by rw [HK.out, hox]; rfl)
                clear hox
                go_wp2_with fail
                go_roundw
                case rel => exact ⟨q + 1, by omega, by rw [HE.out], by go_num, HBq.out.alloc HBq.out.size _⟩
                case measure => simp [intOf]; omega
              · rw [hox] at he
                have HE := hideG (show oneK m h (q + 1) = oneK m h q + 1 by rw [HK.out, hox]; rfl)
                clear hox
                go_wp2_with fail
                go_roundw
                case rel => exact ⟨q + 1, by omega, by rw [HE.out]; go_num, by go_num, HBq.out.alloc HBq.out.size _⟩
                case measure => simp [intOf]; omega
            · have hqe : q = m.length := by omega
              subst hqe
              rw [oneK_all]
              have HBN := hideG (HBn.out.trans (HBq.out.mono HBn.out.size))
              have HMq := hideG (HMn.out.below HBq.out)
              by_cases he0 : er = 0
              · have hone := HO.out he0
                subst he0
                rw [hone]
                go_wp2_with fail
                refine (check_any m 64 _ _ HMq.out (by omega)).mono ?_
                rintro e w9 ⟨rfl, hb9⟩
                rw [HCK.out]
                have HM9 := hideG (HMq.out.below hb9)
                have HB9 := hideG (HBN.out.trans (hb9.mono HBN.out.size))
                clear hb9
                go_wp2_with fail
                go_roundw
                case rel => exact ⟨k + 1, m, _, _, by omega, HOM.out, rfl, by go_num, HM9.out, HB9.out⟩
                case measure => simp [intOf]; omega
              · have he1 : (er == 0) = false := by rw [beq_eq_false_iff_ne]; exact he0
                go_wp2_with fail
                refine (check_any m 64 _ _ HMq.out (by omega)).mono ?_
                rintro e w9 ⟨rfl, hb9⟩
                rw [HCK.out]
                have HM9 := hideG (HMq.out.below hb9)
                have HB9 := hideG (HBN.out.trans (hb9.mono HBN.out.size))
                clear hb9
                go_wp2_with fail
                go_roundw
                case rel => exact ⟨k + 1, m, _, _, by omega, HOM.out, rfl, by go_num, HM9.out, HB9.out⟩
                case measure => simp [intOf]; omega
      · go_wp2_with fail
        refine (live8_any _).mono ?_
        rintro e w6 ⟨rfl, hb6⟩
        have HB6 := hideG (HBk.out.trans (hb6.mono HBk.out.size))
        clear hb6
        go_wp2_with fail
        go_ret
        exact ⟨rfl, HB6.out⟩
end Go.Proofs.Ytahnkhgaopaaoab
