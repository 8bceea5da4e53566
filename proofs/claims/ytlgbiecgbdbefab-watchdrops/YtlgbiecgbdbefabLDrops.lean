/- LDrops: the law on who is dropped. -/
import Derived.Test.YtlgbiecgbdbefabLBase
namespace Go.Proofs.Ytlgbiecgbdbefab
open Go.RowKit

set_option maxRecDepth 100000 in
set_option maxHeartbeats 8000000 in
theorem watchDrops_walk (s : Wt) (gv : Value) (n : Int) (w : World) (hG : GrpsAt w gv s.g) : Calls Try.prog 4 #[.agg #[gv, .int .i64 s.a, .bool s.n], .int .i64 n] w fun e w' => e = .returned (.bool true) ∧ Below w.heap.size w w' := by
  obtain ⟨ga, gc, rfl⟩ := hG.shape
  obtain ⟨W1, hW1⟩ : ∃ W1, w.alloc (.cells #[.slice ga s.g.length gc, .int .i64 s.a, .bool s.n] 33) = W1 := ⟨_, rfl⟩
  have HB := hideG (show Below w.heap.size w W1 by rw [← hW1]; exact alB _ _)
  have HX := hideG (show Box3 W1 w.heap.size (.slice ga s.g.length gc) (.int .i64 s.a) (.bool s.n) by rw [← hW1]; exact Box3.new _ _ _ _ _)
  have HG := hideG (hG.below HB.out)
  have HGW := hideG hG
  have HW1 := hideG hW1
  clear hW1 hG
  have HSM := hideG (small_any s.g _ s.a s.n W1 HG.out)
  cases hs : smallG s.g
  · rw [hs] at HSM
    clear hs
    go_enter Try.func4, Try.ntmps4
    go_wp2_with fail
    rw [HW1.out]
    refine HSM.out.mono ?_
    rintro e w1 ⟨rfl, hb1⟩
    go_wp2_with fail
    refine (live_any _).mono ?_
    rintro e w2 ⟨rfl, hb2⟩
    go_wp2_with fail
    go_ret
    exact ⟨rfl, mono_k (mono_k HB.out hb1) hb2⟩
  · rw [hs] at HSM
    have HFW := hideG (of_decide_eq_true hs : fewG s.g 60)
    clear hs
    have hgl := HFW.out.1
    go_enter Try.func4, Try.ntmps4
    go_wp2_with fail
    rw [HW1.out]
    refine HSM.out.mono ?_
    rintro e w1 ⟨rfl, hb1⟩
    have HB1 := hideG (mono_k HB.out hb1)
    have HX1 := hideG (HX.out.call hb1)
    have HG1 := hideG (HG.out.below hb1)
    clear hb1 HSM HX HG
    have c0 := HX1.out.c0
    have clt := HX1.out.lt
    go_wp2_with fail
    clear c0 clt
    go_loopw [5, 6] (fun al i wr => ∃ (k : Nat) (zz : Int), k ≤ s.g.length ∧ al = .int .i64 zz ∧ i = .int .i64 (k : Int) ∧ Hid (∀ j, j < k → 0 < (s.g.getD j []).length ∧ n ∉ s.g.getD j []) ∧ Below w1.heap.size w1 wr) (fun _ i _ => s.g.length - (intOf i).toNat)
    case atStart => exact ⟨0, 0, Nat.zero_le _, rfl, rfl, hideG (fun j h => by omega), Below.refl _ _⟩
    case round =>
      obtain ⟨k, zz, hk, rfl, rfl, HK, hBk⟩ := hrel
      have HBK := hideG hBk
      have HXK := hideG (HX1.out.call hBk)
      clear hBk
      have c0 := HXK.out.c0
      have clt := HXK.out.lt
      by_cases hlt : k < s.g.length
      · obtain ⟨b, off, ra, rc, rfl, cR, hI⟩ := HG1.out.at hlt
        have HCR := hideG cR
        have HI := hideG hI
        have cr := cell_below HBK.out cR
        have crt := below_of_cell cr
        have HRL := hideG (HFW.out.row (j := k))
        have HROWM := hideG (show s.g.getD k [] ∈ s.g from getD_mem hlt)
        have HNX := hideG (fun (h : 0 < (s.g.getD k []).length) (hn : n ∉ s.g.getD k []) (j : Nat) (hj : j < k + 1) => show 0 < (s.g.getD j []).length ∧ n ∉ s.g.getD j [] from if e : j = k then e ▸ ⟨h, hn⟩ else HK.out j (by omega))
        generalize s.g.getD k [] = row at *
        have hk0 : (0 : Int) ≤ (k : Int) := by omega
        have hk1 : (k : Int) < (s.g.length : Int) := by omega
        have hrl := HRL.out
        clear cR hI HK
        by_cases h0 : (row.length : Int) = 0
        · have hb0 : ((row.length : Int) == 0) = true := by rw [beq_iff_eq]; exact h0
          go_wp2_with fail
          refine (live_any _).mono ?_
          rintro e w2 ⟨rfl, hb2⟩
          go_wp2_with fail
          go_ret
          exact ⟨rfl, mono_k (mono_k HB1.out HBK.out) hb2⟩
        · have hb0 : ((row.length : Int) == 0) = false := by rw [beq_eq_false_iff_ne]; exact h0
          go_wp2_with fail
          clear c0 clt cr crt hb0
          go_loopw [5, 7] (fun al kk ws => ∃ (m : Nat) (zz : Int), m ≤ row.length ∧ al = .int .i64 zz ∧ kk = .int .i64 (m : Int) ∧ Hid (∀ j, j < m → row.getD j 0 ≠ n) ∧ Below w1.heap.size w1 ws) (fun _ i _ => row.length - (intOf i).toNat)
          case atStart => exact ⟨0, zz, Nat.zero_le _, rfl, rfl, hideG (fun j h => by omega), HBK.out⟩
          case round =>
            obtain ⟨m, zy, hm, rfl, rfl, HM, hBm⟩ := hrel
            have HBM := hideG hBm
            have HXM := hideG (HX1.out.call hBm)
            have cr := cell_below hBm HCR.out
            have crt := below_of_cell cr
            have HIM := hideG (HI.out.below hBm)
            clear hBm
            have c0 := HXM.out.c0
            have c1 := HXM.out.c1
            have c2 := HXM.out.c2
            have clt := HXM.out.lt
            by_cases hml : m < row.length
            · obtain ⟨bl, ol, rfl, cl⟩ := HIM.out.at hml
              have cltl := below_of_cell cl
              have hm0 : (0 : Int) ≤ (m : Int) := by omega
              have hm1 : (m : Int) < (row.length : Int) := by omega
              have HMN := hideG (fun (h : row.getD m 0 ≠ n) (j : Nat) (hj : j < m + 1) => show row.getD j 0 ≠ n from if e : j = m then e ▸ h else HM.out j (by omega))
              have HHIT := hideG (fun (h : row.getD m 0 = n) => show dropG s.g n ≠ s.g from dropG_ne HROWM.out (h ▸ getD_mem hml))
              generalize row.getD m 0 = x at *
              clear HM
              cases hx : (x == n)
              · have HE := hideG (show x ≠ n by simpa using hx)
                go_wp2_with fail
                go_roundw
                case rel => exact ⟨m + 1, _, by omega, rfl, by go_num, hideG (HMN.out HE.out), HBM.out⟩
                case measure => simp [intOf]; omega
              · have HHT := hideG (HHIT.out (by simpa using hx))
                obtain ⟨g2, hg2⟩ : ∃ g2, dropG s.g n = g2 := ⟨_, rfl⟩
                have HF2 := hideG (show fewG g2 60 by rw [← hg2]; exact dropG_few HFW.out)
                have HNE2 := hideG (show g2 ≠ s.g by rw [← hg2]; exact HHT.out)
                have HDRP := hideG (fun (gv : Value) (U : World) (h : GrpsAt U gv s.g) => (by have t := drop_any s.g (HFW.out.mono (by omega)) gv s.a s.n n U h; rw [hg2] at t; exact t))
                have HDRP2 := hideG (fun (gv : Value) (U : World) (h : GrpsAt U gv g2) => (by have t := drop_any g2 (HF2.out.mono (by omega)) gv s.a s.n n U h; rw [← hg2, dropG_twice, hg2] at t; exact t))
                clear hg2 HHIT HHT HMN
                have HGM := hideG (HG1.out.below HBM.out)
                have HBM1 := hideG (mono_k HB1.out HBM.out)
                go_wp2_with fail
                refine (own_any _ _ _ _ _ _).mono ?_
                rintro e w2 ⟨rfl, hb2⟩
                have HB2 := hideG (mono_k HBM1.out hb2)
                have HX2 := hideG (HXM.out.call hb2)
                have HG2 := hideG (HGM.out.below hb2)
                clear hb2 c0 c1 c2 clt cr crt cl cltl
                go_wp2_with fail
                refine (HDRP.out _ _ HG2.out).mono ?_
                rintro e w3 ⟨vb, vd, rfl, ho3, hb3⟩
                obtain ⟨WH, hWH⟩ : ∃ WH, w3.alloc (.cells #[.slice vb g2.length vd, .int .i64 s.a, .bool s.n] 26) = WH := ⟨_, rfl⟩
                have hbH : Below w2.heap.size w2 WH := by rw [← hWH]; exact hb3.trans ((alB _ _).mono hb3.size)
                have HYH := hideG (show Box3 WH w3.heap.size (.slice vb g2.length vd) (.int .i64 s.a) (.bool s.n) by rw [← hWH]; exact Box3.new _ _ _ _ _)
                have HOH := hideG (show GrpsAt WH (.slice vb g2.length vd) g2 by rw [← hWH]; exact ho3.grps.below (alB _ _))
                have HBH := hideG (mono_k HB2.out hbH)
                have HXH := hideG (HX2.out.call hbH)
                have HGH := hideG (HG2.out.below hbH)
                have HWH := hideG hWH
                clear ho3 hb3 hWH hbH HX2 HG2 HB2
                go_wp2_with fail
                rw [HWH.out]
                clear HWH
                have HST0 := hideG (show Below WH.heap.size WH WH.drew from (Below.refl _ _).drew)
                refine wp_region_inv (fun l ac U => ∃ z : Nat → Value, ac = { tmps := #[Value.agg #[Value.slice (some { block := b, off := off }) s.g.length gc, Value.int IntKind.i64 s.a, Value.bool s.n], Value.int IntKind.i64 n, Value.pointer (some { block := w.heap.size, off := 0 }), undef, z 17, Value.int IntKind.i64 (wrap64 (zy + 1)), Value.int IntKind.i64 ((k : Nat) : Int), Value.int IntKind.i64 ((m : Nat) : Int), Value.pointer (some { block := w3.heap.size, off := 0 }), undef, undef, undef, Value.agg #[Value.slice (some { block := b, off := off }) s.g.length gc, Value.int IntKind.i64 s.a, Value.bool s.n], Value.bool true, Value.bool false, undef, Value.int IntKind.i64 ((k : Nat) : Int), Value.pointer (some { block := w.heap.size, off := 0 }), Value.slice (some { block := b, off := off }) s.g.length gc, Value.int IntKind.i64 ((s.g.length : Nat) : Int), Value.bool true, u21, u22, Value.pointer (some { block := w.heap.size, off := 0 }), Value.slice (some { block := b, off := off }) s.g.length gc, Value.int IntKind.i64 ((k : Nat) : Int), Value.pointer (some { block := b, off := off + k }), Value.slice (some { block := bl, off := ol }) row.length rc, Value.int IntKind.i64 ((row.length : Nat) : Int), Value.bool false, u30, Value.int IntKind.i64 ((m : Nat) : Int), Value.pointer (some { block := w.heap.size, off := 0 }), Value.slice (some { block := b, off := off }) s.g.length gc, Value.int IntKind.i64 ((k : Nat) : Int), Value.pointer (some { block := b, off := off + k }), Value.slice (some { block := bl, off := ol }) row.length rc, Value.int IntKind.i64 ((row.length : Nat) : Int), Value.bool true, u39, u40, Value.int IntKind.i64 zy, Value.int IntKind.i64 (wrap64 (zy + 1)), Value.pointer (some { block := w.heap.size, off := 0 }), Value.slice (some { block := b, off := off }) s.g.length gc, Value.int IntKind.i64 ((k : Nat) : Int), Value.pointer (some { block := b, off := off + k }), Value.slice (some { block := bl, off := ol }) row.length rc, Value.int IntKind.i64 ((m : Nat) : Int), Value.pointer (some { block := bl, off := ol + m }), Value.int IntKind.i64 x, Value.int IntKind.i64 n, Value.bool true, Value.agg #[Value.slice (some { block := b, off := off }) s.g.length gc, Value.int IntKind.i64 s.a, Value.bool s.n], Value.agg #[Value.slice (some { block := b, off := off }) s.g.length gc, Value.int IntKind.i64 s.a, Value.bool s.n], Value.int IntKind.i64 n, Value.agg #[Value.slice vb g2.length vd, Value.int IntKind.i64 s.a, Value.bool s.n], z 0, z 1, z 2, z 3, z 4, z 5, z 6, z 7, z 8, z 9, z 10, z 11, z 12, z 13, z 14, z 15, z 16, undef, undef, undef, undef, undef, undef, undef, undef, undef, undef, undef, undef, undef, undef, undef, undef, undef, undef, undef, undef, undef, undef, undef, undef, undef, undef, undef, undef, undef, undef, undef, undef, undef, undef, undef, undef, undef, undef, undef, undef, undef, undef, undef, undef, undef, undef, undef, undef], defers := [] } ∧ Hid (TabZ 18 (PureP [.agg #[.slice vb g2.length vd, .int .i64 s.a, .bool s.n], undef, .agg #[.slice (some ⟨b, off, none⟩) s.g.length gc, .int .i64 s.a, .bool s.n], undef, .bool true, .bool true, .agg #[.slice vb g2.length vd, .int .i64 s.a, .bool s.n], .int .i64 n, undef, undef, .agg #[.slice vb g2.length vd, .int .i64 s.a, .bool s.n], .agg #[.slice vb g2.length vd, .int .i64 s.a, .bool s.n], undef, .bool true, .bool true, undef, .bool true, .bool true] [true, false, true, false, true, true, true, true, false, false, true, true, false, true, true, false, true, true]) l z U) ∧ Hid ((l.getD 1 true = false ∧ l.getD 3 true = false ∧ l.getD 8 true = false ∧ l.getD 9 true = false ∧ l.getD 12 true = false ∧ l.getD 15 true = false ∧ l.getD 4 true = false ∧ l.getD 5 true = false ∧ l.getD 13 true = false ∧ l.getD 14 true = false ∧ (Below WH.heap.size WH U)) ∨ (l.getD 1 true = true ∧ l.getD 3 true = false ∧ l.getD 8 true = false ∧ l.getD 9 true = false ∧ l.getD 12 true = false ∧ l.getD 15 true = false ∧ l.getD 4 true = false ∧ l.getD 5 true = false ∧ l.getD 13 true = false ∧ l.getD 14 true = false ∧ ((z 1) = .agg #[.slice vb g2.length vd, .int .i64 s.a, .bool s.n] ∧ Below WH.heap.size WH U)) ∨ (l.getD 1 true = true ∧ l.getD 3 true = true ∧ l.getD 8 true = false ∧ l.getD 9 true = false ∧ l.getD 12 true = false ∧ l.getD 15 true = false ∧ l.getD 13 true = false ∧ l.getD 14 true = false ∧ ((z 3) = .bool false ∧ Below WH.heap.size WH U)) ∨ (l.getD 1 true = true ∧ l.getD 3 true = true ∧ l.getD 8 true = true ∧ l.getD 9 true = false ∧ l.getD 12 true = false ∧ l.getD 15 true = false ∧ l.getD 13 true = false ∧ l.getD 14 true = false ∧ ((z 3) = .bool false ∧ ∃ (ve : Option Addr) (vf : Nat), (z 8) = .agg #[.slice ve g2.length vf, .int .i64 s.a, .bool s.n] ∧ GrpsAt U (.slice ve g2.length vf) g2 ∧ Below WH.heap.size WH U)) ∨ (l.getD 1 true = true ∧ l.getD 3 true = true ∧ l.getD 8 true = true ∧ l.getD 9 true = true ∧ l.getD 12 true = false ∧ l.getD 15 true = false ∧ l.getD 13 true = false ∧ l.getD 14 true = false ∧ ((z 3) = .bool false ∧ ∃ (ve : Option Addr) (vf : Nat), (z 9) = .agg #[.slice ve g2.length vf, .int .i64 s.a, .bool s.n] ∧ GrpsAt U (.slice ve g2.length vf) g2 ∧ Below WH.heap.size WH U)) ∨ (l.getD 1 true = true ∧ l.getD 3 true = true ∧ l.getD 8 true = true ∧ l.getD 9 true = true ∧ l.getD 12 true = true ∧ l.getD 15 true = false ∧ ((z 3) = .bool false ∧ (z 12) = .bool true ∧ Below WH.heap.size WH U)) ∨ (l.getD 1 true = true ∧ l.getD 3 true = true ∧ l.getD 8 true = true ∧ l.getD 9 true = true ∧ l.getD 12 true = true ∧ l.getD 15 true = true ∧ ((z 3) = .bool false ∧ (z 12) = .bool true ∧ (z 15) = .bool true ∧ Below WH.heap.size WH U)))) (by kernel_rfl) (by kernel_rfl) ?_ ?_ ?_
                · exact ⟨fun k => ([u57, u58, u59, u60, u61, u62, u63, u64, u65, u66, u67, u68, u69, u70, u71, u72, u73, u4] : List Value).getD k undef, rfl, hideG TabZ.start, hideG (.inl ⟨rfl, rfl, rfl, rfl, rfl, rfl, rfl, rfl, rfl, rfl, HST0.out⟩)⟩
                · intro i l ac U hi hInv
                  obtain ⟨z, ha, hz, hst⟩ := hInv
                  subst ha
                  obtain ⟨hun, o, ho, _⟩ := mem_ready.mp hi
                  have hlt8 := (Array.getElem?_eq_some_iff.mp ho).1
                  clear ho
                  simp only [List.size_toArray, List.length_cons, List.length_nil, Nat.reduceAdd] at hlt8
                  obtain rfl | rfl | rfl | rfl | rfl | rfl | rfl | rfl | rfl | rfl | rfl | rfl | rfl | rfl | rfl | rfl | rfl | rfl : i = 0 ∨ i = 1 ∨ i = 2 ∨ i = 3 ∨ i = 4 ∨ i = 5 ∨ i = 6 ∨ i = 7 ∨ i = 8 ∨ i = 9 ∨ i = 10 ∨ i = 11 ∨ i = 12 ∨ i = 13 ∨ i = 14 ∨ i = 15 ∨ i = 16 ∨ i = 17 := by omega
                  · have hbel : Below WH.heap.size WH U := by
                      rcases hst.out with ⟨_, _, _, _, _, _, _, _, _, _, h⟩ | ⟨_, _, _, _, _, _, _, _, _, _, _, h⟩ | ⟨_, _, _, _, _, _, _, _, _, h⟩ | ⟨_, _, _, _, _, _, _, _, _, _, _, _, _, h⟩ | ⟨_, _, _, _, _, _, _, _, _, _, _, _, _, h⟩ | ⟨_, _, _, _, _, _, _, _, h⟩ | ⟨_, _, _, _, _, _, _, _, _, h⟩
                      all_goals exact h
                    have hB0 := HYH.out.call hbel
                    have c0 := hB0.c0
                    have c1 := hB0.c1
                    have c2 := hB0.c2
                    have hltx := hB0.lt
                    refine inv_step (by rfl) (fun K hK => ?_)
                    go_simp
                    refine hK.out _ _ ⟨upZ z 0 (.agg #[.slice vb g2.length vd, .int .i64 s.a, .bool s.n]), rfl, hideG (TabZ.step hz.out rfl), hideG ?_⟩
                    have HST := hst.out
                    clear hst hz hK
                    simp only [flag_ne (show 0 ≠ 1 from by decide), flag_ne (show 0 ≠ 3 from by decide), flag_ne (show 0 ≠ 8 from by decide), flag_ne (show 0 ≠ 9 from by decide), flag_ne (show 0 ≠ 12 from by decide), flag_ne (show 0 ≠ 15 from by decide)]
                    simp only [flag_ne (show 0 ≠ 4 from by decide)]
                    simp only [flag_ne (show 0 ≠ 5 from by decide)]
                    simp only [flag_ne (show 0 ≠ 13 from by decide)]
                    simp only [flag_ne (show 0 ≠ 14 from by decide)]
                    have E1 : upZ z 0 (.agg #[.slice vb g2.length vd, .int .i64 s.a, .bool s.n]) 1 = z 1 := by simp [upZ]
                    have E3 : upZ z 0 (.agg #[.slice vb g2.length vd, .int .i64 s.a, .bool s.n]) 3 = z 3 := by simp [upZ]
                    have E8 : upZ z 0 (.agg #[.slice vb g2.length vd, .int .i64 s.a, .bool s.n]) 8 = z 8 := by simp [upZ]
                    have E9 : upZ z 0 (.agg #[.slice vb g2.length vd, .int .i64 s.a, .bool s.n]) 9 = z 9 := by simp [upZ]
                    have E12 : upZ z 0 (.agg #[.slice vb g2.length vd, .int .i64 s.a, .bool s.n]) 12 = z 12 := by simp [upZ]
                    have E15 : upZ z 0 (.agg #[.slice vb g2.length vd, .int .i64 s.a, .bool s.n]) 15 = z 15 := by simp [upZ]
                    try rw [E1]
                    try rw [E3]
                    try rw [E8]
                    try rw [E9]
                    try rw [E12]
                    try rw [E15]
                    exact HST
                  · have e0 : z 0 = .agg #[.slice vb g2.length vd, .int .i64 s.a, .bool s.n] := hz.out 0 (by decide) (dep_of hi (d := 0) (by kernel_rfl))
                    rcases hst.out with hq | hq | hq | hq | hq | hq | hq
                    · obtain ⟨b1, b3, b8, b9, b12, b15, g4, g5, g13, g14, hS⟩ := hq
                      rw [e0]
                      refine inv_step (by rfl) (fun K hK => ?_)
                      go_simp
                      go_at_call 17
                      refine Calls.mono (told_any _ _ _ _ _ U) ?_
                      rintro e w9 ⟨rfl, hb9⟩
                      go_wp2_with fail
                      refine hK.out _ _ ⟨upZ (upZ z 0 (.agg #[.slice vb g2.length vd, .int .i64 s.a, .bool s.n])) 1 (.agg #[.slice vb g2.length vd, .int .i64 s.a, .bool s.n]), rfl, hideG (TabZ.step (TabZ.mono (TabZ.fill hz.out e0) (fun _ _ h => h)) trivial), hideG (.inr (.inl ⟨flag_self, flag_ne' (by decide) b3, flag_ne' (by decide) b8, flag_ne' (by decide) b9, flag_ne' (by decide) b12, flag_ne' (by decide) b15, flag_ne' (by decide) g4, flag_ne' (by decide) g5, flag_ne' (by decide) g13, flag_ne' (by decide) g14, ?_⟩))⟩
                      exact ⟨by simp [upZ], hS.trans (hb9.mono hS.size)⟩
                    · exact absurd (hun.symm.trans hq.1) (by decide)
                    · exact absurd (hun.symm.trans hq.1) (by decide)
                    · exact absurd (hun.symm.trans hq.1) (by decide)
                    · exact absurd (hun.symm.trans hq.1) (by decide)
                    · exact absurd (hun.symm.trans hq.1) (by decide)
                    · exact absurd (hun.symm.trans hq.1) (by decide)
                  · have hbel : Below WH.heap.size WH U := by
                      rcases hst.out with ⟨_, _, _, _, _, _, _, _, _, _, h⟩ | ⟨_, _, _, _, _, _, _, _, _, _, _, h⟩ | ⟨_, _, _, _, _, _, _, _, _, h⟩ | ⟨_, _, _, _, _, _, _, _, _, _, _, _, _, h⟩ | ⟨_, _, _, _, _, _, _, _, _, _, _, _, _, h⟩ | ⟨_, _, _, _, _, _, _, _, h⟩ | ⟨_, _, _, _, _, _, _, _, _, h⟩
                      all_goals exact h
                    have hB0 := HXH.out.call hbel
                    have c0 := hB0.c0
                    have c1 := hB0.c1
                    have c2 := hB0.c2
                    have hltx := hB0.lt
                    refine inv_step (by rfl) (fun K hK => ?_)
                    go_simp
                    refine hK.out _ _ ⟨upZ z 2 (.agg #[.slice (some ⟨b, off, none⟩) s.g.length gc, .int .i64 s.a, .bool s.n]), rfl, hideG (TabZ.step hz.out rfl), hideG ?_⟩
                    have HST := hst.out
                    clear hst hz hK
                    simp only [flag_ne (show 2 ≠ 1 from by decide), flag_ne (show 2 ≠ 3 from by decide), flag_ne (show 2 ≠ 8 from by decide), flag_ne (show 2 ≠ 9 from by decide), flag_ne (show 2 ≠ 12 from by decide), flag_ne (show 2 ≠ 15 from by decide)]
                    simp only [flag_ne (show 2 ≠ 4 from by decide)]
                    simp only [flag_ne (show 2 ≠ 5 from by decide)]
                    simp only [flag_ne (show 2 ≠ 13 from by decide)]
                    simp only [flag_ne (show 2 ≠ 14 from by decide)]
                    have E1 : upZ z 2 (.agg #[.slice (some ⟨b, off, none⟩) s.g.length gc, .int .i64 s.a, .bool s.n]) 1 = z 1 := by simp [upZ]
                    have E3 : upZ z 2 (.agg #[.slice (some ⟨b, off, none⟩) s.g.length gc, .int .i64 s.a, .bool s.n]) 3 = z 3 := by simp [upZ]
                    have E8 : upZ z 2 (.agg #[.slice (some ⟨b, off, none⟩) s.g.length gc, .int .i64 s.a, .bool s.n]) 8 = z 8 := by simp [upZ]
                    have E9 : upZ z 2 (.agg #[.slice (some ⟨b, off, none⟩) s.g.length gc, .int .i64 s.a, .bool s.n]) 9 = z 9 := by simp [upZ]
                    have E12 : upZ z 2 (.agg #[.slice (some ⟨b, off, none⟩) s.g.length gc, .int .i64 s.a, .bool s.n]) 12 = z 12 := by simp [upZ]
                    have E15 : upZ z 2 (.agg #[.slice (some ⟨b, off, none⟩) s.g.length gc, .int .i64 s.a, .bool s.n]) 15 = z 15 := by simp [upZ]
                    try rw [E1]
                    try rw [E3]
                    try rw [E8]
                    try rw [E9]
                    try rw [E12]
                    try rw [E15]
                    exact HST
                  · have q1 := dep_of hi (d := 1) (by kernel_rfl)
                    have e2 : z 2 = .agg #[.slice (some ⟨b, off, none⟩) s.g.length gc, .int .i64 s.a, .bool s.n] := hz.out 2 (by decide) (dep_of hi (d := 2) (by kernel_rfl))
                    rcases hst.out with hq | hq | hq | hq | hq | hq | hq
                    · exact absurd (q1.symm.trans hq.1) (by decide)
                    · obtain ⟨b1, b3, b8, b9, b12, b15, g4, g5, g13, g14, hS⟩ := hq
                      obtain ⟨e1, hbl⟩ := hS
                      rw [e2, e1]
                      refine inv_step (by rfl) (fun K hK => ?_)
                      go_simp
                      go_at_call 16
                      refine Calls.mono (same_any g2 s.g _ _ s.a s.a s.n s.n U (HOH.out.below hbl) (HGH.out.below hbl) (HF2.out.mono (by omega))) ?_
                      rintro e w9 ⟨rfl, hb9⟩
                      rw [show decide ((⟨g2, s.a, s.n⟩ : Wt) = ⟨s.g, s.a, s.n⟩) = false from decide_eq_false (fun e => HNE2.out (congrArg Wt.g e))]
                      go_wp2_with fail
                      refine hK.out _ _ ⟨upZ (upZ (upZ z 2 (.agg #[.slice (some ⟨b, off, none⟩) s.g.length gc, .int .i64 s.a, .bool s.n])) 1 (.agg #[.slice vb g2.length vd, .int .i64 s.a, .bool s.n])) 3 (.bool false), rfl, hideG (TabZ.step (TabZ.mono (TabZ.fill (TabZ.fill hz.out e2) e1) (fun _ _ h => h)) trivial), hideG (.inr (.inr (.inl ⟨flag_ne' (by decide) b1, flag_self, flag_ne' (by decide) b8, flag_ne' (by decide) b9, flag_ne' (by decide) b12, flag_ne' (by decide) b15, flag_ne' (by decide) g13, flag_ne' (by decide) g14, ?_⟩)))⟩
                      exact ⟨by simp [upZ], hbl.trans (hb9.mono hbl.size)⟩
                    · exact absurd (hun.symm.trans hq.2.1) (by decide)
                    · exact absurd (hun.symm.trans hq.2.1) (by decide)
                    · exact absurd (hun.symm.trans hq.2.1) (by decide)
                    · exact absurd (hun.symm.trans hq.2.1) (by decide)
                    · exact absurd (hun.symm.trans hq.2.1) (by decide)
                  · have q3 := dep_of hi (d := 3) (by kernel_rfl)
                    have e3 : z 3 = .bool false := by
                      rcases hst.out with h | h | h | h | h | h | h
                      · exact absurd (q3.symm.trans h.2.1) (by decide)
                      · exact absurd (q3.symm.trans h.2.1) (by decide)
                      · exact h.2.2.2.2.2.2.2.2.1
                      · exact h.2.2.2.2.2.2.2.2.1
                      · exact h.2.2.2.2.2.2.2.2.1
                      · exact h.2.2.2.2.2.2.1
                      · exact h.2.2.2.2.2.2.1
                    rw [e3]
                    refine inv_step (by rfl) (fun K hK => ?_)
                    go_simp
                    refine hK.out _ _ ⟨upZ (upZ z 3 (.bool false)) 4 (.bool true), rfl, hideG (TabZ.step (TabZ.fill hz.out e3) rfl), hideG ?_⟩
                    have HST := hst.out
                    clear hst hz hK
                    simp only [flag_ne (show 4 ≠ 1 from by decide), flag_ne (show 4 ≠ 3 from by decide), flag_ne (show 4 ≠ 8 from by decide), flag_ne (show 4 ≠ 9 from by decide), flag_ne (show 4 ≠ 12 from by decide), flag_ne (show 4 ≠ 15 from by decide)]
                    simp only [flag_ne (show 4 ≠ 5 from by decide)]
                    simp only [flag_ne (show 4 ≠ 13 from by decide)]
                    simp only [flag_ne (show 4 ≠ 14 from by decide)]
                    have E1 : upZ (upZ z 3 (.bool false)) 4 (.bool true) 1 = z 1 := by simp [upZ]
                    have E3 : upZ (upZ z 3 (.bool false)) 4 (.bool true) 3 = z 3 := by simp [upZ, e3]
                    have E8 : upZ (upZ z 3 (.bool false)) 4 (.bool true) 8 = z 8 := by simp [upZ]
                    have E9 : upZ (upZ z 3 (.bool false)) 4 (.bool true) 9 = z 9 := by simp [upZ]
                    have E12 : upZ (upZ z 3 (.bool false)) 4 (.bool true) 12 = z 12 := by simp [upZ]
                    have E15 : upZ (upZ z 3 (.bool false)) 4 (.bool true) 15 = z 15 := by simp [upZ]
                    try rw [E1]
                    try rw [E3]
                    try rw [E8]
                    try rw [E9]
                    try rw [E12]
                    try rw [E15]
                    rcases HST with h | h | h | h | h | h | h
                    · exact absurd ((dep_of hi (d := 3) (by kernel_rfl)).symm.trans h.2.1) (by decide)
                    · exact absurd ((dep_of hi (d := 3) (by kernel_rfl)).symm.trans h.2.1) (by decide)
                    · exact .inr (.inr (.inl h))
                    · exact .inr (.inr (.inr (.inl h)))
                    · exact .inr (.inr (.inr (.inr (.inl h))))
                    · exact .inr (.inr (.inr (.inr (.inr (.inl h)))))
                    · exact .inr (.inr (.inr (.inr (.inr (.inr (h))))))
                  · have e4 : z 4 = .bool true := hz.out 4 (by decide) (dep_of hi (d := 4) (by kernel_rfl))
                    rw [e4]
                    refine inv_step (by rfl) (fun K hK => ?_)
                    go_simp
                    refine hK.out _ _ ⟨upZ (upZ z 4 (.bool true)) 5 (.bool true), rfl, hideG (TabZ.step (TabZ.fill hz.out e4) rfl), hideG ?_⟩
                    have HST := hst.out
                    clear hst hz hK
                    simp only [flag_ne (show 5 ≠ 1 from by decide), flag_ne (show 5 ≠ 3 from by decide), flag_ne (show 5 ≠ 8 from by decide), flag_ne (show 5 ≠ 9 from by decide), flag_ne (show 5 ≠ 12 from by decide), flag_ne (show 5 ≠ 15 from by decide)]
                    simp only [flag_ne (show 5 ≠ 4 from by decide)]
                    simp only [flag_ne (show 5 ≠ 13 from by decide)]
                    simp only [flag_ne (show 5 ≠ 14 from by decide)]
                    have E1 : upZ (upZ z 4 (.bool true)) 5 (.bool true) 1 = z 1 := by simp [upZ]
                    have E3 : upZ (upZ z 4 (.bool true)) 5 (.bool true) 3 = z 3 := by simp [upZ]
                    have E8 : upZ (upZ z 4 (.bool true)) 5 (.bool true) 8 = z 8 := by simp [upZ]
                    have E9 : upZ (upZ z 4 (.bool true)) 5 (.bool true) 9 = z 9 := by simp [upZ]
                    have E12 : upZ (upZ z 4 (.bool true)) 5 (.bool true) 12 = z 12 := by simp [upZ]
                    have E15 : upZ (upZ z 4 (.bool true)) 5 (.bool true) 15 = z 15 := by simp [upZ]
                    try rw [E1]
                    try rw [E3]
                    try rw [E8]
                    try rw [E9]
                    try rw [E12]
                    try rw [E15]
                    rcases HST with h | h | h | h | h | h | h
                    · exact absurd ((dep_of hi (d := 4) (by kernel_rfl)).symm.trans h.2.2.2.2.2.2.1) (by decide)
                    · exact absurd ((dep_of hi (d := 4) (by kernel_rfl)).symm.trans h.2.2.2.2.2.2.1) (by decide)
                    · exact .inr (.inr (.inl h))
                    · exact .inr (.inr (.inr (.inl h)))
                    · exact .inr (.inr (.inr (.inr (.inl h))))
                    · exact .inr (.inr (.inr (.inr (.inr (.inl h)))))
                    · exact .inr (.inr (.inr (.inr (.inr (.inr (h))))))
                  · have e5 : z 5 = .bool true := hz.out 5 (by decide) (dep_of hi (d := 5) (by kernel_rfl))
                    have hbel : Below WH.heap.size WH U := by
                      rcases hst.out with ⟨_, _, _, _, _, _, _, _, _, _, h⟩ | ⟨_, _, _, _, _, _, _, _, _, _, _, h⟩ | ⟨_, _, _, _, _, _, _, _, _, h⟩ | ⟨_, _, _, _, _, _, _, _, _, _, _, _, _, h⟩ | ⟨_, _, _, _, _, _, _, _, _, _, _, _, _, h⟩ | ⟨_, _, _, _, _, _, _, _, h⟩ | ⟨_, _, _, _, _, _, _, _, _, h⟩
                      all_goals exact h
                    have hB0 := HYH.out.call hbel
                    have c0 := hB0.c0
                    have c1 := hB0.c1
                    have c2 := hB0.c2
                    have hltx := hB0.lt
                    rw [e5]
                    refine inv_step (by rfl) (fun K hK => ?_)
                    go_simp
                    refine hK.out _ _ ⟨upZ (upZ z 5 (.bool true)) 6 (.agg #[.slice vb g2.length vd, .int .i64 s.a, .bool s.n]), rfl, hideG (TabZ.step (TabZ.fill hz.out e5) rfl), hideG ?_⟩
                    have HST := hst.out
                    clear hst hz hK
                    simp only [flag_ne (show 6 ≠ 1 from by decide), flag_ne (show 6 ≠ 3 from by decide), flag_ne (show 6 ≠ 8 from by decide), flag_ne (show 6 ≠ 9 from by decide), flag_ne (show 6 ≠ 12 from by decide), flag_ne (show 6 ≠ 15 from by decide)]
                    simp only [flag_ne (show 6 ≠ 4 from by decide)]
                    simp only [flag_ne (show 6 ≠ 5 from by decide)]
                    simp only [flag_ne (show 6 ≠ 13 from by decide)]
                    simp only [flag_ne (show 6 ≠ 14 from by decide)]
                    have E1 : upZ (upZ z 5 (.bool true)) 6 (.agg #[.slice vb g2.length vd, .int .i64 s.a, .bool s.n]) 1 = z 1 := by simp [upZ]
                    have E3 : upZ (upZ z 5 (.bool true)) 6 (.agg #[.slice vb g2.length vd, .int .i64 s.a, .bool s.n]) 3 = z 3 := by simp [upZ]
                    have E8 : upZ (upZ z 5 (.bool true)) 6 (.agg #[.slice vb g2.length vd, .int .i64 s.a, .bool s.n]) 8 = z 8 := by simp [upZ]
                    have E9 : upZ (upZ z 5 (.bool true)) 6 (.agg #[.slice vb g2.length vd, .int .i64 s.a, .bool s.n]) 9 = z 9 := by simp [upZ]
                    have E12 : upZ (upZ z 5 (.bool true)) 6 (.agg #[.slice vb g2.length vd, .int .i64 s.a, .bool s.n]) 12 = z 12 := by simp [upZ]
                    have E15 : upZ (upZ z 5 (.bool true)) 6 (.agg #[.slice vb g2.length vd, .int .i64 s.a, .bool s.n]) 15 = z 15 := by simp [upZ]
                    try rw [E1]
                    try rw [E3]
                    try rw [E8]
                    try rw [E9]
                    try rw [E12]
                    try rw [E15]
                    exact HST
                  · have e5 : z 5 = .bool true := hz.out 5 (by decide) (dep_of hi (d := 5) (by kernel_rfl))
                    rw [e5]
                    refine inv_step (by rfl) (fun K hK => ?_)
                    go_simp
                    refine hK.out _ _ ⟨upZ (upZ z 5 (.bool true)) 7 (.int .i64 n), rfl, hideG (TabZ.step (TabZ.fill hz.out e5) rfl), hideG ?_⟩
                    have HST := hst.out
                    clear hst hz hK
                    simp only [flag_ne (show 7 ≠ 1 from by decide), flag_ne (show 7 ≠ 3 from by decide), flag_ne (show 7 ≠ 8 from by decide), flag_ne (show 7 ≠ 9 from by decide), flag_ne (show 7 ≠ 12 from by decide), flag_ne (show 7 ≠ 15 from by decide)]
                    simp only [flag_ne (show 7 ≠ 4 from by decide)]
                    simp only [flag_ne (show 7 ≠ 5 from by decide)]
                    simp only [flag_ne (show 7 ≠ 13 from by decide)]
                    simp only [flag_ne (show 7 ≠ 14 from by decide)]
                    have E1 : upZ (upZ z 5 (.bool true)) 7 (.int .i64 n) 1 = z 1 := by simp [upZ]
                    have E3 : upZ (upZ z 5 (.bool true)) 7 (.int .i64 n) 3 = z 3 := by simp [upZ]
                    have E8 : upZ (upZ z 5 (.bool true)) 7 (.int .i64 n) 8 = z 8 := by simp [upZ]
                    have E9 : upZ (upZ z 5 (.bool true)) 7 (.int .i64 n) 9 = z 9 := by simp [upZ]
                    have E12 : upZ (upZ z 5 (.bool true)) 7 (.int .i64 n) 12 = z 12 := by simp [upZ]
                    have E15 : upZ (upZ z 5 (.bool true)) 7 (.int .i64 n) 15 = z 15 := by simp [upZ]
                    try rw [E1]
                    try rw [E3]
                    try rw [E8]
                    try rw [E9]
                    try rw [E12]
                    try rw [E15]
                    exact HST
                  · have e5 : z 5 = .bool true := hz.out 5 (by decide) (dep_of hi (d := 5) (by kernel_rfl))
                    have e6 : z 6 = .agg #[.slice vb g2.length vd, .int .i64 s.a, .bool s.n] := hz.out 6 (by decide) (dep_of hi (d := 6) (by kernel_rfl))
                    have e7 : z 7 = .int .i64 n := hz.out 7 (by decide) (dep_of hi (d := 7) (by kernel_rfl))
                    rcases hst.out with hq | hq | hq | hq | hq | hq | hq
                    · exact absurd ((dep_of hi (d := 5) (by kernel_rfl)).symm.trans hq.2.2.2.2.2.2.2.1) (by decide)
                    · exact absurd ((dep_of hi (d := 5) (by kernel_rfl)).symm.trans hq.2.2.2.2.2.2.2.1) (by decide)
                    · obtain ⟨b1, b3, b8, b9, b12, b15, g13, g14, hS⟩ := hq
                      obtain ⟨e3', hbl⟩ := hS
                      have E3 := hideG e3'
                      clear e3'
                      rw [e5, e6, e7]
                      refine inv_step (by rfl) (fun K hK => ?_)
                      go_simp
                      go_at_call 14
                      refine Calls.mono (HDRP2.out _ U (HOH.out.below hbl)) ?_
                      rintro e w9 ⟨ve, vf, rfl, hx9, hb9⟩
                      go_wp2_with fail
                      refine hK.out _ _ ⟨upZ (upZ (upZ (upZ z 5 (.bool true)) 6 (.agg #[.slice vb g2.length vd, .int .i64 s.a, .bool s.n])) 7 (.int .i64 n)) 8 (.agg #[.slice ve g2.length vf, .int .i64 s.a, .bool s.n]), rfl, hideG (TabZ.step (TabZ.mono (TabZ.fill (TabZ.fill (TabZ.fill hz.out e5) e6) e7) (fun _ _ h => h)) trivial), hideG (.inr (.inr (.inr (.inl ⟨flag_ne' (by decide) b1, flag_ne' (by decide) b3, flag_self, flag_ne' (by decide) b9, flag_ne' (by decide) b12, flag_ne' (by decide) b15, flag_ne' (by decide) g13, flag_ne' (by decide) g14, ?_⟩))))⟩
                      exact ⟨by simp [upZ, E3.out], ve, vf, by simp [upZ], hx9.grps, hbl.trans (hb9.mono hbl.size)⟩
                    · exact absurd (hun.symm.trans hq.2.2.1) (by decide)
                    · exact absurd (hun.symm.trans hq.2.2.1) (by decide)
                    · exact absurd (hun.symm.trans hq.2.2.1) (by decide)
                    · exact absurd (hun.symm.trans hq.2.2.1) (by decide)
                  · have e5 : z 5 = .bool true := hz.out 5 (by decide) (dep_of hi (d := 5) (by kernel_rfl))
                    have q8 := dep_of hi (d := 8) (by kernel_rfl)
                    rcases hst.out with hq | hq | hq | hq | hq | hq | hq
                    · exact absurd (q8.symm.trans hq.2.2.1) (by decide)
                    · exact absurd (q8.symm.trans hq.2.2.1) (by decide)
                    · exact absurd (q8.symm.trans hq.2.2.1) (by decide)
                    · obtain ⟨b1, b3, b8, b9, b12, b15, g13, g14, hS⟩ := hq
                      obtain ⟨e3', ve, vf, e8, hg, hbl⟩ := hS
                      have E3 := hideG e3'
                      clear e3'
                      rw [e5, e8]
                      refine inv_step (by rfl) (fun K hK => ?_)
                      go_simp
                      go_at_call 17
                      refine Calls.mono (told_any _ _ _ _ _ U) ?_
                      rintro e w9 ⟨rfl, hb9⟩
                      go_wp2_with fail
                      refine hK.out _ _ ⟨upZ (upZ (upZ z 5 (.bool true)) 8 (.agg #[.slice ve g2.length vf, .int .i64 s.a, .bool s.n])) 9 (.agg #[.slice ve g2.length vf, .int .i64 s.a, .bool s.n]), rfl, hideG (TabZ.step (TabZ.mono (TabZ.fill (TabZ.fill hz.out e5) e8) (fun _ _ h => h)) trivial), hideG (.inr (.inr (.inr (.inr (.inl ⟨flag_ne' (by decide) b1, flag_ne' (by decide) b3, flag_ne' (by decide) b8, flag_self, flag_ne' (by decide) b12, flag_ne' (by decide) b15, flag_ne' (by decide) g13, flag_ne' (by decide) g14, ?_⟩)))))⟩
                      exact ⟨by simp [upZ, E3.out], ve, vf, by simp [upZ], hg.below hb9, hbl.trans (hb9.mono hbl.size)⟩
                    · exact absurd (hun.symm.trans hq.2.2.2.1) (by decide)
                    · exact absurd (hun.symm.trans hq.2.2.2.1) (by decide)
                    · exact absurd (hun.symm.trans hq.2.2.2.1) (by decide)
                  · have e5 : z 5 = .bool true := hz.out 5 (by decide) (dep_of hi (d := 5) (by kernel_rfl))
                    have hbel : Below WH.heap.size WH U := by
                      rcases hst.out with ⟨_, _, _, _, _, _, _, _, _, _, h⟩ | ⟨_, _, _, _, _, _, _, _, _, _, _, h⟩ | ⟨_, _, _, _, _, _, _, _, _, h⟩ | ⟨_, _, _, _, _, _, _, _, _, _, _, _, _, h⟩ | ⟨_, _, _, _, _, _, _, _, _, _, _, _, _, h⟩ | ⟨_, _, _, _, _, _, _, _, h⟩ | ⟨_, _, _, _, _, _, _, _, _, h⟩
                      all_goals exact h
                    have hB0 := HYH.out.call hbel
                    have c0 := hB0.c0
                    have c1 := hB0.c1
                    have c2 := hB0.c2
                    have hltx := hB0.lt
                    rw [e5]
                    refine inv_step (by rfl) (fun K hK => ?_)
                    go_simp
                    refine hK.out _ _ ⟨upZ (upZ z 5 (.bool true)) 10 (.agg #[.slice vb g2.length vd, .int .i64 s.a, .bool s.n]), rfl, hideG (TabZ.step (TabZ.fill hz.out e5) rfl), hideG ?_⟩
                    have HST := hst.out
                    clear hst hz hK
                    simp only [flag_ne (show 10 ≠ 1 from by decide), flag_ne (show 10 ≠ 3 from by decide), flag_ne (show 10 ≠ 8 from by decide), flag_ne (show 10 ≠ 9 from by decide), flag_ne (show 10 ≠ 12 from by decide), flag_ne (show 10 ≠ 15 from by decide)]
                    simp only [flag_ne (show 10 ≠ 4 from by decide)]
                    simp only [flag_ne (show 10 ≠ 5 from by decide)]
                    simp only [flag_ne (show 10 ≠ 13 from by decide)]
                    simp only [flag_ne (show 10 ≠ 14 from by decide)]
                    have E1 : upZ (upZ z 5 (.bool true)) 10 (.agg #[.slice vb g2.length vd, .int .i64 s.a, .bool s.n]) 1 = z 1 := by simp [upZ]
                    have E3 : upZ (upZ z 5 (.bool true)) 10 (.agg #[.slice vb g2.length vd, .int .i64 s.a, .bool s.n]) 3 = z 3 := by simp [upZ]
                    have E8 : upZ (upZ z 5 (.bool true)) 10 (.agg #[.slice vb g2.length vd, .int .i64 s.a, .bool s.n]) 8 = z 8 := by simp [upZ]
                    have E9 : upZ (upZ z 5 (.bool true)) 10 (.agg #[.slice vb g2.length vd, .int .i64 s.a, .bool s.n]) 9 = z 9 := by simp [upZ]
                    have E12 : upZ (upZ z 5 (.bool true)) 10 (.agg #[.slice vb g2.length vd, .int .i64 s.a, .bool s.n]) 12 = z 12 := by simp [upZ]
                    have E15 : upZ (upZ z 5 (.bool true)) 10 (.agg #[.slice vb g2.length vd, .int .i64 s.a, .bool s.n]) 15 = z 15 := by simp [upZ]
                    try rw [E1]
                    try rw [E3]
                    try rw [E8]
                    try rw [E9]
                    try rw [E12]
                    try rw [E15]
                    exact HST
                  · have e5 : z 5 = .bool true := hz.out 5 (by decide) (dep_of hi (d := 5) (by kernel_rfl))
                    have e10 : z 10 = .agg #[.slice vb g2.length vd, .int .i64 s.a, .bool s.n] := hz.out 10 (by decide) (dep_of hi (d := 10) (by kernel_rfl))
                    have hbel : Below WH.heap.size WH U := by
                      rcases hst.out with ⟨_, _, _, _, _, _, _, _, _, _, h⟩ | ⟨_, _, _, _, _, _, _, _, _, _, _, h⟩ | ⟨_, _, _, _, _, _, _, _, _, h⟩ | ⟨_, _, _, _, _, _, _, _, _, _, _, _, _, h⟩ | ⟨_, _, _, _, _, _, _, _, _, _, _, _, _, h⟩ | ⟨_, _, _, _, _, _, _, _, h⟩ | ⟨_, _, _, _, _, _, _, _, _, h⟩
                      all_goals exact h
                    rw [e5, e10]
                    refine inv_step (by rfl) (fun K hK => ?_)
                    go_simp
                    go_at_call 17
                    refine Calls.mono (told_any _ _ _ _ _ U) ?_
                    rintro e w9 ⟨rfl, hb9⟩
                    go_wp2_with fail
                    refine hK.out _ _ ⟨upZ (upZ (upZ z 5 (.bool true)) 10 (.agg #[.slice vb g2.length vd, .int .i64 s.a, .bool s.n])) 11 (.agg #[.slice vb g2.length vd, .int .i64 s.a, .bool s.n]), rfl, hideG (TabZ.step (TabZ.mono (TabZ.fill (TabZ.fill hz.out e5) e10) (fun _ _ h => h)) rfl), hideG ?_⟩
                    replace hst := hideG (show (l.getD 1 true = false ∧ l.getD 3 true = false ∧ l.getD 8 true = false ∧ l.getD 9 true = false ∧ l.getD 12 true = false ∧ l.getD 15 true = false ∧ l.getD 4 true = false ∧ l.getD 5 true = false ∧ l.getD 13 true = false ∧ l.getD 14 true = false ∧ (Below WH.heap.size WH w9)) ∨ (l.getD 1 true = true ∧ l.getD 3 true = false ∧ l.getD 8 true = false ∧ l.getD 9 true = false ∧ l.getD 12 true = false ∧ l.getD 15 true = false ∧ l.getD 4 true = false ∧ l.getD 5 true = false ∧ l.getD 13 true = false ∧ l.getD 14 true = false ∧ ((z 1) = .agg #[.slice vb g2.length vd, .int .i64 s.a, .bool s.n] ∧ Below WH.heap.size WH w9)) ∨ (l.getD 1 true = true ∧ l.getD 3 true = true ∧ l.getD 8 true = false ∧ l.getD 9 true = false ∧ l.getD 12 true = false ∧ l.getD 15 true = false ∧ l.getD 13 true = false ∧ l.getD 14 true = false ∧ ((z 3) = .bool false ∧ Below WH.heap.size WH w9)) ∨ (l.getD 1 true = true ∧ l.getD 3 true = true ∧ l.getD 8 true = true ∧ l.getD 9 true = false ∧ l.getD 12 true = false ∧ l.getD 15 true = false ∧ l.getD 13 true = false ∧ l.getD 14 true = false ∧ ((z 3) = .bool false ∧ ∃ (ve : Option Addr) (vf : Nat), (z 8) = .agg #[.slice ve g2.length vf, .int .i64 s.a, .bool s.n] ∧ GrpsAt w9 (.slice ve g2.length vf) g2 ∧ Below WH.heap.size WH w9)) ∨ (l.getD 1 true = true ∧ l.getD 3 true = true ∧ l.getD 8 true = true ∧ l.getD 9 true = true ∧ l.getD 12 true = false ∧ l.getD 15 true = false ∧ l.getD 13 true = false ∧ l.getD 14 true = false ∧ ((z 3) = .bool false ∧ ∃ (ve : Option Addr) (vf : Nat), (z 9) = .agg #[.slice ve g2.length vf, .int .i64 s.a, .bool s.n] ∧ GrpsAt w9 (.slice ve g2.length vf) g2 ∧ Below WH.heap.size WH w9)) ∨ (l.getD 1 true = true ∧ l.getD 3 true = true ∧ l.getD 8 true = true ∧ l.getD 9 true = true ∧ l.getD 12 true = true ∧ l.getD 15 true = false ∧ ((z 3) = .bool false ∧ (z 12) = .bool true ∧ Below WH.heap.size WH w9)) ∨ (l.getD 1 true = true ∧ l.getD 3 true = true ∧ l.getD 8 true = true ∧ l.getD 9 true = true ∧ l.getD 12 true = true ∧ l.getD 15 true = true ∧ ((z 3) = .bool false ∧ (z 12) = .bool true ∧ (z 15) = .bool true ∧ Below WH.heap.size WH w9)) by
                      rcases hst.out with h | h | h | h | h | h | h
                      · obtain ⟨b1, b3, b8, b9, b12, b15, g4, g5, g13, g14, hS⟩ := h
                        exact .inl ⟨b1, b3, b8, b9, b12, b15, g4, g5, g13, g14, hS.trans (hb9.mono hS.size)⟩
                      · obtain ⟨b1, b3, b8, b9, b12, b15, g4, g5, g13, g14, hS⟩ := h
                        exact .inr (.inl ⟨b1, b3, b8, b9, b12, b15, g4, g5, g13, g14, hS.1, hS.2.trans (hb9.mono hS.2.size)⟩)
                      · obtain ⟨b1, b3, b8, b9, b12, b15, g13, g14, hS⟩ := h
                        exact .inr (.inr (.inl ⟨b1, b3, b8, b9, b12, b15, g13, g14, hS.1, hS.2.trans (hb9.mono hS.2.size)⟩))
                      · obtain ⟨b1, b3, b8, b9, b12, b15, g13, g14, hS⟩ := h
                        exact .inr (.inr (.inr (.inl ⟨b1, b3, b8, b9, b12, b15, g13, g14, (by obtain ⟨h3, ve, vf, e, hg, hb⟩ := hS; exact ⟨h3, ve, vf, e, hg.below hb9, hb.trans (hb9.mono hb.size)⟩)⟩)))
                      · obtain ⟨b1, b3, b8, b9, b12, b15, g13, g14, hS⟩ := h
                        exact .inr (.inr (.inr (.inr (.inl ⟨b1, b3, b8, b9, b12, b15, g13, g14, (by obtain ⟨h3, ve, vf, e, hg, hb⟩ := hS; exact ⟨h3, ve, vf, e, hg.below hb9, hb.trans (hb9.mono hb.size)⟩)⟩))))
                      · obtain ⟨b1, b3, b8, b9, b12, b15, hS⟩ := h
                        exact .inr (.inr (.inr (.inr (.inr (.inl ⟨b1, b3, b8, b9, b12, b15, hS.1, hS.2.1, hS.2.2.trans (hb9.mono hS.2.2.size)⟩)))))
                      · obtain ⟨b1, b3, b8, b9, b12, b15, hS⟩ := h
                        exact .inr (.inr (.inr (.inr (.inr (.inr (⟨b1, b3, b8, b9, b12, b15, hS.1, hS.2.1, hS.2.2.1, hS.2.2.2.trans (hb9.mono hS.2.2.2.size)⟩)))))))
                    have HST := hst.out
                    clear hst hz hK
                    simp only [flag_ne (show 11 ≠ 1 from by decide), flag_ne (show 11 ≠ 3 from by decide), flag_ne (show 11 ≠ 8 from by decide), flag_ne (show 11 ≠ 9 from by decide), flag_ne (show 11 ≠ 12 from by decide), flag_ne (show 11 ≠ 15 from by decide)]
                    simp only [flag_ne (show 11 ≠ 4 from by decide)]
                    simp only [flag_ne (show 11 ≠ 5 from by decide)]
                    simp only [flag_ne (show 11 ≠ 13 from by decide)]
                    simp only [flag_ne (show 11 ≠ 14 from by decide)]
                    have E1 : upZ (upZ (upZ z 5 (.bool true)) 10 (.agg #[.slice vb g2.length vd, .int .i64 s.a, .bool s.n])) 11 (.agg #[.slice vb g2.length vd, .int .i64 s.a, .bool s.n]) 1 = z 1 := by simp [upZ]
                    have E3 : upZ (upZ (upZ z 5 (.bool true)) 10 (.agg #[.slice vb g2.length vd, .int .i64 s.a, .bool s.n])) 11 (.agg #[.slice vb g2.length vd, .int .i64 s.a, .bool s.n]) 3 = z 3 := by simp [upZ]
                    have E8 : upZ (upZ (upZ z 5 (.bool true)) 10 (.agg #[.slice vb g2.length vd, .int .i64 s.a, .bool s.n])) 11 (.agg #[.slice vb g2.length vd, .int .i64 s.a, .bool s.n]) 8 = z 8 := by simp [upZ]
                    have E9 : upZ (upZ (upZ z 5 (.bool true)) 10 (.agg #[.slice vb g2.length vd, .int .i64 s.a, .bool s.n])) 11 (.agg #[.slice vb g2.length vd, .int .i64 s.a, .bool s.n]) 9 = z 9 := by simp [upZ]
                    have E12 : upZ (upZ (upZ z 5 (.bool true)) 10 (.agg #[.slice vb g2.length vd, .int .i64 s.a, .bool s.n])) 11 (.agg #[.slice vb g2.length vd, .int .i64 s.a, .bool s.n]) 12 = z 12 := by simp [upZ]
                    have E15 : upZ (upZ (upZ z 5 (.bool true)) 10 (.agg #[.slice vb g2.length vd, .int .i64 s.a, .bool s.n])) 11 (.agg #[.slice vb g2.length vd, .int .i64 s.a, .bool s.n]) 15 = z 15 := by simp [upZ]
                    try rw [E1]
                    try rw [E3]
                    try rw [E8]
                    try rw [E9]
                    try rw [E12]
                    try rw [E15]
                    exact HST
                  · have e5 : z 5 = .bool true := hz.out 5 (by decide) (dep_of hi (d := 5) (by kernel_rfl))
                    have q9 := dep_of hi (d := 9) (by kernel_rfl)
                    have e11 : z 11 = .agg #[.slice vb g2.length vd, .int .i64 s.a, .bool s.n] := hz.out 11 (by decide) (dep_of hi (d := 11) (by kernel_rfl))
                    rcases hst.out with hq | hq | hq | hq | hq | hq | hq
                    · exact absurd (q9.symm.trans hq.2.2.2.1) (by decide)
                    · exact absurd (q9.symm.trans hq.2.2.2.1) (by decide)
                    · exact absurd (q9.symm.trans hq.2.2.2.1) (by decide)
                    · exact absurd (q9.symm.trans hq.2.2.2.1) (by decide)
                    · obtain ⟨b1, b3, b8, b9, b12, b15, g13, g14, hS⟩ := hq
                      obtain ⟨e3', ve, vf, e9, hg, hbl⟩ := hS
                      have E3 := hideG e3'
                      clear e3'
                      rw [e5, e11, e9]
                      refine inv_step (by rfl) (fun K hK => ?_)
                      go_simp
                      go_at_call 16
                      refine Calls.mono (same_any g2 g2 _ _ s.a s.a s.n s.n U hg (HOH.out.below hbl) (HF2.out.mono (by omega))) ?_
                      rintro e w9 ⟨rfl, hb9⟩
                      rw [show decide ((⟨g2, s.a, s.n⟩ : Wt) = ⟨g2, s.a, s.n⟩) = true from decide_eq_true rfl]
                      go_wp2_with fail
                      refine hK.out _ _ ⟨upZ (upZ (upZ (upZ z 5 (.bool true)) 11 (.agg #[.slice vb g2.length vd, .int .i64 s.a, .bool s.n])) 9 (.agg #[.slice ve g2.length vf, .int .i64 s.a, .bool s.n])) 12 (.bool true), rfl, hideG (TabZ.step (TabZ.mono (TabZ.fill (TabZ.fill (TabZ.fill hz.out e5) e11) e9) (fun _ _ h => h)) trivial), hideG (.inr (.inr (.inr (.inr (.inr (.inl ⟨flag_ne' (by decide) b1, flag_ne' (by decide) b3, flag_ne' (by decide) b8, flag_ne' (by decide) b9, flag_self, flag_ne' (by decide) b15, ?_⟩))))))⟩
                      exact ⟨by simp [upZ, E3.out], by simp [upZ], hbl.trans (hb9.mono hbl.size)⟩
                    · exact absurd (hun.symm.trans hq.2.2.2.2.1) (by decide)
                    · exact absurd (hun.symm.trans hq.2.2.2.2.1) (by decide)
                  · have e5 : z 5 = .bool true := hz.out 5 (by decide) (dep_of hi (d := 5) (by kernel_rfl))
                    have q12 := dep_of hi (d := 12) (by kernel_rfl)
                    have e12 : z 12 = .bool true := by
                      rcases hst.out with h | h | h | h | h | h | h
                      · exact absurd (q12.symm.trans h.2.2.2.2.1) (by decide)
                      · exact absurd (q12.symm.trans h.2.2.2.2.1) (by decide)
                      · exact absurd (q12.symm.trans h.2.2.2.2.1) (by decide)
                      · exact absurd (q12.symm.trans h.2.2.2.2.1) (by decide)
                      · exact absurd (q12.symm.trans h.2.2.2.2.1) (by decide)
                      · exact h.2.2.2.2.2.2.2.1
                      · exact h.2.2.2.2.2.2.2.1
                    rw [e5, e12]
                    refine inv_step (by rfl) (fun K hK => ?_)
                    go_simp
                    refine hK.out _ _ ⟨upZ (upZ (upZ z 5 (.bool true)) 12 (.bool true)) 13 (.bool true), rfl, hideG (TabZ.step (TabZ.fill (TabZ.fill hz.out e5) e12) rfl), hideG ?_⟩
                    have HST := hst.out
                    clear hst hz hK
                    simp only [flag_ne (show 13 ≠ 1 from by decide), flag_ne (show 13 ≠ 3 from by decide), flag_ne (show 13 ≠ 8 from by decide), flag_ne (show 13 ≠ 9 from by decide), flag_ne (show 13 ≠ 12 from by decide), flag_ne (show 13 ≠ 15 from by decide)]
                    simp only [flag_ne (show 13 ≠ 4 from by decide)]
                    simp only [flag_ne (show 13 ≠ 5 from by decide)]
                    simp only [flag_ne (show 13 ≠ 14 from by decide)]
                    have E1 : upZ (upZ (upZ z 5 (.bool true)) 12 (.bool true)) 13 (.bool true) 1 = z 1 := by simp [upZ]
                    have E3 : upZ (upZ (upZ z 5 (.bool true)) 12 (.bool true)) 13 (.bool true) 3 = z 3 := by simp [upZ]
                    have E8 : upZ (upZ (upZ z 5 (.bool true)) 12 (.bool true)) 13 (.bool true) 8 = z 8 := by simp [upZ]
                    have E9 : upZ (upZ (upZ z 5 (.bool true)) 12 (.bool true)) 13 (.bool true) 9 = z 9 := by simp [upZ]
                    have E12 : upZ (upZ (upZ z 5 (.bool true)) 12 (.bool true)) 13 (.bool true) 12 = z 12 := by simp [upZ, e12]
                    have E15 : upZ (upZ (upZ z 5 (.bool true)) 12 (.bool true)) 13 (.bool true) 15 = z 15 := by simp [upZ]
                    try rw [E1]
                    try rw [E3]
                    try rw [E8]
                    try rw [E9]
                    try rw [E12]
                    try rw [E15]
                    rcases HST with h | h | h | h | h | h | h
                    · exact absurd ((dep_of hi (d := 5) (by kernel_rfl)).symm.trans h.2.2.2.2.2.2.2.1) (by decide)
                    · exact absurd ((dep_of hi (d := 5) (by kernel_rfl)).symm.trans h.2.2.2.2.2.2.2.1) (by decide)
                    · exact absurd ((dep_of hi (d := 12) (by kernel_rfl)).symm.trans h.2.2.2.2.1) (by decide)
                    · exact absurd ((dep_of hi (d := 12) (by kernel_rfl)).symm.trans h.2.2.2.2.1) (by decide)
                    · exact absurd ((dep_of hi (d := 12) (by kernel_rfl)).symm.trans h.2.2.2.2.1) (by decide)
                    · exact .inr (.inr (.inr (.inr (.inr (.inl h)))))
                    · exact .inr (.inr (.inr (.inr (.inr (.inr (h))))))
                  · have e13 : z 13 = .bool true := hz.out 13 (by decide) (dep_of hi (d := 13) (by kernel_rfl))
                    rw [e13]
                    refine inv_step (by rfl) (fun K hK => ?_)
                    go_simp
                    refine hK.out _ _ ⟨upZ (upZ z 13 (.bool true)) 14 (.bool true), rfl, hideG (TabZ.step (TabZ.fill hz.out e13) rfl), hideG ?_⟩
                    have HST := hst.out
                    clear hst hz hK
                    simp only [flag_ne (show 14 ≠ 1 from by decide), flag_ne (show 14 ≠ 3 from by decide), flag_ne (show 14 ≠ 8 from by decide), flag_ne (show 14 ≠ 9 from by decide), flag_ne (show 14 ≠ 12 from by decide), flag_ne (show 14 ≠ 15 from by decide)]
                    simp only [flag_ne (show 14 ≠ 4 from by decide)]
                    simp only [flag_ne (show 14 ≠ 5 from by decide)]
                    simp only [flag_ne (show 14 ≠ 13 from by decide)]
                    have E1 : upZ (upZ z 13 (.bool true)) 14 (.bool true) 1 = z 1 := by simp [upZ]
                    have E3 : upZ (upZ z 13 (.bool true)) 14 (.bool true) 3 = z 3 := by simp [upZ]
                    have E8 : upZ (upZ z 13 (.bool true)) 14 (.bool true) 8 = z 8 := by simp [upZ]
                    have E9 : upZ (upZ z 13 (.bool true)) 14 (.bool true) 9 = z 9 := by simp [upZ]
                    have E12 : upZ (upZ z 13 (.bool true)) 14 (.bool true) 12 = z 12 := by simp [upZ]
                    have E15 : upZ (upZ z 13 (.bool true)) 14 (.bool true) 15 = z 15 := by simp [upZ]
                    try rw [E1]
                    try rw [E3]
                    try rw [E8]
                    try rw [E9]
                    try rw [E12]
                    try rw [E15]
                    rcases HST with h | h | h | h | h | h | h
                    · exact absurd ((dep_of hi (d := 13) (by kernel_rfl)).symm.trans h.2.2.2.2.2.2.2.2.1) (by decide)
                    · exact absurd ((dep_of hi (d := 13) (by kernel_rfl)).symm.trans h.2.2.2.2.2.2.2.2.1) (by decide)
                    · exact absurd ((dep_of hi (d := 13) (by kernel_rfl)).symm.trans h.2.2.2.2.2.2.1) (by decide)
                    · exact absurd ((dep_of hi (d := 13) (by kernel_rfl)).symm.trans h.2.2.2.2.2.2.1) (by decide)
                    · exact absurd ((dep_of hi (d := 13) (by kernel_rfl)).symm.trans h.2.2.2.2.2.2.1) (by decide)
                    · exact .inr (.inr (.inr (.inr (.inr (.inl h)))))
                    · exact .inr (.inr (.inr (.inr (.inr (.inr (h))))))
                  · have e14 : z 14 = .bool true := hz.out 14 (by decide) (dep_of hi (d := 14) (by kernel_rfl))
                    rcases hst.out with hq | hq | hq | hq | hq | hq | hq
                    · exact absurd ((dep_of hi (d := 14) (by kernel_rfl)).symm.trans hq.2.2.2.2.2.2.2.2.2.1) (by decide)
                    · exact absurd ((dep_of hi (d := 14) (by kernel_rfl)).symm.trans hq.2.2.2.2.2.2.2.2.2.1) (by decide)
                    · exact absurd ((dep_of hi (d := 14) (by kernel_rfl)).symm.trans hq.2.2.2.2.2.2.2.1) (by decide)
                    · exact absurd ((dep_of hi (d := 14) (by kernel_rfl)).symm.trans hq.2.2.2.2.2.2.2.1) (by decide)
                    · exact absurd ((dep_of hi (d := 14) (by kernel_rfl)).symm.trans hq.2.2.2.2.2.2.2.1) (by decide)
                    · obtain ⟨b1, b3, b8, b9, b12, b15, hS⟩ := hq
                      obtain ⟨e3', e12', hbl⟩ := hS
                      have E3 := hideG e3'
                      have E12 := hideG e12'
                      clear e3' e12'
                      rw [e14]
                      refine inv_step (by rfl) (fun K hK => ?_)
                      go_simp
                      go_at_call 8
                      refine Calls.mono (live_any U) ?_
                      rintro e w9 ⟨rfl, hb9⟩
                      go_wp2_with fail
                      refine hK.out _ _ ⟨upZ (upZ z 14 (.bool true)) 15 (.bool true), rfl, hideG (TabZ.step (TabZ.mono (TabZ.fill hz.out e14) (fun _ _ h => h)) trivial), hideG (.inr (.inr (.inr (.inr (.inr (.inr (⟨flag_ne' (by decide) b1, flag_ne' (by decide) b3, flag_ne' (by decide) b8, flag_ne' (by decide) b9, flag_ne' (by decide) b12, flag_self, ?_⟩)))))))⟩
                      exact ⟨by simp [upZ, E3.out], by simp [upZ, E12.out], by simp [upZ], hbl.trans (hb9.mono hbl.size)⟩
                    · exact absurd (hun.symm.trans hq.2.2.2.2.2.1) (by decide)
                  · have e14 : z 14 = .bool true := hz.out 14 (by decide) (dep_of hi (d := 14) (by kernel_rfl))
                    have q15 := dep_of hi (d := 15) (by kernel_rfl)
                    have e15 : z 15 = .bool true := by
                      rcases hst.out with h | h | h | h | h | h | h
                      · exact absurd (q15.symm.trans h.2.2.2.2.2.1) (by decide)
                      · exact absurd (q15.symm.trans h.2.2.2.2.2.1) (by decide)
                      · exact absurd (q15.symm.trans h.2.2.2.2.2.1) (by decide)
                      · exact absurd (q15.symm.trans h.2.2.2.2.2.1) (by decide)
                      · exact absurd (q15.symm.trans h.2.2.2.2.2.1) (by decide)
                      · exact absurd (q15.symm.trans h.2.2.2.2.2.1) (by decide)
                      · exact h.2.2.2.2.2.2.2.2.1
                    rw [e14, e15]
                    refine inv_step (by rfl) (fun K hK => ?_)
                    go_simp
                    refine hK.out _ _ ⟨upZ (upZ (upZ z 14 (.bool true)) 15 (.bool true)) 16 (.bool true), rfl, hideG (TabZ.step (TabZ.fill (TabZ.fill hz.out e14) e15) rfl), hideG ?_⟩
                    have HST := hst.out
                    clear hst hz hK
                    simp only [flag_ne (show 16 ≠ 1 from by decide), flag_ne (show 16 ≠ 3 from by decide), flag_ne (show 16 ≠ 8 from by decide), flag_ne (show 16 ≠ 9 from by decide), flag_ne (show 16 ≠ 12 from by decide), flag_ne (show 16 ≠ 15 from by decide)]
                    simp only [flag_ne (show 16 ≠ 4 from by decide)]
                    simp only [flag_ne (show 16 ≠ 5 from by decide)]
                    simp only [flag_ne (show 16 ≠ 13 from by decide)]
                    simp only [flag_ne (show 16 ≠ 14 from by decide)]
                    have E1 : upZ (upZ (upZ z 14 (.bool true)) 15 (.bool true)) 16 (.bool true) 1 = z 1 := by simp [upZ]
                    have E3 : upZ (upZ (upZ z 14 (.bool true)) 15 (.bool true)) 16 (.bool true) 3 = z 3 := by simp [upZ]
                    have E8 : upZ (upZ (upZ z 14 (.bool true)) 15 (.bool true)) 16 (.bool true) 8 = z 8 := by simp [upZ]
                    have E9 : upZ (upZ (upZ z 14 (.bool true)) 15 (.bool true)) 16 (.bool true) 9 = z 9 := by simp [upZ]
                    have E12 : upZ (upZ (upZ z 14 (.bool true)) 15 (.bool true)) 16 (.bool true) 12 = z 12 := by simp [upZ]
                    have E15 : upZ (upZ (upZ z 14 (.bool true)) 15 (.bool true)) 16 (.bool true) 15 = z 15 := by simp [upZ, e15]
                    try rw [E1]
                    try rw [E3]
                    try rw [E8]
                    try rw [E9]
                    try rw [E12]
                    try rw [E15]
                    exact HST
                  · have e16 : z 16 = .bool true := hz.out 16 (by decide) (dep_of hi (d := 16) (by kernel_rfl))
                    rw [e16]
                    refine inv_step (by rfl) (fun K hK => ?_)
                    go_simp
                    refine hK.out _ _ ⟨upZ (upZ z 16 (.bool true)) 17 (.bool true), rfl, hideG (TabZ.step (TabZ.fill hz.out e16) rfl), hideG ?_⟩
                    have HST := hst.out
                    clear hst hz hK
                    simp only [flag_ne (show 17 ≠ 1 from by decide), flag_ne (show 17 ≠ 3 from by decide), flag_ne (show 17 ≠ 8 from by decide), flag_ne (show 17 ≠ 9 from by decide), flag_ne (show 17 ≠ 12 from by decide), flag_ne (show 17 ≠ 15 from by decide)]
                    simp only [flag_ne (show 17 ≠ 4 from by decide)]
                    simp only [flag_ne (show 17 ≠ 5 from by decide)]
                    simp only [flag_ne (show 17 ≠ 13 from by decide)]
                    simp only [flag_ne (show 17 ≠ 14 from by decide)]
                    have E1 : upZ (upZ z 16 (.bool true)) 17 (.bool true) 1 = z 1 := by simp [upZ]
                    have E3 : upZ (upZ z 16 (.bool true)) 17 (.bool true) 3 = z 3 := by simp [upZ]
                    have E8 : upZ (upZ z 16 (.bool true)) 17 (.bool true) 8 = z 8 := by simp [upZ]
                    have E9 : upZ (upZ z 16 (.bool true)) 17 (.bool true) 9 = z 9 := by simp [upZ]
                    have E12 : upZ (upZ z 16 (.bool true)) 17 (.bool true) 12 = z 12 := by simp [upZ]
                    have E15 : upZ (upZ z 16 (.bool true)) 17 (.bool true) 15 = z 15 := by simp [upZ]
                    try rw [E1]
                    try rw [E3]
                    try rw [E8]
                    try rw [E9]
                    try rw [E12]
                    try rw [E15]
                    exact HST
                · intro l ac U hall hInv
                  obtain ⟨z, ha, hz, hst⟩ := hInv
                  subst ha
                  have e0 : z 0 = .agg #[.slice vb g2.length vd, .int .i64 s.a, .bool s.n] := hz.out 0 (by decide) (hall 0 (by decide))
                  have e2 : z 2 = .agg #[.slice (some ⟨b, off, none⟩) s.g.length gc, .int .i64 s.a, .bool s.n] := hz.out 2 (by decide) (hall 2 (by decide))
                  have e4 : z 4 = .bool true := hz.out 4 (by decide) (hall 4 (by decide))
                  have e5 : z 5 = .bool true := hz.out 5 (by decide) (hall 5 (by decide))
                  have e6 : z 6 = .agg #[.slice vb g2.length vd, .int .i64 s.a, .bool s.n] := hz.out 6 (by decide) (hall 6 (by decide))
                  have e7 : z 7 = .int .i64 n := hz.out 7 (by decide) (hall 7 (by decide))
                  have e10 : z 10 = .agg #[.slice vb g2.length vd, .int .i64 s.a, .bool s.n] := hz.out 10 (by decide) (hall 10 (by decide))
                  have e11 : z 11 = .agg #[.slice vb g2.length vd, .int .i64 s.a, .bool s.n] := hz.out 11 (by decide) (hall 11 (by decide))
                  have e13 : z 13 = .bool true := hz.out 13 (by decide) (hall 13 (by decide))
                  have e14 : z 14 = .bool true := hz.out 14 (by decide) (hall 14 (by decide))
                  have e16 : z 16 = .bool true := hz.out 16 (by decide) (hall 16 (by decide))
                  have e17 : z 17 = .bool true := hz.out 17 (by decide) (hall 17 (by decide))
                  rcases hst.out with hq | hq | hq | hq | hq | hq | hq
                  · exact absurd ((hall 1 (by decide)).symm.trans hq.1) (by decide)
                  · exact absurd ((hall 3 (by decide)).symm.trans hq.2.1) (by decide)
                  · exact absurd ((hall 8 (by decide)).symm.trans hq.2.2.1) (by decide)
                  · exact absurd ((hall 9 (by decide)).symm.trans hq.2.2.2.1) (by decide)
                  · exact absurd ((hall 12 (by decide)).symm.trans hq.2.2.2.2.1) (by decide)
                  · exact absurd ((hall 15 (by decide)).symm.trans hq.2.2.2.2.2.1) (by decide)
                  · obtain ⟨_, _, _, _, _, _, hS⟩ := hq
                    clear hz hall hst
                    rw [e0, e2, e4, e5, e6, e7, e10, e11, e13, e14, e16, e17]
                    have HBU := hideG hS.2.2.2
                    clear hS
                    go_wp2_with fail
                    go_ret
                    exact ⟨rfl, mono_k HBH.out HBU.out⟩
            · obtain rfl : m = row.length := by omega
              have HNO := hideG (show n ∉ row from fun hn => by
                obtain ⟨j, hj, e⟩ := mem_getD (d := 0) hn
                exact HM.out j hj e)
              have hmm : ¬ ((row.length : Int) < (row.length : Int)) := by omega
              clear HM
              go_wp2_with fail
              go_roundw
              case rel => exact ⟨k + 1, zy, by omega, rfl, by go_num, hideG (HNX.out (by omega) HNO.out), HBM.out⟩
              case measure => simp [intOf]; omega
      · have hlen : k = s.g.length := by omega
        have HALL := hideG (show ∀ r, r ∈ s.g → 0 < r.length ∧ n ∉ r from fun r hr => by
          obtain ⟨j, hj, rfl⟩ := mem_getD (d := []) hr
          exact HK.out j (by omega))
        have HGK := hideG (HG1.out.below HBK.out)
        have HBK1 := hideG (mono_k HB1.out HBK.out)
        obtain ⟨go, hgo⟩ : ∃ go, (wtOpen s n).g = go := ⟨_, rfl⟩
        have HOPN := hideG (fun (gv : Value) (U : World) (h : GrpsAt U gv s.g) => (by have t := open_any s.g (HFW.out.mono (by omega)) gv s.a s.n n U h; rw [show (wtOpen ⟨s.g, s.a, s.n⟩ n).g = go from hgo] at t; exact t))
        have HDRP := hideG (fun (gv : Value) (U : World) (h : GrpsAt U gv go) => (by have t := drop_any go (by rw [← hgo]; exact (open_few (x := n) HFW.out).mono (by omega)) gv s.a true n U h; rw [show dropG go n = s.g by rw [← hgo]; exact dropG_open HALL.out] at t; exact t))
        clear hgo
        have HHL := hideG hlen
        subst hlen
        have c1 := HXK.out.c1
        have c2 := HXK.out.c2
        have hmm : ¬ ((s.g.length : Int) < (s.g.length : Int)) := by omega
        clear HK HX1 HG1 HB1 hk
        go_wp2_with fail
        refine (own_any _ _ _ _ _ _).mono ?_
        rintro e w2 ⟨rfl, hb2⟩
        have HB2 := hideG (mono_k HBK1.out hb2)
        have HX2 := hideG (HXK.out.call hb2)
        have HG2 := hideG (HGK.out.below hb2)
        clear hb2 c0 c1 c2 clt HXK HGK HBK1 HBK
        go_wp2_with fail
        refine (HOPN.out _ _ HG2.out).mono ?_
        rintro e w3 ⟨vb, vd, rfl, ho3, hb3⟩
        have HB3 := hideG (mono_k HB2.out hb3)
        have HX3 := hideG (HX2.out.call hb3)
        have HG3 := hideG (HG2.out.below hb3)
        have HO3 := hideG ho3.grps
        clear hb3 ho3 HX2 HG2 HB2 HOPN
        go_wp2_with fail
        refine (HDRP.out _ _ HO3.out).mono ?_
        rintro e w4 ⟨vz, vy, rfl, ho4, hb4⟩
        have HX4 := hideG (HX3.out.call hb4)
        have HG4 := hideG (HG3.out.below hb4)
        have HB4 := hideG (mono_k HB3.out hb4)
        have HO4 := hideG ho4
        have hY := hb4.size
        have HW4 := hideG (HX4.out.lt)
        clear hb4 ho4 HX3 HG3 HO3 HDRP
        have c2 := HX4.out.c2
        have clt := HX4.out.lt
        obtain ⟨WH, hWH⟩ : ∃ WH, w4.alloc (.cells #[.slice vz s.g.length vy, .int .i64 s.a, .bool s.n] 26) = WH := ⟨_, rfl⟩
        have HYH := hideG (show Box3 WH w4.heap.size (.slice vz s.g.length vy) (.int .i64 s.a) (.bool s.n) by rw [← hWH]; exact Box3.new _ _ _ _ _)
        have HOH := hideG (show OwnX WH w3.heap.size (.slice vz s.g.length vy) s.g by rw [← hWH]; exact HO4.out.alloc _)
        have HBH := hideG (show Below w.heap.size w WH by rw [← hWH]; exact mono_k HB4.out (alB _ _))
        have HXH := hideG (show Box3 WH _ _ _ _ by rw [← hWH]; exact HX4.out.alloc _)
        have HGH := hideG (show GrpsAt WH _ _ by rw [← hWH]; exact HG4.out.below (alB _ _))
        have HWH := hideG hWH
        clear hWH HX4 HG4 HB4 HO4
        go_wp2_with fail
        rw [HWH.out]
        clear HWH c2 clt
        have hWY0 : w.heap.size < w4.heap.size := HW4.out
        have HST0 := hideG (show Below WH.heap.size WH WH.drew from (Below.refl _ _).drew)
        refine wp_region_inv (fun l ac U => ∃ z : Nat → Value, ac = { tmps := #[Value.agg #[Value.slice ga s.g.length gc, Value.int IntKind.i64 s.a, Value.bool s.n], Value.int IntKind.i64 n, Value.pointer (some { block := w.heap.size, off := 0 }), undef, u4, Value.int IntKind.i64 zz, Value.int IntKind.i64 ((s.g.length : Nat) : Int), u7, u8, Value.pointer (some { block := w4.heap.size, off := 0 }), undef, undef, Value.agg #[Value.slice ga s.g.length gc, Value.int IntKind.i64 s.a, Value.bool s.n], Value.bool true, Value.bool false, undef, Value.int IntKind.i64 ((s.g.length : Nat) : Int), Value.pointer (some { block := w.heap.size, off := 0 }), Value.slice ga s.g.length gc, Value.int IntKind.i64 ((s.g.length : Nat) : Int), Value.bool false, u21, u22, u23, u24, u25, u26, u27, u28, u29, u30, u31, u32, u33, u34, u35, u36, u37, u38, u39, u40, u41, u42, u43, u44, u45, u46, u47, u48, u49, u50, u51, u52, u53, u54, u55, u56, u57, u58, u59, u60, u61, u62, u63, u64, u65, u66, u67, u68, u69, u70, u71, u72, u73, Value.agg #[Value.slice ga s.g.length gc, Value.int IntKind.i64 s.a, Value.bool s.n], Value.agg #[Value.slice ga s.g.length gc, Value.int IntKind.i64 s.a, Value.bool s.n], Value.int IntKind.i64 n, Value.agg #[Value.slice vb go.length vd, Value.int IntKind.i64 s.a, Value.bool true], Value.int IntKind.i64 n, Value.agg #[Value.slice vz s.g.length vy, Value.int IntKind.i64 s.a, Value.bool true], Value.pointer (some { block := w.heap.size, off := 2 }), Value.bool s.n, Value.pointer (some { block := w4.heap.size, off := 2 }), z 0, z 1, z 2, z 3, z 4, undef, undef, undef, undef, undef, undef, undef, undef, undef, undef, undef, undef, undef, undef, undef, undef, undef, undef, undef, undef, undef, undef, undef, undef, undef, undef, undef, undef, undef, undef, undef, undef, undef, undef], defers := [] } ∧ Hid (TabZ 5 (PureP [.agg #[.slice vz s.g.length vy, .int .i64 s.a, .bool s.n], undef, .agg #[.slice ga s.g.length gc, .int .i64 s.a, .bool s.n], undef, .bool false] [true, false, true, false, true]) l z U) ∧ Hid ((l.getD 1 true = false ∧ l.getD 3 true = false ∧ (Below WH.heap.size WH U)) ∨ (l.getD 1 true = true ∧ l.getD 3 true = false ∧ ((z 1) = .agg #[.slice vz s.g.length vy, .int .i64 s.a, .bool s.n] ∧ Below WH.heap.size WH U)) ∨ (l.getD 1 true = true ∧ l.getD 3 true = true ∧ ((z 3) = .bool true ∧ Below WH.heap.size WH U)))) (by kernel_rfl) (by kernel_rfl) ?_ ?_ ?_
        · exact ⟨fun k => ([undef, undef, undef, undef, undef] : List Value).getD k undef, rfl, hideG TabZ.start, hideG (.inl ⟨rfl, rfl, HST0.out⟩)⟩
        · intro i l ac U hi hInv
          obtain ⟨z, ha, hz, hst⟩ := hInv
          subst ha
          obtain ⟨hun, o, ho, _⟩ := mem_ready.mp hi
          have hlt8 := (Array.getElem?_eq_some_iff.mp ho).1
          clear ho
          simp only [List.size_toArray, List.length_cons, List.length_nil, Nat.reduceAdd] at hlt8
          obtain rfl | rfl | rfl | rfl | rfl : i = 0 ∨ i = 1 ∨ i = 2 ∨ i = 3 ∨ i = 4 := by omega
          · have hbel : Below WH.heap.size WH U := by
              rcases hst.out with ⟨_, _, h⟩ | ⟨_, _, _, h⟩ | ⟨_, _, _, h⟩
              · exact h
              · exact h
              · exact h
            have hB0 := HYH.out.call hbel
            have c0 := hB0.c0
            have c1 := hB0.c1
            have c2 := hB0.c2
            have hltx := hB0.lt
            refine inv_step (by rfl) (fun K hK => ?_)
            go_simp
            refine hK.out _ _ ⟨upZ z 0 (.agg #[.slice vz s.g.length vy, .int .i64 s.a, .bool s.n]), rfl, hideG (TabZ.step hz.out rfl), hideG ?_⟩
            have HST := hst.out
            clear hst hz hK
            simp only [flag_ne (show 0 ≠ 1 from by decide), flag_ne (show 0 ≠ 3 from by decide)]
            have E1 : upZ z 0 (.agg #[.slice vz s.g.length vy, .int .i64 s.a, .bool s.n]) 1 = z 1 := by simp [upZ]
            have E3 : upZ z 0 (.agg #[.slice vz s.g.length vy, .int .i64 s.a, .bool s.n]) 3 = z 3 := by simp [upZ]
            try rw [E1]
            try rw [E3]
            exact HST
          · have e0 : z 0 = .agg #[.slice vz s.g.length vy, .int .i64 s.a, .bool s.n] := hz.out 0 (by decide) (dep_of hi (d := 0) (by kernel_rfl))
            rcases hst.out with hq | hq | hq
            · obtain ⟨b1, b3, hS⟩ := hq
              rw [e0]
              refine inv_step (by rfl) (fun K hK => ?_)
              go_simp
              go_at_call 17
              refine Calls.mono (told_any _ _ _ _ _ U) ?_
              rintro e w9 ⟨rfl, hb9⟩
              go_wp2_with fail
              refine hK.out _ _ ⟨upZ (upZ z 0 (.agg #[.slice vz s.g.length vy, .int .i64 s.a, .bool s.n])) 1 (.agg #[.slice vz s.g.length vy, .int .i64 s.a, .bool s.n]), rfl, hideG (TabZ.step (TabZ.mono (TabZ.fill hz.out e0) (fun _ _ h => h)) trivial), hideG (.inr (.inl ⟨flag_self, flag_ne' (by decide) b3, ?_⟩))⟩
              exact ⟨by simp [upZ], hS.trans (hb9.mono hS.size)⟩
            · exact absurd (hun.symm.trans hq.1) (by decide)
            · exact absurd (hun.symm.trans hq.1) (by decide)
          · have hbel : Below WH.heap.size WH U := by
              rcases hst.out with ⟨_, _, h⟩ | ⟨_, _, _, h⟩ | ⟨_, _, _, h⟩
              · exact h
              · exact h
              · exact h
            have hB0 := HXH.out.call hbel
            have c0 := hB0.c0
            have c1 := hB0.c1
            have c2 := hB0.c2
            have hltx := hB0.lt
            refine inv_step (by rfl) (fun K hK => ?_)
            go_simp
            refine hK.out _ _ ⟨upZ z 2 (.agg #[.slice ga s.g.length gc, .int .i64 s.a, .bool s.n]), rfl, hideG (TabZ.step hz.out rfl), hideG ?_⟩
            have HST := hst.out
            clear hst hz hK
            simp only [flag_ne (show 2 ≠ 1 from by decide), flag_ne (show 2 ≠ 3 from by decide)]
            have E1 : upZ z 2 (.agg #[.slice ga s.g.length gc, .int .i64 s.a, .bool s.n]) 1 = z 1 := by simp [upZ]
            have E3 : upZ z 2 (.agg #[.slice ga s.g.length gc, .int .i64 s.a, .bool s.n]) 3 = z 3 := by simp [upZ]
            try rw [E1]
            try rw [E3]
            exact HST
          · have q1 := dep_of hi (d := 1) (by kernel_rfl)
            have e2 : z 2 = .agg #[.slice ga s.g.length gc, .int .i64 s.a, .bool s.n] := hz.out 2 (by decide) (dep_of hi (d := 2) (by kernel_rfl))
            rcases hst.out with hq | hq | hq
            · exact absurd (q1.symm.trans hq.1) (by decide)
            · obtain ⟨b1, b3, hS⟩ := hq
              obtain ⟨e1, hbl⟩ := hS
              rw [e2, e1]
              refine inv_step (by rfl) (fun K hK => ?_)
              go_simp
              go_at_call 16
              refine Calls.mono (same_any s.g s.g _ _ s.a s.a s.n s.n U (HOH.out.grps.below hbl) (HGH.out.below hbl) (HFW.out.mono (by omega))) ?_
              rintro e w9 ⟨rfl, hb9⟩
              rw [show decide ((⟨s.g, s.a, s.n⟩ : Wt) = ⟨s.g, s.a, s.n⟩) = true from decide_eq_true rfl]
              go_wp2_with fail
              refine hK.out _ _ ⟨upZ (upZ (upZ z 2 (.agg #[.slice ga s.g.length gc, .int .i64 s.a, .bool s.n])) 1 (.agg #[.slice vz s.g.length vy, .int .i64 s.a, .bool s.n])) 3 (.bool true), rfl, hideG (TabZ.step (TabZ.mono (TabZ.fill (TabZ.fill hz.out e2) e1) (fun _ _ h => h)) trivial), hideG (.inr (.inr (⟨flag_ne' (by decide) b1, flag_self, ?_⟩)))⟩
              exact ⟨by simp [upZ], hbl.trans (hb9.mono hbl.size)⟩
            · exact absurd (hun.symm.trans hq.2.1) (by decide)
          · have q3 := dep_of hi (d := 3) (by kernel_rfl)
            have e3 : z 3 = .bool true := by
              rcases hst.out with ⟨_, h, _⟩ | ⟨_, h, _⟩ | ⟨_, _, h, _⟩
              · exact absurd (q3.symm.trans h) (by decide)
              · exact absurd (q3.symm.trans h) (by decide)
              · exact h
            rw [e3]
            refine inv_step (by rfl) (fun K hK => ?_)
            go_simp
            refine hK.out _ _ ⟨upZ (upZ z 3 (.bool true)) 4 (.bool false), rfl, hideG (TabZ.step (TabZ.fill hz.out e3) rfl), hideG ?_⟩
            have HST := hst.out
            clear hst hz hK
            simp only [flag_ne (show 4 ≠ 1 from by decide), flag_ne (show 4 ≠ 3 from by decide)]
            have E1 : upZ (upZ z 3 (.bool true)) 4 (.bool false) 1 = z 1 := by simp [upZ]
            have E3 : upZ (upZ z 3 (.bool true)) 4 (.bool false) 3 = z 3 := by simp [upZ, e3]
            try rw [E1]
            try rw [E3]
            exact HST
        · intro l ac U hall hInv
          obtain ⟨z, ha, hz, hst⟩ := hInv
          subst ha
          have e0 : z 0 = .agg #[.slice vz s.g.length vy, .int .i64 s.a, .bool s.n] := hz.out 0 (by decide) (hall 0 (by decide))
          have e2 : z 2 = .agg #[.slice ga s.g.length gc, .int .i64 s.a, .bool s.n] := hz.out 2 (by decide) (hall 2 (by decide))
          have e4 : z 4 = .bool false := hz.out 4 (by decide) (hall 4 (by decide))
          rcases hst.out with hq | hq | hq
          · exact absurd ((hall 1 (by decide)).symm.trans hq.1) (by decide)
          · exact absurd ((hall 3 (by decide)).symm.trans hq.2.1) (by decide)
          · obtain ⟨_, _, hS⟩ := hq
            clear hz hall hst
            rw [e0, e2, e4]
            have HBU := hideG hS.2
            clear hS
            generalize z 1 = za
            generalize z 3 = zb
            have HX0 := hideG (HXH.out.call HBU.out)
            have HY0 := hideG (HYH.out.call HBU.out)
            have HO0 := hideG (HOH.out.grps.below HBU.out)
            have HB0 := hideG (mono_k HBH.out HBU.out)
            have hYY := HYH.out.lt
            have hYU := HBU.out.size
            have hWY : w.heap.size < w4.heap.size := hWY0
            clear HBU HXH HYH HOH HBH HGH
            go_wp2_with fail
            go_loopw [10] (fun i wr => ∃ (q : Nat) (gx : List (List Int)) (va : Option Addr) (vc : Nat), q ≤ s.g.length ∧ i = .int .i64 (q : Int) ∧ Box3 wr w4.heap.size (.slice va gx.length vc) (.int .i64 s.a) (.bool s.n) ∧ GrpsAt wr (.slice va gx.length vc) gx ∧ Box3 wr w.heap.size (.slice ga s.g.length gc) (.int .i64 s.a) (.bool s.n) ∧ Hid (Dropped s.g gx q 0) ∧ Hid (fewG gx 60) ∧ Below w.heap.size w wr) (fun i _ => s.g.length - (intOf i).toNat)
            case atStart => exact ⟨0, s.g, vz, vy, Nat.zero_le _, rfl, HY0.out, HO0.out, HX0.out, hideG (Dropped.start (fun r hr => (HALL.out r hr).1)), HFW, HB0.out⟩
            case round =>
              obtain ⟨q, gx, va, vc, hq, rfl, hy, ho, hx, HD, HFX, hbl⟩ := hrel
              have HYQ := hideG hy
              have HOQ := hideG ho
              have HXQ := hideG hx
              have HBQ := hideG hbl
              clear hy ho hx hbl
              have c0 := HXQ.out.c0
              have clt := HXQ.out.lt
              by_cases hqlt : q < s.g.length
              · obtain ⟨b, off, ra, rc, rfl, cR, hI⟩ := HGW.out.at hqlt
                have HCR := hideG cR
                have HI := hideG hI
                have HRL := hideG (HFW.out.row (j := q))
                have HNXT := hideG (fun (g' : List (List Int)) (h : Dropped s.g g' q (s.g.getD q []).length) => h.next)
                have HSTP := hideG (fun (g' : List (List Int)) (m : Nat) (h : Dropped s.g g' q m) => h.step)
                have HRW := hideG (rfl : s.g.getD q [] = s.g.getD q [])
                generalize hrow : s.g.getD q [] = row at HCR HI HRL HNXT HSTP cR hI
                have hrl := HRL.out
                clear cR hI hrow HRW
                go_wp2_with fail
                clear c0 clt
                go_loopw [11] (fun i ws => ∃ (m : Nat) (gx : List (List Int)) (va : Option Addr) (vc : Nat), m ≤ row.length ∧ i = .int .i64 (m : Int) ∧ Box3 ws w4.heap.size (.slice va gx.length vc) (.int .i64 s.a) (.bool s.n) ∧ GrpsAt ws (.slice va gx.length vc) gx ∧ Box3 ws w.heap.size (.slice (some ⟨b, off, none⟩) s.g.length gc) (.int .i64 s.a) (.bool s.n) ∧ Hid (Dropped s.g gx q m) ∧ Hid (fewG gx 60) ∧ Below w.heap.size w ws) (fun i _ => row.length - (intOf i).toNat)
                case atStart => exact ⟨0, gx, va, vc, Nat.zero_le _, rfl, HYQ.out, HOQ.out, HXQ.out, HD, HFX, HBQ.out⟩
                case round =>
                  obtain ⟨m, gz, vu, vv, hm, rfl, hy, ho, hx, HDM, HFM, hbl⟩ := hrel
                  have HYM := hideG hy
                  have HOM := hideG ho
                  have HXM := hideG hx
                  have HBM := hideG hbl
                  clear hy ho hx hbl
                  have c0 := HXM.out.c0
                  have clt := HXM.out.lt
                  have hq0 : (0 : Int) ≤ (q : Int) := by omega
                  have hq1 : (q : Int) < (s.g.length : Int) := by omega
                  by_cases hml : m < row.length
                  · obtain ⟨bl, ol, rfl, cl⟩ := HI.out.at hml
                    have HSN := hideG (HSTP.out gz m HDM.out)
                    generalize row.getD m 0 = x at *
                    have HCL := hideG cl
                    have hm0 : (0 : Int) ≤ (m : Int) := by omega
                    have hm1 : (m : Int) < (row.length : Int) := by omega
                    obtain ⟨g3, hg3⟩ : ∃ g3, dropG gz x = g3 := ⟨_, rfl⟩
                    have HF3 := hideG (show fewG g3 60 by rw [← hg3]; exact dropG_few HFM.out)
                    have HDRP := hideG (fun (gv : Value) (U : World) (h : GrpsAt U gv gz) => (by have t := drop_any gz (HFM.out.mono (by omega)) gv s.a s.n x U h; rw [hg3] at t; exact t))
                    rw [hg3] at HSN
                    have hYM := HYM.out.lt
                    have cr := cell_below HBM.out HCR.out
                    have crt := below_of_cell cr
                    clear cl hg3 HDM HFM
                    go_wp2_with fail
                    have HST0 := hideG (show Below wr.heap.size wr wr.drew from (Below.refl _ _).drew)
                    refine wp_region_inv (fun l ac U => ∃ z : Nat → Value, ac = { tmps := #[Value.agg #[Value.slice (some { block := b, off := off }) s.g.length gc, Value.int IntKind.i64 s.a, Value.bool s.n], Value.int IntKind.i64 n, Value.pointer (some { block := w.heap.size, off := 0 }), undef, u4, Value.int IntKind.i64 zz, Value.int IntKind.i64 ((s.g.length : Nat) : Int), u7, u8, Value.pointer (some { block := w4.heap.size, off := 0 }), Value.int IntKind.i64 ((q : Nat) : Int), Value.int IntKind.i64 ((m : Nat) : Int), Value.agg #[Value.slice (some { block := b, off := off }) s.g.length gc, Value.int IntKind.i64 s.a, Value.bool s.n], Value.bool true, Value.bool false, undef, Value.int IntKind.i64 ((s.g.length : Nat) : Int), Value.pointer (some { block := w.heap.size, off := 0 }), Value.slice (some { block := b, off := off }) s.g.length gc, Value.int IntKind.i64 ((s.g.length : Nat) : Int), Value.bool false, u21, u22, u23, u24, u25, u26, u27, u28, u29, u30, u31, u32, u33, u34, u35, u36, u37, u38, u39, u40, u41, u42, u43, u44, u45, u46, u47, u48, u49, u50, u51, u52, u53, u54, u55, u56, u57, u58, u59, u60, u61, u62, u63, u64, u65, u66, u67, u68, u69, u70, u71, u72, u73, Value.agg #[Value.slice (some { block := b, off := off }) s.g.length gc, Value.int IntKind.i64 s.a, Value.bool s.n], Value.agg #[Value.slice (some { block := b, off := off }) s.g.length gc, Value.int IntKind.i64 s.a, Value.bool s.n], Value.int IntKind.i64 n, Value.agg #[Value.slice vb go.length vd, Value.int IntKind.i64 s.a, Value.bool true], Value.int IntKind.i64 n, Value.agg #[Value.slice vz s.g.length vy, Value.int IntKind.i64 s.a, Value.bool true], Value.pointer (some { block := w.heap.size, off := 2 }), Value.bool s.n, Value.pointer (some { block := w4.heap.size, off := 2 }), Value.agg #[Value.slice vz s.g.length vy, Value.int IntKind.i64 s.a, Value.bool s.n], za, Value.agg #[Value.slice (some { block := b, off := off }) s.g.length gc, Value.int IntKind.i64 s.a, Value.bool s.n], zb, Value.bool false, Value.int IntKind.i64 ((q : Nat) : Int), Value.pointer (some { block := w.heap.size, off := 0 }), Value.slice (some { block := b, off := off }) s.g.length gc, Value.int IntKind.i64 ((s.g.length : Nat) : Int), Value.bool true, u93, u94, Value.int IntKind.i64 ((m : Nat) : Int), Value.pointer (some { block := w.heap.size, off := 0 }), Value.slice (some { block := b, off := off }) s.g.length gc, Value.int IntKind.i64 ((q : Nat) : Int), Value.pointer (some { block := b, off := off + q }), Value.slice (some { block := bl, off := ol }) row.length rc, Value.int IntKind.i64 ((row.length : Nat) : Int), Value.bool true, u103, u104, z 0, z 1, z 2, z 3, z 4, z 5, z 6, z 7, z 8, z 9, undef, undef, undef, undef, undef, undef, undef], defers := [] } ∧ Hid (TabZ 11 (PureP [.agg #[.slice vu gz.length vv, .int .i64 s.a, .bool s.n], .pointer (some ⟨w.heap.size, 0, none⟩), .slice (some ⟨b, off, none⟩) s.g.length gc, .int .i64 ((q : Nat) : Int), .pointer (some ⟨b, off + q, none⟩), .slice (some ⟨bl, ol, none⟩) row.length rc, .int .i64 ((m : Nat) : Int), .pointer (some ⟨bl, ol + m, none⟩), .int .i64 x, undef, undef] [true, true, true, true, true, true, true, true, true, false, false]) l z U) ∧ Hid ((l.getD 9 true = false ∧ l.getD 10 true = false ∧ (Below wr.heap.size wr U)) ∨ (l.getD 9 true = true ∧ l.getD 10 true = false ∧ l.getD 0 true = true ∧ (∃ (va' : Option Addr) (vc' : Nat), (z 9) = .agg #[.slice va' g3.length vc', .int .i64 s.a, .bool s.n] ∧ OwnX U (w4.heap.size + 1) (.slice va' g3.length vc') g3 ∧ Below wr.heap.size wr U)) ∨ (l.getD 9 true = true ∧ l.getD 10 true = true ∧ l.getD 0 true = true ∧ (∃ (va' : Option Addr) (vc' : Nat), Box3 U w4.heap.size (.slice va' g3.length vc') (.int .i64 s.a) (.bool s.n) ∧ GrpsAt U (.slice va' g3.length vc') g3 ∧ Box3 U w.heap.size (.slice (some ⟨b, off, none⟩) s.g.length gc) (.int .i64 s.a) (.bool s.n) ∧ Below w.heap.size w U)))) (by kernel_rfl) (by kernel_rfl) ?_ ?_ ?_
                    · exact ⟨fun k => ([u105, u106, u107, u108, u109, u110, u111, u112, u113, u114, undef] : List Value).getD k undef, rfl, hideG TabZ.start, hideG (.inl ⟨rfl, rfl, HST0.out⟩)⟩
                    · intro i l ac U hi hInv
                      obtain ⟨z, ha, hz, hst⟩ := hInv
                      subst ha
                      obtain ⟨hun, o, ho, _⟩ := mem_ready.mp hi
                      have hlt8 := (Array.getElem?_eq_some_iff.mp ho).1
                      clear ho
                      simp only [List.size_toArray, List.length_cons, List.length_nil, Nat.reduceAdd] at hlt8
                      obtain rfl | rfl | rfl | rfl | rfl | rfl | rfl | rfl | rfl | rfl | rfl : i = 0 ∨ i = 1 ∨ i = 2 ∨ i = 3 ∨ i = 4 ∨ i = 5 ∨ i = 6 ∨ i = 7 ∨ i = 8 ∨ i = 9 ∨ i = 10 := by omega
                      · have hbel : Below wr.heap.size wr U := by
                          rcases hst.out with ⟨_, _, h⟩ | ⟨_, _, h, _⟩ | ⟨_, _, h, _⟩
                          · exact h
                          · exact absurd (hun.symm.trans h) (by decide)
                          · exact absurd (hun.symm.trans h) (by decide)
                        have hB0 := HYM.out.call hbel
                        have c0 := hB0.c0
                        have c1 := hB0.c1
                        have c2 := hB0.c2
                        have hltx := hB0.lt
                        refine inv_step (by rfl) (fun K hK => ?_)
                        go_simp
                        refine hK.out _ _ ⟨upZ z 0 (.agg #[.slice vu gz.length vv, .int .i64 s.a, .bool s.n]), rfl, hideG (TabZ.step hz.out rfl), hideG ?_⟩
                        have HST := hst.out
                        clear hst hz hK
                        simp only [flag_ne (show 0 ≠ 9 from by decide), flag_ne (show 0 ≠ 10 from by decide)]
                        have E9 : upZ z 0 (.agg #[.slice vu gz.length vv, .int .i64 s.a, .bool s.n]) 9 = z 9 := by simp [upZ]
                        have E10 : upZ z 0 (.agg #[.slice vu gz.length vv, .int .i64 s.a, .bool s.n]) 10 = z 10 := by simp [upZ]
                        try rw [E9]
                        try rw [E10]
                        rcases HST with h | h | h
                        · exact .inl h
                        · exact absurd (hun.symm.trans h.2.2.1) (by decide)
                        · exact absurd (hun.symm.trans h.2.2.1) (by decide)
                      · refine inv_step (by rfl) (fun K hK => ?_)
                        go_simp
                        refine hK.out _ _ ⟨upZ z 1 (.pointer (some ⟨w.heap.size, 0, none⟩)), rfl, hideG (TabZ.step hz.out rfl), hideG ?_⟩
                        have HST := hst.out
                        clear hst hz hK
                        simp only [flag_ne (show 1 ≠ 9 from by decide), flag_ne (show 1 ≠ 10 from by decide)]
                        simp only [flag_ne (show 1 ≠ 0 from by decide)]
                        have E9 : upZ z 1 (.pointer (some ⟨w.heap.size, 0, none⟩)) 9 = z 9 := by simp [upZ]
                        have E10 : upZ z 1 (.pointer (some ⟨w.heap.size, 0, none⟩)) 10 = z 10 := by simp [upZ]
                        try rw [E9]
                        try rw [E10]
                        exact HST
                      · have e1 : z 1 = .pointer (some ⟨w.heap.size, 0, none⟩) := hz.out 1 (by decide) (dep_of hi (d := 1) (by kernel_rfl))
                        have hB0 : Box3 U w.heap.size (.slice (some ⟨b, off, none⟩) s.g.length gc) (.int .i64 s.a) (.bool s.n) := by
                          rcases hst.out with ⟨_, _, h⟩ | ⟨_, _, _, _, _, _, _, h⟩ | ⟨_, _, _, _, _, _, _, h, _⟩
                          · exact HXM.out.call h
                          · exact HXM.out.call h
                          · exact h
                        have c0 := hB0.c0
                        have hltx := hB0.lt
                        rw [e1]
                        refine inv_step (by rfl) (fun K hK => ?_)
                        go_simp
                        refine hK.out _ _ ⟨upZ (upZ z 1 (.pointer (some ⟨w.heap.size, 0, none⟩))) 2 (.slice (some ⟨b, off, none⟩) s.g.length gc), rfl, hideG (TabZ.step (TabZ.fill hz.out e1) rfl), hideG ?_⟩
                        have HST := hst.out
                        clear hst hz hK
                        simp only [flag_ne (show 2 ≠ 9 from by decide), flag_ne (show 2 ≠ 10 from by decide)]
                        simp only [flag_ne (show 2 ≠ 0 from by decide)]
                        have E9 : upZ (upZ z 1 (.pointer (some ⟨w.heap.size, 0, none⟩))) 2 (.slice (some ⟨b, off, none⟩) s.g.length gc) 9 = z 9 := by simp [upZ]
                        have E10 : upZ (upZ z 1 (.pointer (some ⟨w.heap.size, 0, none⟩))) 2 (.slice (some ⟨b, off, none⟩) s.g.length gc) 10 = z 10 := by simp [upZ]
                        try rw [E9]
                        try rw [E10]
                        exact HST
                      · refine inv_step (by rfl) (fun K hK => ?_)
                        go_simp
                        refine hK.out _ _ ⟨upZ z 3 (.int .i64 ((q : Nat) : Int)), rfl, hideG (TabZ.step hz.out rfl), hideG ?_⟩
                        have HST := hst.out
                        clear hst hz hK
                        simp only [flag_ne (show 3 ≠ 9 from by decide), flag_ne (show 3 ≠ 10 from by decide)]
                        simp only [flag_ne (show 3 ≠ 0 from by decide)]
                        have E9 : upZ z 3 (.int .i64 ((q : Nat) : Int)) 9 = z 9 := by simp [upZ]
                        have E10 : upZ z 3 (.int .i64 ((q : Nat) : Int)) 10 = z 10 := by simp [upZ]
                        try rw [E9]
                        try rw [E10]
                        exact HST
                      · have e2 : z 2 = .slice (some ⟨b, off, none⟩) s.g.length gc := hz.out 2 (by decide) (dep_of hi (d := 2) (by kernel_rfl))
                        have e3 : z 3 = .int .i64 ((q : Nat) : Int) := hz.out 3 (by decide) (dep_of hi (d := 3) (by kernel_rfl))
                        rw [e2, e3]
                        refine inv_step (by rfl) (fun K hK => ?_)
                        go_simp
                        refine hK.out _ _ ⟨upZ (upZ (upZ z 2 (.slice (some ⟨b, off, none⟩) s.g.length gc)) 3 (.int .i64 ((q : Nat) : Int))) 4 (.pointer (some ⟨b, off + q, none⟩)), rfl, hideG (TabZ.step (TabZ.fill (TabZ.fill hz.out e2) e3) rfl), hideG ?_⟩
                        have HST := hst.out
                        clear hst hz hK
                        simp only [flag_ne (show 4 ≠ 9 from by decide), flag_ne (show 4 ≠ 10 from by decide)]
                        simp only [flag_ne (show 4 ≠ 0 from by decide)]
                        have E9 : upZ (upZ (upZ z 2 (.slice (some ⟨b, off, none⟩) s.g.length gc)) 3 (.int .i64 ((q : Nat) : Int))) 4 (.pointer (some ⟨b, off + q, none⟩)) 9 = z 9 := by simp [upZ]
                        have E10 : upZ (upZ (upZ z 2 (.slice (some ⟨b, off, none⟩) s.g.length gc)) 3 (.int .i64 ((q : Nat) : Int))) 4 (.pointer (some ⟨b, off + q, none⟩)) 10 = z 10 := by simp [upZ]
                        try rw [E9]
                        try rw [E10]
                        exact HST
                      · have e4 : z 4 = .pointer (some ⟨b, off + q, none⟩) := hz.out 4 (by decide) (dep_of hi (d := 4) (by kernel_rfl))
                        have hbw : Below w.heap.size w U := by
                          rcases hst.out with ⟨_, _, h⟩ | ⟨_, _, _, _, _, _, _, h⟩ | ⟨_, _, _, _, _, _, _, _, h⟩
                          · exact mono_k HBM.out h
                          · exact mono_k HBM.out h
                          · exact h
                        have cR := cell_below hbw HCR.out
                        have hltr := below_of_cell cR
                        rw [e4]
                        refine inv_step (by rfl) (fun K hK => ?_)
                        go_simp
                        refine hK.out _ _ ⟨upZ (upZ z 4 (.pointer (some ⟨b, off + q, none⟩))) 5 (.slice (some ⟨bl, ol, none⟩) row.length rc), rfl, hideG (TabZ.step (TabZ.fill hz.out e4) rfl), hideG ?_⟩
                        have HST := hst.out
                        clear hst hz hK
                        simp only [flag_ne (show 5 ≠ 9 from by decide), flag_ne (show 5 ≠ 10 from by decide)]
                        simp only [flag_ne (show 5 ≠ 0 from by decide)]
                        have E9 : upZ (upZ z 4 (.pointer (some ⟨b, off + q, none⟩))) 5 (.slice (some ⟨bl, ol, none⟩) row.length rc) 9 = z 9 := by simp [upZ]
                        have E10 : upZ (upZ z 4 (.pointer (some ⟨b, off + q, none⟩))) 5 (.slice (some ⟨bl, ol, none⟩) row.length rc) 10 = z 10 := by simp [upZ]
                        try rw [E9]
                        try rw [E10]
                        exact HST
                      · refine inv_step (by rfl) (fun K hK => ?_)
                        go_simp
                        refine hK.out _ _ ⟨upZ z 6 (.int .i64 ((m : Nat) : Int)), rfl, hideG (TabZ.step hz.out rfl), hideG ?_⟩
                        have HST := hst.out
                        clear hst hz hK
                        simp only [flag_ne (show 6 ≠ 9 from by decide), flag_ne (show 6 ≠ 10 from by decide)]
                        simp only [flag_ne (show 6 ≠ 0 from by decide)]
                        have E9 : upZ z 6 (.int .i64 ((m : Nat) : Int)) 9 = z 9 := by simp [upZ]
                        have E10 : upZ z 6 (.int .i64 ((m : Nat) : Int)) 10 = z 10 := by simp [upZ]
                        try rw [E9]
                        try rw [E10]
                        exact HST
                      · have e5 : z 5 = .slice (some ⟨bl, ol, none⟩) row.length rc := hz.out 5 (by decide) (dep_of hi (d := 5) (by kernel_rfl))
                        have e6 : z 6 = .int .i64 ((m : Nat) : Int) := hz.out 6 (by decide) (dep_of hi (d := 6) (by kernel_rfl))
                        rw [e5, e6]
                        refine inv_step (by rfl) (fun K hK => ?_)
                        go_simp
                        refine hK.out _ _ ⟨upZ (upZ (upZ z 5 (.slice (some ⟨bl, ol, none⟩) row.length rc)) 6 (.int .i64 ((m : Nat) : Int))) 7 (.pointer (some ⟨bl, ol + m, none⟩)), rfl, hideG (TabZ.step (TabZ.fill (TabZ.fill hz.out e5) e6) rfl), hideG ?_⟩
                        have HST := hst.out
                        clear hst hz hK
                        simp only [flag_ne (show 7 ≠ 9 from by decide), flag_ne (show 7 ≠ 10 from by decide)]
                        simp only [flag_ne (show 7 ≠ 0 from by decide)]
                        have E9 : upZ (upZ (upZ z 5 (.slice (some ⟨bl, ol, none⟩) row.length rc)) 6 (.int .i64 ((m : Nat) : Int))) 7 (.pointer (some ⟨bl, ol + m, none⟩)) 9 = z 9 := by simp [upZ]
                        have E10 : upZ (upZ (upZ z 5 (.slice (some ⟨bl, ol, none⟩) row.length rc)) 6 (.int .i64 ((m : Nat) : Int))) 7 (.pointer (some ⟨bl, ol + m, none⟩)) 10 = z 10 := by simp [upZ]
                        try rw [E9]
                        try rw [E10]
                        exact HST
                      · have e7 : z 7 = .pointer (some ⟨bl, ol + m, none⟩) := hz.out 7 (by decide) (dep_of hi (d := 7) (by kernel_rfl))
                        have hbw : Below w.heap.size w U := by
                          rcases hst.out with ⟨_, _, h⟩ | ⟨_, _, _, _, _, _, _, h⟩ | ⟨_, _, _, _, _, _, _, _, h⟩
                          · exact mono_k HBM.out h
                          · exact mono_k HBM.out h
                          · exact h
                        have cL := cell_below hbw HCL.out
                        have hltl := below_of_cell cL
                        rw [e7]
                        refine inv_step (by rfl) (fun K hK => ?_)
                        go_simp
                        refine hK.out _ _ ⟨upZ (upZ z 7 (.pointer (some ⟨bl, ol + m, none⟩))) 8 (.int .i64 x), rfl, hideG (TabZ.step (TabZ.fill hz.out e7) rfl), hideG ?_⟩
                        have HST := hst.out
                        clear hst hz hK
                        simp only [flag_ne (show 8 ≠ 9 from by decide), flag_ne (show 8 ≠ 10 from by decide)]
                        simp only [flag_ne (show 8 ≠ 0 from by decide)]
                        have E9 : upZ (upZ z 7 (.pointer (some ⟨bl, ol + m, none⟩))) 8 (.int .i64 x) 9 = z 9 := by simp [upZ]
                        have E10 : upZ (upZ z 7 (.pointer (some ⟨bl, ol + m, none⟩))) 8 (.int .i64 x) 10 = z 10 := by simp [upZ]
                        try rw [E9]
                        try rw [E10]
                        exact HST
                      · have e0 : z 0 = .agg #[.slice vu gz.length vv, .int .i64 s.a, .bool s.n] := hz.out 0 (by decide) (dep_of hi (d := 0) (by kernel_rfl))
                        have e8 : z 8 = .int .i64 x := hz.out 8 (by decide) (dep_of hi (d := 8) (by kernel_rfl))
                        rcases hst.out with hq | hq | hq
                        · obtain ⟨b9, b10, hS⟩ := hq
                          have hd_0 := dep_of hi (d := 0) (by kernel_rfl)
                          rw [e0, e8]
                          refine inv_step (by rfl) (fun K hK => ?_)
                          go_simp
                          go_at_call 14
                          refine Calls.mono (HDRP.out _ U (HOM.out.below hS)) ?_
                          rintro e w5 ⟨va', vc', rfl, hx1, hb1⟩
                          go_wp2_with fail
                          refine hK.out _ _ ⟨upZ (upZ (upZ z 0 (.agg #[.slice vu gz.length vv, .int .i64 s.a, .bool s.n])) 8 (.int .i64 x)) 9 (.agg #[.slice va' g3.length vc', .int .i64 s.a, .bool s.n]), rfl, hideG (TabZ.step (TabZ.mono (TabZ.fill (TabZ.fill hz.out e0) e8) (fun _ _ h => h)) trivial), hideG (.inr (.inl ⟨flag_self, flag_ne' (by decide) b10, flag_ne' (by decide) (hd_0), ?_⟩))⟩
                          exact ⟨va', vc', by simp [upZ], hx1.rebase (by have h3 := hS.size; omega), hS.trans (hb1.mono hS.size)⟩
                        · exact absurd (hun.symm.trans hq.1) (by decide)
                        · exact absurd (hun.symm.trans hq.1) (by decide)
                      · have q9 := dep_of hi (d := 9) (by kernel_rfl)
                        rcases hst.out with hq | hq | hq
                        · exact absurd (q9.symm.trans hq.1) (by decide)
                        · obtain ⟨b9, b10, g0, hS⟩ := hq
                          obtain ⟨va', vc', e9, ho9, hbel⟩ := hS
                          have hB0 := HYM.out.call hbel
                          have c0 := hB0.c0
                          have c1 := hB0.c1
                          have c2 := hB0.c2
                          have f0 := hB0.f0
                          have f1 := hB0.f1
                          have f2 := hB0.f2
                          have hltx := hB0.lt
                          rw [e9]
                          refine inv_step (by rfl) (fun K hK => ?_)
                          go_simp
                          refine hK.out _ _ ⟨upZ (upZ z 9 (.agg #[.slice va' g3.length vc', .int .i64 s.a, .bool s.n])) 10 (undef), rfl, hideG (TabZ.step (TabZ.mono (TabZ.fill hz.out e9) (fun _ _ h => h)) trivial), hideG (.inr (.inr (⟨flag_ne' (by decide) b9, flag_self, flag_ne' (by decide) g0, ?_⟩)))⟩
                          exact ⟨va', vc', hB0.set _ _ _, (ho9.set3 (by omega) _ _ _).grps, (HXM.out.call hbel).setOther (by omega) _ _ _, set3_below (mono_k HBM.out hbel) (by omega)⟩
                        · exact absurd (hun.symm.trans hq.2.1) (by decide)
                    · intro l ac U hall hInv
                      obtain ⟨z, ha, hz, hst⟩ := hInv
                      subst ha
                      have e0 : z 0 = .agg #[.slice vu gz.length vv, .int .i64 s.a, .bool s.n] := hz.out 0 (by decide) (hall 0 (by decide))
                      have e1 : z 1 = .pointer (some ⟨w.heap.size, 0, none⟩) := hz.out 1 (by decide) (hall 1 (by decide))
                      have e2 : z 2 = .slice (some ⟨b, off, none⟩) s.g.length gc := hz.out 2 (by decide) (hall 2 (by decide))
                      have e3 : z 3 = .int .i64 ((q : Nat) : Int) := hz.out 3 (by decide) (hall 3 (by decide))
                      have e4 : z 4 = .pointer (some ⟨b, off + q, none⟩) := hz.out 4 (by decide) (hall 4 (by decide))
                      have e5 : z 5 = .slice (some ⟨bl, ol, none⟩) row.length rc := hz.out 5 (by decide) (hall 5 (by decide))
                      have e6 : z 6 = .int .i64 ((m : Nat) : Int) := hz.out 6 (by decide) (hall 6 (by decide))
                      have e7 : z 7 = .pointer (some ⟨bl, ol + m, none⟩) := hz.out 7 (by decide) (hall 7 (by decide))
                      have e8 : z 8 = .int .i64 x := hz.out 8 (by decide) (hall 8 (by decide))
                      rcases hst.out with hq | hq | hq
                      · exact absurd ((hall 9 (by decide)).symm.trans hq.1) (by decide)
                      · exact absurd ((hall 10 (by decide)).symm.trans hq.2.1) (by decide)
                      · obtain ⟨_, _, _, hS⟩ := hq
                        clear hz hall hst
                        rw [e0, e1, e2, e3, e4, e5, e6, e7, e8]
                        obtain ⟨va', vc', hy, ho, hx, hbl⟩ := hS
                        have H1 := hideG hy
                        have H2 := hideG ho
                        have H3 := hideG hx
                        have H4 := hideG hbl
                        clear hy ho hx hbl
                        go_wp2_with fail
                        go_roundw
                        case rel => exact ⟨m + 1, g3, va', vc', by omega, by go_num, H1.out, H2.out, H3.out, HSN, HF3, H4.out⟩
                        case measure => simp [intOf]; omega
                  · obtain rfl : m = row.length := by omega
                    have HN := hideG (HNXT.out gz HDM.out)
                    have hmm : ¬ ((row.length : Int) < (row.length : Int)) := by omega
                    have cr := cell_below HBM.out HCR.out
                    have crt := below_of_cell cr
                    clear HDM
                    go_wp2_with fail
                    go_roundw
                    case rel => exact ⟨q + 1, gz, vu, vv, by omega, by go_num, HYM.out, HOM.out, HXM.out, HN, HFM, HBM.out⟩
                    case measure => simp [intOf]; omega
              · have hqe : q = s.g.length := by omega
                rw [hqe] at HD
                have hge := HD.out.done
                subst hge
                have d0 := HYQ.out.c0
                have dlt := HYQ.out.lt
                have hqm : ¬ ((q : Int) < (s.g.length : Int)) := by omega
                clear HD hqe
                go_wp2_with fail
                refine (live_any _).mono ?_
                rintro e wl ⟨rfl, hbl⟩
                go_wp2_with fail
                go_ret
                exact ⟨rfl, mono_k HBQ.out hbl⟩
end Go.Proofs.Ytlgbiecgbdbefab
