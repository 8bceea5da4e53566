/- LCloses: the law on close requests. -/
import Derived.Test.YtlgbiecgbdbefabLBase
namespace Go.Proofs.Ytlgbiecgbdbefab
open Go.RowKit

theorem rev_getD {l : List Int} {p k : Nat} (hp : l.length = p + 1) (hk : k < l.length) : l.reverse.getD k 0 = l.getD (p - k) 0 := by
  have h1 : k < l.reverse.length := by simpa using hk
  rw [List.getD_eq_getElem?_getD, List.getElem?_eq_getElem h1, List.getElem_reverse, List.getD_eq_getElem?_getD, List.getElem?_eq_getElem (by omega)]
  simp only [Option.getD_some, hp, show p + 1 - 1 - k = p - k by omega]
set_option maxRecDepth 100000 in
set_option maxHeartbeats 8000000 in
theorem watchCloses_walk (s : Wt) (gv : Value) (w : World) (hG : GrpsAt w gv s.g) : Calls Try.prog 6 #[.agg #[gv, .int .i64 s.a, .bool s.n]] w fun e w' => e = .returned (.bool true) ∧ Below w.heap.size w w' := by
  obtain ⟨ga, gc, rfl⟩ := hG.shape
  obtain ⟨W1, hW1⟩ : ∃ W1, w.alloc (.cells #[.slice ga s.g.length gc, .int .i64 s.a, .bool s.n] 33) = W1 := ⟨_, rfl⟩
  have HB := hideG (show Below w.heap.size w W1 by rw [← hW1]; exact alB _ _)
  have HX := hideG (show Box3 W1 w.heap.size (.slice ga s.g.length gc) (.int .i64 s.a) (.bool s.n) by rw [← hW1]; exact Box3.new _ _ _ _ _)
  have HG := hideG (hG.below HB.out)
  have HW1 := hideG hW1
  clear hW1 hG
  have HSM := hideG (small_any s.g _ s.a s.n W1 HG.out)
  cases hs : smallG s.g
  · rw [hs] at HSM
    clear hs
    go_enter Try.func6, Try.ntmps6
    go_wp2_with fail
    rw [HW1.out]
    refine HSM.out.mono ?_
    rintro e w1 ⟨rfl, hb1⟩
    go_wp2_with fail
    refine (live_any _).mono ?_
    rintro e w2 ⟨rfl, hb2⟩
    go_wp2_with fail
    go_ret
    exact ⟨rfl, mono_k (mono_k HB.out hb1) hb2⟩
  · rw [hs] at HSM
    have HFW := hideG (of_decide_eq_true hs : fewG s.g 60)
    clear hs
    have hgl := HFW.out.1
    go_enter Try.func6, Try.ntmps6
    go_wp2_with fail
    rw [HW1.out]
    refine HSM.out.mono ?_
    rintro e w1 ⟨rfl, hb1⟩
    have HB1 := hideG (mono_k HB.out hb1)
    have HX1 := hideG (HX.out.call hb1)
    have HG1 := hideG (HG.out.below hb1)
    clear hb1 HSM HX HG
    have c0 := HX1.out.c0
    have c1 := HX1.out.c1
    have c2 := HX1.out.c2
    have clt := HX1.out.lt
    go_wp2_with fail
    refine (own_any _ _ _ _ _ _).mono ?_
    rintro e w2 ⟨rfl, hb2⟩
    have HB2 := hideG (mono_k HB1.out hb2)
    have HX2 := hideG (HX1.out.call hb2)
    have HG2 := hideG (HG1.out.below hb2)
    clear hb2 HX1 HG1 c0 c1 c2 clt HB1
    go_wp2_with fail
    refine (close_wt (a' := clA s.a) (l := toldL s) rfl rfl (HFW.out.mono (by omega)) _ _ HG2.out).mono ?_
    rintro e w3 ⟨vb, vd, la, lc, rfl, ho3, hi3, hb3⟩
    have HB3 := hideG (mono_k HB2.out hb3)
    have HX3 := hideG (HX2.out.call hb3)
    have HG3 := hideG (HG2.out.below hb3)
    have HO3 := hideG ho3
    have HI3 := hideG hi3
    clear hb3 HX2 HG2 HB2 ho3 hi3
    go_wp2_with fail
    refine (told_any _ _ _ _ _ _).mono ?_
    rintro e w4 ⟨rfl, hb4⟩
    have hb4' := (alB w3 (.cells #[.slice vb s.g.length vd, .int .i64 (clA s.a), .bool s.n] 26)).trans (hb4.mono (alB w3 _).size)
    have HB4 := hideG (mono_k HB3.out hb4')
    have HX4 := hideG (HX3.out.call hb4')
    have HG4 := hideG (HG3.out.below hb4')
    have HO4 := hideG (HO3.out.call hb4')
    have HI4 := hideG (HI3.out.below hb4')
    clear hb4 hb4' HX3 HG3 HB3 HO3 HI3
    have c0 := HX4.out.c0
    have c1 := HX4.out.c1
    have c2 := HX4.out.c2
    have clt := HX4.out.lt
    go_wp2_with fail
    obtain ⟨W5, hW5⟩ : ∃ W5, w4.alloc (.cells #[.slice vb s.g.length vd, .int .i64 s.a, .bool s.n] 33) = W5 := ⟨_, rfl⟩
    have hb5 : Below w4.heap.size w4 W5 := by rw [← hW5]; exact alB _ _
    have HB5 := hideG (mono_k HB4.out hb5)
    have HX5 := hideG (HX4.out.call hb5)
    have HG5 := hideG (HG4.out.below hb5)
    have HO5 := hideG (HO4.out.call hb5)
    have HI5 := hideG (HI4.out.below hb5)
    clear hb5 HX4 HG4 HB4 HO4 HI4 c0 c1 c2 clt
    rw [hW5]
    clear hW5
    refine (same_any s.g s.g _ _ s.a s.a s.n s.n W5 HO5.out.grps HG5.out (HFW.out.mono (by omega))).mono ?_
    rintro e w6 ⟨rfl, hb6⟩
    have HB6 := hideG (mono_k HB5.out hb6)
    have HX6 := hideG (HX5.out.call hb6)
    have HG6 := hideG (HG5.out.below hb6)
    have HI6 := hideG (HI5.out.below hb6)
    clear hb6 HX5 HG5 HB5 HO5 HI5
    have c0 := HX6.out.c0
    have c1 := HX6.out.c1
    have c2 := HX6.out.c2
    have clt := HX6.out.lt
    rw [show decide ((⟨s.g, s.a, s.n⟩ : Wt) = ⟨s.g, s.a, s.n⟩) = true from decide_eq_true rfl]
    by_cases h0 : (s.g.length : Int) = 0
    · have hb0 : ((s.g.length : Int) == 0) = true := by rw [beq_iff_eq]; exact h0
      have HTL := hideG (show (toldL s).length = 0 by unfold toldL; rw [if_pos (by omega)]; rfl)
      have htl := HTL.out
      generalize (toldL s).length = nl at *
      subst htl
      clear h0
      go_wp2_with fail
      refine (live_any _).mono ?_
      rintro e w7 ⟨rfl, hb7⟩
      go_wp2_with fail
      go_ret
      exact ⟨rfl, mono_k HB6.out hb7⟩
    · have hb0 : ((s.g.length : Int) == 0) = false := by rw [beq_eq_false_iff_ne]; exact h0
      obtain ⟨m, hm⟩ : ∃ m, s.g.length = m + 1 := ⟨s.g.length - 1, by omega⟩
      have hw : IntKind.i64.wrap ((s.g.length : Int) - 1) = (m : Int) := by rw [IntKind.wrap_i64]; omega
      have hm0 : (0 : Int) ≤ (m : Int) := by omega
      have hm1 : (m : Int) < (s.g.length : Int) := by omega
      obtain ⟨b, off, ra, rc, rfl, cr, hI⟩ := HG6.out.at (j := m) (by omega)
      have HR := hideG hI
      have HTL := hideG (show toldL s = (s.g.getD m []).reverse by unfold toldL lastG; rw [if_neg (by omega), show s.g.length - 1 = m by omega])
      have HRL := hideG (HFW.out.row (j := m))
      rw [HTL.out] at HI6 ⊢
      clear HTL
      generalize s.g.getD m [] = row at *
      have hrl := HRL.out
      have clr := below_of_cell cr
      have HLEN := hideG (show row.reverse.length = row.length from by simp)
      have HM := hideG hm
      clear hI hm h0
      go_wp2_with fail
      rw [HLEN.out] at HI6
      clear c0 c1 c2 clt cr clr
      go_loopw [7] (fun i wr => ∃ k : Nat, k ≤ row.length ∧ i = .int .i64 (k : Int) ∧ Below w6.heap.size w6 wr) (fun i _ => row.length - (intOf i).toNat)
      case atStart => exact ⟨0, Nat.zero_le _, rfl, Below.refl _ _⟩
      case round =>
        obtain ⟨k, hk, rfl, hBk⟩ := hrel
        have HBK := hideG hBk
        clear hBk
        by_cases hlt : k < row.length
        · obtain ⟨p, hp⟩ : ∃ p, row.length = p + 1 := ⟨row.length - 1, by omega⟩
          obtain ⟨bl, ol, rfl, cl⟩ := (HI6.out.below HBK.out).at (j := k) (by rw [HLEN.out]; exact hlt)
          obtain ⟨br, or', rfl, cr⟩ := (HR.out.below HBK.out).at (j := p - k) (by omega)
          rw [rev_getD hp hlt] at cl
          have hw1 : IntKind.i64.wrap ((row.length : Int) - 1) = (p : Int) := by rw [IntKind.wrap_i64]; omega
          have hw2 : IntKind.i64.wrap ((p : Int) - (k : Int)) = ((p - k : Nat) : Int) := by rw [IntKind.wrap_i64]; omega
          have hp0 : (0 : Int) ≤ ((p - k : Nat) : Int) := by omega
          have hp1 : ((p - k : Nat) : Int) < (row.length : Int) := by omega
          generalize p - k = q at *
          generalize row.getD q 0 = x at *
          have cltl := below_of_cell cl
          have cltr := below_of_cell cr
          have hkI : (k : Int) < (row.length : Int) := by omega
          clear hp
          go_wp2_with fail
          go_quiet (fail)
          go_wp2_with fail
          go_roundw
          case rel => exact ⟨k + 1, by omega, by go_num, below_drewN HBK.out _⟩
          case measure => simp [intOf]; omega
        · have hkI : ¬ ((k : Int) < (row.length : Int)) := by omega
          go_wp2_with fail
          refine (live_any _).mono ?_
          rintro e w7 ⟨rfl, hb7⟩
          go_wp2_with fail
          go_ret
          exact ⟨rfl, mono_k (mono_k HB6.out HBK.out) hb7⟩
end Go.Proofs.Ytlgbiecgbdbefab
