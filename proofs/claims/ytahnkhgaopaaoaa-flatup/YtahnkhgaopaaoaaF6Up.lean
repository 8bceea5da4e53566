/- FlatUp, walked. -/
import Derived.Test.YtahnkhgaopaaoaaF6Once
namespace Go.Proofs.Ytahnkhgaopaaoaa
open Go.RowKit

theorem upF_step {T : List Nd} (hm : mayB T = true) : ∀ {n : Nat}, n < T.length → ∀ j, j + 1 < (upF T n).length → parF T ((upF T n).getD j 0) = (((upF T n).getD (j + 1) 0 : Nat) : Int) := by
  intro n hn
  generalize hk : rkF T n = k
  induction k using Nat.strongRecOn generalizing n with
  | _ k ih =>
    intro j hj
    rcases parF_cases hm hn with e | ⟨m, hml, e, _⟩
    · rw [upF_none hn e] at hj; simp at hj
    · obtain ⟨_, hs, hr⟩ := upF_some hm hn e
      rw [hs] at hj ⊢
      cases j with
      | zero =>
        obtain ⟨r, hr⟩ := upF_ne T m
        rw [hr]
        simpa using e
      | succ j =>
        have := ih (rkF T m) (by omega) hml rfl j (by simpa using hj)
        simpa using this

set_option maxRecDepth 100000 in
set_option maxHeartbeats 8000000 in
theorem flatUp_yes (T : List Nd) (tb to tc a b c : Nat) (w : World) (hT : TreeAt w (.slice (some ⟨tb, to, none⟩) T.length tc) T) (hs : fewB T = true) (h20 : ¬ (20 : Int) < (T.length : Int)) (hab : bothB T (a : Int) (b : Int) = true) (hbc : bothB T (b : Int) (c : Int) = true) :
    Calls Try.prog 7 #[.slice (some ⟨tb, to, none⟩) T.length tc, .agg #[.int .i64 (a : Int), .int .i64 (b : Int), .int .i64 (c : Int)]] w fun e w' => e = .returned (.bool true) ∧ Below w.heap.size w w' := by
  obtain ⟨hm, ⟨a', ea, ha⟩, b', eb, hb⟩ := both_true hab
  obtain rfl : a = a' := by omega
  obtain rfl : b = b' := by omega
  obtain ⟨_, _, c', ec, hc⟩ := both_true hbc
  obtain rfl : c = c' := by omega
  have HA := hideG ((Below.refl _ w).alloc (Nat.le_refl _) (.cells #[.int .i64 (a : Int), .int .i64 (b : Int), .int .i64 (c : Int)] 41))
  have HTT := hideG hT
  have HT := hideG (hT.below HA.out)
  have HS := hideG (small_sane (few_small hs))
  have HM := hideG hm
  have EAB0 := hideG hab
  have EBC0 := hideG hbc
  have hka := known_of hm ha
  have EU := hideG (show fupI T (a : Int) = castL (upF T a) by unfold fupI; rw [hka, Int.toNat_natCast]; rfl)
  have HAI := hideG (show ∀ x y : Nat, x < T.length → y < T.length → faboveI T (x : Int) (y : Int) = fabvB T (x : Int) y from fun x y _ hy => by unfold faboveI; rw [known_of hm hy, Int.toNat_natCast]; rfl)
  have HST := hideG (upF_step hm ha)
  have HLT := hideG (show ∀ j, j < (upF T a).length → (upF T a).getD j 0 < T.length from fun j hj => (forest6 hm).u_lt ha (getD_mem hj))
  obtain ⟨r, hr⟩ := upF_ne T a
  have hlen0 : (upF T a).length = r.length + 1 := by rw [hr]; simp
  have hle := upF_le hm ha
  have hpos := mayB_pos hm
  obtain ⟨K, hlen⟩ : ∃ K, (upF T a).length = K := ⟨_, rfl⟩
  have hKb : K ≤ 100 := by omega
  have hKp : 0 < K := by omega
  have hcl : (castL (upF T a)).length = K := by rw [castL_length, hlen]
  have HCL := hideG hcl
  have HLEN := hideG hlen
  clear hT hm ea eb ec hab hbc hka hr hcl hlen hlen0 hle
  go_enter Try.func7, Try.ntmps7
  go_wp2_with (go_at_call 15; refine (refFew_any T _ _ HT.out).mono ?_; rintro e w1 ⟨rfl, hw⟩; subst hw)
  go_quiet (fail)
  have HB0 := hideG (below_drewN HA.out nq)
  have HT0 := hideG (HTT.out.below HB0.out)
  generalize (w.alloc (.cells #[.int .i64 (a : Int), .int .i64 (b : Int), .int .i64 (c : Int)] 41)).drewN nq = wq at *
  clear HA HT HTT
  go_wp2_with fail
  refine (refBoth_any T HS.out _ _ _ _ HT0.out).mono ?_
  rintro e w1 ⟨rfl, hb1⟩
  rw [EAB0.out]
  have HT1 := hideG (HT0.out.below hb1)
  have HB1 := hideG (HB0.out.trans (hb1.mono HB0.out.size))
  clear hb1
  go_wp2_with fail
  refine (refBoth_any T HS.out _ _ _ _ HT1.out).mono ?_
  rintro e w2 ⟨rfl, hb2⟩
  rw [EBC0.out]
  have HT2 := hideG (HT1.out.below hb2)
  have HB2 := hideG (HB1.out.trans (hb2.mono HB1.out.size))
  clear hb2
  go_wp2_with fail
  refine (flatUp_any T HS.out _ _ _ HT2.out).mono ?_
  rintro e w3 ⟨a3, c3, rfl, ho3, hb3⟩
  rw [EU.out] at ho3 ⊢
  rw [HCL.out] at ho3 ⊢
  obtain ⟨g2, cc2, hg2⟩ := ownsRow_some ho3 (by omega)
  simp only [Value.slice.injEq, true_and] at hg2
  obtain ⟨rfl, rfl⟩ := hg2
  have HB3 := hideG (HB2.out.trans (hb3.mono HB2.out.size))
  have HT3 := hideG (HT2.out.below hb3)
  have hcell : ∀ j, j < K → w3.cell? ⟨g2, j, none⟩ = some (.int .i64 (((upF T a).getD j 0 : Nat) : Int)) := fun j hj => by
    have := ho3.cellAt j (by omega)
    rw [this, intCells_at (by rw [HCL.out]; exact hj), castL_getD _ (by rw [HLEN.out]; exact hj)]
  have HCELL := hideG hcell
  clear ho3 hb3 hcell
  go_wp2_with fail
  go_loopw [9] (fun i wr => ∃ k : Nat, k + 1 ≤ K ∧ i = .int .i64 ((k : Int) + 1) ∧ Below w3.heap.size w3 wr) (fun i _ => K + 2 - (intOf i).toNat)
  case atStart => exact ⟨0, by omega, rfl, Below.refl _ _⟩
  case round =>
    obtain ⟨k, hk, rfl, hB⟩ := hrel
    have HBk := hideG hB
    clear hB
    by_cases hlt : (k : Int) + 1 < (K : Int)
    · have HTk := hideG (HT3.out.below HBk.out)
      have hC1 := HCELL.out k (by omega)
      have hC2 := HCELL.out (k + 1) (by omega)
      have hst := HST.out k (by rw [HLEN.out]; omega)
      have hx1 := HLT.out k (by rw [HLEN.out]; omega)
      have hx2 := HLT.out (k + 1) (by rw [HLEN.out]; omega)
      generalize (upF T a).getD k 0 = x1 at *
      generalize (upF T a).getD (k + 1) 0 = x2 at *
      have c1 := cell_below HBk.out hC1
      have c2 := cell_below HBk.out hC2
      have hk0 : (0 : Int) ≤ (k : Int) := by omega
      have hk1 : (k : Int) < (K : Int) := by omega
      have hk2 : (0 : Int) ≤ (k : Int) + 1 := by omega
      have hk3 : (k : Int) + 1 < (K : Int) := hlt
      have hwp : IntKind.i64.wrap ((k : Int) + 1 - 1) = (k : Int) := by
        rw [IntKind.wrap_i64]; omega
      have hwq : IntKind.i64.wrap (k : Int) = (k : Int) := by rw [IntKind.wrap_i64]; omega
      have hgb : g2 < wr.heap.size := below_of_cell c1
      have hkn1 := known_of HM.out hx1
      have hkn2 := known_of HM.out hx2
      have H6 := hideG (show (kidsF T x2).length ≤ 1000000 by have := kidsF_le HM.out hx2; omega)
      have HP := hideG (show ∀ U, Below wr.heap.size wr U → Calls Try.prog 24 #[.slice (some ⟨tb, to, none⟩) T.length tc, .int .i64 (x1 : Int)] U (fun e w' => e = .returned (.int .i64 (x2 : Int)) ∧ Below wr.heap.size wr w') from fun U hU => by
        refine (flatParent_any T HS.out _ _ _ (HTk.out.below hU)).mono ?_
        rintro e w' ⟨rfl, hb⟩
        refine ⟨?_, hU.trans (hb.mono hU.size)⟩
        unfold fparI; rw [hkn1, Int.toNat_natCast, hst]; rfl)
      have HK := hideG (show ∀ U, Below wr.heap.size wr U → Calls Try.prog 23 #[.slice (some ⟨tb, to, none⟩) T.length tc, .int .i64 (x2 : Int)] U (fun e w' => ∃ a c, e = .returned (.slice a (kidsF T x2).length c) ∧ IntsAt w' (.slice a (kidsF T x2).length c) (kidsF T x2) ∧ Below wr.heap.size wr w') from fun U hU => by
        refine (flatKids_any T HS.out _ _ _ (HTk.out.below hU)).mono ?_
        have he : fkidsI T (x2 : Int) = kidsF T x2 := by unfold fkidsI; rw [hkn2, Int.toNat_natCast]; rfl
        rw [he]
        rintro e w' ⟨a, c, rfl, ho, hb⟩
        exact ⟨a, c, rfl, ownsRow_ints ho, hU.trans (hb.mono hU.size)⟩)
      have HIN := hideG (show ∀ U v, Below wr.heap.size wr U → IntsAt U v (kidsF T x2) → Calls Try.prog 36 #[v, .int .i64 (x1 : Int)] U (fun e w' => e = .returned (.bool true) ∧ Below wr.heap.size wr w') from fun U v hU hi => by
        refine (refIn_any (kidsF T x2) _ _ _ hi H6.out).mono ?_
        rintro e w' ⟨rfl, rfl⟩
        refine ⟨?_, hU⟩
        rw [kid_par HM.out hx2 hx1, hst]; simp)
      clear hst hkn1 hkn2 hC1 hC2
      go_wp2_with fail
      go_region_held3 (fun w' => Below wr.heap.size wr w' ∧ w'.cell? ⟨g2, k, none⟩ = some (.int .i64 (x1 : Int)) ∧ w'.cell? ⟨g2, k + 1, none⟩ = some (.int .i64 (x2 : Int))) (refine ⟨?_, ?_, ?_⟩ <;> first | assumption | exact below_drew' (Below.refl _ _) | exact below_drew' (by assumption) | exact cell_below (by assumption) c1 | exact cell_below (by assumption) c2 | go_keep) (first | (go_at_call 24; refine (HP.out _ ?_).mono ?_; (first | assumption | exact below_drew' (Below.refl _ _) | exact below_drew' (by assumption)); rintro e w' ⟨rfl, hb1⟩) | (go_at_call 23; refine (HK.out _ ?_).mono ?_; (first | assumption | exact below_drew' (by assumption)); rintro e w' ⟨ax, cx, rfl, hi2, hb2⟩) | (go_at_call 36; refine Calls.mono (HIN.out _ _ (by first | assumption | exact below_drew' (by assumption)) (by first | assumption | exact ints_drew (by assumption))) ?_; rintro e w' ⟨rfl, hb3⟩))
      have HB9 : Hid (Below wr.heap.size wr w') := by show Below _ _ _; assumption
      go_wp2_with fail
      go_roundw
      case rel => exact ⟨k + 1, by omega, by go_num, HBk.out.trans (HB9.out.mono HBk.out.size)⟩
      case measure => simp [intOf]; omega
    · have HTE := hideG (HT3.out.below HBk.out)
      have HBE := hideG (HB3.out.trans (HBk.out.mono HB3.out.size))
      have hK1 : (0 : Int) < (K : Int) := by omega
      by_cases hab' : a = b
      · subst hab'
        have hxx : ((a : Int) == (a : Int)) = true := by simp
        have EAB := hideG (show faboveI T (a : Int) (a : Int) = true by rw [HAI.out a a ha ha]; exact fabv_iff.mpr ((forest6 HM.out).u_self ha))
        cases hy : fabvB T (a : Int) c
        · have EBC := hideG (show faboveI T (a : Int) (c : Int) = false by rw [HAI.out a c ha hc, hy])
          clear hy
          go_wp2_with fail
          refine (flatAbove_any T HS.out _ _ _ _ HTE.out).mono ?_
          rintro e x0 ⟨rfl, hbz⟩
          rw [EAB.out]
          have HTx0 := hideG (HTE.out.below hbz)
          have HBx0 := hideG (HBE.out.trans (hbz.mono HBE.out.size))
          clear hbz
          go_wp2_with fail
          refine (flatAbove_any T HS.out _ _ _ _ HTx0.out).mono ?_
          rintro e x1 ⟨rfl, hbz⟩
          rw [EBC.out]
          have HTx1 := hideG (HTx0.out.below hbz)
          have HBx1 := hideG (HBx0.out.trans (hbz.mono HBx0.out.size))
          clear hbz
          go_wp2_with fail
          refine (live6_any _).mono ?_
          rintro e x2 ⟨rfl, hbz⟩
          have HTx2 := hideG (HTx1.out.below hbz)
          have HBx2 := hideG (HBx1.out.trans (hbz.mono HBx1.out.size))
          clear hbz
          go_wp2_with fail
          go_ret
          exact ⟨rfl, HBx2.out⟩
        · have EBC := hideG (show faboveI T (a : Int) (c : Int) = true by rw [HAI.out a c ha hc, hy])
          have EAC := EBC
          clear hy
          go_wp2_with fail
          refine (flatAbove_any T HS.out _ _ _ _ HTE.out).mono ?_
          rintro e x0 ⟨rfl, hbz⟩
          rw [EAB.out]
          have HTx0 := hideG (HTE.out.below hbz)
          have HBx0 := hideG (HBE.out.trans (hbz.mono HBE.out.size))
          clear hbz
          go_wp2_with fail
          refine (flatAbove_any T HS.out _ _ _ _ HTx0.out).mono ?_
          rintro e x1 ⟨rfl, hbz⟩
          rw [EBC.out]
          have HTx1 := hideG (HTx0.out.below hbz)
          have HBx1 := hideG (HBx0.out.trans (hbz.mono HBx0.out.size))
          clear hbz
          go_wp2_with fail
          refine (flatAbove_any T HS.out _ _ _ _ HTx1.out).mono ?_
          rintro e x2 ⟨rfl, hbz⟩
          rw [EAC.out]
          have HTx2 := hideG (HTx1.out.below hbz)
          have HBx2 := hideG (HBx1.out.trans (hbz.mono HBx1.out.size))
          clear hbz
          go_wp2_with fail
          refine (live6_any _).mono ?_
          rintro e x3 ⟨rfl, hbz⟩
          have HTx3 := hideG (HTx2.out.below hbz)
          have HBx3 := hideG (HBx2.out.trans (hbz.mono HBx2.out.size))
          clear hbz
          go_wp2_with fail
          go_ret
          exact ⟨rfl, HBx3.out⟩
      · have hne : ((a : Int) == (b : Int)) = false := by simp; omega
        cases hx : fabvB T (a : Int) b
        · have EAB := hideG (show faboveI T (a : Int) (b : Int) = false by rw [HAI.out a b ha hb, hx])
          clear hx
          go_wp2_with fail
          refine (flatAbove_any T HS.out _ _ _ _ HTE.out).mono ?_
          rintro e x0 ⟨rfl, hbz⟩
          rw [EAB.out]
          have HTx0 := hideG (HTE.out.below hbz)
          have HBx0 := hideG (HBE.out.trans (hbz.mono HBE.out.size))
          clear hbz
          go_wp2_with fail
          refine (flatAbove_any T HS.out _ _ _ _ HTx0.out).mono ?_
          rintro e x1 ⟨rfl, hbz⟩
          rw [EAB.out]
          have HTx1 := hideG (HTx0.out.below hbz)
          have HBx1 := hideG (HBx0.out.trans (hbz.mono HBx0.out.size))
          clear hbz
          go_wp2_with fail
          refine (live6_any _).mono ?_
          rintro e x2 ⟨rfl, hbz⟩
          have HTx2 := hideG (HTx1.out.below hbz)
          have HBx2 := hideG (HBx1.out.trans (hbz.mono HBx1.out.size))
          clear hbz
          go_wp2_with fail
          go_ret
          exact ⟨rfl, HBx2.out⟩
        · have EAB := hideG (show faboveI T (a : Int) (b : Int) = true by rw [HAI.out a b ha hb, hx])
          have EBA := hideG (show faboveI T (b : Int) (a : Int) = false by
            rw [HAI.out b a hb ha]
            cases h : fabvB T (b : Int) a
            · rfl
            · exact absurd ((forest6 HM.out).u_antisym ha hb (fabv_iff.mp hx) (fabv_iff.mp h)) hab')
          cases hy : fabvB T (b : Int) c
          · have EBC := hideG (show faboveI T (b : Int) (c : Int) = false by rw [HAI.out b c hb hc, hy])
            clear hx hy
            go_wp2_with fail
            refine (flatAbove_any T HS.out _ _ _ _ HTE.out).mono ?_
            rintro e x0 ⟨rfl, hbz⟩
            rw [EAB.out]
            have HTx0 := hideG (HTE.out.below hbz)
            have HBx0 := hideG (HBE.out.trans (hbz.mono HBE.out.size))
            clear hbz
            go_wp2_with fail
            refine (flatAbove_any T HS.out _ _ _ _ HTx0.out).mono ?_
            rintro e x1 ⟨rfl, hbz⟩
            rw [EBC.out]
            have HTx1 := hideG (HTx0.out.below hbz)
            have HBx1 := hideG (HBx0.out.trans (hbz.mono HBx0.out.size))
            clear hbz
            go_wp2_with fail
            refine (flatAbove_any T HS.out _ _ _ _ HTx1.out).mono ?_
            rintro e x2 ⟨rfl, hbz⟩
            rw [EAB.out]
            have HTx2 := hideG (HTx1.out.below hbz)
            have HBx2 := hideG (HBx1.out.trans (hbz.mono HBx1.out.size))
            clear hbz
            go_wp2_with fail
            refine (flatAbove_any T HS.out _ _ _ _ HTx2.out).mono ?_
            rintro e x3 ⟨rfl, hbz⟩
            rw [EBA.out]
            have HTx3 := hideG (HTx2.out.below hbz)
            have HBx3 := hideG (HBx2.out.trans (hbz.mono HBx2.out.size))
            clear hbz
            go_wp2_with fail
            refine (live6_any _).mono ?_
            rintro e x4 ⟨rfl, hbz⟩
            have HTx4 := hideG (HTx3.out.below hbz)
            have HBx4 := hideG (HBx3.out.trans (hbz.mono HBx3.out.size))
            clear hbz
            go_wp2_with fail
            go_ret
            exact ⟨rfl, HBx4.out⟩
          · have EBC := hideG (show faboveI T (b : Int) (c : Int) = true by rw [HAI.out b c hb hc, hy])
            have EAC := hideG (show faboveI T (a : Int) (c : Int) = true by rw [HAI.out a c ha hc]; exact fabv_iff.mpr ((forest6 HM.out).u_trans hc (fabv_iff.mp hx) (fabv_iff.mp hy)))
            clear hx hy
            go_wp2_with fail
            refine (flatAbove_any T HS.out _ _ _ _ HTE.out).mono ?_
            rintro e x0 ⟨rfl, hbz⟩
            rw [EAB.out]
            have HTx0 := hideG (HTE.out.below hbz)
            have HBx0 := hideG (HBE.out.trans (hbz.mono HBE.out.size))
            clear hbz
            go_wp2_with fail
            refine (flatAbove_any T HS.out _ _ _ _ HTx0.out).mono ?_
            rintro e x1 ⟨rfl, hbz⟩
            rw [EBC.out]
            have HTx1 := hideG (HTx0.out.below hbz)
            have HBx1 := hideG (HBx0.out.trans (hbz.mono HBx0.out.size))
            clear hbz
            go_wp2_with fail
            refine (flatAbove_any T HS.out _ _ _ _ HTx1.out).mono ?_
            rintro e x2 ⟨rfl, hbz⟩
            rw [EAC.out]
            have HTx2 := hideG (HTx1.out.below hbz)
            have HBx2 := hideG (HBx1.out.trans (hbz.mono HBx1.out.size))
            clear hbz
            go_wp2_with fail
            refine (flatAbove_any T HS.out _ _ _ _ HTx2.out).mono ?_
            rintro e x3 ⟨rfl, hbz⟩
            rw [EAB.out]
            have HTx3 := hideG (HTx2.out.below hbz)
            have HBx3 := hideG (HBx2.out.trans (hbz.mono HBx2.out.size))
            clear hbz
            go_wp2_with fail
            refine (flatAbove_any T HS.out _ _ _ _ HTx3.out).mono ?_
            rintro e x4 ⟨rfl, hbz⟩
            rw [EBA.out]
            have HTx4 := hideG (HTx3.out.below hbz)
            have HBx4 := hideG (HBx3.out.trans (hbz.mono HBx3.out.size))
            clear hbz
            go_wp2_with fail
            refine (live6_any _).mono ?_
            rintro e x5 ⟨rfl, hbz⟩
            have HTx5 := hideG (HTx4.out.below hbz)
            have HBx5 := hideG (HBx4.out.trans (hbz.mono HBx4.out.size))
            clear hbz
            go_wp2_with fail
            go_ret
            exact ⟨rfl, HBx5.out⟩

set_option maxRecDepth 100000 in
set_option maxHeartbeats 4000000 in
theorem flatUp_walk (T : List Nd) (v : Value) (a b c : Int) (w : World) (hT : TreeAt w v T) :
    Calls Try.prog 7 #[v, .agg #[.int .i64 a, .int .i64 b, .int .i64 c]] w fun e w' => e = .returned (.bool true) ∧ Below w.heap.size w w' := by
  have HA := hideG ((Below.refl _ w).alloc (Nat.le_refl _) (.cells #[.int .i64 a, .int .i64 b, .int .i64 c] 41))
  have HTT := hideG hT
  have HT := hideG (hT.below HA.out)
  cases hs : fewB T
  · obtain ⟨ta, tc, rfl⟩ := hT.shape
    clear hT
    go_enter Try.func7, Try.ntmps7
    go_wp2_with (first | (go_at_call 15; refine (refFew_any T _ _ HT.out).mono ?_; rintro e w1 ⟨rfl, hw⟩; subst hw) | (go_at_call 21; refine (live6_any _).mono ?_; rintro e w2 ⟨rfl, hb2⟩; have HB2 := hideG (HA.out.trans (hb2.mono HA.out.size)); clear hb2))
    go_ret
    exact ⟨rfl, HB2.out⟩
  · have HS := hideG (small_sane (few_small hs))
    by_cases h20 : (20 : Int) < (T.length : Int)
    · obtain ⟨ta, tc, rfl⟩ := hT.shape
      clear hT
      go_enter Try.func7, Try.ntmps7
      go_wp2_with (first | (go_at_call 15; refine (refFew_any T _ _ HT.out).mono ?_; rintro e w1 ⟨rfl, hw⟩; subst hw) | (go_at_call 21; refine (live6_any _).mono ?_; rintro e w2 ⟨rfl, hb2⟩; have HB2 := hideG (HA.out.trans (hb2.mono HA.out.size)); clear hb2))
      go_ret
      exact ⟨rfl, HB2.out⟩
    · cases hab : bothB T a b
      · obtain ⟨ta, tc, rfl⟩ := hT.shape
        have EAB0 := hideG hab
        clear hT hab
        go_enter Try.func7, Try.ntmps7
        go_wp2_with (go_at_call 15; refine (refFew_any T _ _ HT.out).mono ?_; rintro e w1 ⟨rfl, hw⟩; subst hw)
        go_quiet (fail)
        have HB0 := hideG (below_drewN HA.out nq)
        have HT0 := hideG (HTT.out.below HB0.out)
        generalize (w.alloc (.cells #[.int .i64 a, .int .i64 b, .int .i64 c] 41)).drewN nq = wq at *
        clear HA HT HTT
        go_wp2_with fail
        refine (refBoth_any T HS.out _ _ _ _ HT0.out).mono ?_
        rintro e w1 ⟨rfl, hb1⟩
        rw [EAB0.out]
        have HB1 := hideG (HB0.out.trans (hb1.mono HB0.out.size))
        clear hb1
        go_wp2_with fail
        refine (live6_any _).mono ?_
        rintro e w2 ⟨rfl, hb2⟩
        have HB2 := hideG (HB1.out.trans (hb2.mono HB1.out.size))
        clear hb2
        go_wp2_with fail
        go_ret
        exact ⟨rfl, HB2.out⟩
      · cases hbc : bothB T b c
        · obtain ⟨ta, tc, rfl⟩ := hT.shape
          have EAB0 := hideG hab
          have EBC0 := hideG hbc
          clear hT hab hbc
          go_enter Try.func7, Try.ntmps7
          go_wp2_with (go_at_call 15; refine (refFew_any T _ _ HT.out).mono ?_; rintro e w1 ⟨rfl, hw⟩; subst hw)
          go_quiet (fail)
          have HB0 := hideG (below_drewN HA.out nq)
          have HT0 := hideG (HTT.out.below HB0.out)
          generalize (w.alloc (.cells #[.int .i64 a, .int .i64 b, .int .i64 c] 41)).drewN nq = wq at *
          clear HA HT HTT
          go_wp2_with fail
          refine (refBoth_any T HS.out _ _ _ _ HT0.out).mono ?_
          rintro e w1 ⟨rfl, hb1⟩
          rw [EAB0.out]
          have HT1 := hideG (HT0.out.below hb1)
          have HB1 := hideG (HB0.out.trans (hb1.mono HB0.out.size))
          clear hb1
          go_wp2_with fail
          refine (refBoth_any T HS.out _ _ _ _ HT1.out).mono ?_
          rintro e w2 ⟨rfl, hb2⟩
          rw [EBC0.out]
          have HB2 := hideG (HB1.out.trans (hb2.mono HB1.out.size))
          clear hb2
          go_wp2_with fail
          refine (live6_any _).mono ?_
          rintro e w3 ⟨rfl, hb3⟩
          have HB3 := hideG (HB2.out.trans (hb3.mono HB2.out.size))
          clear hb3
          go_wp2_with fail
          go_ret
          exact ⟨rfl, HB3.out⟩
        · obtain ⟨hm, ⟨a', ea, ha⟩, b', eb, hb⟩ := both_true hab
          obtain ⟨_, _, c', ec, hc⟩ := both_true hbc
          subst ea eb ec
          obtain ⟨tb, to, tc, rfl, _⟩ := hT.at (by omega)
          exact flatUp_yes T tb to tc a' b' c' w hT hs h20 hab hbc
end Go.Proofs.Ytahnkhgaopaaoaa
