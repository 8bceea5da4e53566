/- OrderUp, walked. -/
import Derived.Test.YtnbnijhdmnoelaaOLaws
import Derived.Deep.QuietTactic
namespace Go.Proofs.Ytnbnijhdmnoelaa
open Go.RowKit

theorem pars_step {T : List Nd} (hm : mayB T = true) : ∀ {n : Nat}, n < T.length → ∀ j, j + 1 < (pars T n).length → (nd T ((pars T n).getD j 0)).parent = (((pars T n).getD (j + 1) 0 : Nat) : Int) := by
  intro n hn
  generalize hk : (upsL T n).length = k
  induction k using Nat.strongRecOn generalizing n with
  | _ k ih =>
    intro j hj
    rcases parent_cases (mayB_fine hm) hn with e | ⟨e, m, hml, hpm⟩
    · rw [pars_none e] at hj; simp at hj
    · have hs := (upsL_some hm hn (over_of_parent (mayB_fine hm) hn hpm)).1
      rw [pars_some hm hn hpm] at hj ⊢
      cases j with
      | zero =>
        obtain ⟨r, hr⟩ : ∃ r, pars T m = m :: r := ⟨_, rfl⟩
        rw [hr]
        simpa using hpm
      | succ j =>
        have := ih (upsL T m).length (by rw [← hk, hs]; simp) hml rfl j (by simpa using hj)
        simpa using this
theorem top_parent {T : List Nd} (hm : mayB T = true) {n : Nat} (hn : n < T.length) : (nd T (topN T n)).parent = -1 := by
  have htl := top_lt hm hn
  rcases parent_cases (mayB_fine hm) htl with e | ⟨e, m, hml, hpm⟩
  · simpa using e
  · exfalso
    have h1 := topN_some hm htl hpm
    have h2 := top_eq hm hn (top_in hm hn)
    have h3 : topN T m ∈ pars T m := top_in hm hml
    rw [← h1, h2] at h3
    have h4 := (forest3 hm).u_rank hml h3
    have h5 := (upsL_some hm htl (over_of_parent (mayB_fine hm) htl hpm)).1
    have h6 := congrArg List.length h5
    simp at h6
    rcases h4 with e' | e'
    · rw [e'] at h6; omega
    · have e2 : (upsL T (topN T n)).length < (upsL T m).length := e'
      omega
theorem castL_getD (l : List Nat) {j : Nat} (h : j < l.length) : (castL l).getD j 0 = ((l.getD j 0 : Nat) : Int) := by
  unfold castL
  rw [List.getD_eq_getElem?_getD, List.getElem?_map, List.getD_eq_getElem?_getD, List.getElem?_eq_getElem h]; rfl
theorem getD_mem {l : List Nat} {j : Nat} (h : j < l.length) : l.getD j 0 ∈ l := by
  rw [List.getD_eq_getElem?_getD, List.getElem?_eq_getElem h]; exact List.getElem_mem h

set_option maxRecDepth 100000 in
set_option maxHeartbeats 8000000 in
theorem oup_yes (T : List Nd) (tb to tc : Nat) (n : Nat) (w : World) (hT : TreeAt w (.slice (some ⟨tb, to, none⟩) T.length tc) T) (hs : smallB T = true) (hab : bothB T (n : Int) (n : Int) = true) :
    Calls Try.prog 6 #[.slice (some ⟨tb, to, none⟩) T.length tc, .int .i64 (n : Int)] w fun e w' => e = .returned (.bool true) ∧ Below w.heap.size w w' := by
  obtain ⟨hm, ⟨n', en, hn⟩, _⟩ := both_true hab
  obtain rfl : n = n' := by omega
  have hpos := mayB_pos hm
  have HT0 := hideG hT
  have HB0 := hideG (Below.refl w.heap.size w)
  have HS := hideG (small_sane hs)
  have HM := hideG hm
  have E1 := hideG (upI_known hm hn)
  have E2 := hideG (topI_known hm hn)
  obtain ⟨htl, ⟨ini, hini⟩, _⟩ := sup_split hm hn
  have HTP := hideG (top_parent hm hn)
  have hle := pars_le T n
  have hlen : (pars T n).length = ini.length + 1 := by rw [hini]; simp
  have hg0 : (pars T n).getD 0 0 = n := by obtain ⟨r, hr⟩ : ∃ r, pars T n = n :: r := ⟨_, rfl⟩; rw [hr]; rfl
  have hgl : (pars T n).getD ini.length 0 = topN T n := by rw [hini]; simp
  have HG0 := hideG hg0
  have HGL := hideG hgl
  have HST := hideG (pars_step hm hn)
  have HLT := hideG (show ∀ j, j < (pars T n).length → (pars T n).getD j 0 < T.length from fun j hj => (forest3 hm).u_lt hn (getD_mem hj))
  have HCT := hideG hT
  generalize hK : ini.length = K at *
  have hKb : K ≤ 100 := by omega
  clear hT hm en hini hK hg0 hgl
  have hcl : (castL (pars T n)).length = K + 1 := by rw [castL_length, hlen]
  have HCL := hideG hcl
  have HLEN := hideG hlen
  clear hcl hlen
  go_enter Try.func6, Try.ntmps6
  go_wp2_with fail
  refine (refSmall_any T _ _ HT0.out).mono ?_
  rintro e wz ⟨rfl, hwz⟩
  subst hwz
  go_wp2_with fail
  refine (refBoth_any T HS.out _ _ _ _ HT0.out).mono ?_
  rintro e w1 ⟨rfl, hb1⟩
  have HT1 := hideG (HT0.out.below hb1)
  have HB1 := hideG hb1
  clear hb1
  go_wp2_with fail
  refine (orderUp_any T HS.out _ _ _ HT1.out).mono ?_
  rintro e w2 ⟨a2, c2, rfl, ho2, hb2⟩
  rw [E1.out] at ho2 ⊢
  have HL := hideG (ownsRow_ints ho2)
  rw [HCL.out] at ho2 ⊢
  obtain ⟨g2, cc2, hg2⟩ := ownsRow_some ho2 (by omega)
  simp only [Value.slice.injEq, true_and] at hg2
  obtain ⟨rfl, rfl⟩ := hg2
  have HB2 := hideG (HB1.out.trans (hb2.mono HB1.out.size))
  have HT2 := hideG (HT1.out.below hb2)
  have hcell : ∀ j, j < K + 1 → w2.cell? ⟨g2, j, none⟩ = some (.int .i64 (((pars T n).getD j 0 : Nat) : Int)) := fun j hj => by
    have := ho2.cellAt j (by omega)
    rw [this, intCells_at (by rw [HCL.out]; exact hj), castL_getD _ (by rw [HLEN.out]; exact hj)]
  have c0 := hcell 0 (by omega)
  have cl := hcell K (by omega)
  rw [HG0.out] at c0
  rw [HGL.out] at cl
  have HCELL := hideG hcell
  have hg2lt : g2 < w2.heap.size := below_of_cell c0
  clear ho2 hb2 hcell
  go_wp2_with fail
  have HTOP := hideG (show ∀ U, Below w2.heap.size w2 U → Calls Try.prog 33 #[.slice (some ⟨tb, to, none⟩) T.length tc, .int .i64 (n : Int)] U (fun e w' => e = .returned (.int .i64 (topN T n : Int)) ∧ Below w2.heap.size w2 w') from fun U hU => by
    refine (orderTop_any T HS.out _ _ _ (HT2.out.below hU)).mono ?_
    rintro e w' ⟨rfl, hb⟩
    exact ⟨by rw [E2.out], hU.trans (hb.mono hU.size)⟩)
  have hK0 : (0 : Int) ≤ (K : Int) := by omega
  have hne0 : ((K : Int) + 1 == 0) = false := by rw [beq_eq_false_iff_ne]; omega
  have hne : (((n : Int)) != (n : Int)) = false := by simp
  have hnt : ((topN T n : Int) != (topN T n : Int)) = false := by simp
  have hcc : ∀ (d : Calm w2) (b o : Nat), b < w2.heap.size → d.to.cell? ⟨b, o, none⟩ = w2.cell? ⟨b, o, none⟩ := calmCell
  refine wp_region_calm (by kernel_rfl) (by kernel_rfl) ?_
  repeat (go_big_quiet_step (first | (go_at_call 33; refine Calls.mono (HTOP.out _ (Calm.below _)) ?_; rintro e w1 ⟨rfl, hb⟩; exact ⟨rfl, ⟨w1, hb⟩, rfl⟩)))
  refine wpQuiet_nil ?_
  intro _ hw'
  obtain ⟨dq, hw''⟩ := hw'
  subst hw''
  have HB3 := hideG dq.below
  have HBW3 := hideG (HB2.out.trans (dq.below.mono HB2.out.size))
  generalize dq.to = w3 at *
  clear dq HTOP c0 cl hcc hne hnt hne0
  go_wp2_with fail
  go_loopw [6] (fun i wr => ∃ k : Nat, k ≤ K + 1 ∧ i = .int .i64 k ∧ Below w3.heap.size w3 wr) (fun i _ => K + 1 - (intOf i).toNat)
  case atStart => exact ⟨0, Nat.zero_le _, rfl, Below.refl _ _⟩
  case round =>
    obtain ⟨k, hk, rfl, hB⟩ := hrel
    have HBk := hideG hB
    have hB2k := HB3.out.trans (hB.mono HB3.out.size)
    by_cases hlt : k < K + 1
    · cases k with
      | zero =>
        clear hB hB2k
        go_wp2_with fail
        go_quiet (fail)
        have HBn := hideG (below_drewN HBk.out nq)
        generalize wr.drewN nq = wn at *
        go_wp2_with fail
        go_roundw
        case rel => exact ⟨1, by omega, by go_num, HBn.out⟩
        case measure => simp [intOf]
      | succ j =>
        obtain ⟨tb', to', tc', htv, hct⟩ := (HT2.out.below hB2k).at (by omega)
        simp only [Value.slice.injEq, Option.some.injEq, Addr.mk.injEq, and_true, true_and] at htv
        obtain ⟨⟨rfl, rfl⟩, rfl⟩ := htv
        have hxl := HLT.out j (by rw [HLEN.out]; omega)
        obtain ⟨kv, av, hN⟩ := hct _ hxl
        have gp := hN.parent
        rw [HST.out j (by rw [HLEN.out]; omega)] at gp
        have d0 := cell_below hB2k (HCELL.out j (by omega))
        have d1 := cell_below hB2k (HCELL.out (j + 1) (by omega))
        generalize (pars T n).getD j 0 = x at *
        generalize (pars T n).getD (j + 1) 0 = y at *
        have hj0 : (0 : Int) < ((j + 1 : Nat) : Int) := by omega
        have hx0 : (0 : Int) ≤ (x : Int) := by omega
        clear hB hB2k hct hN
        go_wp2_with fail
        go_quiet (fail)
        have HBn := hideG (below_drewN HBk.out nq)
        generalize wr.drewN nq = wn at *
        go_wp2_with fail
        go_roundw
        case rel => exact ⟨j + 1 + 1, by omega, by go_num, HBn.out⟩
        case measure => simp [intOf]; omega
    · have HB4 := hideG (HBW3.out.trans (hB.mono HBW3.out.size))
      have HL4 := hideG (HL.out.below hB2k)
      have HT4 := hideG (HT2.out.below hB2k)
      have HC4 := hideG (cell_below hB2k (HCELL.out K (by omega)))
      clear hB hB2k HB3 HBW3 HT2 HL HCELL HBk
      generalize wr = w4 at *
      obtain ⟨tb', to', tc', htv, hct⟩ := HT4.out.at (by omega)
      simp only [Value.slice.injEq, Option.some.injEq, Addr.mk.injEq, and_true, true_and] at htv
      obtain ⟨⟨rfl, rfl⟩, rfl⟩ := htv
      obtain ⟨kv, av, hN⟩ := hct _ htl
      have GP := hideG hN.parent
      rw [HTP.out] at GP
      clear hct hN
      have HLL := hideG (show (castL (pars T n)).length ≤ 1000 by rw [HCL.out]; omega)
      have HAB := hideG (show ∀ k : Nat, k < T.length → aboveO T (k : Int) (n : Int) = containsB (castL (pars T n)) (k : Int) from fun k hk => (aboveO_known HM.out hk hn).trans abv_contains)
      rw [HGL.out] at HC4
      go_wp2_with fail
      go_loopw [7] (fun i wr => ∃ k : Nat, k ≤ T.length ∧ i = .int .i64 k ∧ Below w4.heap.size w4 wr) (fun i _ => T.length - (intOf i).toNat)
      case atStart => exact ⟨0, Nat.zero_le _, rfl, Below.refl _ _⟩
      case round =>
        obtain ⟨k, hk, rfl, hB⟩ := hrel
        have HBk := hideG hB
        clear hB
        by_cases hlt : k < T.length
        · have HQ := hideG (HAB.out k hlt)
          generalize hq : containsB (castL (pars T n)) (k : Int) = q at *
          have HQ2 := hideG hq
          clear hq
          go_wp2_with fail
          refine (orderAbove_any T HS.out _ _ _ _ (HT4.out.below HBk.out)).mono ?_
          rintro e w5 ⟨rfl, hb5⟩
          rw [HQ.out]
          have HB5 := hideG (HBk.out.trans (hb5.mono HBk.out.size))
          clear hb5
          have HL5 := hideG (HL4.out.below HB5.out)
          rw [HCL.out] at HL5
          go_wp2_with fail
          refine (refIn_any (castL (pars T n)) _ _ _ HL5.out (by have := HLL.out; omega)).mono ?_
          rintro e w6 ⟨rfl, hw6⟩
          subst hw6
          rw [HQ2.out]
          have hqq : (q != q) = false := by simp
          go_wp2_with fail
          go_roundw
          case rel => exact ⟨k + 1, by omega, by go_num, HB5.out⟩
          case measure => simp [intOf]; omega
        · have hke : k = T.length := by omega
          subst hke
          have d0 := cell_below HBk.out HC4.out
          have d1 := cell_below HBk.out GP.out
          have ht0 : (0 : Int) ≤ (topN T n : Int) := by omega
          go_wp2_with fail
          refine (live3_any _).mono ?_
          rintro e w7 ⟨rfl, hb7⟩
          have HB7 := hideG ((HB4.out.trans (HBk.out.mono HB4.out.size)).trans (hb7.mono (HB4.out.trans (HBk.out.mono HB4.out.size)).size))
          clear hb7
          go_wp2_with fail
          go_ret
          exact ⟨rfl, HB7.out⟩

set_option maxRecDepth 100000 in
set_option maxHeartbeats 4000000 in
theorem oupl_walk (T : List Nd) (v : Value) (n : Int) (w : World) (hT : TreeAt w v T) :
    Calls Try.prog 6 #[v, .int .i64 n] w fun e w' => e = .returned (.bool true) ∧ Below w.heap.size w w' := by
  cases hs : smallB T
  · obtain ⟨ta, tc, rfl⟩ := hT.shape
    have HT := hideG hT
    clear hT
    go_enter Try.func6, Try.ntmps6
    go_wp2_with (first | (go_at_call 25; refine (refSmall_any T _ _ HT.out).mono ?_; rintro e w1 ⟨rfl, rfl⟩) | (go_at_call 26; refine (live3_any _).mono ?_; rintro e w2 ⟨rfl, hb2⟩))
    go_ret
    exact ⟨rfl, hb2⟩
  · cases hab : bothB T n n
    · obtain ⟨ta, tc, rfl⟩ := hT.shape
      have HT := hideG hT
      have HS := hideG (small_sane hs)
      clear hT
      go_enter Try.func6, Try.ntmps6
      go_wp2_with (first | (go_at_call 25; refine (refSmall_any T _ _ HT.out).mono ?_; rintro e w1 ⟨rfl, hw⟩; subst hw) | (go_at_call 27; refine (refBoth_any T HS.out _ _ _ _ HT.out).mono ?_; rintro e w1 ⟨rfl, hb1⟩; have HB1 := hideG hb1; clear hb1) | (go_at_call 26; refine (live3_any _).mono ?_; rintro e w2 ⟨rfl, hb2⟩; have HB2 := hideG (HB1.out.trans (hb2.mono HB1.out.size)); clear hb2))
      go_ret
      exact ⟨rfl, HB2.out⟩
    · obtain ⟨_, ⟨x, rfl, hx⟩, _⟩ := both_true hab
      obtain ⟨tb, to, tc, rfl, _⟩ := hT.at (by omega)
      exact oup_yes T tb to tc x w hT hs hab
end Go.Proofs.Ytnbnijhdmnoelaa
