/- OrderList, walked. -/
import Derived.Test.YtnbnijhdmnoelaaOUpL
namespace Go.Proofs.Ytnbnijhdmnoelaa
open Go.RowKit

def cntP (p : Nat → Bool) (k : Nat) : Nat := ((List.range k).filter p).length
theorem cntP_true {p : Nat → Bool} {k : Nat} (h : p k = true) : cntP p (k + 1) = cntP p k + 1 := by
  unfold cntP; rw [List.range_succ, List.filter_append]; simp [h]
theorem cntP_false {p : Nat → Bool} {k : Nat} (h : p k = false) : cntP p (k + 1) = cntP p k := by
  unfold cntP; rw [List.range_succ, List.filter_append]; simp [h]
theorem cntP_le (p : Nat → Bool) (k : Nat) : cntP p k ≤ k := by
  have := List.length_filter_le p (List.range k)
  unfold cntP; simpa using this

set_option maxRecDepth 100000 in
set_option maxHeartbeats 8000000 in
theorem olist_yes (T : List Nd) (tb to tc : Nat) (n : Nat) (w : World) (hT : TreeAt w (.slice (some ⟨tb, to, none⟩) T.length tc) T) (hs : smallB T = true) (hab : bothB T (n : Int) (n : Int) = true) :
    Calls Try.prog 5 #[.slice (some ⟨tb, to, none⟩) T.length tc, .int .i64 (n : Int)] w fun e w' => e = .returned (.bool true) ∧ Below w.heap.size w w' := by
  obtain ⟨hm, ⟨n', en, hn⟩, _⟩ := both_true hab
  obtain rfl : n = n' := by omega
  have hpos := mayB_pos hm
  have F := forest3 hm
  have HT0 := hideG hT
  have HS := hideG (small_sane hs)
  have HM := hideG hm
  have E1 := hideG (dnI_known hm hn)
  have hdl := F.d_len hn
  obtain ⟨r, hr⟩ := F.d_head hn
  have hlen : (dn T n).length = r.length + 1 := by rw [hr]; rfl
  have hcl : (castL (dn T n)).length = r.length + 1 := by rw [castL_length, hlen]
  have hg0 : (dn T n).getD 0 0 = n := by rw [hr]; rfl
  have HCNT := hideG (show (dn T n).length = cntP (fun k => abvB T (n : Int) k) T.length from F.d_count hn _ (fun k _ => abvB_iff))
  have HAB := hideG (show ∀ k : Nat, k < T.length → aboveO T (n : Int) (k : Int) = abvB T (n : Int) k from fun k hk => aboveO_known hm hn hk)
  have HIN := hideG (show ∀ k : Nat, k < T.length → abvB T (n : Int) k = true → containsB (castL (dn T n)) (k : Int) = true from fun k hk h => by
    rw [contains_castL]; exact decide_eq_true ((F.mem_d hn hk).mpr (abvB_iff.mp h)))
  have HPA := hideG (show ∀ k : Nat, k < T.length → abvB T (n : Int) k = true → k ≠ n → ∃ m : Nat, (nd T k).parent = (m : Int) ∧ indexI (castL (dn T n)) (m : Int) = (pos m (dn T n) : Int) ∧ indexI (castL (dn T n)) (k : Int) = (pos k (dn T n) : Int) ∧ ¬ ((pos k (dn T n) : Int) < (pos m (dn T n) : Int)) from fun k hk h hne => by
    have hnk := abvB_iff.mp h
    rcases parent_cases (mayB_fine hm) hk with e | ⟨e, m, hml, hpm⟩
    · rw [pars_none e] at hnk; simp at hnk; exact absurd hnk.symm hne
    · rw [pars_some hm hk hpm] at hnk
      have hnm : n ∈ pars T m := by
        rcases List.mem_cons.mp hnk with e' | e'
        · exact absurd e'.symm hne
        · exact e'
      have hmd := (F.mem_d hn hml).mpr hnm
      have hkm : m ∈ pars T k := by rw [pars_some hm hk hpm]; exact List.mem_cons_of_mem _ (F.u_self hml)
      have hmk : m ≠ k := fun e' => by
        have h5 := (upsL_some hm hk (over_of_parent (mayB_fine hm) hk hpm)).1
        have h6 := congrArg List.length h5
        rw [e'] at h6; simp at h6
      have hah := dn_ahead hm hn hmd ((F.mem_d hml hk).mpr hkm) hmk
      exact ⟨m, hpm, index_castL hmd, index_castL ((F.mem_d hn hk).mpr (abvB_iff.mp h)), by omega⟩)
  generalize hK : r.length = K at *
  have hKb : K ≤ 100 := by omega
  have HCL := hideG hcl
  have HLEN := hideG hlen
  have HG0 := hideG hg0
  clear hT hm en hK hg0 hr hcl hlen F
  go_enter Try.func5, Try.ntmps5
  go_wp2_with fail
  refine (refSmall_any T _ _ HT0.out).mono ?_
  rintro e wz ⟨rfl, hwz⟩
  subst hwz
  go_wp2_with fail
  refine (refBoth_any T HS.out _ _ _ _ HT0.out).mono ?_
  rintro e w1 ⟨rfl, hb1⟩
  have HT1 := hideG (HT0.out.below hb1)
  have HB1 := hideG hb1
  clear hb1
  go_wp2_with fail
  refine (listO_any T HS.out _ _ _ HT1.out).mono ?_
  rintro e w2 ⟨a2, c2, rfl, ho2, hb2⟩
  rw [E1.out] at ho2 ⊢
  have HL := hideG (ownsRow_ints ho2)
  rw [HCL.out] at ho2 HL ⊢
  obtain ⟨g2, cc2, hg2⟩ := ownsRow_some ho2 (by omega)
  simp only [Value.slice.injEq, true_and] at hg2
  obtain ⟨rfl, rfl⟩ := hg2
  have HB2 := hideG (HB1.out.trans (hb2.mono HB1.out.size))
  have HT2 := hideG (HT1.out.below hb2)
  have c0 : w2.cell? ⟨g2, 0, none⟩ = some (.int .i64 (n : Int)) := by
    have := ho2.cellAt 0 (by omega)
    rw [this, intCells_at (by rw [HCL.out]; omega), castL_getD _ (by rw [HLEN.out]; omega), HG0.out]
  have HLL := hideG (show (castL (dn T n)).length ≤ 1000000 by rw [HCL.out]; omega)
  have hne0 : ((K : Int) + 1 == 0) = false := by rw [beq_eq_false_iff_ne]; omega
  have hnn : ((n : Int) != (n : Int)) = false := by simp
  clear ho2 hb2
  go_wp2_with fail
  clear c0 hnn hne0
  go_loopw [6, 7] (fun c i wr => ∃ k : Nat, k ≤ T.length ∧ i = .int .i64 k ∧ c = .int .i64 (cntP (fun k => abvB T (n : Int) k) k) ∧ Below w2.heap.size w2 wr) (fun _ i _ => T.length - (intOf i).toNat)
  case atStart => exact ⟨0, Nat.zero_le _, rfl, rfl, Below.refl _ _⟩
  case round =>
    obtain ⟨k, hk, rfl, rfl, hB⟩ := hrel
    have HBk := hideG hB
    clear hB
    by_cases hlt : k < T.length
    · have hcb := cntP_le (fun k => abvB T (n : Int) k) k
      cases hq : abvB T (n : Int) k
      · have HQ := hideG ((HAB.out k hlt).trans hq)
        have HC := hideG (cntP_false (p := fun k => abvB T (n : Int) k) hq)
        generalize cntP (fun k => abvB T (n : Int) k) k = cc at *
        clear hq
        go_wp2_with fail
        refine (orderAbove_any T HS.out _ _ _ _ (HT2.out.below HBk.out)).mono ?_
        rintro e w5 ⟨rfl, hb5⟩
        rw [HQ.out]
        have HB5 := hideG (HBk.out.trans (hb5.mono HBk.out.size))
        clear hb5
        go_wp2_with fail
        go_roundw
        case rel => exact ⟨k + 1, by omega, by go_num, by rw [HC.out], HB5.out⟩
        case measure => simp [intOf]; omega
      · have HQ := hideG ((HAB.out k hlt).trans hq)
        have HC := hideG (cntP_true (p := fun k => abvB T (n : Int) k) hq)
        have HI := hideG (HIN.out k hlt hq)
        generalize cntP (fun k => abvB T (n : Int) k) k = cc at *
        by_cases hne : k = n
        · subst hne
          have hnn : ((k : Int) != (k : Int)) = false := by simp
          clear hq
          go_wp2_with fail
          refine (orderAbove_any T HS.out _ _ _ _ (HT2.out.below HBk.out)).mono ?_
          rintro e w5 ⟨rfl, hb5⟩
          rw [HQ.out]
          have HB5 := hideG (HBk.out.trans (hb5.mono HBk.out.size))
          clear hb5
          go_wp2_with fail
          refine (refIn_any (castL (dn T k)) _ _ _ (HL.out.below HB5.out) HLL.out).mono ?_
          rintro e w6 ⟨rfl, hw6⟩
          subst hw6
          rw [HI.out]
          go_wp2_with fail
          go_roundw
          case rel => exact ⟨k + 1, by omega, by go_num, by rw [HC.out]; go_num, HB5.out⟩
          case measure => simp [intOf]; omega
        · obtain ⟨m, hpm, i1, i2, i3⟩ := HPA.out k hlt hq hne
          have I1 := hideG i1
          have I2 := hideG i2
          have hnn : ((k : Int) != (n : Int)) = true := by simp; omega
          obtain ⟨tb', to', tc', htv, hct⟩ := HT2.out.at (by omega)
          simp only [Value.slice.injEq, Option.some.injEq, Addr.mk.injEq, and_true, true_and] at htv
          obtain ⟨⟨rfl, rfl⟩, rfl⟩ := htv
          obtain ⟨kv, av, hN⟩ := hct k hlt
          have GP := hideG hN.parent
          rw [hpm] at GP
          generalize pos m (dn T n) = pm at *
          generalize pos k (dn T n) = pk at *
          clear hq hct hN hpm i1 i2
          go_wp2_with fail
          refine (orderAbove_any T HS.out _ _ _ _ (HT2.out.below HBk.out)).mono ?_
          rintro e w5 ⟨rfl, hb5⟩
          rw [HQ.out]
          have HB5 := hideG (HBk.out.trans (hb5.mono HBk.out.size))
          clear hb5
          have gp := cell_below HB5.out GP.out
          go_wp2_with fail
          refine (refIn_any (castL (dn T n)) _ _ _ (HL.out.below HB5.out) HLL.out).mono ?_
          rintro e w6 ⟨rfl, hw6⟩
          subst hw6
          rw [HI.out]
          go_wp2_with fail
          refine (refPlace_any (castL (dn T n)) _ _ _ (HL.out.below HB5.out) HLL.out).mono ?_
          rintro e w6 ⟨rfl, hw6⟩
          subst hw6
          rw [I1.out]
          go_wp2_with fail
          refine (refPlace_any (castL (dn T n)) _ _ _ (HL.out.below HB5.out) HLL.out).mono ?_
          rintro e w6 ⟨rfl, hw6⟩
          subst hw6
          rw [I2.out]
          go_wp2_with fail
          go_roundw
          case rel => exact ⟨k + 1, by omega, by go_num, by rw [HC.out]; go_num, HB5.out⟩
          case measure => simp [intOf]; omega
    · have hke : k = T.length := by omega
      subst hke
      have hcc : cntP (fun k => abvB T (n : Int) k) T.length = K + 1 := by rw [← HCNT.out, HLEN.out]
      rw [hcc]
      have HB3 := hideG (HB2.out.trans (HBk.out.mono HB2.out.size))
      clear hcc
      go_wp2_with fail
      refine (live3_any _).mono ?_
      rintro e w7 ⟨rfl, hb7⟩
      have HB7 := hideG (HB3.out.trans (hb7.mono HB3.out.size))
      clear hb7
      go_wp2_with fail
      go_ret
      exact ⟨rfl, HB7.out⟩

set_option maxRecDepth 100000 in
set_option maxHeartbeats 4000000 in
theorem olist_walk (T : List Nd) (v : Value) (n : Int) (w : World) (hT : TreeAt w v T) :
    Calls Try.prog 5 #[v, .int .i64 n] w fun e w' => e = .returned (.bool true) ∧ Below w.heap.size w w' := by
  cases hs : smallB T
  · obtain ⟨ta, tc, rfl⟩ := hT.shape
    have HT := hideG hT
    clear hT
    go_enter Try.func5, Try.ntmps5
    go_wp2_with (first | (go_at_call 25; refine (refSmall_any T _ _ HT.out).mono ?_; rintro e w1 ⟨rfl, rfl⟩) | (go_at_call 26; refine (live3_any _).mono ?_; rintro e w2 ⟨rfl, hb2⟩))
    go_ret
    exact ⟨rfl, hb2⟩
  · cases hab : bothB T n n
    · obtain ⟨ta, tc, rfl⟩ := hT.shape
      have HT := hideG hT
      have HS := hideG (small_sane hs)
      clear hT
      go_enter Try.func5, Try.ntmps5
      go_wp2_with (first | (go_at_call 25; refine (refSmall_any T _ _ HT.out).mono ?_; rintro e w1 ⟨rfl, hw⟩; subst hw) | (go_at_call 27; refine (refBoth_any T HS.out _ _ _ _ HT.out).mono ?_; rintro e w1 ⟨rfl, hb1⟩; have HB1 := hideG hb1; clear hb1) | (go_at_call 26; refine (live3_any _).mono ?_; rintro e w2 ⟨rfl, hb2⟩; have HB2 := hideG (HB1.out.trans (hb2.mono HB1.out.size)); clear hb2))
      go_ret
      exact ⟨rfl, HB2.out⟩
    · obtain ⟨_, ⟨x, rfl, hx⟩, _⟩ := both_true hab
      obtain ⟨tb, to, tc, rfl, _⟩ := hT.at (by omega)
      exact olist_yes T tb to tc x w hT hs hab

end Go.Proofs.Ytnbnijhdmnoelaa
