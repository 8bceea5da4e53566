/- ShadeList, walked. -/
import Derived.Test.YtnbnijhdmnoelaaOList
namespace Go.Proofs.Ytnbnijhdmnoelaa
open Go.RowKit

theorem slI_known {T : List Nd} (hm : mayB T = true) {n : Nat} (hn : n < T.length) : slI T (n : Int) = castL (sl T n) := by
  unfold slI; rw [known_of hm hn, if_pos rfl, Int.toNat_natCast]
theorem sl_short {T : List Nd} (m : Nat) (hm : mayB T = true) (h : m < T.length) : (sl T m).length ≤ 1000 := by
  have h1 := (forest4 hm).d_len h
  have h2 := mayB_pos hm
  omega
theorem listS_any (T : List Nd) (hS : Sane T) (v : Value) (n : Int) (w : World) (hT : TreeAt w v T) :
    Calls Try.prog 47 #[v, .int .i64 n] w fun e w' => ∃ a c, e = .returned (.slice a (slI T n).length c) ∧ w'.ownsRow w.heap.size 3 1 (.slice a (slI T n).length c) (slI T n).length (intCells (slI T n)) ∧ Below w.heap.size w w' :=
  shadeList_any T hS v n w hT (fun m => sl_short m)

set_option maxRecDepth 100000 in
set_option maxHeartbeats 8000000 in
theorem slist_yes (T : List Nd) (tb to tc : Nat) (n : Nat) (w : World) (hT : TreeAt w (.slice (some ⟨tb, to, none⟩) T.length tc) T) (hs : smallB T = true) (hab : bothB T (n : Int) (n : Int) = true) :
    Calls Try.prog 10 #[.slice (some ⟨tb, to, none⟩) T.length tc, .int .i64 (n : Int)] w fun e w' => e = .returned (.bool true) ∧ Below w.heap.size w w' := by
  obtain ⟨hm, ⟨n', en, hn⟩, _⟩ := both_true hab
  obtain rfl : n = n' := by omega
  have hpos := mayB_pos hm
  have h6 : T.length ≤ 1000 := by omega
  have F := forest4 hm
  have HT0 := hideG hT
  have HS := hideG (small_sane hs)
  have HM := hideG hm
  have E1 := hideG (slI_known hm hn)
  have hdl := F.d_len hn
  have HLEN := hideG (castL_length (sl T n))
  have HCNT := hideG (show (sl T n).length = cntP (fun k => aboveS T (n : Int) (k : Int)) T.length from F.d_count hn _ (fun k hk => above_iff hm hk))
  have HIN := hideG (show ∀ k : Nat, k < T.length → aboveS T (n : Int) (k : Int) = true → containsB (castL (sl T n)) (k : Int) = true from fun k hk h => by
    rw [contains_castL]; exact decide_eq_true ((F.mem_d hn hk).mpr ((above_iff hm hk).mp h)))
  have HLL := hideG (show (castL (sl T n)).length ≤ 1000000 by rw [castL_length]; omega)
  clear hT hm en F
  go_enter Try.func10, Try.ntmps10
  go_wp2_with fail
  refine (refSmall_any T _ _ HT0.out).mono ?_
  rintro e wz ⟨rfl, hwz⟩
  subst hwz
  go_wp2_with fail
  refine (refBoth_any T HS.out _ _ _ _ HT0.out).mono ?_
  rintro e w1 ⟨rfl, hb1⟩
  have HT1 := hideG (HT0.out.below hb1)
  have HB1 := hideG hb1
  clear hb1
  go_wp2_with fail
  refine (listS_any T HS.out _ _ _ HT1.out).mono ?_
  rintro e w2 ⟨a2, c2, rfl, ho2, hb2⟩
  rw [E1.out] at ho2 ⊢
  have HL := hideG (ownsRow_ints ho2)
  have HB2 := hideG (HB1.out.trans (hb2.mono HB1.out.size))
  have HT2 := hideG (HT1.out.below hb2)
  clear ho2 hb2
  go_wp2_with fail
  go_loopw [6, 7] (fun c i wr => ∃ k : Nat, k ≤ T.length ∧ i = .int .i64 k ∧ c = .int .i64 (cntP (fun k => aboveS T (n : Int) (k : Int)) k) ∧ Below w2.heap.size w2 wr) (fun _ i _ => T.length - (intOf i).toNat)
  case atStart => exact ⟨0, Nat.zero_le _, rfl, rfl, Below.refl _ _⟩
  case round =>
    obtain ⟨k, hk, rfl, rfl, hB⟩ := hrel
    have HBk := hideG hB
    clear hB
    by_cases hlt : k < T.length
    · have hcb := cntP_le (fun k => aboveS T (n : Int) (k : Int)) k
      cases hq : aboveS T (n : Int) (k : Int)
      · have HQ := hideG hq
        have HC := hideG (cntP_false (p := fun k => aboveS T (n : Int) (k : Int)) hq)
        generalize cntP (fun k => aboveS T (n : Int) (k : Int)) k = cc at *
        clear hq
        go_wp2_with fail
        refine (shadeAbove_any T HS.out _ _ _ _ (HT2.out.below HBk.out) h6).mono ?_
        rintro e w5 ⟨rfl, hb5⟩
        rw [HQ.out]
        have HB5 := hideG (HBk.out.trans (hb5.mono HBk.out.size))
        clear hb5
        go_wp2_with fail
        refine (shadeConnected_any T HS.out _ _ _ (HT2.out.below HB5.out) h6).mono ?_
        rintro e w6 ⟨rfl, hb6⟩
        have HB6 := hideG (HB5.out.trans (hb6.mono HB5.out.size))
        clear hb6
        generalize hzz : aboveS T 0 (k : Int) = zz at *
        have HZZ := hideG hzz
        clear hzz
        go_wp2_with fail
        refine (shadeAbove_any T HS.out _ _ _ _ (HT2.out.below HB6.out) h6).mono ?_
        rintro e w7 ⟨rfl, hb7⟩
        rw [HZZ.out]
        have HB7 := hideG (HB6.out.trans (hb7.mono HB6.out.size))
        clear hb7
        have hqq : (zz != zz) = false := by simp
        go_wp2_with fail
        go_roundw
        case rel => exact ⟨k + 1, by omega, by go_num, by rw [HC.out], HB7.out⟩
        case measure => simp [intOf]; omega
      · have HQ := hideG hq
        have HC := hideG (cntP_true (p := fun k => aboveS T (n : Int) (k : Int)) hq)
        have HI := hideG (HIN.out k hlt hq)
        generalize cntP (fun k => aboveS T (n : Int) (k : Int)) k = cc at *
        clear hq
        go_wp2_with fail
        refine (shadeAbove_any T HS.out _ _ _ _ (HT2.out.below HBk.out) h6).mono ?_
        rintro e w4 ⟨rfl, hb4⟩
        rw [HQ.out]
        have HB5 := hideG (HBk.out.trans (hb4.mono HBk.out.size))
        clear hb4
        go_wp2_with fail
        refine (refIn_any (castL (sl T n)) _ _ _ (HL.out.below HB5.out) HLL.out).mono ?_
        rintro e w5 ⟨rfl, hw5⟩
        subst hw5
        rw [HI.out]
        go_wp2_with fail
        refine (shadeConnected_any T HS.out _ _ _ (HT2.out.below HB5.out) h6).mono ?_
        rintro e w6 ⟨rfl, hb6⟩
        have HB6 := hideG (HB5.out.trans (hb6.mono HB5.out.size))
        clear hb6
        generalize hzz : aboveS T 0 (k : Int) = zz at *
        have HZZ := hideG hzz
        clear hzz
        go_wp2_with fail
        refine (shadeAbove_any T HS.out _ _ _ _ (HT2.out.below HB6.out) h6).mono ?_
        rintro e w7 ⟨rfl, hb7⟩
        rw [HZZ.out]
        have HB7 := hideG (HB6.out.trans (hb7.mono HB6.out.size))
        clear hb7
        have hqq : (zz != zz) = false := by simp
        go_wp2_with fail
        go_roundw
        case rel => exact ⟨k + 1, by omega, by go_num, by rw [HC.out]; go_num, HB7.out⟩
        case measure => simp [intOf]; omega
    · have hke : k = T.length := by omega
      subst hke
      rw [← HCNT.out, ← HLEN.out]
      have HB3 := hideG (HB2.out.trans (HBk.out.mono HB2.out.size))
      generalize (castL (sl T n)).length = LL at *
      go_wp2_with fail
      refine (live4_any _).mono ?_
      rintro e w7 ⟨rfl, hb7⟩
      have HB7 := hideG (HB3.out.trans (hb7.mono HB3.out.size))
      clear hb7
      go_wp2_with fail
      go_ret
      exact ⟨rfl, HB7.out⟩

set_option maxRecDepth 100000 in
set_option maxHeartbeats 4000000 in
theorem slist_walk (T : List Nd) (v : Value) (n : Int) (w : World) (hT : TreeAt w v T) :
    Calls Try.prog 10 #[v, .int .i64 n] w fun e w' => e = .returned (.bool true) ∧ Below w.heap.size w w' := by
  cases hs : smallB T
  · obtain ⟨ta, tc, rfl⟩ := hT.shape
    have HT := hideG hT
    clear hT
    go_enter Try.func10, Try.ntmps10
    go_wp2_with (first | (go_at_call 25; refine (refSmall_any T _ _ HT.out).mono ?_; rintro e w1 ⟨rfl, rfl⟩) | (go_at_call 43; refine (live4_any _).mono ?_; rintro e w2 ⟨rfl, hb2⟩))
    go_ret
    exact ⟨rfl, hb2⟩
  · cases hab : bothB T n n
    · obtain ⟨ta, tc, rfl⟩ := hT.shape
      have HT := hideG hT
      have HS := hideG (small_sane hs)
      clear hT
      go_enter Try.func10, Try.ntmps10
      go_wp2_with (first | (go_at_call 25; refine (refSmall_any T _ _ HT.out).mono ?_; rintro e w1 ⟨rfl, hw⟩; subst hw) | (go_at_call 27; refine (refBoth_any T HS.out _ _ _ _ HT.out).mono ?_; rintro e w1 ⟨rfl, hb1⟩; have HB1 := hideG hb1; clear hb1) | (go_at_call 43; refine (live4_any _).mono ?_; rintro e w2 ⟨rfl, hb2⟩; have HB2 := hideG (HB1.out.trans (hb2.mono HB1.out.size)); clear hb2))
      go_ret
      exact ⟨rfl, HB2.out⟩
    · obtain ⟨_, ⟨x, rfl, hx⟩, _⟩ := both_true hab
      obtain ⟨tb, to, tc, rfl, _⟩ := hT.at (by omega)
      exact slist_yes T tb to tc x w hT hs hab

end Go.Proofs.Ytnbnijhdmnoelaa
