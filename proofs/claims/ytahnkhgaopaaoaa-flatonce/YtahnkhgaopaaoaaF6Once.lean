/- FlatOnce, walked. -/
import Derived.Test.YtahnkhgaopaaoaaF6Hosts
namespace Go.Proofs.Ytahnkhgaopaaoaa
open Go.RowKit

def cntF (T : List Nd) (k : Nat) : Nat := ((List.range k).filter fun n => fabvB T 0 n).length
theorem cntF_succ (T : List Nd) (k : Nat) : cntF T (k + 1) = cntF T k + (if fabvB T 0 k then 1 else 0) := by
  unfold cntF
  rw [List.range_succ, List.filter_append, List.length_append]
  congr 1
  cases h : fabvB T 0 k <;> simp [h]
theorem fabv_iff {T : List Nd} {a n : Nat} : fabvB T (a : Int) n = true ↔ a ∈ upF T n := by
  unfold fabvB
  rw [List.any_eq_true]
  constructor
  · rintro ⟨x, hx, e⟩
    have e' : (x : Int) = (a : Int) := by simpa using e
    have : x = a := by omega
    exact this ▸ hx
  · intro h; exact ⟨a, h, by simp⟩
theorem fabv0_iff {T : List Nd} {n : Nat} : fabvB T 0 n = true ↔ 0 ∈ upF T n := fabv_iff (a := 0)
theorem cntF_all {T : List Nd} (hm : mayB T = true) : cntF T T.length = (dnFl T 0).length := by
  have hpos := mayB_pos hm
  exact ((forest6 hm).d_count (n := 0) (by omega) (fun n => fabvB T 0 n) (fun k _ => fabv0_iff)).symm
theorem in_list {T : List Nd} (hm : mayB T = true) {n : Nat} (hn : n < T.length) : containsB (castL (dnFl T 0)) (n : Int) = fabvB T 0 n := by
  have hpos := mayB_pos hm
  rw [contains_castL, Bool.eq_iff_iff, decide_eq_true_iff, fabv0_iff]
  exact (forest6 hm).mem_d (by omega) hn
/-- What is shown is no shadow. -/
theorem in_kind {T : List Nd} (hm : mayB T = true) {n : Nat} (hn : n < T.length) (h : fabvB T 0 n = true) : ((nd T n).kind == 3) = false := by
  have hpos := mayB_pos hm
  rcases parF_cases hm hn with e | ⟨p, hp, e, hmem⟩
  · rw [fabv0_iff, upF_none hn e] at h
    have h0 : n = 0 := by have h' := List.mem_singleton.mp h; omega
    subst h0
    have := (mayB_fine hm).kind 0 hn
    unfold kindFitsB at this
    rw [if_pos (by decide), Bool.and_eq_true] at this
    have h0 : (nd T 0).kind = 0 := by simpa using this.1
    rw [h0]; rfl
  · obtain ⟨m, e', _, _, hc, _⟩ := kidsF_cases hm hp hmem
    have : m = n := by omega
    subst this
    have := kid_not_shadow hc
    simpa using this
theorem in_parent {T : List Nd} (hm : mayB T = true) {n : Nat} (hn : n < T.length) (h0 : 0 < n) (h : fabvB T 0 n = true) : indexI (castL (dnFl T 0)) (parF T n) < indexI (castL (dnFl T 0)) (n : Int) := by
  have hpos := mayB_pos hm
  have F := forest6 hm
  have hz : 0 < T.length := by omega
  rw [fabv0_iff] at h
  rcases parF_cases hm hn with e | ⟨p, hp, e, hmem⟩
  · rw [upF_none hn e] at h
    have : n = 0 := by have h' := List.mem_singleton.mp h; omega
    omega
  · have hpn : n ∈ chF T p := (mem_chF hm hp).mpr ⟨hn, hmem⟩
    have hup := F.up p hp n hpn
    rw [hup] at h
    have hpu : 0 ∈ upF T p := by
      rcases List.mem_cons.mp h with e' | h
      · omega
      · exact h
    have hpd := (F.mem_d hz hp).mpr hpu
    have hnd := (F.mem_d hz hn).mpr (by rw [hup]; exact List.mem_cons_of_mem _ hpu)
    have hdp : n ∈ dnFl T p := (F.mem_d hp hn).mpr (F.u_kid hp hpn)
    have hne : p ≠ n := fun e' => by
      subst e'
      have := F.rank p hp p hpn
      omega
    rw [e, index_castL hpd, index_castL hnd]
    have := F.ahead_in hz hpd hdp hne
    omega
theorem kid_or {T : List Nd} (hm : mayB T = true) {k n : Nat} (hk : k < T.length) (hn : n < T.length) : containsB (kidsF T k) (n : Int) = ((k : Int) == parF T n) := by
  rw [kid_par hm hk hn]
  rw [Bool.eq_iff_iff, beq_iff_eq, beq_iff_eq]
  exact ⟨fun h => h.symm, fun h => h.symm⟩

set_option maxRecDepth 100000 in
set_option maxHeartbeats 8000000 in
theorem flatOnce_yes (T : List Nd) (tb to tc : Nat) (w : World) (hT : TreeAt w (.slice (some ⟨tb, to, none⟩) T.length tc) T) (hs : fewB T = true) (h16 : ¬ (16 : Int) < (T.length : Int)) (hm : mayB T = true) :
    Calls Try.prog 6 #[.slice (some ⟨tb, to, none⟩) T.length tc] w fun e w' => e = .returned (.bool true) ∧ Below w.heap.size w w' := by
  have hpos := mayB_pos hm
  have HT0 := hideG hT
  have HS := hideG (small_sane (few_small hs))
  have HM := hideG hm
  have hk0 := known_of hm (n := 0) (by omega)
  have E1 := hideG (show flistI T = castL (dnFl T 0) by unfold flistI; rw [show knownB T [0] = true from hk0]; rfl)
  have HL6 := hideG (show (castL (dnFl T 0)).length ≤ 1000000 by have := dnFl_le hm (n := 0) (by omega); rw [castL_length]; omega)
  have HALL := hideG (show cntF T T.length = (castL (dnFl T 0)).length by rw [cntF_all hm, castL_length])
  have HIN := hideG (show ∀ n, n < T.length → containsB (castL (dnFl T 0)) (n : Int) = fabvB T 0 n from fun n hn => in_list hm hn)
  have HIK := hideG (show ∀ n, n < T.length → fabvB T 0 n = true → ((nd T n).kind == 3) = false from fun n hn h => in_kind hm hn h)
  have HIP := hideG (show ∀ n, n < T.length → 0 < n → fabvB T 0 n = true → indexI (castL (dnFl T 0)) (parF T n) < indexI (castL (dnFl T 0)) (n : Int) from fun n hn h0 h => in_parent hm hn h0 h)
  have HKO := hideG (show ∀ k n, k < T.length → n < T.length → containsB (kidsF T k) (n : Int) = ((k : Int) == parF T n) from fun k n hk hn => kid_or hm hk hn)
  have HK6 := hideG (show ∀ k, k < T.length → (kidsF T k).length ≤ 1000000 from fun k hk => by have := kidsF_le hm hk; omega)
  have HKN := hideG (show ∀ k : Nat, k < T.length → knownB T [(k : Int)] = true from fun k hk => known_of hm hk)
  clear hT hm hk0
  go_enter Try.func6, Try.ntmps6
  go_wp2_with fail
  refine (refFew_any T _ _ HT0.out).mono ?_
  rintro e wz ⟨rfl, hwz⟩
  subst hwz
  go_wp2_with fail
  refine (refMay_walk T HS.out _ _ HT0.out).mono ?_
  rintro e w1 ⟨rfl, hb1⟩
  rw [HM.out]
  have HT1 := hideG (HT0.out.below hb1)
  have HB1 := hideG hb1
  clear hb1
  go_wp2_with fail
  refine (flatList_any T HS.out _ _ HT1.out).mono ?_
  rintro e w2 ⟨a2, c2, rfl, ho2, hb2⟩
  rw [E1.out] at ho2 ⊢
  have HL2 := hideG (ownsRow_ints ho2)
  have HT2 := hideG (HT1.out.below hb2)
  have HB2 := hideG (HB1.out.trans (hb2.mono HB1.out.size))
  clear ho2 hb2
  generalize castL (dnFl T 0) = L at *
  go_wp2_with fail
  go_loopw [4, 5] (fun cv i wr => ∃ k : Nat, k ≤ T.length ∧ cv = .int .i64 (cntF T k : Int) ∧ i = .int .i64 k ∧ Below w2.heap.size w2 wr) (fun _ i _ => T.length - (intOf i).toNat)
  case atStart => exact ⟨0, Nat.zero_le _, rfl, rfl, Below.refl _ _⟩
  case round =>
    obtain ⟨k, hk, rfl, rfl, hB⟩ := hrel
    have HBk := hideG hB
    clear hB
    by_cases hlt : k < T.length
    · have HC := hideG (cntF_succ T k)
      have hcb : cntF T k ≤ k := by
        unfold cntF
        have := List.length_filter_le (fun n => fabvB T 0 n) (List.range k)
        simpa using this
      have hkn := HKN.out k hlt
      have EH := hideG (show faboveI T 0 (k : Int) = fabvB T 0 k by unfold faboveI; rw [hkn, Int.toNat_natCast]; rfl)
      have EP := hideG (show fparI T (k : Int) = parF T k by unfold fparI; rw [hkn, Int.toNat_natCast]; rfl)
      have EI := hideG (HIN.out k hlt)
      have hk0 : (0 : Int) ≤ (k : Int) := by omega
      clear hkn
      cases hf : fabvB T 0 k
      · have HTr := hideG (HT2.out.below HBk.out)
        have HBr := hideG HBk.out
        rw [hf] at EH EI HC
        have HF := hideG hf
        clear hf
        go_wp2_with fail
        refine (flatHas_any T HS.out _ _ _ HTr.out).mono ?_
        rintro e w3 ⟨rfl, hbz⟩
        rw [EH.out]
        have HTw3 := hideG (HTr.out.below hbz)
        have HBw3x := hideG hbz
        have HBw3 := hideG (HBr.out.trans (hbz.mono HBr.out.size))
        clear hbz
        go_wp2_with fail
        refine (flatHas_any T HS.out _ _ _ HTw3.out).mono ?_
        rintro e d ⟨rfl, hbz⟩
        rw [EH.out]
        have HTd := hideG (HTw3.out.below hbz)
        have HBx := hideG (HBw3x.out.trans (hbz.mono HBw3x.out.size))
        have HBd := hideG (HBw3.out.trans (hbz.mono HBw3.out.size))
        clear hbz
        go_wp2_with fail
        refine (refIn_any L _ _ _ (HL2.out.below HBd.out) HL6.out).mono ?_
        rintro e wz ⟨rfl, hwz⟩
        obtain rfl : _ = wz := hwz.symm
        rw [EI.out]
        go_wp2_with fail
        refine (refIn_any L _ _ _ (HL2.out.below HBd.out) HL6.out).mono ?_
        rintro e wz ⟨rfl, hwz⟩
        obtain rfl : _ = wz := hwz.symm
        rw [EI.out]
        go_wp2_with fail
        refine (flatParent_any T HS.out _ _ _ HTd.out).mono ?_
        rintro e w4 ⟨rfl, hbz⟩
        rw [EP.out]
        have HTw4 := hideG (HTd.out.below hbz)
        have HBw4 := hideG (HBd.out.trans (hbz.mono HBd.out.size))
        clear hbz
        go_wp2_with fail
        refine (refIn_any L _ _ _ (HL2.out.below HBw4.out) HL6.out).mono ?_
        rintro e wz ⟨rfl, hwz⟩
        obtain rfl : _ = wz := hwz.symm
        rw [EI.out]
        go_wp2_with fail
        go_loopw [7] (fun i wr => ∃ q : Nat, q ≤ T.length ∧ i = .int .i64 q ∧ Below w4.heap.size w4 wr) (fun i _ => T.length - (intOf i).toNat)
        case atStart => exact ⟨0, Nat.zero_le _, rfl, Below.refl _ _⟩
        case round =>
          obtain ⟨q, hq, rfl, hBq⟩ := hrel
          have HBR := hideG hBq
          have HBq := hideG (HBw4.out.trans (hBq.mono HBw4.out.size))
          have HTq := hideG (HTw4.out.below hBq)
          clear hBq
          by_cases hltq : q < T.length
          · have EK := hideG (show fkidsI T (q : Int) = kidsF T q by unfold fkidsI; rw [HKN.out q hltq, Int.toNat_natCast]; rfl)
            have EO := hideG (HKO.out q k hltq hlt)
            have H6 := hideG (HK6.out q hltq)
            go_wp2_with fail
            refine (flatKids_any T HS.out _ _ _ HTq.out).mono ?_
            rintro e w5 ⟨a5, c5, rfl, ho5, hb5⟩
            rw [EK.out] at ho5 ⊢
            have HI5 := hideG (ownsRow_ints ho5)
            have HB5 := hideG (HBR.out.trans (hb5.mono HBR.out.size))
            clear ho5 hb5
            go_wp2_with fail
            refine (refIn_any (kidsF T q) _ _ _ HI5.out H6.out).mono ?_
            rintro e w6 ⟨rfl, hw6⟩
            obtain rfl : _ = w6 := hw6.symm
            rw [EO.out]
            have hnn : (((q : Int) == parF T k) != ((q : Int) == parF T k)) = false := by simp
            go_wp2_with fail
            go_roundw
            case rel => exact ⟨q + 1, by omega, by go_num, HB5.out⟩
            case measure => simp [intOf]; omega
          · go_wp2_with fail
            go_roundw
            case rel => exact ⟨k + 1, by omega, by rw [HC.out]; simp, by go_num, HBq.out⟩
            case measure => simp [intOf]; omega
      · have HTr := hideG (HT2.out.below HBk.out)
        have HBr := hideG HBk.out
        rw [hf] at EH EI HC
        have hkd := HIK.out k hlt hf
        obtain ⟨tb', to', tc', htv, hct⟩ := HTr.out.at (by omega)
        simp only [Value.slice.injEq, Option.some.injEq, Addr.mk.injEq, and_true, true_and] at htv
        obtain ⟨⟨rfl, rfl⟩, rfl⟩ := htv
        obtain ⟨kk, ak, hN⟩ := hct k hlt
        have G0 := hideG hN.kind
        clear hct hN
        have HF := hideG hf
        clear hf
        go_wp2_with fail
        refine (flatHas_any T HS.out _ _ _ HTr.out).mono ?_
        rintro e w3 ⟨rfl, hbz⟩
        rw [EH.out]
        have HTw3 := hideG (HTr.out.below hbz)
        have HBw3x := hideG hbz
        have HBw3 := hideG (HBr.out.trans (hbz.mono HBr.out.size))
        clear hbz
        go_wp2_with fail
        refine (flatHas_any T HS.out _ _ _ HTw3.out).mono ?_
        rintro e d ⟨rfl, hbz⟩
        rw [EH.out]
        have HTd := hideG (HTw3.out.below hbz)
        have HBx := hideG (HBw3x.out.trans (hbz.mono HBw3x.out.size))
        have HBd := hideG (HBw3.out.trans (hbz.mono HBw3.out.size))
        clear hbz
        go_wp2_with fail
        refine (refIn_any L _ _ _ (HL2.out.below HBd.out) HL6.out).mono ?_
        rintro e wz ⟨rfl, hwz⟩
        obtain rfl : _ = wz := hwz.symm
        rw [EI.out]
        go_wp2_with fail
        refine (refIn_any L _ _ _ (HL2.out.below HBd.out) HL6.out).mono ?_
        rintro e wz ⟨rfl, hwz⟩
        obtain rfl : _ = wz := hwz.symm
        rw [EI.out]
        have g0 := cell_below HBx.out G0.out
        go_wp2_with fail
        refine (flatParent_any T HS.out _ _ _ HTd.out).mono ?_
        rintro e w4 ⟨rfl, hbz⟩
        rw [EP.out]
        have HTw4 := hideG (HTd.out.below hbz)
        have HBw4 := hideG (HBd.out.trans (hbz.mono HBd.out.size))
        clear hbz
        go_wp2_with fail
        refine (refIn_any L _ _ _ (HL2.out.below HBw4.out) HL6.out).mono ?_
        rintro e wz ⟨rfl, hwz⟩
        obtain rfl : _ = wz := hwz.symm
        rw [EI.out]
        by_cases hkz : 0 < k
        · have hip := HIP.out k hlt hkz HF.out
          have hgt : (0 : Int) < (k : Int) := by omega
          have hdl : decide (indexI L (parF T k) ≥ indexI L (k : Int)) = false := by rw [decide_eq_false_iff_not]; omega
          have HDL := hideG hdl
          have hix := hip
          clear hip hdl
          go_wp2_with fail
          refine (refPlace_any L _ _ _ (HL2.out.below HBw4.out) HL6.out).mono ?_
          rintro e wz ⟨rfl, hwz⟩
          obtain rfl : _ = wz := hwz.symm
          go_wp2_with fail
          refine (refPlace_any L _ _ _ (HL2.out.below HBw4.out) HL6.out).mono ?_
          rintro e wz ⟨rfl, hwz⟩
          obtain rfl : _ = wz := hwz.symm
          go_wp2_with fail
          go_loopw [7] (fun i wr => ∃ q : Nat, q ≤ T.length ∧ i = .int .i64 q ∧ Below w4.heap.size w4 wr) (fun i _ => T.length - (intOf i).toNat)
          case atStart => exact ⟨0, Nat.zero_le _, rfl, Below.refl _ _⟩
          case round =>
            obtain ⟨q, hq, rfl, hBq⟩ := hrel
            have HBR := hideG hBq
            have HBq := hideG (HBw4.out.trans (hBq.mono HBw4.out.size))
            have HTq := hideG (HTw4.out.below hBq)
            clear hBq
            by_cases hltq : q < T.length
            · have EK := hideG (show fkidsI T (q : Int) = kidsF T q by unfold fkidsI; rw [HKN.out q hltq, Int.toNat_natCast]; rfl)
              have EO := hideG (HKO.out q k hltq hlt)
              have H6 := hideG (HK6.out q hltq)
              go_wp2_with fail
              refine (flatKids_any T HS.out _ _ _ HTq.out).mono ?_
              rintro e w5 ⟨a5, c5, rfl, ho5, hb5⟩
              rw [EK.out] at ho5 ⊢
              have HI5 := hideG (ownsRow_ints ho5)
              have HB5 := hideG (HBR.out.trans (hb5.mono HBR.out.size))
              clear ho5 hb5
              go_wp2_with fail
              refine (refIn_any (kidsF T q) _ _ _ HI5.out H6.out).mono ?_
              rintro e w6 ⟨rfl, hw6⟩
              obtain rfl : _ = w6 := hw6.symm
              rw [EO.out]
              have hnn : (((q : Int) == parF T k) != ((q : Int) == parF T k)) = false := by simp
              go_wp2_with fail
              go_roundw
              case rel => exact ⟨q + 1, by omega, by go_num, HB5.out⟩
              case measure => simp [intOf]; omega
            · go_wp2_with fail
              go_roundw
              case rel => exact ⟨k + 1, by omega, by rw [HC.out]; go_num, by go_num, HBq.out⟩
              case measure => simp [intOf]; omega
        · have hke : k = 0 := by omega
          subst hke
          go_wp2_with fail
          go_loopw [7] (fun i wr => ∃ q : Nat, q ≤ T.length ∧ i = .int .i64 q ∧ Below w4.heap.size w4 wr) (fun i _ => T.length - (intOf i).toNat)
          case atStart => exact ⟨0, Nat.zero_le _, rfl, Below.refl _ _⟩
          case round =>
            obtain ⟨q, hq, rfl, hBq⟩ := hrel
            have HBR := hideG hBq
            have HBq := hideG (HBw4.out.trans (hBq.mono HBw4.out.size))
            have HTq := hideG (HTw4.out.below hBq)
            clear hBq
            by_cases hltq : q < T.length
            · have EK := hideG (show fkidsI T (q : Int) = kidsF T q by unfold fkidsI; rw [HKN.out q hltq, Int.toNat_natCast]; rfl)
              have EO := hideG (show containsB (kidsF T q) 0 = ((q : Int) == parF T 0) from HKO.out q 0 hltq hlt)
              have H6 := hideG (HK6.out q hltq)
              go_wp2_with fail
              refine (flatKids_any T HS.out _ _ _ HTq.out).mono ?_
              rintro e w5 ⟨a5, c5, rfl, ho5, hb5⟩
              rw [EK.out] at ho5 ⊢
              have HI5 := hideG (ownsRow_ints ho5)
              have HB5 := hideG (HBR.out.trans (hb5.mono HBR.out.size))
              clear ho5 hb5
              go_wp2_with fail
              refine (refIn_any (kidsF T q) _ _ _ HI5.out H6.out).mono ?_
              rintro e w6 ⟨rfl, hw6⟩
              obtain rfl : _ = w6 := hw6.symm
              rw [EO.out]
              have hnn : (((q : Int) == parF T 0) != ((q : Int) == parF T 0)) = false := by simp
              go_wp2_with fail
              go_roundw
              case rel => exact ⟨q + 1, by omega, by go_num, HB5.out⟩
              case measure => simp [intOf]; omega
            · go_wp2_with fail
              go_roundw
              case rel => exact ⟨0 + 1, by omega, by rw [HC.out]; go_num, by go_num, HBq.out⟩
              case measure => simp [intOf]; omega
    · have hke : k = T.length := by omega
      subst hke
      rw [HALL.out]
      have HBE := hideG (HB2.out.trans (HBk.out.mono HB2.out.size))
      go_wp2_with fail
      refine (live6_any _).mono ?_
      rintro e w6 ⟨rfl, hb6⟩
      have HB6 := hideG (HBE.out.trans (hb6.mono HBE.out.size))
      clear hb6
      go_wp2_with fail
      go_ret
      exact ⟨rfl, HB6.out⟩

set_option maxRecDepth 100000 in
set_option maxHeartbeats 4000000 in
theorem flatOnce_walk (T : List Nd) (v : Value) (w : World) (hT : TreeAt w v T) :
    Calls Try.prog 6 #[v] w fun e w' => e = .returned (.bool true) ∧ Below w.heap.size w w' := by
  cases hs : fewB T
  · obtain ⟨ta, tc, rfl⟩ := hT.shape
    have HT := hideG hT
    clear hT
    go_enter Try.func6, Try.ntmps6
    go_wp2_with (first | (go_at_call 15; refine (refFew_any T _ _ HT.out).mono ?_; rintro e w1 ⟨rfl, rfl⟩) | (go_at_call 21; refine (live6_any _).mono ?_; rintro e w2 ⟨rfl, hb2⟩))
    go_ret
    exact ⟨rfl, hb2⟩
  · by_cases h16 : (16 : Int) < (T.length : Int)
    · obtain ⟨ta, tc, rfl⟩ := hT.shape
      have HT := hideG hT
      clear hT
      go_enter Try.func6, Try.ntmps6
      go_wp2_with (first | (go_at_call 15; refine (refFew_any T _ _ HT.out).mono ?_; rintro e w1 ⟨rfl, hw⟩; subst hw) | (go_at_call 21; refine (live6_any _).mono ?_; rintro e w2 ⟨rfl, hb2⟩))
      go_ret
      exact ⟨rfl, hb2⟩
    · cases hm : mayB T
      · obtain ⟨ta, tc, rfl⟩ := hT.shape
        have HT := hideG hT
        have HS := hideG (small_sane (few_small hs))
        clear hT
        go_enter Try.func6, Try.ntmps6
        go_wp2_with (first | (go_at_call 15; refine (refFew_any T _ _ HT.out).mono ?_; rintro e w1 ⟨rfl, hw⟩; subst hw) | (go_at_call 33; refine (refMay_walk T HS.out _ _ HT.out).mono ?_; rintro e w1 ⟨rfl, hb1⟩; have HB1 := hideG hb1; clear hb1) | (go_at_call 21; refine (live6_any _).mono ?_; rintro e w2 ⟨rfl, hb2⟩; have HB2 := hideG (HB1.out.trans (hb2.mono HB1.out.size)); clear hb2))
        go_ret
        exact ⟨rfl, HB2.out⟩
      · obtain ⟨tb, to, tc, rfl, _⟩ := hT.at (by have := mayB_pos hm; omega)
        exact flatOnce_yes T tb to tc w hT hs h16 hm
end Go.Proofs.Ytahnkhgaopaaoaa
