/- The law on views in which nobody is marked. -/
import Derived.Test.YtclhimodopgeoaaGreatXLHigh
import Derived.Test.YtclhimodopgeoaaGreatXIn5
namespace Go.Proofs.YtclhimodopgeoaaGreat
open Go.RowKit

theorem node0 {T : List Nd} (hm : mayB T = true) : (nd T 0).attrs = [] ∧ upF T 0 = [0] := by
  have hf := mayB_fine hm
  have h0 : 0 < T.length := hf.pos
  have hk : (nd T 0).kind = 0 := by
    have h := hf.kind 0 h0
    unfold kindFitsB at h
    simp at h
    exact h.1
  constructor
  · have ha := hf.attrs 0 h0
    cases e : (nd T 0).attrs with
    | nil => rfl
    | cons a l =>
      exfalso
      rw [e, hk] at ha
      simp only [attrsFrom, Bool.and_eq_true, Bool.not_eq_true', Bool.or_eq_false_iff] at ha
      have h1 := ha.1.2
      have h2 : attrFitsB 0 a.1 a.2 = true := by simpa using h1
      unfold attrFitsB attrKindI at h2
      simp only [Bool.and_eq_true, Bool.not_eq_true', Bool.or_eq_false_iff] at h2
      have h3 := h2.1.2
      split at h3 <;> simp at h3
  · refine upF_none h0 ?_
    unfold parF
    rcases hf.par 0 h0 with e | ⟨p, hp, e, hmem⟩
    · rw [e]; rfl
    · exfalso
      have hk2 := (hf.kid p hp _ hmem).2.1
      rw [show ((0 : Nat) : Int).toNat = 0 from rfl, hk] at hk2
      exact absurd hk2 (by decide)
theorem mark0 {T : List Nd} (hm : mayB T = true) : markB T 0 = false := by
  unfold markB
  rw [(node0 hm).1]
  rfl
theorem under_none {M : List Int} {high : Int} : ∀ {l : List Int}, (∀ x, x ∈ l → containsB M x = false) → underB M high l = false
  | [], _ => rfl
  | x :: l, h => by
    rw [underB, h x (by simp), Bool.false_or, under_none (fun y hy => h y (by simp [hy])), Bool.and_false]
theorem not_in0 {V : Vw} (hm : mayB V.tree = true) : inB V 0 = false := by
  have hu : upI6 V.tree 0 = [0] := by unfold upI6; rw [(node0 hm).2]; rfl
  unfold inB
  rw [hu]
  have h1 : blockedB (highV V) [0] = false := by unfold blockedB; simp
  have h2 : underB (markL V.tree V.tree.length) (highV V) [0] = false := by
    refine under_none (fun x hx => ?_)
    simp at hx
    subst hx
    unfold containsB markL castL
    refine decide_eq_false (fun h => ?_)
    obtain ⟨j, hj, e⟩ := List.mem_map.mp h
    have : j = 0 := by omega
    subst this
    have := (List.mem_filter.mp hj).2
    rw [mark0 hm] at this
    cases this
  rw [h1, h2]; rfl
theorem all_no0 {V : Vw} (hm : mayB V.tree = true) : containsB (allIn V V.tree.length) 0 = false := by
  unfold containsB allIn castL
  refine decide_eq_false (fun h => ?_)
  obtain ⟨j, hj, e⟩ := List.mem_map.mp h
  have : j = 0 := by omega
  subst this
  have := (List.mem_filter.mp hj).2
  rw [not_in0 hm] at this
  cases this
theorem block_no0 {V : Vw} (hm : mayB V.tree = true) : blockedB (highV V) (upI6 V.tree 0) = false := by
  have hu : upI6 V.tree 0 = [0] := by unfold upI6; rw [(node0 hm).2]; rfl
  rw [hu]; unfold blockedB; simp
def mkR (T : List Nd) (k : Nat) : Bool := (List.range k).any fun j => (refGetL T (j : Int) 3).2
theorem mkR_succ (T : List Nd) (k : Nat) : mkR T (k + 1) = (mkR T k || (refGetL T (k : Int) 3).2) := by
  unfold mkR
  rw [List.range_succ, List.any_append]
  simp
theorem high_nomodal {V : Vw} (h : V.modal.length = 0) : highV V = -1 := by
  have hm : V.modal = [] := List.length_eq_zero_iff.mp h
  unfold highV
  rw [hm]
  exact high_none (fun j _ => by simp [containsB])
theorem all_none {V : Vw} (hm : mayB V.tree = true) (hr : mkR V.tree V.tree.length = false) (h0 : V.modal.length = 0) : (allIn V V.tree.length).length = 0 := by
  have hML : markL V.tree V.tree.length = [] := by
    unfold markL castL
    rw [List.map_eq_nil_iff, List.filter_eq_nil_iff]
    intro j hj
    unfold mkR at hr
    rw [List.any_eq_false] at hr
    have h1 := hr j hj
    rw [refGet_eq hm] at h1
    unfold markB
    simp only [Bool.not_eq_true] at h1 ⊢
    rw [h1, Bool.and_false]
  unfold allIn castL
  rw [List.length_map, List.length_eq_zero_iff, List.filter_eq_nil_iff]
  intro j _
  unfold inB
  rw [high_nomodal h0, hML, under_none (fun x _ => by simp [containsB])]
  simp [blockedB]
set_option maxRecDepth 100000 in
set_option maxHeartbeats 8000000 in
theorem inertNone_walk (tv ov mv pv qv : Value) (V : Vw) (w : World) (hV : ViewAt w tv ov mv pv qv V) :
    Calls Tryz.prog 15 #[.agg #[tv, ov, mv, pv, qv]] w fun e w' => e = .returned (.bool true) ∧ Below w.heap.size w w' := by
  obtain ⟨hT, hO, hM, hP, hQ⟩ := hV
  obtain ⟨ta, tc, rfl⟩ := hT.shape
  obtain ⟨oa, oc, rfl⟩ := hO.shape
  obtain ⟨ma, mc, rfl⟩ := hM.shape
  obtain ⟨pa, pc, rfl⟩ := hP.shape
  obtain ⟨qa, qc, rfl⟩ := hQ.shape
  obtain ⟨W0, hW0⟩ : ∃ W0, w.alloc (.cells #[.slice ta V.tree.length tc, .slice oa V.op.length oc, .slice ma V.modal.length mc, .slice pa V.pops.length pc, .slice qa V.top.length qc] 27) = W0 := ⟨_, rfl⟩
  have HB0 := hideG (show Below w.heap.size w W0 by rw [← hW0]; exact alB _ _)
  have BX := hideG (show BoxV W0 w.heap.size _ _ _ _ _ by rw [← hW0]; exact BoxV.new _ _ _ _ _ _ _)
  have HV := hideG (show ViewAt w _ _ _ _ _ V from ⟨hT, hO, hM, hP, hQ⟩)
  have HV0 := hideG (HV.out.below HB0.out)
  have HW0 := hideG hW0
  clear hW0 hT hO hM hP hQ
  have HSM := hideG (refSmall10_any _ _ _ _ _ V W0 HV0.out)
  have p0 := BX.out.c0
  have p1 := BX.out.c1
  have p2 := BX.out.c2
  have p3 := BX.out.c3
  have p4 := BX.out.c4
  have plt := BX.out.lt
  cases hs : smallV V
  · rw [hs] at HSM
    clear hs
    go_enter Tryz.func15, Tryz.ntmps15
    go_wp2_with fail
    rw [HW0.out]
    refine HSM.out.mono ?_
    rintro ex w1 ⟨rfl, hb1⟩
    have HBX1 := hideG hb1
    clear hb1 p0 p1 p2 p3 p4 plt
    go_wp2_with fail
    refine (live12_any _).mono ?_
    rintro ex wl ⟨rfl, hbl⟩
    have HBL := hideG (HB0.out.trans ((HBX1.out.trans (hbl.mono HBX1.out.size)).mono HB0.out.size))
    clear hbl
    go_wp2_with fail
    go_ret
    exact ⟨rfl, HBL.out⟩
  · rw [hs] at HSM
    obtain ⟨hS, hl, htl, _⟩ := small_facts hs
    have HS := hideG hS
    have HL := hideG hl
    have h4l : V.top.length ≤ 1000 := hl.2.2.2
    have h2l : V.modal.length ≤ 500 := hl.2.1
    clear hs hS hl
    go_enter Tryz.func15, Tryz.ntmps15
    go_wp2_with fail
    rw [HW0.out]
    refine HSM.out.mono ?_
    rintro ex w1 ⟨rfl, hb1⟩
    have HBX1 := hideG hb1
    have BX1 := hideG (BX.out.below hb1)
    have HC := hideG (refCheck10_any _ _ _ _ _ V w1 (HV0.out.below hb1) HS.out ⟨by have := HL.out.1; omega, by omega, by have := HL.out.2.2.1; omega, h4l⟩)
    clear hb1 HSM
    clear p0 p1 p2 p3 p4 plt
    have p0 := BX1.out.c0
    have p1 := BX1.out.c1
    have p2 := BX1.out.c2
    have p3 := BX1.out.c3
    have p4 := BX1.out.c4
    have plt := BX1.out.lt
    go_wp2_with fail
    clear p0 p1 p2 p3 p4 plt
    by_cases hck : checkV V = 0
    · have HMAY := hideG (check_iff.mp hck).1
      have HKN := hideG (show knownV V 0 = true by
        unfold knownV
        have := (mayB_pos (check_iff.mp hck).1).1
        simp [hck]; omega)
      rw [hck] at HC
      refine HC.out.mono ?_
      rintro ex w2 ⟨rfl, hb2⟩
      have HBX2 := hideG (HBX1.out.trans (hb2.mono HBX1.out.size))
      have HV2 := hideG (HV0.out.below HBX2.out)
      have BX2 := hideG (BX.out.below HBX2.out)
      clear hb2 HC hck BX1 HBX1
      have p0 := BX2.out.c0
      have plt := BX2.out.lt
      go_wp2_with fail
      clear p0 plt
      go_loopw [3, 4] (fun m i wr => ∃ k : Nat, k ≤ V.tree.length ∧ m = .bool (mkR V.tree k) ∧ i = .int .i64 (k : Int) ∧ Below w2.heap.size w2 wr) (fun _ i _ => V.tree.length - (intOf i).toNat)
      case atStart => exact ⟨0, Nat.zero_le _, rfl, rfl, Below.refl _ _⟩
      case round =>
        obtain ⟨k, hk, rfl, rfl, hB⟩ := hrel
        have HBK := hideG hB
        have BXK := hideG (BX2.out.below hB)
        clear hB
        have p0 := BXK.out.c0
        have p1 := BXK.out.c1
        have p2 := BXK.out.c2
        have p3 := BXK.out.c3
        have p4 := BXK.out.c4
        have plt := BXK.out.lt
        by_cases hlt : k < V.tree.length
        · have HMS := hideG (mkR_succ V.tree k)
          have HH := hideG (refHas_any V.tree HS.out _ (k : Int) 3 wr (HV2.out.below HBK.out).tree)
          cases hmk : mkR V.tree k
          · rw [hmk, Bool.false_or] at HMS
            go_wp2_with fail
            refine HH.out.mono ?_
            rintro ex wz ⟨rfl, hwz⟩
            obtain rfl : _ = wz := hwz.symm
            go_wp2_with fail
            go_roundw
            case rel => exact ⟨k + 1, by omega, by rw [HMS.out], by go_num, HBK.out⟩
            case measure => simp [intOf]; omega
          · rw [hmk, Bool.true_or] at HMS
            go_wp2_with fail
            go_roundw
            case rel => exact ⟨k + 1, by omega, by rw [HMS.out], by go_num, HBK.out⟩
            case measure => simp [intOf]; omega
        · have hke : k = V.tree.length := by omega
          subst hke
          have HAN := hideG (fun (h1 : mkR V.tree V.tree.length = false) (h2 : V.modal.length = 0) => all_none HMAY.out h1 h2)
          have hAV : allV V = allIn V V.tree.length := by unfold allV; rw [HKN.out]; rfl
          have HAL := hideG (iall_any _ _ _ _ _ V wr (HV2.out.below HBK.out) HS.out HL.out)
          rw [hAV] at HAL
          have HA0 := hideG (all_no0 HMAY.out)
          have hal := allIn_len V V.tree.length
          clear hAV
          generalize hmr : mkR V.tree V.tree.length = mr at *
          generalize allIn V V.tree.length = A at *
          have hmm : ¬ ((V.tree.length : Int) < (V.tree.length : Int)) := by omega
          clear hmr
          go_wp2_with fail
          refine HAL.out.mono ?_
          rintro ex w3 ⟨aa, ac, rfl, hI3, hb3⟩
          have HB3 := hideG (HB0.out.trans ((HBX2.out.trans ((HBK.out.trans (hb3.mono HBK.out.size)).mono HBX2.out.size)).mono HB0.out.size))
          have BX3 := hideG (BXK.out.below hb3)
          have HV3 := hideG ((HV2.out.below HBK.out).below hb3)
          have HI3 := hideG hI3
          clear hI3 hb3 p0 p1 p2 p3 p4 plt HAL
          have p0 := BX3.out.c0
          have p1 := BX3.out.c1
          have p2 := BX3.out.c2
          have p3 := BX3.out.c3
          have p4 := BX3.out.c4
          have plt := BX3.out.lt
          have HIN := hideG (refIn_any A _ 0 w3 HI3.out (by omega))
          rw [HA0.out] at HIN
          have HBL := hideG (iblocked_any _ _ _ _ _ V 0 w3 HV3.out HS.out HL.out)
          rw [show (knownV V 0 && blockedB (highV V) (upI6 V.tree (0 : Int).toNat)) = false by rw [show (0 : Int).toNat = 0 from rfl, block_no0 HMAY.out, Bool.and_false]] at HBL
          cases mr
          · by_cases hm0 : (V.modal.length : Int) = 0
            · have hb0 : ((V.modal.length : Int) == 0) = true := by rw [beq_iff_eq]; exact hm0
              have hA0 := HAN.out rfl (by omega)
              have hA1 : ¬ ((0 : Int) < (A.length : Int)) := by omega
              have HAZ := hideG hA0
              clear hA0 hm0
              go_wp2_with fail
              refine HIN.out.mono ?_
              rintro ex wz ⟨rfl, hwz⟩
              obtain rfl : _ = wz := hwz.symm
              go_wp2_with fail
              refine HBL.out.mono ?_
              rintro ex w4 ⟨rfl, hb4⟩
              go_wp2_with fail
              refine (live12_any _).mono ?_
              rintro ex wl ⟨rfl, hbl⟩
              have HF := hideG (HB3.out.trans ((hb4.trans (hbl.mono hb4.size)).mono HB3.out.size))
              clear hb4 hbl
              go_wp2_with fail
              go_ret
              exact ⟨rfl, HF.out⟩
            · have hb0 : ((V.modal.length : Int) == 0) = false := by rw [beq_eq_false_iff_ne]; exact hm0
              clear hm0
              go_wp2_with fail
              refine HIN.out.mono ?_
              rintro ex wz ⟨rfl, hwz⟩
              obtain rfl : _ = wz := hwz.symm
              go_wp2_with fail
              refine HBL.out.mono ?_
              rintro ex w4 ⟨rfl, hb4⟩
              go_wp2_with fail
              refine (live12_any _).mono ?_
              rintro ex wl ⟨rfl, hbl⟩
              have HF := hideG (HB3.out.trans ((hb4.trans (hbl.mono hb4.size)).mono HB3.out.size))
              clear hb4 hbl
              go_wp2_with fail
              go_ret
              exact ⟨rfl, HF.out⟩
          · go_wp2_with fail
            refine HIN.out.mono ?_
            rintro ex wz ⟨rfl, hwz⟩
            obtain rfl : _ = wz := hwz.symm
            go_wp2_with fail
            refine HBL.out.mono ?_
            rintro ex w4 ⟨rfl, hb4⟩
            go_wp2_with fail
            refine (live12_any _).mono ?_
            rintro ex wl ⟨rfl, hbl⟩
            have HF := hideG (HB3.out.trans ((hb4.trans (hbl.mono hb4.size)).mono HB3.out.size))
            clear hb4 hbl
            go_wp2_with fail
            go_ret
            exact ⟨rfl, HF.out⟩
    · have hne : checkV V ≠ 0 := hck
      have hce : ((checkV V : Int) != 0) = true := by simpa using hck
      refine HC.out.mono ?_
      rintro ex w2 ⟨rfl, hb2⟩
      have HBX2 := hideG (HBX1.out.trans (hb2.mono HBX1.out.size))
      clear hb2 HC
      generalize checkV V = cv at *
      go_wp2_with fail
      refine (live12_any _).mono ?_
      rintro ex wl ⟨rfl, hbl⟩
      have HBL := hideG (HB0.out.trans ((HBX2.out.trans (hbl.mono HBX2.out.size)).mono HB0.out.size))
      clear hbl
      go_wp2_with fail
      go_ret
      exact ⟨rfl, HBL.out⟩
end Go.Proofs.YtclhimodopgeoaaGreat

