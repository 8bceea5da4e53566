/- The law on who lies below one that is inert. -/
import Derived.Test.YtclhimodopgeoaaGreatXLNone
namespace Go.Proofs.YtclhimodopgeoaaGreat
open Go.RowKit

theorem upF_rank {T : List Nd} (hm : mayB T = true) : ∀ (r n : Nat), rkF T n ≤ r → n < T.length → ∀ x, x ∈ upF T n → x < T.length ∧ rkF T x ≤ rkF T n := by
  intro r
  induction r with
  | zero =>
    intro n hr hn x hx
    rcases (fitsF hm).par n hn with e | ⟨p, hp, e, _⟩
    · rw [upF_none hn e] at hx; simp at hx; subst hx; exact ⟨hn, Nat.le_refl _⟩
    · have := (upF_some hm hn e).2.2; omega
  | succ r ih =>
    intro n hr hn x hx
    rcases (fitsF hm).par n hn with e | ⟨p, hp, e, _⟩
    · rw [upF_none hn e] at hx; simp at hx; subst hx; exact ⟨hn, Nat.le_refl _⟩
    · obtain ⟨h1, h2, h3⟩ := upF_some hm hn e
      rw [h2] at hx
      rcases List.mem_cons.mp hx with rfl | hx
      · exact ⟨hn, Nat.le_refl _⟩
      · have := ih p (by omega) h1 x hx
        exact ⟨this.1, by omega⟩
theorem upF_split {T : List Nd} (hm : mayB T = true) {a : Nat} : ∀ (r b : Nat), rkF T b ≤ r → b < T.length → a ∈ upF T b → ∃ pre, upF T b = pre ++ upF T a ∧ ∀ x, x ∈ pre → x ∉ upF T a := by
  intro r
  induction r with
  | zero =>
    intro b hr hb ha
    rcases (fitsF hm).par b hb with e | ⟨p, hp, e, _⟩
    · rw [upF_none hb e] at ha; simp at ha; subst ha; exact ⟨[], rfl, fun x h => by simp at h⟩
    · have := (upF_some hm hb e).2.2; omega
  | succ r ih =>
    intro b hr hb ha
    rcases (fitsF hm).par b hb with e | ⟨p, hp, e, _⟩
    · rw [upF_none hb e] at ha; simp at ha; subst ha; exact ⟨[], rfl, fun x h => by simp at h⟩
    · obtain ⟨h1, h2, h3⟩ := upF_some hm hb e
      by_cases hab : a = b
      · subst hab; exact ⟨[], rfl, fun x h => by simp at h⟩
      · rw [h2] at ha
        rcases List.mem_cons.mp ha with h | ha
        · exact absurd h hab
        · obtain ⟨pre, hp1, hp2⟩ := ih p (by omega) h1 ha
          refine ⟨b :: pre, by rw [h2, hp1]; rfl, fun x hx => ?_⟩
          rcases List.mem_cons.mp hx with rfl | hx
          · intro hxa
            have hxp : x ∈ upF T p := by rw [hp1]; exact List.mem_append.mpr (.inr hxa)
            have := (upF_rank hm _ p (Nat.le_refl _) h1 x hxp).2
            omega
          · exact hp2 x hx
theorem up_contains {T : List Nd} {x : Int} {n : Nat} : containsB (upI6 T n) x = fabvB T x n := fabv_contains
theorem blocked_eq {T : List Nd} (hm : mayB T = true) {n : Nat} (hn : n < T.length) (high : Int) : blockedB high (upI6 T n) = ((high != -1) && (((n : Int) != 0) && !fabvB T high n)) := by
  unfold blockedB
  rw [(upI6_len hm hn).2.2, up_contains]
theorem under_app {M : List Int} {high : Int} {l : List Int} (h : underB M high l = true) : ∀ {pre : List Int}, (∀ x, x ∈ pre → x ≠ high) → underB M high (pre ++ l) = true
  | [], _ => h
  | x :: pre, hp => by
    rw [List.cons_append, underB, under_app h (fun y hy => hp y (by simp [hy]))]
    have : (x == high) = false := by rw [beq_eq_false_iff_ne]; exact hp x (by simp)
    rw [this]; simp
theorem fabv_mem {T : List Nd} {a n : Nat} : fabvB T (a : Int) n = true ↔ a ∈ upF T n := by
  unfold fabvB
  rw [List.any_eq_true]
  constructor
  · rintro ⟨x, hx, e⟩
    have : x = a := by have := (beq_iff_eq.mp e); omega
    subst this; exact hx
  · intro h; exact ⟨a, h, by simp⟩
theorem in_below {V : Vw} (hm : mayB V.tree = true) {a b : Nat} (ha : a < V.tree.length) (hb : b < V.tree.length) (hab : fabvB V.tree (a : Int) b = true) (hin : inB V a = true) (hx : ¬ (highV V ≠ -1 ∧ fabvB V.tree (highV V) b = true ∧ fabvB V.tree (highV V) a = false)) : inB V b = true := by
  have hmem := fabv_mem.mp hab
  obtain ⟨pre, hp1, hp2⟩ := upF_split hm _ b (Nat.le_refl _) hb hmem
  unfold inB at hin ⊢
  rw [blocked_eq hm ha] at hin
  rw [blocked_eq hm hb]
  rw [Bool.or_eq_true] at hin ⊢
  rcases hin with h | h
  · left
    simp only [Bool.and_eq_true, bne_iff_ne, ne_eq, Bool.not_eq_true'] at h ⊢
    obtain ⟨h1, h2, h3⟩ := h
    refine ⟨h1, fun hb0 => ?_, ?_⟩
    · have : b = 0 := by omega
      subst this
      rw [(node0 hm).2] at hmem
      simp at hmem
      omega
    · cases e : fabvB V.tree (highV V) b with
      | false => rfl
      | true => exact absurd ⟨h1, e, h3⟩ hx
  · right
    have e : upI6 V.tree b = (pre.map fun (x : Nat) => (x : Int)) ++ upI6 V.tree a := by unfold upI6 castL; rw [hp1, List.map_append]
    rw [e]
    refine under_app h (fun x hx' => ?_)
    obtain ⟨y, hy, rfl⟩ := List.mem_map.mp hx'
    intro hyh
    have hyb : y ∈ upF V.tree b := by rw [hp1]; exact List.mem_append.mpr (.inl hy)
    have h1 : fabvB V.tree (highV V) b = true := by rw [← hyh]; exact fabv_mem.mpr hyb
    have h2 : fabvB V.tree (highV V) a = false := by
      rw [← hyh]
      cases q : fabvB V.tree (y : Int) a with
      | false => rfl
      | true => exact absurd (fabv_mem.mp q) (hp2 y hy)
    exact hx ⟨by omega, h1, h2⟩

set_option maxRecDepth 100000 in
set_option maxHeartbeats 8000000 in
theorem inertBelow_walk (tv ov mv pv qv : Value) (V : Vw) (a b : Int) (w : World) (hV : ViewAt w tv ov mv pv qv V) :
    Calls Tryz.prog 16 #[.agg #[tv, ov, mv, pv, qv], .int .i64 a, .int .i64 b] w fun e w' => e = .returned (.bool true) ∧ Below w.heap.size w w' := by
  obtain ⟨hT, hO, hM, hP, hQ⟩ := hV
  obtain ⟨ta, tc, rfl⟩ := hT.shape
  obtain ⟨oa, oc, rfl⟩ := hO.shape
  obtain ⟨ma, mc, rfl⟩ := hM.shape
  obtain ⟨pa, pc, rfl⟩ := hP.shape
  obtain ⟨qa, qc, rfl⟩ := hQ.shape
  obtain ⟨W0, hW0⟩ : ∃ W0, w.alloc (.cells #[.slice ta V.tree.length tc, .slice oa V.op.length oc, .slice ma V.modal.length mc, .slice pa V.pops.length pc, .slice qa V.top.length qc] 27) = W0 := ⟨_, rfl⟩
  have HB0 := hideG (show Below w.heap.size w W0 by rw [← hW0]; exact alB _ _)
  have BX := hideG (show BoxV W0 w.heap.size _ _ _ _ _ by rw [← hW0]; exact BoxV.new _ _ _ _ _ _ _)
  have HV := hideG (show ViewAt w _ _ _ _ _ V from ⟨hT, hO, hM, hP, hQ⟩)
  have HV0 := hideG (HV.out.below HB0.out)
  have HW0 := hideG hW0
  clear hW0 hT hO hM hP hQ
  have HSM := hideG (refSmall10_any _ _ _ _ _ V W0 HV0.out)
  have HB := HB0
  clear HB0 HV
  have HV := HV0
  clear HV0
  have p0 := BX.out.c0
  have p1 := BX.out.c1
  have p2 := BX.out.c2
  have p3 := BX.out.c3
  have p4 := BX.out.c4
  have plt := BX.out.lt
  cases hs : smallV V
  · rw [hs] at HSM
    clear hs
    go_enter Tryz.func16, Tryz.ntmps16
    go_wp2_with fail
    rw [HW0.out]
    refine (HSM.out).mono ?_
    rintro ex u2 ⟨rfl, hu2⟩
    have HBn := hideG (HB.out.trans (hu2.mono HB.out.size))
    have BXn := hideG (BX.out.below hu2)
    have HVn := hideG (HV.out.below hu2)
    clear hu2 HB BX HV
    have HB := HBn
    have BX := BXn
    have HV := HVn
    clear HBn BXn HVn
    clear p0 p1 p2 p3 p4 plt
    go_wp2_with fail
    refine (live12_any _).mono ?_
    rintro ex u3 ⟨rfl, hu3⟩
    have HF3 := hideG (HB.out.trans (hu3.mono HB.out.size))
    clear hu3
    go_wp2_with fail
    go_ret
    exact ⟨rfl, HF3.out⟩
  · rw [hs] at HSM
    obtain ⟨hS, hl, htl, _⟩ := small_facts hs
    have HS := hideG hS
    have HL := hideG hl
    have h4l : V.top.length ≤ 1000 := hl.2.2.2
    have h2l : V.modal.length ≤ 500 := hl.2.1
    clear hs hS hl
    go_enter Tryz.func16, Tryz.ntmps16
    go_wp2_with fail
    rw [HW0.out]
    clear HW0
    refine (HSM.out).mono ?_
    rintro ex u4 ⟨rfl, hu4⟩
    have HBn := hideG (HB.out.trans (hu4.mono HB.out.size))
    have BXn := hideG (BX.out.below hu4)
    have HVn := hideG (HV.out.below hu4)
    clear hu4 HB BX HV
    have HB := HBn
    have BX := BXn
    have HV := HVn
    clear HBn BXn HVn
    clear HSM
    clear p0 p1 p2 p3 p4 plt
    have p0 := BX.out.c0
    have p1 := BX.out.c1
    have p2 := BX.out.c2
    have p3 := BX.out.c3
    have p4 := BX.out.c4
    have plt := BX.out.lt
    go_wp2_with fail
    clear p0 p1 p2 p3 p4 plt
    have HC := hideG (refCheck10_any _ _ _ _ _ V _ HV.out HS.out ⟨by have := HL.out.1; omega, by omega, by have := HL.out.2.2.1; omega, h4l⟩)
    by_cases hck : checkV V = 0
    · have HMAY := hideG (check_iff.mp hck).1
      have HCK := hideG hck
      rw [hck] at HC
      refine (HC.out).mono ?_
      rintro ex u1 ⟨rfl, hu1⟩
      have HBn := hideG (HB.out.trans (hu1.mono HB.out.size))
      have BXn := hideG (BX.out.below hu1)
      have HVn := hideG (HV.out.below hu1)
      clear hu1 HB BX HV
      have HB := HBn
      have BX := BXn
      have HV := HVn
      clear HBn BXn HVn
      clear HC hck
      have p0 := BX.out.c0
      have p1 := BX.out.c1
      have p2 := BX.out.c2
      have p3 := BX.out.c3
      have p4 := BX.out.c4
      have plt := BX.out.lt
      go_wp2_with fail
      clear p0 p1 p2 p3 p4 plt
      cases hbo : bothB V.tree a b
      · refine (refBoth_any V.tree HS.out _ a b _ HV.out.tree).mono ?_
        rintro ex u5 ⟨rfl, hu5⟩
        have HBn := hideG (HB.out.trans (hu5.mono HB.out.size))
        have BXn := hideG (BX.out.below hu5)
        have HVn := hideG (HV.out.below hu5)
        clear hu5 HB BX HV
        have HB := HBn
        have BX := BXn
        have HV := HVn
        clear HBn BXn HVn
        rw [hbo]
        go_wp2_with fail
        refine (live12_any _).mono ?_
        rintro ex u6 ⟨rfl, hu6⟩
        have HF6 := hideG (HB.out.trans (hu6.mono HB.out.size))
        clear hu6
        go_wp2_with fail
        go_ret
        exact ⟨rfl, HF6.out⟩
      · have hbb := hbo
        unfold bothB at hbb
        simp only [Bool.and_eq_true, isNodeB, decide_eq_true_eq] at hbb
        obtain ⟨⟨hmay, ha0, ha1⟩, hb0, hb1⟩ := hbb
        refine (refBoth_any V.tree HS.out _ a b _ HV.out.tree).mono ?_
        rintro ex u7 ⟨rfl, hu7⟩
        have HBn := hideG (HB.out.trans (hu7.mono HB.out.size))
        have BXn := hideG (BX.out.below hu7)
        have HVn := hideG (HV.out.below hu7)
        clear hu7 HB BX HV
        have HB := HBn
        have BX := BXn
        have HV := HVn
        clear HBn BXn HVn
        rw [hbo]
        obtain ⟨m, rfl⟩ : ∃ m : Nat, a = (m : Int) := ⟨a.toNat, by omega⟩
        obtain ⟨q, rfl⟩ : ∃ q : Nat, b = (q : Int) := ⟨b.toNat, by omega⟩
        have hma : m < V.tree.length := by omega
        have hqb : q < V.tree.length := by omega
        have HKA := hideG (show knownV V (m : Int) = true by unfold knownV; simp [HCK.out]; omega)
        have HKB := hideG (show knownV V (q : Int) = true by unfold knownV; simp [HCK.out]; omega)
        have HIA := hideG (show (knownV V (m : Int) && inB V (m : Int).toNat) = inB V m by rw [HKA.out, Bool.true_and, Int.toNat_natCast])
        have HIB := hideG (show (knownV V (q : Int) && inB V (q : Int).toNat) = inB V q by rw [HKB.out, Bool.true_and, Int.toNat_natCast])
        have HLAW := hideG (fun (h1 : fabvB V.tree (m : Int) q = true) (h2 : inB V m = true) (h3 : ¬ (highV V ≠ -1 ∧ fabvB V.tree (highV V) q = true ∧ fabvB V.tree (highV V) m = false)) => in_below HMAY.out hma hqb h1 h2 h3)
        clear hbo hmay ha0 ha1 hb0 hb1
        have p0 := BX.out.c0
        have p1 := BX.out.c1
        have p2 := BX.out.c2
        have p3 := BX.out.c3
        have p4 := BX.out.c4
        have plt := BX.out.lt
        go_wp2_with fail
        clear p0 p1 p2 p3 p4 plt
        cases hab : fabvB V.tree (m : Int) q
        · refine (refAbove6_any V.tree HMAY.out HS.out _ (m : Int) q hqb _ HV.out.tree).mono ?_
          rintro ex u8 ⟨rfl, hu8⟩
          have HBn := hideG (HB.out.trans (hu8.mono HB.out.size))
          have BXn := hideG (BX.out.below hu8)
          have HVn := hideG (HV.out.below hu8)
          clear hu8 HB BX HV
          have HB := HBn
          have BX := BXn
          have HV := HVn
          clear HBn BXn HVn
          rw [hab]
          go_wp2_with fail
          refine (live12_any _).mono ?_
          rintro ex u9 ⟨rfl, hu9⟩
          have HF9 := hideG (HB.out.trans (hu9.mono HB.out.size))
          clear hu9
          go_wp2_with fail
          go_ret
          exact ⟨rfl, HF9.out⟩
        · refine (refAbove6_any V.tree HMAY.out HS.out _ (m : Int) q hqb _ HV.out.tree).mono ?_
          rintro ex u10 ⟨rfl, hu10⟩
          have HBn := hideG (HB.out.trans (hu10.mono HB.out.size))
          have BXn := hideG (BX.out.below hu10)
          have HVn := hideG (HV.out.below hu10)
          clear hu10 HB BX HV
          have HB := HBn
          have BX := BXn
          have HV := HVn
          clear HBn BXn HVn
          rw [hab]
          have p0 := BX.out.c0
          have p1 := BX.out.c1
          have p2 := BX.out.c2
          have p3 := BX.out.c3
          have p4 := BX.out.c4
          have plt := BX.out.lt
          go_wp2_with fail
          clear p0 p1 p2 p3 p4 plt
          cases hin : inB V m
          · refine (iis_any _ _ _ _ _ V (m : Int) _ HV.out HS.out HL.out).mono ?_
            rintro ex u11 ⟨rfl, hu11⟩
            have HBn := hideG (HB.out.trans (hu11.mono HB.out.size))
            have BXn := hideG (BX.out.below hu11)
            have HVn := hideG (HV.out.below hu11)
            clear hu11 HB BX HV
            have HB := HBn
            have BX := BXn
            have HV := HVn
            clear HBn BXn HVn
            rw [HIA.out, hin]
            go_wp2_with fail
            refine (live12_any _).mono ?_
            rintro ex u12 ⟨rfl, hu12⟩
            have HF12 := hideG (HB.out.trans (hu12.mono HB.out.size))
            clear hu12
            go_wp2_with fail
            go_ret
            exact ⟨rfl, HF12.out⟩
          · refine (iis_any _ _ _ _ _ V (m : Int) _ HV.out HS.out HL.out).mono ?_
            rintro ex u13 ⟨rfl, hu13⟩
            have HBn := hideG (HB.out.trans (hu13.mono HB.out.size))
            have BXn := hideG (BX.out.below hu13)
            have HVn := hideG (HV.out.below hu13)
            clear hu13 HB BX HV
            have HB := HBn
            have BX := BXn
            have HV := HVn
            clear HBn BXn HVn
            rw [HIA.out, hin]
            have p0 := BX.out.c0
            have p1 := BX.out.c1
            have p2 := BX.out.c2
            have p3 := BX.out.c3
            have p4 := BX.out.c4
            have plt := BX.out.lt
            go_wp2_with fail
            clear p0 p1 p2 p3 p4 plt
            refine (refHighest_any _ _ _ _ _ V _ HV.out ⟨by omega, by omega⟩).mono ?_
            rintro ex u14 ⟨rfl, hu14⟩
            have HBn := hideG (HB.out.trans (hu14.mono HB.out.size))
            have BXn := hideG (BX.out.below hu14)
            have HVn := hideG (HV.out.below hu14)
            clear hu14 HB BX HV
            have HB := HBn
            have BX := BXn
            have HV := HVn
            clear HBn BXn HVn
            have HLW := hideG (HLAW.out hab hin)
            clear hab hin HLAW
            by_cases hh : highV V = -1
            · have hhb : (highV V != -1) = false := by rw [hh]; rfl
              have HIN := hideG (HLW.out (fun h => h.1 hh))
              generalize highV V = hv at *
              clear HLW
              have p0 := BX.out.c0
              have p1 := BX.out.c1
              have p2 := BX.out.c2
              have p3 := BX.out.c3
              have p4 := BX.out.c4
              have plt := BX.out.lt
              go_wp2_with fail
              clear p0 p1 p2 p3 p4 plt
              refine (iis_any _ _ _ _ _ V (q : Int) _ HV.out HS.out HL.out).mono ?_
              rintro ex u15 ⟨rfl, hu15⟩
              have HBn := hideG (HB.out.trans (hu15.mono HB.out.size))
              have BXn := hideG (BX.out.below hu15)
              have HVn := hideG (HV.out.below hu15)
              clear hu15 HB BX HV
              have HB := HBn
              have BX := BXn
              have HV := HVn
              clear HBn BXn HVn
              rw [HIB.out, HIN.out]
              go_wp2_with fail
              refine (live12_any _).mono ?_
              rintro ex u16 ⟨rfl, hu16⟩
              have HF16 := hideG (HB.out.trans (hu16.mono HB.out.size))
              clear hu16
              go_wp2_with fail
              go_ret
              exact ⟨rfl, HF16.out⟩
            · have hhb : (highV V != -1) = true := by rw [bne_iff_ne]; exact hh
              have p0 := BX.out.c0
              have p1 := BX.out.c1
              have p2 := BX.out.c2
              have p3 := BX.out.c3
              have p4 := BX.out.c4
              have plt := BX.out.lt
              go_wp2_with fail
              clear p0 p1 p2 p3 p4 plt
              cases hq : fabvB V.tree (highV V) q
              · refine (refAbove6_any V.tree HMAY.out HS.out _ (highV V) q hqb _ HV.out.tree).mono ?_
                rintro ex u17 ⟨rfl, hu17⟩
                have HBn := hideG (HB.out.trans (hu17.mono HB.out.size))
                have BXn := hideG (BX.out.below hu17)
                have HVn := hideG (HV.out.below hu17)
                clear hu17 HB BX HV
                have HB := HBn
                have BX := BXn
                have HV := HVn
                clear HBn BXn HVn
                rw [hq]
                have HIN := hideG (HLW.out (fun h => by rw [hq] at h; exact absurd h.2.1 (by decide)))
                clear HLW hq
                have p0 := BX.out.c0
                have p1 := BX.out.c1
                have p2 := BX.out.c2
                have p3 := BX.out.c3
                have p4 := BX.out.c4
                have plt := BX.out.lt
                go_wp2_with fail
                clear p0 p1 p2 p3 p4 plt
                refine (iis_any _ _ _ _ _ V (q : Int) _ HV.out HS.out HL.out).mono ?_
                rintro ex u18 ⟨rfl, hu18⟩
                have HBn := hideG (HB.out.trans (hu18.mono HB.out.size))
                have BXn := hideG (BX.out.below hu18)
                have HVn := hideG (HV.out.below hu18)
                clear hu18 HB BX HV
                have HB := HBn
                have BX := BXn
                have HV := HVn
                clear HBn BXn HVn
                rw [HIB.out, HIN.out]
                go_wp2_with fail
                refine (live12_any _).mono ?_
                rintro ex u19 ⟨rfl, hu19⟩
                have HF19 := hideG (HB.out.trans (hu19.mono HB.out.size))
                clear hu19
                go_wp2_with fail
                go_ret
                exact ⟨rfl, HF19.out⟩
              · refine (refAbove6_any V.tree HMAY.out HS.out _ (highV V) q hqb _ HV.out.tree).mono ?_
                rintro ex u20 ⟨rfl, hu20⟩
                have HBn := hideG (HB.out.trans (hu20.mono HB.out.size))
                have BXn := hideG (BX.out.below hu20)
                have HVn := hideG (HV.out.below hu20)
                clear hu20 HB BX HV
                have HB := HBn
                have BX := BXn
                have HV := HVn
                clear HBn BXn HVn
                rw [hq]
                have p0 := BX.out.c0
                have p1 := BX.out.c1
                have p2 := BX.out.c2
                have p3 := BX.out.c3
                have p4 := BX.out.c4
                have plt := BX.out.lt
                go_wp2_with fail
                clear p0 p1 p2 p3 p4 plt
                cases hm : fabvB V.tree (highV V) m
                · refine (refAbove6_any V.tree HMAY.out HS.out _ (highV V) m hma _ HV.out.tree).mono ?_
                  rintro ex u21 ⟨rfl, hu21⟩
                  have HBn := hideG (HB.out.trans (hu21.mono HB.out.size))
                  have BXn := hideG (BX.out.below hu21)
                  have HVn := hideG (HV.out.below hu21)
                  clear hu21 HB BX HV
                  have HB := HBn
                  have BX := BXn
                  have HV := HVn
                  clear HBn BXn HVn
                  rw [hm]
                  go_wp2_with fail
                  refine (live12_any _).mono ?_
                  rintro ex u22 ⟨rfl, hu22⟩
                  have HF22 := hideG (HB.out.trans (hu22.mono HB.out.size))
                  clear hu22
                  go_wp2_with fail
                  go_ret
                  exact ⟨rfl, HF22.out⟩
                · refine (refAbove6_any V.tree HMAY.out HS.out _ (highV V) m hma _ HV.out.tree).mono ?_
                  rintro ex u23 ⟨rfl, hu23⟩
                  have HBn := hideG (HB.out.trans (hu23.mono HB.out.size))
                  have BXn := hideG (BX.out.below hu23)
                  have HVn := hideG (HV.out.below hu23)
                  clear hu23 HB BX HV
                  have HB := HBn
                  have BX := BXn
                  have HV := HVn
                  clear HBn BXn HVn
                  rw [hm]
                  have HIN := hideG (HLW.out (fun h => by rw [hm] at h; exact absurd h.2.2 (by decide)))
                  clear HLW hq hm
                  have p0 := BX.out.c0
                  have p1 := BX.out.c1
                  have p2 := BX.out.c2
                  have p3 := BX.out.c3
                  have p4 := BX.out.c4
                  have plt := BX.out.lt
                  go_wp2_with fail
                  clear p0 p1 p2 p3 p4 plt
                  refine (iis_any _ _ _ _ _ V (q : Int) _ HV.out HS.out HL.out).mono ?_
                  rintro ex u24 ⟨rfl, hu24⟩
                  have HBn := hideG (HB.out.trans (hu24.mono HB.out.size))
                  have BXn := hideG (BX.out.below hu24)
                  have HVn := hideG (HV.out.below hu24)
                  clear hu24 HB BX HV
                  have HB := HBn
                  have BX := BXn
                  have HV := HVn
                  clear HBn BXn HVn
                  rw [HIB.out, HIN.out]
                  go_wp2_with fail
                  refine (live12_any _).mono ?_
                  rintro ex u25 ⟨rfl, hu25⟩
                  have HF25 := hideG (HB.out.trans (hu25.mono HB.out.size))
                  clear hu25
                  go_wp2_with fail
                  go_ret
                  exact ⟨rfl, HF25.out⟩
    · have hce : ((checkV V : Int) != 0) = true := by simpa using hck
      refine (HC.out).mono ?_
      rintro ex u26 ⟨rfl, hu26⟩
      have HBn := hideG (HB.out.trans (hu26.mono HB.out.size))
      have BXn := hideG (BX.out.below hu26)
      have HVn := hideG (HV.out.below hu26)
      clear hu26 HB BX HV
      have HB := HBn
      have BX := BXn
      have HV := HVn
      clear HBn BXn HVn
      clear HC
      generalize checkV V = cv at *
      go_wp2_with fail
      refine (live12_any _).mono ?_
      rintro ex u27 ⟨rfl, hu27⟩
      have HF27 := hideG (HB.out.trans (hu27.mono HB.out.size))
      clear hu27
      go_wp2_with fail
      go_ret
      exact ⟨rfl, HF27.out⟩
end Go.Proofs.YtclhimodopgeoaaGreat

