/- SlotsNamed, walked. -/
import Derived.Test.YtahnkhgaopaaoaaS5Val
namespace Go.Proofs.Ytahnkhgaopaaoaa
open Go.RowKit

theorem first_any {nm : Int} : ∀ (l : List (Int × Int)), (firstL nm l).2 = l.any fun a => a.1 == nm
  | [] => rfl
  | a :: l => by
    have ih := first_any (nm := nm) l
    cases h : (a.1 == nm) <;> simp [firstL, h, ih]
theorem man_any {T : List Nd} (hm : mayB T = true) {r : Nat} (hr : r < T.length) : manB T (r : Int) = (nd T r).attrs.any fun a => a.1 == 8 := by
  unfold manB
  rw [getL_ok hm hr, ← first_look (may_attrs hm hr), first_any]
theorem name_first {T : List Nd} (hm : mayB T = true) {n : Nat} (hn : n < T.length) : nameI T (n : Int) = (firstL 4 (nd T n).attrs).1 := by
  unfold nameI
  rw [getL_ok hm hn, ← first_look (may_attrs hm hn)]
theorem any_take {l : List (Int × Int)} {k : Nat} (h : k < l.length) (p : Int × Int → Bool) : (l.take (k + 1)).any p = ((l.take k).any p || p (l.getD k (0, 0))) := by
  rw [List.take_succ_eq_append_getElem h, List.any_append]
  simp [List.getD_eq_getElem?_getD, List.getElem?_eq_getElem h]

set_option maxRecDepth 100000 in
set_option maxHeartbeats 8000000 in
theorem slotsNamed_yes (T : List Nd) (tb to tc : Nat) (r : Nat) (w : World) (hT : TreeAt w (.slice (some ⟨tb, to, none⟩) T.length tc) T) (hs : fewB T = true) (hab : bothB T (r : Int) (r : Int) = true) (hk3 : (nd T r).kind = 3) :
    Calls Try.prog 3 #[.slice (some ⟨tb, to, none⟩) T.length tc, .int .i64 (r : Int)] w fun e w' => e = .returned (.bool true) ∧ Below w.heap.size w w' := by
  obtain ⟨hm, ⟨n', en, hr⟩, _⟩ := both_true hab
  obtain rfl : r = n' := by omega
  have hpos := mayB_pos hm
  have HT0 := hideG hT
  have HSN := small_sane (few_small hs)
  have HS := hideG HSN
  have HM := hideG hm
  have EB := hideG hab
  have E1 := hideG (all_root hm hr hk3)
  have hr0 : (0 : Int) ≤ (r : Int) := by omega
  have hsl := slotsN_le hm hr
  have HMAN := hideG (man_any hm hr)
  have hal := (HSN r hr).2
  have HLAT := hideG (show manB T (r : Int) = false → ∀ i k, k < i → i < (slotsN T r).length → (slotsN T r).getD i 0 < T.length ∧ (slotsN T r).getD k 0 < T.length ∧ ((firstL 4 (nd T ((slotsN T r).getD i 0)).attrs).1 = (firstL 4 (nd T ((slotsN T r).getD k 0)).attrs).1 → asgI T (((slotsN T r).getD i 0 : Nat) : Int) = []) from fun hman i k hki hi => by
    have h1 : ∀ j, j < (slotsN T r).length → (slotsN T r).getD j 0 < T.length := fun j hj => (forest3 hm).d_lt hr (List.mem_filter.mp (getD_mem hj)).1
    refine ⟨h1 i hi, h1 k (by omega), fun e => asg_later hm hr hk3 hman hki hi ?_⟩
    rw [name_first hm (h1 i hi), name_first hm (h1 k (by omega)), e])
  have HAL := hideG (show ∀ n, n < T.length → (nd T n).attrs.length ≤ 1000000 from fun n hn => (HSN n hn).2)
  clear hT hm en hab HSN
  go_enter Try.func3, Try.ntmps3
  go_wp2_with fail
  refine (refFew_any T _ _ HT0.out).mono ?_
  rintro e wz ⟨rfl, hwz⟩
  obtain rfl : _ = wz := hwz.symm
  go_wp2_with fail
  refine (refBoth_any T HS.out _ _ _ _ HT0.out).mono ?_
  rintro e w1 ⟨rfl, hb1⟩
  rw [EB.out]
  have HT1 := hideG (HT0.out.below hb1)
  have HB1 := hideG hb1
  clear hb1
  go_wp2_with fail
  refine (slotsAll_any T HS.out _ _ _ HT1.out).mono ?_
  rintro e w2 ⟨a2, c2, rfl, ho2, hb2⟩
  rw [E1.out] at ho2 ⊢
  have HL2 := hideG (ownsRow_ints ho2)
  have HT2 := hideG (HT1.out.below hb2)
  have HB2 := hideG (HB1.out.trans (hb2.mono HB1.out.size))
  clear ho2 hb2
  have hcl : (castL (slotsN T r)).length = (slotsN T r).length := castL_length _
  have HKC : Hid (0 < (castL (slotsN T r)).length → ∃ b off, a2 = some ⟨b, off, none⟩ ∧ ∀ j, j < (slotsN T r).length → w2.cell? ⟨b, off + j, none⟩ = some (.int .i64 (((slotsN T r).getD j 0 : Nat) : Int))) := by
    obtain ⟨a', cap', hv', hd'⟩ := HL2.out
    simp only [Value.slice.injEq, true_and] at hv'
    obtain ⟨rfl, rfl⟩ := hv'
    intro h0
    obtain ⟨b, off, e, hd⟩ := hd' h0
    exact ⟨b, off, e, fun j hj => by rw [hd j (by omega), castL_getD _ hj]⟩
  rw [hcl] at HKC ⊢
  obtain ⟨tb', to', tc', htv, hct⟩ := HT2.out.at (by omega)
  simp only [Value.slice.injEq, Option.some.injEq, Addr.mk.injEq, and_true, true_and] at htv
  obtain ⟨⟨rfl, rfl⟩, rfl⟩ := htv
  have HCT := hideG hct
  obtain ⟨kv, av, hN⟩ := hct r hr
  have g0 := hN.kind
  rw [hk3] at g0
  have G6 := hideG hN.attrsc
  obtain ⟨aa, ac, hav, had⟩ := hN.attrs
  subst hav
  have HAD := hideG had
  have g6 := G6.out
  clear hct hN had hcl
  generalize (nd T r).attrs = al at *
  generalize hSL : slotsN T r = SL at *
  clear hSL
  go_wp2_with fail
  go_loopw [6, 7] (fun mv i wr => ∃ k : Nat, k ≤ al.length ∧ mv = .bool ((al.take k).any fun a => a.1 == 8) ∧ i = .int .i64 k ∧ Below w2.heap.size w2 wr) (fun _ i _ => al.length - (intOf i).toNat)
  case atStart => exact ⟨0, Nat.zero_le _, by simp, rfl, Below.refl _ _⟩
  case round =>
    obtain ⟨k, hk, rfl, rfl, hB⟩ := hrel
    have HBk := hideG hB
    clear hB g0 g6
    have g6 := cell_below HBk.out G6.out
    by_cases hlt : k < al.length
    · obtain ⟨ab, aoff, rfl, hdd⟩ := HAD.out (by omega)
      have ca := cell_below HBk.out (hdd k hlt).1
      have HAT := hideG (any_take hlt (fun a => a.1 == 8))
      have hk0 : (0 : Int) ≤ (k : Int) := by omega
      clear hdd
      generalize al.getD k (0, 0) = A at *
      obtain ⟨A1, A2⟩ := A
      dsimp only at ca
      cases hany : ((al.take k).any fun a => a.1 == 8)
      · rw [hany] at HAT
        cases h8 : (A1 == 8)
        · have HRES := hideG (show (false : Bool) = (al.take (k + 1)).any fun a => a.1 == 8 by rw [HAT.out]; simp [h8])
          clear hany
          go_wp2_with fail
          go_roundw
          case rel => exact ⟨k + 1, by omega, congrArg Value.bool HRES.out, by go_num, HBk.out⟩
          case measure => simp [intOf]; omega
        · have HRES := hideG (show (true : Bool) = (al.take (k + 1)).any fun a => a.1 == 8 by rw [HAT.out]; simp [h8])
          clear hany
          go_wp2_with fail
          go_roundw
          case rel => exact ⟨k + 1, by omega, congrArg Value.bool HRES.out, by go_num, HBk.out⟩
          case measure => simp [intOf]; omega
      · have HRES := hideG (show (true : Bool) = (al.take (k + 1)).any fun a => a.1 == 8 by rw [HAT.out, hany]; rfl)
        clear hany
        go_wp2_with fail
        go_roundw
        case rel => exact ⟨k + 1, by omega, congrArg Value.bool HRES.out, by go_num, HBk.out⟩
        case measure => simp [intOf]; omega
    · have hke : al.take k = al := List.take_of_length_le (by omega)
      rw [hke]
      cases hman : (al.any fun a => a.1 == 8)
      · rw [hman] at HMAN
        have HLA := hideG (HLAT.out HMAN.out)
        clear hman
        go_wp2_with fail
        go_loopw [8] (fun i wr => ∃ p : Nat, p ≤ SL.length ∧ i = .int .i64 p ∧ Below w2.heap.size w2 wr) (fun i _ => SL.length - (intOf i).toNat)
        case atStart => exact ⟨0, Nat.zero_le _, rfl, HBk.out⟩
        case round =>
          obtain ⟨p, hp, rfl, hBp⟩ := hrel
          have HBp := hideG hBp
          clear hBp g6
          by_cases hltp : p < SL.length
          · go_wp2_with fail
            go_loopw [9] (fun i wr => ∃ q : Nat, q ≤ p ∧ i = .int .i64 q ∧ Below w2.heap.size w2 wr) (fun i _ => p - (intOf i).toNat)
            case atStart => exact ⟨0, Nat.zero_le _, rfl, HBp.out⟩
            case round =>
              obtain ⟨q, hq, rfl, hBq⟩ := hrel
              have HBR := hideG hBq
              have HTq := hideG (HT2.out.below hBq)
              clear hBq
              by_cases hltq : q < p
              · obtain ⟨gb, goff, rfl, hdd⟩ := HKC.out (by omega)
                have ci := cell_below HBR.out (hdd p hltp)
                have cq := cell_below HBR.out (hdd q (by omega))
                obtain ⟨hsi, hsk, hnm⟩ := HLA.out p q hltq hltp
                obtain ⟨kv1, av1, hN1⟩ := HCT.out _ hsi
                obtain ⟨kv2, av2, hN2⟩ := HCT.out _ hsk
                have hl1 := HAL.out _ hsi
                have hl2 := HAL.out _ hsk
                clear hdd
                generalize SL.getD p 0 = si at *
                generalize SL.getD q 0 = sk at *
                replace hN1 := hN1.below HBR.out
                replace hN2 := hN2.below HBR.out
                generalize nd T si = X1 at *
                generalize nd T sk = X2 at *
                obtain ⟨ka1, kc1, hkv1⟩ := hN1.kids.shape
                subst hkv1
                obtain ⟨ka2, kc2, hkv2⟩ := hN2.kids.shape
                subst hkv2
                have hat1 := hN1.attrs
                have hat2 := hN2.attrs
                obtain ⟨aa1, ac1, hav1, _⟩ := hN1.attrs
                subst hav1
                obtain ⟨aa2, ac2, hav2, _⟩ := hN2.attrs
                subst hav2
                have d0 := hN1.kind
                have d1 := hN1.tag
                have d2 := hN1.parent
                have d3 := hN1.kidsc
                have d4 := hN1.host
                have d5 := hN1.root
                have d6 := hN1.attrsc
                have f0 := hN2.kind
                have f1 := hN2.tag
                have f2 := hN2.parent
                have f3 := hN2.kidsc
                have f4 := hN2.host
                have f5 := hN2.root
                have f6 := hN2.attrsc
                clear hN1 hN2
                have hsi0 : (0 : Int) ≤ (si : Int) := by omega
                have hsk0 : (0 : Int) ≤ (sk : Int) := by omega
                have hp0 : (0 : Int) ≤ (p : Int) := by omega
                have hq0 : (0 : Int) ≤ (q : Int) := by omega
                have hpi : (p : Int) < (SL.length : Int) := by omega
                have hqi : (q : Int) < (SL.length : Int) := by omega
                have hsil : (si : Int) < (T.length : Int) := by omega
                have hskl : (sk : Int) < (T.length : Int) := by omega
                have hqp : (q : Int) < (p : Int) := by omega
                have hgb : gb < wr.heap.size := below_of_cell ci
                have htb : tb < wr.heap.size := below_of_cell d0
                have HV := hideG (show ∀ U (x : Nd) (kv av : Value), Below wr.heap.size wr U → AttrsAt wr av x.attrs → x.attrs.length ≤ 1000000 → Calls Try.prog 19 #[.agg #[.int .i64 x.kind, .int .i64 x.tag, .int .i64 x.parent, kv, .int .i64 x.host, .int .i64 x.root, av]] U (fun e w' => e = .returned (.int .i64 (firstL 4 x.attrs).1) ∧ Below wr.heap.size wr w') from fun U x kv av hU ha hl => by
                  refine (value5_any x kv av U (ha.below hU) hl).mono ?_
                  rintro e w' ⟨rfl, hb⟩
                  exact ⟨rfl, hU.trans (hb.mono hU.size)⟩)
                cases heq : ((firstL 4 X1.attrs).1 == (firstL 4 X2.attrs).1)
                · clear hnm
                  have hcc : ∀ (d : Calm wr) (b o : Nat), b < wr.heap.size → d.to.cell? ⟨b, o, none⟩ = wr.cell? ⟨b, o, none⟩ := calmCell
                  go_wp2_with fail
                  refine wp_region_calm (by kernel_rfl) (by kernel_rfl) ?_
                  repeat (go_big_quiet_step (first | (go_at_call 19; refine Calls.mono (HV.out _ _ _ _ (Calm.below _) (by assumption) (by assumption)) ?_; rintro e w1 ⟨rfl, hb⟩; exact ⟨rfl, ⟨w1, hb⟩, rfl⟩)))
                  refine wpQuiet_nil ?_
                  intro _ hw'
                  obtain ⟨dq, hw''⟩ := hw'
                  subst hw''
                  have HB9 := hideG dq.below
                  generalize dq.to = wd at *
                  clear dq hcc
                  go_wp2_with fail
                  go_roundw
                  case rel => exact ⟨q + 1, by omega, by go_num, HBR.out.trans (HB9.out.mono HBR.out.size)⟩
                  case measure => simp [intOf]; omega
                · have HASG := hideG (hnm (by simpa using heq))
                  clear hnm
                  have HAS := hideG (show ∀ U, Below wr.heap.size wr U → Calls Try.prog 20 #[.slice (some ⟨tb, to, none⟩) T.length tc, .int .i64 (si : Int)] U (fun e w' => ∃ a c, e = .returned (.slice a 0 c) ∧ Below wr.heap.size wr w') from fun U hU => by
                    refine (assigned_any T HS.out _ _ _ (HTq.out.below hU)).mono ?_
                    rw [HASG.out]
                    rintro e w' ⟨a, c, rfl, _, hb⟩
                    exact ⟨a, c, rfl, hU.trans (hb.mono hU.size)⟩)
                  go_wp2_with fail
                  go_region_held3 (fun w' => Below wr.heap.size wr w' ∧ w'.cell? ⟨gb, goff + p, none⟩ = some (.int .i64 (si : Int)) ∧ w'.cell? ⟨gb, goff + q, none⟩ = some (.int .i64 (sk : Int)) ∧ w'.cell? ⟨tb, to + si * 7, none⟩ = some (.int .i64 X1.kind) ∧ w'.cell? ⟨tb, to + si * 7 + 1, none⟩ = some (.int .i64 X1.tag) ∧ w'.cell? ⟨tb, to + si * 7 + 2, none⟩ = some (.int .i64 X1.parent) ∧ w'.cell? ⟨tb, to + si * 7 + 3, none⟩ = some (.slice ka1 X1.kids.length kc1) ∧ w'.cell? ⟨tb, to + si * 7 + 4, none⟩ = some (.int .i64 X1.host) ∧ w'.cell? ⟨tb, to + si * 7 + 5, none⟩ = some (.int .i64 X1.root) ∧ w'.cell? ⟨tb, to + si * 7 + 6, none⟩ = some (.slice aa1 X1.attrs.length ac1) ∧ w'.cell? ⟨tb, to + sk * 7, none⟩ = some (.int .i64 X2.kind) ∧ w'.cell? ⟨tb, to + sk * 7 + 1, none⟩ = some (.int .i64 X2.tag) ∧ w'.cell? ⟨tb, to + sk * 7 + 2, none⟩ = some (.int .i64 X2.parent) ∧ w'.cell? ⟨tb, to + sk * 7 + 3, none⟩ = some (.slice ka2 X2.kids.length kc2) ∧ w'.cell? ⟨tb, to + sk * 7 + 4, none⟩ = some (.int .i64 X2.host) ∧ w'.cell? ⟨tb, to + sk * 7 + 5, none⟩ = some (.int .i64 X2.root) ∧ w'.cell? ⟨tb, to + sk * 7 + 6, none⟩ = some (.slice aa2 X2.attrs.length ac2)) (refine ⟨?_, ?_, ?_, ?_, ?_, ?_, ?_, ?_, ?_, ?_, ?_, ?_, ?_, ?_, ?_, ?_, ?_⟩ <;> first | assumption | exact below_drew' (Below.refl _ _) | exact below_drew' (by assumption) | exact cell_below (by assumption) (by assumption) | go_keep) (first | (go_at_call 19; refine Calls.mono (HV.out _ _ _ _ (by first | assumption | exact below_drew' (Below.refl _ _) | exact below_drew' (by assumption)) (by assumption) (by assumption)) ?_; rintro e w' ⟨rfl, hb1⟩) | (go_at_call 20; refine Calls.mono (HAS.out _ (by first | assumption | exact below_drew' (by assumption))) ?_; rintro e w' ⟨ax, cx, rfl, hb2⟩))
                  have HB9 : Hid (Below wr.heap.size wr w') := by show Below _ _ _; assumption
                  go_wp2_with fail
                  go_roundw
                  case rel => exact ⟨q + 1, by omega, by go_num, HBR.out.trans (HB9.out.mono HBR.out.size)⟩
                  case measure => simp [intOf]; omega
              · go_wp2_with fail
                go_roundw
                case rel => exact ⟨p + 1, by omega, by go_num, HBR.out⟩
                case measure => simp [intOf]; omega
          · have HBE := hideG (HB2.out.trans (HBp.out.mono HB2.out.size))
            go_wp2_with fail
            refine (live5_any _).mono ?_
            rintro e w6 ⟨rfl, hb6⟩
            have HB6 := hideG (HBE.out.trans (hb6.mono HBE.out.size))
            clear hb6
            go_wp2_with fail
            go_ret
            exact ⟨rfl, HB6.out⟩
      · clear hman
        have HBE := hideG (HB2.out.trans (HBk.out.mono HB2.out.size))
        by_cases hl0 : (0 : Int) < (SL.length : Int)
        · go_wp2_with fail
          go_loopw [8] (fun i wr => i = .int .i64 0 ∧ Below w.heap.size w wr) (fun i _ => 0)
          case atStart => exact ⟨rfl, HBE.out⟩
          case round =>
            obtain ⟨rfl, hBz⟩ := hrel
            have HBZ := hideG hBz
            clear hBz
            go_wp2_with fail
            refine (live5_any _).mono ?_
            rintro e w6 ⟨rfl, hb6⟩
            have HB6 := hideG (HBZ.out.trans (hb6.mono HBZ.out.size))
            clear hb6
            go_wp2_with fail
            go_ret
            exact ⟨rfl, HB6.out⟩
        · go_wp2_with fail
          go_loopw [8] (fun i wr => i = .int .i64 0 ∧ Below w.heap.size w wr) (fun i _ => 0)
          case atStart => exact ⟨rfl, HBE.out⟩
          case round =>
            obtain ⟨rfl, hBz⟩ := hrel
            have HBZ := hideG hBz
            clear hBz
            go_wp2_with fail
            refine (live5_any _).mono ?_
            rintro e w6 ⟨rfl, hb6⟩
            have HB6 := hideG (HBZ.out.trans (hb6.mono HBZ.out.size))
            clear hb6
            go_wp2_with fail
            go_ret
            exact ⟨rfl, HB6.out⟩

set_option maxRecDepth 100000 in
set_option maxHeartbeats 4000000 in
theorem slotsNamed_walk (T : List Nd) (v : Value) (n : Int) (w : World) (hT : TreeAt w v T) :
    Calls Try.prog 3 #[v, .int .i64 n] w fun e w' => e = .returned (.bool true) ∧ Below w.heap.size w w' := by
  cases hs : fewB T
  · obtain ⟨ta, tc, rfl⟩ := hT.shape
    have HT := hideG hT
    clear hT
    go_enter Try.func3, Try.ntmps3
    go_wp2_with (first | (go_at_call 15; refine (refFew_any T _ _ HT.out).mono ?_; rintro e w1 ⟨rfl, rfl⟩) | (go_at_call 17; refine (live5_any _).mono ?_; rintro e w2 ⟨rfl, hb2⟩))
    go_ret
    exact ⟨rfl, hb2⟩
  · have HS := hideG (small_sane (few_small hs))
    cases hab : bothB T n n
    · obtain ⟨ta, tc, rfl⟩ := hT.shape
      have HT := hideG hT
      clear hT
      go_enter Try.func3, Try.ntmps3
      go_wp2_with (first | (go_at_call 15; refine (refFew_any T _ _ HT.out).mono ?_; rintro e w1 ⟨rfl, hw⟩; subst hw) | (go_at_call 16; refine (refBoth_any T HS.out _ _ _ _ HT.out).mono ?_; rintro e w1 ⟨rfl, hb1⟩; have HB1 := hideG hb1; clear hb1) | (go_at_call 17; refine (live5_any _).mono ?_; rintro e w2 ⟨rfl, hb2⟩; have HB2 := hideG (HB1.out.trans (hb2.mono HB1.out.size)); clear hb2))
      go_ret
      exact ⟨rfl, HB2.out⟩
    · obtain ⟨hm, ⟨n', en, hn⟩, _⟩ := both_true hab
      subst en
      obtain ⟨tb, to, tc, rfl, hct⟩ := hT.at (by omega)
      by_cases hk3 : (nd T n').kind = 3
      · exact slotsNamed_yes T tb to tc n' w hT hs hab hk3
      · have hkb : ((nd T n').kind == 3) = false := by simpa using hk3
        have hkn : ((nd T n').kind != 3) = true := by rw [bne, hkb]; rfl
        have E1 := hideG (show allI T (n' : Int) = [] by unfold allI; rw [Int.toNat_natCast, hkb, Bool.and_false]; rfl)
        obtain ⟨kv, av, hN⟩ := hct n' hn
        have G0 := hideG hN.kind
        have HT := hideG hT
        have hn0 : (0 : Int) ≤ (n' : Int) := by omega
        clear hT hct hN hm hk3
        go_enter Try.func3, Try.ntmps3
        go_wp2_with fail
        refine (refFew_any T _ _ HT.out).mono ?_
        rintro e wz ⟨rfl, hwz⟩
        subst hwz
        go_wp2_with fail
        refine (refBoth_any T HS.out _ _ _ _ HT.out).mono ?_
        rintro e w1 ⟨rfl, hb1⟩
        have HT1 := hideG (HT.out.below hb1)
        have HB1 := hideG hb1
        clear hb1
        go_wp2_with fail
        refine (slotsAll_any T HS.out _ _ _ HT1.out).mono ?_
        rintro e w2 ⟨a2, c2, rfl, ho2, hb2⟩
        rw [E1.out]
        have HB2 := hideG (HB1.out.trans (hb2.mono HB1.out.size))
        have g0 := cell_below HB2.out G0.out
        clear ho2 hb2
        go_wp2_with fail
        refine (live5_any _).mono ?_
        rintro e w6 ⟨rfl, hb6⟩
        have HB6 := hideG (HB2.out.trans (hb6.mono HB2.out.size))
        clear hb6
        go_wp2_with fail
        go_ret
        exact ⟨rfl, HB6.out⟩
end Go.Proofs.Ytahnkhgaopaaoaa
