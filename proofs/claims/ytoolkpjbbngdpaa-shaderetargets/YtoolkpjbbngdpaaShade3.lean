/- shade.Retarget. -/
import Derived.Test.YtoolkpjbbngdpaaShade2
namespace Go.Proofs.Ytoolkpjbbngdpaa
open Go.RowKit

set_option maxRecDepth 100000 in
set_option maxHeartbeats 4000000 in
theorem shadeRetarget_any (T : List Nd) (hS : Sane T) (v : Value) (a b : Int) (w : World) (hT : TreeAt w v T) (h6 : T.length ≤ 1000) :
    Calls Try.prog 56 #[v, .int .i64 a, .int .i64 b] w fun e w' => e = .returned (.int .i64 (retI T a b)) ∧ Below w.heap.size w w' := by
  have HS := hideG hS
  have HT := hideG hT
  cases hkb : knownB T [b]
  · obtain ⟨ta, tc, rfl⟩ := hT.shape
    have HU := hideG (show supI T b = [] by simp [supI, hkb])
    have HR := hideG (show retI T a b = -1 by simp [retI, hkb])
    clear hT hS hkb
    go_enter Try.func56, Try.ntmps56
    go_wp2
    refine wp_scope_jumps 0 (fun _ _ => False) (fun _ _ => 0) rfl ?_ (fun _ _ h => h.elim)
    go_wp2_with (go_at_call 57; refine (shadeUp_any T HS.out _ _ _ HT.out).mono ?_; rintro e w1 ⟨a1, c1, rfl, ho1, hb1⟩; rw [HU.out] at ho1 ⊢)
    simp only [Exit.jump]
    go_ret
    exact ⟨ret_int HR.out.symm, hb1⟩
  · obtain ⟨hm, mb, hmb, hmbl⟩ := known_one hkb
    have HM := hideG hm
    have hpos := mayB_pos hm
    obtain ⟨tb, to, tc, rfl, hct⟩ := hT.at (by omega)
    have HCT := hideG hct
    have hsl : ((supI T b).length : Int) ≠ 0 := by
      rw [supI, hkb, if_pos rfl, castL_length]; simp; omega
    have hs0 : (((supI T b).length : Int) == 0) = false := by rw [beq_eq_false_iff_ne]; exact hsl
    cases hka : knownB T [a]
    · have HQ := hideG (show topI T a = -1 by simp [topI, hka])
      have HR := hideG (show retI T a b = -1 by simp [retI, hka])
      clear hT hS hct hka hkb hm hmb
      go_enter Try.func56, Try.ntmps56
      go_wp2
      refine wp_scope_jumps 0 (fun _ _ => False) (fun _ _ => 0) rfl ?_ (fun _ _ h => h.elim)
      go_wp2_with (go_at_call 57; refine (shadeUp_any T HS.out _ _ _ HT.out).mono ?_; rintro e w1 ⟨a1, c1, rfl, ho1, hb1⟩; have HB1 := hideG hb1; clear ho1 hb1)
      go_step3
      go_wp2_with (go_at_call 44; refine (orderTop_any T HS.out _ _ _ (HT.out.below HB1.out)).mono ?_; rintro e w2 ⟨rfl, hb2⟩; rw [HQ.out])
      simp only [Exit.jump]
      go_ret
      exact ⟨ret_int HR.out.symm, HB1.out.trans (hb2.mono HB1.out.size)⟩
    · obtain ⟨_, a0, rfl, hml0⟩ := known_one hka
      have hR : retI T a0 b = (ret T (supI T b) a0 : Int) := by simp [retI, hka, hkb]
      rw [hR]
      clear hT hS hct hka hkb hm hmb hR
      go_enter Try.func56, Try.ntmps56
      go_wp2
      refine wp_scope_jumps 0 (fun a' w' => ∃ (m : Nat) (ha : Option Addr) (hc : Nat) (u8 u9 u10 u11 u12 u13 u14 u15 u16 u17 u18 u19 u20 u21 u22 u23 u24 u25 u26 u27 u28 u29 u30 u32 u33 u34 u35 u36 : Value), a' = { tmps := #[.slice (some ⟨tb, to, none⟩) T.length tc, .int .i64 (m : Int), .int .i64 b, undef, undef, undef, .int .i64 0, .slice ha (supI T b).length hc, u8, u9, u10, u11, u12, u13, u14, u15, u16, u17, u18, u19, u20, u21, u22, u23, u24, u25, u26, u27, u28, u29, u30, undef, u32, u33, u34, u35, u36], defers := [] } ∧ m < T.length ∧ IntsAt w' (.slice ha (supI T b).length hc) (supI T b) ∧ Below w.heap.size w w' ∧ ret T (supI T b) m = ret T (supI T b) a0) (fun a' _ => (upsL T (intOf (a'.tmps.getD 1 undef)).toNat).length) rfl ?_ ?_
      · go_wp2_with (go_at_call 57; refine (shadeUp_any T HS.out _ _ _ HT.out).mono ?_; rintro e w1 ⟨ha, hc, rfl, ho1, hb1⟩; have HI0 := hideG (ownsRow_ints ho1); have HB0 := hideG hb1; clear ho1 hb1)
        go_step3
        have hml := hml0
        obtain ⟨htl, _, hspl⟩ := sup_split HM.out hml
        have HQ := hideG (show topI T (a0 : Int) = (topN T a0 : Int) by unfold topI; rw [known_of HM.out hml, if_pos rfl, Int.toNat_natCast])
        obtain ⟨kv, av, hN⟩ := HCT.out (topN T a0) htl
        have gk := cell_below HB0.out hN.kind
        have gh := cell_below HB0.out hN.host
        clear hN
        have hne : ((topN T a0 : Int) == -1) = false := by simp
        have hl := supI_len T b
        cases hk : ((nd T (topN T a0)).kind != 3)
        · cases hcn : containsB (supI T b) (topN T a0 : Int)
          · rcases hspl with ⟨h3, _⟩ | ⟨h3, g, hgl, hh, heq⟩
            · exact absurd h3 (by simpa using hk)
            · have HST := hideG (ret_step HM.out (H := supI T b) (by rw [hk, hcn]; rfl) hgl hh (upsL_host heq))
              have HL := hideG (upsL_host heq)
              rw [hh] at gh
              clear h3 hh heq
              go_wp2_with (first | (go_at_call 44; refine (orderTop_any T HS.out _ _ _ (HT.out.below HB0.out)).mono ?_; rintro e w1 ⟨rfl, hb1⟩; rw [HQ.out]; have gk1 := cell_below hb1 gk; have gh1 := cell_below hb1 gh; have HI1 := hideG (HI0.out.below hb1); have HB1 := hideG (HB0.out.trans (hb1.mono HB0.out.size)); clear hb1) | (go_at_call 89; refine (contains_any (supI T b) _ _ _ HI1.out (by omega)).mono ?_; rintro e w2 ⟨rfl, hw⟩; subst hw))
              go_step3
              exact ⟨rfl, g, ha, hc, _, _, _, _, _, _, _, _, _, _, _, _, _, _, _, _, _, _, _, _, _, _, _, _, _, _, _, _, rfl, hgl, HI1.out, HB1.out, HST.out.symm⟩
          · have HST := hideG (ret_stop (T := T) (H := supI T b) (a := a0) (by rw [hk, hcn]; rfl))
            clear hspl
            go_wp2_with (first | (go_at_call 44; refine (orderTop_any T HS.out _ _ _ (HT.out.below HB0.out)).mono ?_; rintro e w1 ⟨rfl, hb1⟩; rw [HQ.out]; have gk1 := cell_below hb1 gk; have gh1 := cell_below hb1 gh; have HI1 := hideG (HI0.out.below hb1); have HB1 := hideG (HB0.out.trans (hb1.mono HB0.out.size)); clear hb1) | (go_at_call 89; refine (contains_any (supI T b) _ _ _ HI1.out (by omega)).mono ?_; rintro e w2 ⟨rfl, hw⟩; subst hw))
            simp only [Exit.jump]
            go_ret
            exact ⟨ret_int (by rw [HST.out]), HB1.out⟩
        · have HST := hideG (ret_stop (T := T) (H := supI T b) (a := a0) (by rw [hk]; rfl))
          clear hspl
          go_wp2_with (first | (go_at_call 44; refine (orderTop_any T HS.out _ _ _ (HT.out.below HB0.out)).mono ?_; rintro e w1 ⟨rfl, hb1⟩; rw [HQ.out]; have gk1 := cell_below hb1 gk; have gh1 := cell_below hb1 gh; have HI1 := hideG (HI0.out.below hb1); have HB1 := hideG (HB0.out.trans (hb1.mono HB0.out.size)); clear hb1) | (go_at_call 89; refine (contains_any (supI T b) _ _ _ HI1.out (by omega)).mono ?_; rintro e w2 ⟨rfl, hw⟩; subst hw))
          simp only [Exit.jump]
          go_ret
          exact ⟨ret_int (by rw [HST.out]), HB1.out⟩
      · rintro a' w' ⟨m, ha, hc, u8, u9, u10, u11, u12, u13, u14, u15, u16, u17, u18, u19, u20, u21, u22, u23, u24, u25, u26, u27, u28, u29, u30, u32, u33, u34, u35, u36, rfl, hml, hI, hB, hE⟩
        have HI0 := hideG hI
        have HB0 := hideG hB
        have HE := hideG hE
        clear hI hB hE
        obtain ⟨htl, _, hspl⟩ := sup_split HM.out hml
        have HQ := hideG (show topI T (m : Int) = (topN T m : Int) by unfold topI; rw [known_of HM.out hml, if_pos rfl, Int.toNat_natCast])
        obtain ⟨kv, av, hN⟩ := HCT.out (topN T m) htl
        have gk := cell_below HB0.out hN.kind
        have gh := cell_below HB0.out hN.host
        clear hN
        have hne : ((topN T m : Int) == -1) = false := by simp
        have hl := supI_len T b
        cases hk : ((nd T (topN T m)).kind != 3)
        · cases hcn : containsB (supI T b) (topN T m : Int)
          · rcases hspl with ⟨h3, _⟩ | ⟨h3, g, hgl, hh, heq⟩
            · exact absurd h3 (by simpa using hk)
            · have HST := hideG (ret_step HM.out (H := supI T b) (by rw [hk, hcn]; rfl) hgl hh (upsL_host heq))
              have HL := hideG (upsL_host heq)
              rw [hh] at gh
              clear h3 hh heq
              go_wp2_with (first | (go_at_call 44; refine (orderTop_any T HS.out _ _ _ (HT.out.below HB0.out)).mono ?_; rintro e w1 ⟨rfl, hb1⟩; rw [HQ.out]; have gk1 := cell_below hb1 gk; have gh1 := cell_below hb1 gh; have HI1 := hideG (HI0.out.below hb1); have HB1 := hideG (HB0.out.trans (hb1.mono HB0.out.size)); clear hb1) | (go_at_call 89; refine (contains_any (supI T b) _ _ _ HI1.out (by omega)).mono ?_; rintro e w2 ⟨rfl, hw⟩; subst hw))
              go_step3
              exact ⟨rfl, ⟨g, ha, hc, _, _, _, _, _, _, _, _, _, _, _, _, _, _, _, _, _, _, _, _, _, _, _, _, _, _, _, _, rfl, hgl, HI1.out, HB1.out, HST.out.symm.trans HE.out⟩, by simpa [intOf] using HL.out⟩
          · have HST := hideG (ret_stop (T := T) (H := supI T b) (a := m) (by rw [hk, hcn]; rfl))
            clear hspl
            go_wp2_with (first | (go_at_call 44; refine (orderTop_any T HS.out _ _ _ (HT.out.below HB0.out)).mono ?_; rintro e w1 ⟨rfl, hb1⟩; rw [HQ.out]; have gk1 := cell_below hb1 gk; have gh1 := cell_below hb1 gh; have HI1 := hideG (HI0.out.below hb1); have HB1 := hideG (HB0.out.trans (hb1.mono HB0.out.size)); clear hb1) | (go_at_call 89; refine (contains_any (supI T b) _ _ _ HI1.out (by omega)).mono ?_; rintro e w2 ⟨rfl, hw⟩; subst hw))
            simp only [Exit.jump]
            go_ret
            exact ⟨ret_int (by rw [← HE.out, HST.out]), HB1.out⟩
        · have HST := hideG (ret_stop (T := T) (H := supI T b) (a := m) (by rw [hk]; rfl))
          clear hspl
          go_wp2_with (first | (go_at_call 44; refine (orderTop_any T HS.out _ _ _ (HT.out.below HB0.out)).mono ?_; rintro e w1 ⟨rfl, hb1⟩; rw [HQ.out]; have gk1 := cell_below hb1 gk; have gh1 := cell_below hb1 gh; have HI1 := hideG (HI0.out.below hb1); have HB1 := hideG (HB0.out.trans (hb1.mono HB0.out.size)); clear hb1) | (go_at_call 89; refine (contains_any (supI T b) _ _ _ HI1.out (by omega)).mono ?_; rintro e w2 ⟨rfl, hw⟩; subst hw))
          simp only [Exit.jump]
          go_ret
          exact ⟨ret_int (by rw [← HE.out, HST.out]), HB1.out⟩
end Go.Proofs.Ytoolkpjbbngdpaa
