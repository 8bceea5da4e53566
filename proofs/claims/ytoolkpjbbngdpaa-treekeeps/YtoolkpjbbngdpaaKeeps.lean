/- TreeKeeps, walked. -/
import Derived.Deep.RegionWith
import Derived.Test.YtoolkpjbbngdpaaStays
import Derived.Test.YtoolkpjbbngdpaaOnce
namespace Go.Proofs.Ytoolkpjbbngdpaa
open Go.RowKit

/-- What a call may have made of a tree: nothing, or one with the same nodes, but for places. -/
def KeepP (T U : List Nd) : Prop := U.length = 0 ∨ (T.length ≤ U.length ∧ ∀ i, i < T.length → { nd U i with parent := (nd T i).parent, kids := (nd T i).kids } = nd T i)
theorem keep_refl (T : List Nd) : KeepP T T := .inr ⟨Nat.le_refl _, fun _ _ => rfl⟩
theorem keep_nil (T : List Nd) : KeepP T [] := .inl rfl
theorem keep_same {T U : List Nd} (h : SameBut T U) : KeepP T U := .inr ⟨by rw [h.len]; exact Nat.le_refl _, fun i hi => by
  obtain ⟨h1, h2, h3, h4, h5⟩ := h.at_ i hi
  cases hU : nd U i
  cases hT : nd T i
  rw [hU, hT] at h1 h2 h3 h4 h5
  simp only at h1 h2 h3 h4 h5
  simp [h1, h2, h3, h4, h5]⟩
theorem keep_insert (T : List Nd) (p c b : Int) : KeepP T (insertR T p c b) := by
  by_cases h1 : insertE T p c b = 1
  · rw [insertR_one h1]; exact keep_nil T
  · by_cases h0 : insertE T p c b = 0
    · have hm : mayB T = true := by
        cases e : mayB T
        · exact absurd (by simp only [insertE, e, Bool.false_eq_true, if_false]) h1
        · rfl
      have hF : insertF T p c b = 0 := by simpa only [insertE, hm, if_true] using h0
      rw [insertR_zero h0]
      obtain ⟨p, c, rfl, rfl, _⟩ := insertF_zero hF
      rw [Int.toNat_natCast, Int.toNat_natCast]
      exact keep_same (fine_insert (mayB_fine hm) hF).2
    · rw [insertR_else h1 h0]; exact keep_refl T
theorem keep_remove (T : List Nd) (c : Int) : KeepP T (removeR T c) := by
  by_cases h1 : removeE T c = 1
  · rw [removeR_one h1]; exact keep_nil T
  · by_cases h0 : removeE T c = 0
    · have hm : mayB T = true := by
        cases e : mayB T
        · exact absurd (by simp only [removeE, e, Bool.false_eq_true, if_false]) h1
        · rfl
      rw [removeR_zero h0]
      cases hi : isNodeB T.length c
      · simp only [removeE, hm, hi, Bool.false_eq_true, if_false, if_true] at h0
        exact absurd h0 (by decide)
      · obtain ⟨c, rfl, hc⟩ := isNodeB_true hi
        rw [Int.toNat_natCast]
        exact keep_same (takeL_same hc (fine_placed (mayB_fine hm) hc))
    · rw [removeR_else h1 h0]; exact keep_refl T
theorem keep_make (T : List Nd) (k t : Int) : KeepP T (makeR T k t) := by
  unfold makeR
  split
  · exact keep_nil T
  · split
    · exact .inr ⟨by simp, fun i hi => by rw [nd_snoc_lt T _ hi]⟩
    · exact keep_refl T

set_option maxRecDepth 100000 in
set_option maxHeartbeats 4000000 in
theorem keeps_walk (T : List Nd) (v : Value) (p c b : Int) (w : World) (hT : TreeAt w v T) :
    Calls Try.prog 8 #[v, .agg #[.int .i64 p, .int .i64 c, .int .i64 b]] w fun e w' => e = .returned (.bool true) ∧ Below w.heap.size w w' := by
  have HA := hideG ((Below.refl _ w).alloc (Nat.le_refl _) (.cells #[.int .i64 p, .int .i64 c, .int .i64 b] 33))
  have HT0 := hideG hT
  have HT := hideG (hT.below HA.out)
  obtain ⟨a, cap, rfl⟩ := hT.shape
  clear hT
  cases hs : smallB T
  · go_enter Try.func8, Try.ntmps8
    go_wp2_with (first | (go_at_call 19; refine (refSmall_any T _ _ HT.out).mono ?_; rintro e w1 ⟨rfl, rfl⟩) | (go_at_call 20; refine (live1_any _).mono ?_; rintro e w2 ⟨rfl, hb2⟩; simp only [World.size_alloc] at hb2))
    go_ret
    exact ⟨rfl, HA.out.trans (hb2.mono (by omega))⟩
  · have HS := hideG (small_sane hs)
    have h70 := (smallB_at hs).1
    go_enter Try.func8, Try.ntmps8
    go_wp2_with (first | (go_at_call 19; refine (refSmall_any T _ _ HT.out).mono ?_; rintro e w1 ⟨rfl, rfl⟩) | (go_at_call 28; refine (own_any _ _ _ _).mono ?_; rintro e w1 ⟨rfl, hb1⟩; simp only [World.size_alloc] at hb1; have x0 := hb1.cell (p := ⟨w.heap.size, 0, none⟩) (by simp); have x1 := hb1.cell (p := ⟨w.heap.size, 1, none⟩) (by simp); simp only [World.cell?_alloc_new] at x0 x1; simp at x0 x1; have hs1 := hb1.size; simp only [World.size_alloc] at hs1; have HB1 := hideG (HA.out.trans (hb1.mono (by omega))); clear hb1) | (go_at_call 27; refine (insert_any T HS.out _ _ _ _ _ (HT0.out.below HB1.out)).mono ?_; rintro e w2 ⟨v2, rfl, hb2, ht2⟩; generalize insertE T p c b = e2; obtain ⟨a2, c2, rfl⟩ := ht2.shape; have y0 := (hb2.cell (p := ⟨w.heap.size, 0, none⟩) (by simp; omega)).trans x0; have y1 := (hb2.cell (p := ⟨w.heap.size, 1, none⟩) (by simp; omega)).trans x1; have hs2 := hb2.size; have HB2 := hideG (HB1.out.trans (hb2.mono (by omega))); have HI2 := hideG ht2; clear hb2 ht2 x0 x1) | (go_at_call 30; refine (remove_any T HS.out _ _ _ (HT0.out.below HB2.out)).mono ?_; rintro e w3 ⟨v3, rfl, hb3, ht3⟩; generalize removeE T c = e3; obtain ⟨a3, c3, rfl⟩ := ht3.shape; have z0 := (hb3.cell (p := ⟨w.heap.size, 0, none⟩) (by simp; omega)).trans y0; have z1 := (hb3.cell (p := ⟨w.heap.size, 1, none⟩) (by simp; omega)).trans y1; have hs3 := hb3.size; have HB3 := hideG (HB2.out.trans (hb3.mono (by omega))); have HI3 := hideG (HI2.out.below hb3); have HR3 := hideG ht3; clear hb3 ht3 y0 y1) | (go_at_call 21; refine (make_any T HS.out _ _ _ _ (HT0.out.below HB3.out)).mono ?_; rintro e w4 ⟨v4, rfl, hb4, ht4⟩; generalize makeE T p c = e4; generalize makeN T p c = n4; obtain ⟨a4, c4, rfl⟩ := ht4.shape; have hs4 := hb4.size; have HB4 := hideG (HB3.out.trans (hb4.mono (by omega))); have HI4 := hideG (HI3.out.below hb4); have HR4 := hideG (HR3.out.below hb4); have HM4 := hideG ht4; clear hb4 ht4 z0 z1))
    have hal : Below w4.heap.size w4 (w4.alloc (.cells #[.slice a2 (insertR T p c b).length c2, .slice a3 (removeR T c).length c3, .slice a4 (makeR T p c).length c4] 23)) := (Below.refl _ w4).alloc (Nat.le_refl _) _
    have HB5 := hideG (HB4.out.trans (hal.mono HB4.out.size))
    have hL : ∀ k : Nat, k < 3 → ∃ (U : List Nd) (ua : Option Addr) (uc : Nat), (w4.alloc (.cells #[.slice a2 (insertR T p c b).length c2, .slice a3 (removeR T c).length c3, .slice a4 (makeR T p c).length c4] 23)).cell? ⟨w4.heap.size, k, none⟩ = some (.slice ua U.length uc) ∧ TreeAt (w4.alloc (.cells #[.slice a2 (insertR T p c b).length c2, .slice a3 (removeR T c).length c3, .slice a4 (makeR T p c).length c4] 23)) (.slice ua U.length uc) U ∧ KeepP T U := fun k hk => by
      match k, hk with
      | 0, _ => exact ⟨_, a2, c2, by simp, HI4.out.below hal, keep_insert T p c b⟩
      | 1, _ => exact ⟨_, a3, c3, by simp, HR4.out.below hal, keep_remove T c⟩
      | 2, _ => exact ⟨_, a4, c4, by simp, HM4.out.below hal, keep_make T p c⟩
    have hlb : w4.heap.size < (w4.alloc (.cells #[.slice a2 (insertR T p c b).length c2, .slice a3 (removeR T c).length c3, .slice a4 (makeR T p c).length c4] 23)).heap.size := by simp
    have HL := hideG hL
    clear hL hal HI4 HR4 HM4 HI3 HR3 HI2
    generalize (w4.alloc (.cells #[.slice a2 (insertR T p c b).length c2, .slice a3 (removeR T c).length c3, .slice a4 (makeR T p c).length c4] 23)) = w5 at *
    generalize w4.heap.size = LB at *
    go_loopw [13] (fun i wr => ∃ k : Nat, k ≤ 3 ∧ i = .int .i64 k ∧ Below w5.heap.size w5 wr) (fun i _ => 3 - (intOf i).toNat)
    case atStart => exact ⟨0, by omega, rfl, Below.refl _ _⟩
    case round =>
      obtain ⟨k, hk, rfl, hB⟩ := hrel
      have HBk := hideG hB
      clear hB
      by_cases hlt : k < 3
      · obtain ⟨U, ua, uc, hcell, hTU, hkeep⟩ := HL.out k hlt
        have d0 := (HBk.out.cell (p := ⟨LB, k, none⟩) hlb).trans hcell
        have HTU := hideG hTU
        have hltI : (k : Int) < 3 := by omega
        clear hcell hTU
        rcases hkeep with h0 | ⟨hle, hsame⟩
        · rw [h0] at d0
          go_wp2_with fail
          go_roundw
          case rel => exact ⟨k + 1, by omega, by go_num, HBk.out⟩
          case measure => simp [intOf]; omega
        · have HSame := hideG hsame
          clear hsame
          by_cases h0 : U.length = 0
          · rw [h0] at d0
            go_wp2_with fail
            go_roundw
            case rel => exact ⟨k + 1, by omega, by go_num, HBk.out⟩
            case measure => simp [intOf]; omega
          · have hU0 : ((U.length : Int) == 0) = false := by rw [beq_eq_false_iff_ne]; omega
            have hULT : ¬ ((U.length : Int) < (T.length : Int)) := by omega
            go_wp2_with fail
            go_loopw [14] (fun i wr2 => ∃ m : Nat, m ≤ T.length ∧ i = .int .i64 m ∧ Below w5.heap.size w5 wr2) (fun i _ => T.length - (intOf i).toNat)
            case atStart => exact ⟨0, by omega, rfl, HBk.out⟩
            case round =>
              obtain ⟨m, hm, rfl, hB2⟩ := hrel
              have HB2' := hideG hB2
              have d1 := (hB2.cell (p := ⟨LB, k, none⟩) hlb).trans (show w5.cell? ⟨LB, k, none⟩ = some (.slice ua U.length uc) from (HBk.out.cell (p := ⟨LB, k, none⟩) hlb).symm.trans d0)
              clear hB2
              by_cases hml : m < T.length
              · have hmU : m < U.length := by omega
                obtain ⟨ub, uo, uc', huv, hcU⟩ := HTU.out.at (by omega)
                simp only [Value.slice.injEq, true_and] at huv
                obtain ⟨rfl, rfl⟩ := huv
                obtain ⟨tb, to, tc, htv, hcT⟩ := HT0.out.at (by omega)
                simp only [Value.slice.injEq, true_and] at htv
                obtain ⟨rfl, rfl⟩ := htv
                obtain ⟨ukv, uav, hNU⟩ := hcU m hmU
                obtain ⟨tkv, tav, hNT⟩ := hcT m hml
                have hNU2 := hNU.below HB2'.out
                have hNT2 := hNT.below (HB5.out.trans (HB2'.out.mono HB5.out.size))
                have hlens := HS.out m hml
                have hone : ∀ wq, Below wr.heap.size wr wq → Calls Try.prog 36 #[.agg #[.int .i64 (nd U m).kind, .int .i64 (nd U m).tag, .int .i64 (nd T m).parent, tkv, .int .i64 (nd U m).host, .int .i64 (nd U m).root, uav],
                    .agg #[.int .i64 (nd T m).kind, .int .i64 (nd T m).tag, .int .i64 (nd T m).parent, tkv, .int .i64 (nd T m).host, .int .i64 (nd T m).root, tav]] wq fun e w' => e = .returned (.bool true) ∧ Below wq.heap.size wq w' := fun wq hq => by
                  have hx := refOne_any { nd U m with parent := (nd T m).parent, kids := (nd T m).kids } (nd T m) tkv uav tkv tav wq (hNT2.kids.below hq) (hNU2.attrs.below hq) (hNT2.kids.below hq) (hNT2.attrs.below hq) hlens.1 (by
                    have := HSame.out m hml
                    have e : (nd U m).attrs = (nd T m).attrs := by rw [← this]
                    show (nd U m).attrs.length ≤ 1000000
                    rw [e]; exact hlens.2)
                  rw [decide_eq_true (HSame.out m hml)] at hx
                  exact hx
                have HOne := hideG hone
                obtain ⟨ta0, tc0, htk⟩ := hNT2.kids.shape
                obtain ⟨tx0, ty0, hta⟩ := hNT2.attrs.shape
                obtain ⟨ua0, uc0, huk⟩ := hNU2.kids.shape
                obtain ⟨ux0, uy0, hua⟩ := hNU2.attrs.shape
                subst htk hta huk hua
                obtain ⟨n0, n1, n2, n3, n4, n5, n6, _, _⟩ := hNU2
                obtain ⟨m0, m1, m2, m3, m4, m5, m6, _, _⟩ := hNT2
                have hub : ub < wr.heap.size := below_of_cell n0
                have htb : tb < wr.heap.size := below_of_cell m0
                clear hone hNU hNT hcU hcT d0
                go_wp2_with fail
                have hxb := (Below.refl _ wr).alloc (Nat.le_refl _) (.cells #[.int .i64 (nd U m).kind, .int .i64 (nd U m).tag, .int .i64 (nd T m).parent, .slice ta0 (nd T m).kids.length tc0, .int .i64 (nd U m).host, .int .i64 (nd U m).root, .slice ux0 (nd U m).attrs.length uy0] 49)
                have HXB := hideG hxb
                clear hxb
                go_region_with (go_at_call 36; refine (HOne.out _ (below_drew HXB.out)).mono ?_; rintro e w1 ⟨rfl, hb1⟩; have HB9 := hideG (HB2'.out.trans (((below_drew HXB.out).trans (hb1.mono (below_drew HXB.out).size)).mono HB2'.out.size)); clear hb1)
                all_goals
                  go_wp2_with fail
                  go_roundw
                  case rel => exact ⟨m + 1, by omega, by go_num, HB9.out⟩
                  case measure => simp [intOf]; omega
              · go_wp2_with fail
                go_roundw
                case rel => exact ⟨k + 1, by omega, by go_num, HB2'.out⟩
                case measure => simp [intOf]; omega
      · go_wp2_with (go_at_call 20; refine (live1_any _).mono ?_; rintro e w9 ⟨rfl, hb9⟩)
        go_ret
        exact ⟨rfl, (HB5.out.trans (HBk.out.mono HB5.out.size)).trans (hb9.mono (HB5.out.trans (HBk.out.mono HB5.out.size)).size)⟩
end Go.Proofs.Ytoolkpjbbngdpaa
