/- TreeMakes, walked. -/
import Derived.Test.YtoolkpjbbngdpaaRefAttach
import Derived.Test.YtoolkpjbbngdpaaOnce
namespace Go.Proofs.Ytoolkpjbbngdpaa
open Go.RowKit

theorem sane_nil : Sane [] := fun n hn => by simp at hn
theorem sane_make {T : List Nd} (hS : Sane T) (k t : Int) : Sane (makeR T k t) := by
  unfold makeR
  split
  · exact sane_nil
  · split
    · intro n hn
      by_cases e : n < T.length
      · rw [nd_snoc_lt T _ e]; exact hS n e
      · have : n = T.length := by simp at hn; omega
        subst this
        rw [nd_snoc_eq]; simp [lonex]
    · exact hS
theorem sane_attach {T : List Nd} (hS : Sane T) (h : Int) : Sane (attachR T h) := by
  by_cases h1 : attachE T h = 1
  · rw [(attachR_one h1).1]; exact sane_nil
  · by_cases h0 : attachE T h = 0
    · rw [(attachR_zero h0).1]
      have hF : attachF T h = 0 := by
        unfold attachE at h0
        split at h0
        · exact h0
        · exact absurd h0 (by decide)
      obtain ⟨m, rfl, hml, _⟩ := attachF_zero hF
      rw [Int.toNat_natCast]
      intro n hn
      rw [attachL_length] at hn
      rw [attachL_nd hml n hn]
      by_cases e : n = T.length
      · rw [if_pos e]; simp
      · rw [if_neg e]
        by_cases e2 : n = m
        · subst e2; rw [if_pos rfl]; exact hS n hml
        · rw [if_neg e2]; exact hS n (by omega)
    · rw [(attachR_else h1 h0).1]; exact hS
theorem makeR_le (T : List Nd) (k t : Int) : (makeR T k t).length ≤ T.length + 1 := by
  unfold makeR
  split
  · simp
  · split <;> simp
theorem attachR_le (T : List Nd) (h : Int) : (attachR T h).length ≤ T.length + 1 := by
  unfold attachR
  split
  · simp
  · split
    · rw [attachL_length]; omega
    · omega

set_option maxRecDepth 100000 in
set_option maxHeartbeats 4000000 in
theorem makes_walk (T : List Nd) (v : Value) (k t : Int) (w : World) (hT : TreeAt w v T) :
    Calls Try.prog 3 #[v, .int .i64 k, .int .i64 t] w fun e w' => e = .returned (.bool true) ∧ Below w.heap.size w w' := by
  obtain ⟨a, cap, rfl⟩ := hT.shape
  have HT := hideG hT
  clear hT
  cases hs : smallB T
  · go_enter Try.func3, Try.ntmps3
    go_wp2_with (first | (go_at_call 19; refine (refSmall_any T _ _ HT.out).mono ?_; rintro e w1 ⟨rfl, rfl⟩) | (go_at_call 20; refine (live1_any _).mono ?_; rintro e w2 ⟨rfl, hb2⟩))
    go_ret
    exact ⟨rfl, hb2⟩
  · have HS := hideG (small_sane hs)
    have h70 := (smallB_at hs).1
    have m1 := makeR_le T k t
    have m2 := attachR_le T t
    have m1' : (makeR T k t).length ≤ 1000000 := by omega
    have m2' : (attachR T t).length ≤ 1000000 := by omega
    clear m1 m2
    generalize hN : makeN T k t = zn at *
    generalize hE : makeE T k t = ze at *
    generalize hN2 : attachN T t = zn2 at *
    generalize hE2 : attachE T t = ze2 at *
    have HN := hideG hN
    have HE := hideG hE
    have HN2 := hideG hN2
    have HE2 := hideG hE2
    clear hN hE hN2 hE2
    go_enter Try.func3, Try.ntmps3
    go_wp2_with (first | (go_at_call 19; refine (refSmall_any T _ _ HT.out).mono ?_; rintro e w1 ⟨rfl, rfl⟩) | (go_at_call 21; refine (make_any T HS.out _ _ _ _ HT.out).mono ?_; rintro e w2 ⟨v2, rfl, hb2, ht2⟩; rw [HN.out, HE.out]; obtain ⟨a2, c2, rfl⟩ := ht2.shape; have HB2 := hideG hb2; have HT2 := hideG ht2; clear hb2 ht2) | (go_at_call 22; refine (refMake_any T HS.out _ _ _ _ (HT.out.below HB2.out)).mono ?_; rintro e w3 ⟨v3, rfl, hb3, ht3⟩; rw [HN.out, HE.out]; obtain ⟨a3, c3, rfl⟩ := ht3.shape; have HT2' := hideG (HT2.out.below hb3); have HB3 := hideG (HB2.out.trans (hb3.mono HB2.out.size)); have HT3 := hideG ht3; clear hb3 ht3) | (go_at_call 23; refine (attach_any T HS.out _ _ _ (HT.out.below HB3.out)).mono ?_; rintro e w4 ⟨v4, rfl, hb4, ht4⟩; rw [HN2.out, HE2.out]; obtain ⟨a4, c4, rfl⟩ := ht4.shape; have HB4 := hideG (HB3.out.trans (hb4.mono HB3.out.size)); have HP2 := hideG (HT2'.out.below hb4); have HP3 := hideG (HT3.out.below hb4); have HT4 := hideG ht4; clear hb4 ht4) | (go_at_call 24; refine (refAttach_any T HS.out _ _ _ (HT.out.below HB4.out)).mono ?_; rintro e w5 ⟨v5, rfl, hb5, ht5⟩; rw [HN2.out, HE2.out]; obtain ⟨a5, c5, rfl⟩ := ht5.shape; have HB5 := hideG (HB4.out.trans (hb5.mono HB4.out.size)); have HQ2 := hideG (HP2.out.below hb5); have HQ3 := hideG (HP3.out.below hb5); have HQ4 := hideG (HT4.out.below hb5); have HT5 := hideG ht5; clear hb5 ht5) | (go_at_call 25; refine (refSame_any (makeR T k t) (makeR T k t) (sane_make HS.out k t) _ _ _ HQ2.out HQ3.out m1').mono ?_; rintro e w6 ⟨rfl, hb6⟩; rw [decide_eq_true rfl]; have HB6 := hideG (HB5.out.trans (hb6.mono HB5.out.size)); have HR4 := hideG (HQ4.out.below hb6); have HR5 := hideG (HT5.out.below hb6); clear hb6 HQ2) | (go_at_call 25; refine (refSame_any (attachR T t) (attachR T t) (sane_attach HS.out t) _ _ _ HR4.out HR5.out m2').mono ?_; rintro e w7 ⟨rfl, hb7⟩; rw [decide_eq_true rfl]; have HB7 := hideG (HB6.out.trans (hb7.mono HB6.out.size)); clear hb7) | (go_at_call 20; refine (live1_any _).mono ?_; rintro e w8 ⟨rfl, hb8⟩))
    go_ret
    exact ⟨rfl, HB7.out.trans (hb8.mono HB7.out.size)⟩
end Go.Proofs.Ytoolkpjbbngdpaa
