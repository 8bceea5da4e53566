/- TreeStays, walked. -/
import Derived.Test.YtoolkpjbbngdpaaStays2
import Derived.Test.YtoolkpjbbngdpaaPlaces
namespace Go.Proofs.Ytoolkpjbbngdpaa
open Go.RowKit

set_option maxRecDepth 100000 in
set_option maxHeartbeats 1000000 in
theorem own_any (p c b : Int) (w : World) :
    Calls Try.prog 28 #[.agg #[.int .i64 p, .int .i64 c, .int .i64 b]] w fun e w' => e = .returned (.agg #[.int .i64 p, .int .i64 c, .int .i64 b]) ∧ Below w.heap.size w w' := by
  have hb := hideG (((Below.refl _ w).alloc (Nat.le_refl _) (.cells #[.int .i64 p, .int .i64 c, .int .i64 b] 33)).alloc (by simp) (.cells #[.int .i64 p, .int .i64 c, .int .i64 b] 37))
  go_enter Try.func28, Try.ntmps28
  go_wp2
  refine bodyPost_ret (v := .agg #[.int .i64 p, .int .i64 c, .int .i64 b]) (by simp [results, Try.results28, go_sem]) rfl ⟨rfl, ?_⟩
  exact hb.out

/-- No node has attributes. -/
def Bare (T : List Nd) : Prop := ∀ n, n < T.length → (nd T n).attrs = []
theorem bare_sane {T : List Nd} (h : Fine T) (hb : Bare T) : Sane T := fun n hn => by
  have := fine_short h hn
  rw [hb n hn]
  simp; omega
theorem SameBut.bare {T T' : List Nd} (h : SameBut T T') (hb : Bare T) : Bare T' := fun n hn => by
  rw [h.len] at hn
  rw [(h.at_ n hn).2.2.2.2]; exact hb n hn

/-- What a step of a script hands on. -/
structure Good (T : List Nd) (L : Nat) : Prop where
  fine : Fine T
  bare : Bare T
  len : T.length ≤ L

theorem good_make {T : List Nd} {L : Nat} (h : Good T L) (k t : Int) : Good (makeR T k t) (L + 1) := by
  have hm := fine_mayB h.fine
  have hl := h.len
  by_cases h0 : makeE T k t = 0
  · rw [(makeR_zero h0).1]
    have hk : ((k != 1 && k != 2) || !tagFitsB k t) = false := by
      cases e : ((k != 1 && k != 2) || !tagFitsB k t)
      · rfl
      · simp only [makeE, hm, e, if_true] at h0
        exact absurd h0 (by decide)
    have h64 : T.length ≠ 64 := fun e => by
      have e' : (T.length == 64) = true := by simp [e]
      simp only [makeE, hm, hk, e', Bool.false_eq_true, if_false, if_true] at h0
      exact absurd h0 (by decide)
    refine ⟨fine_make h.fine hk h64, fun n hn => ?_, by simp; omega⟩
    have hn' : n < T.length + 1 := by simpa using hn
    by_cases e : n < T.length
    · rw [nd_snoc_lt T _ e]; exact h.bare n e
    · have : n = T.length := by omega
      subst this
      rw [nd_snoc_eq]; rfl
  · by_cases h1 : makeE T k t = 1
    · exfalso
      simp only [makeE, hm, if_true] at h1
      revert h1
      split
      · decide
      · split <;> decide
    · rw [(makeR_else h1 h0).1]; exact ⟨h.fine, h.bare, by omega⟩
theorem good_attach {T : List Nd} {L : Nat} (h : Good T L) (g : Int) : Good (attachR T g) (L + 1) := by
  have hm := fine_mayB h.fine
  have hl := h.len
  have hE : attachE T g = attachF T g := by simp only [attachE, hm, if_true]
  by_cases h0 : attachE T g = 0
  · rw [(attachR_zero h0).1]
    rw [hE] at h0
    obtain ⟨m, rfl, hml, hk, hr, h64⟩ := attachF_zero h0
    rw [Int.toNat_natCast]
    refine ⟨fine_attach h.fine hml hk hr h64, fun n hn => ?_, by rw [attachL_length]; omega⟩
    rw [attachL_length] at hn
    rw [attachL_nd hml n hn]
    by_cases e : n = T.length
    · rw [if_pos e]
    · rw [if_neg e]
      by_cases e2 : n = m
      · subst e2; rw [if_pos rfl]; exact h.bare n hml
      · rw [if_neg e2]; exact h.bare n (by omega)
  · rw [(attachR_else (by rw [hE]; exact attachF_ne) h0).1]; exact ⟨h.fine, h.bare, by omega⟩
theorem good_insert {T : List Nd} {L : Nat} (h : Good T L) (p c b : Int) : Good (insertR T p c b) (L + 1) := by
  have hm := fine_mayB h.fine
  have hl := h.len
  have hE : insertE T p c b = insertF T p c b := by simp only [insertE, hm, if_true]
  by_cases h0 : insertE T p c b = 0
  · rw [insertR_zero h0]
    rw [hE] at h0
    obtain ⟨p, c, rfl, rfl, _⟩ := insertF_zero h0
    rw [Int.toNat_natCast, Int.toNat_natCast]
    obtain ⟨h1, h2⟩ := fine_insert h.fine h0
    exact ⟨h1, h2.bare h.bare, by rw [h2.len]; omega⟩
  · rw [insertR_else (by rw [hE]; exact insertF_ne) h0]; exact ⟨h.fine, h.bare, by omega⟩
theorem good_remove {T : List Nd} {L : Nat} (h : Good T L) (c : Int) : Good (removeR T c) (L + 1) := by
  have hm := fine_mayB h.fine
  have hl := h.len
  by_cases h0 : removeE T c = 0
  · rw [removeR_zero h0]
    cases hi : isNodeB T.length c
    · simp only [removeE, hm, hi, Bool.false_eq_true, if_false, if_true] at h0
      exact absurd h0 (by decide)
    · obtain ⟨c, rfl, hc⟩ := isNodeB_true hi
      rw [Int.toNat_natCast]
      have hs := takeL_same hc (fine_placed h.fine hc)
      exact ⟨(fine_take h.fine hc).1, hs.bare h.bare, by rw [hs.len]; omega⟩
  · by_cases h1 : removeE T c = 1
    · exfalso
      simp only [removeE, hm, if_true] at h1
      revert h1
      split
      · split <;> decide
      · decide
    · rw [removeR_else h1 h0]; exact ⟨h.fine, h.bare, by omega⟩

theorem good_new : Good [lonex 0 0] 1 := ⟨mayB_fine (by decide +kernel), fun n hn => by
  have : n = 0 := by simp at hn; omega
  subst this; rfl, by simp⟩

theorem smake {T : List Nd} {L : Nat} (hG : Good T L) (v : Value) (k t : Int) (w : World) (h : TreeAt w v T) :
    Calls Try.prog 21 #[v, .int .i64 k, .int .i64 t] w fun x w' => ∃ T2 a c n e, x = .returned (.tuple #[.slice a (List.length T2) c, .int .i64 n, .int .i64 e]) ∧ Below w.heap.size w w' ∧ TreeAt w' (.slice a T2.length c) T2 ∧ Good T2 (L + 1) := by
  refine (make_any T (bare_sane hG.fine hG.bare) v k t w h).mono ?_
  rintro x w' ⟨v', rfl, hb, ht⟩
  obtain ⟨a, c, rfl⟩ := ht.shape
  exact ⟨_, a, c, _, _, rfl, hb, ht, good_make hG k t⟩
theorem sattach {T : List Nd} {L : Nat} (hG : Good T L) (v : Value) (k : Int) (w : World) (h : TreeAt w v T) :
    Calls Try.prog 23 #[v, .int .i64 k] w fun x w' => ∃ T2 a c n e, x = .returned (.tuple #[.slice a (List.length T2) c, .int .i64 n, .int .i64 e]) ∧ Below w.heap.size w w' ∧ TreeAt w' (.slice a T2.length c) T2 ∧ Good T2 (L + 1) := by
  refine (attach_any T (bare_sane hG.fine hG.bare) v k w h).mono ?_
  rintro x w' ⟨v', rfl, hb, ht⟩
  obtain ⟨a, c, rfl⟩ := ht.shape
  exact ⟨_, a, c, _, _, rfl, hb, ht, good_attach hG k⟩
theorem sinsert {T : List Nd} {L : Nat} (hG : Good T L) (v : Value) (p c b : Int) (w : World) (h : TreeAt w v T) :
    Calls Try.prog 27 #[v, .agg #[.int .i64 p, .int .i64 c, .int .i64 b]] w fun x w' => ∃ T2 a c e, x = .returned (.tuple #[.slice a (List.length T2) c, .int .i64 e]) ∧ Below w.heap.size w w' ∧ TreeAt w' (.slice a T2.length c) T2 ∧ Good T2 (L + 1) := by
  refine (insert_any T (bare_sane hG.fine hG.bare) v p c b w h).mono ?_
  rintro x w' ⟨v', rfl, hb, ht⟩
  obtain ⟨a, c', rfl⟩ := ht.shape
  exact ⟨_, a, c', _, rfl, hb, ht, good_insert hG p c b⟩
theorem sremove {T : List Nd} {L : Nat} (hG : Good T L) (v : Value) (c : Int) (w : World) (h : TreeAt w v T) :
    Calls Try.prog 30 #[v, .int .i64 c] w fun x w' => ∃ T2 a c e, x = .returned (.tuple #[.slice a (List.length T2) c, .int .i64 e]) ∧ Below w.heap.size w w' ∧ TreeAt w' (.slice a T2.length c) T2 ∧ Good T2 (L + 1) := by
  refine (remove_any T (bare_sane hG.fine hG.bare) v c w h).mono ?_
  rintro x w' ⟨v', rfl, hb, ht⟩
  obtain ⟨a, c', rfl⟩ := ht.shape
  exact ⟨_, a, c', _, rfl, hb, ht, good_remove hG c⟩
theorem smay {T : List Nd} {L : Nat} (hG : Good T L) (v : Value) (w : World) (h : TreeAt w v T) :
    Calls Try.prog 33 #[v] w fun x w' => x = .returned (.bool true) ∧ Below w.heap.size w w' := by
  refine (refMay_any T (bare_sane hG.fine hG.bare) v w h).mono ?_
  rintro x w' ⟨rfl, hb⟩
  exact ⟨by rw [refMay_eq, fine_mayB hG.fine], hb⟩

set_option maxRecDepth 100000 in
set_option maxHeartbeats 4000000 in
theorem stays_walk (l : List (Int × Int × Int)) (v : Value) (w : World) (hl : PlacesAt w v l) :
    Calls Try.prog 5 #[v] w fun e w' => e = .returned (.bool true) ∧ Below w.heap.size w w' := by
  obtain ⟨a, cap, rfl, hc⟩ := hl
  by_cases h30 : 30 < (l.length : Int)
  · clear hc
    go_enter Try.func5, Try.ntmps5
    go_wp2_with (go_at_call 20; refine (live1_any _).mono ?_; rintro e w2 ⟨rfl, hb2⟩)
    go_ret
    exact ⟨rfl, hb2⟩
  · have HC := hideG hc
    clear hc
    go_enter Try.func5, Try.ntmps5
    go_wp2_with (go_at_call 32; refine (new_any _).mono ?_; rintro e w1 ⟨a1, c1, rfl, hb1, ht1⟩)
    go_loopw [3, 4] (fun t i wr => ∃ (k : Nat) (T : List Nd) (a' : Option Addr) (c' : Nat), k ≤ l.length ∧ i = .int .i64 k ∧ t = .slice a' T.length c' ∧ TreeAt wr (.slice a' T.length c') T ∧ Good T (1 + k) ∧ Below w.heap.size w wr) (fun _ i _ => l.length - (intOf i).toNat)
    case atStart => exact ⟨0, [lonex 0 0], a1, c1, Nat.zero_le _, rfl, rfl, ht1, good_new, hb1⟩
    case round =>
      obtain ⟨k, T, a', c', hk, rfl, rfl, hT, hG, hB⟩ := hrel
      have HT := hideG hT
      have HG := hideG hG
      have HB := hideG hB
      clear hT hG hB ht1 hb1
      by_cases hlt : k < l.length
      · obtain ⟨b, off, rfl, hd⟩ := HC.out (by omega)
        obtain ⟨x0, x1, x2⟩ := hd k hlt
        have y0 := cell_below HB.out x0
        have y1 := cell_below HB.out x1
        have y2 := cell_below HB.out x2
        clear hd x0 x1 x2
        generalize (l.getD k (0, 0, 0)).1 = p at *
        generalize (l.getD k (0, 0, 0)).2.1 = c at *
        generalize (l.getD k (0, 0, 0)).2.2 = bb at *
        have HA := hideG ((Below.refl _ wr).alloc (Nat.le_refl _) (.cells #[.int .i64 p, .int .i64 c, .int .i64 bb] 33))
        have hsane := hideG (bare_sane HG.out.fine HG.out.bare)
        cases e2 : (bb == -2)
        · cases e3 : (bb == -3)
          · cases e4 : (bb == -4)
            · go_wp2_with (first | (go_at_call 28; refine (own_any _ _ _ _).mono ?_; rintro e w5 ⟨rfl, hb5⟩; simp only [World.size_alloc] at hb5; have HA5 := hideG (HA.out.trans (hb5.mono (by omega))); clear hb5) | (go_at_call 27; refine (sinsert HG.out _ _ _ _ _ (HT.out.below HA5.out)).mono ?_; rintro e w3 ⟨T2, a2, c2, e0, rfl, hb3, ht3, hg3⟩; have HT3 := hideG ht3; have HG3 := hideG hg3; have HB3 := hideG (HB.out.trans ((HA5.out.trans (hb3.mono HA5.out.size)).mono HB.out.size)); clear hb3 ht3 hg3))
              have hlen := HG3.out.len
              have hno : ¬ ((1 : Int) + k + 1 < T2.length) := by omega
              go_wp2_with (go_at_call 33; refine (smay HG3.out _ _ HT3.out).mono ?_; rintro e w4 ⟨rfl, hb4⟩; have HT4 := hideG (HT3.out.below hb4); have HB4 := hideG (HB3.out.trans (hb4.mono HB3.out.size)); clear hb4)
              go_roundw
              case rel => exact ⟨k + 1, T2, a2, c2, by omega, by go_num, rfl, HT4.out, by rw [show 1 + (k + 1) = 1 + k + 1 by omega]; exact HG3.out, HB4.out⟩
              case measure => simp [intOf]; omega
            · go_wp2_with (go_at_call 30; refine (sremove HG.out _ _ _ (HT.out.below HA.out)).mono ?_; rintro e w3 ⟨T2, a2, c2, e0, rfl, hb3, ht3, hg3⟩; simp only [World.size_alloc] at hb3; have HT3 := hideG ht3; have HG3 := hideG hg3; have HB3 := hideG (HB.out.trans ((HA.out.trans (hb3.mono (by omega))).mono HB.out.size)); clear hb3 ht3 hg3)
              have hlen := HG3.out.len
              have hno : ¬ ((1 : Int) + k + 1 < T2.length) := by omega
              go_wp2_with (go_at_call 33; refine (smay HG3.out _ _ HT3.out).mono ?_; rintro e w4 ⟨rfl, hb4⟩; have HT4 := hideG (HT3.out.below hb4); have HB4 := hideG (HB3.out.trans (hb4.mono HB3.out.size)); clear hb4)
              go_roundw
              case rel => exact ⟨k + 1, T2, a2, c2, by omega, by go_num, rfl, HT4.out, by rw [show 1 + (k + 1) = 1 + k + 1 by omega]; exact HG3.out, HB4.out⟩
              case measure => simp [intOf]; omega
          · go_wp2_with (go_at_call 23; refine (sattach HG.out _ _ _ (HT.out.below HA.out)).mono ?_; rintro e w3 ⟨T2, a2, c2, n0, e0, rfl, hb3, ht3, hg3⟩; simp only [World.size_alloc] at hb3; have HT3 := hideG ht3; have HG3 := hideG hg3; have HB3 := hideG (HB.out.trans ((HA.out.trans (hb3.mono (by omega))).mono HB.out.size)); clear hb3 ht3 hg3)
            have hlen := HG3.out.len
            have hno : ¬ ((1 : Int) + k + 1 < T2.length) := by omega
            go_wp2_with (go_at_call 33; refine (smay HG3.out _ _ HT3.out).mono ?_; rintro e w4 ⟨rfl, hb4⟩; have HT4 := hideG (HT3.out.below hb4); have HB4 := hideG (HB3.out.trans (hb4.mono HB3.out.size)); clear hb4)
            go_roundw
            case rel => exact ⟨k + 1, T2, a2, c2, by omega, by go_num, rfl, HT4.out, by rw [show 1 + (k + 1) = 1 + k + 1 by omega]; exact HG3.out, HB4.out⟩
            case measure => simp [intOf]; omega
        · go_wp2_with (go_at_call 21; refine (smake HG.out _ _ _ _ (HT.out.below HA.out)).mono ?_; rintro e w3 ⟨T2, a2, c2, n0, e0, rfl, hb3, ht3, hg3⟩; simp only [World.size_alloc] at hb3; have HT3 := hideG ht3; have HG3 := hideG hg3; have HB3 := hideG (HB.out.trans ((HA.out.trans (hb3.mono (by omega))).mono HB.out.size)); clear hb3 ht3 hg3)
          have hlen := HG3.out.len
          have hno : ¬ ((1 : Int) + k + 1 < T2.length) := by omega
          go_wp2_with (go_at_call 33; refine (smay HG3.out _ _ HT3.out).mono ?_; rintro e w4 ⟨rfl, hb4⟩; have HT4 := hideG (HT3.out.below hb4); have HB4 := hideG (HB3.out.trans (hb4.mono HB3.out.size)); clear hb4)
          go_roundw
          case rel => exact ⟨k + 1, T2, a2, c2, by omega, by go_num, rfl, HT4.out, by rw [show 1 + (k + 1) = 1 + k + 1 by omega]; exact HG3.out, HB4.out⟩
          case measure => simp [intOf]; omega
      · go_wp2_with (go_at_call 20; refine (live1_any _).mono ?_; rintro e w2 ⟨rfl, hb2⟩)
        go_ret
        exact ⟨rfl, HB.out.trans (hb2.mono HB.out.size)⟩
end Go.Proofs.Ytoolkpjbbngdpaa
