/- TreeBack, walked. -/
import Derived.Test.YtoolkpjbbngdpaaStays
import Derived.Test.YtoolkpjbbngdpaaOnce
namespace Go.Proofs.Ytoolkpjbbngdpaa
open Go.RowKit

theorem idx_ins {c : Int} : ∀ {l : List Int} {k : Nat}, c ∉ l → k ≤ l.length → idxL c (insL l k c) = k
  | l, 0, _, _ => by simp [insL, idxL]
  | [], k + 1, _, h => by simp at h
  | a :: l, k + 1, hc, h => by
    have hne : (c == a) = false := by
      simp only [List.mem_cons, not_or] at hc
      simpa using hc.1
    have ih := idx_ins (c := c) (l := l) (k := k) (fun hm => hc (List.mem_cons_of_mem _ hm)) (by simpa using h)
    unfold insL at ih ⊢
    simp only [List.take_succ_cons, List.drop_succ_cons, List.cons_append, idxL, hne, Bool.false_eq_true, if_false]
    rw [ih]
theorem cut_ins {c : Int} {l : List Int} {k : Nat} (h : k ≤ l.length) : cutL (insL l k c) k = l := by
  unfold cutL insL
  have h1 : (l.take k).length = k := by rw [List.length_take]; omega
  rw [List.append_assoc, List.take_left' h1]
  rw [show k + 1 = (l.take k).length + 1 by rw [h1], ← List.drop_drop, List.drop_left]
  simp
theorem layAt_le {T : List Nd} {p : Nat} {b : Int} : layAt T p b ≤ (nd T p).kids.length := by
  unfold layAt
  split
  · exact Nat.le_refl _
  · exact idxL_le _ _

theorem back_pure {T : List Nd} (h : Fine T) {p c : Nat} {b : Int} (e : insertF T p c b = 0) (hpc : (nd T c).parent = -1) : removeE (insertL T p c b) c = 0 ∧ takeL (insertL T p c b) c = T := by
  obtain ⟨p', c', e1, e2, hp, hc, h2, hk, hcp, han, hb⟩ := insertF_zero e
  obtain rfl : p = p' := by omega
  obtain rfl : c = c' := by omega
  have hbc : (b == (c : Int)) = false := by
    rcases hb with rfl | ⟨q, rfl, hq, hqp⟩
    · simp
    · simp only [beq_eq_false_iff_ne, ne_eq]
      intro e'
      obtain rfl : q = c := by omega
      rw [hpc] at hqp
      omega
  have hL : insertL T p c b = layL T p c b := by
    unfold insertL
    rw [hbc, takeL_none hpc]; rfl
  have hf := (fine_insert h e).1
  rw [hL] at hf ⊢
  have len := layL_length T p c b
  have hnd := layL_nd (T := T) (b := b) hp hc hcp
  have hpar : (nd (layL T p c b) c).parent = (p : Int) := by rw [hnd, if_pos rfl]
  have hnot : (c : Int) ∉ (nd T p).kids := fun hm => by
    obtain ⟨m, e1, _, _, e2⟩ := kidP_iff.mp (h.kid p hp _ hm)
    obtain rfl : c = m := by omega
    rw [hpc] at e2; omega
  refine ⟨?_, ?_⟩
  · have hi : isNodeB (layL T p c b).length (c : Int) = true := by rw [len]; simp [isNodeB]; omega
    have hn1 : ((p : Int) == -1) = false := by simp
    simp only [removeE, fine_mayB hf, hi, if_true, Int.toNat_natCast, hpar, hn1, Bool.false_eq_true, if_false]
  · refine tree_ext (by rw [takeL_length, len]) (fun n hn => ?_)
    rw [takeL_length, len] at hn
    rw [takeL_nd (by rw [len]; exact hc) (by rw [len]; exact hp) hpar, if_neg hcp]
    by_cases h1 : n = c
    · subst h1
      rw [if_pos rfl, hnd, if_pos rfl]
      show { nd T n with parent := -1 } = nd T n
      rw [← hpc]
    · rw [if_neg h1]
      by_cases h3 : n = p
      · subst h3
        have hkids : (nd (layL T n c b) n).kids = insL (nd T n).kids (layAt T n b) c := by rw [hnd, if_neg h1, if_pos rfl]
        rw [if_pos rfl, hkids, idx_ins hnot layAt_le, cut_ins layAt_le, hnd, if_neg h1, if_pos rfl]
      · rw [if_neg h3, hnd, if_neg h1, if_neg h3]

theorem SameBut.sane {T T' : List Nd} (h : SameBut T T') (hf : Fine T') (hs : Sane T) : Sane T' := fun n hn => by
  have h1 := fine_short hf hn
  rw [h.len] at hn
  rw [(h.at_ n hn).2.2.2.2]
  have := (hs n hn).2
  omega
theorem insert_self {T : List Nd} {p c : Int} (h0 : insertE T p c c = 0) : insertR T p c c = T := by
  rw [insertR_zero h0]
  have hE : insertF T p c c = 0 := by
    unfold insertE at h0
    split at h0
    · exact h0
    · exact absurd h0 (by decide)
  obtain ⟨p', c', rfl, rfl, _⟩ := insertF_zero hE
  unfold insertL
  rw [Int.toNat_natCast, Int.toNat_natCast]
  simp

set_option maxRecDepth 100000 in
set_option maxHeartbeats 4000000 in
theorem back_walk (T : List Nd) (v : Value) (p c b : Int) (w : World) (hT : TreeAt w v T) :
    Calls Try.prog 6 #[v, .agg #[.int .i64 p, .int .i64 c, .int .i64 b]] w fun e w' => e = .returned (.bool true) ∧ Below w.heap.size w w' := by
  have HA := hideG ((Below.refl _ w).alloc (Nat.le_refl _) (.cells #[.int .i64 p, .int .i64 c, .int .i64 b] 33))
  have HT := hideG (hT.below HA.out)
  cases hs : smallB T
  · obtain ⟨a, cap, rfl⟩ := hT.shape
    clear hT
    go_enter Try.func6, Try.ntmps6
    go_wp2_with (first | (go_at_call 19; refine (refSmall_any T _ _ HT.out).mono ?_; rintro e w1 ⟨rfl, rfl⟩) | (go_at_call 20; refine (live1_any _).mono ?_; rintro e w2 ⟨rfl, hb2⟩; simp only [World.size_alloc] at hb2))
    go_ret
    exact ⟨rfl, HA.out.trans (hb2.mono (by omega))⟩
  · have HS := hideG (small_sane hs)
    have h70 := (smallB_at hs).1
    cases hi : isNodeB T.length c
    · obtain ⟨a, cap, rfl⟩ := hT.shape
      clear hT
      go_enter Try.func6, Try.ntmps6
      go_wp2_with (first | (go_at_call 19; refine (refSmall_any T _ _ HT.out).mono ?_; rintro e w1 ⟨rfl, rfl⟩) | (go_at_call 34; refine (refIs_any _ _ _ _ _).mono ?_; rintro e w1 ⟨rfl, rfl⟩) | (go_at_call 20; refine (live1_any _).mono ?_; rintro e w2 ⟨rfl, hb2⟩; simp only [World.size_alloc] at hb2))
      go_ret
      exact ⟨rfl, HA.out.trans (hb2.mono (by omega))⟩
    · obtain ⟨c, rfl, hc⟩ := isNodeB_true hi
      obtain ⟨ba, off, cap, rfl, hcc⟩ := hT.at (by omega)
      obtain ⟨kvc, avc, hNc⟩ := hcc c hc
      have g2 := hNc.parent
      have hbz : ba < w.heap.size := below_of_cell g2
      have HT0 := hideG hT
      clear hcc hNc hT
      cases hp : ((nd T c).parent != -1)
      · have hpe : (nd T c).parent = -1 := by simpa using hp
        cases h0 : (insertE T p c b != 0)
        · have h0' : insertE T p c b = 0 := by simpa using h0
          have hm : mayB T = true := by
            cases e : mayB T
            · simp only [insertE, e, Bool.false_eq_true, if_false] at h0'
              exact absurd h0' (by decide)
            · rfl
          have hF : insertF T p c b = 0 := by simpa only [insertE, hm, if_true] using h0'
          obtain ⟨p, c', rfl, e2, _⟩ := insertF_zero hF
          have hR : insertR T p c b = insertL T p c b := by rw [insertR_zero h0', Int.toNat_natCast, Int.toNat_natCast]
          obtain ⟨f1, f2⟩ := fine_insert (mayB_fine hm) hF
          obtain ⟨r1, r2⟩ := back_pure (mayB_fine hm) hF hpe
          have hR2 : removeR (insertL T p c b) c = T := by rw [removeR_zero r1, Int.toNat_natCast, r2]
          have HSi := hideG (f2.sane f1 HS.out)
          have HR := hideG hR
          have HR2 := hideG hR2
          have Hr1 := hideG r1
          have HE := hideG h0'
          clear hm hF e2 hR f1 f2 r1 r2 hR2 h0 h0' hpe
          go_enter Try.func6, Try.ntmps6
          go_wp2_with (first | (go_at_call 19; refine (refSmall_any T _ _ HT.out).mono ?_; rintro e w1 ⟨rfl, rfl⟩) | (go_at_call 34; refine (refIs_any _ _ _ _ _).mono ?_; rintro e w1 ⟨rfl, rfl⟩) | (go_at_call 28; refine (own_any _ _ _ _).mono ?_; rintro e w1 ⟨rfl, hb1⟩; simp only [World.size_alloc] at hb1; have x1 := hb1.cell (p := ⟨w.heap.size, 1, none⟩) (by simp); simp only [World.cell?_alloc_new] at x1; simp at x1; have hs1 := hb1.size; simp only [World.size_alloc] at hs1; have HB1 := hideG (HA.out.trans (hb1.mono (by omega))); clear hb1) | (go_at_call 27; refine (insert_any T HS.out _ _ _ _ _ (HT0.out.below HB1.out)).mono ?_; rintro e w2 ⟨v2, rfl, hb2, ht2⟩; rw [HE.out]; rw [HR.out] at ht2; obtain ⟨a2, c2, rfl⟩ := ht2.shape; have y1 := (hb2.cell (p := ⟨w.heap.size, 1, none⟩) (by simp; omega)).trans x1; have HT2 := hideG ht2; have HB2 := hideG (HB1.out.trans (hb2.mono HB1.out.size)); clear hb2 ht2) | (go_at_call 30; refine (remove_any _ HSi.out _ _ _ HT2.out).mono ?_; rintro e w3 ⟨v3, rfl, hb3, ht3⟩; rw [Hr1.out]; rw [HR2.out] at ht3; obtain ⟨a3, c3, rfl⟩ := ht3.shape; have HT3 := hideG ht3; have HB3 := hideG (HB2.out.trans (hb3.mono HB2.out.size)); clear hb3 ht3) | (go_at_call 25; refine (refSame_any T T HS.out _ _ _ HT3.out (HT0.out.below HB3.out) (by omega)).mono ?_; rintro e w4 ⟨rfl, hb4⟩; rw [decide_eq_true rfl]; have HB4 := hideG (HB3.out.trans (hb4.mono HB3.out.size)); clear hb4) | (go_at_call 20; refine (live1_any _).mono ?_; rintro e w5 ⟨rfl, hb5⟩))
          go_ret
          exact ⟨rfl, HB4.out.trans (hb5.mono HB4.out.size)⟩
        · generalize hz : insertE T p c b = z at *
          have HZ := hideG hz
          clear hz
          go_enter Try.func6, Try.ntmps6
          go_wp2_with (first | (go_at_call 19; refine (refSmall_any T _ _ HT.out).mono ?_; rintro e w1 ⟨rfl, rfl⟩) | (go_at_call 34; refine (refIs_any _ _ _ _ _).mono ?_; rintro e w1 ⟨rfl, rfl⟩) | (go_at_call 28; refine (own_any _ _ _ _).mono ?_; rintro e w1 ⟨rfl, hb1⟩; simp only [World.size_alloc] at hb1; have HB1 := hideG (HA.out.trans (hb1.mono (by omega))); clear hb1) | (go_at_call 27; refine (insert_any T HS.out _ _ _ _ _ (HT0.out.below HB1.out)).mono ?_; rintro e w2 ⟨v2, rfl, hb2, ht2⟩; rw [HZ.out]; have HB2 := hideG (HB1.out.trans (hb2.mono HB1.out.size)); clear hb2 ht2) | (go_at_call 20; refine (live1_any _).mono ?_; rintro e w5 ⟨rfl, hb5⟩))
          go_ret
          exact ⟨rfl, HB2.out.trans (hb5.mono HB2.out.size)⟩
      · have hW : Below w.heap.size w ((w.alloc (.cells #[.int .i64 p, .int .i64 c, .int .i64 b] 33)).drew) := HA.out.trans ⟨rfl, rfl, rfl, Nat.le_refl _, fun _ _ => rfl⟩
        have HW := hideG hW
        have hins := insert_any T HS.out _ (nd T c).parent c c _ (HT0.out.below hW)
        have hins2 : Calls Try.prog 27 #[.slice (some ⟨ba, off, none⟩) T.length cap, .agg #[.int .i64 (nd T c).parent, .int .i64 c, .int .i64 c]] ((w.alloc (.cells #[.int .i64 p, .int .i64 c, .int .i64 b] 33)).drew) fun e w3 => ∃ a2 n2 c2, e = .returned (.tuple #[.slice a2 n2 c2, .int .i64 (insertE T (nd T c).parent c c)]) ∧ Hid (Below w.heap.size w w3 ∧ TreeAt w3 (.slice a2 n2 c2) (insertR T (nd T c).parent c c)) := by
          refine hins.mono ?_
          rintro e w3 ⟨v3, rfl, hb3, ht3⟩
          obtain ⟨a3, c3, rfl⟩ := ht3.shape
          exact ⟨a3, _, c3, rfl, HW.out.trans (hb3.mono HW.out.size), ht3⟩
        have HINS := hideG hins2
        clear hins hins2 hW
        cases h0 : (insertE T (nd T c).parent c c != 0)
        · have HR := hideG (insert_self (show insertE T (nd T c).parent c c = 0 by simpa using h0))
          go_enter Try.func6, Try.ntmps6
          go_wp2_with (first | (go_at_call 19; refine (refSmall_any T _ _ HT.out).mono ?_; rintro e w1 ⟨rfl, rfl⟩) | (go_at_call 34; refine (refIs_any _ _ _ _ _).mono ?_; rintro e w1 ⟨rfl, rfl⟩))
          go_region_with (go_at_call 27; refine HINS.out.mono ?_; rintro e w3 ⟨a2, n2, c2, rfl, HX⟩)
          all_goals
            have HT3 := hideG (show TreeAt w3 (.slice a2 n2 c2) T from by have := HX.out.2; rwa [HR.out] at this)
            have HB3 := hideG HX.out.1
            clear HX
            go_wp2_with (first | (go_at_call 25; refine (refSame_any T T HS.out _ _ _ HT3.out (HT0.out.below HB3.out) (by omega)).mono ?_; rintro e w4 ⟨rfl, hb4⟩; rw [decide_eq_true rfl]; have HB4 := hideG (HB3.out.trans (hb4.mono HB3.out.size)); clear hb4) | (go_at_call 20; refine (live1_any _).mono ?_; rintro e w5 ⟨rfl, hb5⟩))
            go_ret
            exact ⟨rfl, HB4.out.trans (hb5.mono HB4.out.size)⟩
        · go_enter Try.func6, Try.ntmps6
          go_wp2_with (first | (go_at_call 19; refine (refSmall_any T _ _ HT.out).mono ?_; rintro e w1 ⟨rfl, rfl⟩) | (go_at_call 34; refine (refIs_any _ _ _ _ _).mono ?_; rintro e w1 ⟨rfl, rfl⟩))
          go_region_with (go_at_call 27; refine HINS.out.mono ?_; rintro e w3 ⟨a2, n2, c2, rfl, HX⟩)
          all_goals
            have HB3 := hideG HX.out.1
            clear HX
            go_wp2_with (go_at_call 20; refine (live1_any _).mono ?_; rintro e w5 ⟨rfl, hb5⟩)
            go_ret
            exact ⟨rfl, HB3.out.trans (hb5.mono HB3.out.size)⟩
end Go.Proofs.Ytoolkpjbbngdpaa
