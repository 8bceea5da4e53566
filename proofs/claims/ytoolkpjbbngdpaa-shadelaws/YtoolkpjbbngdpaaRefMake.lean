/- The document's own Make and Attach: they answer as the program's. -/
import Derived.Test.YtoolkpjbbngdpaaRefCopy
import Derived.Test.YtoolkpjbbngdpaaAttach
import Derived.Test.YtoolkpjbbngdpaaMayEq2
namespace Go.Proofs.Ytoolkpjbbngdpaa
open Go.RowKit

theorem refMay_walk (T : List Nd) (hS : Sane T) (v : Value) (w : World) (hT : TreeAt w v T) :
    Calls Try.prog 33 #[v] w fun e w' => e = .returned (.bool (mayB T)) ∧ Below w.heap.size w w' := by
  rw [← refMay_eq]; exact refMay_any T hS v w hT

theorem make_bad {k t : Int} (h : ((k != 1 && k != 2) || !tagFitsB k t) = true) :
    ((k != 1) = true ∧ (k != 2) = true) ∨ (k = 1 ∧ t < 0) ∨ (k = 1 ∧ ¬ t < 0 ∧ 4 < t) ∨ (k = 2 ∧ t < 0) ∨ (k = 2 ∧ ¬ t < 0 ∧ 4 < t) ∨ (k = 2 ∧ ¬ t < 0 ∧ ¬ 4 < t ∧ (t != 0) = true) := by
  by_cases e1 : k = 1
  · subst e1
    have : tagFitsB 1 t = false := by simpa using h
    have h' : ¬ (0 ≤ t ∧ t ≤ 4) := by simpa [tagFitsB] using this
    by_cases h0 : t < 0
    · exact .inr (.inl ⟨rfl, h0⟩)
    · exact .inr (.inr (.inl ⟨rfl, h0, by omega⟩))
  · by_cases e2 : k = 2
    · subst e2
      have : tagFitsB 2 t = false := by simpa using h
      have h' : ¬ t = 0 := by simpa [tagFitsB] using this
      by_cases h0 : t < 0
      · exact .inr (.inr (.inr (.inl ⟨rfl, h0⟩)))
      · by_cases h4 : 4 < t
        · exact .inr (.inr (.inr (.inr (.inl ⟨rfl, h0, h4⟩))))
        · exact .inr (.inr (.inr (.inr (.inr ⟨rfl, h0, h4, by simpa using h'⟩))))
    · exact .inl ⟨by simpa using e1, by simpa using e2⟩
theorem make_good {k t : Int} (h : ((k != 1 && k != 2) || !tagFitsB k t) = false) : (k = 1 ∧ ¬ t < 0 ∧ ¬ 4 < t) ∨ (k = 2 ∧ t = 0) := by
  by_cases e1 : k = 1
  · subst e1
    have : tagFitsB 1 t = true := by simpa using h
    have h' : 0 ≤ t ∧ t ≤ 4 := by simpa [tagFitsB] using this
    exact .inl ⟨rfl, by omega, by omega⟩
  · by_cases e2 : k = 2
    · subst e2
      have : tagFitsB 2 t = true := by simpa using h
      exact .inr ⟨rfl, by simpa [tagFitsB] using this⟩
    · exfalso
      simp [e1, e2] at h

set_option maxRecDepth 100000 in
set_option maxHeartbeats 4000000 in
theorem refMake_any (T : List Nd) (hS : Sane T) (v : Value) (k t : Int) (w : World) (hT : TreeAt w v T) :
    Calls Try.prog 22 #[v, .int .i64 k, .int .i64 t] w fun e w' => ∃ v', e = .returned (.tuple #[v', .int .i64 (makeN T k t), .int .i64 (makeE T k t)]) ∧ Below w.heap.size w w' ∧ TreeAt w' v' (makeR T k t) := by
  obtain ⟨a, cap, rfl⟩ := hT.shape
  have HT := hideG hT
  have HS := hideG hS
  clear hT hS
  cases hm : mayB T
  · have hE : makeE T k t = 1 := by simp only [makeE, hm, Bool.false_eq_true, if_false]
    obtain ⟨hR, hN⟩ := makeR_one hE
    rw [hE, hR, hN]
    clear hE hR hN
    go_enter Try.func22, Try.ntmps22
    go_wp2_with (go_at_call 33; refine (refMay_walk T HS.out _ _ HT.out).mono ?_; rintro e w1 ⟨rfl, hb1⟩)
    go_ret3
    exact ⟨_, rfl, hb1, treeAt_nil _⟩
  · have hpos := mayB_pos hm
    have h1000 : T.length ≤ 1000 := by omega
    cases hk : ((k != 1 && k != 2) || !tagFitsB k t)
    · cases h64 : ((T.length : Int) == 64)
      · have hl : (T.length == 64) = false := by simp at h64 ⊢; omega
        have hE : makeE T k t = 0 := by simp only [makeE, hm, hk, hl, Bool.false_eq_true, if_false, if_true]
        obtain ⟨hR, hN⟩ := makeR_zero hE
        rw [hE, hR, hN]
        clear hE hR hN hl
        obtain ⟨i49, hi49, hz490, hz491, hz492⟩ := info_parts infoT49
        have hg := make_good hk
        clear hk
        rcases hg with ⟨rfl, e1, e2⟩ | ⟨rfl, rfl⟩
        · go_enter Try.func22, Try.ntmps22
          go_wp2_with (first | (go_at_call 33; refine (refMay_walk T HS.out _ _ HT.out).mono ?_; rintro e w1 ⟨rfl, hb1⟩) | (go_at_call 26; refine (refCopy_any T HS.out _ _ (HT.out.below hb1) h1000).mono ?_; rintro e w2 ⟨v', kv, av, rfl, ho, hb2⟩; obtain ⟨g, cap', rfl⟩ := ownsRow_some ho.row hpos.1; have hs1 := hb1.size; have hs2 := hb2.size; have HO := hideG (ho.weaken hs1); have HB := hideG ((Below.refl _ w2).alloc (Nat.le_refl _) (.cells #[.int .i64 1, .int .i64 t, .int .i64 (-1), .slice none 0 0, .int .i64 (-1), .int .i64 (-1), .slice none 0 0] 49)); have HO2 := hideG (HO.out.below HB.out); have HB1 := hideG hb1; have HB2 := hideG hb2; clear ho hb1 hb2) | (at_builtin; refine wpList_append_any rfl (.tmp 42) (.tmp 46) 23 rfl w.heap.size 49 i49 _ 7 88 Try.underlying23 hi49 hz490 hz491 hz492 rfl (by decide) _ T.length (rowL T kv av) rfl ?h0 _ 1 (ndCells (lonex 1 t) (.slice none 0 0) (.slice none 0 0)) rfl ?h1 rfl ?h2 ?h3 ?h4 ?h5 ?_))
          case h0 => exact HO2.out.row
          case h1 =>
            refine .inl ⟨⟨w2.heap.size, 0, none⟩, 1, rfl, fun j u hj => ?_⟩
            rw [addr_add, Nat.zero_add, World.cell?_alloc_at _ _ _ _ (by simp)]
            simpa [ndCells, lonex] using hj
          case h2 =>
            intro x hx
            simp only [ndCells, List.mem_cons, List.not_mem_nil, or_false] at hx
            rcases hx with rfl | rfl | rfl | rfl | rfl | rfl | rfl <;> rfl
          case h3 => simp only [maxLen]; omega
          case h4 => omega
          case h5 => simp; omega
          intro v4 w4 ho4 hg4 hf4
          obtain ⟨a4, c4, rfl⟩ := ownsRow_shape ho4
          have hN := hideG (HO.out.pushLone HB.out hg4 ho4 (fun j e => by have := hf4 j e; simpa using this))
          have hW := hideG (((HB1.out.trans (HB2.out.mono hs1)).trans (HB.out.mono (by omega))).grown hg4 (by simp; omega) (fun j e => (HO.out.row.lt j e).1))
          clear ho4 hg4 hf4
          go_wp2_with fail
          go_ret3
          exact ⟨_, rfl, hW.out, hN.out.treeAt⟩
        · go_enter Try.func22, Try.ntmps22
          go_wp2_with (first | (go_at_call 33; refine (refMay_walk T HS.out _ _ HT.out).mono ?_; rintro e w1 ⟨rfl, hb1⟩) | (go_at_call 26; refine (refCopy_any T HS.out _ _ (HT.out.below hb1) h1000).mono ?_; rintro e w2 ⟨v', kv, av, rfl, ho, hb2⟩; obtain ⟨g, cap', rfl⟩ := ownsRow_some ho.row hpos.1; have hs1 := hb1.size; have hs2 := hb2.size; have HO := hideG (ho.weaken hs1); have HB := hideG ((Below.refl _ w2).alloc (Nat.le_refl _) (.cells #[.int .i64 2, .int .i64 0, .int .i64 (-1), .slice none 0 0, .int .i64 (-1), .int .i64 (-1), .slice none 0 0] 49)); have HO2 := hideG (HO.out.below HB.out); have HB1 := hideG hb1; have HB2 := hideG hb2; clear ho hb1 hb2) | (at_builtin; refine wpList_append_any rfl (.tmp 42) (.tmp 46) 23 rfl w.heap.size 49 i49 _ 7 88 Try.underlying23 hi49 hz490 hz491 hz492 rfl (by decide) _ T.length (rowL T kv av) rfl ?h0 _ 1 (ndCells (lonex 2 0) (.slice none 0 0) (.slice none 0 0)) rfl ?h1 rfl ?h2 ?h3 ?h4 ?h5 ?_))
          case h0 => exact HO2.out.row
          case h1 =>
            refine .inl ⟨⟨w2.heap.size, 0, none⟩, 1, rfl, fun j u hj => ?_⟩
            rw [addr_add, Nat.zero_add, World.cell?_alloc_at _ _ _ _ (by simp)]
            simpa [ndCells, lonex] using hj
          case h2 =>
            intro x hx
            simp only [ndCells, List.mem_cons, List.not_mem_nil, or_false] at hx
            rcases hx with rfl | rfl | rfl | rfl | rfl | rfl | rfl <;> rfl
          case h3 => simp only [maxLen]; omega
          case h4 => omega
          case h5 => simp; omega
          intro v4 w4 ho4 hg4 hf4
          obtain ⟨a4, c4, rfl⟩ := ownsRow_shape ho4
          have hN := hideG (HO.out.pushLone HB.out hg4 ho4 (fun j e => by have := hf4 j e; simpa using this))
          have hW := hideG (((HB1.out.trans (HB2.out.mono hs1)).trans (HB.out.mono (by omega))).grown hg4 (by simp; omega) (fun j e => (HO.out.row.lt j e).1))
          clear ho4 hg4 hf4
          go_wp2_with fail
          go_ret3
          exact ⟨_, rfl, hW.out, hN.out.treeAt⟩
      · have hl : (T.length == 64) = true := by simp at h64 ⊢; omega
        have hE : makeE T k t = 4 := by simp only [makeE, hm, hk, hl, Bool.false_eq_true, if_false, if_true]
        obtain ⟨hR, hN⟩ := makeR_else (T := T) (k := k) (t := t) (by rw [hE]; decide) (by rw [hE]; decide)
        rw [hE, hR, hN]
        clear hE hR hN hl
        have hg := make_good hk
        clear hk
        rcases hg with ⟨rfl, e1, e2⟩ | ⟨rfl, rfl⟩
        all_goals
          go_enter Try.func22, Try.ntmps22
          go_wp2_with (go_at_call 33; refine (refMay_walk T HS.out _ _ HT.out).mono ?_; rintro e w1 ⟨rfl, hb1⟩)
          go_ret3
          exact ⟨_, rfl, hb1, HT.out.below hb1⟩
    · have hE : makeE T k t = 3 := by simp only [makeE, hm, hk, if_true]
      obtain ⟨hR, hN⟩ := makeR_else (T := T) (k := k) (t := t) (by rw [hE]; decide) (by rw [hE]; decide)
      rw [hE, hR, hN]
      clear hE hR hN
      have hg := make_bad hk
      clear hk
      rcases hg with ⟨e1, e2⟩ | ⟨rfl, e1⟩ | ⟨rfl, e1, e2⟩ | ⟨rfl, e1⟩ | ⟨rfl, e1, e2⟩ | ⟨rfl, e1, e2, e3⟩
      all_goals
        go_enter Try.func22, Try.ntmps22
        go_wp2_with (go_at_call 33; refine (refMay_walk T HS.out _ _ HT.out).mono ?_; rintro e w1 ⟨rfl, hb1⟩)
        go_ret3
        exact ⟨_, rfl, hb1, HT.out.below hb1⟩
end Go.Proofs.Ytoolkpjbbngdpaa
