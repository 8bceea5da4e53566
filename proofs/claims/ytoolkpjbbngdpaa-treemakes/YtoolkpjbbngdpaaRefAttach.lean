/- The document's own Attach: it answers as the program's. -/
import Derived.Test.YtoolkpjbbngdpaaRefMake
import Derived.Test.YtoolkpjbbngdpaaStays2
import Derived.Test.YtoolkpjbbngdpaaSame2
namespace Go.Proofs.Ytoolkpjbbngdpaa
open Go.RowKit

/-- A node without kids and attributes, behind a tree of the call's own. -/
theorem OwnTree.pushBare {w w' w4 : World} {base : Nat} {v v' : Value} {T : List Nd} {kv av : Nat → Value} {x : Nd} (hk : x.kids = []) (ha : x.attrs = []) (h : OwnTree w base v T kv av) (hb : Below w.heap.size w w')
    (hg : w'.grownBy w4 v.ownBlock) (ho : w4.ownsRow base 49 7 v' (T.length + 1) (rowL T kv av ++ ndCells x (.slice none 0 0) (.slice none 0 0))) (hf : ∀ k, v'.ownBlock = some k → v.ownBlock = some k ∨ w'.heap.size ≤ k) :
    OwnTree w4 base v' (T ++ [x]) (upd kv T.length (.slice none 0 0)) (upd av T.length (.slice none 0 0)) := by
  have h' := h.below hb
  exact h'.push (N := w.heap.size) (M := w.heap.size) (fun j e => (h.row.lt j e).2) (fun n j hn e => ((h.kids n hn).lt j e).2) (fun n j hn e => ((h.attrs n hn).lt j e).2)
    (by rw [hk]; exact World.ownsRow_nil _ _ _ _) (fun j e => by cases e) (by rw [ha]; exact World.ownsRow_nil _ _ _ _) (fun j e => by cases e) hg ho hf

theorem attachL_eq {T : List Nd} {h : Nat} (hh : h < T.length) : withRoot T h (T.length : Int) ++ [⟨3, 0, -1, [], (h : Int), -1, []⟩] = attachL T h := by
  refine tree_ext (by rw [attachL_length]; simp [withRoot_length]) (fun n hn => ?_)
  have hl : (withRoot T h (T.length : Int)).length = T.length := withRoot_length T h _
  have hn' : n < T.length + 1 := by simpa [hl] using hn
  rw [attachL_nd hh n hn']
  by_cases e : n = T.length
  · subst e
    rw [if_pos rfl]
    have := nd_snoc_eq (withRoot T h (T.length : Int)) ⟨3, 0, -1, [], (h : Int), -1, []⟩
    rw [hl] at this
    exact this
  · rw [if_neg e, nd_snoc_lt _ _ (by rw [hl]; omega), nd_withRoot T h _ hh]

set_option maxRecDepth 100000 in
set_option maxHeartbeats 4000000 in
theorem refAttach_any (T : List Nd) (hS : Sane T) (v : Value) (h : Int) (w : World) (hT : TreeAt w v T) :
    Calls Try.prog 24 #[v, .int .i64 h] w fun e w' => ∃ v', e = .returned (.tuple #[v', .int .i64 (attachN T h), .int .i64 (attachE T h)]) ∧ Below w.heap.size w w' ∧ TreeAt w' v' (attachR T h) := by
  obtain ⟨a, cap, rfl⟩ := hT.shape
  have HT := hideG hT
  have HS := hideG hS
  cases hm : mayB T
  · have hE : attachE T h = 1 := by simp only [attachE, hm, Bool.false_eq_true, if_false]
    obtain ⟨hR, hN⟩ := attachR_one hE
    rw [hE, hR, hN]
    clear hE hR hN hT hS
    go_enter Try.func24, Try.ntmps24
    go_wp2_with (go_at_call 33; refine (refMay_walk T HS.out _ _ HT.out).mono ?_; rintro e w1 ⟨rfl, hb1⟩)
    go_ret3
    exact ⟨_, rfl, hb1, treeAt_nil _⟩
  · have hpos := mayB_pos hm
    have h1000 : T.length ≤ 1000 := by omega
    have hE0 : attachE T h = attachF T h := by simp only [attachE, hm, if_true]
    cases hi : isNodeB T.length h
    · have hE : attachE T h = 2 := by rw [hE0]; simp only [attachF, hi, Bool.not_false, if_true]
      obtain ⟨hR, hN⟩ := attachR_else (T := T) (h := h) (by rw [hE]; decide) (by rw [hE]; decide)
      rw [hE, hR, hN]
      clear hE hR hN hT hS hE0
      go_enter Try.func24, Try.ntmps24
      go_wp2_with (first | (go_at_call 33; refine (refMay_walk T HS.out _ _ HT.out).mono ?_; rintro e w1 ⟨rfl, hb1⟩) | (go_at_call 34; refine (refIs_any _ _ _ _ _).mono ?_; rintro e w3 ⟨rfl, rfl⟩))
      go_ret3
      exact ⟨_, rfl, hb1, HT.out.below hb1⟩
    · obtain ⟨m, rfl, hml⟩ := isNodeB_true hi
      obtain ⟨b, off, cap', hv, hc⟩ := hT.at (by omega)
      simp only [Value.slice.injEq, true_and] at hv
      obtain ⟨rfl, rfl⟩ := hv
      obtain ⟨kv, av, hN⟩ := hc m hml
      have g0 := hN.kind
      have g5 := hN.root
      have hbz : b < w.heap.size := below_of_cell g0
      clear hN hc hT hS
      cases hk : ((nd T m).kind != 1)
      · cases hr : ((nd T m).root != -1)
        · cases hl : ((T.length : Int) == 64)
          · have hF : attachF T m = 0 := by simp only [attachF, hi, Int.toNat_natCast, hk, hr, hl, Bool.not_true, Bool.false_eq_true, if_false]
            rw [hF] at hE0
            obtain ⟨hR, hN⟩ := attachR_zero hE0
            rw [hE0, hR, hN, Int.toNat_natCast]
            clear hR hN hE0 hF
            obtain ⟨i49, hi49, hz490, hz491, hz492⟩ := info_parts infoT49
            go_enter Try.func24, Try.ntmps24
            go_wp2_with (first | (go_at_call 33; refine (refMay_walk T HS.out _ _ HT.out).mono ?_; rintro e w1 ⟨rfl, hb1⟩; have y0 := (hb1.cell (p := ⟨b, off + m * 7, none⟩) hbz).trans g0; have y5 := (hb1.cell (p := ⟨b, off + m * 7 + 5, none⟩) hbz).trans g5) | (go_at_call 34; refine (refIs_any _ _ _ _ _).mono ?_; rintro e w3 ⟨rfl, rfl⟩) | (go_at_call 26; refine (refCopy_any T HS.out _ _ (HT.out.below hb1) h1000).mono ?_; rintro e w2 ⟨v', kv, av, rfl, ho, hb2⟩; obtain ⟨g, cap', rfl⟩ := ownsRow_some ho.row hpos.1; have hs1 := hb1.size; have hs2 := hb2.size; have hc5 : ∃ z, w2.cell? ⟨g, m * 7 + 5, none⟩ = some z := ⟨_, by rw [ho.row.cellAt (m * 7 + 5) (by omega), rowL_at (by omega)]⟩; obtain ⟨z5, c5⟩ := hc5; have f5 := ho.row.frozenAt (m * 7 + 5); have hgb : w.heap.size ≤ g := (by have := (ho.row.lt g rfl).1; omega); have HO := hideG ((ho.weaken hs1).setRoot hml (T.length : Int)); have HB1 := hideG ((hb1.trans (hb2.mono hs1)).setCell (p := ⟨g, m * 7 + 5, none⟩) hgb (.int .i64 (T.length : Int))); clear ho hb1 hb2 y0 y5) | (at_builtin; refine wpList_append_any rfl (.tmp 42) (.tmp 45) 23 rfl w.heap.size 49 i49 _ 7 88 Try.underlying23 hi49 hz490 hz491 hz492 rfl (by decide) _ T.length (rowL (withRoot T m (T.length : Int)) kv av) rfl ?h0 _ 1 (ndCells ⟨3, 0, -1, [], (m : Int), -1, []⟩ (.slice none 0 0) (.slice none 0 0)) rfl ?h1 rfl ?h2 ?h3 ?h4 ?h5 ?_))
            case h0 =>
              have := (HO.out.below ((Below.refl _ _).alloc (Nat.le_refl _) (.cells #[.int .i64 3, .int .i64 0, .int .i64 (-1), .slice none 0 0, .int .i64 (m : Int), .int .i64 (-1), .slice none 0 0] 49))).row
              rw [withRoot_length] at this
              exact this
            case h1 =>
              refine .inl ⟨⟨w2.heap.size, 0, none⟩, 1, rfl, fun j u hj => ?_⟩
              rw [addr_add, Nat.zero_add, World.cell?_alloc_at _ _ _ _ (by simp)]
              simpa [ndCells] using hj
            case h2 =>
              intro x hx
              simp only [ndCells, List.mem_cons, List.not_mem_nil, or_false] at hx
              rcases hx with rfl | rfl | rfl | rfl | rfl | rfl | rfl <;> rfl
            case h3 => simp only [maxLen]; omega
            case h4 => omega
            case h5 => simp; omega
            intro v4 w4 ho4 hg4 hf4
            obtain ⟨a4, c4, rfl⟩ := ownsRow_shape ho4
            have hN := HO.out.pushBare (x := ⟨3, 0, -1, [], (m : Int), -1, []⟩) rfl rfl ((Below.refl _ _).alloc (Nat.le_refl _) _) hg4 (by rw [withRoot_length]; exact ho4) (fun j e => by have := hf4 j e; simpa using this)
            rw [attachL_eq hml] at hN
            have HN := hideG hN
            have hW := hideG ((HB1.out.alloc (by simp; omega) (.cells #[.int .i64 3, .int .i64 0, .int .i64 (-1), .slice none 0 0, .int .i64 (m : Int), .int .i64 (-1), .slice none 0 0] 49)).grown hg4 (by simp; omega) (fun j e => by have := (HO.out.row.lt j e).1; exact this))
            clear ho4 hg4 hf4 hN
            go_wp2_with fail
            go_ret3
            exact ⟨_, rfl, hW.out, HN.out.treeAt⟩
          · have hF : attachF T m = 4 := by simp only [attachF, hi, Int.toNat_natCast, hk, hr, hl, Bool.not_true, Bool.false_eq_true, if_false, if_true]
            rw [hF] at hE0
            obtain ⟨hR, hN⟩ := attachR_else (T := T) (h := m) (by rw [hE0]; decide) (by rw [hE0]; decide)
            rw [hE0, hR, hN]
            clear hR hN hE0 hF
            go_enter Try.func24, Try.ntmps24
            go_wp2_with (first | (go_at_call 33; refine (refMay_walk T HS.out _ _ HT.out).mono ?_; rintro e w1 ⟨rfl, hb1⟩; have y0 := (hb1.cell (p := ⟨b, off + m * 7, none⟩) hbz).trans g0; have y5 := (hb1.cell (p := ⟨b, off + m * 7 + 5, none⟩) hbz).trans g5) | (go_at_call 34; refine (refIs_any _ _ _ _ _).mono ?_; rintro e w3 ⟨rfl, rfl⟩))
            go_ret3
            exact ⟨_, rfl, hb1, HT.out.below hb1⟩
        · have hF : attachF T m = 6 := by simp only [attachF, hi, Int.toNat_natCast, hk, hr, Bool.not_true, Bool.false_eq_true, if_false, if_true]
          rw [hF] at hE0
          obtain ⟨hR, hN⟩ := attachR_else (T := T) (h := m) (by rw [hE0]; decide) (by rw [hE0]; decide)
          rw [hE0, hR, hN]
          clear hR hN hE0 hF
          go_enter Try.func24, Try.ntmps24
          go_wp2_with (first | (go_at_call 33; refine (refMay_walk T HS.out _ _ HT.out).mono ?_; rintro e w1 ⟨rfl, hb1⟩; have y0 := (hb1.cell (p := ⟨b, off + m * 7, none⟩) hbz).trans g0; have y5 := (hb1.cell (p := ⟨b, off + m * 7 + 5, none⟩) hbz).trans g5) | (go_at_call 34; refine (refIs_any _ _ _ _ _).mono ?_; rintro e w3 ⟨rfl, rfl⟩))
          go_ret3
          exact ⟨_, rfl, hb1, HT.out.below hb1⟩
      · have hF : attachF T m = 3 := by simp only [attachF, hi, Int.toNat_natCast, hk, Bool.not_true, Bool.false_eq_true, if_false, if_true]
        rw [hF] at hE0
        obtain ⟨hR, hN⟩ := attachR_else (T := T) (h := m) (by rw [hE0]; decide) (by rw [hE0]; decide)
        rw [hE0, hR, hN]
        clear hR hN hE0 hF
        go_enter Try.func24, Try.ntmps24
        go_wp2_with (first | (go_at_call 33; refine (refMay_walk T HS.out _ _ HT.out).mono ?_; rintro e w1 ⟨rfl, hb1⟩; have y0 := (hb1.cell (p := ⟨b, off + m * 7, none⟩) hbz).trans g0; have y5 := (hb1.cell (p := ⟨b, off + m * 7 + 5, none⟩) hbz).trans g5) | (go_at_call 34; refine (refIs_any _ _ _ _ _).mono ?_; rintro e w3 ⟨rfl, rfl⟩))
        go_ret3
        exact ⟨_, rfl, hb1, HT.out.below hb1⟩
end Go.Proofs.Ytoolkpjbbngdpaa
