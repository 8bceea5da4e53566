/- The document's own Add of layer 8. -/
import Derived.Test.YtahnkhgaopaaoabHear8
namespace Go.Proofs.Ytahnkhgaopaaoab
open Go.RowKit

theorem holds_grown {U w4 : World} {u : Value} {m : Nat} {news : List Value} {row : Option Nat} (h : Holds U u m news) (hg : U.grownBy w4 row) (hne : ∀ ad c, u = .slice (some ad) m c → row ≠ some ad.block) : Holds w4 u m news := by
  rcases h with ⟨ad, c, rfl, hc⟩ | h
  · refine .inl ⟨ad, c, rfl, fun j x hx => ?_⟩
    have h1 := hc j x hx
    have hb : (ad.add j).block = ad.block := by unfold Addr.add; split <;> rfl
    have hlt := below_of_cell h1
    refine (World.cell?_of_block (a := ad.add j) (hg.block _ hlt (fun e => ?_))).trans h1
    rw [hb] at e
    exact hne ad c rfl e.symm
  · exact .inr h
theorem own_made (w : World) {base : Nat} (h : base ≤ w.heap.size) : (w.alloc (.cells #[] 24)).ownsRow base 24 5 (.slice (some ⟨w.heap.size, 0, none⟩) 0 0) 0 [] := ownsRow_base (World.ownsRow_made w #[] 0 (Nat.le_refl _) (by simp [maxLen]) rfl) h

theorem own_made2 (w : World) (o : Obj) {base : Nat} (h : base ≤ w.heap.size) : ((w.alloc o).alloc (.cells #[] 24)).ownsRow base 24 5 (.slice (some ⟨w.heap.size + 1, 0, none⟩) 0 0) 0 [] := by
  have := own_made (w.alloc o) (base := base) (by simp; omega)
  rw [World.size_alloc] at this
  exact this

set_option maxRecDepth 100000 in
set_option maxHeartbeats 4000000 in
theorem refAdd_any (l : List Hr) (h : Hr) (v : Value) (w : World) (hL : HearsAt w v l) (hl : l.length ≤ 100000) :
    Calls Try.prog 10 #[v, .agg #[.int .i64 h.node, .int .i64 h.type, .bool h.cap, .bool h.once, .int .i64 h.prog]] w fun x w' => ∃ a c, x = .returned (.tuple #[.slice a (addL l h).length c, .int .i64 (addE l h)]) ∧ HearsAt w' (.slice a (addL l h).length c) (addL l h) ∧ Below w.heap.size w w' := by
  obtain ⟨i0, hi0, hz0, hz1, hz2⟩ := info_parts infoT24
  have h6 : l.length ≤ 1000000 := by omega
  have HL := hideG hL
  obtain ⟨a, cap, rfl⟩ := hL.shape
  obtain ⟨W0, hW0⟩ : ∃ W0, w.alloc (.cells #[.int .i64 h.node, .int .i64 h.type, .bool h.cap, .bool h.once, .int .i64 h.prog] 24) = W0 := ⟨_, rfl⟩
  have HH : Hid (HearAt W0 w.heap.size 0 h) := by rw [← hW0]; exact ⟨by simp, by simp, by simp, by simp, by simp⟩
  have HB0 := hideG (show Below w.heap.size w W0 by rw [← hW0]; exact (Below.refl _ w).alloc (Nat.le_refl _) _)
  have HW0 := hideG hW0
  clear hL hW0
  cases hm : mayH h
  · have hq1 : addL l h = l := by simp [addL, hm]
    have hq2 : addE l h = 1 := by simp [addE, hm]
    rw [hq1, hq2]
    have HM := hideG hm
    clear hm hq1 hq2
    go_enter Try.func10, Try.ntmps10
    go_wp2_with fail
    rw [HW0.out]
    refine (refMay_any h _).mono ?_
    rintro e w1 ⟨rfl, hb1⟩
    rw [HM.out]
    have HB1 := hideG (HB0.out.trans (hb1.mono HB0.out.size))
    have HG := hideG (HH.out.below hb1)
    have h0 := HG.out.node
    have h1 := HG.out.type
    have h2 := HG.out.cap
    have h3 := HG.out.once
    have h4 := HG.out.prog
    clear hb1
    go_wp2_with fail
    go_ret2
    exact ⟨a, cap, rfl, HL.out.below HB1.out, HB1.out⟩
  · have HM := hideG hm
    cases hh : hasB l h
    · have EF := hideG (show findI l h = -1 by rw [findI_has, hh]; rfl)
      by_cases h64 : (64 : Int) ≤ (l.length : Int)
      · have hq1 : addL l h = l := by simp [addL, hm, hh]; omega
        have hq2 : addE l h = 4 := by simp [addE, hm, hh]; omega
        rw [hq1, hq2]
        clear hm hh hq1 hq2
        go_enter Try.func10, Try.ntmps10
        go_wp2_with fail
        rw [HW0.out]
        refine (refMay_any h _).mono ?_
        rintro e w1 ⟨rfl, hb1⟩
        rw [HM.out]
        have HB1 := hideG (HB0.out.trans (hb1.mono HB0.out.size))
        have HG := hideG (HH.out.below hb1)
        have h0 := HG.out.node
        have h1 := HG.out.type
        have h2 := HG.out.cap
        have h3 := HG.out.once
        have h4 := HG.out.prog
        clear hb1
        go_wp2_with fail
        refine (refPlace_any l h _ _ (HL.out.below HB1.out) h6).mono ?_
        rintro e w2 ⟨rfl, hb2⟩
        rw [EF.out]
        have HB2 := hideG (HB1.out.trans (hb2.mono HB1.out.size))
        have HG2 := hideG (HG.out.below hb2)
        clear hb2 h0 h1 h2 h3 h4
        have h0 := HG2.out.node
        have h1 := HG2.out.type
        have h2 := HG2.out.cap
        have h3 := HG2.out.once
        have h4 := HG2.out.prog
        go_wp2_with fail
        go_ret2
        exact ⟨a, cap, rfl, HL.out.below HB2.out, HB2.out⟩
      · have hq1 : addL l h = l ++ [h] := by simp [addL, hm, hh]; omega
        have hq2 : addE l h = 0 := by simp [addE, hm, hh]; omega
        rw [hq1, hq2]
        clear hm hh hq1 hq2
        go_enter Try.func10, Try.ntmps10
        go_wp2_with fail
        rw [HW0.out]
        refine (refMay_any h _).mono ?_
        rintro e w1 ⟨rfl, hb1⟩
        rw [HM.out]
        have HB1 := hideG (HB0.out.trans (hb1.mono HB0.out.size))
        have HG := hideG (HH.out.below hb1)
        have h0 := HG.out.node
        have h1 := HG.out.type
        have h2 := HG.out.cap
        have h3 := HG.out.once
        have h4 := HG.out.prog
        clear hb1
        go_wp2_with fail
        refine (refPlace_any l h _ _ (HL.out.below HB1.out) h6).mono ?_
        rintro e w2 ⟨rfl, hb2⟩
        rw [EF.out]
        have HB2 := hideG (HB1.out.trans (hb2.mono HB1.out.size))
        have HG2 := hideG (HG.out.below hb2)
        clear hb2 h0 h1 h2 h3 h4
        have h0 := HG2.out.node
        have h1 := HG2.out.type
        have h2 := HG2.out.cap
        have h3 := HG2.out.once
        have h4 := HG2.out.prog
        go_wp2_with fail
        have hwb : w.heap.size < w2.heap.size := below_of_cell h0
        have HLW := hideG (show ∀ U, Below w2.heap.size w2 U → Holds U (.slice a l.length cap) l.length (hearCells l) from fun U hU => hears_holds (HL.out.below (HB2.out.trans (hU.mono HB2.out.size))))
        have HCL := hearCells_length l
        have HCO := hideG (hearCells_one l)
        go_region_held3 (fun w' => Below w2.heap.size w2 w' ∧ w'.cell? ⟨w.heap.size, 0, none⟩ = some (.int .i64 h.node) ∧ w'.cell? ⟨w.heap.size, 1, none⟩ = some (.int .i64 h.type) ∧ w'.cell? ⟨w.heap.size, 2, none⟩ = some (.bool h.cap) ∧ w'.cell? ⟨w.heap.size, 3, none⟩ = some (.bool h.once) ∧ w'.cell? ⟨w.heap.size, 4, none⟩ = some (.int .i64 h.prog)) (refine ⟨?_, ?_, ?_, ?_, ?_, ?_⟩ <;> first | assumption | exact below_drew' (Below.refl _ _) | exact below_drew' (by assumption) | exact Below.alloc (by assumption) (Below.size (by assumption)) _ | exact (below_drew' (Below.refl _ _)).alloc (Nat.le_refl _) _ | exact Below.alloc ((below_drew' (Below.refl _ _)).alloc (Nat.le_refl _) _) (by simp) _ | exact cell_below (by assumption) h0 | exact cell_below (by assumption) h1 | exact cell_below (by assumption) h2 | exact cell_below (by assumption) h3 | exact cell_below (by assumption) h4 | go_keep) (first | (rw [if_pos (by rfl)]; refine wp_append_any (.tmp 19) (.tmp 20) 22 rfl w2.heap.size 24 i0 _ 5 32 Try.underlying22 hi0 hz0 hz1 hz2 rfl (by decide) _ 0 [] rfl (by first | exact own_made w2.drew (Nat.le_refl _) | exact World.ownsRow.alloc (own_made w2.drew (Nat.le_refl _)) _ | exact own_made2 w2.drew _ (Nat.le_refl _)) _ l.length (hearCells l) rfl (HLW.out _ (by first | assumption | exact below_drew' (Below.refl _ _) | exact (below_drew' (Below.refl _ _)).alloc (Nat.le_refl _) _ | exact Below.alloc (by assumption) (Below.size (by assumption)) _ | exact Below.alloc ((below_drew' (Below.refl _ _)).alloc (Nat.le_refl _) _) (by simp) _)) HCL HCO.out (by simp only [maxLen]; omega) (by omega) (Below.size (by first | assumption | exact below_drew' (Below.refl _ _) | exact (below_drew' (Below.refl _ _)).alloc (Nat.le_refl _) _ | exact Below.alloc (by assumption) (Below.size (by assumption)) _ | exact Below.alloc ((below_drew' (Below.refl _ _)).alloc (Nat.le_refl _) _) (by simp) _)) ?_; intro v4 w4 ho4 hg4 hf4; have hb4 : Below w2.heap.size w2 w4 := Below.grown (by first | assumption | exact below_drew' (Below.refl _ _) | exact (below_drew' (Below.refl _ _)).alloc (Nat.le_refl _) _ | exact Below.alloc (by assumption) (Below.size (by assumption)) _ | exact Below.alloc ((below_drew' (Below.refl _ _)).alloc (Nat.le_refl _) _) (by simp) _) hg4 (Below.size (by first | assumption | exact below_drew' (Below.refl _ _) | exact (below_drew' (Below.refl _ _)).alloc (Nat.le_refl _) _ | exact Below.alloc (by assumption) (Below.size (by assumption)) _ | exact Below.alloc ((below_drew' (Below.refl _ _)).alloc (Nat.le_refl _) _) (by simp) _)) (fun j e => by first | exact (World.ownsRow.lt (own_made w2.drew (Nat.le_refl _)) j e).1 | exact (World.ownsRow.lt (own_made2 w2.drew (.cells #[.int .i64 h.node, .int .i64 h.type, .bool h.cap, .bool h.once, .int .i64 h.prog] 24) (Nat.le_refl _)) j e).1); first | (have hk4 := holds_grown (holds_below (row_newH2 w2 (.cells #[] 24) h) (below_drew' (Below.refl _ _))) hg4 (by intro ad c e; cases e; show (some w2.heap.size : Option Nat) ≠ some (w2.heap.size + 1); simp)) | (have hk4 := holds_grown (holds_below (holds_below (row_newH w2 h) ((Below.refl _ _).alloc (Nat.le_refl _) (.cells #[] 24))) (below_drew' (Below.refl _ _))) hg4 (by intro ad c e; cases e; show (some (w2.heap.size + 1) : Option Nat) ≠ some w2.heap.size; simp)) | skip) | (rw [if_pos (by rfl)]; refine wp_append_any (.tmp 21) (.tmp 23) 22 rfl w2.heap.size 24 i0 _ 5 32 Try.underlying22 hi0 hz0 hz1 hz2 rfl (by decide) _ (0 + l.length) ([] ++ hearCells l) rfl (by first | assumption | exact World.ownsRow.alloc (by assumption) _) _ 1 [.int .i64 h.node, .int .i64 h.type, .bool h.cap, .bool h.once, .int .i64 h.prog] rfl (by first | exact hk4 | assumption | exact row_newH _ h) rfl (fun y hy => by simp at hy; rcases hy with rfl | rfl | rfl | rfl | rfl <;> rfl) (by simp only [maxLen]; omega) (by omega) (Below.size (by first | assumption | exact below_drew' (Below.refl _ _) | exact (below_drew' (Below.refl _ _)).alloc (Nat.le_refl _) _ | exact Below.alloc (by assumption) (Below.size (by assumption)) _ | exact Below.alloc ((below_drew' (Below.refl _ _)).alloc (Nat.le_refl _) _) (by simp) _)) ?_; intro v5 w5 ho5 hg5 hf5; have hb5 : Below w2.heap.size w2 w5 := Below.grown (by first | assumption | exact below_drew' (Below.refl _ _) | exact (below_drew' (Below.refl _ _)).alloc (Nat.le_refl _) _ | exact Below.alloc (by assumption) (Below.size (by assumption)) _ | exact Below.alloc ((below_drew' (Below.refl _ _)).alloc (Nat.le_refl _) _) (by simp) _) hg5 (Below.size (by first | assumption | exact below_drew' (Below.refl _ _) | exact (below_drew' (Below.refl _ _)).alloc (Nat.le_refl _) _ | exact Below.alloc (by assumption) (Below.size (by assumption)) _ | exact Below.alloc ((below_drew' (Below.refl _ _)).alloc (Nat.le_refl _) _) (by simp) _)) (fun j e => (World.ownsRow.lt (by assumption) j e).1)))
        all_goals
          have HB4 := hideG (HB2.out.trans (Below.mono (by assumption : Below w2.heap.size w2 w5) HB2.out.size))
          have HOx := hideG (by assumption : w5.ownsRow w2.heap.size 24 5 v5 (0 + l.length + 1) ([] ++ hearCells l ++ [.int .i64 h.node, .int .i64 h.type, .bool h.cap, .bool h.once, .int .i64 h.prog]))
          obtain ⟨a4, c4, hv4⟩ := ownsRow_shape HOx.out
          subst hv4
          have ec : [] ++ hearCells l ++ [.int .i64 h.node, .int .i64 h.type, .bool h.cap, .bool h.once, .int .i64 h.prog] = hearCells (l ++ [h]) := by rw [hearCells_append]; rfl
          rw [ec] at HOx
          have hl4 : 0 + l.length + 1 = (l ++ [h]).length := by simp
          have HL4 := hideG hl4
          rw [hl4] at HOx
          have HH4 := hideG (ownsRow_hears HOx.out)
          clear HOx ec hl4
          go_wp2_with fail
          go_ret2
          refine ⟨a4, c4, ?_, HH4.out, HB4.out⟩
          rw [← HL4.out]
          rfl
    · have EF := hideG (show findI l h = (findL h l : Int) by rw [findI_has, hh]; rfl)
      have hq0 : (0 : Int) ≤ (findL h l : Int) := by omega
      have hq1 : addL l h = l := by simp [addL, hm, hh]
      have hq2 : addE l h = 0 := by simp [addE, hm, hh]
      rw [hq1, hq2]
      clear hm hh hq1 hq2
      go_enter Try.func10, Try.ntmps10
      go_wp2_with fail
      rw [HW0.out]
      refine (refMay_any h _).mono ?_
      rintro e w1 ⟨rfl, hb1⟩
      rw [HM.out]
      have HB1 := hideG (HB0.out.trans (hb1.mono HB0.out.size))
      have HG := hideG (HH.out.below hb1)
      have h0 := HG.out.node
      have h1 := HG.out.type
      have h2 := HG.out.cap
      have h3 := HG.out.once
      have h4 := HG.out.prog
      clear hb1
      go_wp2_with fail
      refine (refPlace_any l h _ _ (HL.out.below HB1.out) h6).mono ?_
      rintro e w2 ⟨rfl, hb2⟩
      rw [EF.out]
      have HB2 := hideG (HB1.out.trans (hb2.mono HB1.out.size))
      have HG2 := hideG (HG.out.below hb2)
      clear hb2 h0 h1 h2 h3 h4
      have h0 := HG2.out.node
      have h1 := HG2.out.type
      have h2 := HG2.out.cap
      have h3 := HG2.out.once
      have h4 := HG2.out.prog
      go_wp2_with fail
      go_ret2
      exact ⟨a, cap, rfl, HL.out.below HB2.out, HB2.out⟩

end Go.Proofs.Ytahnkhgaopaaoab
