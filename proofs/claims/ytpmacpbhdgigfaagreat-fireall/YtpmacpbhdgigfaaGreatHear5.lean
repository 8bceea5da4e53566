/- listen.Drop. -/
import Derived.Test.YtpmacpbhdgigfaaGreatHear4
namespace Go.Proofs.YtpmacpbhdgigfaaGreat.L8
open Go.RowKit

def cutL (l : List Hr) (i : Nat) : List Hr := l.take i ++ l.drop (i + 1)
def dropE (l : List Hr) (h : Hr) : Int := if mayH h then (if hasB l h then 0 else 9) else 1
def dropL (l : List Hr) (h : Hr) : List Hr := if mayH h && hasB l h then cutL l (findL h l) else l
theorem cutL_len {l : List Hr} {i : Nat} (h : i < l.length) : (cutL l i).length = l.length - 1 := by
  unfold cutL; simp; omega
theorem cutL_cells (l : List Hr) (i : Nat) : hearCells (cutL l i) = (hearCells l).take (i * 5) ++ (hearCells l).drop ((i + 1) * 5) := by
  unfold cutL; rw [hearCells_append, hearCells_take, hearCells_drop]

set_option maxRecDepth 100000 in
set_option maxHeartbeats 4000000 in
theorem drop_any (l : List Hr) (h : Hr) (v : Value) (w : World) (hL : HearsAt w v l) (hl : l.length ≤ 100000) :
    Calls Tryz.prog 73 #[v, .agg #[.int .i64 h.node, .int .i64 h.type, .bool h.cap, .bool h.once, .int .i64 h.prog]] w fun x w' => ∃ a c, x = .returned (.tuple #[.slice a (dropL l h).length c, .int .i64 (dropE l h)]) ∧ HearsAt w' (.slice a (dropL l h).length c) (dropL l h) ∧ Below w.heap.size w w' ∧ (∀ q, a = some q → q.block < w.heap.size → .slice a (dropL l h).length c = v) := by
  have h6 : l.length ≤ 1000000 := by omega
  have HL := hideG hL
  obtain ⟨a, cap, rfl⟩ := hL.shape
  obtain ⟨W0, hW0⟩ : ∃ W0, w.alloc (.cells #[.int .i64 h.node, .int .i64 h.type, .bool h.cap, .bool h.once, .int .i64 h.prog] 35) = W0 := ⟨_, rfl⟩
  have HH : Hid (HearAt W0 w.heap.size 0 h) := by rw [← hW0]; exact ⟨by simp, by simp, by simp, by simp, by simp⟩
  have HB0 := hideG (show Below w.heap.size w W0 by rw [← hW0]; exact (Below.refl _ w).alloc (Nat.le_refl _) _)
  have HW0 := hideG hW0
  clear hL hW0
  cases hm : mayH h
  · have hq1 : dropL l h = l := by simp [dropL, hm]
    have hq2 : dropE l h = 1 := by simp [dropE, hm]
    rw [hq1, hq2]
    have HM := hideG hm
    clear hm hq1 hq2
    go_enter Tryz.func73, Tryz.ntmps73
    go_wp2_with fail
    rw [HW0.out]
    refine (mayBe_any h _).mono ?_
    rintro e w1 ⟨rfl, hb1⟩
    rw [HM.out]
    have HB1 := hideG (HB0.out.trans (hb1.mono HB0.out.size))
    have HG := hideG (HH.out.below hb1)
    have h0 := HG.out.node
    have h1 := HG.out.type
    have h2 := HG.out.cap
    have h3 := HG.out.once
    have h4 := HG.out.prog
    clear hb1
    go_wp2_with fail
    go_ret2
    exact ⟨a, cap, rfl, HL.out.below HB1.out, HB1.out, fun _ _ _ => rfl⟩
  · have HM := hideG hm
    cases hh : hasB l h
    · have EF := hideG (show findI l h = -1 by rw [findI_has, hh]; rfl)
      have hq1 : dropL l h = l := by simp [dropL, hm, hh]
      have hq2 : dropE l h = 9 := by simp [dropE, hm, hh]
      rw [hq1, hq2]
      clear hm hh hq1 hq2
      go_enter Tryz.func73, Tryz.ntmps73
      go_wp2_with fail
      rw [HW0.out]
      refine (mayBe_any h _).mono ?_
      rintro e w1 ⟨rfl, hb1⟩
      rw [HM.out]
      have HB1 := hideG (HB0.out.trans (hb1.mono HB0.out.size))
      have HG := hideG (HH.out.below hb1)
      have h0 := HG.out.node
      have h1 := HG.out.type
      have h2 := HG.out.cap
      have h3 := HG.out.once
      have h4 := HG.out.prog
      clear hb1
      go_wp2_with fail
      refine (find_any l h _ _ (HL.out.below HB1.out) h6).mono ?_
      rintro e w2 ⟨rfl, hb2⟩
      rw [EF.out]
      have HB2 := hideG (HB1.out.trans (hb2.mono HB1.out.size))
      clear hb2 h0 h1 h2 h3 h4
      go_wp2_with fail
      go_ret2
      exact ⟨a, cap, rfl, HL.out.below HB2.out, HB2.out, fun _ _ _ => rfl⟩
    · have EF := hideG (show findI l h = (findL h l : Int) by rw [findI_has, hh]; rfl)
      have hfl : findL h l < l.length := by simpa [hasB] using hh
      have hq1 : dropL l h = cutL l (findL h l) := by simp [dropL, hm, hh]
      have hq2 : dropE l h = 0 := by simp [dropE, hm, hh]
      rw [hq1, hq2]
      clear hm hh hq1 hq2
      generalize findL h l = q at *
      have hq0 : (0 : Int) ≤ (q : Int) := by omega
      have hqn : ¬ ((q : Int) < 0) := by omega
      have hwq : IntKind.i64.wrap ((q : Int) + 1) = (q : Int) + 1 := by rw [IntKind.wrap_i64]; omega
      go_enter Tryz.func73, Tryz.ntmps73
      go_wp2_with fail
      rw [HW0.out]
      refine (mayBe_any h _).mono ?_
      rintro e w1 ⟨rfl, hb1⟩
      rw [HM.out]
      have HB1 := hideG (HB0.out.trans (hb1.mono HB0.out.size))
      have HG := hideG (HH.out.below hb1)
      have h0 := HG.out.node
      have h1 := HG.out.type
      have h2 := HG.out.cap
      have h3 := HG.out.once
      have h4 := HG.out.prog
      clear hb1
      go_wp2_with fail
      refine (find_any l h _ _ (HL.out.below HB1.out) h6).mono ?_
      rintro e w2 ⟨rfl, hb2⟩
      rw [EF.out]
      have HB2 := hideG (HB1.out.trans (hb2.mono HB1.out.size))
      clear hb2 h0 h1 h2 h3 h4
      go_wp2_with fail
      refine (cloneHears_any l _ _ (HL.out.below HB2.out) h6).mono ?_
      rintro e w3 ⟨a3, c3, rfl, ho3, hb3⟩
      have HB3 := hideG (HB2.out.trans (hb3.mono HB2.out.size))
      have HO3 := hideG ho3
      have HB23 := hideG hb3
      clear hb3 ho3
      go_wp2_with fail
      refine (deleteH_any w2.heap.size _ l.length q (hearCells l) _ HO3.out hfl (by omega) (hearCells_one l)).mono ?_
      rintro e w4 ⟨rfl, ho4, hg4⟩
      have HB4 := hideG (show Below w.heap.size w w4 from HB2.out.trans ((HB23.out.grown hg4 HB23.out.size (fun j e => (HO3.out.lt j e).1)).mono HB2.out.size))
      have hl4 : (cutL l q).length = l.length - 1 := cutL_len hfl
      have HL4 := hideG hl4
      rw [← cutL_cells, ← hl4] at ho4
      have HH4 := hideG (ownsRow_hears ho4)
      have HLT := hideG (fun z (e : a3 = some z) => (ho4.lt z.block (by rw [e]; rfl)).1)
      clear ho4 hg4 hl4
      go_wp2_with fail
      go_ret2
      exact ⟨a3, c3, by rw [HL4.out]; rfl, HH4.out, HB4.out, fun z e hz => absurd (HLT.out z e) (by have := HB2.out.size; omega)⟩
end Go.Proofs.YtpmacpbhdgigfaaGreat.L8
