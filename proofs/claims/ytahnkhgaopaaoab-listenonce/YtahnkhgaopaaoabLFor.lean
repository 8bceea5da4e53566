/- ListenFor, walked. -/
import Derived.Test.YtahnkhgaopaaoabLive8
namespace Go.Proofs.Ytahnkhgaopaaoab
open Go.RowKit

theorem hears_drew {w : World} {v : Value} {l : List Hr} (h : HearsAt w v l) : HearsAt w.drew v l := h.below (below_drew' (Below.refl _ _))

set_option maxRecDepth 100000 in
set_option maxHeartbeats 8000000 in
theorem listenFor_walk (l : List Hr) (v : Value) (h : Hr) (w : World) (hL : HearsAt w v l) :
    Calls Try.prog 4 #[v, .agg #[.int .i64 h.node, .int .i64 h.type, .bool h.cap, .bool h.once, .int .i64 h.prog]] w fun x w' => x = .returned (.bool true) ∧ Below w.heap.size w w' := by
  have HL := hideG hL
  obtain ⟨a, cap, rfl⟩ := hL.shape
  have HB0 := hideG ((Below.refl _ w).alloc (Nat.le_refl _) (.cells #[.int .i64 h.node, .int .i64 h.type, .bool h.cap, .bool h.once, .int .i64 h.prog] 24))
  by_cases h100 : (100 : Int) < (l.length : Int)
  · clear hL
    go_enter Try.func4, Try.ntmps4
    go_wp2_with (go_at_call 8; refine (live8_any _).mono ?_; rintro e w2 ⟨rfl, hb2⟩; have HB2 := hideG (HB0.out.trans (hb2.mono HB0.out.size)); clear hb2)
    go_ret
    exact ⟨rfl, HB2.out⟩
  · have h6 : l.length ≤ 1000000 := by omega
    have hfl : (forL l h.node h.type h.cap).length ≤ 1000000 := by have := List.length_filter_le (hearsP h.node h.type h.cap) l; unfold forL; omega
    have HH : Hid (HearAt (w.alloc (.cells #[.int .i64 h.node, .int .i64 h.type, .bool h.cap, .bool h.once, .int .i64 h.prog] 24)) w.heap.size 0 h) := ⟨by simp, by simp, by simp, by simp, by simp⟩
    clear hL
    go_enter Try.func4, Try.ntmps4
    go_wp2_with fail
    obtain ⟨W0, hW0⟩ : ∃ W0, w.alloc (.cells #[.int .i64 h.node, .int .i64 h.type, .bool h.cap, .bool h.once, .int .i64 h.prog] 24) = W0 := ⟨_, rfl⟩
    rw [hW0] at HH HB0 ⊢
    clear hW0
    have p0 : W0.cell? ⟨w.heap.size, 0, none⟩ = some (.int .i64 h.node) := HH.out.node
    have p1 : W0.cell? ⟨w.heap.size, 1, none⟩ = some (.int .i64 h.type) := HH.out.type
    have p2 : W0.cell? ⟨w.heap.size, 2, none⟩ = some (.bool h.cap) := HH.out.cap
    have HF1 := hideG (show ∀ U, Below W0.heap.size W0 U → Calls Try.prog 16 #[.slice a l.length cap, .int .i64 h.node, .int .i64 h.type, .bool h.cap] U (fun e w' => ∃ a c, e = .returned (.slice a (forL l h.node h.type h.cap).length c) ∧ HearsAt w' (.slice a (forL l h.node h.type h.cap).length c) (forL l h.node h.type h.cap) ∧ Below U.heap.size U w' ∧ Below W0.heap.size W0 w') from fun U hU => by
      refine (for_any l _ _ _ _ U (HL.out.below (HB0.out.trans (hU.mono HB0.out.size))) h6).mono ?_
      rintro e w' ⟨a, c, rfl, ho, hb⟩
      exact ⟨a, c, rfl, ownsRow_hears ho, hb, hU.trans (hb.mono hU.size)⟩)
    have HF2 := hideG (show ∀ U, Below W0.heap.size W0 U → Calls Try.prog 17 #[.slice a l.length cap, .int .i64 h.node, .int .i64 h.type, .bool h.cap] U (fun e w' => ∃ a c, e = .returned (.slice a (forL l h.node h.type h.cap).length c) ∧ HearsAt w' (.slice a (forL l h.node h.type h.cap).length c) (forL l h.node h.type h.cap) ∧ Below U.heap.size U w' ∧ Below W0.heap.size W0 w') from fun U hU => by
      refine (refFor_any l _ _ _ _ U (HL.out.below (HB0.out.trans (hU.mono HB0.out.size))) h6).mono ?_
      rintro e w' ⟨a, c, rfl, ho, hb⟩
      exact ⟨a, c, rfl, ownsRow_hears ho, hb, hU.trans (hb.mono hU.size)⟩)
    have HSA := hideG (show ∀ U v v' L, Below W0.heap.size W0 U → HearsAt U v L → HearsAt U v' L → L.length ≤ 1000000 → Calls Try.prog 15 #[v, v'] U (fun e w' => e = .returned (.bool true) ∧ Below W0.heap.size W0 w') from fun U v v' L hU h1 h2 h3 => by
      refine (refSame_any L L v v' U h1 h2 h3).mono ?_
      rintro e w' ⟨rfl, hb⟩
      exact ⟨by simp, hU.trans (hb.mono hU.size)⟩)
    have HLV := hideG (show ∀ U, Below W0.heap.size W0 U → Calls Try.prog 8 #[] U (fun e w' => e = .returned (.bool true) ∧ Below W0.heap.size W0 w') from fun U hU => by
      refine (live8_any U).mono ?_
      rintro e w' ⟨rfl, hb⟩
      exact ⟨rfl, hU.trans (hb.mono hU.size)⟩)
    go_region_held3 (fun w' => Below W0.heap.size W0 w' ∧ w'.cell? ⟨w.heap.size, 0, none⟩ = some (.int .i64 h.node) ∧ w'.cell? ⟨w.heap.size, 1, none⟩ = some (.int .i64 h.type) ∧ w'.cell? ⟨w.heap.size, 2, none⟩ = some (.bool h.cap)) (refine ⟨?_, ?_, ?_, ?_⟩ <;> first | assumption | exact below_drew' (Below.refl _ _) | exact below_drew' (by assumption) | exact cell_below (by assumption) p0 | exact cell_below (by assumption) p1 | exact cell_below (by assumption) p2 | go_keep) (first | (go_at_call 16; refine Calls.mono (HF1.out _ (by first | assumption | exact below_drew' (Below.refl _ _) | exact below_drew' (by assumption))) ?_; rintro e w' ⟨ax, cx, rfl, hi1, hu1, hb1⟩) | (go_at_call 17; refine Calls.mono (HF2.out _ (by first | assumption | exact below_drew' (by assumption))) ?_; rintro e w' ⟨ay, cy, rfl, hi2, hu2, hb2⟩) | (go_at_call 15; refine Calls.mono (HSA.out _ _ _ _ (by first | assumption | exact below_drew' (by assumption)) (by first | exact HearsAt.below (by assumption) (by assumption) | assumption) (by assumption) (by assumption)) ?_; rintro e w' ⟨rfl, hb3⟩) | (go_at_call 8; refine Calls.mono (HLV.out _ (by first | assumption | exact below_drew' (by assumption))) ?_; rintro e w' ⟨rfl, hb4⟩))
    have HB9 : Hid (Below W0.heap.size W0 w') := by show Below _ _ _; assumption
    go_wp2_with fail
    go_ret
    exact ⟨rfl, HB0.out.trans (HB9.out.mono HB0.out.size)⟩
end Go.Proofs.Ytahnkhgaopaaoab
