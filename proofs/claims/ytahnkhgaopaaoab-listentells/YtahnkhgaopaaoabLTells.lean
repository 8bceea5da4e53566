/- ListenTells, walked. -/
import Derived.Test.YtahnkhgaopaaoabLFor
import Derived.Test.YtahnkhgaopaaoabHear9
namespace Go.Proofs.Ytahnkhgaopaaoab
open Go.RowKit

theorem addL_le (l : List Hr) (h : Hr) : (addL l h).length ≤ l.length + 1 := by
  unfold addL; split <;> simp
theorem dropL_le (l : List Hr) (h : Hr) : (dropL l h).length ≤ l.length := by
  unfold dropL cutL; split
  · simp; omega
  · exact Nat.le_refl _

set_option maxRecDepth 100000 in
set_option maxHeartbeats 8000000 in
theorem listenTells_walk (l : List Hr) (v : Value) (h : Hr) (nodes : Int) (w : World) (hL : HearsAt w v l) :
    Calls Try.prog 3 #[v, .agg #[.int .i64 h.node, .int .i64 h.type, .bool h.cap, .bool h.once, .int .i64 h.prog], .int .i64 nodes] w fun x w' => x = .returned (.bool true) ∧ Below w.heap.size w w' := by
  have HL := hideG hL
  obtain ⟨a, cap, rfl⟩ := hL.shape
  obtain ⟨W0, hW0⟩ : ∃ W0, w.alloc (.cells #[.int .i64 h.node, .int .i64 h.type, .bool h.cap, .bool h.once, .int .i64 h.prog] 24) = W0 := ⟨_, rfl⟩
  have HH0 : Hid (HearAt W0 w.heap.size 0 h) := by rw [← hW0]; exact ⟨by simp, by simp, by simp, by simp, by simp⟩
  have HB0 := hideG (show Below w.heap.size w W0 by rw [← hW0]; exact (Below.refl _ w).alloc (Nat.le_refl _) _)
  have HW0 := hideG hW0
  clear hL hW0
  by_cases h100 : (100 : Int) < (l.length : Int)
  · go_enter Try.func3, Try.ntmps3
    go_wp2_with fail
    rw [HW0.out]
    refine (live8_any _).mono ?_
    rintro e w2 ⟨rfl, hb2⟩
    have HB2 := hideG (HB0.out.trans (hb2.mono HB0.out.size))
    clear hb2
    go_wp2_with fail
    go_ret
    exact ⟨rfl, HB2.out⟩
  · have hal := hideG (show (addL l h).length ≤ 1000000 by have := addL_le l h; omega)
    have hdl := hideG (show (dropL l h).length ≤ 1000000 by have := dropL_le l h; omega)
    go_enter Try.func3, Try.ntmps3
    go_wp2_with fail
    rw [HW0.out]
    have p0 : W0.cell? ⟨w.heap.size, 0, none⟩ = some (.int .i64 h.node) := HH0.out.node
    have p1 : W0.cell? ⟨w.heap.size, 1, none⟩ = some (.int .i64 h.type) := HH0.out.type
    have p2 : W0.cell? ⟨w.heap.size, 2, none⟩ = some (.bool h.cap) := HH0.out.cap
    have p3 : W0.cell? ⟨w.heap.size, 3, none⟩ = some (.bool h.once) := HH0.out.once
    have p4 : W0.cell? ⟨w.heap.size, 4, none⟩ = some (.int .i64 h.prog) := HH0.out.prog
    refine (add_any l h _ _ (HL.out.below HB0.out) (by omega)).mono ?_
    rintro e w1 ⟨a1, c1, rfl, hh1, hb1⟩
    have HB1 := hideG (HB0.out.trans (hb1.mono HB0.out.size))
    have HH1 := hideG (HH0.out.below hb1)
    have SA1 := hideG hh1
    clear hb1 hh1 p0 p1 p2 p3 p4
    have p0 : w1.cell? ⟨w.heap.size, 0, none⟩ = some (.int .i64 h.node) := HH1.out.node
    have p1 : w1.cell? ⟨w.heap.size, 1, none⟩ = some (.int .i64 h.type) := HH1.out.type
    have p2 : w1.cell? ⟨w.heap.size, 2, none⟩ = some (.bool h.cap) := HH1.out.cap
    have p3 : w1.cell? ⟨w.heap.size, 3, none⟩ = some (.bool h.once) := HH1.out.once
    have p4 : w1.cell? ⟨w.heap.size, 4, none⟩ = some (.int .i64 h.prog) := HH1.out.prog
    go_wp2_with fail
    refine (refAdd_any l h _ _ (HL.out.below HB1.out) (by omega)).mono ?_
    rintro e w2 ⟨a2, c2, rfl, hh2, hb2⟩
    have HB2 := hideG (HB1.out.trans (hb2.mono HB1.out.size))
    have HH2 := hideG (HH1.out.below hb2)
    have SA2 := hideG (SA1.out.below hb2)
    have SB2 := hideG hh2
    clear hb2 hh2 p0 p1 p2 p3 p4
    have p0 : w2.cell? ⟨w.heap.size, 0, none⟩ = some (.int .i64 h.node) := HH2.out.node
    have p1 : w2.cell? ⟨w.heap.size, 1, none⟩ = some (.int .i64 h.type) := HH2.out.type
    have p2 : w2.cell? ⟨w.heap.size, 2, none⟩ = some (.bool h.cap) := HH2.out.cap
    have p3 : w2.cell? ⟨w.heap.size, 3, none⟩ = some (.bool h.once) := HH2.out.once
    have p4 : w2.cell? ⟨w.heap.size, 4, none⟩ = some (.int .i64 h.prog) := HH2.out.prog
    go_wp2_with fail
    refine (drop_any l h _ _ (HL.out.below HB2.out) (by omega)).mono ?_
    rintro e w3 ⟨a3, c3, rfl, hh3, hb3⟩
    have HB3 := hideG (HB2.out.trans (hb3.mono HB2.out.size))
    have HH3 := hideG (HH2.out.below hb3)
    have SA3 := hideG (SA2.out.below hb3)
    have SB3 := hideG (SB2.out.below hb3)
    have SC3 := hideG hh3
    clear hb3 hh3 p0 p1 p2 p3 p4
    have p0 : w3.cell? ⟨w.heap.size, 0, none⟩ = some (.int .i64 h.node) := HH3.out.node
    have p1 : w3.cell? ⟨w.heap.size, 1, none⟩ = some (.int .i64 h.type) := HH3.out.type
    have p2 : w3.cell? ⟨w.heap.size, 2, none⟩ = some (.bool h.cap) := HH3.out.cap
    have p3 : w3.cell? ⟨w.heap.size, 3, none⟩ = some (.bool h.once) := HH3.out.once
    have p4 : w3.cell? ⟨w.heap.size, 4, none⟩ = some (.int .i64 h.prog) := HH3.out.prog
    go_wp2_with fail
    refine (refDrop_any l h _ _ (HL.out.below HB3.out) (by omega)).mono ?_
    rintro e w4 ⟨a4, c4, rfl, hh4, hb4⟩
    have HB4 := hideG (HB3.out.trans (hb4.mono HB3.out.size))
    have HH4 := hideG (HH3.out.below hb4)
    have SA4 := hideG (SA3.out.below hb4)
    have SB4 := hideG (SB3.out.below hb4)
    have SC4 := hideG (SC3.out.below hb4)
    have SD4 := hideG hh4
    clear hb4 hh4 p0 p1 p2 p3 p4
    go_wp2_with fail
    refine (check_any l nodes _ _ (HL.out.below HB4.out) (by omega)).mono ?_
    rintro e w5 ⟨rfl, hb5⟩
    have HB5 := hideG (HB4.out.trans (hb5.mono HB4.out.size))
    have SA5 := hideG (SA4.out.below hb5)
    have SB5 := hideG (SB4.out.below hb5)
    have SC5 := hideG (SC4.out.below hb5)
    have SD5 := hideG (SD4.out.below hb5)
    clear hb5
    go_wp2_with fail
    refine (refCheck_any l nodes _ _ (HL.out.below HB5.out) (by omega)).mono ?_
    rintro e w6 ⟨rfl, hb6⟩
    have HB6 := hideG (HB5.out.trans (hb6.mono HB5.out.size))
    have SA6 := hideG (SA5.out.below hb6)
    have SB6 := hideG (SB5.out.below hb6)
    have SC6 := hideG (SC5.out.below hb6)
    have SD6 := hideG (SD5.out.below hb6)
    clear hb6
    go_wp2_with fail
    refine (refSame_any (addL l h) (addL l h) _ _ _ SA6.out SB6.out hal.out).mono ?_
    rintro e w7 ⟨rfl, hb7⟩
    rw [show decide (addL l h = addL l h) = true by simp]
    have HB7 := hideG (HB6.out.trans (hb7.mono HB6.out.size))
    have SC7 := hideG (SC6.out.below hb7)
    have SD7 := hideG (SD6.out.below hb7)
    clear hb7
    go_wp2_with fail
    refine (refSame_any (dropL l h) (dropL l h) _ _ _ SC7.out SD7.out hdl.out).mono ?_
    rintro e w8 ⟨rfl, hb8⟩
    rw [show decide (dropL l h = dropL l h) = true by simp]
    have HB8 := hideG (HB7.out.trans (hb8.mono HB7.out.size))
    clear hb8
    go_wp2_with fail
    refine (live8_any _).mono ?_
    rintro e w9 ⟨rfl, hb9⟩
    have HB9 := hideG (HB8.out.trans (hb9.mono HB8.out.size))
    clear hb9
    go_wp2_with fail
    go_ret
    exact ⟨rfl, HB9.out⟩
end Go.Proofs.Ytahnkhgaopaaoab
