/- fire.isVisiting. -/
import Derived.Test.YtpmacpbhdgigfaaGreatFire2
import Derived.Test.YtpmacpbhdgigfaaGreatAim2
namespace Go.Proofs.YtpmacpbhdgigfaaGreat
open Go.RowKit
open L8 (Hr hrD HearAt HearsAt forL hearsP hearCells)

set_option maxRecDepth 100000 in
set_option maxHeartbeats 2000000 in
/-- Somebody waits. -/
theorem visitingWait_any (w : World) (b : Nat) (r : Rn) (lv wv v : Value) (h : RunAt w b r lv wv) (h0 : 0 < r.wait.length) :
    Calls Tryz.prog 125 #[.pointer (some ⟨b, 0, none⟩), v] w fun x w' => x = .returned (.bool true) ∧ w' = w := by
  obtain ⟨wa, wc, hwv⟩ := h.waits.shape
  subst hwv
  have c9 := h.wait
  have hp : (0 : Int) < (r.wait.length : Int) := by omega
  clear h
  go_enter Tryz.func125, Tryz.ntmps125
  go_wp2_with fail
  go_ret
  exact ⟨rfl, rfl⟩
set_option maxRecDepth 100000 in
set_option maxHeartbeats 2000000 in
/-- The event is through. -/
theorem visitingEnd_any (w : World) (b : Nat) (r : Rn) (lv wv v : Value) (h : RunAt w b r lv wv) (h0 : r.wait = []) (h1 : r.left = []) :
    Calls Tryz.prog 125 #[.pointer (some ⟨b, 0, none⟩), v] w fun x w' => x = .returned (.bool false) ∧ w' = w := by
  obtain ⟨wa, wc, hwv⟩ := h.waits.shape
  subst hwv
  obtain ⟨la, lc, hlv⟩ := h.lefts.shape
  subst hlv
  rw [h0, h1] at h
  have c9 := h.wait
  have c3 := h.left
  clear h
  go_enter Tryz.func125, Tryz.ntmps125
  go_wp2_with fail
  go_ret
  exact ⟨rfl, rfl⟩
theorem below_drewS (U : World) : Below U.heap.size U U.drew := below_drew' (Below.refl _ _)
def SV (b : Nat) (V : World) (kd : Int) (cn dn : Bool) (lv : Value) (x : Vi) (U : World) : Prop := Turn b V U ∧ U.cell? ⟨b, 0, none⟩ = some (.int .i64 kd) ∧ U.cell? ⟨b, 1, none⟩ = some (.bool cn) ∧ U.cell? ⟨b, 2, none⟩ = some (.bool dn) ∧ U.cell? ⟨b, 3, none⟩ = some (lv) ∧ U.cell? ⟨b, 4, none⟩ = some (.int .i64 x.s.node) ∧ U.cell? ⟨b, 5, none⟩ = some (.int .i64 x.s.tg) ∧ U.cell? ⟨b, 6, none⟩ = some (.int .i64 x.s.rel) ∧ U.cell? ⟨b, 7, none⟩ = some (.int .i64 x.phase) ∧ U.cell? ⟨b, 8, none⟩ = some (.bool x.cap) ∧ U.cell? ⟨b, 9, none⟩ = some (boxAt U ⟨b, 9, none⟩) ∧ U.frozen? ⟨b, 9, none⟩ = false
theorem sv_call {b : Nat} {V : World} {kd : Int} {cn dn : Bool} {lv : Value} {x : Vi} {U w' : World} (hb : Below U.heap.size U w') (h : SV b V kd cn dn lv x U) : SV b V kd cn dn lv x w' := by
  obtain ⟨ht, h0, h1, h2, h3, h4, h5, h6, h7, h8, h9, f9⟩ := h
  exact ⟨ht.trans (Turn.of_below hb), cell_below hb h0, cell_below hb h1, cell_below hb h2, cell_below hb h3, cell_below hb h4, cell_below hb h5, cell_below hb h6, cell_below hb h7, cell_below hb h8, boxAt_below hb h9, frozen_below hb h9 f9⟩
theorem sv_set {b : Nat} {V : World} {kd : Int} {cn dn : Bool} {lv : Value} {x : Vi} {U : World} {u : Value} (h : SV b V kd cn dn lv x U) : SV b V kd cn dn lv x (U.setCell ⟨b, 9, none⟩ u) := by
  obtain ⟨ht, h0, h1, h2, h3, h4, h5, h6, h7, h8, h9, f9⟩ := h
  have hne : ∀ i, i ≠ 9 → (⟨b, 9, none⟩ : Addr) ≠ ⟨b, i, none⟩ := fun i hi => ne_off (fun e => hi e.symm)
  exact ⟨ht.setCell 9 _, (World.cell?_setCell_other _ _ _ _ (hne 0 (by omega))).trans h0, (World.cell?_setCell_other _ _ _ _ (hne 1 (by omega))).trans h1, (World.cell?_setCell_other _ _ _ _ (hne 2 (by omega))).trans h2, (World.cell?_setCell_other _ _ _ _ (hne 3 (by omega))).trans h3, (World.cell?_setCell_other _ _ _ _ (hne 4 (by omega))).trans h4, (World.cell?_setCell_other _ _ _ _ (hne 5 (by omega))).trans h5, (World.cell?_setCell_other _ _ _ _ (hne 6 (by omega))).trans h6, (World.cell?_setCell_other _ _ _ _ (hne 7 (by omega))).trans h7, (World.cell?_setCell_other _ _ _ _ (hne 8 (by omega))).trans h8, boxAt_set h9, by rw [World.frozen?_setCell]; exact f9⟩
set_option maxRecDepth 100000 in
set_option maxHeartbeats 2000000 in
/-- The next visit begins. -/
theorem visitingNext_any (w : World) (b : Nat) (r : Rn) (lv wv v : Value) (l : List Hr) (hL : HearsAt w v l) (hl : l.length ≤ 100000) (h : RunAt w b r lv wv) (h0 : r.wait = []) (x : Vi) (rest : List Vi) (h1 : r.left = x :: rest) (hr : r.left.length ≤ 100000) (hf : ∀ j, j < 10 → w.frozen? ⟨b, j, none⟩ = false) (hvb : Off b v) (hlb : Off b lv) (D : Nat → Prop) (hdw : ∀ d, D d → d < w.heap.size) (hdl : OffD D lv) :
    Calls Tryz.prog 125 #[.pointer (some ⟨b, 0, none⟩), v] w fun e w' => e = .returned (.bool true) ∧ ∃ lv' wv', RunAt w' b { r with left := rest, cur := x, wait := forL l x.s.node r.kind x.cap } lv' wv' ∧ Turn b w w' ∧ (Off b lv' ∧ Off b wv') ∧ OffD D lv' ∧ OffD D wv' := by
  obtain ⟨va, vc, hv⟩ := hL.shape
  subst hv
  obtain ⟨wa, wc, hwv⟩ := h.waits.shape
  subst hwv
  obtain ⟨a, c, hlv, hcap, hd⟩ := h.lefts
  subst hlv
  have hlen : r.left.length = rest.length + 1 := by rw [h1]; simp
  obtain ⟨bb, off, rfl, hd'⟩ := hd (by omega)
  have hH := hd' 0 (by omega)
  have e0 : r.left.getD 0 viD = x := by rw [h1]; rfl
  rw [e0] at hH
  have g0 := hH.node
  have g1 := hH.tg
  have g2 := hH.rel
  have g3 := hH.phase
  have g4 := hH.cap
  simp only [Nat.zero_mul, Nat.add_zero] at g0 g1 g2 g3 g4
  have c0 := h.kind
  have c1 := h.can
  have c2 := h.done
  have c3 := h.left
  have c4 := h.cur.node
  have c5 := h.cur.tg
  have c6 := h.cur.rel
  have c7 := h.cur.phase
  have c8 := h.cur.cap
  have c9 := h.wait
  simp only [Nat.reduceAdd] at c5 c6 c7 c8
  rw [hlen] at c3
  rw [h0] at c9
  have f3 := hf 3 (by omega)
  have f4 := hf 4 (by omega)
  have f5 := hf 5 (by omega)
  have f6 := hf 6 (by omega)
  have f7 := hf 7 (by omega)
  have f8 := hf 8 (by omega)
  have f9 := hf 9 (by omega)
  have HD := hideG hd'
  have HE := hideG h1
  have hc1 : 1 ≤ c := by omega
  have hrl : rest.length ≤ 100000 := by omega
  have HBN := hideG (hlb bb off _ _ rfl (by omega))
  have HDN := hideG (show ∀ d, D d → bb ≠ d from fun d hd => hdl d hd bb off _ _ rfl (by omega))
  have HDW := hideG hdw
  clear h hd hd' hH e0 h1 h0 hlen hr hlb hdl hdw
  by_cases hc : c = 1
  · subst hc
    go_enter Tryz.func125, Tryz.ntmps125
    go_wp2_with fail
    go_region_with fail
    all_goals
      obtain ⟨V, hV⟩ : ∃ V, (((((((w.setCell ⟨b, 4, none⟩ (.int .i64 x.s.node)).setCell ⟨b, 5, none⟩ (.int .i64 x.s.tg)).setCell ⟨b, 6, none⟩ (.int .i64 x.s.rel)).setCell ⟨b, 7, none⟩ (.int .i64 x.phase)).setCell ⟨b, 8, none⟩ (.bool x.cap)).setCell ⟨b, 3, none⟩ (.slice (some ⟨bb, off, none⟩) rest.length 0)).drew) = V := ⟨_, rfl⟩
      rw [hV]
      have hTV : Turn b w V := by rw [← hV]; exact ((((((((Turn.refl b w).setCell 4 _).setCell 5 _).setCell 6 _).setCell 7 _).setCell 8 _).setCell 3 _).trans (Turn.of_below (below_drew' (Below.refl _ _))))
      have hS0 : SV b V r.kind r.can r.done (.slice (some ⟨bb, off, none⟩) rest.length 0) x V.drew := by
        have hd := below_drew' (Below.refl V.heap.size V)
        have hs : SV b V r.kind r.can r.done (.slice (some ⟨bb, off, none⟩) rest.length 0) x V := by
          have hb6 := below_drewS (((((((w.setCell ⟨b, 4, none⟩ (.int .i64 x.s.node)).setCell ⟨b, 5, none⟩ (.int .i64 x.s.tg)).setCell ⟨b, 6, none⟩ (.int .i64 x.s.rel)).setCell ⟨b, 7, none⟩ (.int .i64 x.phase)).setCell ⟨b, 8, none⟩ (.bool x.cap)).setCell ⟨b, 3, none⟩ (.slice (some ⟨bb, off, none⟩) rest.length 0)))
          rw [← hV]
          refine ⟨Turn.refl b _, cell_below hb6 (set_other (set_other (set_other (set_other (set_other (set_other c0 (by omega)) (by omega)) (by omega)) (by omega)) (by omega)) (by omega)), cell_below hb6 (set_other (set_other (set_other (set_other (set_other (set_other c1 (by omega)) (by omega)) (by omega)) (by omega)) (by omega)) (by omega)), cell_below hb6 (set_other (set_other (set_other (set_other (set_other (set_other c2 (by omega)) (by omega)) (by omega)) (by omega)) (by omega)) (by omega)), cell_below hb6 (set_same (set_other (set_other (set_other (set_other (set_other c3 (by omega)) (by omega)) (by omega)) (by omega)) (by omega))), cell_below hb6 (set_other (set_other (set_other (set_other (set_other (set_same c4) (by omega)) (by omega)) (by omega)) (by omega)) (by omega)), cell_below hb6 (set_other (set_other (set_other (set_other (set_same (set_other c5 (by omega))) (by omega)) (by omega)) (by omega)) (by omega)), cell_below hb6 (set_other (set_other (set_other (set_same (set_other (set_other c6 (by omega)) (by omega))) (by omega)) (by omega)) (by omega)), cell_below hb6 (set_other (set_other (set_same (set_other (set_other (set_other c7 (by omega)) (by omega)) (by omega))) (by omega)) (by omega)), cell_below hb6 (set_other (set_same (set_other (set_other (set_other (set_other c8 (by omega)) (by omega)) (by omega)) (by omega))) (by omega)), boxAt_below hb6 (set_other (set_other (set_other (set_other (set_other (set_other c9 (by omega)) (by omega)) (by omega)) (by omega)) (by omega)) (by omega)), frozen_below hb6 (set_other (set_other (set_other (set_other (set_other (set_other c9 (by omega)) (by omega)) (by omega)) (by omega)) (by omega)) (by omega)) ?_⟩
          simpa [World.frozen?_setCell] using f9
        exact sv_call hd hs
      have HR := hideG (show ∀ U, Turn b V U → Calls Tryz.prog 170 #[.slice va l.length vc, .int .i64 x.s.node, .int .i64 r.kind, .bool x.cap] U (fun e w' => ∃ a c, e = .returned (.slice a (forL l x.s.node r.kind x.cap).length c) ∧ w'.ownsRow U.heap.size 35 5 (.slice a (forL l x.s.node r.kind x.cap).length c) (forL l x.s.node r.kind x.cap).length (hearCells (forL l x.s.node r.kind x.cap)) ∧ Below U.heap.size U w' ∧ Turn b V w') from fun U hU => by
        refine (L8.for_any l x.s.node r.kind x.cap _ U (HearsAt_turn hL (hTV.trans hU) hvb) (by omega)).mono ?_
        rintro e w' ⟨a, c, rfl, ho, hb⟩
        exact ⟨a, c, rfl, ho, hb, hU.trans (Turn.of_below hb)⟩)
      have HTV := hideG hTV
      clear hV hTV c0 c1 c2 c3 c4 c5 c6 c7 c8 c9 f3 f4 f5 f6 f7 f8 f9 g0 g1 g2 g3 g4
      go_wp2_with fail
      go_region_held3 (fun w' => Turn b V w' ∧ w'.cell? ⟨b, 0, none⟩ = some (.int .i64 r.kind) ∧ w'.cell? ⟨b, 1, none⟩ = some (.bool r.can) ∧ w'.cell? ⟨b, 2, none⟩ = some (.bool r.done) ∧ w'.cell? ⟨b, 3, none⟩ = some (.slice (some ⟨bb, off, none⟩) rest.length 0) ∧ w'.cell? ⟨b, 4, none⟩ = some (.int .i64 x.s.node) ∧ w'.cell? ⟨b, 5, none⟩ = some (.int .i64 x.s.tg) ∧ w'.cell? ⟨b, 6, none⟩ = some (.int .i64 x.s.rel) ∧ w'.cell? ⟨b, 7, none⟩ = some (.int .i64 x.phase) ∧ w'.cell? ⟨b, 8, none⟩ = some (.bool x.cap) ∧ w'.cell? ⟨b, 9, none⟩ = some (boxAt w' ⟨b, 9, none⟩) ∧ w'.frozen? ⟨b, 9, none⟩ = false)
        (first | assumption | exact hS0 | exact sv_call (by assumption) (by assumption) | exact sv_set (by assumption))
        (first | (go_at_call 170; refine Calls.mono (HR.out _ (by first | assumption | exact Turn.of_below (below_drew' (Below.refl _ _)))) ?_; rintro ex w' ⟨fa, fc, rfl, ho, hbU, hbV⟩))
      all_goals
        have hS1 := sv_call hbU hS0
        have hS2 := sv_set (u := .slice fa (forL l x.s.node r.kind x.cap).length fc) hS1
        have k9 := set_same (v := .slice fa (forL l x.s.node r.kind x.cap).length fc) hS1.2.2.2.2.2.2.2.2.2.2.1
        have hbl : b < V.drew.heap.size := below_of_cell hS0.2.1
        have hrow := ownsRow_kept_set (g := b) (j := 9) (u := .slice fa (forL l x.s.node r.kind x.cap).length fc) ho (fun e => by have := (ho.lt _ e).1; omega)
        have hwt := L8.ownsRow_hears hrow
        have HFIN := hideG (show ∃ lv' wv', RunAt (w'.setCell ⟨b, 9, none⟩ (.slice fa (forL l x.s.node r.kind x.cap).length fc)) b { r with left := rest, cur := x, wait := forL l x.s.node r.kind x.cap } lv' wv' ∧ Turn b w (w'.setCell ⟨b, 9, none⟩ (.slice fa (forL l x.s.node r.kind x.cap).length fc)) ∧ (Off b lv' ∧ Off b wv') ∧ OffD D lv' ∧ OffD D wv' from by
          obtain ⟨ht, i0, i1, i2, i3, i4, i5, i6, i7, i8, _, _⟩ := hS2
          refine ⟨_, _, ⟨i0, i1, i2, i3, ⟨i4, i5, i6, i7, i8⟩, k9, ?_, hwt⟩, HTV.out.trans ht, ⟨Off.slice HBN.out, Off.own ho hbl⟩, fun d hd => Off.slice (HDN.out d hd), fun d hd => Off.own ho (Nat.lt_of_lt_of_le (HDW.out d hd) HTV.out.size)⟩
          have hll : r.left.length = rest.length + 1 := by rw [HE.out]; simp
          show VisAt _ _ rest
          exact ⟨_, _, rfl, by omega, fun h0 => by omega⟩)
        clear hS1 hS2 k9 hrow hwt ho
        go_wp2_with fail
        go_ret
        exact ⟨rfl, HFIN.out⟩
  · go_enter Tryz.func125, Tryz.ntmps125
    go_wp2_with fail
    go_region_with fail
    all_goals
      obtain ⟨V, hV⟩ : ∃ V, (((((((w.setCell ⟨b, 4, none⟩ (.int .i64 x.s.node)).setCell ⟨b, 5, none⟩ (.int .i64 x.s.tg)).setCell ⟨b, 6, none⟩ (.int .i64 x.s.rel)).setCell ⟨b, 7, none⟩ (.int .i64 x.phase)).setCell ⟨b, 8, none⟩ (.bool x.cap)).setCell ⟨b, 3, none⟩ (.slice (some ⟨bb, off + 5, none⟩) rest.length (c - 1))).drew) = V := ⟨_, rfl⟩
      rw [hV]
      have hTV : Turn b w V := by rw [← hV]; exact ((((((((Turn.refl b w).setCell 4 _).setCell 5 _).setCell 6 _).setCell 7 _).setCell 8 _).setCell 3 _).trans (Turn.of_below (below_drew' (Below.refl _ _))))
      have hS0 : SV b V r.kind r.can r.done (.slice (some ⟨bb, off + 5, none⟩) rest.length (c - 1)) x V.drew := by
        have hd := below_drew' (Below.refl V.heap.size V)
        have hs : SV b V r.kind r.can r.done (.slice (some ⟨bb, off + 5, none⟩) rest.length (c - 1)) x V := by
          have hb6 := below_drewS (((((((w.setCell ⟨b, 4, none⟩ (.int .i64 x.s.node)).setCell ⟨b, 5, none⟩ (.int .i64 x.s.tg)).setCell ⟨b, 6, none⟩ (.int .i64 x.s.rel)).setCell ⟨b, 7, none⟩ (.int .i64 x.phase)).setCell ⟨b, 8, none⟩ (.bool x.cap)).setCell ⟨b, 3, none⟩ (.slice (some ⟨bb, off + 5, none⟩) rest.length (c - 1))))
          rw [← hV]
          refine ⟨Turn.refl b _, cell_below hb6 (set_other (set_other (set_other (set_other (set_other (set_other c0 (by omega)) (by omega)) (by omega)) (by omega)) (by omega)) (by omega)), cell_below hb6 (set_other (set_other (set_other (set_other (set_other (set_other c1 (by omega)) (by omega)) (by omega)) (by omega)) (by omega)) (by omega)), cell_below hb6 (set_other (set_other (set_other (set_other (set_other (set_other c2 (by omega)) (by omega)) (by omega)) (by omega)) (by omega)) (by omega)), cell_below hb6 (set_same (set_other (set_other (set_other (set_other (set_other c3 (by omega)) (by omega)) (by omega)) (by omega)) (by omega))), cell_below hb6 (set_other (set_other (set_other (set_other (set_other (set_same c4) (by omega)) (by omega)) (by omega)) (by omega)) (by omega)), cell_below hb6 (set_other (set_other (set_other (set_other (set_same (set_other c5 (by omega))) (by omega)) (by omega)) (by omega)) (by omega)), cell_below hb6 (set_other (set_other (set_other (set_same (set_other (set_other c6 (by omega)) (by omega))) (by omega)) (by omega)) (by omega)), cell_below hb6 (set_other (set_other (set_same (set_other (set_other (set_other c7 (by omega)) (by omega)) (by omega))) (by omega)) (by omega)), cell_below hb6 (set_other (set_same (set_other (set_other (set_other (set_other c8 (by omega)) (by omega)) (by omega)) (by omega))) (by omega)), boxAt_below hb6 (set_other (set_other (set_other (set_other (set_other (set_other c9 (by omega)) (by omega)) (by omega)) (by omega)) (by omega)) (by omega)), frozen_below hb6 (set_other (set_other (set_other (set_other (set_other (set_other c9 (by omega)) (by omega)) (by omega)) (by omega)) (by omega)) (by omega)) ?_⟩
          simpa [World.frozen?_setCell] using f9
        exact sv_call hd hs
      have HR := hideG (show ∀ U, Turn b V U → Calls Tryz.prog 170 #[.slice va l.length vc, .int .i64 x.s.node, .int .i64 r.kind, .bool x.cap] U (fun e w' => ∃ a c, e = .returned (.slice a (forL l x.s.node r.kind x.cap).length c) ∧ w'.ownsRow U.heap.size 35 5 (.slice a (forL l x.s.node r.kind x.cap).length c) (forL l x.s.node r.kind x.cap).length (hearCells (forL l x.s.node r.kind x.cap)) ∧ Below U.heap.size U w' ∧ Turn b V w') from fun U hU => by
        refine (L8.for_any l x.s.node r.kind x.cap _ U (HearsAt_turn hL (hTV.trans hU) hvb) (by omega)).mono ?_
        rintro e w' ⟨a, c, rfl, ho, hb⟩
        exact ⟨a, c, rfl, ho, hb, hU.trans (Turn.of_below hb)⟩)
      have HTV := hideG hTV
      clear hV hTV c0 c1 c2 c3 c4 c5 c6 c7 c8 c9 f3 f4 f5 f6 f7 f8 f9 g0 g1 g2 g3 g4
      go_wp2_with fail
      go_region_held3 (fun w' => Turn b V w' ∧ w'.cell? ⟨b, 0, none⟩ = some (.int .i64 r.kind) ∧ w'.cell? ⟨b, 1, none⟩ = some (.bool r.can) ∧ w'.cell? ⟨b, 2, none⟩ = some (.bool r.done) ∧ w'.cell? ⟨b, 3, none⟩ = some (.slice (some ⟨bb, off + 5, none⟩) rest.length (c - 1)) ∧ w'.cell? ⟨b, 4, none⟩ = some (.int .i64 x.s.node) ∧ w'.cell? ⟨b, 5, none⟩ = some (.int .i64 x.s.tg) ∧ w'.cell? ⟨b, 6, none⟩ = some (.int .i64 x.s.rel) ∧ w'.cell? ⟨b, 7, none⟩ = some (.int .i64 x.phase) ∧ w'.cell? ⟨b, 8, none⟩ = some (.bool x.cap) ∧ w'.cell? ⟨b, 9, none⟩ = some (boxAt w' ⟨b, 9, none⟩) ∧ w'.frozen? ⟨b, 9, none⟩ = false)
        (first | assumption | exact hS0 | exact sv_call (by assumption) (by assumption) | exact sv_set (by assumption))
        (first | (go_at_call 170; refine Calls.mono (HR.out _ (by first | assumption | exact Turn.of_below (below_drew' (Below.refl _ _)))) ?_; rintro ex w' ⟨fa, fc, rfl, ho, hbU, hbV⟩))
      all_goals
        have hS1 := sv_call hbU hS0
        have hS2 := sv_set (u := .slice fa (forL l x.s.node r.kind x.cap).length fc) hS1
        have k9 := set_same (v := .slice fa (forL l x.s.node r.kind x.cap).length fc) hS1.2.2.2.2.2.2.2.2.2.2.1
        have hbl : b < V.drew.heap.size := below_of_cell hS0.2.1
        have hrow := ownsRow_kept_set (g := b) (j := 9) (u := .slice fa (forL l x.s.node r.kind x.cap).length fc) ho (fun e => by have := (ho.lt _ e).1; omega)
        have hwt := L8.ownsRow_hears hrow
        have HFIN := hideG (show ∃ lv' wv', RunAt (w'.setCell ⟨b, 9, none⟩ (.slice fa (forL l x.s.node r.kind x.cap).length fc)) b { r with left := rest, cur := x, wait := forL l x.s.node r.kind x.cap } lv' wv' ∧ Turn b w (w'.setCell ⟨b, 9, none⟩ (.slice fa (forL l x.s.node r.kind x.cap).length fc)) ∧ (Off b lv' ∧ Off b wv') ∧ OffD D lv' ∧ OffD D wv' from by
          obtain ⟨ht, i0, i1, i2, i3, i4, i5, i6, i7, i8, _, _⟩ := hS2
          refine ⟨_, _, ⟨i0, i1, i2, i3, ⟨i4, i5, i6, i7, i8⟩, k9, ?_, hwt⟩, HTV.out.trans ht, ⟨Off.slice HBN.out, Off.own ho hbl⟩, fun d hd => Off.slice (HDN.out d hd), fun d hd => Off.own ho (Nat.lt_of_lt_of_le (HDW.out d hd) HTV.out.size)⟩
          have hll : r.left.length = rest.length + 1 := by rw [HE.out]; simp
          show VisAt _ _ rest
          refine ⟨_, _, rfl, by omega, fun h0 => ⟨bb, off + 5, rfl, fun j hj => ?_⟩⟩
          have h7 := HD.out (j + 1) (by omega)
          rw [HE.out, List.getD_cons_succ, show off + (j + 1) * 5 = off + 5 + j * 5 by omega] at h7
          exact ViAt_turn h7 (HTV.out.trans ht) HBN.out)
        clear hS1 hS2 k9 hrow hwt ho
        go_wp2_with fail
        go_ret
        exact ⟨rfl, HFIN.out⟩
end Go.Proofs.YtpmacpbhdgigfaaGreat
