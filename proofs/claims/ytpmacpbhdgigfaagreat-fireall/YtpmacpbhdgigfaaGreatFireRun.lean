/- fire.Next. fire.Tell, fire.New; a run that is none. fire.Tell of a run. fire.New; Next of no run. fire.All. -/
import Derived.Test.YtpmacpbhdgigfaaGreatFire3
import Derived.Deep.LoopGhost
import Derived.Test.YtpmacpbhdgigfaaGreatAim6
import Derived.Test.YtpmacpbhdgigfaaGreatFireMath
namespace Go.Proofs.YtpmacpbhdgigfaaGreat
open Go.RowKit
open L8 (Hr hrD HearAt HearsAt forL hearsP hearCells)

theorem nextL_hit {l : List Hr} {k : Int} {left : List Vi} {cur : Vi} {h : Hr} {r : List Hr} (ha : amongB l h = true) : nextL l k left cur (h :: r) = some (h, cur, left, r) := by
  unfold nextL turnL
  rw [ha]; rfl
theorem nextL_miss {l : List Hr} {k : Int} {left : List Vi} {cur : Vi} {h : Hr} {r : List Hr} (ha : amongB l h = false) : nextL l k left cur (h :: r) = nextL l k left cur r := by
  have e : turnL l (h :: r) = turnL l r := by rw [turnL, ha]; rfl
  cases left with
  | nil => rw [nextL, nextL, e]
  | cons v left => rw [nextL, nextL, e]
theorem nextL_end (l : List Hr) (k : Int) (cur : Vi) : nextL l k [] cur [] = none := rfl
theorem nextL_go (l : List Hr) (k : Int) (v : Vi) (left : List Vi) (cur : Vi) : nextL l k (v :: left) cur [] = nextL l k left v (forL l v.s.node k v.cap) := rfl
def waitN : List Hr → Nat
  | [] => 0
  | _ :: _ => 1
/-- A call, as a value. -/
def callV (h : Hr) (v : Vi) : Value := .agg #[.int .i64 h.node, .int .i64 h.type, .bool h.cap, .bool h.once, .int .i64 h.prog, .int .i64 v.s.node, .int .i64 v.s.tg, .int .i64 v.s.rel, .int .i64 v.phase, .bool v.cap]
def callZ : Value := .agg #[.int .i64 0, .int .i64 0, .bool false, .bool false, .int .i64 0, .int .i64 0, .int .i64 0, .int .i64 0, .int .i64 0, .bool false]

/-- What Next leaves. -/
def NextPost (l : List Hr) (r : Rn) (b : Nat) (D : Nat → Prop) (w : World) (x : Ending) (w' : World) : Prop :=
  Turn b w w' ∧ (∀ h cur left wait, nextL l r.kind r.left r.cur r.wait = some (h, cur, left, wait) → x = .returned (.tuple #[callV h cur, .bool true]) ∧ RunOk w' b D { r with left := left, cur := cur, wait := wait }) ∧
    (nextL l r.kind r.left r.cur r.wait = none → x = .returned (.tuple #[callZ, .bool false]) ∧ ∃ cur, RunOk w' b D { r with left := [], cur := cur, wait := [] })

theorem Turn.setNew {b c : Nat} {w w' : World} (h : Turn b w w') (hc : w.heap.size ≤ c) (o : Nat) (u : Value) : Turn b w (w'.setCell ⟨c, o, none⟩ u) :=
  ⟨h.os, h.tape, h.output, by simpa using h.size, fun k hk hb => (heap_setCell_other w' ⟨c, o, none⟩ k u (fun e => by have e' : k = c := e; omega)).trans (h.block k hk hb), fun j hb => by rw [World.frozen?_setCell]; exact h.frz j hb⟩
theorem Turn.frozenAny {b : Nat} {w w' : World} (h : Turn b w w') {c o : Nat} {u : Value} (hc : w.cell? ⟨c, o, none⟩ = some u) (hne : c ≠ b) (hf : w.frozen? ⟨c, o, none⟩ = false) : w'.frozen? ⟨c, o, none⟩ = false := by
  have e := h.block c (below_of_cell hc) hne
  unfold World.frozen? at hf ⊢
  simp only [e]
  exact hf
theorem visiting_any (w : World) (b : Nat) (D : Nat → Prop) (r : Rn) (v : Value) (l : List Hr) (hL : HearsAt w v l) (hl : l.length ≤ 100000) (h : RunOk w b D r) (hr : r.left.length ≤ 100000) (hw : r.wait.length ≤ 100000) (hvb : Off b v) (hd : ∀ d, D d → d < w.heap.size) (hne : 0 < 2 * r.left.length + waitN r.wait) :
    Calls Tryz.prog 125 #[.pointer (some ⟨b, 0, none⟩), v] w fun e w' => e = .returned (.bool true) ∧ ∃ left cur wait, RunOk w' b D { r with left := left, cur := cur, wait := wait } ∧ nextL l r.kind left cur wait = nextL l r.kind r.left r.cur r.wait ∧ 2 * left.length < 2 * r.left.length + waitN r.wait ∧ left.length ≤ 100000 ∧ wait.length ≤ 100000 ∧ Turn b w w' := by
  obtain ⟨lv, wv, ha, hf, ⟨hol, how⟩, hdl, hdw⟩ := h
  cases hwait : r.wait with
  | cons x rest =>
    refine (visitingWait_any w b r lv wv v ha (by rw [hwait]; simp)).mono ?_
    rintro e w' ⟨rfl, rfl⟩
    exact ⟨rfl, r.left, r.cur, r.wait, ⟨lv, wv, ha, hf, ⟨hol, how⟩, hdl, hdw⟩, by rw [hwait], by simp only [waitN]; omega, hr, hw, Turn.refl b _⟩
  | nil =>
    cases hleft : r.left with
    | nil => rw [hwait, hleft] at hne; simp [waitN] at hne
    | cons x rest =>
      refine (visitingNext_any w b r lv wv v l hL hl ha hwait x rest hleft hr hf hvb hol D hd hdl).mono ?_
      rintro e w' ⟨rfl, lv', wv', hra, ht, h1⟩
      have hfl := forL_le l x.s.node r.kind x.cap
      rw [hleft] at hr
      simp only [List.length_cons] at hr
      exact ⟨rfl, rest, x, forL l x.s.node r.kind x.cap, ⟨lv', wv', hra, fun j hj => (ht.frz j (below_of_cell ha.kind)).trans (hf j hj), h1⟩, rfl, by simp only [List.length_cons]; omega, by omega, by omega, ht⟩
/-- Ten cells of one block, written. -/
theorem set10 {U : World} {b : Nat} {x0 x1 x2 x3 x4 x5 x6 x7 x8 x9 u0 u1 u2 u3 u4 u5 u6 u7 u8 u9 : Value} (c0 : U.cell? ⟨b, 0, none⟩ = some u0) (c1 : U.cell? ⟨b, 1, none⟩ = some u1) (c2 : U.cell? ⟨b, 2, none⟩ = some u2) (c3 : U.cell? ⟨b, 3, none⟩ = some u3) (c4 : U.cell? ⟨b, 4, none⟩ = some u4) (c5 : U.cell? ⟨b, 5, none⟩ = some u5) (c6 : U.cell? ⟨b, 6, none⟩ = some u6) (c7 : U.cell? ⟨b, 7, none⟩ = some u7) (c8 : U.cell? ⟨b, 8, none⟩ = some u8) (c9 : U.cell? ⟨b, 9, none⟩ = some u9) :
    ∃ W, W = ((((((((((U.setCell ⟨b, 0, none⟩ x0).setCell ⟨b, 1, none⟩ x1).setCell ⟨b, 2, none⟩ x2).setCell ⟨b, 3, none⟩ x3).setCell ⟨b, 4, none⟩ x4).setCell ⟨b, 5, none⟩ x5).setCell ⟨b, 6, none⟩ x6).setCell ⟨b, 7, none⟩ x7).setCell ⟨b, 8, none⟩ x8).setCell ⟨b, 9, none⟩ x9) ∧ Turn b U W ∧
      W.cell? ⟨b, 0, none⟩ = some x0 ∧ W.cell? ⟨b, 1, none⟩ = some x1 ∧ W.cell? ⟨b, 2, none⟩ = some x2 ∧ W.cell? ⟨b, 3, none⟩ = some x3 ∧ W.cell? ⟨b, 4, none⟩ = some x4 ∧ W.cell? ⟨b, 5, none⟩ = some x5 ∧ W.cell? ⟨b, 6, none⟩ = some x6 ∧ W.cell? ⟨b, 7, none⟩ = some x7 ∧ W.cell? ⟨b, 8, none⟩ = some x8 ∧ W.cell? ⟨b, 9, none⟩ = some x9 := by
  refine ⟨_, rfl, ((((((((((Turn.refl b U).setCell 0 _).setCell 1 _).setCell 2 _).setCell 3 _).setCell 4 _).setCell 5 _).setCell 6 _).setCell 7 _).setCell 8 _).setCell 9 _, ?_⟩
  refine ⟨?_, ?_, ?_, ?_, ?_, ?_, ?_, ?_, ?_, ?_⟩
  · exact set_other (set_other (set_other (set_other (set_other (set_other (set_other (set_other (set_other (set_same c0) (by omega)) (by omega)) (by omega)) (by omega)) (by omega)) (by omega)) (by omega)) (by omega)) (by omega)
  · exact set_other (set_other (set_other (set_other (set_other (set_other (set_other (set_other (set_same (set_other c1 (by omega))) (by omega)) (by omega)) (by omega)) (by omega)) (by omega)) (by omega)) (by omega)) (by omega)
  · exact set_other (set_other (set_other (set_other (set_other (set_other (set_other (set_same (set_other (set_other c2 (by omega)) (by omega))) (by omega)) (by omega)) (by omega)) (by omega)) (by omega)) (by omega)) (by omega)
  · exact set_other (set_other (set_other (set_other (set_other (set_other (set_same (set_other (set_other (set_other c3 (by omega)) (by omega)) (by omega))) (by omega)) (by omega)) (by omega)) (by omega)) (by omega)) (by omega)
  · exact set_other (set_other (set_other (set_other (set_other (set_same (set_other (set_other (set_other (set_other c4 (by omega)) (by omega)) (by omega)) (by omega))) (by omega)) (by omega)) (by omega)) (by omega)) (by omega)
  · exact set_other (set_other (set_other (set_other (set_same (set_other (set_other (set_other (set_other (set_other c5 (by omega)) (by omega)) (by omega)) (by omega)) (by omega))) (by omega)) (by omega)) (by omega)) (by omega)
  · exact set_other (set_other (set_other (set_same (set_other (set_other (set_other (set_other (set_other (set_other c6 (by omega)) (by omega)) (by omega)) (by omega)) (by omega)) (by omega))) (by omega)) (by omega)) (by omega)
  · exact set_other (set_other (set_same (set_other (set_other (set_other (set_other (set_other (set_other (set_other c7 (by omega)) (by omega)) (by omega)) (by omega)) (by omega)) (by omega)) (by omega))) (by omega)) (by omega)
  · exact set_other (set_same (set_other (set_other (set_other (set_other (set_other (set_other (set_other (set_other c8 (by omega)) (by omega)) (by omega)) (by omega)) (by omega)) (by omega)) (by omega)) (by omega))) (by omega)
  · exact set_same (set_other (set_other (set_other (set_other (set_other (set_other (set_other (set_other (set_other c9 (by omega)) (by omega)) (by omega)) (by omega)) (by omega)) (by omega)) (by omega)) (by omega)) (by omega))

set_option maxRecDepth 100000 in
set_option maxHeartbeats 4000000 in
theorem next_any (w : World) (b : Nat) (D : Nat → Prop) (r : Rn) (v : Value) (l : List Hr) (hL : HearsAt w v l) (hl : l.length ≤ 100000) (h : RunOk w b D r) (hD : ∀ d, D d → d < w.heap.size) (hr : r.left.length ≤ 100000) (hw : r.wait.length ≤ 100000) (hvb : Off b v) :
    Calls Tryz.prog 70 #[.pointer (some ⟨b, 0, none⟩), v] w (NextPost l r b D w) := by
  obtain ⟨D1, hD1⟩ : ∃ D1 : Nat → Prop, D1 = fun d => D d ∨ d = w.heap.size := ⟨_, rfl⟩
  have HD1 := hideG (show (∀ d, D1 d → D d ∨ d = w.heap.size) ∧ (∀ d, D d → D1 d) ∧ D1 w.heap.size by subst hD1; exact ⟨fun _ k => k, fun _ k => .inl k, .inr rfl⟩)
  have HDL := hideG hD
  clear hD1
  obtain ⟨va, vc, rfl⟩ := hL.shape
  have hbs := h.lt
  obtain ⟨W0, hW0⟩ : ∃ W0, w.alloc (.cells #[.int .i64 0, .int .i64 0, .bool false, .bool false, .int .i64 0, .int .i64 0, .int .i64 0, .int .i64 0, .int .i64 0, .bool false] 41) = W0 := ⟨_, rfl⟩
  have HB0 := hideG (show Below w.heap.size w W0 by rw [← hW0]; exact (Below.refl _ w).alloc (Nat.le_refl _) _)
  have P := hideG (show ∀ j : Nat, j < 10 → ∃ u, W0.cell? ⟨w.heap.size, j, none⟩ = some u ∧ W0.frozen? ⟨w.heap.size, j, none⟩ = false by
    intro j hj
    rw [← hW0]
    have : j = 0 ∨ j = 1 ∨ j = 2 ∨ j = 3 ∨ j = 4 ∨ j = 5 ∨ j = 6 ∨ j = 7 ∨ j = 8 ∨ j = 9 := by omega
    rcases this with rfl | rfl | rfl | rfl | rfl | rfl | rfl | rfl | rfl | rfl <;> exact ⟨_, by simp; rfl, by simp⟩)
  have HS0 := hideG (show W0.heap.size = w.heap.size + 1 by rw [← hW0]; simp)
  have HL := hideG (hL.below HB0.out)
  have HV := hideG hvb
  have HR := hideG (RunOk.below (RunOk.fresh (D' := D1) h (fun d k => (HD1.out.1 d k).imp id (fun e => by omega))) HB0.out)
  have HN := hideG (show r.left.length ≤ 100000 ∧ r.wait.length ≤ 100000 from ⟨hr, hw⟩)
  have HW0 := hideG hW0
  have HBS := hideG hbs
  clear hL hvb h hr hw hW0 hbs hD
  go_enter Tryz.func70, Tryz.ntmps70
  go_wp2_with fail
  go_step3
  go_wp2_with fail
  go_step3
  go_wp2_with fail
  rw [HW0.out]
  go_loopg [] (2 * r.left.length + waitN r.wait) (fun g wr => Hid (∃ left cur wait, g = 2 * left.length + waitN wait ∧ RunOk wr b D1 { r with left := left, cur := cur, wait := wait } ∧ nextL l r.kind left cur wait = nextL l r.kind r.left r.cur r.wait ∧ left.length ≤ 100000 ∧ wait.length ≤ 100000 ∧ Turn b W0 wr))
  case atStart => exact hideG ⟨r.left, r.cur, r.wait, rfl, HR.out, rfl, HN.out.1, HN.out.2, Turn.refl b _⟩
  case round =>
    obtain ⟨left, cur, wait, hg, hok, hnx, hll, hwl, htu⟩ := hrel.out
    clear hrel
    have HO := hideG hok
    have HX := hideG hnx
    have HT := hideG htu
    have HLW := hideG (HearsAt_turn HL.out htu HV.out)
    have hds : ∀ d, D1 d → d < wr.heap.size := fun d k => by
      have h1 := htu.size
      have h2 := HS0.out
      rcases HD1.out.1 d k with k | k
      · have := HDL.out d k; omega
      · omega
    by_cases h0 : 0 < 2 * left.length + waitN wait
    · have HVI := hideG (visiting_any wr b D1 { r with left := left, cur := cur, wait := wait } (.slice va l.length vc) l HLW.out hl hok hll hwl HV.out hds h0)
      clear hok hnx htu h0
      go_wp2_with fail
      refine HVI.out.mono ?_
      rintro ex w1 ⟨rfl, left1, cur1, wait1, hok1, hnx1, hlt1, hll1, hwl1, htu1⟩
      have HO1 := hideG (show RunOk w1 b D1 { r with left := left1, cur := cur1, wait := wait1 } from hok1)
      have HX1 := hideG (show nextL l r.kind left1 cur1 wait1 = nextL l r.kind r.left r.cur r.wait from Eq.trans hnx1 HX.out)
      have HT1 := hideG (HT.out.trans htu1)
      have HLT := hideG (show 2 * left1.length < gk by rw [hg]; exact hlt1)
      clear hok1 hnx1 htu1 hlt1 hg HVI HO HX HT HLW hds
      go_wp2_with fail
      go_loopg [] wait1.length (fun g wr => Hid (∃ wait2, g = wait2.length ∧ RunOk wr b D1 { r with left := left1, cur := cur1, wait := wait2 } ∧ nextL l r.kind left1 cur1 wait2 = nextL l r.kind r.left r.cur r.wait ∧ wait2.length ≤ 100000 ∧ Turn b W0 wr))
      case atStart => exact hideG ⟨wait1, rfl, HO1.out, HX1.out, hwl1, HT1.out⟩
      case round =>
        obtain ⟨wait2, hg2, hok2, hnx2, hwl2, htu2⟩ := hrel.out
        clear hrel
        cases wait2 with
        | nil =>
          have HTN := hideG (turnNone_any wr b D1 { r with left := left1, cur := cur1, wait := [] } hok2 rfl)
          have HO2 := hideG hok2
          have HX2 := hideG hnx2
          have HT2 := hideG htu2
          clear hok2 hnx2 htu2 hwl2
          go_wp2_with fail
          refine HTN.out.mono ?_
          rintro ex w2 ⟨rfl, hb2⟩
          have HB2 := hideG (hb2.alloc hb2.size (.cells #[.int .i64 0, .int .i64 0, .bool false, .bool false, .int .i64 0] 35))
          clear hb2
          go_wp2_with fail
          go_roundg (2 * left1.length)
          case measure => exact HLT.out
          case rel => exact hideG ⟨left1, cur1, [], rfl, HO2.out.below HB2.out, HX2.out, hll1, by simp, HT2.out.trans (Turn.of_below HB2.out)⟩
        | cons x rest =>
          have HTN := hideG (turnSome_any wr b D1 { r with left := left1, cur := cur1, wait := x :: rest } hok2 x rest rfl hwl2)
          have HX2 := hideG hnx2
          have HT2 := hideG htu2
          clear hok2 hnx2 htu2
          go_wp2_with fail
          refine HTN.out.mono ?_
          rintro ex w2 ⟨rfl, hok3, htu3⟩
          obtain ⟨W3, hW3⟩ : ∃ W3, w2.alloc (.cells #[.int .i64 x.node, .int .i64 x.type, .bool x.cap, .bool x.once, .int .i64 x.prog] 35) = W3 := ⟨_, rfl⟩
          have hb3 : Below w2.heap.size w2 W3 := by rw [← hW3]; exact (Below.refl _ w2).alloc (Nat.le_refl _) _
          have q0 : W3.cell? ⟨w2.heap.size, 0, none⟩ = some (.int .i64 x.node) := by rw [← hW3]; simp
          have q1 : W3.cell? ⟨w2.heap.size, 1, none⟩ = some (.int .i64 x.type) := by rw [← hW3]; simp
          have q2 : W3.cell? ⟨w2.heap.size, 2, none⟩ = some (.bool x.cap) := by rw [← hW3]; simp
          have q3 : W3.cell? ⟨w2.heap.size, 3, none⟩ = some (.bool x.once) := by rw [← hW3]; simp
          have q4 : W3.cell? ⟨w2.heap.size, 4, none⟩ = some (.int .i64 x.prog) := by rw [← hW3]; simp
          have HO3 := hideG (show RunOk W3 b D1 { r with left := left1, cur := cur1, wait := rest } from RunOk.below hok3 hb3)
          have HT3 := hideG ((HT2.out.trans htu3).trans (Turn.of_below hb3))
          have HA := hideG (isAmong_any l x (.slice va l.length vc) W3 (HearsAt_turn HL.out HT3.out HV.out) hl)
          have HW3 := hideG hW3
          clear hok3 htu3 hW3 hb3
          go_wp2_with (first | rw [HW3.out])
          refine HA.out.mono ?_
          rintro ex w4 ⟨rfl, hb4⟩
          cases ham : amongB l x
          · have HX4 := hideG (show nextL l r.kind left1 cur1 rest = nextL l r.kind r.left r.cur r.wait from (nextL_miss ham).symm.trans HX2.out)
            have HB4 := hideG hb4
            clear hb4 q0 q1 q2 q3 q4
            go_wp2_with fail
            go_roundg rest.length
            case measure => rw [hg2]; simp
            case rel => exact hideG ⟨rest, rfl, HO3.out.below HB4.out, HX4.out, by simp at hwl2; omega, HT3.out.trans (Turn.of_below HB4.out)⟩
          · have HX4 := hideG (show nextL l r.kind r.left r.cur r.wait = some (x, cur1, left1, rest) from HX2.out.symm.trans (nextL_hit ham))
            have HO4 := hideG (HO3.out.below hb4)
            have HT4 := hideG (HT3.out.trans (Turn.of_below hb4))
            have r0 := cell_below hb4 q0
            have r1 := cell_below hb4 q1
            have r2 := cell_below hb4 q2
            have r3 := cell_below hb4 q3
            have r4 := cell_below hb4 q4
            clear hb4 q0 q1 q2 q3 q4 ham
            have hne : w.heap.size ≠ b := by have := HBS.out; omega
            have HNE := hideG hne
            obtain ⟨lv, wv, hra, _⟩ := HO4.out
            have e4 := hra.cur.node
            have e5 := hra.cur.tg
            have e6 := hra.cur.rel
            have e7 := hra.cur.phase
            have e8 := hra.cur.cap
            simp only [Nat.reduceAdd] at e4 e5 e6 e7 e8
            have hlt2 : w2.heap.size < w4.heap.size := below_of_cell r0
            obtain ⟨z0, y0, g0⟩ := P.out 0 (by omega)
            obtain ⟨z1, y1, g1⟩ := P.out 1 (by omega)
            obtain ⟨z2, y2, g2⟩ := P.out 2 (by omega)
            obtain ⟨z3, y3, g3⟩ := P.out 3 (by omega)
            obtain ⟨z4, y4, g4⟩ := P.out 4 (by omega)
            obtain ⟨z5, y5, g5⟩ := P.out 5 (by omega)
            obtain ⟨z6, y6, g6⟩ := P.out 6 (by omega)
            obtain ⟨z7, y7, g7⟩ := P.out 7 (by omega)
            obtain ⟨z8, y8, g8⟩ := P.out 8 (by omega)
            obtain ⟨z9, y9, g9⟩ := P.out 9 (by omega)
            have fr := fun (j : Nat) (u : Value) (hc : W0.cell? ⟨w.heap.size, j, none⟩ = some u) (hf : W0.frozen? ⟨w.heap.size, j, none⟩ = false) => Turn.frozenAny HT4.out hc hne hf
            have f0 := fr 0 _ y0 g0
            have f1 := fr 1 _ y1 g1
            have f2 := fr 2 _ y2 g2
            have f3 := fr 3 _ y3 g3
            have f4 := fr 4 _ y4 g4
            have f5 := fr 5 _ y5 g5
            have f6 := fr 6 _ y6 g6
            have f7 := fr 7 _ y7 g7
            have f8 := fr 8 _ y8 g8
            have f9 := fr 9 _ y9 g9
            have t0 := HT4.out.cell y0 hne
            have t1 := HT4.out.cell y1 hne
            have t2 := HT4.out.cell y2 hne
            have t3 := HT4.out.cell y3 hne
            have t4 := HT4.out.cell y4 hne
            have t5 := HT4.out.cell y5 hne
            have t6 := HT4.out.cell y6 hne
            have t7 := HT4.out.cell y7 hne
            have t8 := HT4.out.cell y8 hne
            have t9 := HT4.out.cell y9 hne
            obtain ⟨W5, hW5, htw, k0, k1, k2, k3, k4, k5, k6, k7, k8, k9⟩ := set10 (x0 := .int .i64 x.node) (x1 := .int .i64 x.type) (x2 := .bool x.cap) (x3 := .bool x.once) (x4 := .int .i64 x.prog) (x5 := .int .i64 cur1.s.node) (x6 := .int .i64 cur1.s.tg) (x7 := .int .i64 cur1.s.rel) (x8 := .int .i64 cur1.phase) (x9 := .bool cur1.cap) (U := w4) t0 t1 t2 t3 t4 t5 t6 t7 t8 t9
            have HW5 := hideG hW5
            have HTW := hideG htw
            clear hW5 htw y0 y1 y2 y3 y4 y5 y6 y7 y8 y9 g0 g1 g2 g3 g4 g5 g6 g7 g8 g9 fr hne hra
            go_wp2_with fail
            go_region
            rw [← HW5.out]
            have hd5 := below_drewS W5
            have k0' := cell_below hd5 k0
            have k1' := cell_below hd5 k1
            have k2' := cell_below hd5 k2
            have k3' := cell_below hd5 k3
            have k4' := cell_below hd5 k4
            have k5' := cell_below hd5 k5
            have k6' := cell_below hd5 k6
            have k7' := cell_below hd5 k7
            have k8' := cell_below hd5 k8
            have k9' := cell_below hd5 k9
            have HOK := hideG (RunOk.sub ((RunOk.turn HO4.out HTW.out HD1.out.2.2 (fun e => HNE.out e.symm)).below hd5) HD1.out.2.1)
            have HTT := hideG (show Turn b w W5.drew by
              rw [HW5.out]
              exact ((((((((((((Turn.of_below HB0.out).trans HT4.out).setNew (Nat.le_refl _) 0 _).setNew (Nat.le_refl _) 1 _).setNew (Nat.le_refl _) 2 _).setNew (Nat.le_refl _) 3 _).setNew (Nat.le_refl _) 4 _).setNew (Nat.le_refl _) 5 _).setNew (Nat.le_refl _) 6 _).setNew (Nat.le_refl _) 7 _).setNew (Nat.le_refl _) 8 _).setNew (Nat.le_refl _) 9 _).trans (Turn.of_below (below_drewS _)))
            clear t0 t1 t2 t3 t4 t5 t6 t7 t8 t9 f0 f1 f2 f3 f4 f5 f6 f7 f8 f9 hd5 k0 k1 k2 k3 k4 k5 k6 k7 k8 k9
            go_wp2_with fail
            try rw [Exit.noGoto_ret]
            refine bodyPost_ret (v := .tuple #[callV x cur1, .bool true]) (by simp [results, Tryz.results70, go_sem, callV, k0', k1', k2', k3', k4', k5', k6', k7', k8', k9']) rfl ⟨HTT.out, fun h cur left wait e => ?_, fun e => ?_⟩
            · rw [HX4.out] at e
              cases e
              exact ⟨rfl, HOK.out⟩
            · rw [HX4.out] at e
              cases e
    · have hl0 : left = [] := by cases left with | nil => rfl | cons _ _ => simp at h0
      have hw0 : wait = [] := by cases wait with | nil => rfl | cons _ _ => simp [waitN] at h0
      subst hl0
      subst hw0
      have HXN := hideG (show nextL l r.kind r.left r.cur r.wait = none from hnx.symm)
      obtain ⟨lv, wv, hra, hrf⟩ := hok
      have HVI := hideG (visitingEnd_any wr b { r with left := [], cur := cur, wait := [] } lv wv (.slice va l.length vc) hra rfl rfl)
      have hne : w.heap.size ≠ b := by have := HBS.out; omega
      have HNE := hideG hne
      have tz := fun (j : Nat) (u : Value) (hc : W0.cell? ⟨w.heap.size, j, none⟩ = some u) => HT.out.cell hc hne
      have fr := fun (j : Nat) (u : Value) (hc : W0.cell? ⟨w.heap.size, j, none⟩ = some u) (hf : W0.frozen? ⟨w.heap.size, j, none⟩ = false) => Turn.frozenAny HT.out hc hne hf
      obtain ⟨z0, y0, g0⟩ := P.out 0 (by omega)
      obtain ⟨z1, y1, g1⟩ := P.out 1 (by omega)
      obtain ⟨z2, y2, g2⟩ := P.out 2 (by omega)
      obtain ⟨z3, y3, g3⟩ := P.out 3 (by omega)
      obtain ⟨z4, y4, g4⟩ := P.out 4 (by omega)
      obtain ⟨z5, y5, g5⟩ := P.out 5 (by omega)
      obtain ⟨z6, y6, g6⟩ := P.out 6 (by omega)
      obtain ⟨z7, y7, g7⟩ := P.out 7 (by omega)
      obtain ⟨z8, y8, g8⟩ := P.out 8 (by omega)
      obtain ⟨z9, y9, g9⟩ := P.out 9 (by omega)
      have f0 := fr 0 _ y0 g0
      have f1 := fr 1 _ y1 g1
      have f2 := fr 2 _ y2 g2
      have f3 := fr 3 _ y3 g3
      have f4 := fr 4 _ y4 g4
      have f5 := fr 5 _ y5 g5
      have f6 := fr 6 _ y6 g6
      have f7 := fr 7 _ y7 g7
      have f8 := fr 8 _ y8 g8
      have f9 := fr 9 _ y9 g9
      have t0 := tz 0 _ y0
      have t1 := tz 1 _ y1
      have t2 := tz 2 _ y2
      have t3 := tz 3 _ y3
      have t4 := tz 4 _ y4
      have t5 := tz 5 _ y5
      have t6 := tz 6 _ y6
      have t7 := tz 7 _ y7
      have t8 := tz 8 _ y8
      have t9 := tz 9 _ y9
      obtain ⟨W5, hW5, htw, k0, k1, k2, k3, k4, k5, k6, k7, k8, k9⟩ := set10 (x0 := .int .i64 0) (x1 := .int .i64 0) (x2 := .bool false) (x3 := .bool false) (x4 := .int .i64 0) (x5 := .int .i64 0) (x6 := .int .i64 0) (x7 := .int .i64 0) (x8 := .int .i64 0) (x9 := .bool false) (U := wr) t0 t1 t2 t3 t4 t5 t6 t7 t8 t9
      have HW5 := hideG hW5
      have HTW := hideG htw
      clear hW5 htw y0 y1 y2 y3 y4 y5 y6 y7 y8 y9 g0 g1 g2 g3 g4 g5 g6 g7 g8 g9 fr tz hne hra hrf hnx htu h0
      go_wp2_with fail
      refine HVI.out.mono ?_
      rintro ex wz ⟨rfl, hwz⟩
      obtain rfl : _ = wz := hwz.symm
      go_wp2_with fail
      rw [← HW5.out]
      rw [Exit.noGoto_ret]
      have HTT := hideG (show Turn b w W5 by
        rw [HW5.out]
        exact (((((((((((Turn.of_below HB0.out).trans HT.out).setNew (Nat.le_refl _) 0 _).setNew (Nat.le_refl _) 1 _).setNew (Nat.le_refl _) 2 _).setNew (Nat.le_refl _) 3 _).setNew (Nat.le_refl _) 4 _).setNew (Nat.le_refl _) 5 _).setNew (Nat.le_refl _) 6 _).setNew (Nat.le_refl _) 7 _).setNew (Nat.le_refl _) 8 _).setNew (Nat.le_refl _) 9 _)
      refine bodyPost_ret (v := .tuple #[callZ, .bool false]) (by simp [results, Tryz.results70, go_sem, callZ, k0, k1, k2, k3, k4, k5, k6, k7, k8, k9]) rfl ⟨HTT.out, fun h cur left wait e => ?_, fun _ => ⟨rfl, cur, RunOk.sub (RunOk.turn HO.out HTW.out HD1.out.2.2 (fun e => HNE.out e.symm)) HD1.out.2.1⟩⟩
      rw [HXN.out] at e
      cases e
end Go.Proofs.YtpmacpbhdgigfaaGreat
namespace Go.Proofs.YtpmacpbhdgigfaaGreat
open Go.RowKit
open L8 (Hr hrD HearAt HearsAt forL hearsP hearCells)

/-- What an answer takes away. -/
def tellR (r : Rn) (s n c : Bool) : Rn := { r with left := if s || n then [] else r.left, wait := if n then [] else r.wait, done := r.done || (c && r.can) }

theorem vis_none (w : World) : VisAt w (.slice none 0 0) [] := ⟨none, 0, rfl, by simp, fun h => by simp at h⟩
theorem hears_none (w : World) : HearsAt w (.slice none 0 0) [] := ⟨none, 0, rfl, by simp, fun h => by simp at h⟩
theorem RunOk.alloc {w : World} {b : Nat} {D : Nat → Prop} {r : Rn} (h : RunOk w b D r) (o : Obj) : RunOk (w.alloc o) b D r := h.below ((Below.refl _ w).alloc (Nat.le_refl _) o)
theorem RunOk.setLeft {w : World} {b : Nat} {D : Nat → Prop} {r : Rn} (h : RunOk w b D r) : RunOk (w.setCell ⟨b, 3, none⟩ (.slice none 0 0)) b D { r with left := [] } := by
  obtain ⟨lv, wv, k, hf, ⟨_, how⟩, _, hdw⟩ := h
  have ht := (Turn.refl b w).setCell 3 (.slice none 0 0)
  exact ⟨_, wv, ⟨set_other k.kind (by omega), set_other k.can (by omega), set_other k.done (by omega), set_same k.left, ⟨set_other k.cur.node (by omega), set_other k.cur.tg (by omega), set_other k.cur.rel (by omega), set_other k.cur.phase (by omega), set_other k.cur.cap (by omega)⟩, set_other k.wait (by omega), vis_none _, HearsAt_turn k.waits ht how⟩, fun j hj => by rw [World.frozen?_setCell]; exact hf j hj, ⟨Off.nil, how⟩, fun _ _ => Off.nil, hdw⟩
theorem RunOk.setWait {w : World} {b : Nat} {D : Nat → Prop} {r : Rn} (h : RunOk w b D r) : RunOk (w.setCell ⟨b, 9, none⟩ (.slice none 0 0)) b D { r with wait := [] } := by
  obtain ⟨lv, wv, k, hf, ⟨hol, _⟩, hdl, _⟩ := h
  have ht := (Turn.refl b w).setCell 9 (.slice none 0 0)
  exact ⟨lv, _, ⟨set_other k.kind (by omega), set_other k.can (by omega), set_other k.done (by omega), set_other k.left (by omega), ⟨set_other k.cur.node (by omega), set_other k.cur.tg (by omega), set_other k.cur.rel (by omega), set_other k.cur.phase (by omega), set_other k.cur.cap (by omega)⟩, set_same k.wait, VisAt_turn k.lefts ht hol, hears_none _⟩, fun j hj => by rw [World.frozen?_setCell]; exact hf j hj, ⟨hol, Off.nil⟩, hdl, fun _ _ => Off.nil⟩
theorem RunOk.setDone {w : World} {b : Nat} {D : Nat → Prop} {r : Rn} (h : RunOk w b D r) : RunOk (w.setCell ⟨b, 2, none⟩ (.bool true)) b D { r with done := true } := by
  obtain ⟨lv, wv, k, hf, ⟨hol, how⟩, hdl, hdw⟩ := h
  have ht := (Turn.refl b w).setCell 2 (.bool true)
  exact ⟨lv, wv, ⟨set_other k.kind (by omega), set_other k.can (by omega), set_same k.done, set_other k.left (by omega), ⟨set_other k.cur.node (by omega), set_other k.cur.tg (by omega), set_other k.cur.rel (by omega), set_other k.cur.phase (by omega), set_other k.cur.cap (by omega)⟩, set_other k.wait (by omega), VisAt_turn k.lefts ht hol, HearsAt_turn k.waits ht how⟩, fun j hj => by rw [World.frozen?_setCell]; exact hf j hj, ⟨hol, how⟩, hdl, hdw⟩

set_option maxRecDepth 100000 in
set_option maxHeartbeats 2000000 in
theorem tellNil_any (s n c : Bool) (w : World) : Calls Tryz.prog 71 #[.pointer none, .agg #[.bool s, .bool n, .bool c]] w fun x w' => x = .returned (.tuple #[]) ∧ Below w.heap.size w w' := by
  go_enter Tryz.func71, Tryz.ntmps71
  go_wp2_with fail
  exact bodyPost_ret (v := .tuple #[]) (by simp [results, Tryz.results71, go_sem]) rfl ⟨rfl, (Below.refl _ _).alloc (Nat.le_refl _) _⟩
end Go.Proofs.YtpmacpbhdgigfaaGreat
namespace Go.Proofs.YtpmacpbhdgigfaaGreat
open Go.RowKit

theorem tellR_id {r : Rn} {c : Bool} (h : (c && r.can) = false) : tellR r false false c = r := by
  unfold tellR
  simp [h]
set_option maxRecDepth 100000 in
set_option maxHeartbeats 4000000 in
theorem tell_any (w : World) (b : Nat) (D : Nat → Prop) (r : Rn) (s n c : Bool) (h : RunOk w b D r) :
    Calls Tryz.prog 71 #[.pointer (some ⟨b, 0, none⟩), .agg #[.bool s, .bool n, .bool c]] w fun x w' => x = .returned (.tuple #[]) ∧ RunOk w' b D (tellR r s n c) ∧ Turn b w w' := by
  have HR := hideG h
  have HT := hideG (Turn.refl b w)
  obtain ⟨lv, wv, hk, hf, _⟩ := h
  have c1 := hk.can
  have c2 := hk.done
  have c3 := hk.left
  have c9 := hk.wait
  have f2 := hf 2 (by omega)
  have f3 := hf 3 (by omega)
  have f9 := hf 9 (by omega)
  have hbl : b < w.heap.size := below_of_cell c1
  have hn : w.heap.size ≠ b := by omega
  clear hk hf
  cases hc : r.can <;> rw [hc] at c1
  all_goals
    have HC := hideG hc
    clear hc
    cases s <;> cases n <;> cases c
    all_goals
      go_enter Tryz.func71, Tryz.ntmps71
      go_wp2_with fail
      refine bodyPost_end (results_none rfl _ _ _) rfl ⟨rfl, ?_, ?_⟩
      · first
          | (rw [tellR_id (by simp [HC.out])]; exact HR.out.alloc _)
          | exact (by simpa [tellR, HC.out] using HR.out.setDone.alloc _)
          | exact (by simpa [tellR, HC.out] using HR.out.setLeft.alloc _)
          | exact (by simpa [tellR, HC.out] using HR.out.setLeft.setDone.alloc _)
          | exact (by simpa [tellR, HC.out] using HR.out.setLeft.setWait.alloc _)
          | exact (by simpa [tellR, HC.out] using HR.out.setLeft.setWait.setDone.alloc _)
      · first
          | exact HT.out.alloc _
          | exact (HT.out.setCell _ _).alloc _
          | exact ((HT.out.setCell _ _).setCell _ _).alloc _
          | exact (((HT.out.setCell _ _).setCell _ _).setCell _ _).alloc _
end Go.Proofs.YtpmacpbhdgigfaaGreat
namespace Go.Proofs.YtpmacpbhdgigfaaGreat
open Go.RowKit
open L8 (Hr hrD HearAt HearsAt forL hearsP hearCells)

set_option maxRecDepth 100000 in
set_option maxHeartbeats 2000000 in
theorem nextNil_any (a : Option Addr) (n c : Nat) (w : World) : Calls Tryz.prog 70 #[.pointer none, .slice a n c] w fun x w' => x = .returned (.tuple #[callZ, .bool false]) ∧ Below w.heap.size w w' := by
  obtain ⟨W0, hW0⟩ : ∃ W0, w.alloc (.cells #[.int .i64 0, .int .i64 0, .bool false, .bool false, .int .i64 0, .int .i64 0, .int .i64 0, .int .i64 0, .int .i64 0, .bool false] 41) = W0 := ⟨_, rfl⟩
  have HB0 := hideG (show Below w.heap.size w W0 by rw [← hW0]; exact (Below.refl _ w).alloc (Nat.le_refl _) _)
  have P : ∀ j : Nat, j < 10 → ∃ u, W0.cell? ⟨w.heap.size, j, none⟩ = some u ∧ W0.frozen? ⟨w.heap.size, j, none⟩ = false := by
    intro j hj
    rw [← hW0]
    have : j = 0 ∨ j = 1 ∨ j = 2 ∨ j = 3 ∨ j = 4 ∨ j = 5 ∨ j = 6 ∨ j = 7 ∨ j = 8 ∨ j = 9 := by omega
    rcases this with rfl | rfl | rfl | rfl | rfl | rfl | rfl | rfl | rfl | rfl <;> exact ⟨_, by simp; rfl, by simp⟩
  obtain ⟨z0, t0, f0⟩ := P 0 (by omega)
  obtain ⟨z1, t1, f1⟩ := P 1 (by omega)
  obtain ⟨z2, t2, f2⟩ := P 2 (by omega)
  obtain ⟨z3, t3, f3⟩ := P 3 (by omega)
  obtain ⟨z4, t4, f4⟩ := P 4 (by omega)
  obtain ⟨z5, t5, f5⟩ := P 5 (by omega)
  obtain ⟨z6, t6, f6⟩ := P 6 (by omega)
  obtain ⟨z7, t7, f7⟩ := P 7 (by omega)
  obtain ⟨z8, t8, f8⟩ := P 8 (by omega)
  obtain ⟨z9, t9, f9⟩ := P 9 (by omega)
  obtain ⟨W5, hW5, htw, k0, k1, k2, k3, k4, k5, k6, k7, k8, k9⟩ := set10 (x0 := .int .i64 0) (x1 := .int .i64 0) (x2 := .bool false) (x3 := .bool false) (x4 := .int .i64 0) (x5 := .int .i64 0) (x6 := .int .i64 0) (x7 := .int .i64 0) (x8 := .int .i64 0) (x9 := .bool false) (U := W0) t0 t1 t2 t3 t4 t5 t6 t7 t8 t9
  have HW5 := hideG hW5
  have HBW := hideG (show Below w.heap.size w W5 by
    rw [hW5]
    exact ((((((((((HB0.out.setCell (Nat.le_refl _) _).setCell (Nat.le_refl _) _).setCell (Nat.le_refl _) _).setCell (Nat.le_refl _) _).setCell (Nat.le_refl _) _).setCell (Nat.le_refl _) _).setCell (Nat.le_refl _) _).setCell (Nat.le_refl _) _).setCell (Nat.le_refl _) _).setCell (Nat.le_refl _) _))
  have HW0 := hideG hW0
  have HV := hideG (visitingNil_any (.slice a n c) W0)
  clear hW5 htw hW0 P
  go_enter Tryz.func70, Tryz.ntmps70
  go_wp2_with fail
  go_step3
  go_wp2_with fail
  go_step3
  go_wp2_with fail
  rw [HW0.out]
  go_loopg [] 0 (fun g wr => Hid (wr = W0))
  case atStart => exact hideG rfl
  case round =>
    obtain rfl := hrel.out
    clear hrel
    go_wp2_with fail
    refine HV.out.mono ?_
    rintro ex wz ⟨rfl, hwz⟩
    obtain rfl : _ = wz := hwz.symm
    go_wp2_with fail
    rw [← HW5.out]
    rw [Exit.noGoto_ret]
    exact bodyPost_ret (v := .tuple #[callZ, .bool false]) (by simp [results, Tryz.results70, go_sem, callZ, k0, k1, k2, k3, k4, k5, k6, k7, k8, k9]) rfl ⟨rfl, HBW.out⟩

theorem visits_any (T : List Nd) (hS : Sane T) (v : Value) (e : Ev) (w : World) (hT : TreeAt w v T) (h6 : T.length ≤ 1000) :
    Calls Tryz.prog 124 #[v, .agg #[.int .i64 e.type, .int .i64 e.target, .int .i64 e.related, .bool e.bub, .bool e.can, .bool e.comp]] w fun x w' => ∃ a c, x = .returned (.slice a (visitsI T e).length c) ∧ w'.ownsRow w.heap.size 39 5 (.slice a (visitsI T e).length c) (visitsI T e).length (viCells (visitsI T e)) ∧ Below w.heap.size w w' := callsIn_wide.1 (visits_in T hS v e w hT h6)
/-- The event's box is as it was. -/
def SN (w V : World) (e : Ev) (U : World) : Prop := Below V.heap.size V U ∧ U.cell? ⟨w.heap.size, 0, none⟩ = some (.int .i64 e.type) ∧ U.cell? ⟨w.heap.size, 1, none⟩ = some (.int .i64 e.target) ∧ U.cell? ⟨w.heap.size, 2, none⟩ = some (.int .i64 e.related) ∧ U.cell? ⟨w.heap.size, 3, none⟩ = some (.bool e.bub) ∧ U.cell? ⟨w.heap.size, 4, none⟩ = some (.bool e.can) ∧ U.cell? ⟨w.heap.size, 5, none⟩ = some (.bool e.comp)
theorem sn_call {w V U w' : World} {e : Ev} (hb : Below U.heap.size U w') (hv : Below V.heap.size V w') (h : SN w V e U) : SN w V e w' := by
  obtain ⟨_, h0, h1, h2, h3, h4, h5⟩ := h
  exact ⟨hv, cell_below hb h0, cell_below hb h1, cell_below hb h2, cell_below hb h3, cell_below hb h4, cell_below hb h5⟩
theorem sn_alloc {w V U : World} {e : Ev} {o : Obj} (h : SN w V e U) : SN w V e (U.alloc o) := sn_call ((Below.refl _ _).alloc (Nat.le_refl _) o) (h.1.alloc h.1.size o) h

set_option maxRecDepth 100000 in
set_option maxHeartbeats 4000000 in
/-- There is none. -/
theorem newNone_any (T : List Nd) (hS : Sane T) (v : Value) (e : Ev) (w : World) (hT : TreeAt w v T) (hb : bothB T e.target e.target = false) :
    Calls Tryz.prog 69 #[v, .agg #[.int .i64 e.type, .int .i64 e.target, .int .i64 e.related, .bool e.bub, .bool e.can, .bool e.comp]] w fun x w' => x = .returned (.pointer none) ∧ Below w.heap.size w w' := by
  obtain ⟨ta, tc, rfl⟩ := hT.shape
  obtain ⟨W0, hW0⟩ : ∃ W0, w.alloc (.cells #[.int .i64 e.type, .int .i64 e.target, .int .i64 e.related, .bool e.bub, .bool e.can, .bool e.comp] 25) = W0 := ⟨_, rfl⟩
  have HB0 := hideG (show Below w.heap.size w W0 by rw [← hW0]; exact (Below.refl _ w).alloc (Nat.le_refl _) _)
  have P1 := hideG (show W0.cell? ⟨w.heap.size, 1, none⟩ = some (.int .i64 e.target) by rw [← hW0]; simp)
  have HT0 := hideG (hT.below HB0.out)
  have HC := hideG (check_any T hS _ W0 HT0.out)
  have HW0 := hideG hW0
  clear hW0 hT
  cases hm : mayB T
  · have HK := hideG (show checkE T = 1 by simp only [checkE, hm, Bool.false_eq_true, if_false])
    clear hm hb
    go_enter Tryz.func69, Tryz.ntmps69
    go_wp2_with fail
    rw [HW0.out]
    refine HC.out.mono ?_
    rintro ex w1 ⟨rfl, hb1⟩
    rw [HK.out]
    have p1 := cell_below hb1 P1.out
    have HB1 := hideG (HB0.out.trans (hb1.mono HB0.out.size))
    clear hb1
    go_wp2_with fail
    go_ret
    exact ⟨rfl, HB1.out⟩
  · have HK := hideG (show checkE T = 0 by simp only [checkE, hm, if_true])
    simp only [bothB, hm, Bool.true_and, Bool.and_self, isNodeB] at hb
    clear hm
    by_cases hl : e.target < 0
    · clear hb
      go_enter Tryz.func69, Tryz.ntmps69
      go_wp2_with fail
      rw [HW0.out]
      refine HC.out.mono ?_
      rintro ex w1 ⟨rfl, hb1⟩
      rw [HK.out]
      have p1 := cell_below hb1 P1.out
      have HB1 := hideG (HB0.out.trans (hb1.mono HB0.out.size))
      clear hb1
      go_wp2_with fail
      go_ret
      exact ⟨rfl, HB1.out⟩
    · have hge : (T.length : Int) ≤ e.target := by
        simp only [Bool.and_eq_false_iff, decide_eq_false_iff_not] at hb
        omega
      have hl0 : 0 ≤ e.target := by omega
      clear hb hl
      go_enter Tryz.func69, Tryz.ntmps69
      go_wp2_with fail
      rw [HW0.out]
      refine HC.out.mono ?_
      rintro ex w1 ⟨rfl, hb1⟩
      rw [HK.out]
      have p1 := cell_below hb1 P1.out
      have HB1 := hideG (HB0.out.trans (hb1.mono HB0.out.size))
      clear hb1
      go_wp2_with fail
      go_ret
      exact ⟨rfl, HB1.out⟩

set_option maxRecDepth 100000 in
set_option maxHeartbeats 8000000 in
/-- A run at its start. -/
theorem new_any (T : List Nd) (hS : Sane T) (v : Value) (e : Ev) (w : World) (hT : TreeAt w v T) (h6 : T.length ≤ 1000) (hm : mayB T = true) (tg : Nat) (htg : e.target = (tg : Int)) (htl : tg < T.length) :
    Calls Tryz.prog 69 #[v, .agg #[.int .i64 e.type, .int .i64 e.target, .int .i64 e.related, .bool e.bub, .bool e.can, .bool e.comp]] w fun x w' => ∃ b, x = .returned (.pointer (some ⟨b, 0, none⟩)) ∧ (∀ D : Nat → Prop, (∀ d, D d → d < w.heap.size) → RunOk w' b D ⟨e.type, e.can, false, visitsI T e, viD, []⟩) ∧ w.heap.size ≤ b ∧ Below w.heap.size w w' := by
  obtain ⟨ta, tc, rfl⟩ := hT.shape
  obtain ⟨W0, hW0⟩ : ∃ W0, w.alloc (.cells #[.int .i64 e.type, .int .i64 e.target, .int .i64 e.related, .bool e.bub, .bool e.can, .bool e.comp] 25) = W0 := ⟨_, rfl⟩
  have HB0 := hideG (show Below w.heap.size w W0 by rw [← hW0]; exact (Below.refl _ w).alloc (Nat.le_refl _) _)
  have hP : SN w W0 e W0 := by rw [← hW0]; exact ⟨Below.refl _ _, by simp, by simp, by simp, by simp, by simp, by simp⟩
  have HP := hideG hP
  have HT0 := hideG (hT.below HB0.out)
  have HC := hideG (check_any T hS _ W0 HT0.out)
  have HW0 := hideG hW0
  have HSZ := hideG (show w.heap.size < W0.heap.size by rw [← hW0]; simp)
  have HK := hideG (show checkE T = 0 by simp only [checkE, hm, if_true])
  have HS := hideG hS
  have hl0 : 0 ≤ e.target := by omega
  have hlt : e.target < (T.length : Int) := by omega
  clear hW0 hT hm hP hS htg
  go_enter Tryz.func69, Tryz.ntmps69
  go_wp2_with fail
  rw [HW0.out]
  refine HC.out.mono ?_
  rintro ex w1 ⟨rfl, hb1⟩
  rw [HK.out]
  have HB1 := hideG (HB0.out.trans (hb1.mono HB0.out.size))
  have HP1 : SN w w1 e w1 := by have := sn_call hb1 hb1 HP.out; exact ⟨Below.refl _ _, this.2⟩
  have p1 := HP1.2.2.1
  have HQ := hideG HP1
  have hwl : w.heap.size < w1.heap.size := below_of_cell p1
  have HR := hideG (show ∀ U, Below w1.heap.size w1 U → Calls Tryz.prog 124 #[.slice ta T.length tc, .agg #[.int .i64 e.type, .int .i64 e.target, .int .i64 e.related, .bool e.bub, .bool e.can, .bool e.comp]] U (fun x w' => ∃ a c, x = .returned (.slice a (visitsI T e).length c) ∧ (VisAt w' (.slice a (visitsI T e).length c) (visitsI T e) ∧ ∀ d, d < w1.heap.size → Off d (.slice a (visitsI T e).length c)) ∧ Below U.heap.size U w' ∧ Below w1.heap.size w1 w') from fun U hU => by
    refine (visits_any T HS.out _ e U ((HT0.out.below hb1).below hU) h6).mono ?_
    rintro x w' ⟨a, c, rfl, ho, hb⟩
    exact ⟨a, c, rfl, ⟨ownsRow_viCells ho, fun d hd => Off.own ho (Nat.lt_of_lt_of_le hd hU.size)⟩, hb, hU.trans (hb.mono hU.size)⟩)
  clear hb1 HP1
  go_wp2_with fail
  clear p1
  have hS0 : SN w w1 e w1.drew := sn_call (below_drewS _) (below_drewS _) HQ.out
  go_region_held3 (fun w' => Below w1.heap.size w1 w' ∧ w'.cell? ⟨w.heap.size, 0, none⟩ = some (.int .i64 e.type) ∧ w'.cell? ⟨w.heap.size, 1, none⟩ = some (.int .i64 e.target) ∧ w'.cell? ⟨w.heap.size, 2, none⟩ = some (.int .i64 e.related) ∧ w'.cell? ⟨w.heap.size, 3, none⟩ = some (.bool e.bub) ∧ w'.cell? ⟨w.heap.size, 4, none⟩ = some (.bool e.can) ∧ w'.cell? ⟨w.heap.size, 5, none⟩ = some (.bool e.comp))
    (first | assumption | exact hS0 | exact sn_call (by assumption) (by assumption) (by assumption) | exact sn_alloc (by assumption))
    (first | (go_at_call 124; refine Calls.mono (HR.out _ (by first | assumption | exact below_drew' (Below.refl _ _))) ?_; rintro x w' ⟨fa, fc, rfl, ho, hbU, hbV⟩))
  all_goals
    have HVA := hideG ho.1
    have HVO := hideG ho.2
    have HBV := hideG hbV
    have hle : w1.heap.size ≤ w'.heap.size := hbV.size
    have HLE := hideG hle
    have HWL := hideG hwl
    have HFIN := hideG (show ∀ D : Nat → Prop, (∀ d, D d → d < w.heap.size) → RunOk (w'.alloc (.cells #[.int .i64 e.type, .bool e.can, .bool false, .slice fa (visitsI T e).length fc, .int .i64 0, .int .i64 0, .int .i64 0, .int .i64 0, .bool false, .slice none 0 0] 134)) w'.heap.size D ⟨e.type, e.can, false, visitsI T e, viD, []⟩ from fun D hD =>
      ⟨_, _, ⟨by simp, by simp, by simp, by simp, ⟨by simp [viD], by simp [viD], by simp [viD], by simp [viD], by simp [viD]⟩, by simp, HVA.out.below ((Below.refl _ _).alloc (Nat.le_refl _) _), hears_none _⟩, fun j hj => by
        have : j = 0 ∨ j = 1 ∨ j = 2 ∨ j = 3 ∨ j = 4 ∨ j = 5 ∨ j = 6 ∨ j = 7 ∨ j = 8 ∨ j = 9 := by omega
        rcases this with rfl | rfl | rfl | rfl | rfl | rfl | rfl | rfl | rfl | rfl <;> simp, ⟨Off.vis HVA.out (Nat.le_refl _), Off.nil⟩, fun d hd => HVO.out d (by have := hD d hd; have := HWL.out; omega), fun _ _ => Off.nil⟩)
    clear ho hbU hbV hle hwl
    go_wp2_with fail
    go_ret
    exact ⟨_, rfl, HFIN.out, by have := HLE.out; have := HWL.out; omega, HB1.out.trans ((HBV.out.alloc HBV.out.size _).mono HB1.out.size)⟩
end Go.Proofs.YtpmacpbhdgigfaaGreat
namespace Go.Proofs.YtpmacpbhdgigfaaGreat
open Go.RowKit
open L8 (Hr hrD HearAt HearsAt forL hearsP hearCells dropL wp_append_any holds_below)

/-- Next, told of in one form for both answers. -/
def NextUni (l : List Hr) (r : Rn) (b : Nat) (D : Nat → Prop) (w : World) (x : Ending) (w' : World) : Prop :=
  ∃ (c : Cl) (isb : Bool) (left : List Vi) (cur : Vi) (wait : List Hr), x = .returned (.tuple #[.agg #[.int .i64 c.1.node, .int .i64 c.1.type, .bool c.1.cap, .bool c.1.once, .int .i64 c.1.prog, .int .i64 c.2.s.node, .int .i64 c.2.s.tg, .int .i64 c.2.s.rel, .int .i64 c.2.phase, .bool c.2.cap], .bool isb]) ∧ Turn b w w' ∧ RunOk w' b D { r with left := left, cur := cur, wait := wait } ∧
    (isb = true → cur = c.2 ∧ nextL l r.kind r.left r.cur r.wait = some (c.1, c.2, left, wait)) ∧ (isb = false → c = clD ∧ left = [] ∧ wait = [] ∧ nextL l r.kind r.left r.cur r.wait = none)
theorem next_uni (w : World) (b : Nat) (D : Nat → Prop) (r : Rn) (v : Value) (l : List Hr) (hL : HearsAt w v l) (hl : l.length ≤ 100000) (h : RunOk w b D r) (hD : ∀ d, D d → d < w.heap.size) (hr : r.left.length ≤ 100000) (hw : r.wait.length ≤ 100000) (hvb : Off b v) :
    Calls Tryz.prog 70 #[.pointer (some ⟨b, 0, none⟩), v] w (NextUni l r b D w) := by
  refine (next_any w b D r v l hL hl h hD hr hw hvb).mono ?_
  rintro x w' ⟨ht, h1, h2⟩
  cases hn : nextL l r.kind r.left r.cur r.wait with
  | none =>
    obtain ⟨hx, cur, hk⟩ := h2 hn
    exact ⟨clD, false, [], cur, [], hx, ht, hk, fun e => (by cases e), fun _ => ⟨rfl, rfl, rfl, hn⟩⟩
  | some q =>
    obtain ⟨h, cur, left, wait⟩ := q
    obtain ⟨hx, hk⟩ := h1 _ _ _ _ hn
    exact ⟨(h, cur), true, left, cur, wait, hx, ht, hk, fun _ => ⟨rfl, hn⟩, fun e => (by cases e)⟩

/-- Where a list's block is not, a row that grows leaves it. -/
theorem turn_grown {b : Nat} {u w w' : World} {row : Option Nat} (ht : Turn b u w) (hg : w.grownBy w' row) (hr : ∀ k, row = some k → u.heap.size ≤ k) (hbu : b < u.heap.size) : Turn b u w' := by
  obtain ⟨g1, g2, g3, g4, g5⟩ := hg
  have hne : ∀ k, k < u.heap.size → some k ≠ row := fun k hk e => by have := hr k e.symm; omega
  refine ⟨g1.trans ht.os, g2.trans ht.tape, g3.trans ht.output, Nat.le_trans ht.size g4, fun k hk hb => ?_, fun j hb => ?_⟩
  · rw [g5 k (Nat.lt_of_lt_of_le hk ht.size) (hne k hk)]; exact ht.block k hk hb
  · have e := g5 b (Nat.lt_of_lt_of_le hbu ht.size) (hne b hbu)
    have := ht.frz j hb
    unfold World.frozen? at this ⊢
    simp only [e]
    exact this

/-- All calls but the last steps: what is known at the loop's head. -/
structure AllK (kind : Int) (can : Bool) (l0 : List Hr) (L0 : List Vi) (w1 : World) (b q : Nat) (va : Option Addr) (vc : Nat) (oa : Option Addr) (oc : Nat) (l : List Hr) (out : List Cl) (c : Cl) (isb : Bool) (left : List Vi) (cur : Vi) (wait : List Hr) (wr : World) : Prop where
  hears : HearsAt wr (.slice va l.length vc) l
  off : Off b (.slice va l.length vc)
  offr : ∀ z, oa = some z → Off z.block (.slice va l.length vc)
  few : l.length ≤ 1000
  row : wr.ownsRow w1.heap.size 41 10 (.slice oa out.length oc) out.length (callCells out)
  run : RunOk wr b (fun d => ∃ z : Addr, oa = some z ∧ d = z.block) ⟨kind, can, false, left, cur, wait⟩
  call : CallAt wr q 0 c
  frz : ∀ j, j < 10 → wr.frozen? ⟨q, j, none⟩ = false
  new : w1.heap.size ≤ q
  neq : ∀ z, oa = some z → z.block ≠ q
  turn : Turn b w1 wr
  yes : isb = true → cur = c.2 ∧ (∀ rest, AllR kind (if c.1.once then dropL l c.1 else l) left cur wait rest → AllR kind l0 L0 viD [] (out ++ c :: rest))
  no : isb = false → AllR kind l0 L0 viD [] out
  lens : left.length ≤ L0.length ∧ wait.length ≤ 1000
  cnt : out.length + (if isb then 1 else 0) + todo 1000 left wait ≤ todo 1000 L0 []
theorem grown_block {w w' : World} {row : Option Nat} (hg : w.grownBy w' row) : (∀ k, k < w.heap.size → row ≠ some k → w'.heap[k]? = w.heap[k]?) ∧ w.heap.size ≤ w'.heap.size := by
  obtain ⟨_, _, _, g4, g5⟩ := hg
  exact ⟨fun k hk hne => g5 k hk (fun e => hne e.symm), g4⟩
theorem grown_cell {w w' : World} {row : Option Nat} (hg : w.grownBy w' row) {b o : Nat} {u : Value} (hc : w.cell? ⟨b, o, none⟩ = some u) (hne : row ≠ some b) : w'.cell? ⟨b, o, none⟩ = some u :=
  (World.cell?_of_block (a := ⟨b, o, none⟩) ((grown_block hg).1 b (below_of_cell hc) hne)).trans hc
theorem grown_frz {w w' : World} {row : Option Nat} (hg : w.grownBy w' row) {b o : Nat} (hb : b < w.heap.size) (hf : w.frozen? ⟨b, o, none⟩ = false) (hne : row ≠ some b) : w'.frozen? ⟨b, o, none⟩ = false := by
  have e := (grown_block hg).1 b hb hne
  unfold World.frozen? at hf ⊢
  simp only [e]
  exact hf
theorem CallAt.grown {w w' : World} {row : Option Nat} (hg : w.grownBy w' row) {b o : Nat} {h : Cl} (H : CallAt w b o h) (hne : row ≠ some b) : CallAt w' b o h :=
  ⟨grown_cell hg H.c0 hne, grown_cell hg H.c1 hne, grown_cell hg H.c2 hne, grown_cell hg H.c3 hne, grown_cell hg H.c4 hne, grown_cell hg H.c5 hne, grown_cell hg H.c6 hne, grown_cell hg H.c7 hne, grown_cell hg H.c8 hne, grown_cell hg H.c9 hne⟩
theorem hears_grown {w w' : World} {row : Option Nat} (hg : w.grownBy w' row) {v : Value} {l : List Hr} (h : HearsAt w v l) (hne : ∀ k, row = some k → Off k v) : HearsAt w' v l := by
  obtain ⟨a, cap, rfl, hd⟩ := h
  refine ⟨a, cap, rfl, hd.1, fun h0 => ?_⟩
  obtain ⟨c, o, rfl, hx⟩ := hd.2 h0
  have hc : row ≠ some c := fun e => hne c e c o _ _ rfl h0 rfl
  exact ⟨c, o, rfl, fun j hj => ⟨grown_cell hg (hx j hj).node hc, grown_cell hg (hx j hj).type hc, grown_cell hg (hx j hj).cap hc, grown_cell hg (hx j hj).once hc, grown_cell hg (hx j hj).prog hc⟩⟩
theorem vis_grown {w w' : World} {row : Option Nat} (hg : w.grownBy w' row) {v : Value} {l : List Vi} (h : VisAt w v l) (hne : ∀ k, row = some k → Off k v) : VisAt w' v l := by
  obtain ⟨a, cap, rfl, hd⟩ := h
  refine ⟨a, cap, rfl, hd.1, fun h0 => ?_⟩
  obtain ⟨c, o, rfl, hx⟩ := hd.2 h0
  have hc : row ≠ some c := fun e => hne c e c o _ _ rfl h0 rfl
  exact ⟨c, o, rfl, fun j hj => ⟨grown_cell hg (hx j hj).node hc, grown_cell hg (hx j hj).tg hc, grown_cell hg (hx j hj).rel hc, grown_cell hg (hx j hj).phase hc, grown_cell hg (hx j hj).cap hc⟩⟩
theorem RunOk.grown {w w' : World} {row : Option Nat} {b : Nat} {D : Nat → Prop} {r : Rn} (h : RunOk w b D r) (hg : w.grownBy w' row) (hd : ∀ k, row = some k → D k ∧ k ≠ b) : RunOk w' b D r := by
  obtain ⟨lv, wv, hr, hf, h1, h2, h3⟩ := h
  have hne : row ≠ some b := fun e => (hd b e).2 rfl
  have hl : b < w.heap.size := below_of_cell hr.kind
  exact ⟨lv, wv, ⟨grown_cell hg hr.kind hne, grown_cell hg hr.can hne, grown_cell hg hr.done hne, grown_cell hg hr.left hne, ⟨grown_cell hg hr.cur.node hne, grown_cell hg hr.cur.tg hne, grown_cell hg hr.cur.rel hne, grown_cell hg hr.cur.phase hne, grown_cell hg hr.cur.cap hne⟩, grown_cell hg hr.wait hne, vis_grown hg hr.lefts (fun k e => h2 k (hd k e).1), hears_grown hg hr.waits (fun k e => h3 k (hd k e).1)⟩, fun j hj => grown_frz hg hl (hf j hj) hne, h1, h2, h3⟩
theorem ownsRow_off {d : Nat} {w w' : World} {base : Nat} {e : TypeId} {size : Nat} {v : Value} {n : Nat} {xs : List Value} (h : w.ownsRow base e size v n xs) (ht : Turn d w w') (hne : v.ownBlock ≠ some d) : w'.ownsRow base e size v n xs := by
  refine ⟨h.1, ?_⟩
  rcases h.2 with h | ⟨g, cap, cur, rfl, k, hg, r⟩
  · exact .inl h
  · exact .inr ⟨g, cap, cur, rfl, k, by rw [ht.block g (Array.getElem?_eq_some_iff.1 hg).1 (fun e => hne (by rw [e]; rfl))]; exact hg, r⟩
theorem turn_off {b d : Nat} {u w w' : World} (ht : Turn b u w) (h : Turn d w w') (hd : u.heap.size ≤ d) (hb : b < u.heap.size) : Turn b u w' :=
  ⟨h.os.trans ht.os, h.tape.trans ht.tape, h.output.trans ht.output, Nat.le_trans ht.size h.size, fun k hk e => (h.block k (Nat.lt_of_lt_of_le hk ht.size) (by omega)).trans (ht.block k hk e), fun j hb' => by
    have e := h.block b (Nat.lt_of_lt_of_le hb ht.size) (by omega)
    have := ht.frz j hb'
    unfold World.frozen? at this ⊢
    simp only [e]
    exact this⟩
theorem nodes_ne {α : Type} {a b : Option α} (h : a ≠ b) : ¬ a = b := h

set_option maxRecDepth 100000 in
set_option maxHeartbeats 16000000 in
theorem all_any (T : List Nd) (hS : Sane T) (v : Value) (e : Ev) (w : World) (hT : TreeAt w v T) (h6 : T.length ≤ 1000) (l : List Hr) (vl : Value) (hL : HearsAt w vl l) (hl : l.length ≤ 1000) (hm : mayB T = true) (tg : Nat) (htg : e.target = (tg : Int)) (htl : tg < T.length) (hvs : (visitsI T e).length ≤ 2000) :
    Calls Tryz.prog 21 #[v, .agg #[.int .i64 e.type, .int .i64 e.target, .int .i64 e.related, .bool e.bub, .bool e.can, .bool e.comp], vl] w fun x w' => ∃ a c out, x = .returned (.slice a out.length c) ∧ w'.ownsRow w.heap.size 41 10 (.slice a out.length c) out.length (callCells out) ∧ AllR e.type l (visitsI T e) viD [] out ∧ Below w.heap.size w w' := by
  obtain ⟨i0, hi0, hz0, hz1, hz2⟩ := info_parts infoCl
  obtain ⟨ta, tc, rfl⟩ := hT.shape
  obtain ⟨va, vc, rfl⟩ := hL.shape
  obtain ⟨W0, hW0⟩ : ∃ W0, w.alloc (.cells #[.int .i64 e.type, .int .i64 e.target, .int .i64 e.related, .bool e.bub, .bool e.can, .bool e.comp] 25) = W0 := ⟨_, rfl⟩
  have HB0 := hideG (show Below w.heap.size w W0 by rw [← hW0]; exact (Below.refl _ w).alloc (Nat.le_refl _) _)
  have HL0 := hideG (hL.below HB0.out)
  have HN := hideG (new_any T hS _ e W0 (hT.below HB0.out) h6 hm tg htg htl)
  have HSV := hideG (show (visitsI T e).length ≤ 2000 from hvs)
  have HW0 := hideG hW0
  clear hW0 hT hL hm htg htl hS hvs h6
  go_enter Tryz.func21, Tryz.ntmps21
  go_wp2_with fail
  rw [HW0.out]
  refine HN.out.mono ?_
  rintro ex w1 ⟨b, rfl, hrun, hbW, hb1⟩
  obtain ⟨L0, hL0⟩ : ∃ L0, visitsI T e = L0 := ⟨_, rfl⟩
  rw [hL0] at hrun HSV
  have HLV := hideG hL0
  clear hL0
  have hbw1 : b < w1.heap.size := (hrun (fun _ => False) (fun _ k => k.elim)).lt
  have HB1 := hideG (HB0.out.trans (hb1.mono HB0.out.size))
  have HL1 := hideG (HL0.out.below hb1)
  have hoff : Off b (.slice va l.length vc) := Off.hears HL0.out hbW
  have HOFF := hideG hoff
  have HX := hideG (next_uni w1 b (fun _ => False) ⟨e.type, e.can, false, L0, viD, []⟩ _ l HL1.out (by omega) (hrun _ (fun _ k => k.elim)) (fun _ k => k.elim) (by have := HSV.out; simp only; omega) (by simp) hoff)
  have HBW := hideG (show W0.heap.size ≤ b ∧ b < w1.heap.size from ⟨hbW, hbw1⟩)
  clear hrun hb1 hbW hoff hbw1 HN
  go_wp2_with fail
  refine HX.out.mono ?_
  rintro ex w2 ⟨c, isb, left, cur, wait, rfl, ht2, hk2, hy2, hn2⟩
  obtain ⟨W3, hW3⟩ : ∃ W3, w2.alloc (.cells #[.int .i64 c.1.node, .int .i64 c.1.type, .bool c.1.cap, .bool c.1.once, .int .i64 c.1.prog, .int .i64 c.2.s.node, .int .i64 c.2.s.tg, .int .i64 c.2.s.rel, .int .i64 c.2.phase, .bool c.2.cap] 41) = W3 := ⟨_, rfl⟩
  have hb3 : Below w2.heap.size w2 W3 := by rw [← hW3]; exact (Below.refl _ w2).alloc (Nat.le_refl _) _
  have HK := hideG (show AllK e.type e.can l L0 w1 b w2.heap.size va vc none 0 l [] c isb left cur wait W3 from by
    have hq : (⟨e.type, e.can, false, L0, viD, []⟩ : Rn).left = L0 := rfl
    have hrow : W3.ownsRow w1.heap.size 41 10 (.slice none ([] : List Cl).length 0) ([] : List Cl).length (callCells []) := World.ownsRow_nil _ _ _ _
    have hcall : CallAt W3 w2.heap.size 0 c := by rw [← hW3]; exact callAt_new w2 41 c
    have hfz : ∀ j, j < 10 → W3.frozen? ⟨w2.heap.size, j, none⟩ = false := fun j _ => by rw [← hW3]; simp
    have hlens : left.length ≤ L0.length ∧ wait.length ≤ 1000 := by
      cases isb with
      | false => obtain ⟨_, rfl, rfl, _⟩ := hn2 rfl; simp
      | true => obtain ⟨_, hx⟩ := hy2 rfl; exact ⟨(wait_le hl (by simp) hx).2, (wait_le hl (by simp) hx).1⟩
    refine ⟨(HearsAt_turn HL1.out ht2 HOFF.out).below hb3, HOFF.out, fun z e => (by cases e), hl, hrow, RunOk.sub (RunOk.below hk2 hb3) (fun d ⟨z, e, _⟩ => (by cases e)), hcall, hfz, ht2.size, fun z e => (by cases e), ht2.trans (Turn.of_below hb3), fun hi => ?_, fun hi => ?_, hlens, ?_⟩
    · obtain ⟨rfl, hx⟩ := hy2 hi
      exact ⟨rfl, fun rest hr => AllR.call hx hr⟩
    · exact AllR.done (hn2 hi).2.2.2
    · cases isb with
      | false => obtain ⟨_, rfl, rfl, _⟩ := hn2 rfl; simp [todo]
      | true => obtain ⟨_, hx⟩ := hy2 rfl; have := todo_lt hl hx; simp; simp at this; omega)
  have HW3 := hideG hW3
  clear hW3 hb3 ht2 hk2 hy2 hn2 HL1 HOFF HX HL0
  go_wp2_with (first | rw [HW3.out])
  have HW3' := HW3.out
  go_loopg [2, 8, 9, 10] (if isb then todo 1000 left wait + 1 else 0) (fun g s2 s8 s9 s10 wr => Hid (∃ q va vc oa oc l' out c isb left cur wait, s2 = .slice va (List.length (α := Hr) l') vc ∧ s8 = .slice oa (List.length (α := Cl) out) oc ∧ s9 = .pointer (some ⟨q, 0, none⟩) ∧ s10 = .bool isb ∧ g = (if isb then todo 1000 left wait + 1 else 0) ∧ AllK e.type e.can l L0 w1 b q va vc oa oc l' out c isb left cur wait wr))
  case atStart => exact hideG ⟨_, _, _, _, _, _, [], _, _, _, _, _, rfl, rfl, rfl, rfl, rfl, HK.out⟩
  case round =>
    obtain ⟨q, va, vc, oa, oc, l', out, c, isb, left, cur, wait, rfl, rfl, rfl, rfl, hg, hK⟩ := hrel.out
    clear hrel HK
    have HKK := hideG hK
    cases isb
    · clear hK
      go_wp2_with fail
      go_ret
      have hB := Turn.below HB1.out HKK.out.turn (by have := HBW.out; have := HB0.out.size; omega)
      exact ⟨oa, oc, out, rfl, ownsRow_base HKK.out.row HB1.out.size, by rw [HLV.out]; exact HKK.out.no rfl, hB⟩
    · obtain ⟨hcur, hyes⟩ := hK.yes rfl
      subst hcur
      have HYES := hideG hyes
      have HG0 := hideG (show gk = todo 1000 left wait + 1 from hg)
      obtain ⟨k0, k1, k2, k3, k4, k5, k6, k7, k8, k9⟩ := hK.call
      simp only [Nat.zero_add] at k1 k2 k3 k4 k5 k6 k7 k8 k9
      have hql : q < wr.heap.size := below_of_cell k0
      -- what holds behind the drop, whether there was one or not
      have step : ∀ (U : World) (l2 : List Hr) (va2 : Option Addr) (vc2 : Nat), Below wr.heap.size wr U → (if c.1.once then dropL l' c.1 else l') = l2 → HearsAt U (.slice va2 l2.length vc2) l2 → (∀ z, va2 = some z → z.block < wr.heap.size → Value.slice va2 l2.length vc2 = Value.slice va l'.length vc) →
          l2.length ≤ 1000 ∧ Off b (.slice va2 l2.length vc2) ∧ (∀ z, oa = some z → Off z.block (.slice va2 l2.length vc2)) := by
        intro U l2 va2 vc2 hb he hh hor
        have hoffs : ∀ d, d < wr.heap.size → Off d (.slice va l'.length vc) → Off d (.slice va2 l2.length vc2) := by
          intro d hd ho c' o' n' k' e h0
          injection e with e1 e2 e3
          subst e1
          by_cases hc : c' < wr.heap.size
          · exact ho c' o' l2.length vc2 (by rw [← hor _ rfl hc]) (by omega)
          · omega
        refine ⟨?_, hoffs b (Nat.lt_of_lt_of_le HBW.out.2 hK.turn.size) hK.off, fun z e => hoffs z.block ?_ (hK.offr z e)⟩
        · have := hK.few
          have h2 := dropL_le l' c.1
          rw [← he]
          split <;> omega
        · exact (hK.row.lt z.block (by rw [e]; rfl)).2
      have HSTEP := hideG step
      have HROW := hideG hK.row
      have HEAR := hideG hK.hears
      have hfew := hK.few
      clear step hK hyes hg
      have HTW := hideG HKK.out.turn
      have HOK := hideG HKK.out.run
      have HCNT := hideG HKK.out.cnt
      have HLEN := hideG HKK.out.lens
      have HNEQ := hideG HKK.out.neq
      have HG := hideG (show gk = todo 1000 left wait + 1 from HG0.out)
      clear HKK HG0
      obtain ⟨⟨n0, t0, c0, o0, p0⟩, ⟨⟨s0, s1, s2⟩, ph, cc⟩⟩ := c
      dsimp only at k0 k1 k2 k3 k4 k5 k6 k7 k8 k9
      cases o0
      · have HUB := hideG (Below.refl wr.heap.size wr)
        have HLE := hideG (show (if ((⟨n0, t0, c0, false, p0⟩, ⟨⟨s0, s1, s2⟩, ph, cc⟩) : Cl).1.once then dropL l' ((⟨n0, t0, c0, false, p0⟩, ⟨⟨s0, s1, s2⟩, ph, cc⟩) : Cl).1 else l') = l' from rfl)
        have HHU := HEAR
        have HS2 := hideG (HSTEP.out wr l' va vc HUB.out HLE.out HHU.out (fun z e hz => rfl))
        clear hfew HSTEP HEAR
        obtain ⟨hfw2, hof2, hor2⟩ := HS2.out
        have HFW2 := hideG hfw2
        have HOF2 := hideG hof2
        have HOR2 := hideG hor2
        have HTU := hideG (HTW.out.trans (Turn.of_below HUB.out))
        have HRU := hideG (show wr.ownsRow w1.heap.size 41 10 (.slice oa out.length oc) out.length (callCells out) from ownsRow_below HROW.out HUB.out (fun g e => (HROW.out.lt g e).2))
        have HOKU := hideG (RunOk.below HOK.out HUB.out)
        have hqU : q < wr.heap.size := below_of_cell k0
        have hcl : out.length + 1 ≤ 2100000 := by
          have h1 := HCNT.out
          have h2 := HSV.out
          unfold todo at h1
          simp only [if_true, List.length_nil] at h1
          have h3 : L0.length * (1000 + 1) ≤ 2000 * (1000 + 1) := Nat.mul_le_mul_right _ h2
          omega
        have HQU := hideG hqU
        have HCL := hideG hcl
        have HSZ := hideG (show w1.heap.size ≤ wr.heap.size from HTU.out.size)
        clear hfw2 hof2 hor2 HS2 hqU hcl
        generalize hn : out.length = n at *
        go_wp2_with (at_builtin; refine wpList_append_any rfl (.tmp 37) (.tmp 39) 29 rfl w1.heap.size 41 i0 _ 10 72 Tryz.underlying29 hi0 hz0 hz1 hz2 rfl (by decide) _ n (callCells out) rfl (HRU.out.alloc _) _ 1 (callCs ((⟨n0, t0, c0, false, p0⟩, ⟨⟨s0, s1, s2⟩, ph, cc⟩) : Cl)) rfl (holds_call (callAt_new wr 41 ((⟨n0, t0, c0, false, p0⟩, ⟨⟨s0, s1, s2⟩, ph, cc⟩) : Cl))) rfl ?h2 ?h3 ?h4 ?h5 ?_)
        case h2 => exact callCs_one _
        case h3 => have := HCL.out; simp only [maxLen]; omega
        case h4 => have := HCL.out; omega
        case h5 => have := HSZ.out; simp; omega
        intro v4 w4 ho4 hg4 hf4
        obtain ⟨a4, c4, rfl⟩ := ownsRow_shape ho4
        rw [callCells_snoc] at ho4
        obtain ⟨UA, hUA⟩ : ∃ UA, wr.alloc (.cells #[.int .i64 n0, .int .i64 t0, .bool c0, .bool false, .int .i64 p0, .int .i64 s0, .int .i64 s1, .int .i64 s2, .int .i64 ph, .bool cc] 41) = UA := ⟨_, rfl⟩
        have hg4' : UA.grownBy w4 (Value.slice oa n oc).ownBlock := by rw [← hUA]; exact hg4
        have hf4' : ∀ k, (Value.slice a4 (n + 1) c4).ownBlock = some k → (Value.slice oa n oc).ownBlock = some k ∨ UA.heap.size ≤ k := fun k e => by
            rcases hf4 k e with h | h
            · exact .inl h
            · exact .inr (by rw [← hUA, World.size_alloc]; exact h)
        have hbUA : Below wr.heap.size wr UA := by rw [← hUA]; exact (Below.refl _ _).alloc (Nat.le_refl _) _
        clear hg4 hf4
        have hrowB : ∀ k, (Value.slice oa n oc).ownBlock = some k → w1.heap.size ≤ k ∧ k < wr.heap.size := fun k e => HRU.out.lt k e
        have hoz : ∀ k, (Value.slice oa n oc).ownBlock = some k → ∃ z : Addr, oa = some z ∧ k = z.block := fun k e => by
          cases oa with
          | none => cases e
          | some z => cases e; exact ⟨z, rfl, rfl⟩
        have ha4 : ∀ z : Addr, a4 = some z → (Value.slice oa n oc).ownBlock = some z.block ∨ UA.heap.size ≤ z.block := fun z e => hf4' z.block (by rw [e]; rfl)
        have hbb := HBW.out.2
        have h4t : Turn b w1 w4 := turn_grown (HTU.out.trans (Turn.of_below hbUA)) hg4' (fun k e => (hrowB k e).1) hbb
        have h4h : HearsAt w4 (.slice va l'.length vc) l' := hears_grown hg4' (HHU.out.below hbUA) (fun k e => by obtain ⟨z, e1, e2⟩ := hoz k e; rw [e2]; exact HOR2.out z e1)
        have h4r : RunOk w4 b (fun d => (∃ z : Addr, a4 = some z ∧ d = z.block) ∨ d = w4.heap.size) ⟨e.type, e.can, false, left, (((⟨n0, t0, c0, false, p0⟩, ⟨⟨s0, s1, s2⟩, ph, cc⟩) : Cl)).2, wait⟩ := by
          have r1 := RunOk.below HOKU.out hbUA
          have r2 := RunOk.fresh (D' := fun d => (∃ z : Addr, oa = some z ∧ d = z.block) ∨ UA.heap.size ≤ d) r1 (fun d k => k)
          have r3 := RunOk.grown r2 hg4' (fun k e => ⟨.inl (by obtain ⟨z, e1, e2⟩ := hoz k e; exact ⟨z, e1, e2⟩), by have := (hrowB k e).1; omega⟩)
          refine RunOk.sub r3 (fun d k => ?_)
          rcases k with ⟨z, e1, e2⟩ | k
          · rcases ha4 z e1 with h | h
            · obtain ⟨z', e3, e4⟩ := hoz _ h; exact .inl ⟨z', e3, by rw [e2, e4]⟩
            · exact .inr (by rw [e2]; exact h)
          · exact .inr (by rw [k]; exact (grown_block hg4').2)
        have hqne : (Value.slice oa n oc).ownBlock ≠ some q := fun e => by obtain ⟨z, e1, e2⟩ := hoz q e; exact HNEQ.out z e1 e2.symm
        have h4c : CallAt w4 q 0 ((⟨n0, t0, c0, false, p0⟩, ⟨⟨s0, s1, s2⟩, ph, cc⟩) : Cl) := CallAt.grown hg4' (CallAt.below (show CallAt wr q 0 ((⟨n0, t0, c0, false, p0⟩, ⟨⟨s0, s1, s2⟩, ph, cc⟩) : Cl) from ⟨k0, k1, k2, k3, k4, k5, k6, k7, k8, k9⟩) hbUA) hqne
        have h4f : ∀ d, d < w4.heap.size → d ≠ b → (∀ z : Addr, a4 = some z → z.block ≠ d) → True := fun _ _ _ _ => trivial
        have h4o : ∀ z : Addr, a4 = some z → Off z.block (.slice va l'.length vc) := fun z e => by
          rcases ha4 z e with h | h
          · obtain ⟨z', e3, e4⟩ := hoz _ h; rw [e4]; exact HOR2.out z' e3
          · exact Off.hears HHU.out (Nat.le_trans hbUA.size h)
        have h4b : ∀ z : Addr, a4 = some z → w1.heap.size ≤ z.block ∧ z.block < w4.heap.size := fun z e => ho4.lt z.block (by rw [e]; rfl)
        clear k0 k1 k2 k3 k4 k5 k6 k7 k8 k9 h4f
        obtain ⟨k0, k1, k2, k3, k4, k5, k6, k7, k8, k9⟩ := h4c
        dsimp only [Nat.zero_add] at k0 k1 k2 k3 k4 k5 k6 k7 k8 k9
        have HO4 := hideG ho4
        have H4T := hideG h4t
        have H4H := hideG h4h
        have H4O := hideG h4o
        have H4B := hideG h4b
        obtain ⟨W5, hW5⟩ : ∃ W5, w4.alloc (.cells #[.int .i64 n0, .int .i64 t0, .bool c0, .bool false, .int .i64 p0, .int .i64 s0, .int .i64 s1, .int .i64 s2, .int .i64 ph, .bool cc] 41) = W5 := ⟨_, rfl⟩
        have hb5 : Below w4.heap.size w4 W5 := by rw [← hW5]; exact (Below.refl _ _).alloc (Nat.le_refl _) _
        have hs5 : W5.heap.size = w4.heap.size + 1 := by rw [← hW5]; simp
        have H5C := hideG (show CallAt W5 w4.heap.size 0 ((⟨n0, t0, c0, false, p0⟩, ⟨⟨s0, s1, s2⟩, ph, cc⟩) : Cl) by rw [← hW5]; exact callAt_new w4 41 ((⟨n0, t0, c0, false, p0⟩, ⟨⟨s0, s1, s2⟩, ph, cc⟩) : Cl))
        have H5F := hideG (show ∀ j, j < 10 → W5.frozen? ⟨w4.heap.size, j, none⟩ = false from fun j _ => by rw [← hW5]; simp)
        have HX5 := hideG (next_uni W5 b (fun d => (∃ z : Addr, a4 = some z ∧ d = z.block) ∨ d = w4.heap.size) ⟨e.type, e.can, false, left, (((⟨n0, t0, c0, false, p0⟩, ⟨⟨s0, s1, s2⟩, ph, cc⟩) : Cl)).2, wait⟩ (.slice va l'.length vc) l' (h4h.below hb5) (by have := HFW2.out; omega) (RunOk.below h4r hb5) (fun d k => by
          rcases k with ⟨z, e1, e2⟩ | k
          · have := (h4b z e1).2; omega
          · omega) (by have := HLEN.out.1; have := HSV.out; simp only; omega) (by have := HLEN.out.2; simp only; omega) HOF2.out)
        have HW5 := hideG hW5
        have HB5 := hideG hb5
        have HN := hideG hn
        clear hW5 hb5 hs5 ho4 h4t h4h h4r h4o h4b hqne ha4 hoz hrowB hbb hbUA hf4' hg4' hn hUA HOKU HRU
        go_wp2_with (first | rw [HW5.out])
        refine HX5.out.mono ?_
        rintro ex w6 ⟨c', isb', left', cur', wait', rfl, ht6, hk6, hy6, hn6⟩
        have hqb : w4.heap.size ≠ b := by have := H4T.out.size; have := HBW.out.2; omega
        obtain ⟨t0', t1', t2', t3', t4', t5', t6', t7', t8', t9'⟩ := CallAt.turn H5C.out ht6 hqb
        dsimp only [Nat.zero_add] at t0' t1' t2' t3' t4' t5' t6' t7' t8' t9'
        have fz := fun (j : Nat) (hj : j < 10) (u : Value) (hc : W5.cell? ⟨w4.heap.size, j, none⟩ = some u) => Turn.frozenAny ht6 hc hqb (H5F.out j hj)
        obtain ⟨y0, y1, y2, y3, y4, y5, y6, y7, y8, y9⟩ := H5C.out
        dsimp only [Nat.zero_add] at y0 y1 y2 y3 y4 y5 y6 y7 y8 y9
        have f0 := fz 0 (by omega) _ y0
        have f1 := fz 1 (by omega) _ y1
        have f2 := fz 2 (by omega) _ y2
        have f3 := fz 3 (by omega) _ y3
        have f4 := fz 4 (by omega) _ y4
        have f5 := fz 5 (by omega) _ y5
        have f6 := fz 6 (by omega) _ y6
        have f7 := fz 7 (by omega) _ y7
        have f8 := fz 8 (by omega) _ y8
        have f9 := fz 9 (by omega) _ y9
        obtain ⟨W7, hW7, htw, z0, z1, z2, z3, z4, z5, z6, z7, z8, z9⟩ := set10 (x0 := .int .i64 c'.1.node) (x1 := .int .i64 c'.1.type) (x2 := .bool c'.1.cap) (x3 := .bool c'.1.once) (x4 := .int .i64 c'.1.prog) (x5 := .int .i64 c'.2.s.node) (x6 := .int .i64 c'.2.s.tg) (x7 := .int .i64 c'.2.s.rel) (x8 := .int .i64 c'.2.phase) (x9 := .bool c'.2.cap) (U := w6) t0' t1' t2' t3' t4' t5' t6' t7' t8' t9'
        have HW7 := hideG hW7
        have HTW7 := hideG htw
        have HFZ := hideG (show ∀ j, j < 10 → W7.frozen? ⟨w4.heap.size, j, none⟩ = false from fun j hj => by
          rw [hW7]
          simp only [World.frozen?_setCell]
          have : j = 0 ∨ j = 1 ∨ j = 2 ∨ j = 3 ∨ j = 4 ∨ j = 5 ∨ j = 6 ∨ j = 7 ∨ j = 8 ∨ j = 9 := by omega
          rcases this with rfl | rfl | rfl | rfl | rfl | rfl | rfl | rfl | rfl | rfl <;> assumption)
        have HC7 := hideG (show CallAt W7 w4.heap.size 0 c' from ⟨z0, z1, z2, z3, z4, z5, z6, z7, z8, z9⟩)
        have HT6 := hideG ht6
        have HK6 := hideG hk6
        have HY6 := hideG hy6
        have HN6 := hideG hn6
        have HQB := hideG hqb
        clear hW7 htw z0 z1 z2 z3 z4 z5 z6 z7 z8 z9 y0 y1 y2 y3 y4 y5 y6 y7 y8 y9 fz ht6 hk6 hy6 hn6 hqb k0 k1 k2 k3 k4 k5 k6 k7 k8 k9
        go_wp2_with (first | rw [← HW7.out])
        try rw [← HW7.out]
        go_roundg (if isb' then todo 1000 left' wait' + 1 else 0)
        case measure =>
          rw [HG.out]
          cases isb' with
          | false => simp
          | true => have := todo_lt HFW2.out (HY6.out rfl).2; simp; omega
        case rel =>
          have hlen : (out ++ [((⟨n0, t0, c0, false, p0⟩, ⟨⟨s0, s1, s2⟩, ph, cc⟩) : Cl)]).length = n + 1 := by rw [List.length_append, HN.out]; rfl
          have ht47 : Turn b w1 W7 := turn_off ((H4T.out.trans (Turn.of_below HB5.out)).trans HT6.out) HTW7.out H4T.out.size HBW.out.2
          have h47 : HearsAt W7 (.slice va l'.length vc) l' := HearsAt_turn (HearsAt_turn (H4H.out.below HB5.out) HT6.out HOF2.out) HTW7.out (Off.hears H4H.out (Nat.le_refl _))
          have hro : W7.ownsRow w1.heap.size 41 10 (.slice a4 (out ++ [((⟨n0, t0, c0, false, p0⟩, ⟨⟨s0, s1, s2⟩, ph, cc⟩) : Cl)]).length c4) (out ++ [((⟨n0, t0, c0, false, p0⟩, ⟨⟨s0, s1, s2⟩, ph, cc⟩) : Cl)]).length (callCells (out ++ [((⟨n0, t0, c0, false, p0⟩, ⟨⟨s0, s1, s2⟩, ph, cc⟩) : Cl)])) := by
            rw [hlen]
            have r5 := ownsRow_below HO4.out HB5.out (fun g e => (HO4.out.lt g e).2)
            have r6 := ownsRow_turn r5 HT6.out HBW.out.2
            exact ownsRow_off r6 HTW7.out (fun e => by have := (HO4.out.lt _ e).2; omega)
          refine hideG ⟨w4.heap.size, va, vc, a4, c4, l', out ++ [((⟨n0, t0, c0, false, p0⟩, ⟨⟨s0, s1, s2⟩, ph, cc⟩) : Cl)], c', isb', left', cur', wait', rfl, by rw [hlen], rfl, rfl, rfl, h47, HOF2.out, H4O.out, HFW2.out, hro, RunOk.sub (RunOk.turn HK6.out HTW7.out (.inr rfl) (fun e => HQB.out e.symm)) (fun d k => .inl k), HC7.out, HFZ.out, H4T.out.size, fun z e => by have := (H4B.out z e).2; omega, ht47, fun hi => ?_, fun hi => ?_, ?_, ?_⟩
          · obtain ⟨h1, h2⟩ := HY6.out hi
            refine ⟨h1, fun rest hr => ?_⟩
            have := HYES.out (c' :: rest) (by rw [HLE.out]; exact AllR.call h2 (by rw [← h1]; exact hr))
            rw [List.append_assoc]
            exact this
          · have := HYES.out [] (by rw [HLE.out]; exact AllR.done (HN6.out hi).2.2.2)
            exact this
          · cases isb' with
            | false => obtain ⟨_, rfl, rfl, _⟩ := HN6.out rfl; simp
            | true =>
              have h1 := wait_le HFW2.out HLEN.out.2 (HY6.out rfl).2
              exact ⟨Nat.le_trans h1.2 HLEN.out.1, h1.1⟩
          · rw [hlen]
            have h1 := HCNT.out
            cases isb' with
            | false =>
              obtain ⟨_, rfl, rfl, _⟩ := HN6.out rfl
              have e0 : todo 1000 [] [] = 0 := by simp [todo]
              rw [e0]
              simp only [if_true] at h1
              simp
              omega
            | true =>
              have h2 := todo_lt HFW2.out (HY6.out rfl).2
              simp only [if_true] at h1 ⊢
              omega
      · have HDR := hideG (L8.drop_any l' ((⟨n0, t0, c0, true, p0⟩, ⟨⟨s0, s1, s2⟩, ph, cc⟩) : Cl).1 (.slice va l'.length vc) wr HEAR.out (by omega))
        clear hfew
        go_wp2_with fail
        refine HDR.out.mono ?_
        rintro ex U ⟨va2, vc2, rfl, hhu, hub, hor⟩
        obtain ⟨l2, hl2⟩ : ∃ l2, dropL l' ((⟨n0, t0, c0, true, p0⟩, ⟨⟨s0, s1, s2⟩, ph, cc⟩) : Cl).1 = l2 := ⟨_, rfl⟩
        rw [hl2] at hhu hor ⊢
        have HUB := hideG hub
        have HLE := hideG (show (if ((⟨n0, t0, c0, true, p0⟩, ⟨⟨s0, s1, s2⟩, ph, cc⟩) : Cl).1.once then dropL l' ((⟨n0, t0, c0, true, p0⟩, ⟨⟨s0, s1, s2⟩, ph, cc⟩) : Cl).1 else l') = l2 by rw [← hl2]; rfl)
        have HHU := hideG hhu
        have HS2 := hideG (HSTEP.out U l2 va2 vc2 hub HLE.out hhu hor)
        have g0 := cell_below hub k0
        have g1 := cell_below hub k1
        have g2 := cell_below hub k2
        have g3 := cell_below hub k3
        have g4 := cell_below hub k4
        have g5 := cell_below hub k5
        have g6 := cell_below hub k6
        have g7 := cell_below hub k7
        have g8 := cell_below hub k8
        have g9 := cell_below hub k9
        clear k0 k1 k2 k3 k4 k5 k6 k7 k8 k9
        have k0 := g0
        have k1 := g1
        have k2 := g2
        have k3 := g3
        have k4 := g4
        have k5 := g5
        have k6 := g6
        have k7 := g7
        have k8 := g8
        have k9 := g9
        clear hl2 hub hhu hor HDR HSTEP HEAR g0 g1 g2 g3 g4 g5 g6 g7 g8 g9
        obtain ⟨hfw2, hof2, hor2⟩ := HS2.out
        have HFW2 := hideG hfw2
        have HOF2 := hideG hof2
        have HOR2 := hideG hor2
        have HTU := hideG (HTW.out.trans (Turn.of_below HUB.out))
        have HRU := hideG (show U.ownsRow w1.heap.size 41 10 (.slice oa out.length oc) out.length (callCells out) from ownsRow_below HROW.out HUB.out (fun g e => (HROW.out.lt g e).2))
        have HOKU := hideG (RunOk.below HOK.out HUB.out)
        have hqU : q < U.heap.size := below_of_cell k0
        have hcl : out.length + 1 ≤ 2100000 := by
          have h1 := HCNT.out
          have h2 := HSV.out
          unfold todo at h1
          simp only [if_true, List.length_nil] at h1
          have h3 : L0.length * (1000 + 1) ≤ 2000 * (1000 + 1) := Nat.mul_le_mul_right _ h2
          omega
        have HQU := hideG hqU
        have HCL := hideG hcl
        have HSZ := hideG (show w1.heap.size ≤ U.heap.size from HTU.out.size)
        clear hfw2 hof2 hor2 HS2 hqU hcl
        generalize hn : out.length = n at *
        go_wp2_with (at_builtin; refine wpList_append_any rfl (.tmp 37) (.tmp 39) 29 rfl w1.heap.size 41 i0 _ 10 72 Tryz.underlying29 hi0 hz0 hz1 hz2 rfl (by decide) _ n (callCells out) rfl (HRU.out.alloc _) _ 1 (callCs ((⟨n0, t0, c0, true, p0⟩, ⟨⟨s0, s1, s2⟩, ph, cc⟩) : Cl)) rfl (holds_call (callAt_new U 41 ((⟨n0, t0, c0, true, p0⟩, ⟨⟨s0, s1, s2⟩, ph, cc⟩) : Cl))) rfl ?h2 ?h3 ?h4 ?h5 ?_)
        case h2 => exact callCs_one _
        case h3 => have := HCL.out; simp only [maxLen]; omega
        case h4 => have := HCL.out; omega
        case h5 => have := HSZ.out; simp; omega
        intro v4 w4 ho4 hg4 hf4
        obtain ⟨a4, c4, rfl⟩ := ownsRow_shape ho4
        rw [callCells_snoc] at ho4
        obtain ⟨UA, hUA⟩ : ∃ UA, U.alloc (.cells #[.int .i64 n0, .int .i64 t0, .bool c0, .bool true, .int .i64 p0, .int .i64 s0, .int .i64 s1, .int .i64 s2, .int .i64 ph, .bool cc] 41) = UA := ⟨_, rfl⟩
        have hg4' : UA.grownBy w4 (Value.slice oa n oc).ownBlock := by rw [← hUA]; exact hg4
        have hf4' : ∀ k, (Value.slice a4 (n + 1) c4).ownBlock = some k → (Value.slice oa n oc).ownBlock = some k ∨ UA.heap.size ≤ k := fun k e => by
            rcases hf4 k e with h | h
            · exact .inl h
            · exact .inr (by rw [← hUA, World.size_alloc]; exact h)
        have hbUA : Below U.heap.size U UA := by rw [← hUA]; exact (Below.refl _ _).alloc (Nat.le_refl _) _
        clear hg4 hf4
        have hrowB : ∀ k, (Value.slice oa n oc).ownBlock = some k → w1.heap.size ≤ k ∧ k < U.heap.size := fun k e => HRU.out.lt k e
        have hoz : ∀ k, (Value.slice oa n oc).ownBlock = some k → ∃ z : Addr, oa = some z ∧ k = z.block := fun k e => by
          cases oa with
          | none => cases e
          | some z => cases e; exact ⟨z, rfl, rfl⟩
        have ha4 : ∀ z : Addr, a4 = some z → (Value.slice oa n oc).ownBlock = some z.block ∨ UA.heap.size ≤ z.block := fun z e => hf4' z.block (by rw [e]; rfl)
        have hbb := HBW.out.2
        have h4t : Turn b w1 w4 := turn_grown (HTU.out.trans (Turn.of_below hbUA)) hg4' (fun k e => (hrowB k e).1) hbb
        have h4h : HearsAt w4 (.slice va2 l2.length vc2) l2 := hears_grown hg4' (HHU.out.below hbUA) (fun k e => by obtain ⟨z, e1, e2⟩ := hoz k e; rw [e2]; exact HOR2.out z e1)
        have h4r : RunOk w4 b (fun d => (∃ z : Addr, a4 = some z ∧ d = z.block) ∨ d = w4.heap.size) ⟨e.type, e.can, false, left, (((⟨n0, t0, c0, true, p0⟩, ⟨⟨s0, s1, s2⟩, ph, cc⟩) : Cl)).2, wait⟩ := by
          have r1 := RunOk.below HOKU.out hbUA
          have r2 := RunOk.fresh (D' := fun d => (∃ z : Addr, oa = some z ∧ d = z.block) ∨ UA.heap.size ≤ d) r1 (fun d k => k)
          have r3 := RunOk.grown r2 hg4' (fun k e => ⟨.inl (by obtain ⟨z, e1, e2⟩ := hoz k e; exact ⟨z, e1, e2⟩), by have := (hrowB k e).1; omega⟩)
          refine RunOk.sub r3 (fun d k => ?_)
          rcases k with ⟨z, e1, e2⟩ | k
          · rcases ha4 z e1 with h | h
            · obtain ⟨z', e3, e4⟩ := hoz _ h; exact .inl ⟨z', e3, by rw [e2, e4]⟩
            · exact .inr (by rw [e2]; exact h)
          · exact .inr (by rw [k]; exact (grown_block hg4').2)
        have hqne : (Value.slice oa n oc).ownBlock ≠ some q := fun e => by obtain ⟨z, e1, e2⟩ := hoz q e; exact HNEQ.out z e1 e2.symm
        have h4c : CallAt w4 q 0 ((⟨n0, t0, c0, true, p0⟩, ⟨⟨s0, s1, s2⟩, ph, cc⟩) : Cl) := CallAt.grown hg4' (CallAt.below (show CallAt U q 0 ((⟨n0, t0, c0, true, p0⟩, ⟨⟨s0, s1, s2⟩, ph, cc⟩) : Cl) from ⟨k0, k1, k2, k3, k4, k5, k6, k7, k8, k9⟩) hbUA) hqne
        have h4f : ∀ d, d < w4.heap.size → d ≠ b → (∀ z : Addr, a4 = some z → z.block ≠ d) → True := fun _ _ _ _ => trivial
        have h4o : ∀ z : Addr, a4 = some z → Off z.block (.slice va2 l2.length vc2) := fun z e => by
          rcases ha4 z e with h | h
          · obtain ⟨z', e3, e4⟩ := hoz _ h; rw [e4]; exact HOR2.out z' e3
          · exact Off.hears HHU.out (Nat.le_trans hbUA.size h)
        have h4b : ∀ z : Addr, a4 = some z → w1.heap.size ≤ z.block ∧ z.block < w4.heap.size := fun z e => ho4.lt z.block (by rw [e]; rfl)
        clear k0 k1 k2 k3 k4 k5 k6 k7 k8 k9 h4f
        obtain ⟨k0, k1, k2, k3, k4, k5, k6, k7, k8, k9⟩ := h4c
        dsimp only [Nat.zero_add] at k0 k1 k2 k3 k4 k5 k6 k7 k8 k9
        have HO4 := hideG ho4
        have H4T := hideG h4t
        have H4H := hideG h4h
        have H4O := hideG h4o
        have H4B := hideG h4b
        obtain ⟨W5, hW5⟩ : ∃ W5, w4.alloc (.cells #[.int .i64 n0, .int .i64 t0, .bool c0, .bool true, .int .i64 p0, .int .i64 s0, .int .i64 s1, .int .i64 s2, .int .i64 ph, .bool cc] 41) = W5 := ⟨_, rfl⟩
        have hb5 : Below w4.heap.size w4 W5 := by rw [← hW5]; exact (Below.refl _ _).alloc (Nat.le_refl _) _
        have hs5 : W5.heap.size = w4.heap.size + 1 := by rw [← hW5]; simp
        have H5C := hideG (show CallAt W5 w4.heap.size 0 ((⟨n0, t0, c0, true, p0⟩, ⟨⟨s0, s1, s2⟩, ph, cc⟩) : Cl) by rw [← hW5]; exact callAt_new w4 41 ((⟨n0, t0, c0, true, p0⟩, ⟨⟨s0, s1, s2⟩, ph, cc⟩) : Cl))
        have H5F := hideG (show ∀ j, j < 10 → W5.frozen? ⟨w4.heap.size, j, none⟩ = false from fun j _ => by rw [← hW5]; simp)
        have HX5 := hideG (next_uni W5 b (fun d => (∃ z : Addr, a4 = some z ∧ d = z.block) ∨ d = w4.heap.size) ⟨e.type, e.can, false, left, (((⟨n0, t0, c0, true, p0⟩, ⟨⟨s0, s1, s2⟩, ph, cc⟩) : Cl)).2, wait⟩ (.slice va2 l2.length vc2) l2 (h4h.below hb5) (by have := HFW2.out; omega) (RunOk.below h4r hb5) (fun d k => by
          rcases k with ⟨z, e1, e2⟩ | k
          · have := (h4b z e1).2; omega
          · omega) (by have := HLEN.out.1; have := HSV.out; simp only; omega) (by have := HLEN.out.2; simp only; omega) HOF2.out)
        have HW5 := hideG hW5
        have HB5 := hideG hb5
        have HN := hideG hn
        clear hW5 hb5 hs5 ho4 h4t h4h h4r h4o h4b hqne ha4 hoz hrowB hbb hbUA hf4' hg4' hn hUA HOKU HRU
        go_wp2_with (first | rw [HW5.out])
        refine HX5.out.mono ?_
        rintro ex w6 ⟨c', isb', left', cur', wait', rfl, ht6, hk6, hy6, hn6⟩
        have hqb : w4.heap.size ≠ b := by have := H4T.out.size; have := HBW.out.2; omega
        obtain ⟨t0', t1', t2', t3', t4', t5', t6', t7', t8', t9'⟩ := CallAt.turn H5C.out ht6 hqb
        dsimp only [Nat.zero_add] at t0' t1' t2' t3' t4' t5' t6' t7' t8' t9'
        have fz := fun (j : Nat) (hj : j < 10) (u : Value) (hc : W5.cell? ⟨w4.heap.size, j, none⟩ = some u) => Turn.frozenAny ht6 hc hqb (H5F.out j hj)
        obtain ⟨y0, y1, y2, y3, y4, y5, y6, y7, y8, y9⟩ := H5C.out
        dsimp only [Nat.zero_add] at y0 y1 y2 y3 y4 y5 y6 y7 y8 y9
        have f0 := fz 0 (by omega) _ y0
        have f1 := fz 1 (by omega) _ y1
        have f2 := fz 2 (by omega) _ y2
        have f3 := fz 3 (by omega) _ y3
        have f4 := fz 4 (by omega) _ y4
        have f5 := fz 5 (by omega) _ y5
        have f6 := fz 6 (by omega) _ y6
        have f7 := fz 7 (by omega) _ y7
        have f8 := fz 8 (by omega) _ y8
        have f9 := fz 9 (by omega) _ y9
        obtain ⟨W7, hW7, htw, z0, z1, z2, z3, z4, z5, z6, z7, z8, z9⟩ := set10 (x0 := .int .i64 c'.1.node) (x1 := .int .i64 c'.1.type) (x2 := .bool c'.1.cap) (x3 := .bool c'.1.once) (x4 := .int .i64 c'.1.prog) (x5 := .int .i64 c'.2.s.node) (x6 := .int .i64 c'.2.s.tg) (x7 := .int .i64 c'.2.s.rel) (x8 := .int .i64 c'.2.phase) (x9 := .bool c'.2.cap) (U := w6) t0' t1' t2' t3' t4' t5' t6' t7' t8' t9'
        have HW7 := hideG hW7
        have HTW7 := hideG htw
        have HFZ := hideG (show ∀ j, j < 10 → W7.frozen? ⟨w4.heap.size, j, none⟩ = false from fun j hj => by
          rw [hW7]
          simp only [World.frozen?_setCell]
          have : j = 0 ∨ j = 1 ∨ j = 2 ∨ j = 3 ∨ j = 4 ∨ j = 5 ∨ j = 6 ∨ j = 7 ∨ j = 8 ∨ j = 9 := by omega
          rcases this with rfl | rfl | rfl | rfl | rfl | rfl | rfl | rfl | rfl | rfl <;> assumption)
        have HC7 := hideG (show CallAt W7 w4.heap.size 0 c' from ⟨z0, z1, z2, z3, z4, z5, z6, z7, z8, z9⟩)
        have HT6 := hideG ht6
        have HK6 := hideG hk6
        have HY6 := hideG hy6
        have HN6 := hideG hn6
        have HQB := hideG hqb
        clear hW7 htw z0 z1 z2 z3 z4 z5 z6 z7 z8 z9 y0 y1 y2 y3 y4 y5 y6 y7 y8 y9 fz ht6 hk6 hy6 hn6 hqb k0 k1 k2 k3 k4 k5 k6 k7 k8 k9
        go_wp2_with (first | rw [← HW7.out])
        try rw [← HW7.out]
        go_roundg (if isb' then todo 1000 left' wait' + 1 else 0)
        case measure =>
          rw [HG.out]
          cases isb' with
          | false => simp
          | true => have := todo_lt HFW2.out (HY6.out rfl).2; simp; omega
        case rel =>
          have hlen : (out ++ [((⟨n0, t0, c0, true, p0⟩, ⟨⟨s0, s1, s2⟩, ph, cc⟩) : Cl)]).length = n + 1 := by rw [List.length_append, HN.out]; rfl
          have ht47 : Turn b w1 W7 := turn_off ((H4T.out.trans (Turn.of_below HB5.out)).trans HT6.out) HTW7.out H4T.out.size HBW.out.2
          have h47 : HearsAt W7 (.slice va2 l2.length vc2) l2 := HearsAt_turn (HearsAt_turn (H4H.out.below HB5.out) HT6.out HOF2.out) HTW7.out (Off.hears H4H.out (Nat.le_refl _))
          have hro : W7.ownsRow w1.heap.size 41 10 (.slice a4 (out ++ [((⟨n0, t0, c0, true, p0⟩, ⟨⟨s0, s1, s2⟩, ph, cc⟩) : Cl)]).length c4) (out ++ [((⟨n0, t0, c0, true, p0⟩, ⟨⟨s0, s1, s2⟩, ph, cc⟩) : Cl)]).length (callCells (out ++ [((⟨n0, t0, c0, true, p0⟩, ⟨⟨s0, s1, s2⟩, ph, cc⟩) : Cl)])) := by
            rw [hlen]
            have r5 := ownsRow_below HO4.out HB5.out (fun g e => (HO4.out.lt g e).2)
            have r6 := ownsRow_turn r5 HT6.out HBW.out.2
            exact ownsRow_off r6 HTW7.out (fun e => by have := (HO4.out.lt _ e).2; omega)
          refine hideG ⟨w4.heap.size, va2, vc2, a4, c4, l2, out ++ [((⟨n0, t0, c0, true, p0⟩, ⟨⟨s0, s1, s2⟩, ph, cc⟩) : Cl)], c', isb', left', cur', wait', rfl, by rw [hlen], rfl, rfl, rfl, h47, HOF2.out, H4O.out, HFW2.out, hro, RunOk.sub (RunOk.turn HK6.out HTW7.out (.inr rfl) (fun e => HQB.out e.symm)) (fun d k => .inl k), HC7.out, HFZ.out, H4T.out.size, fun z e => by have := (H4B.out z e).2; omega, ht47, fun hi => ?_, fun hi => ?_, ?_, ?_⟩
          · obtain ⟨h1, h2⟩ := HY6.out hi
            refine ⟨h1, fun rest hr => ?_⟩
            have := HYES.out (c' :: rest) (by rw [HLE.out]; exact AllR.call h2 (by rw [← h1]; exact hr))
            rw [List.append_assoc]
            exact this
          · have := HYES.out [] (by rw [HLE.out]; exact AllR.done (HN6.out hi).2.2.2)
            exact this
          · cases isb' with
            | false => obtain ⟨_, rfl, rfl, _⟩ := HN6.out rfl; simp
            | true =>
              have h1 := wait_le HFW2.out HLEN.out.2 (HY6.out rfl).2
              exact ⟨Nat.le_trans h1.2 HLEN.out.1, h1.1⟩
          · rw [hlen]
            have h1 := HCNT.out
            cases isb' with
            | false =>
              obtain ⟨_, rfl, rfl, _⟩ := HN6.out rfl
              have e0 : todo 1000 [] [] = 0 := by simp [todo]
              rw [e0]
              simp only [if_true] at h1
              simp
              omega
            | true =>
              have h2 := todo_lt HFW2.out (HY6.out rfl).2
              simp only [if_true] at h1 ⊢
              omega
end Go.Proofs.YtpmacpbhdgigfaaGreat
