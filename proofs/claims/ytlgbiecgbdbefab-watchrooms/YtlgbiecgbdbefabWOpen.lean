/- WOpen: Open of package watch: contract. -/
import Derived.Test.YtlgbiecgbdbefabWOps
import Derived.Test.YtlgbiecgbdbefabWReg
import Derived.Test.YtlgbiecgbdbefabStepApp
namespace Go.Proofs.Ytlgbiecgbdbefab
open Go.RowKit

theorem rowOwn1 (w : World) (x : Int) : (w.alloc (.cells #[.int .i64 x] 3)).ownsRow w.heap.size 3 1 (.slice (some ⟨w.heap.size, 0, none⟩) 1 1) [x].length (intCells [x]) :=
  ⟨by simp [intCells], .inr ⟨w.heap.size, 1, #[.int .i64 x], rfl, Nat.le_refl _, World.alloc_heap_new w _, Nat.le_refl _, by simp [maxLen], rfl, by simp [intCells]⟩⟩
theorem getD_lt_map {α : Type} (f : Nat → α) {n j : Nat} (h : j < n) (d : α) : ((List.range n).map f).getD j d = f j := by
  rw [List.getD_eq_getElem?_getD, List.getElem?_map, List.getElem?_range h]; rfl
/-- What Open has ahead of its append. -/
structure OpT (w W2 U : World) (v bv : Value) (a : Int) (X : Nat) (G : List (List Int)) (rv : Nat → Value) : Prop where
  box : Box3 U X bv (.int .i64 a) (.bool true)
  res : Box3 U (w.heap.size + 1) (.slice none 0 0) (.int .i64 0) (.bool false)
  own : OwnG U W2.heap.size v G rv
  off : OffG X v G rv
  bel : Below w.heap.size w U
  le : w.heap.size + 1 < W2.heap.size
  hX : W2.heap.size ≤ X
theorem OpT.store {w W2 U : World} {v bv : Value} {a : Int} {X : Nat} {G : List (List Int)} {rv : Nat → Value} (h : OpT w W2 U v bv a X G rv) : OpT w W2 (U.setCell ⟨X, 0, none⟩ v) v v a X G rv :=
  ⟨h.box.set0 v, h.res.other (by have := h.le; have := h.hX; omega), h.own.set h.off v, h.off, h.bel.setCell (p := ⟨X, 0, none⟩) (by show w.heap.size ≤ X; have := h.le; have := h.hX; omega) _, h.le, h.hX⟩
theorem OpT.fin {w W2 U : World} {v : Value} {a : Int} {X : Nat} {G : List (List Int)} {rv : Nat → Value} (h : OpT w W2 U v v a X G rv) :
    (set3 U (w.heap.size + 1) v (.int .i64 a) (.bool true)).cell? ⟨w.heap.size + 1, 0, none⟩ = some v ∧ (set3 U (w.heap.size + 1) v (.int .i64 a) (.bool true)).cell? ⟨w.heap.size + 1, 1, none⟩ = some (.int .i64 a) ∧ (set3 U (w.heap.size + 1) v (.int .i64 a) (.bool true)).cell? ⟨w.heap.size + 1, 2, none⟩ = some (.bool true) ∧
    OwnX (set3 U (w.heap.size + 1) v (.int .i64 a) (.bool true)) w.heap.size v G ∧ Below w.heap.size w (set3 U (w.heap.size + 1) v (.int .i64 a) (.bool true)) :=
  ⟨(h.res.set _ _ _).c0, (h.res.set _ _ _).c1, (h.res.set _ _ _).c2, ⟨_, (h.own.set3 (h.own.off_lt h.le) _ _ _).rebase (by have := h.le; omega)⟩, set3_below h.bel (by omega)⟩
theorem OpT.push {w W2 U w1 w4 : World} {v bv : Value} {a : Int} {X : Nat} {G : List (List Int)} {l : List Int} {rv : Nat → Value} {x1 v4 : Value} {o : Obj} (h : OpT w W2 U v bv a X G rv)
    (hx : w1.ownsRow U.heap.size 3 1 x1 l.length (intCells l)) (hb : Below U.heap.size U w1) (ho : w4.ownsRow W2.heap.size 22 1 v4 (G.length + 1) ((List.range G.length).map rv ++ [x1]))
    (hg : (w1.alloc o).grownBy w4 v.ownBlock) (hf : ∀ j, v4.ownBlock = some j → v.ownBlock = some j ∨ (w1.alloc o).heap.size ≤ j) : OpT w W2 w4 v4 bv a X (G ++ [l]) (updv rv G.length x1) := by
  have hX := h.box.lt
  have hp := h.own.push (l := l) (x1 := x1) (v' := v4) (w2 := w4) (o := o) (by have := h.hX; omega) hx hb ho hg hf
  have n1 : some X ≠ v.ownBlock := fun e => h.off.1 e.symm
  have n2 : some (w.heap.size + 1) ≠ v.ownBlock := fun e => (h.own.off_lt h.le).1 e.symm
  have hb1 := h.bel.trans (hb.mono h.bel.size)
  refine ⟨((h.box.call hb).alloc o).grown hg n1, ((h.res.call hb).alloc o).grown hg n2, hp, off_push h.off ?_ hf (by have := hb.size; simp; omega), (hb1.alloc hb1.size o).grown hg (by have := hb1.size; simp; omega) (fun j e => by have := (h.own.row.lt j e).1; have := h.le; omega), h.le, h.hX⟩
  intro e
  have := (hx.lt X e).1
  omega
theorem OpT.call {w W2 U U' : World} {v bv : Value} {a : Int} {X : Nat} {G : List (List Int)} {rv : Nat → Value} (h : OpT w W2 U v bv a X G rv) (hb : Below U.heap.size U U') : OpT w W2 U' v bv a X G rv :=
  ⟨h.box.call hb, h.res.call hb, h.own.call hb, h.off, h.bel.trans (hb.mono h.bel.size), h.le, h.hX⟩
theorem OpT.grow {w W2 U w4 : World} {gb vc m : Nat} {a : Int} {X : Nat} {g : List (List Int)} {l : List Int} {rv : Nat → Value} {v4 : Value} (h : OpT w W2 U (.slice (some ⟨gb, 0, none⟩) g.length vc) (.slice (some ⟨gb, 0, none⟩) g.length vc) a X g rv) (hm : m < g.length)
    (ho : w4.ownsRow W2.heap.size 3 1 v4 l.length (intCells l)) (hg : U.grownBy w4 (rv m).ownBlock) (hf : ∀ j, v4.ownBlock = some j → (rv m).ownBlock = some j ∨ U.heap.size ≤ j) :
    Box3 w4 X (.slice (some ⟨gb, 0, none⟩) g.length vc) (.int .i64 a) (.bool true) ∧ (w4.cell? ⟨gb, m, none⟩ = some (rv m) ∧ w4.frozen? ⟨gb, m, none⟩ = false) ∧
    OpT w W2 (w4.setCell ⟨gb, m, none⟩ v4) (.slice (some ⟨gb, 0, none⟩) g.length vc) (.slice (some ⟨gb, 0, none⟩) g.length vc) a X (g.set m l) (updv rv m v4) := by
  have hbx := h.box.grown hg (fun e => h.off.2 m hm e.symm)
  have hgX : gb ≠ X := fun e => h.off.1 (by rw [← e]; rfl)
  have hgl := h.own.row.lt gb rfl
  have hrm : (rv m).ownBlock ≠ some gb := fun e => h.own.rr m hm gb e rfl
  have hblk := hg.block gb hgl.2 (fun e => hrm e.symm)
  have hc : U.cell? ⟨gb, m, none⟩ = some (rv m) := by
    have := h.own.row.cellAt m (by omega)
    rw [this, List.getElem?_map, List.getElem?_range hm]; rfl
  have hfz := h.own.row.frozenAt m
  have hr : some (w.heap.size + 1) ≠ (rv m).ownBlock := fun e => (h.own.off_lt h.le).2 m hm e.symm
  have hres := h.res.grown hg hr
  have hl := h.le
  have hgr := h.own.grow hm ho hg hf
  have nx : v4.ownBlock ≠ some X := fun e => by
    rcases hf X e with f | f
    · exact h.off.2 m hm f
    · have := h.box.lt; omega
  refine ⟨hbx, ⟨(World.cell?_of_block (a := ⟨gb, m, none⟩) hblk).trans hc, (World.frozen?_of_block (a := ⟨gb, m, none⟩) hblk).trans hfz⟩, hbx.other (Ne.symm hgX), hres.other (by omega), hgr, ⟨h.off.1, fun j hj => ?_⟩, ?_, h.le, h.hX⟩
  · have hj' : j < g.length := by simpa using hj
    by_cases e : j = m
    · subst e; rw [updv_same]; exact nx
    · rw [updv_ne _ _ e]; exact h.off.2 j hj'
  · exact (h.bel.grown hg h.bel.size (fun j e => by have := ((h.own.rows m hm).lt j e).1; omega)).setCell (p := ⟨gb, m, none⟩) (by show w.heap.size ≤ gb; omega) _
set_option maxRecDepth 100000 in
set_option maxHeartbeats 4000000 in
theorem open_any (g : List (List Int)) (hf : fewG g 1000) (gv : Value) (a : Int) (n : Bool) (x : Int) (w : World) (hG : GrpsAt w gv g) :
    Calls Try.prog 11 #[.agg #[gv, .int .i64 a, .bool n], .int .i64 x] w fun e w' => ∃ va vc, e = .returned (.agg #[.slice va (wtOpen ⟨g, a, n⟩ x).g.length vc, .int .i64 a, .bool true]) ∧ OwnX w' w.heap.size (.slice va (wtOpen ⟨g, a, n⟩ x).g.length vc) (wtOpen ⟨g, a, n⟩ x).g ∧ Below w.heap.size w w' := by
  obtain ⟨i22, hi22, hz220, hz221, hz222⟩ := info_parts infoT22
  obtain ⟨i3, hi3, hz30, hz31, hz32⟩ := info_parts infoT3
  obtain ⟨ga, gc, rfl⟩ := hG.shape
  have hS := Start2.mk' w _ a n g hG
  obtain ⟨W2, hW2⟩ : ∃ W2, (w.alloc (.cells #[.slice ga g.length gc, .int .i64 a, .bool n] 26)).alloc (.cells #[.slice none 0 0, .int .i64 0, .bool false] 26) = W2 := ⟨_, rfl⟩
  rw [hW2] at hS
  have HS := hideG hS
  have HF := hideG hf
  have hl := hf.1
  have HW2 := hideG hW2
  clear hW2 hG hS hf
  have HC := hideG (copied_any g HF.out _ a n W2 HS.out.grp)
  cases hop : opensB ⟨g, a, n⟩
  · have HOP := hideG hop
    have HE := hideG (show (wtOpen ⟨g, a, n⟩ x).g = g.set (g.length - 1) (g.getD (g.length - 1) [] ++ [x]) by unfold wtOpen; rw [HOP.out]; rfl)
    simp only [opensB, Bool.or_eq_false_iff, decide_eq_false_iff_not] at hop
    obtain ⟨h0, h1⟩ := hop
    have hn0 : ((g.length : Int) == 0) = false := by rw [beq_eq_false_iff_ne]; omega
    have hn1 : decide ((g.length : Int) < a) = false := decide_eq_false h1
    go_enter Try.func11, Try.ntmps11
    go_wp2_with fail
    rw [HW2.out]
    refine HC.out.mono ?_
    rintro e w1 ⟨va, vc, rv, rfl, ho, hb⟩
    obtain ⟨gb, cap, hva⟩ := ownsRow_some ho.row (by omega)
    simp only [Value.slice.injEq, true_and] at hva
    obtain ⟨rfl, rfl⟩ := hva
    have HT := hideG (show OpT w W2 (w1.alloc (.cells #[.slice (some ⟨gb, 0, none⟩) g.length vc, .int .i64 a, .bool true] 26)) (.slice (some ⟨gb, 0, none⟩) g.length vc) (.slice (some ⟨gb, 0, none⟩) g.length vc) a w1.heap.size g rv from
      ⟨Box3.new _ _ _ _ _, (HS.out.res.call hb).alloc _, ho.alloc _, ho.off_ge (Nat.le_refl _), (HS.out.bel.trans (hb.mono HS.out.bel.size)).alloc (HS.out.bel.trans (hb.mono HS.out.bel.size)).size _, by have := HS.out.size; omega, hb.size⟩)
    obtain ⟨m, hm⟩ : ∃ m, g.length = m + 1 := ⟨g.length - 1, by omega⟩
    have hml : m < g.length := by omega
    obtain ⟨ra, rc, hrv⟩ := ownsRow_shape (ho.rows m hml)
    have HRV := hideG hrv
    have HRL := hideG (HF.out.row (j := m))
    have HE2 := hideG (show (wtOpen ⟨g, a, n⟩ x).g = g.set m (g.getD m [] ++ [x]) by rw [HE.out, show g.length - 1 = m by omega])
    have hw : IntKind.i64.wrap ((g.length : Int) - 1) = (m : Int) := by rw [IntKind.wrap_i64]; omega
    have hm0 : (0 : Int) ≤ (m : Int) := by omega
    have hm1 : (m : Int) < (g.length : Int) := by omega
    have HM := hideG hm
    clear ho hb hrv hm
    generalize hrow : g.getD m [] = row at *
    have HROW := hideG hrow
    clear hrow
    go_wp2_with fail
    obtain ⟨WA, hWA⟩ : ∃ WA, w1.alloc (.cells #[.slice (some ⟨gb, 0, none⟩) g.length vc, .int .i64 a, .bool true] 26) = WA := ⟨_, rfl⟩
    rw [hWA] at HT ⊢
    clear hWA
    have HRL6 := HRL.out
    have HT0 := hideG (HT.out.call ((Below.refl _ _).drew))
    refine wp_region_inv (fun l ac U => ∃ z : Nat → Value, ac = { tmps := #[Value.agg #[Value.slice ga g.length gc, Value.int IntKind.i64 a, Value.bool n], Value.int IntKind.i64 x, Value.pointer (some { block := w.heap.size, off := 0 }), undef, Value.pointer (some { block := w.heap.size + 1, off := 0 }), Value.pointer (some { block := w1.heap.size, off := 0 }), Value.int IntKind.i64 ((g.length : Nat) : Int), Value.agg #[Value.slice ga g.length gc, Value.int IntKind.i64 a, Value.bool n], Value.agg #[Value.slice (some { block := gb, off := 0 }) g.length vc, Value.int IntKind.i64 a, Value.bool n], Value.pointer (some { block := w1.heap.size, off := 2 }), Value.pointer (some { block := w1.heap.size, off := 0 }), Value.slice (some { block := gb, off := 0 }) g.length vc, Value.int IntKind.i64 ((g.length : Nat) : Int), Value.int IntKind.i64 ((g.length : Nat) : Int), Value.bool false, Value.bool false, Value.int IntKind.i64 ((g.length : Nat) : Int), Value.pointer (some { block := w1.heap.size, off := 1 }), Value.int IntKind.i64 a, Value.bool false, Value.bool false, undef, undef, undef, undef, undef, undef, undef, z 0, z 1, z 2, z 3, z 4, z 5, z 6, z 7, z 8, z 9, z 10, z 11, z 12, z 13, undef], defers := [] } ∧ Hid (TabZ 15 (PureP [.pointer (some ⟨w1.heap.size, 0, none⟩), .slice (some ⟨gb, 0, none⟩) g.length vc, .int .i64 ((g.length : Nat) : Int), .int .i64 ((m : Nat) : Int), .pointer (some ⟨w1.heap.size, 0, none⟩), .slice (some ⟨gb, 0, none⟩) g.length vc, .int .i64 ((g.length : Nat) : Int), .int .i64 ((m : Nat) : Int), .pointer (some ⟨gb, m, none⟩), .slice ra row.length rc, .int .i64 x, undef, undef, .pointer (some ⟨gb, m, none⟩), undef] [true, true, true, true, true, true, true, true, true, true, true, false, false, true, false]) l z U) ∧ Hid ((l.getD 11 true = false ∧ l.getD 12 true = false ∧ l.getD 14 true = false ∧ (OpT w W2 U (.slice (some ⟨gb, 0, none⟩) g.length vc) (.slice (some ⟨gb, 0, none⟩) g.length vc) a w1.heap.size g rv)) ∨ (l.getD 11 true = true ∧ l.getD 12 true = false ∧ l.getD 14 true = false ∧ (∃ U1 : World, U = U1.alloc (.cells #[.int .i64 x] 3) ∧ (z 11) = .slice (some ⟨U1.heap.size, 0, none⟩) 1 1 ∧ OpT w W2 U1 (.slice (some ⟨gb, 0, none⟩) g.length vc) (.slice (some ⟨gb, 0, none⟩) g.length vc) a w1.heap.size g rv)) ∨ (l.getD 11 true = true ∧ l.getD 12 true = true ∧ l.getD 14 true = false ∧ l.getD 9 true = true ∧ (∃ (ya : Option Addr) (yc : Nat), (z 12) = .slice ya (row.length + 1) yc ∧ Box3 U w1.heap.size (.slice (some ⟨gb, 0, none⟩) g.length vc) (.int .i64 a) (.bool true) ∧ (U.cell? ⟨gb, m, none⟩ = some (rv m) ∧ U.frozen? ⟨gb, m, none⟩ = false) ∧ OpT w W2 (U.setCell ⟨gb, m, none⟩ (.slice ya (row.length + 1) yc)) (.slice (some ⟨gb, 0, none⟩) g.length vc) (.slice (some ⟨gb, 0, none⟩) g.length vc) a w1.heap.size (g.set m (row ++ [x])) (updv rv m (.slice ya (row.length + 1) yc)))) ∨ (l.getD 11 true = true ∧ l.getD 12 true = true ∧ l.getD 14 true = true ∧ l.getD 9 true = true ∧ (∃ (ya : Option Addr) (yc : Nat), OpT w W2 U (.slice (some ⟨gb, 0, none⟩) g.length vc) (.slice (some ⟨gb, 0, none⟩) g.length vc) a w1.heap.size (g.set m (row ++ [x])) (updv rv m (.slice ya (row.length + 1) yc)))))) (by kernel_rfl) (by kernel_rfl) ?_ ?_ ?_
    · exact ⟨fun k => ([undef, undef, undef, undef, undef, undef, undef, undef, undef, undef, undef, undef, undef, undef, undef] : List Value).getD k undef, rfl, hideG TabZ.start, hideG (.inl ⟨rfl, rfl, rfl, HT0.out⟩)⟩
    · intro i l ac U hi hInv
      obtain ⟨z, ha, hz, hst⟩ := hInv
      subst ha
      obtain ⟨hun, o, ho, _⟩ := mem_ready.mp hi
      have hlt8 := (Array.getElem?_eq_some_iff.mp ho).1
      clear ho
      simp only [List.size_toArray, List.length_cons, List.length_nil, Nat.reduceAdd] at hlt8
      obtain rfl | rfl | rfl | rfl | rfl | rfl | rfl | rfl | rfl | rfl | rfl | rfl | rfl | rfl | rfl : i = 0 ∨ i = 1 ∨ i = 2 ∨ i = 3 ∨ i = 4 ∨ i = 5 ∨ i = 6 ∨ i = 7 ∨ i = 8 ∨ i = 9 ∨ i = 10 ∨ i = 11 ∨ i = 12 ∨ i = 13 ∨ i = 14 := by omega
      · refine inv_step (by rfl) (fun K hK => ?_)
        go_simp
        refine hK.out _ _ ⟨upZ z 0 (.pointer (some ⟨w1.heap.size, 0, none⟩)), rfl, hideG (TabZ.step hz.out rfl), hideG ?_⟩
        have HST := hst.out
        clear hst hz hi hK
        simp only [flag_ne (show 0 ≠ 11 from by decide), flag_ne (show 0 ≠ 12 from by decide), flag_ne (show 0 ≠ 14 from by decide)]
        simp only [flag_ne (show 0 ≠ 9 from by decide)]
        have EZ : upZ z 0 (.pointer (some ⟨w1.heap.size, 0, none⟩)) 11 = z 11 ∧ upZ z 0 (.pointer (some ⟨w1.heap.size, 0, none⟩)) 12 = z 12 ∧ upZ z 0 (.pointer (some ⟨w1.heap.size, 0, none⟩)) 14 = z 14 := ⟨by simp [upZ], by simp [upZ], by simp [upZ]⟩
        obtain ⟨E11, E12, E14⟩ := EZ
        try rw [E11]
        try rw [E12]
        try rw [E14]
        exact HST
      · have e0 : z 0 = .pointer (some ⟨w1.heap.size, 0, none⟩) := hz.out 0 (by decide) (dep_of hi (d := 0) (by kernel_rfl))
        have c0 : U.cell? ⟨w1.heap.size, 0, none⟩ = some (.slice (some ⟨gb, 0, none⟩) g.length vc) := by
          rcases hst.out with ⟨_, _, _, h⟩ | ⟨_, _, _, U1, rfl, _, h⟩ | ⟨_, _, _, _, ya, yc, _, h, _, _⟩ | ⟨_, _, _, _, ya, yc, h⟩
          · exact h.box.c0
          · exact (h.box.alloc _).c0
          · exact h.c0
          · exact h.box.c0
        have hlt0 := below_of_cell c0
        rw [e0]
        refine inv_step (by rfl) (fun K hK => ?_)
        go_simp
        refine hK.out _ _ ⟨upZ (upZ z 0 (.pointer (some ⟨w1.heap.size, 0, none⟩))) 1 (.slice (some ⟨gb, 0, none⟩) g.length vc), rfl, hideG (TabZ.step (TabZ.fill hz.out e0) rfl), hideG ?_⟩
        have HST := hst.out
        clear hst hz hi hK
        simp only [flag_ne (show 1 ≠ 11 from by decide), flag_ne (show 1 ≠ 12 from by decide), flag_ne (show 1 ≠ 14 from by decide)]
        simp only [flag_ne (show 1 ≠ 9 from by decide)]
        have EZ : upZ (upZ z 0 (.pointer (some ⟨w1.heap.size, 0, none⟩))) 1 (.slice (some ⟨gb, 0, none⟩) g.length vc) 11 = z 11 ∧ upZ (upZ z 0 (.pointer (some ⟨w1.heap.size, 0, none⟩))) 1 (.slice (some ⟨gb, 0, none⟩) g.length vc) 12 = z 12 ∧ upZ (upZ z 0 (.pointer (some ⟨w1.heap.size, 0, none⟩))) 1 (.slice (some ⟨gb, 0, none⟩) g.length vc) 14 = z 14 := ⟨by simp [upZ], by simp [upZ], by simp [upZ]⟩
        obtain ⟨E11, E12, E14⟩ := EZ
        try rw [E11]
        try rw [E12]
        try rw [E14]
        exact HST
      · refine inv_step (by rfl) (fun K hK => ?_)
        go_simp
        refine hK.out _ _ ⟨upZ z 2 (.int .i64 ((g.length : Nat) : Int)), rfl, hideG (TabZ.step hz.out rfl), hideG ?_⟩
        have HST := hst.out
        clear hst hz hi hK
        simp only [flag_ne (show 2 ≠ 11 from by decide), flag_ne (show 2 ≠ 12 from by decide), flag_ne (show 2 ≠ 14 from by decide)]
        simp only [flag_ne (show 2 ≠ 9 from by decide)]
        have EZ : upZ z 2 (.int .i64 ((g.length : Nat) : Int)) 11 = z 11 ∧ upZ z 2 (.int .i64 ((g.length : Nat) : Int)) 12 = z 12 ∧ upZ z 2 (.int .i64 ((g.length : Nat) : Int)) 14 = z 14 := ⟨by simp [upZ], by simp [upZ], by simp [upZ]⟩
        obtain ⟨E11, E12, E14⟩ := EZ
        try rw [E11]
        try rw [E12]
        try rw [E14]
        exact HST
      · have e2 : z 2 = .int .i64 ((g.length : Nat) : Int) := hz.out 2 (by decide) (dep_of hi (d := 2) (by kernel_rfl))
        rw [e2]
        refine inv_step (by rfl) (fun K hK => ?_)
        go_simp
        refine hK.out _ _ ⟨upZ (upZ z 2 (.int .i64 ((g.length : Nat) : Int))) 3 (.int .i64 ((m : Nat) : Int)), rfl, hideG (TabZ.step (TabZ.fill hz.out e2) rfl), hideG ?_⟩
        have HST := hst.out
        clear hst hz hi hK
        simp only [flag_ne (show 3 ≠ 11 from by decide), flag_ne (show 3 ≠ 12 from by decide), flag_ne (show 3 ≠ 14 from by decide)]
        simp only [flag_ne (show 3 ≠ 9 from by decide)]
        have EZ : upZ (upZ z 2 (.int .i64 ((g.length : Nat) : Int))) 3 (.int .i64 ((m : Nat) : Int)) 11 = z 11 ∧ upZ (upZ z 2 (.int .i64 ((g.length : Nat) : Int))) 3 (.int .i64 ((m : Nat) : Int)) 12 = z 12 ∧ upZ (upZ z 2 (.int .i64 ((g.length : Nat) : Int))) 3 (.int .i64 ((m : Nat) : Int)) 14 = z 14 := ⟨by simp [upZ], by simp [upZ], by simp [upZ]⟩
        obtain ⟨E11, E12, E14⟩ := EZ
        try rw [E11]
        try rw [E12]
        try rw [E14]
        exact HST
      · refine inv_step (by rfl) (fun K hK => ?_)
        go_simp
        refine hK.out _ _ ⟨upZ z 4 (.pointer (some ⟨w1.heap.size, 0, none⟩)), rfl, hideG (TabZ.step hz.out rfl), hideG ?_⟩
        have HST := hst.out
        clear hst hz hi hK
        simp only [flag_ne (show 4 ≠ 11 from by decide), flag_ne (show 4 ≠ 12 from by decide), flag_ne (show 4 ≠ 14 from by decide)]
        simp only [flag_ne (show 4 ≠ 9 from by decide)]
        have EZ : upZ z 4 (.pointer (some ⟨w1.heap.size, 0, none⟩)) 11 = z 11 ∧ upZ z 4 (.pointer (some ⟨w1.heap.size, 0, none⟩)) 12 = z 12 ∧ upZ z 4 (.pointer (some ⟨w1.heap.size, 0, none⟩)) 14 = z 14 := ⟨by simp [upZ], by simp [upZ], by simp [upZ]⟩
        obtain ⟨E11, E12, E14⟩ := EZ
        try rw [E11]
        try rw [E12]
        try rw [E14]
        exact HST
      · have e4 : z 4 = .pointer (some ⟨w1.heap.size, 0, none⟩) := hz.out 4 (by decide) (dep_of hi (d := 4) (by kernel_rfl))
        have c0 : U.cell? ⟨w1.heap.size, 0, none⟩ = some (.slice (some ⟨gb, 0, none⟩) g.length vc) := by
          rcases hst.out with ⟨_, _, _, h⟩ | ⟨_, _, _, U1, rfl, _, h⟩ | ⟨_, _, _, _, ya, yc, _, h, _, _⟩ | ⟨_, _, _, _, ya, yc, h⟩
          · exact h.box.c0
          · exact (h.box.alloc _).c0
          · exact h.c0
          · exact h.box.c0
        have hlt0 := below_of_cell c0
        rw [e4]
        refine inv_step (by rfl) (fun K hK => ?_)
        go_simp
        refine hK.out _ _ ⟨upZ (upZ z 4 (.pointer (some ⟨w1.heap.size, 0, none⟩))) 5 (.slice (some ⟨gb, 0, none⟩) g.length vc), rfl, hideG (TabZ.step (TabZ.fill hz.out e4) rfl), hideG ?_⟩
        have HST := hst.out
        clear hst hz hi hK
        simp only [flag_ne (show 5 ≠ 11 from by decide), flag_ne (show 5 ≠ 12 from by decide), flag_ne (show 5 ≠ 14 from by decide)]
        simp only [flag_ne (show 5 ≠ 9 from by decide)]
        have EZ : upZ (upZ z 4 (.pointer (some ⟨w1.heap.size, 0, none⟩))) 5 (.slice (some ⟨gb, 0, none⟩) g.length vc) 11 = z 11 ∧ upZ (upZ z 4 (.pointer (some ⟨w1.heap.size, 0, none⟩))) 5 (.slice (some ⟨gb, 0, none⟩) g.length vc) 12 = z 12 ∧ upZ (upZ z 4 (.pointer (some ⟨w1.heap.size, 0, none⟩))) 5 (.slice (some ⟨gb, 0, none⟩) g.length vc) 14 = z 14 := ⟨by simp [upZ], by simp [upZ], by simp [upZ]⟩
        obtain ⟨E11, E12, E14⟩ := EZ
        try rw [E11]
        try rw [E12]
        try rw [E14]
        exact HST
      · refine inv_step (by rfl) (fun K hK => ?_)
        go_simp
        refine hK.out _ _ ⟨upZ z 6 (.int .i64 ((g.length : Nat) : Int)), rfl, hideG (TabZ.step hz.out rfl), hideG ?_⟩
        have HST := hst.out
        clear hst hz hi hK
        simp only [flag_ne (show 6 ≠ 11 from by decide), flag_ne (show 6 ≠ 12 from by decide), flag_ne (show 6 ≠ 14 from by decide)]
        simp only [flag_ne (show 6 ≠ 9 from by decide)]
        have EZ : upZ z 6 (.int .i64 ((g.length : Nat) : Int)) 11 = z 11 ∧ upZ z 6 (.int .i64 ((g.length : Nat) : Int)) 12 = z 12 ∧ upZ z 6 (.int .i64 ((g.length : Nat) : Int)) 14 = z 14 := ⟨by simp [upZ], by simp [upZ], by simp [upZ]⟩
        obtain ⟨E11, E12, E14⟩ := EZ
        try rw [E11]
        try rw [E12]
        try rw [E14]
        exact HST
      · have e6 : z 6 = .int .i64 ((g.length : Nat) : Int) := hz.out 6 (by decide) (dep_of hi (d := 6) (by kernel_rfl))
        rw [e6]
        refine inv_step (by rfl) (fun K hK => ?_)
        go_simp
        refine hK.out _ _ ⟨upZ (upZ z 6 (.int .i64 ((g.length : Nat) : Int))) 7 (.int .i64 ((m : Nat) : Int)), rfl, hideG (TabZ.step (TabZ.fill hz.out e6) rfl), hideG ?_⟩
        have HST := hst.out
        clear hst hz hi hK
        simp only [flag_ne (show 7 ≠ 11 from by decide), flag_ne (show 7 ≠ 12 from by decide), flag_ne (show 7 ≠ 14 from by decide)]
        simp only [flag_ne (show 7 ≠ 9 from by decide)]
        have EZ : upZ (upZ z 6 (.int .i64 ((g.length : Nat) : Int))) 7 (.int .i64 ((m : Nat) : Int)) 11 = z 11 ∧ upZ (upZ z 6 (.int .i64 ((g.length : Nat) : Int))) 7 (.int .i64 ((m : Nat) : Int)) 12 = z 12 ∧ upZ (upZ z 6 (.int .i64 ((g.length : Nat) : Int))) 7 (.int .i64 ((m : Nat) : Int)) 14 = z 14 := ⟨by simp [upZ], by simp [upZ], by simp [upZ]⟩
        obtain ⟨E11, E12, E14⟩ := EZ
        try rw [E11]
        try rw [E12]
        try rw [E14]
        exact HST
      · have e5 : z 5 = .slice (some ⟨gb, 0, none⟩) g.length vc := hz.out 5 (by decide) (dep_of hi (d := 5) (by kernel_rfl))
        have e7 : z 7 = .int .i64 ((m : Nat) : Int) := hz.out 7 (by decide) (dep_of hi (d := 7) (by kernel_rfl))
        rw [e5, e7]
        refine inv_step (by rfl) (fun K hK => ?_)
        go_simp
        refine hK.out _ _ ⟨upZ (upZ (upZ z 5 (.slice (some ⟨gb, 0, none⟩) g.length vc)) 7 (.int .i64 ((m : Nat) : Int))) 8 (.pointer (some ⟨gb, m, none⟩)), rfl, hideG (TabZ.step (TabZ.fill (TabZ.fill hz.out e5) e7) rfl), hideG ?_⟩
        have HST := hst.out
        clear hst hz hi hK
        simp only [flag_ne (show 8 ≠ 11 from by decide), flag_ne (show 8 ≠ 12 from by decide), flag_ne (show 8 ≠ 14 from by decide)]
        simp only [flag_ne (show 8 ≠ 9 from by decide)]
        have EZ : upZ (upZ (upZ z 5 (.slice (some ⟨gb, 0, none⟩) g.length vc)) 7 (.int .i64 ((m : Nat) : Int))) 8 (.pointer (some ⟨gb, m, none⟩)) 11 = z 11 ∧ upZ (upZ (upZ z 5 (.slice (some ⟨gb, 0, none⟩) g.length vc)) 7 (.int .i64 ((m : Nat) : Int))) 8 (.pointer (some ⟨gb, m, none⟩)) 12 = z 12 ∧ upZ (upZ (upZ z 5 (.slice (some ⟨gb, 0, none⟩) g.length vc)) 7 (.int .i64 ((m : Nat) : Int))) 8 (.pointer (some ⟨gb, m, none⟩)) 14 = z 14 := ⟨by simp [upZ], by simp [upZ], by simp [upZ]⟩
        obtain ⟨E11, E12, E14⟩ := EZ
        try rw [E11]
        try rw [E12]
        try rw [E14]
        exact HST
      · have e8 : z 8 = .pointer (some ⟨gb, m, none⟩) := hz.out 8 (by decide) (dep_of hi (d := 8) (by kernel_rfl))
        have cr : U.cell? ⟨gb, m, none⟩ = some (.slice ra row.length rc) := by
          have hk : ∀ U', OpT w W2 U' (.slice (some ⟨gb, 0, none⟩) g.length vc) (.slice (some ⟨gb, 0, none⟩) g.length vc) a w1.heap.size g rv → U'.cell? ⟨gb, m, none⟩ = some (.slice ra row.length rc) := fun U' h => by
            have h2 := h.own.row.cellAt m (by have := HM.out; omega)
            rw [h2, List.getElem?_map, List.getElem?_range (by have := HM.out; omega), ← HRV.out]
            rfl
          rcases hst.out with ⟨_, _, _, h⟩ | ⟨_, _, _, U1, rfl, _, h⟩ | ⟨_, _, _, h, _⟩ | ⟨_, _, _, h, _⟩
          · exact hk _ h
          · exact cell_alloc_l _ (hk _ h)
          · exact absurd (hun.symm.trans h) (by decide)
          · exact absurd (hun.symm.trans h) (by decide)
        have hltr := below_of_cell cr
        rw [e8]
        refine inv_step (by rfl) (fun K hK => ?_)
        go_simp
        refine hK.out _ _ ⟨upZ (upZ z 8 (.pointer (some ⟨gb, m, none⟩))) 9 (.slice ra row.length rc), rfl, hideG (TabZ.step (TabZ.fill hz.out e8) rfl), hideG ?_⟩
        have HST := hst.out
        clear hst hz hi hK
        simp only [flag_ne (show 9 ≠ 11 from by decide), flag_ne (show 9 ≠ 12 from by decide), flag_ne (show 9 ≠ 14 from by decide)]
        have EZ : upZ (upZ z 8 (.pointer (some ⟨gb, m, none⟩))) 9 (.slice ra row.length rc) 11 = z 11 ∧ upZ (upZ z 8 (.pointer (some ⟨gb, m, none⟩))) 9 (.slice ra row.length rc) 12 = z 12 ∧ upZ (upZ z 8 (.pointer (some ⟨gb, m, none⟩))) 9 (.slice ra row.length rc) 14 = z 14 := ⟨by simp [upZ], by simp [upZ], by simp [upZ]⟩
        obtain ⟨E11, E12, E14⟩ := EZ
        try rw [E11]
        try rw [E12]
        try rw [E14]
        rcases HST with h | h | h | h
        · exact .inl h
        · exact .inr (.inl h)
        · exact absurd (hun.symm.trans h.2.2.2.1) (by decide)
        · exact absurd (hun.symm.trans h.2.2.2.1) (by decide)
      · refine inv_step (by rfl) (fun K hK => ?_)
        go_simp
        refine hK.out _ _ ⟨upZ z 10 (.int .i64 x), rfl, hideG (TabZ.step hz.out rfl), hideG ?_⟩
        have HST := hst.out
        clear hst hz hi hK
        simp only [flag_ne (show 10 ≠ 11 from by decide), flag_ne (show 10 ≠ 12 from by decide), flag_ne (show 10 ≠ 14 from by decide)]
        simp only [flag_ne (show 10 ≠ 9 from by decide)]
        have EZ : upZ z 10 (.int .i64 x) 11 = z 11 ∧ upZ z 10 (.int .i64 x) 12 = z 12 ∧ upZ z 10 (.int .i64 x) 14 = z 14 := ⟨by simp [upZ], by simp [upZ], by simp [upZ]⟩
        obtain ⟨E11, E12, E14⟩ := EZ
        try rw [E11]
        try rw [E12]
        try rw [E14]
        exact HST
      · have e10 : z 10 = .int .i64 x := hz.out 10 (by decide) (dep_of hi (d := 10) (by kernel_rfl))
        rcases hst.out with hq | hq | hq | hq
        · obtain ⟨b11, b12, b14, hS⟩ := hq
          rw [e10]
          refine inv_step (by rfl) (fun K hK => ?_)
          go_simp
          refine hK.out _ _ ⟨upZ (upZ z 10 (.int .i64 x)) 11 (.slice (some ⟨U.heap.size, 0, none⟩) 1 1), rfl, hideG (TabZ.step (TabZ.mono (TabZ.fill hz.out e10) (fun _ _ h => h)) trivial), hideG (.inr (.inl ⟨flag_self, flag_ne' (by decide) b12, flag_ne' (by decide) b14, ?_⟩))⟩
          exact ⟨U, rfl, by simp [upZ], hS⟩
        · exact absurd (hun.symm.trans hq.1) (by decide)
        · exact absurd (hun.symm.trans hq.1) (by decide)
        · exact absurd (hun.symm.trans hq.1) (by decide)
      · have e9 : z 9 = .slice ra row.length rc := hz.out 9 (by decide) (dep_of hi (d := 9) (by kernel_rfl))
        have q11 := dep_of hi (d := 11) (by kernel_rfl)
        rcases hst.out with hq | hq | hq | hq
        · exact absurd (q11.symm.trans hq.1) (by decide)
        · obtain ⟨b11, b12, b14, hS⟩ := hq
          obtain ⟨U1, rfl, e11, hO⟩ := hS
          have hd_9 := dep_of hi (d := 9) (by kernel_rfl)
          rw [e9, e11]
          refine inv_step (by rfl) (fun K hK => ?_)
          have hrows := (hO.own.alloc (.cells #[.int .i64 x] 3)).rows m hml
          rw [HRV.out, HROW.out] at hrows
          have hsz : W2.heap.size ≤ (U1.alloc (.cells #[.int .i64 x] 3)).heap.size := by have h1 := hO.box.lt; have h2 := hO.hX; simp; omega
          refine step_append_any rfl (.tmp 37) (.tmp 39) 22 rfl W2.heap.size 3 i3 _ 1 8 Try.underlying22 hi3 hz30 hz31 hz32 rfl (by decide) _ row.length (intCells row) rfl hrows _ 1 [.int .i64 x] rfl (row_newV U1 _ 3) rfl (fun y hy => by simp at hy; subst hy; rfl) (by simp only [maxLen]; omega) (by omega) hsz ?_
          intro v4 w4 ho4 hg4 hf4
          obtain ⟨a4, c4, rfl⟩ := ownsRow_shape ho4
          rw [intCells_snoc] at ho4
          have HQ := (hO.call (alB _ (.cells #[.int .i64 x] 3))).grow (l := row ++ [x]) (v4 := .slice a4 (row.length + 1) c4) hml (by rw [List.length_append]; exact ho4) (by rw [HRV.out]; exact hg4) (by rw [HRV.out]; exact hf4)
          simp only [Act.put, List.setIfInBounds_toArray]
          refine hK.out _ _ ⟨upZ (upZ (upZ z 9 (.slice ra row.length rc)) 11 (.slice (some ⟨U1.heap.size, 0, none⟩) 1 1)) 12 (.slice a4 (row.length + 1) c4), rfl, hideG (TabZ.step (TabZ.mono (TabZ.fill (TabZ.fill hz.out e9) e11) (fun _ _ h => h)) trivial), hideG (.inr (.inr (.inl ⟨flag_ne' (by decide) b11, flag_self, flag_ne' (by decide) b14, flag_ne' (by decide) (hd_9), ?_⟩)))⟩
          exact ⟨a4, c4, by simp [upZ], HQ⟩
        · exact absurd (hun.symm.trans hq.2.1) (by decide)
        · exact absurd (hun.symm.trans hq.2.1) (by decide)
      · have e1 : z 1 = .slice (some ⟨gb, 0, none⟩) g.length vc := hz.out 1 (by decide) (dep_of hi (d := 1) (by kernel_rfl))
        have e3 : z 3 = .int .i64 ((m : Nat) : Int) := hz.out 3 (by decide) (dep_of hi (d := 3) (by kernel_rfl))
        rw [e1, e3]
        refine inv_step (by rfl) (fun K hK => ?_)
        go_simp
        refine hK.out _ _ ⟨upZ (upZ (upZ z 1 (.slice (some ⟨gb, 0, none⟩) g.length vc)) 3 (.int .i64 ((m : Nat) : Int))) 13 (.pointer (some ⟨gb, m, none⟩)), rfl, hideG (TabZ.step (TabZ.fill (TabZ.fill hz.out e1) e3) rfl), hideG ?_⟩
        have HST := hst.out
        clear hst hz hi hK
        simp only [flag_ne (show 13 ≠ 11 from by decide), flag_ne (show 13 ≠ 12 from by decide), flag_ne (show 13 ≠ 14 from by decide)]
        simp only [flag_ne (show 13 ≠ 9 from by decide)]
        have EZ : upZ (upZ (upZ z 1 (.slice (some ⟨gb, 0, none⟩) g.length vc)) 3 (.int .i64 ((m : Nat) : Int))) 13 (.pointer (some ⟨gb, m, none⟩)) 11 = z 11 ∧ upZ (upZ (upZ z 1 (.slice (some ⟨gb, 0, none⟩) g.length vc)) 3 (.int .i64 ((m : Nat) : Int))) 13 (.pointer (some ⟨gb, m, none⟩)) 12 = z 12 ∧ upZ (upZ (upZ z 1 (.slice (some ⟨gb, 0, none⟩) g.length vc)) 3 (.int .i64 ((m : Nat) : Int))) 13 (.pointer (some ⟨gb, m, none⟩)) 14 = z 14 := ⟨by simp [upZ], by simp [upZ], by simp [upZ]⟩
        obtain ⟨E11, E12, E14⟩ := EZ
        try rw [E11]
        try rw [E12]
        try rw [E14]
        exact HST
      · have e13 : z 13 = .pointer (some ⟨gb, m, none⟩) := hz.out 13 (by decide) (dep_of hi (d := 13) (by kernel_rfl))
        have q12 := dep_of hi (d := 12) (by kernel_rfl)
        rcases hst.out with hq | hq | hq | hq
        · exact absurd (q12.symm.trans hq.2.1) (by decide)
        · exact absurd (q12.symm.trans hq.2.1) (by decide)
        · obtain ⟨b11, b12, b14, g9, hS⟩ := hq
          obtain ⟨ya, yc, e12, hbx, ⟨hcc, hff⟩, hO⟩ := hS
          have hltg := below_of_cell hcc
          rw [e13, e12]
          refine inv_step (by rfl) (fun K hK => ?_)
          go_simp
          refine hK.out _ _ ⟨upZ (upZ (upZ z 13 (.pointer (some ⟨gb, m, none⟩))) 12 (.slice ya (row.length + 1) yc)) 14 (undef), rfl, hideG (TabZ.step (TabZ.mono (TabZ.fill (TabZ.fill hz.out e13) e12) (fun _ _ h => h)) trivial), hideG (.inr (.inr (.inr (⟨flag_ne' (by decide) b11, flag_ne' (by decide) b12, flag_self, flag_ne' (by decide) g9, ?_⟩))))⟩
          exact ⟨ya, yc, hO⟩
        · exact absurd (hun.symm.trans hq.2.2.1) (by decide)
    · intro l ac U hall hInv
      obtain ⟨z, ha, hz, hst⟩ := hInv
      subst ha
      have e0 : z 0 = .pointer (some ⟨w1.heap.size, 0, none⟩) := hz.out 0 (by decide) (hall 0 (by decide))
      have e1 : z 1 = .slice (some ⟨gb, 0, none⟩) g.length vc := hz.out 1 (by decide) (hall 1 (by decide))
      have e2 : z 2 = .int .i64 ((g.length : Nat) : Int) := hz.out 2 (by decide) (hall 2 (by decide))
      have e3 : z 3 = .int .i64 ((m : Nat) : Int) := hz.out 3 (by decide) (hall 3 (by decide))
      have e4 : z 4 = .pointer (some ⟨w1.heap.size, 0, none⟩) := hz.out 4 (by decide) (hall 4 (by decide))
      have e5 : z 5 = .slice (some ⟨gb, 0, none⟩) g.length vc := hz.out 5 (by decide) (hall 5 (by decide))
      have e6 : z 6 = .int .i64 ((g.length : Nat) : Int) := hz.out 6 (by decide) (hall 6 (by decide))
      have e7 : z 7 = .int .i64 ((m : Nat) : Int) := hz.out 7 (by decide) (hall 7 (by decide))
      have e8 : z 8 = .pointer (some ⟨gb, m, none⟩) := hz.out 8 (by decide) (hall 8 (by decide))
      have e9 : z 9 = .slice ra row.length rc := hz.out 9 (by decide) (hall 9 (by decide))
      have e10 : z 10 = .int .i64 x := hz.out 10 (by decide) (hall 10 (by decide))
      have e13 : z 13 = .pointer (some ⟨gb, m, none⟩) := hz.out 13 (by decide) (hall 13 (by decide))
      rcases hst.out with hq | hq | hq | hq
      · exact absurd ((hall 11 (by decide)).symm.trans hq.1) (by decide)
      · exact absurd ((hall 12 (by decide)).symm.trans hq.2.1) (by decide)
      · exact absurd ((hall 14 (by decide)).symm.trans hq.2.2.1) (by decide)
      · obtain ⟨_, _, _, _, hS⟩ := hq
        clear hz hall hst
        rw [e0, e1, e2, e3, e4, e5, e6, e7, e8, e9, e10, e13]
        obtain ⟨ya, yc, hO⟩ := hS
        have HO := hideG hO
        have c0 := hO.box.c0
        have c1 := hO.box.c1
        have c2 := hO.box.c2
        have hltx := hO.box.lt
        have r0 := hO.res.c0
        have r1 := hO.res.c1
        have r2 := hO.res.c2
        have f0 := hO.res.f0
        have f1 := hO.res.f1
        have f2 := hO.res.f2
        have hltr := hO.res.lt
        clear hO
        go_wp2_with fail
        obtain ⟨t0, t1, t2, hgr, hbl⟩ := HO.out.fin
        unfold set3 at t0 t1 t2 hgr hbl
        refine bodyPost_ret (v := .agg #[.slice (some ⟨gb, 0, none⟩) g.length vc, .int .i64 a, .bool true]) (by simp [results, Try.f11, go_sem, t0, t1, t2]) rfl ?_
        have hlen : (g.set m (row ++ [x])).length = g.length := List.length_set ..
        exact ⟨some ⟨gb, 0, none⟩, vc, by rw [HE2.out, hlen], by rw [HE2.out, hlen]; exact hgr, hbl⟩
  · have HOP := hideG hop
    have HE := hideG (show (wtOpen ⟨g, a, n⟩ x).g = g ++ [[x]] by unfold wtOpen; rw [HOP.out]; rfl)
    have HCD := hideG (show (decide ((g.length : Int) = 0) || decide ((g.length : Int) < a)) = true by
      have h := HOP.out
      simp only [opensB, Bool.or_eq_true, decide_eq_true_eq] at h ⊢
      omega)
    clear hop
    go_enter Try.func11, Try.ntmps11
    go_wp2_with fail
    rw [HW2.out]
    refine HC.out.mono ?_
    rintro e w1 ⟨va, vc, rv, rfl, ho, hb⟩
    have HT := hideG (show OpT w W2 (w1.alloc (.cells #[.slice va g.length vc, .int .i64 a, .bool true] 26)) (.slice va g.length vc) (.slice va g.length vc) a w1.heap.size g rv from
      ⟨Box3.new _ _ _ _ _, (HS.out.res.call hb).alloc _, ho.alloc _, ho.off_ge (Nat.le_refl _), (HS.out.bel.trans (hb.mono HS.out.bel.size)).alloc (HS.out.bel.trans (hb.mono HS.out.bel.size)).size _, by have := HS.out.size; omega, hb.size⟩)
    clear ho hb
    obtain ⟨WA, hWA⟩ : ∃ WA, w1.alloc (.cells #[.slice va g.length vc, .int .i64 a, .bool true] 26) = WA := ⟨_, rfl⟩
    have hsA : WA.heap.size = w1.heap.size + 1 := by rw [← hWA]; simp
    have HNW := hideG (show Holds ((WA.alloc (.cells #[.int .i64 x] 3)).alloc (.cells #[.slice (some ⟨w1.heap.size + 1, 0, none⟩) 1 1] 22)) (.slice (some ⟨w1.heap.size + 1 + 1, 0, none⟩) 1 1) 1 [.slice (some ⟨w1.heap.size + 1, 0, none⟩) 1 1] from by
      have h := row_newV (WA.alloc (.cells #[.int .i64 x] 3)) (.slice (some ⟨w1.heap.size + 1, 0, none⟩) 1 1) 22
      rw [World.size_alloc, hsA] at h
      exact h)
    have HR1 := hideG (show (WA.alloc (.cells #[.int .i64 x] 3)).ownsRow WA.heap.size 3 1 (.slice (some ⟨w1.heap.size + 1, 0, none⟩) 1 1) [x].length (intCells [x]) from by
      have h := rowOwn1 WA x
      rw [hsA] at h ⊢
      exact h)
    have HSA := hideG hsA
    clear hsA
    rw [hWA] at HT
    have HWA := hideG hWA
    clear hWA
    have HX2 := hideG (show W2.heap.size ≤ WA.heap.size by have h1 := HT.out.box.lt; have h2 := HT.out.hX; omega)
    have hgo : (((g.length : Int) == 0) || decide ((g.length : Int) < a)) = true := HCD.out
    by_cases h0 : (g.length : Int) = 0
    · have hb0 : ((g.length : Int) == 0) = true := by rw [beq_iff_eq]; exact h0
      clear h0 hgo
      go_wp2_with (at_builtin; rw [HWA.out]; refine wpList_append_any rfl (.tmp 22) (.tmp 25) 24 rfl W2.heap.size 22 i22 _ 1 24 Try.underlying24 hi22 hz220 hz221 hz222 rfl (by decide) _ g.length ((List.range g.length).map rv) rfl ((HT.out.own.alloc (.cells #[.int .i64 x] 3)).alloc (.cells #[.slice (some ⟨w1.heap.size + 1, 0, none⟩) 1 1] 22)).row _ 1 [.slice (some ⟨w1.heap.size + 1, 0, none⟩) 1 1] rfl HNW.out rfl ?h2 ?h3 ?h4 ?h5 ?_)
      case h2 => intro y hy; simp at hy; subst hy; rfl
      case h3 => simp only [maxLen]; omega
      case h4 => omega
      case h5 => have := HX2.out; simp; omega
      intro v4 w4 ho4 hg4 hf4
      obtain ⟨a4, c4, rfl⟩ := ownsRow_shape ho4
      have HQ := hideG ((HT.out.push HR1.out (alB _ _) ho4 hg4 (fun j hj => by simpa using hf4 j hj)).store)
      have HQ0 := hideG (HT.out.push HR1.out (alB _ _) ho4 hg4 (fun j hj => by simpa using hf4 j hj))
      have HLE := hideG (show (g ++ [[x]]).length = g.length + 1 by simp)
      clear ho4 hg4 hf4
      have c0 := HQ0.out.box.c0
      have c1 := HQ0.out.box.c1
      have c2 := HQ0.out.box.c2
      have g0 := HQ0.out.box.f0
      have hltx := HQ0.out.box.lt
      have r0 := HQ0.out.res.c0
      have r1 := HQ0.out.res.c1
      have r2 := HQ0.out.res.c2
      have f0 := HQ0.out.res.f0
      have f1 := HQ0.out.res.f1
      have f2 := HQ0.out.res.f2
      have hltr := HQ0.out.res.lt
      have hne : w.heap.size + 1 ≠ w1.heap.size := by have h1 := HQ0.out.hX; have h2 := HQ0.out.le; omega
      go_wp2_with fail
      obtain ⟨t0, t1, t2, hgr, hbl⟩ := HQ.out.fin
      unfold set3 at t0 t1 t2 hgr hbl
      refine bodyPost_ret (v := .agg #[.slice a4 (g.length + 1) c4, .int .i64 a, .bool true]) (by simp [results, Try.f11, go_sem, t0, t1, t2]) rfl ?_
      exact ⟨a4, c4, by rw [HE.out, HLE.out], by rw [HE.out, HLE.out]; exact hgr, hbl⟩
    · have hb0 : ((g.length : Int) == 0) = false := by rw [beq_eq_false_iff_ne]; exact h0
      have hb1 : decide ((g.length : Int) < a) = true := by rw [hb0, Bool.false_or] at hgo; exact hgo
      have hb2 := of_decide_eq_true hb1
      clear h0 hgo
      go_wp2_with (at_builtin; rw [HWA.out]; refine wpList_append_any rfl (.tmp 22) (.tmp 25) 24 rfl W2.heap.size 22 i22 _ 1 24 Try.underlying24 hi22 hz220 hz221 hz222 rfl (by decide) _ g.length ((List.range g.length).map rv) rfl ((HT.out.own.alloc (.cells #[.int .i64 x] 3)).alloc (.cells #[.slice (some ⟨w1.heap.size + 1, 0, none⟩) 1 1] 22)).row _ 1 [.slice (some ⟨w1.heap.size + 1, 0, none⟩) 1 1] rfl HNW.out rfl ?h2 ?h3 ?h4 ?h5 ?_)
      case h2 => intro y hy; simp at hy; subst hy; rfl
      case h3 => simp only [maxLen]; omega
      case h4 => omega
      case h5 => have := HX2.out; simp; omega
      intro v4 w4 ho4 hg4 hf4
      obtain ⟨a4, c4, rfl⟩ := ownsRow_shape ho4
      have HQ := hideG ((HT.out.push HR1.out (alB _ _) ho4 hg4 (fun j hj => by simpa using hf4 j hj)).store)
      have HQ0 := hideG (HT.out.push HR1.out (alB _ _) ho4 hg4 (fun j hj => by simpa using hf4 j hj))
      have HLE := hideG (show (g ++ [[x]]).length = g.length + 1 by simp)
      clear ho4 hg4 hf4
      have c0 := HQ0.out.box.c0
      have c1 := HQ0.out.box.c1
      have c2 := HQ0.out.box.c2
      have g0 := HQ0.out.box.f0
      have hltx := HQ0.out.box.lt
      have r0 := HQ0.out.res.c0
      have r1 := HQ0.out.res.c1
      have r2 := HQ0.out.res.c2
      have f0 := HQ0.out.res.f0
      have f1 := HQ0.out.res.f1
      have f2 := HQ0.out.res.f2
      have hltr := HQ0.out.res.lt
      have hne : w.heap.size + 1 ≠ w1.heap.size := by have h1 := HQ0.out.hX; have h2 := HQ0.out.le; omega
      go_wp2_with fail
      obtain ⟨t0, t1, t2, hgr, hbl⟩ := HQ.out.fin
      unfold set3 at t0 t1 t2 hgr hbl
      refine bodyPost_ret (v := .agg #[.slice a4 (g.length + 1) c4, .int .i64 a, .bool true]) (by simp [results, Try.f11, go_sem, t0, t1, t2]) rfl ?_
      exact ⟨a4, c4, by rw [HE.out, HLE.out], by rw [HE.out, HLE.out]; exact hgr, hbl⟩
end Go.Proofs.Ytlgbiecgbdbefab
