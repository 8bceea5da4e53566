/- WCop: copied of package watch. -/
import Derived.Test.YtlgbiecgbdbefabWGrps
import Derived.Test.YtlgbiecgbdbefabWReg
import Derived.Test.YtlgbiecgbdbefabStepApp
namespace Go.Proofs.Ytlgbiecgbdbefab
open Go.RowKit

theorem take_snoc {α : Type} {g : List α} {k : Nat} {d : α} (h : k < g.length) : g.take (k + 1) = g.take k ++ [g.getD k d] := by
  rw [List.take_succ_eq_append_getElem h, List.getD_eq_getElem?_getD, List.getElem?_eq_getElem h]; rfl
/-- What copied has laid so far. -/
structure CpT (w U : World) (a : Int) (n : Bool) (bv v : Value) (G : List (List Int)) (rv : Nat → Value) : Prop where
  box : Box3 U (w.heap.size + 1 + 1) bv (.int .i64 a) (.bool n)
  res : Box3 U (w.heap.size + 1) (.slice none 0 0) (.int .i64 0) (.bool false)
  own : OwnG U (w.heap.size + 3) v G rv
  bel : Below w.heap.size w U
theorem CpT.store {w U : World} {a : Int} {n : Bool} {bv v : Value} {G : List (List Int)} {rv : Nat → Value} (h : CpT w U a n bv v G rv) : CpT w (U.setCell ⟨w.heap.size + 1 + 1, 0, none⟩ v) a n v v G rv :=
  ⟨h.box.set0 v, h.res.other (by omega), h.own.set (h.own.off_lt (by omega)) v, h.bel.setCell (p := ⟨w.heap.size + 1 + 1, 0, none⟩) (by show w.heap.size ≤ w.heap.size + 1 + 1; omega) _⟩
theorem take_len {α : Type} {g : List α} {k : Nat} (h : k < g.length) : (g.take k).length = k := by rw [List.length_take]; omega
theorem row_newV (w : World) (x : Value) (t : TypeId) : Holds (w.alloc (.cells #[x] t)) (.slice (some ⟨w.heap.size, 0, none⟩) 1 1) 1 [x] := by
  refine .inl ⟨⟨w.heap.size, 0, none⟩, 1, rfl, fun j u hj => ?_⟩
  rw [addr_add, Nat.zero_add, World.cell?_alloc_at _ _ _ _ (by simp)]
  simpa using hj
theorem CpT.pre {w wr w1 : World} {a : Int} {n : Bool} {va : Option Addr} {k vc : Nat} {g : List (List Int)} {rv : Nat → Value} (h : CpT w wr a n (.slice va k vc) (.slice va k vc) (g.take k) rv) (hb : Below wr.heap.size wr w1) (hk : k < g.length) (o : Obj) :
    (w1.alloc o).ownsRow (w.heap.size + 3) 22 1 (.slice va k vc) k ((List.range k).map rv) ∧ w.heap.size + 3 ≤ (w1.alloc o).heap.size := by
  have h1 := ((h.own.call hb).alloc o).row
  rw [take_len hk] at h1
  have h2 := h.box.lt
  have h3 := hb.size
  exact ⟨h1, by simp; omega⟩
theorem CpT.push {w wr w1 w4 : World} {a : Int} {n : Bool} {va : Option Addr} {k vc : Nat} {g : List (List Int)} {row : List Int} {rv : Nat → Value} {x1 v4 : Value} {o : Obj} (h : CpT w wr a n (.slice va k vc) (.slice va k vc) (g.take k) rv) (hk : k < g.length) (hrow : g.getD k [] = row)
    (hx : w1.ownsRow wr.heap.size 3 1 x1 row.length (intCells row)) (hb : Below wr.heap.size wr w1) (ho : w4.ownsRow (w.heap.size + 3) 22 1 v4 (k + 1) ((List.range k).map rv ++ [x1]))
    (hg : (w1.alloc o).grownBy w4 (Value.ownBlock (.slice va k vc))) (hf : ∀ j, v4.ownBlock = some j → Value.ownBlock (.slice va k vc) = some j ∨ (w1.alloc o).heap.size ≤ j) : CpT w w4 a n (.slice va k vc) v4 (g.take (k + 1)) (updv rv k x1) := by
  have hsz := h.box.lt
  have hp := h.own.push (l := row) (x1 := x1) (v' := v4) (w2 := w4) (o := o) (by omega) hx hb (by rw [take_len hk]; exact ho) hg hf
  rw [take_len hk] at hp
  have ne : ∀ X, X < w.heap.size + 3 → some X ≠ Value.ownBlock (.slice va k vc) := fun X hX e => by have := (h.own.row.lt X e.symm).1; omega
  refine ⟨((h.box.call hb).alloc o).grown hg (ne _ (by omega)), ((h.res.call hb).alloc o).grown hg (ne _ (by omega)), by rw [take_snoc (d := []) hk, hrow]; exact hp, ?_⟩
  have hb1 := h.bel.trans (hb.mono h.bel.size)
  exact (hb1.alloc hb1.size o).grown hg (by have := hb1.size; simp; omega) (fun j e => by have := (h.own.row.lt j e).1; omega)
set_option maxRecDepth 100000 in
set_option maxHeartbeats 4000000 in
theorem copied_any (g : List (List Int)) (hf : fewG g 1000) (gv : Value) (a : Int) (n : Bool) (w : World) (hG : GrpsAt w gv g) :
    Calls Try.prog 19 #[.agg #[gv, .int .i64 a, .bool n]] w fun e w' => ∃ va vc rv, e = .returned (.agg #[.slice va g.length vc, .int .i64 a, .bool n]) ∧ OwnG w' w.heap.size (.slice va g.length vc) g rv ∧ Below w.heap.size w w' := by
  obtain ⟨i22, hi22, hz220, hz221, hz222⟩ := info_parts infoT22
  obtain ⟨ga, gc, rfl⟩ := hG.shape
  obtain ⟨W3, hW3⟩ : ∃ W3, ((w.alloc (.cells #[.slice ga g.length gc, .int .i64 a, .bool n] 26)).alloc (.cells #[.slice none 0 0, .int .i64 0, .bool false] 26)).alloc (.cells #[.slice none 0 0, .int .i64 a, .bool n] 26) = W3 := ⟨_, rfl⟩
  have HB := hideG (show Below w.heap.size w W3 by rw [← hW3]; exact (alB _ _).trans (((alB _ _).trans ((alB _ _).mono (by simp))).mono (by simp)))
  have HS := hideG (show W3.heap.size = w.heap.size + 3 by rw [← hW3]; simp)
  have HG := hideG hG
  have HR := hideG (show Box3 W3 (w.heap.size + 1) (.slice none 0 0) (.int .i64 0) (.bool false) by
    rw [← hW3]
    have := Box3.new (w.alloc (.cells #[.slice ga g.length gc, .int .i64 a, .bool n] 26)) (.slice none 0 0) (.int .i64 0) (.bool false) 26
    rw [World.size_alloc] at this
    exact this.alloc _)
  have HN := hideG (show Box3 W3 (w.heap.size + 1 + 1) (.slice none 0 0) (.int .i64 a) (.bool n) by
    rw [← hW3]
    have := Box3.new ((w.alloc (.cells #[.slice ga g.length gc, .int .i64 a, .bool n] 26)).alloc (.cells #[.slice none 0 0, .int .i64 0, .bool false] 26)) (.slice none 0 0) (.int .i64 a) (.bool n) 26
    rw [World.size_alloc, World.size_alloc] at this
    exact this)
  have HF := hideG hf
  have hl := hf.1
  have HW3 := hideG hW3
  clear hW3 hG hf
  go_enter Try.func19, Try.ntmps19
  go_wp2_with fail
  rw [HW3.out]
  clear HW3
  go_loopw [14] (fun i wr => ∃ (k : Nat) (va : Option Addr) (vc : Nat) (rv : Nat → Value), k ≤ g.length ∧ i = .int .i64 (k : Int) ∧ CpT w wr a n (.slice va k vc) (.slice va k vc) (g.take k) rv) (fun i _ => g.length - (intOf i).toNat)
  case atStart => exact ⟨0, none, 0, fun _ => undef, Nat.zero_le _, rfl, ⟨HN.out, HR.out, OwnG.nil _ _ _, HB.out⟩⟩
  case round =>
    obtain ⟨k, va, vc, rv, hk, rfl, hC⟩ := hrel
    have HC := hideG hC
    clear hC
    by_cases hlt : k < g.length
    · obtain ⟨b, off, ra, rc, rfl, cR, hI⟩ := (HG.out.below HC.out.bel).at hlt
      have HI := hideG hI
      clear hI
      generalize hrow : g.getD k [] = row at *
      have HROW := hideG hrow
      have hrl : row.length ≤ 1000 := by rw [← hrow]; exact HF.out.row
      clear hrow
      go_wp2_with fail
      have HST0 := hideG (show Below wr.heap.size wr wr.drew from (Below.refl _ _).drew)
      refine wp_region_inv (fun l ac U => ∃ z : Nat → Value, ac = { tmps := #[Value.agg #[Value.slice (some { block := b, off := off }) g.length gc, Value.int IntKind.i64 a, Value.bool n], Value.pointer (some { block := w.heap.size, off := 0 }), Value.pointer (some { block := w.heap.size + 1, off := 0 }), Value.pointer (some { block := w.heap.size + 1 + 1, off := 0 }), undef, Value.slice ra row.length rc, Value.pointer (some { block := w.heap.size, off := 1 }), Value.int IntKind.i64 a, Value.pointer (some { block := w.heap.size, off := 2 }), Value.bool n, Value.agg #[Value.slice none 0 0, Value.int IntKind.i64 a, Value.bool n], Value.pointer (some { block := w.heap.size, off := 0 }), Value.slice (some { block := b, off := off }) g.length gc, Value.int IntKind.i64 ((g.length : Nat) : Int), Value.int IntKind.i64 ((k : Nat) : Int), Value.bool true, Value.pointer (some { block := b, off := off + k }), Value.slice ra row.length rc, z 0, z 1, z 2, z 3, z 4, z 5, z 6, u25, undef], defers := [] } ∧ Hid (TabZ 8 (PureP [.pointer (some ⟨w.heap.size + 1 + 1, 0, none⟩), .slice va k vc, .slice ra row.length rc, undef, undef, undef, .pointer (some ⟨w.heap.size + 1 + 1, 0, none⟩), undef] [true, true, true, false, false, false, true, false]) l z U) ∧ Hid ((l.getD 3 true = false ∧ l.getD 4 true = false ∧ l.getD 5 true = false ∧ l.getD 7 true = false ∧ (Below wr.heap.size wr U)) ∨ (l.getD 3 true = true ∧ l.getD 4 true = false ∧ l.getD 5 true = false ∧ l.getD 7 true = false ∧ (∃ (xa : Option Addr) (xc : Nat), (z 3) = .slice xa row.length xc ∧ U.ownsRow wr.heap.size 3 1 (.slice xa row.length xc) row.length (intCells row) ∧ Below wr.heap.size wr U)) ∨ (l.getD 3 true = true ∧ l.getD 4 true = true ∧ l.getD 5 true = false ∧ l.getD 7 true = false ∧ (∃ (w1 : World) (xa : Option Addr) (xc : Nat), (z 3) = .slice xa row.length xc ∧ U = w1.alloc (.cells #[.slice xa row.length xc] 22) ∧ (z 4) = .slice (some ⟨w1.heap.size, 0, none⟩) 1 1 ∧ w1.ownsRow wr.heap.size 3 1 (.slice xa row.length xc) row.length (intCells row) ∧ Below wr.heap.size wr w1)) ∨ (l.getD 3 true = true ∧ l.getD 4 true = true ∧ l.getD 5 true = true ∧ l.getD 7 true = false ∧ l.getD 1 true = true ∧ (∃ (va' : Option Addr) (vc' : Nat) (rv' : Nat → Value), (z 5) = .slice va' (k + 1) vc' ∧ CpT w U a n (.slice va k vc) (.slice va' (k + 1) vc') (g.take (k + 1)) rv')) ∨ (l.getD 3 true = true ∧ l.getD 4 true = true ∧ l.getD 5 true = true ∧ l.getD 7 true = true ∧ l.getD 1 true = true ∧ (∃ (va' : Option Addr) (vc' : Nat) (rv' : Nat → Value), (z 5) = .slice va' (k + 1) vc' ∧ CpT w U a n (.slice va' (k + 1) vc') (.slice va' (k + 1) vc') (g.take (k + 1)) rv')))) (by kernel_rfl) (by kernel_rfl) ?_ ?_ ?_
      · exact ⟨fun k => ([u18, u19, u20, u21, u22, u23, u24, undef] : List Value).getD k undef, rfl, hideG TabZ.start, hideG (.inl ⟨rfl, rfl, rfl, rfl, HST0.out⟩)⟩
      · intro i l ac U hi hInv
        obtain ⟨z, ha, hz, hst⟩ := hInv
        subst ha
        obtain ⟨hun, o, ho, _⟩ := mem_ready.mp hi
        have hlt8 := (Array.getElem?_eq_some_iff.mp ho).1
        clear ho
        simp only [List.size_toArray, List.length_cons, List.length_nil, Nat.reduceAdd] at hlt8
        obtain rfl | rfl | rfl | rfl | rfl | rfl | rfl | rfl : i = 0 ∨ i = 1 ∨ i = 2 ∨ i = 3 ∨ i = 4 ∨ i = 5 ∨ i = 6 ∨ i = 7 := by omega
        · refine inv_step (by rfl) (fun K hK => ?_)
          go_simp
          refine hK.out _ _ ⟨upZ z 0 (.pointer (some ⟨w.heap.size + 1 + 1, 0, none⟩)), rfl, hideG (TabZ.step hz.out rfl), hideG ?_⟩
          have HST := hst.out
          clear hst hz hi hK
          simp only [flag_ne (show 0 ≠ 3 from by decide), flag_ne (show 0 ≠ 4 from by decide), flag_ne (show 0 ≠ 5 from by decide), flag_ne (show 0 ≠ 7 from by decide)]
          simp only [flag_ne (show 0 ≠ 1 from by decide)]
          have EZ : upZ z 0 (.pointer (some ⟨w.heap.size + 1 + 1, 0, none⟩)) 3 = z 3 ∧ upZ z 0 (.pointer (some ⟨w.heap.size + 1 + 1, 0, none⟩)) 4 = z 4 ∧ upZ z 0 (.pointer (some ⟨w.heap.size + 1 + 1, 0, none⟩)) 5 = z 5 ∧ upZ z 0 (.pointer (some ⟨w.heap.size + 1 + 1, 0, none⟩)) 7 = z 7 := ⟨by simp [upZ], by simp [upZ], by simp [upZ], by simp [upZ]⟩
          obtain ⟨E3, E4, E5, E7⟩ := EZ
          try rw [E3]
          try rw [E4]
          try rw [E5]
          try rw [E7]
          exact HST
        · have e0 : z 0 = .pointer (some ⟨w.heap.size + 1 + 1, 0, none⟩) := hz.out 0 (by decide) (dep_of hi (d := 0) (by kernel_rfl))
          have c0 : U.cell? ⟨w.heap.size + 1 + 1, 0, none⟩ = some (.slice va k vc) := by
            rcases hst.out with ⟨_, _, _, _, h⟩ | ⟨_, _, _, _, xa, xc, _, _, h⟩ | ⟨_, _, _, _, w1, xa, xc, _, rfl, _, _, h⟩ | ⟨_, _, _, _, h, _⟩ | ⟨_, _, _, _, h, _⟩
            · exact cell_below h HC.out.box.c0
            · exact cell_below h HC.out.box.c0
            · exact cell_alloc_l _ (cell_below h HC.out.box.c0)
            · exact absurd (hun.symm.trans h) (by decide)
            · exact absurd (hun.symm.trans h) (by decide)
          have hlt0 := below_of_cell c0
          rw [e0]
          refine inv_step (by rfl) (fun K hK => ?_)
          go_simp
          refine hK.out _ _ ⟨upZ (upZ z 0 (.pointer (some ⟨w.heap.size + 1 + 1, 0, none⟩))) 1 (.slice va k vc), rfl, hideG (TabZ.step (TabZ.fill hz.out e0) rfl), hideG ?_⟩
          have HST := hst.out
          clear hst hz hi hK
          simp only [flag_ne (show 1 ≠ 3 from by decide), flag_ne (show 1 ≠ 4 from by decide), flag_ne (show 1 ≠ 5 from by decide), flag_ne (show 1 ≠ 7 from by decide)]
          have EZ : upZ (upZ z 0 (.pointer (some ⟨w.heap.size + 1 + 1, 0, none⟩))) 1 (.slice va k vc) 3 = z 3 ∧ upZ (upZ z 0 (.pointer (some ⟨w.heap.size + 1 + 1, 0, none⟩))) 1 (.slice va k vc) 4 = z 4 ∧ upZ (upZ z 0 (.pointer (some ⟨w.heap.size + 1 + 1, 0, none⟩))) 1 (.slice va k vc) 5 = z 5 ∧ upZ (upZ z 0 (.pointer (some ⟨w.heap.size + 1 + 1, 0, none⟩))) 1 (.slice va k vc) 7 = z 7 := ⟨by simp [upZ], by simp [upZ], by simp [upZ], by simp [upZ]⟩
          obtain ⟨E3, E4, E5, E7⟩ := EZ
          try rw [E3]
          try rw [E4]
          try rw [E5]
          try rw [E7]
          rcases HST with h | h | h | h | h
          · exact .inl h
          · exact .inr (.inl h)
          · exact .inr (.inr (.inl h))
          · exact absurd (hun.symm.trans h.2.2.2.2.1) (by decide)
          · exact absurd (hun.symm.trans h.2.2.2.2.1) (by decide)
        · refine inv_step (by rfl) (fun K hK => ?_)
          go_simp
          refine hK.out _ _ ⟨upZ z 2 (.slice ra row.length rc), rfl, hideG (TabZ.step hz.out rfl), hideG ?_⟩
          have HST := hst.out
          clear hst hz hi hK
          simp only [flag_ne (show 2 ≠ 3 from by decide), flag_ne (show 2 ≠ 4 from by decide), flag_ne (show 2 ≠ 5 from by decide), flag_ne (show 2 ≠ 7 from by decide)]
          simp only [flag_ne (show 2 ≠ 1 from by decide)]
          have EZ : upZ z 2 (.slice ra row.length rc) 3 = z 3 ∧ upZ z 2 (.slice ra row.length rc) 4 = z 4 ∧ upZ z 2 (.slice ra row.length rc) 5 = z 5 ∧ upZ z 2 (.slice ra row.length rc) 7 = z 7 := ⟨by simp [upZ], by simp [upZ], by simp [upZ], by simp [upZ]⟩
          obtain ⟨E3, E4, E5, E7⟩ := EZ
          try rw [E3]
          try rw [E4]
          try rw [E5]
          try rw [E7]
          exact HST
        · have e2 : z 2 = .slice ra row.length rc := hz.out 2 (by decide) (dep_of hi (d := 2) (by kernel_rfl))
          rcases hst.out with hq | hq | hq | hq | hq
          · obtain ⟨b3, b4, b5, b7, hS⟩ := hq
            rw [e2]
            refine inv_step (by rfl) (fun K hK => ?_)
            go_simp
            go_at_call 22
            refine Calls.mono (cloneInts _ row U (HI.out.below hS) (by omega)) ?_
            rintro e w1 ⟨x1, rfl, hx1, hb1⟩
            obtain ⟨xa, xc, rfl⟩ := ownsRow_shape hx1
            go_wp2_with fail
            refine hK.out _ _ ⟨upZ (upZ z 2 (.slice ra row.length rc)) 3 (.slice xa row.length xc), rfl, hideG (TabZ.step (TabZ.mono (TabZ.fill hz.out e2) (fun _ _ h => h)) trivial), hideG (.inr (.inl ⟨flag_self, flag_ne' (by decide) b4, flag_ne' (by decide) b5, flag_ne' (by decide) b7, ?_⟩))⟩
            exact ⟨xa, xc, by simp [upZ], ownsRow_base hx1 hS.size, hS.trans (hb1.mono hS.size)⟩
          · exact absurd (hun.symm.trans hq.1) (by decide)
          · exact absurd (hun.symm.trans hq.1) (by decide)
          · exact absurd (hun.symm.trans hq.1) (by decide)
          · exact absurd (hun.symm.trans hq.1) (by decide)
        · have q3 := dep_of hi (d := 3) (by kernel_rfl)
          rcases hst.out with hq | hq | hq | hq | hq
          · exact absurd (q3.symm.trans hq.1) (by decide)
          · obtain ⟨b3, b4, b5, b7, hS⟩ := hq
            obtain ⟨xa, xc, e3, hx, hb⟩ := hS
            rw [e3]
            refine inv_step (by rfl) (fun K hK => ?_)
            go_simp
            refine hK.out _ _ ⟨upZ (upZ z 3 (.slice xa row.length xc)) 4 (.slice (some ⟨U.heap.size, 0, none⟩) 1 1), rfl, hideG (TabZ.step (TabZ.mono (TabZ.fill hz.out e3) (fun _ _ h => h)) trivial), hideG (.inr (.inr (.inl ⟨flag_ne' (by decide) b3, flag_self, flag_ne' (by decide) b5, flag_ne' (by decide) b7, ?_⟩)))⟩
            exact ⟨U, xa, xc, by simp [upZ], rfl, by simp [upZ], hx, hb⟩
          · exact absurd (hun.symm.trans hq.2.1) (by decide)
          · exact absurd (hun.symm.trans hq.2.1) (by decide)
          · exact absurd (hun.symm.trans hq.2.1) (by decide)
        · have e1 : z 1 = .slice va k vc := hz.out 1 (by decide) (dep_of hi (d := 1) (by kernel_rfl))
          have q4 := dep_of hi (d := 4) (by kernel_rfl)
          rcases hst.out with hq | hq | hq | hq | hq
          · exact absurd (q4.symm.trans hq.2.1) (by decide)
          · exact absurd (q4.symm.trans hq.2.1) (by decide)
          · obtain ⟨b3, b4, b5, b7, hS⟩ := hq
            obtain ⟨w1, xa, xc, e3, rfl, e4, hx, hb⟩ := hS
            have hd_1 := dep_of hi (d := 1) (by kernel_rfl)
            rw [e1, e4]
            refine inv_step (by rfl) (fun K hK => ?_)
            have HP := CpT.pre HC.out hb hlt (.cells #[.slice xa row.length xc] 22)
            refine step_append_any rfl (.tmp 19) (.tmp 22) 24 rfl (w.heap.size + 3) 22 i22 _ 1 24 Try.underlying24 hi22 hz220 hz221 hz222 rfl (by decide) _ k ((List.range k).map rv) rfl HP.1 _ 1 [.slice xa row.length xc] rfl (row_newV w1 _ 22) rfl (fun y hy => by simp at hy; subst hy; rfl) (by simp only [maxLen]; omega) (by omega) HP.2 ?_
            intro v4 w4 ho4 hg4 hf4
            obtain ⟨a4, c4, rfl⟩ := ownsRow_shape ho4
            have HQ := CpT.push HC.out hlt HROW.out hx hb ho4 hg4 hf4
            simp only [Act.put, List.setIfInBounds_toArray]
            refine hK.out _ _ ⟨upZ (upZ (upZ z 1 (.slice va k vc)) 4 (.slice (some ⟨w1.heap.size, 0, none⟩) 1 1)) 5 (.slice a4 (k + 1) c4), rfl, hideG (TabZ.step (TabZ.mono (TabZ.fill (TabZ.fill hz.out e1) e4) (fun _ _ h => h)) trivial), hideG (.inr (.inr (.inr (.inl ⟨flag_ne' (by decide) b3, flag_ne' (by decide) b4, flag_self, flag_ne' (by decide) b7, flag_ne' (by decide) (hd_1), ?_⟩))))⟩
            exact ⟨a4, c4, _, by simp [upZ], HQ⟩
          · exact absurd (hun.symm.trans hq.2.2.1) (by decide)
          · exact absurd (hun.symm.trans hq.2.2.1) (by decide)
        · refine inv_step (by rfl) (fun K hK => ?_)
          go_simp
          refine hK.out _ _ ⟨upZ z 6 (.pointer (some ⟨w.heap.size + 1 + 1, 0, none⟩)), rfl, hideG (TabZ.step hz.out rfl), hideG ?_⟩
          have HST := hst.out
          clear hst hz hi hK
          simp only [flag_ne (show 6 ≠ 3 from by decide), flag_ne (show 6 ≠ 4 from by decide), flag_ne (show 6 ≠ 5 from by decide), flag_ne (show 6 ≠ 7 from by decide)]
          simp only [flag_ne (show 6 ≠ 1 from by decide)]
          have EZ : upZ z 6 (.pointer (some ⟨w.heap.size + 1 + 1, 0, none⟩)) 3 = z 3 ∧ upZ z 6 (.pointer (some ⟨w.heap.size + 1 + 1, 0, none⟩)) 4 = z 4 ∧ upZ z 6 (.pointer (some ⟨w.heap.size + 1 + 1, 0, none⟩)) 5 = z 5 ∧ upZ z 6 (.pointer (some ⟨w.heap.size + 1 + 1, 0, none⟩)) 7 = z 7 := ⟨by simp [upZ], by simp [upZ], by simp [upZ], by simp [upZ]⟩
          obtain ⟨E3, E4, E5, E7⟩ := EZ
          try rw [E3]
          try rw [E4]
          try rw [E5]
          try rw [E7]
          exact HST
        · have q5 := dep_of hi (d := 5) (by kernel_rfl)
          have e6 : z 6 = .pointer (some ⟨w.heap.size + 1 + 1, 0, none⟩) := hz.out 6 (by decide) (dep_of hi (d := 6) (by kernel_rfl))
          rcases hst.out with hq | hq | hq | hq | hq
          · exact absurd (q5.symm.trans hq.2.2.1) (by decide)
          · exact absurd (q5.symm.trans hq.2.2.1) (by decide)
          · exact absurd (q5.symm.trans hq.2.2.1) (by decide)
          · obtain ⟨b3, b4, b5, b7, g1, hS⟩ := hq
            obtain ⟨va', vc', rv', e5, HC5⟩ := hS
            rw [e6, e5]
            have c0 := HC5.box.c0
            have f0 := HC5.box.f0
            refine inv_step (by rfl) (fun K hK => ?_)
            go_simp
            refine hK.out _ _ ⟨upZ (upZ (upZ z 6 (.pointer (some ⟨w.heap.size + 1 + 1, 0, none⟩))) 5 (.slice va' (k + 1) vc')) 7 (undef), rfl, hideG (TabZ.step (TabZ.mono (TabZ.fill (TabZ.fill hz.out e6) e5) (fun _ _ h => h)) trivial), hideG (.inr (.inr (.inr (.inr (⟨flag_ne' (by decide) b3, flag_ne' (by decide) b4, flag_ne' (by decide) b5, flag_self, flag_ne' (by decide) g1, ?_⟩)))))⟩
            exact ⟨va', vc', rv', by simp [upZ], HC5.store⟩
          · exact absurd (hun.symm.trans hq.2.2.2.1) (by decide)
      · intro l ac U hall hInv
        obtain ⟨z, ha, hz, hst⟩ := hInv
        subst ha
        have e0 : z 0 = .pointer (some ⟨w.heap.size + 1 + 1, 0, none⟩) := hz.out 0 (by decide) (hall 0 (by decide))
        have e1 : z 1 = .slice va k vc := hz.out 1 (by decide) (hall 1 (by decide))
        have e2 : z 2 = .slice ra row.length rc := hz.out 2 (by decide) (hall 2 (by decide))
        have e6 : z 6 = .pointer (some ⟨w.heap.size + 1 + 1, 0, none⟩) := hz.out 6 (by decide) (hall 6 (by decide))
        rcases hst.out with hq | hq | hq | hq | hq
        · exact absurd ((hall 3 (by decide)).symm.trans hq.1) (by decide)
        · exact absurd ((hall 4 (by decide)).symm.trans hq.2.1) (by decide)
        · exact absurd ((hall 5 (by decide)).symm.trans hq.2.2.1) (by decide)
        · exact absurd ((hall 7 (by decide)).symm.trans hq.2.2.2.1) (by decide)
        · obtain ⟨_, _, _, _, _, hS⟩ := hq
          clear hz hall hst
          rw [e0, e1, e2, e6]
          obtain ⟨va', vc', rv', e5, HC5⟩ := hS
          rw [e5]
          have HC5 := hideG HC5
          go_wp2_with fail
          go_roundw
          case rel => exact ⟨k + 1, va', vc', rv', by omega, by go_num, HC5.out⟩
          case measure => simp [intOf]; omega
    · have hke : k = g.length := by omega
      subst hke
      have hte : g.take g.length = g := List.take_length
      rw [hte] at HC
      have c0 := HC.out.box.c0
      have c1 := HC.out.box.c1
      have c2 := HC.out.box.c2
      have r0 := HC.out.res.c0
      have r1 := HC.out.res.c1
      have r2 := HC.out.res.c2
      have f0 := HC.out.res.f0
      have f1 := HC.out.res.f1
      have f2 := HC.out.res.f2
      go_wp2_with fail
      have HB9 := HC.out.res.set (.slice va g.length vc) (.int .i64 a) (.bool n)
      unfold set3 at HB9
      obtain ⟨t0, t1, t2, _, _, _⟩ := HB9
      refine bodyPost_ret (v := .agg #[.slice va g.length vc, .int .i64 a, .bool n]) (by simp [results, Try.f19, go_sem, t0, t1, t2]) rfl ?_
      have hh := HC.out.own.set3 (HC.out.own.off_lt (X := w.heap.size + 1) (by omega)) (.slice va g.length vc) (.int .i64 a) (.bool n)
      refine ⟨va, vc, rv, rfl, ?_, set3_below HC.out.bel (by omega)⟩
      exact ⟨ownsRow_base hh.row (by omega), fun j hj => ownsRow_base (hh.rows j hj) (by omega), hh.rr, hh.kk⟩
end Go.Proofs.Ytlgbiecgbdbefab
