/- WClose: Close of package watch: contract. -/
import Derived.Test.YtlgbiecgbdbefabWOpen
import Derived.Test.YtlgbiecgbdbefabWBack
namespace Go.Proofs.Ytlgbiecgbdbefab
open Go.RowKit

/-- What Close has laid. -/
structure ClT (w W2 U : World) (v : Value) (a' : Int) (n : Bool) (X : Nat) (G : List (List Int)) (rv : Nat → Value) : Prop where
  box : Box3 U X v (.int .i64 a') (.bool n)
  res : Box3 U (w.heap.size + 1) (.slice none 0 0) (.int .i64 0) (.bool false)
  own : OwnG U W2.heap.size v G rv
  bel : Below w.heap.size w U
  le : w.heap.size + 1 < W2.heap.size
  hX : W2.heap.size ≤ X
theorem ClT.call {w W2 U U' : World} {v : Value} {a' : Int} {n : Bool} {X : Nat} {G : List (List Int)} {rv : Nat → Value} (h : ClT w W2 U v a' n X G rv) (hb : Below U.heap.size U U') : ClT w W2 U' v a' n X G rv :=
  ⟨h.box.call hb, h.res.call hb, h.own.call hb, h.bel.trans (hb.mono h.bel.size), h.le, h.hX⟩
theorem ClT.fin {w W2 U : World} {v : Value} {a' : Int} {n : Bool} {X : Nat} {G : List (List Int)} {rv : Nat → Value} (h : ClT w W2 U v a' n X G rv) :
    Box3 (set3 U (w.heap.size + 1) v (.int .i64 a') (.bool n)) (w.heap.size + 1) v (.int .i64 a') (.bool n) ∧
    OwnX (set3 U (w.heap.size + 1) v (.int .i64 a') (.bool n)) w.heap.size v G ∧ Below w.heap.size w (set3 U (w.heap.size + 1) v (.int .i64 a') (.bool n)) :=
  ⟨h.res.set _ _ _, ⟨_, (h.own.set3 (h.own.off_lt h.le) _ _ _).rebase (by have := h.le; omega)⟩, set3_below h.bel (by omega)⟩
theorem set3_cell {U : World} {R b o : Nat} {x y z : Value} (h : b ≠ R) : (set3 U R x y z).cell? ⟨b, o, none⟩ = U.cell? ⟨b, o, none⟩ := World.cell?_of_block (a := ⟨b, o, none⟩) ((setc_block h).trans ((setc_block h).trans (setc_block h)))
def clA (a : Int) : Int := if 2 ≤ a then wrap64 (a - 1) else 1
set_option maxRecDepth 100000 in
set_option maxHeartbeats 4000000 in
theorem close_any (g : List (List Int)) (hf : fewG g 1000) (gv : Value) (a : Int) (n : Bool) (w : World) (hG : GrpsAt w gv g) :
    Calls Try.prog 12 #[.agg #[gv, .int .i64 a, .bool n]] w fun e w' => ∃ va vc lv, e = .returned (.tuple #[.agg #[.slice va g.length vc, .int .i64 (clA a), .bool n], lv]) ∧ OwnX w' w.heap.size (.slice va g.length vc) g ∧ IntsAt w' lv (toldL ⟨g, a, n⟩) ∧ Below w.heap.size w w' := by
  obtain ⟨ga, gc, rfl⟩ := hG.shape
  have hS := Start2.mk' w _ a n g hG
  obtain ⟨W2, hW2⟩ : ∃ W2, (w.alloc (.cells #[.slice ga g.length gc, .int .i64 a, .bool n] 26)).alloc (.cells #[.slice none 0 0, .int .i64 0, .bool false] 26) = W2 := ⟨_, rfl⟩
  rw [hW2] at hS
  have HS := hideG hS
  have HF := hideG hf
  have HGW := hideG hG
  have hl := hf.1
  have HW2 := hideG hW2
  clear hW2 hG hS hf
  have HC := hideG (copied_any g HF.out _ a n W2 HS.out.grp)
  have c0 := HS.out.box.c0
  have c1 := HS.out.box.c1
  have clt := HS.out.box.lt
  by_cases hA2 : 2 ≤ a
  · have HA := hideG (show clA a = wrap64 (a - 1) by unfold clA; rw [if_pos hA2])
    by_cases h0 : (g.length : Int) = 0
    · have hb0 : ((g.length : Int) == 0) = true := by rw [beq_iff_eq]; exact h0
      go_enter Try.func12, Try.ntmps12
      go_wp2_with fail
      rw [HW2.out]
      refine HC.out.mono ?_
      rintro e w1 ⟨va, vc, rv, rfl, ho, hb⟩
      have HBX := hideG (HS.out.box.call hb)
      have HG1 := hideG ((HS.out.grp).below hb)
      have HT := hideG (show ClT w W2 (w1.alloc (.cells #[.slice va g.length vc, .int .i64 (wrap64 (a - 1)), .bool n] 26)) (.slice va g.length vc) (wrap64 (a - 1)) n w1.heap.size g rv from
        ⟨Box3.new _ _ _ _ _, (HS.out.res.call hb).alloc _, ho.alloc _, (HS.out.bel.trans (hb.mono HS.out.bel.size)).alloc (HS.out.bel.trans (hb.mono HS.out.bel.size)).size _, by have := HS.out.size; omega, hb.size⟩)
      have HO := hideG ho
      have HBB := hideG (HS.out.bel.trans (hb.mono HS.out.bel.size))
      have HRX := hideG (HS.out.res.call hb)
      clear c0 c1 clt ho hb
      have c0 := HBX.out.c0
      have c1 := HBX.out.c1
      have clt := HBX.out.lt
      have HTL := hideG (show toldL ⟨g, a, n⟩ = [] by unfold toldL; rw [if_pos (by show g.length = 0; omega)])
      have r0 := HRX.out.c0
      have r1 := HRX.out.c1
      have r2 := HRX.out.c2
      have f0 := HRX.out.f0
      have f1 := HRX.out.f1
      have f2 := HRX.out.f2
      have rlt := HRX.out.lt
      go_wp2_with fail
      have HTT := (HRX.out.set (.slice va g.length vc) (.int .i64 (wrap64 (a - 1))) (.bool n)).alloc (.cells #[(.slice va g.length vc), .int .i64 (wrap64 (a - 1)), .bool n] 26)
      unfold set3 at HTT
      obtain ⟨t0, t1, t2, _, _, _⟩ := HTT
      refine bodyPost_ret (v := .tuple #[.agg #[(.slice va g.length vc), .int .i64 (wrap64 (a - 1)), .bool n], .slice none 0 0]) (by simp [results, Try.f12, go_sem, t0, t1, t2]) rfl ?_
      have HZ := ((HO.out.set3 (HO.out.off_lt (X := w.heap.size + 1) (by have := HS.out.size; omega)) (.slice va g.length vc) (.int .i64 (wrap64 (a - 1))) (.bool n)).alloc (.cells #[(.slice va g.length vc), .int .i64 (wrap64 (a - 1)), .bool n] 26)).rebase (base' := w.heap.size) (by have := HS.out.size; omega)
      have HY := (set3_below (x := (.slice va g.length vc)) (y := .int .i64 (wrap64 (a - 1))) (z := .bool n) (R := w.heap.size + 1) HBB.out (by omega)).alloc (Nat.le_trans HBB.out.size (Nat.le_of_eq (set3_size _ _ _ _ _).symm)) (.cells #[(.slice va g.length vc), .int .i64 (wrap64 (a - 1)), .bool n] 26)
      unfold set3 at HZ HY
      exact ⟨va, vc, _, by rw [HA.out], ⟨_, HZ⟩, by rw [HTL.out]; exact ⟨none, 0, rfl, fun h => by simp at h⟩, HY⟩
    · have hb0 : ((g.length : Int) == 0) = false := by rw [beq_eq_false_iff_ne]; exact h0
      have hrow0 := HS.out.grp
      go_enter Try.func12, Try.ntmps12
      go_wp2_with fail
      rw [HW2.out]
      refine HC.out.mono ?_
      rintro e w1 ⟨va, vc, rv, rfl, ho, hb⟩
      have HBX := hideG (HS.out.box.call hb)
      have HG1 := hideG ((HS.out.grp).below hb)
      have HT := hideG (show ClT w W2 (w1.alloc (.cells #[.slice va g.length vc, .int .i64 (wrap64 (a - 1)), .bool n] 26)) (.slice va g.length vc) (wrap64 (a - 1)) n w1.heap.size g rv from
        ⟨Box3.new _ _ _ _ _, (HS.out.res.call hb).alloc _, ho.alloc _, (HS.out.bel.trans (hb.mono HS.out.bel.size)).alloc (HS.out.bel.trans (hb.mono HS.out.bel.size)).size _, by have := HS.out.size; omega, hb.size⟩)
      clear c0 c1 clt ho hb
      have c0 := HBX.out.c0
      have c1 := HBX.out.c1
      have clt := HBX.out.lt
      obtain ⟨m, hm⟩ : ∃ m, g.length = m + 1 := ⟨g.length - 1, by omega⟩
      have hml : m < g.length := by omega
      obtain ⟨b, off, ra, rc, rfl, cR, hI⟩ := HGW.out.at hml
      have HBN := hideG (show b ≠ w.heap.size + 1 by have := below_of_cell cR; simp at this; omega)
      have hw : IntKind.i64.wrap ((g.length : Int) - 1) = (m : Int) := by rw [IntKind.wrap_i64]; omega
      have hm0 : (0 : Int) ≤ (m : Int) := by omega
      have hm1 : (m : Int) < (g.length : Int) := by omega
      have HTL := hideG (show toldL ⟨g, a, n⟩ = (g.getD m []).reverse by unfold toldL lastG; rw [if_neg (by show ¬ g.length = 0; omega), show (⟨g, a, n⟩ : Wt).g.length - 1 = m by show g.length - 1 = m; omega])
      have HRL := hideG (HF.out.row (j := m))
      have HCR0 := hideG cR
      have HI0 := hideG hI
      clear cR hI hm
      generalize g.getD m [] = row at *
      have hrl6 := HRL.out
      go_wp2_with fail
      obtain ⟨WA, hWA⟩ : ∃ WA, w1.alloc (.cells #[.slice va g.length vc, .int .i64 (wrap64 (a - 1)), .bool n] 26) = WA := ⟨_, rfl⟩
      have HCR := hideG (show WA.cell? ⟨b, off + m, none⟩ = some (.slice ra row.length rc) by rw [← hWA]; exact cell_below HT.out.bel HCR0.out)
      have HI := hideG (show IntsAt WA (.slice ra row.length rc) row by rw [← hWA]; exact HI0.out.below HT.out.bel)
      have HBA := hideG (show Box3 WA w.heap.size (.slice (some ⟨b, off, none⟩) g.length gc) (.int .i64 a) (.bool n) by rw [← hWA]; exact HBX.out.alloc _)
      rw [hWA] at HT ⊢
      clear hWA c0 c1 clt
      refine wp_region_inv (fun l ac U => ∃ z : Nat → Value, ac = { tmps := #[Value.agg #[Value.slice (some ⟨b, off, none⟩) g.length gc, Value.int IntKind.i64 a, Value.bool n], Value.pointer (some { block := w.heap.size, off := 0 }), Value.pointer (some { block := w.heap.size + 1, off := 0 }), z 11, Value.pointer (some { block := w1.heap.size, off := 0 }), Value.agg #[Value.slice (some ⟨b, off, none⟩) g.length gc, Value.int IntKind.i64 a, Value.bool n], Value.agg #[Value.slice va g.length vc, Value.int IntKind.i64 a, Value.bool n], Value.pointer (some { block := w.heap.size, off := 1 }), Value.int IntKind.i64 a, Value.int IntKind.i64 a, Value.int IntKind.i64 (wrap64 (a - 1)), Value.pointer (some { block := w1.heap.size, off := 1 }), Value.pointer (some { block := w.heap.size, off := 0 }), Value.slice (some ⟨b, off, none⟩) g.length gc, Value.int IntKind.i64 ((g.length : Nat) : Int), Value.bool false, undef, z 0, z 1, z 2, z 3, z 4, z 5, z 6, z 7, z 8, z 9], defers := [] } ∧ Hid (TabZ 12 (PureP [.agg #[.slice va g.length vc, .int .i64 (wrap64 (a - 1)), .bool n], .pointer (some ⟨w.heap.size, 0, none⟩), .slice (some ⟨b, off, none⟩) g.length gc, .pointer (some ⟨w.heap.size, 0, none⟩), .slice (some ⟨b, off, none⟩) g.length gc, .int .i64 ((g.length : Nat) : Int), .int .i64 ((m : Nat) : Int), .pointer (some ⟨b, off + m, none⟩), .slice ra row.length rc, undef, undef, undef] [true, true, true, true, true, true, true, true, true, false, false, false]) l z U) ∧ Hid ((l.getD 9 true = false ∧ l.getD 10 true = false ∧ l.getD 11 true = false ∧ (Below WA.heap.size WA U)) ∨ (l.getD 9 true = true ∧ l.getD 10 true = false ∧ l.getD 11 true = false ∧ (∃ (la : Option Addr) (lc : Nat), (z 9) = .slice la row.length lc ∧ U.ownsRow W2.heap.size 3 1 (.slice la row.length lc) row.reverse.length (intCells row.reverse) ∧ Below WA.heap.size WA U)) ∨ (l.getD 9 true = true ∧ l.getD 10 true = true ∧ l.getD 11 true = false ∧ (∃ (la : Option Addr) (lc : Nat) (U1 : World), (z 9) = .slice la row.length lc ∧ U.ownsRow W2.heap.size 3 1 (.slice la row.length lc) row.reverse.length (intCells row.reverse) ∧ U = set3 U1 (w.heap.size + 1) (.slice va g.length vc) (.int .i64 (wrap64 (a - 1))) (.bool n) ∧ ClT w W2 U1 (.slice va g.length vc) (wrap64 (a - 1)) n w1.heap.size g rv ∧ Below WA.heap.size WA U1)) ∨ (l.getD 9 true = true ∧ l.getD 10 true = true ∧ l.getD 11 true = true ∧ (∃ (la : Option Addr) (lc : Nat) (U1 : World), (z 11) = .slice la row.length lc ∧ U.ownsRow W2.heap.size 3 1 (.slice la row.length lc) row.reverse.length (intCells row.reverse) ∧ U = set3 U1 (w.heap.size + 1) (.slice va g.length vc) (.int .i64 (wrap64 (a - 1))) (.bool n) ∧ ClT w W2 U1 (.slice va g.length vc) (wrap64 (a - 1)) n w1.heap.size g rv ∧ Below WA.heap.size WA U1)))) (by kernel_rfl) (by kernel_rfl) ?_ ?_ ?_
      · exact ⟨fun k => ([undef, undef, undef, undef, undef, undef, undef, undef, undef, undef, undef, Value.slice none 0 0] : List Value).getD k undef, rfl, hideG TabZ.start, hideG (.inl ⟨rfl, rfl, rfl, ((Below.refl _ _).drew)⟩)⟩
      · intro i l ac U hi hInv
        obtain ⟨z, ha, hz, hst⟩ := hInv
        subst ha
        obtain ⟨hun, o, ho, _⟩ := mem_ready.mp hi
        have hlt8 := (Array.getElem?_eq_some_iff.mp ho).1
        clear ho
        simp only [List.size_toArray, List.length_cons, List.length_nil, Nat.reduceAdd] at hlt8
        obtain rfl | rfl | rfl | rfl | rfl | rfl | rfl | rfl | rfl | rfl | rfl | rfl : i = 0 ∨ i = 1 ∨ i = 2 ∨ i = 3 ∨ i = 4 ∨ i = 5 ∨ i = 6 ∨ i = 7 ∨ i = 8 ∨ i = 9 ∨ i = 10 ∨ i = 11 := by omega
        · have hk : ∀ (b' o' : Nat) (u : Value), b' ≠ w.heap.size + 1 → WA.cell? ⟨b', o', none⟩ = some u → U.cell? ⟨b', o', none⟩ = some u := by
            intro b' o' u hne hu
            rcases hst.out with ⟨_, _, _, h⟩ | ⟨_, _, _, la, lc, _, _, h⟩ | ⟨_, _, _, la, lc, U1, _, _, rfl, _, h⟩ | ⟨_, _, _, la, lc, U1, _, _, rfl, _, h⟩
            · exact cell_below h hu
            · exact cell_below h hu
            · exact (set3_cell hne).trans (cell_below h hu)
            · exact (set3_cell hne).trans (cell_below h hu)
          have c0 := hk _ _ _ (by have h1 := HT.out.le; have h2 := HT.out.hX; omega) HT.out.box.c0
          have c1 := hk _ _ _ (by have h1 := HT.out.le; have h2 := HT.out.hX; omega) HT.out.box.c1
          have c2 := hk _ _ _ (by have h1 := HT.out.le; have h2 := HT.out.hX; omega) HT.out.box.c2
          have hltx := below_of_cell c0
          refine inv_step (by rfl) (fun K hK => ?_)
          go_simp
          refine hK.out _ _ ⟨upZ z 0 (.agg #[.slice va g.length vc, .int .i64 (wrap64 (a - 1)), .bool n]), rfl, hideG (TabZ.step hz.out rfl), hideG ?_⟩
          have HST := hst.out
          clear hst hz hi hK
          simp only [flag_ne (show 0 ≠ 9 from by decide), flag_ne (show 0 ≠ 10 from by decide), flag_ne (show 0 ≠ 11 from by decide)]
          have EZ : upZ z 0 (.agg #[.slice va g.length vc, .int .i64 (wrap64 (a - 1)), .bool n]) 9 = z 9 ∧ upZ z 0 (.agg #[.slice va g.length vc, .int .i64 (wrap64 (a - 1)), .bool n]) 10 = z 10 ∧ upZ z 0 (.agg #[.slice va g.length vc, .int .i64 (wrap64 (a - 1)), .bool n]) 11 = z 11 := ⟨by simp [upZ], by simp [upZ], by simp [upZ]⟩
          obtain ⟨E9, E10, E11⟩ := EZ
          try rw [E9]
          try rw [E10]
          try rw [E11]
          exact HST
        · refine inv_step (by rfl) (fun K hK => ?_)
          go_simp
          refine hK.out _ _ ⟨upZ z 1 (.pointer (some ⟨w.heap.size, 0, none⟩)), rfl, hideG (TabZ.step hz.out rfl), hideG ?_⟩
          have HST := hst.out
          clear hst hz hi hK
          simp only [flag_ne (show 1 ≠ 9 from by decide), flag_ne (show 1 ≠ 10 from by decide), flag_ne (show 1 ≠ 11 from by decide)]
          have EZ : upZ z 1 (.pointer (some ⟨w.heap.size, 0, none⟩)) 9 = z 9 ∧ upZ z 1 (.pointer (some ⟨w.heap.size, 0, none⟩)) 10 = z 10 ∧ upZ z 1 (.pointer (some ⟨w.heap.size, 0, none⟩)) 11 = z 11 := ⟨by simp [upZ], by simp [upZ], by simp [upZ]⟩
          obtain ⟨E9, E10, E11⟩ := EZ
          try rw [E9]
          try rw [E10]
          try rw [E11]
          exact HST
        · have e1 : z 1 = .pointer (some ⟨w.heap.size, 0, none⟩) := hz.out 1 (by decide) (dep_of hi (d := 1) (by kernel_rfl))
          have hk : ∀ (b' o' : Nat) (u : Value), b' ≠ w.heap.size + 1 → WA.cell? ⟨b', o', none⟩ = some u → U.cell? ⟨b', o', none⟩ = some u := by
            intro b' o' u hne hu
            rcases hst.out with ⟨_, _, _, h⟩ | ⟨_, _, _, la, lc, _, _, h⟩ | ⟨_, _, _, la, lc, U1, _, _, rfl, _, h⟩ | ⟨_, _, _, la, lc, U1, _, _, rfl, _, h⟩
            · exact cell_below h hu
            · exact cell_below h hu
            · exact (set3_cell hne).trans (cell_below h hu)
            · exact (set3_cell hne).trans (cell_below h hu)
          have c0 := hk _ _ _ (by omega) HBA.out.c0
          have hltx := below_of_cell c0
          rw [e1]
          refine inv_step (by rfl) (fun K hK => ?_)
          go_simp
          refine hK.out _ _ ⟨upZ (upZ z 1 (.pointer (some ⟨w.heap.size, 0, none⟩))) 2 (.slice (some ⟨b, off, none⟩) g.length gc), rfl, hideG (TabZ.step (TabZ.fill hz.out e1) rfl), hideG ?_⟩
          have HST := hst.out
          clear hst hz hi hK
          simp only [flag_ne (show 2 ≠ 9 from by decide), flag_ne (show 2 ≠ 10 from by decide), flag_ne (show 2 ≠ 11 from by decide)]
          have EZ : upZ (upZ z 1 (.pointer (some ⟨w.heap.size, 0, none⟩))) 2 (.slice (some ⟨b, off, none⟩) g.length gc) 9 = z 9 ∧ upZ (upZ z 1 (.pointer (some ⟨w.heap.size, 0, none⟩))) 2 (.slice (some ⟨b, off, none⟩) g.length gc) 10 = z 10 ∧ upZ (upZ z 1 (.pointer (some ⟨w.heap.size, 0, none⟩))) 2 (.slice (some ⟨b, off, none⟩) g.length gc) 11 = z 11 := ⟨by simp [upZ], by simp [upZ], by simp [upZ]⟩
          obtain ⟨E9, E10, E11⟩ := EZ
          try rw [E9]
          try rw [E10]
          try rw [E11]
          exact HST
        · refine inv_step (by rfl) (fun K hK => ?_)
          go_simp
          refine hK.out _ _ ⟨upZ z 3 (.pointer (some ⟨w.heap.size, 0, none⟩)), rfl, hideG (TabZ.step hz.out rfl), hideG ?_⟩
          have HST := hst.out
          clear hst hz hi hK
          simp only [flag_ne (show 3 ≠ 9 from by decide), flag_ne (show 3 ≠ 10 from by decide), flag_ne (show 3 ≠ 11 from by decide)]
          have EZ : upZ z 3 (.pointer (some ⟨w.heap.size, 0, none⟩)) 9 = z 9 ∧ upZ z 3 (.pointer (some ⟨w.heap.size, 0, none⟩)) 10 = z 10 ∧ upZ z 3 (.pointer (some ⟨w.heap.size, 0, none⟩)) 11 = z 11 := ⟨by simp [upZ], by simp [upZ], by simp [upZ]⟩
          obtain ⟨E9, E10, E11⟩ := EZ
          try rw [E9]
          try rw [E10]
          try rw [E11]
          exact HST
        · have e3 : z 3 = .pointer (some ⟨w.heap.size, 0, none⟩) := hz.out 3 (by decide) (dep_of hi (d := 3) (by kernel_rfl))
          have hk : ∀ (b' o' : Nat) (u : Value), b' ≠ w.heap.size + 1 → WA.cell? ⟨b', o', none⟩ = some u → U.cell? ⟨b', o', none⟩ = some u := by
            intro b' o' u hne hu
            rcases hst.out with ⟨_, _, _, h⟩ | ⟨_, _, _, la, lc, _, _, h⟩ | ⟨_, _, _, la, lc, U1, _, _, rfl, _, h⟩ | ⟨_, _, _, la, lc, U1, _, _, rfl, _, h⟩
            · exact cell_below h hu
            · exact cell_below h hu
            · exact (set3_cell hne).trans (cell_below h hu)
            · exact (set3_cell hne).trans (cell_below h hu)
          have c0 := hk _ _ _ (by omega) HBA.out.c0
          have hltx := below_of_cell c0
          rw [e3]
          refine inv_step (by rfl) (fun K hK => ?_)
          go_simp
          refine hK.out _ _ ⟨upZ (upZ z 3 (.pointer (some ⟨w.heap.size, 0, none⟩))) 4 (.slice (some ⟨b, off, none⟩) g.length gc), rfl, hideG (TabZ.step (TabZ.fill hz.out e3) rfl), hideG ?_⟩
          have HST := hst.out
          clear hst hz hi hK
          simp only [flag_ne (show 4 ≠ 9 from by decide), flag_ne (show 4 ≠ 10 from by decide), flag_ne (show 4 ≠ 11 from by decide)]
          have EZ : upZ (upZ z 3 (.pointer (some ⟨w.heap.size, 0, none⟩))) 4 (.slice (some ⟨b, off, none⟩) g.length gc) 9 = z 9 ∧ upZ (upZ z 3 (.pointer (some ⟨w.heap.size, 0, none⟩))) 4 (.slice (some ⟨b, off, none⟩) g.length gc) 10 = z 10 ∧ upZ (upZ z 3 (.pointer (some ⟨w.heap.size, 0, none⟩))) 4 (.slice (some ⟨b, off, none⟩) g.length gc) 11 = z 11 := ⟨by simp [upZ], by simp [upZ], by simp [upZ]⟩
          obtain ⟨E9, E10, E11⟩ := EZ
          try rw [E9]
          try rw [E10]
          try rw [E11]
          exact HST
        · have e4 : z 4 = .slice (some ⟨b, off, none⟩) g.length gc := hz.out 4 (by decide) (dep_of hi (d := 4) (by kernel_rfl))
          rw [e4]
          refine inv_step (by rfl) (fun K hK => ?_)
          go_simp
          refine hK.out _ _ ⟨upZ (upZ z 4 (.slice (some ⟨b, off, none⟩) g.length gc)) 5 (.int .i64 ((g.length : Nat) : Int)), rfl, hideG (TabZ.step (TabZ.fill hz.out e4) rfl), hideG ?_⟩
          have HST := hst.out
          clear hst hz hi hK
          simp only [flag_ne (show 5 ≠ 9 from by decide), flag_ne (show 5 ≠ 10 from by decide), flag_ne (show 5 ≠ 11 from by decide)]
          have EZ : upZ (upZ z 4 (.slice (some ⟨b, off, none⟩) g.length gc)) 5 (.int .i64 ((g.length : Nat) : Int)) 9 = z 9 ∧ upZ (upZ z 4 (.slice (some ⟨b, off, none⟩) g.length gc)) 5 (.int .i64 ((g.length : Nat) : Int)) 10 = z 10 ∧ upZ (upZ z 4 (.slice (some ⟨b, off, none⟩) g.length gc)) 5 (.int .i64 ((g.length : Nat) : Int)) 11 = z 11 := ⟨by simp [upZ], by simp [upZ], by simp [upZ]⟩
          obtain ⟨E9, E10, E11⟩ := EZ
          try rw [E9]
          try rw [E10]
          try rw [E11]
          exact HST
        · have e5 : z 5 = .int .i64 ((g.length : Nat) : Int) := hz.out 5 (by decide) (dep_of hi (d := 5) (by kernel_rfl))
          rw [e5]
          refine inv_step (by rfl) (fun K hK => ?_)
          go_simp
          refine hK.out _ _ ⟨upZ (upZ z 5 (.int .i64 ((g.length : Nat) : Int))) 6 (.int .i64 ((m : Nat) : Int)), rfl, hideG (TabZ.step (TabZ.fill hz.out e5) rfl), hideG ?_⟩
          have HST := hst.out
          clear hst hz hi hK
          simp only [flag_ne (show 6 ≠ 9 from by decide), flag_ne (show 6 ≠ 10 from by decide), flag_ne (show 6 ≠ 11 from by decide)]
          have EZ : upZ (upZ z 5 (.int .i64 ((g.length : Nat) : Int))) 6 (.int .i64 ((m : Nat) : Int)) 9 = z 9 ∧ upZ (upZ z 5 (.int .i64 ((g.length : Nat) : Int))) 6 (.int .i64 ((m : Nat) : Int)) 10 = z 10 ∧ upZ (upZ z 5 (.int .i64 ((g.length : Nat) : Int))) 6 (.int .i64 ((m : Nat) : Int)) 11 = z 11 := ⟨by simp [upZ], by simp [upZ], by simp [upZ]⟩
          obtain ⟨E9, E10, E11⟩ := EZ
          try rw [E9]
          try rw [E10]
          try rw [E11]
          exact HST
        · have e2 : z 2 = .slice (some ⟨b, off, none⟩) g.length gc := hz.out 2 (by decide) (dep_of hi (d := 2) (by kernel_rfl))
          have e6 : z 6 = .int .i64 ((m : Nat) : Int) := hz.out 6 (by decide) (dep_of hi (d := 6) (by kernel_rfl))
          rw [e2, e6]
          refine inv_step (by rfl) (fun K hK => ?_)
          go_simp
          refine hK.out _ _ ⟨upZ (upZ (upZ z 2 (.slice (some ⟨b, off, none⟩) g.length gc)) 6 (.int .i64 ((m : Nat) : Int))) 7 (.pointer (some ⟨b, off + m, none⟩)), rfl, hideG (TabZ.step (TabZ.fill (TabZ.fill hz.out e2) e6) rfl), hideG ?_⟩
          have HST := hst.out
          clear hst hz hi hK
          simp only [flag_ne (show 7 ≠ 9 from by decide), flag_ne (show 7 ≠ 10 from by decide), flag_ne (show 7 ≠ 11 from by decide)]
          have EZ : upZ (upZ (upZ z 2 (.slice (some ⟨b, off, none⟩) g.length gc)) 6 (.int .i64 ((m : Nat) : Int))) 7 (.pointer (some ⟨b, off + m, none⟩)) 9 = z 9 ∧ upZ (upZ (upZ z 2 (.slice (some ⟨b, off, none⟩) g.length gc)) 6 (.int .i64 ((m : Nat) : Int))) 7 (.pointer (some ⟨b, off + m, none⟩)) 10 = z 10 ∧ upZ (upZ (upZ z 2 (.slice (some ⟨b, off, none⟩) g.length gc)) 6 (.int .i64 ((m : Nat) : Int))) 7 (.pointer (some ⟨b, off + m, none⟩)) 11 = z 11 := ⟨by simp [upZ], by simp [upZ], by simp [upZ]⟩
          obtain ⟨E9, E10, E11⟩ := EZ
          try rw [E9]
          try rw [E10]
          try rw [E11]
          exact HST
        · have e7 : z 7 = .pointer (some ⟨b, off + m, none⟩) := hz.out 7 (by decide) (dep_of hi (d := 7) (by kernel_rfl))
          have hk : ∀ (b' o' : Nat) (u : Value), b' ≠ w.heap.size + 1 → WA.cell? ⟨b', o', none⟩ = some u → U.cell? ⟨b', o', none⟩ = some u := by
            intro b' o' u hne hu
            rcases hst.out with ⟨_, _, _, h⟩ | ⟨_, _, _, la, lc, _, _, h⟩ | ⟨_, _, _, la, lc, U1, _, _, rfl, _, h⟩ | ⟨_, _, _, la, lc, U1, _, _, rfl, _, h⟩
            · exact cell_below h hu
            · exact cell_below h hu
            · exact (set3_cell hne).trans (cell_below h hu)
            · exact (set3_cell hne).trans (cell_below h hu)
          have cr := hk _ _ _ HBN.out HCR.out
          have hltr := below_of_cell cr
          rw [e7]
          refine inv_step (by rfl) (fun K hK => ?_)
          go_simp
          refine hK.out _ _ ⟨upZ (upZ z 7 (.pointer (some ⟨b, off + m, none⟩))) 8 (.slice ra row.length rc), rfl, hideG (TabZ.step (TabZ.fill hz.out e7) rfl), hideG ?_⟩
          have HST := hst.out
          clear hst hz hi hK
          simp only [flag_ne (show 8 ≠ 9 from by decide), flag_ne (show 8 ≠ 10 from by decide), flag_ne (show 8 ≠ 11 from by decide)]
          have EZ : upZ (upZ z 7 (.pointer (some ⟨b, off + m, none⟩))) 8 (.slice ra row.length rc) 9 = z 9 ∧ upZ (upZ z 7 (.pointer (some ⟨b, off + m, none⟩))) 8 (.slice ra row.length rc) 10 = z 10 ∧ upZ (upZ z 7 (.pointer (some ⟨b, off + m, none⟩))) 8 (.slice ra row.length rc) 11 = z 11 := ⟨by simp [upZ], by simp [upZ], by simp [upZ]⟩
          obtain ⟨E9, E10, E11⟩ := EZ
          try rw [E9]
          try rw [E10]
          try rw [E11]
          exact HST
        · have e8 : z 8 = .slice ra row.length rc := hz.out 8 (by decide) (dep_of hi (d := 8) (by kernel_rfl))
          rcases hst.out with hq | hq | hq | hq
          · obtain ⟨b9, b10, b11, hS⟩ := hq
            rw [e8]
            refine inv_step (by rfl) (fun K hK => ?_)
            go_simp
            go_at_call 20
            refine Calls.mono (backward_any row (by omega) _ U (HI.out.below hS)) ?_
            rintro e w5 ⟨la, lc, rfl, hx1, hb1⟩
            go_wp2_with fail
            refine hK.out _ _ ⟨upZ (upZ z 8 (.slice ra row.length rc)) 9 (.slice la row.length lc), rfl, hideG (TabZ.step (TabZ.mono (TabZ.fill hz.out e8) (fun _ _ h => h)) trivial), hideG (.inr (.inl ⟨flag_self, flag_ne' (by decide) b10, flag_ne' (by decide) b11, ?_⟩))⟩
            exact ⟨la, lc, by simp [upZ], ownsRow_base hx1 (by have h1 := HT.out.box.lt; have h2 := HT.out.hX; have h3 := hS.size; omega), hS.trans (hb1.mono hS.size)⟩
          · exact absurd (hun.symm.trans hq.1) (by decide)
          · exact absurd (hun.symm.trans hq.1) (by decide)
          · exact absurd (hun.symm.trans hq.1) (by decide)
        · have e0 : z 0 = .agg #[.slice va g.length vc, .int .i64 (wrap64 (a - 1)), .bool n] := hz.out 0 (by decide) (dep_of hi (d := 0) (by kernel_rfl))
          have q9 := dep_of hi (d := 9) (by kernel_rfl)
          rcases hst.out with hq | hq | hq | hq
          · exact absurd (q9.symm.trans hq.1) (by decide)
          · obtain ⟨b9, b10, b11, hS⟩ := hq
            obtain ⟨la, lc, e9, hown, hbel⟩ := hS
            have hC := HT.out.call hbel
            have hd_0 := dep_of hi (d := 0) (by kernel_rfl)
            have r0 := hC.res.c0
            have r1 := hC.res.c1
            have r2 := hC.res.c2
            have f0 := hC.res.f0
            have f1 := hC.res.f1
            have f2 := hC.res.f2
            have hltr := hC.res.lt
            rw [e0, e9]
            refine inv_step (by rfl) (fun K hK => ?_)
            go_simp
            have hkp : (set3 U (w.heap.size + 1) (.slice va g.length vc) (.int .i64 (wrap64 (a - 1))) (.bool n)).ownsRow W2.heap.size 3 1 (.slice la row.length lc) row.reverse.length (intCells row.reverse) := by
              have hne : Value.ownBlock (.slice la row.length lc) ≠ some (w.heap.size + 1) := fun e => by have h1 := (hown.lt _ e).1; have h2 := hC.le; omega
              exact ownsRow_kept_set (ownsRow_kept_set (ownsRow_kept_set hown hne) hne) hne
            refine hK.out _ _ ⟨upZ (upZ (upZ z 0 (.agg #[.slice va g.length vc, .int .i64 (wrap64 (a - 1)), .bool n])) 9 (.slice la row.length lc)) 10 (undef), rfl, hideG (TabZ.step (TabZ.mono (TabZ.fill (TabZ.fill hz.out e0) e9) (fun _ _ h => h)) trivial), hideG (.inr (.inr (.inl ⟨flag_ne' (by decide) b9, flag_self, flag_ne' (by decide) b11, ?_⟩)))⟩
            exact ⟨la, lc, U, by simp [upZ], hkp, rfl, hC, hbel⟩
          · exact absurd (hun.symm.trans hq.2.1) (by decide)
          · exact absurd (hun.symm.trans hq.2.1) (by decide)
        · have q9 := dep_of hi (d := 9) (by kernel_rfl)
          have q10 := dep_of hi (d := 10) (by kernel_rfl)
          rcases hst.out with hq | hq | hq | hq
          · exact absurd (q10.symm.trans hq.2.1) (by decide)
          · exact absurd (q10.symm.trans hq.2.1) (by decide)
          · obtain ⟨b9, b10, b11, hS⟩ := hq
            obtain ⟨la, lc, U1, e9, hown, rfl, hC, hbl⟩ := hS
            rw [e9]
            refine inv_step (by rfl) (fun K hK => ?_)
            go_simp
            refine hK.out _ _ ⟨upZ (upZ z 9 (.slice la row.length lc)) 11 (.slice la row.length lc), rfl, hideG (TabZ.step (TabZ.mono (TabZ.fill hz.out e9) (fun _ _ h => h)) trivial), hideG (.inr (.inr (.inr (⟨flag_ne' (by decide) b9, flag_ne' (by decide) b10, flag_self, ?_⟩))))⟩
            exact ⟨la, lc, U1, by simp [upZ], hown, rfl, hC, hbl⟩
          · exact absurd (hun.symm.trans hq.2.2.1) (by decide)
      · intro l ac U hall hInv
        obtain ⟨z, ha, hz, hst⟩ := hInv
        subst ha
        have e0 : z 0 = .agg #[.slice va g.length vc, .int .i64 (wrap64 (a - 1)), .bool n] := hz.out 0 (by decide) (hall 0 (by decide))
        have e1 : z 1 = .pointer (some ⟨w.heap.size, 0, none⟩) := hz.out 1 (by decide) (hall 1 (by decide))
        have e2 : z 2 = .slice (some ⟨b, off, none⟩) g.length gc := hz.out 2 (by decide) (hall 2 (by decide))
        have e3 : z 3 = .pointer (some ⟨w.heap.size, 0, none⟩) := hz.out 3 (by decide) (hall 3 (by decide))
        have e4 : z 4 = .slice (some ⟨b, off, none⟩) g.length gc := hz.out 4 (by decide) (hall 4 (by decide))
        have e5 : z 5 = .int .i64 ((g.length : Nat) : Int) := hz.out 5 (by decide) (hall 5 (by decide))
        have e6 : z 6 = .int .i64 ((m : Nat) : Int) := hz.out 6 (by decide) (hall 6 (by decide))
        have e7 : z 7 = .pointer (some ⟨b, off + m, none⟩) := hz.out 7 (by decide) (hall 7 (by decide))
        have e8 : z 8 = .slice ra row.length rc := hz.out 8 (by decide) (hall 8 (by decide))
        rcases hst.out with hq | hq | hq | hq
        · exact absurd ((hall 9 (by decide)).symm.trans hq.1) (by decide)
        · exact absurd ((hall 10 (by decide)).symm.trans hq.2.1) (by decide)
        · exact absurd ((hall 11 (by decide)).symm.trans hq.2.2.1) (by decide)
        · obtain ⟨_, _, _, hS⟩ := hq
          clear hz hall hst
          rw [e0, e1, e2, e3, e4, e5, e6, e7, e8]
          obtain ⟨la, lc, U1, e11, hown, rfl, hC, _⟩ := hS
          obtain ⟨hbx, hgr, hbl⟩ := hC.fin
          rw [e11]
          have t0 := hbx.c0
          have t1 := hbx.c1
          have t2 := hbx.c2
          go_wp2_with fail
          refine bodyPost_ret (v := .tuple #[.agg #[.slice va g.length vc, .int .i64 (wrap64 (a - 1)), .bool n], .slice la row.length lc]) (by simp [results, Try.f12, go_sem, t0, t1, t2]) rfl ?_
          exact ⟨va, vc, _, by rw [HA.out], hgr, by rw [HTL.out]; have hh := ownsRow_ints hown; exact hh, hbl⟩
  · have HA := hideG (show clA a = 1 by unfold clA; rw [if_neg hA2])
    by_cases h0 : (g.length : Int) = 0
    · have hb0 : ((g.length : Int) == 0) = true := by rw [beq_iff_eq]; exact h0
      go_enter Try.func12, Try.ntmps12
      go_wp2_with fail
      rw [HW2.out]
      refine HC.out.mono ?_
      rintro e w1 ⟨va, vc, rv, rfl, ho, hb⟩
      have HBX := hideG (HS.out.box.call hb)
      have HG1 := hideG ((HS.out.grp).below hb)
      have HT := hideG (show ClT w W2 (w1.alloc (.cells #[.slice va g.length vc, .int .i64 (1), .bool n] 26)) (.slice va g.length vc) (1) n w1.heap.size g rv from
        ⟨Box3.new _ _ _ _ _, (HS.out.res.call hb).alloc _, ho.alloc _, (HS.out.bel.trans (hb.mono HS.out.bel.size)).alloc (HS.out.bel.trans (hb.mono HS.out.bel.size)).size _, by have := HS.out.size; omega, hb.size⟩)
      have HO := hideG ho
      have HBB := hideG (HS.out.bel.trans (hb.mono HS.out.bel.size))
      have HRX := hideG (HS.out.res.call hb)
      clear c0 c1 clt ho hb
      have c0 := HBX.out.c0
      have c1 := HBX.out.c1
      have clt := HBX.out.lt
      have HTL := hideG (show toldL ⟨g, a, n⟩ = [] by unfold toldL; rw [if_pos (by show g.length = 0; omega)])
      have r0 := HRX.out.c0
      have r1 := HRX.out.c1
      have r2 := HRX.out.c2
      have f0 := HRX.out.f0
      have f1 := HRX.out.f1
      have f2 := HRX.out.f2
      have rlt := HRX.out.lt
      go_wp2_with fail
      have HTT := (HRX.out.set (.slice va g.length vc) (.int .i64 (1)) (.bool n)).alloc (.cells #[(.slice va g.length vc), .int .i64 (1), .bool n] 26)
      unfold set3 at HTT
      obtain ⟨t0, t1, t2, _, _, _⟩ := HTT
      refine bodyPost_ret (v := .tuple #[.agg #[(.slice va g.length vc), .int .i64 (1), .bool n], .slice none 0 0]) (by simp [results, Try.f12, go_sem, t0, t1, t2]) rfl ?_
      have HZ := ((HO.out.set3 (HO.out.off_lt (X := w.heap.size + 1) (by have := HS.out.size; omega)) (.slice va g.length vc) (.int .i64 (1)) (.bool n)).alloc (.cells #[(.slice va g.length vc), .int .i64 (1), .bool n] 26)).rebase (base' := w.heap.size) (by have := HS.out.size; omega)
      have HY := (set3_below (x := (.slice va g.length vc)) (y := .int .i64 (1)) (z := .bool n) (R := w.heap.size + 1) HBB.out (by omega)).alloc (Nat.le_trans HBB.out.size (Nat.le_of_eq (set3_size _ _ _ _ _).symm)) (.cells #[(.slice va g.length vc), .int .i64 (1), .bool n] 26)
      unfold set3 at HZ HY
      exact ⟨va, vc, _, by rw [HA.out], ⟨_, HZ⟩, by rw [HTL.out]; exact ⟨none, 0, rfl, fun h => by simp at h⟩, HY⟩
    · have hb0 : ((g.length : Int) == 0) = false := by rw [beq_eq_false_iff_ne]; exact h0
      have hrow0 := HS.out.grp
      go_enter Try.func12, Try.ntmps12
      go_wp2_with fail
      rw [HW2.out]
      refine HC.out.mono ?_
      rintro e w1 ⟨va, vc, rv, rfl, ho, hb⟩
      have HBX := hideG (HS.out.box.call hb)
      have HG1 := hideG ((HS.out.grp).below hb)
      have HT := hideG (show ClT w W2 (w1.alloc (.cells #[.slice va g.length vc, .int .i64 (1), .bool n] 26)) (.slice va g.length vc) (1) n w1.heap.size g rv from
        ⟨Box3.new _ _ _ _ _, (HS.out.res.call hb).alloc _, ho.alloc _, (HS.out.bel.trans (hb.mono HS.out.bel.size)).alloc (HS.out.bel.trans (hb.mono HS.out.bel.size)).size _, by have := HS.out.size; omega, hb.size⟩)
      clear c0 c1 clt ho hb
      have c0 := HBX.out.c0
      have c1 := HBX.out.c1
      have clt := HBX.out.lt
      obtain ⟨m, hm⟩ : ∃ m, g.length = m + 1 := ⟨g.length - 1, by omega⟩
      have hml : m < g.length := by omega
      obtain ⟨b, off, ra, rc, rfl, cR, hI⟩ := HGW.out.at hml
      have HBN := hideG (show b ≠ w.heap.size + 1 by have := below_of_cell cR; simp at this; omega)
      have hw : IntKind.i64.wrap ((g.length : Int) - 1) = (m : Int) := by rw [IntKind.wrap_i64]; omega
      have hm0 : (0 : Int) ≤ (m : Int) := by omega
      have hm1 : (m : Int) < (g.length : Int) := by omega
      have HTL := hideG (show toldL ⟨g, a, n⟩ = (g.getD m []).reverse by unfold toldL lastG; rw [if_neg (by show ¬ g.length = 0; omega), show (⟨g, a, n⟩ : Wt).g.length - 1 = m by show g.length - 1 = m; omega])
      have HRL := hideG (HF.out.row (j := m))
      have HCR0 := hideG cR
      have HI0 := hideG hI
      clear cR hI hm
      generalize g.getD m [] = row at *
      have hrl6 := HRL.out
      go_wp2_with fail
      obtain ⟨WA, hWA⟩ : ∃ WA, w1.alloc (.cells #[.slice va g.length vc, .int .i64 (1), .bool n] 26) = WA := ⟨_, rfl⟩
      have HCR := hideG (show WA.cell? ⟨b, off + m, none⟩ = some (.slice ra row.length rc) by rw [← hWA]; exact cell_below HT.out.bel HCR0.out)
      have HI := hideG (show IntsAt WA (.slice ra row.length rc) row by rw [← hWA]; exact HI0.out.below HT.out.bel)
      have HBA := hideG (show Box3 WA w.heap.size (.slice (some ⟨b, off, none⟩) g.length gc) (.int .i64 a) (.bool n) by rw [← hWA]; exact HBX.out.alloc _)
      rw [hWA] at HT ⊢
      clear hWA c0 c1 clt
      refine wp_region_inv (fun l ac U => ∃ z : Nat → Value, ac = { tmps := #[Value.agg #[Value.slice (some ⟨b, off, none⟩) g.length gc, Value.int IntKind.i64 a, Value.bool n], Value.pointer (some { block := w.heap.size, off := 0 }), Value.pointer (some { block := w.heap.size + 1, off := 0 }), z 11, Value.pointer (some { block := w1.heap.size, off := 0 }), Value.agg #[Value.slice (some ⟨b, off, none⟩) g.length gc, Value.int IntKind.i64 a, Value.bool n], Value.agg #[Value.slice va g.length vc, Value.int IntKind.i64 a, Value.bool n], Value.pointer (some { block := w.heap.size, off := 1 }), Value.int IntKind.i64 a, Value.int IntKind.i64 2, Value.int IntKind.i64 1, Value.pointer (some { block := w1.heap.size, off := 1 }), Value.pointer (some { block := w.heap.size, off := 0 }), Value.slice (some ⟨b, off, none⟩) g.length gc, Value.int IntKind.i64 ((g.length : Nat) : Int), Value.bool false, undef, z 0, z 1, z 2, z 3, z 4, z 5, z 6, z 7, z 8, z 9], defers := [] } ∧ Hid (TabZ 12 (PureP [.agg #[.slice va g.length vc, .int .i64 (1), .bool n], .pointer (some ⟨w.heap.size, 0, none⟩), .slice (some ⟨b, off, none⟩) g.length gc, .pointer (some ⟨w.heap.size, 0, none⟩), .slice (some ⟨b, off, none⟩) g.length gc, .int .i64 ((g.length : Nat) : Int), .int .i64 ((m : Nat) : Int), .pointer (some ⟨b, off + m, none⟩), .slice ra row.length rc, undef, undef, undef] [true, true, true, true, true, true, true, true, true, false, false, false]) l z U) ∧ Hid ((l.getD 9 true = false ∧ l.getD 10 true = false ∧ l.getD 11 true = false ∧ (Below WA.heap.size WA U)) ∨ (l.getD 9 true = true ∧ l.getD 10 true = false ∧ l.getD 11 true = false ∧ (∃ (la : Option Addr) (lc : Nat), (z 9) = .slice la row.length lc ∧ U.ownsRow W2.heap.size 3 1 (.slice la row.length lc) row.reverse.length (intCells row.reverse) ∧ Below WA.heap.size WA U)) ∨ (l.getD 9 true = true ∧ l.getD 10 true = true ∧ l.getD 11 true = false ∧ (∃ (la : Option Addr) (lc : Nat) (U1 : World), (z 9) = .slice la row.length lc ∧ U.ownsRow W2.heap.size 3 1 (.slice la row.length lc) row.reverse.length (intCells row.reverse) ∧ U = set3 U1 (w.heap.size + 1) (.slice va g.length vc) (.int .i64 (1)) (.bool n) ∧ ClT w W2 U1 (.slice va g.length vc) (1) n w1.heap.size g rv ∧ Below WA.heap.size WA U1)) ∨ (l.getD 9 true = true ∧ l.getD 10 true = true ∧ l.getD 11 true = true ∧ (∃ (la : Option Addr) (lc : Nat) (U1 : World), (z 11) = .slice la row.length lc ∧ U.ownsRow W2.heap.size 3 1 (.slice la row.length lc) row.reverse.length (intCells row.reverse) ∧ U = set3 U1 (w.heap.size + 1) (.slice va g.length vc) (.int .i64 (1)) (.bool n) ∧ ClT w W2 U1 (.slice va g.length vc) (1) n w1.heap.size g rv ∧ Below WA.heap.size WA U1)))) (by kernel_rfl) (by kernel_rfl) ?_ ?_ ?_
      · exact ⟨fun k => ([undef, undef, undef, undef, undef, undef, undef, undef, undef, undef, undef, Value.slice none 0 0] : List Value).getD k undef, rfl, hideG TabZ.start, hideG (.inl ⟨rfl, rfl, rfl, ((Below.refl _ _).drew)⟩)⟩
      · intro i l ac U hi hInv
        obtain ⟨z, ha, hz, hst⟩ := hInv
        subst ha
        obtain ⟨hun, o, ho, _⟩ := mem_ready.mp hi
        have hlt8 := (Array.getElem?_eq_some_iff.mp ho).1
        clear ho
        simp only [List.size_toArray, List.length_cons, List.length_nil, Nat.reduceAdd] at hlt8
        obtain rfl | rfl | rfl | rfl | rfl | rfl | rfl | rfl | rfl | rfl | rfl | rfl : i = 0 ∨ i = 1 ∨ i = 2 ∨ i = 3 ∨ i = 4 ∨ i = 5 ∨ i = 6 ∨ i = 7 ∨ i = 8 ∨ i = 9 ∨ i = 10 ∨ i = 11 := by omega
        · have hk : ∀ (b' o' : Nat) (u : Value), b' ≠ w.heap.size + 1 → WA.cell? ⟨b', o', none⟩ = some u → U.cell? ⟨b', o', none⟩ = some u := by
            intro b' o' u hne hu
            rcases hst.out with ⟨_, _, _, h⟩ | ⟨_, _, _, la, lc, _, _, h⟩ | ⟨_, _, _, la, lc, U1, _, _, rfl, _, h⟩ | ⟨_, _, _, la, lc, U1, _, _, rfl, _, h⟩
            · exact cell_below h hu
            · exact cell_below h hu
            · exact (set3_cell hne).trans (cell_below h hu)
            · exact (set3_cell hne).trans (cell_below h hu)
          have c0 := hk _ _ _ (by have h1 := HT.out.le; have h2 := HT.out.hX; omega) HT.out.box.c0
          have c1 := hk _ _ _ (by have h1 := HT.out.le; have h2 := HT.out.hX; omega) HT.out.box.c1
          have c2 := hk _ _ _ (by have h1 := HT.out.le; have h2 := HT.out.hX; omega) HT.out.box.c2
          have hltx := below_of_cell c0
          refine inv_step (by rfl) (fun K hK => ?_)
          go_simp
          refine hK.out _ _ ⟨upZ z 0 (.agg #[.slice va g.length vc, .int .i64 (1), .bool n]), rfl, hideG (TabZ.step hz.out rfl), hideG ?_⟩
          have HST := hst.out
          clear hst hz hi hK
          simp only [flag_ne (show 0 ≠ 9 from by decide), flag_ne (show 0 ≠ 10 from by decide), flag_ne (show 0 ≠ 11 from by decide)]
          have EZ : upZ z 0 (.agg #[.slice va g.length vc, .int .i64 (1), .bool n]) 9 = z 9 ∧ upZ z 0 (.agg #[.slice va g.length vc, .int .i64 (1), .bool n]) 10 = z 10 ∧ upZ z 0 (.agg #[.slice va g.length vc, .int .i64 (1), .bool n]) 11 = z 11 := ⟨by simp [upZ], by simp [upZ], by simp [upZ]⟩
          obtain ⟨E9, E10, E11⟩ := EZ
          try rw [E9]
          try rw [E10]
          try rw [E11]
          exact HST
        · refine inv_step (by rfl) (fun K hK => ?_)
          go_simp
          refine hK.out _ _ ⟨upZ z 1 (.pointer (some ⟨w.heap.size, 0, none⟩)), rfl, hideG (TabZ.step hz.out rfl), hideG ?_⟩
          have HST := hst.out
          clear hst hz hi hK
          simp only [flag_ne (show 1 ≠ 9 from by decide), flag_ne (show 1 ≠ 10 from by decide), flag_ne (show 1 ≠ 11 from by decide)]
          have EZ : upZ z 1 (.pointer (some ⟨w.heap.size, 0, none⟩)) 9 = z 9 ∧ upZ z 1 (.pointer (some ⟨w.heap.size, 0, none⟩)) 10 = z 10 ∧ upZ z 1 (.pointer (some ⟨w.heap.size, 0, none⟩)) 11 = z 11 := ⟨by simp [upZ], by simp [upZ], by simp [upZ]⟩
          obtain ⟨E9, E10, E11⟩ := EZ
          try rw [E9]
          try rw [E10]
          try rw [E11]
          exact HST
        · have e1 : z 1 = .pointer (some ⟨w.heap.size, 0, none⟩) := hz.out 1 (by decide) (dep_of hi (d := 1) (by kernel_rfl))
          have hk : ∀ (b' o' : Nat) (u : Value), b' ≠ w.heap.size + 1 → WA.cell? ⟨b', o', none⟩ = some u → U.cell? ⟨b', o', none⟩ = some u := by
            intro b' o' u hne hu
            rcases hst.out with ⟨_, _, _, h⟩ | ⟨_, _, _, la, lc, _, _, h⟩ | ⟨_, _, _, la, lc, U1, _, _, rfl, _, h⟩ | ⟨_, _, _, la, lc, U1, _, _, rfl, _, h⟩
            · exact cell_below h hu
            · exact cell_below h hu
            · exact (set3_cell hne).trans (cell_below h hu)
            · exact (set3_cell hne).trans (cell_below h hu)
          have c0 := hk _ _ _ (by omega) HBA.out.c0
          have hltx := below_of_cell c0
          rw [e1]
          refine inv_step (by rfl) (fun K hK => ?_)
          go_simp
          refine hK.out _ _ ⟨upZ (upZ z 1 (.pointer (some ⟨w.heap.size, 0, none⟩))) 2 (.slice (some ⟨b, off, none⟩) g.length gc), rfl, hideG (TabZ.step (TabZ.fill hz.out e1) rfl), hideG ?_⟩
          have HST := hst.out
          clear hst hz hi hK
          simp only [flag_ne (show 2 ≠ 9 from by decide), flag_ne (show 2 ≠ 10 from by decide), flag_ne (show 2 ≠ 11 from by decide)]
          have EZ : upZ (upZ z 1 (.pointer (some ⟨w.heap.size, 0, none⟩))) 2 (.slice (some ⟨b, off, none⟩) g.length gc) 9 = z 9 ∧ upZ (upZ z 1 (.pointer (some ⟨w.heap.size, 0, none⟩))) 2 (.slice (some ⟨b, off, none⟩) g.length gc) 10 = z 10 ∧ upZ (upZ z 1 (.pointer (some ⟨w.heap.size, 0, none⟩))) 2 (.slice (some ⟨b, off, none⟩) g.length gc) 11 = z 11 := ⟨by simp [upZ], by simp [upZ], by simp [upZ]⟩
          obtain ⟨E9, E10, E11⟩ := EZ
          try rw [E9]
          try rw [E10]
          try rw [E11]
          exact HST
        · refine inv_step (by rfl) (fun K hK => ?_)
          go_simp
          refine hK.out _ _ ⟨upZ z 3 (.pointer (some ⟨w.heap.size, 0, none⟩)), rfl, hideG (TabZ.step hz.out rfl), hideG ?_⟩
          have HST := hst.out
          clear hst hz hi hK
          simp only [flag_ne (show 3 ≠ 9 from by decide), flag_ne (show 3 ≠ 10 from by decide), flag_ne (show 3 ≠ 11 from by decide)]
          have EZ : upZ z 3 (.pointer (some ⟨w.heap.size, 0, none⟩)) 9 = z 9 ∧ upZ z 3 (.pointer (some ⟨w.heap.size, 0, none⟩)) 10 = z 10 ∧ upZ z 3 (.pointer (some ⟨w.heap.size, 0, none⟩)) 11 = z 11 := ⟨by simp [upZ], by simp [upZ], by simp [upZ]⟩
          obtain ⟨E9, E10, E11⟩ := EZ
          try rw [E9]
          try rw [E10]
          try rw [E11]
          exact HST
        · have e3 : z 3 = .pointer (some ⟨w.heap.size, 0, none⟩) := hz.out 3 (by decide) (dep_of hi (d := 3) (by kernel_rfl))
          have hk : ∀ (b' o' : Nat) (u : Value), b' ≠ w.heap.size + 1 → WA.cell? ⟨b', o', none⟩ = some u → U.cell? ⟨b', o', none⟩ = some u := by
            intro b' o' u hne hu
            rcases hst.out with ⟨_, _, _, h⟩ | ⟨_, _, _, la, lc, _, _, h⟩ | ⟨_, _, _, la, lc, U1, _, _, rfl, _, h⟩ | ⟨_, _, _, la, lc, U1, _, _, rfl, _, h⟩
            · exact cell_below h hu
            · exact cell_below h hu
            · exact (set3_cell hne).trans (cell_below h hu)
            · exact (set3_cell hne).trans (cell_below h hu)
          have c0 := hk _ _ _ (by omega) HBA.out.c0
          have hltx := below_of_cell c0
          rw [e3]
          refine inv_step (by rfl) (fun K hK => ?_)
          go_simp
          refine hK.out _ _ ⟨upZ (upZ z 3 (.pointer (some ⟨w.heap.size, 0, none⟩))) 4 (.slice (some ⟨b, off, none⟩) g.length gc), rfl, hideG (TabZ.step (TabZ.fill hz.out e3) rfl), hideG ?_⟩
          have HST := hst.out
          clear hst hz hi hK
          simp only [flag_ne (show 4 ≠ 9 from by decide), flag_ne (show 4 ≠ 10 from by decide), flag_ne (show 4 ≠ 11 from by decide)]
          have EZ : upZ (upZ z 3 (.pointer (some ⟨w.heap.size, 0, none⟩))) 4 (.slice (some ⟨b, off, none⟩) g.length gc) 9 = z 9 ∧ upZ (upZ z 3 (.pointer (some ⟨w.heap.size, 0, none⟩))) 4 (.slice (some ⟨b, off, none⟩) g.length gc) 10 = z 10 ∧ upZ (upZ z 3 (.pointer (some ⟨w.heap.size, 0, none⟩))) 4 (.slice (some ⟨b, off, none⟩) g.length gc) 11 = z 11 := ⟨by simp [upZ], by simp [upZ], by simp [upZ]⟩
          obtain ⟨E9, E10, E11⟩ := EZ
          try rw [E9]
          try rw [E10]
          try rw [E11]
          exact HST
        · have e4 : z 4 = .slice (some ⟨b, off, none⟩) g.length gc := hz.out 4 (by decide) (dep_of hi (d := 4) (by kernel_rfl))
          rw [e4]
          refine inv_step (by rfl) (fun K hK => ?_)
          go_simp
          refine hK.out _ _ ⟨upZ (upZ z 4 (.slice (some ⟨b, off, none⟩) g.length gc)) 5 (.int .i64 ((g.length : Nat) : Int)), rfl, hideG (TabZ.step (TabZ.fill hz.out e4) rfl), hideG ?_⟩
          have HST := hst.out
          clear hst hz hi hK
          simp only [flag_ne (show 5 ≠ 9 from by decide), flag_ne (show 5 ≠ 10 from by decide), flag_ne (show 5 ≠ 11 from by decide)]
          have EZ : upZ (upZ z 4 (.slice (some ⟨b, off, none⟩) g.length gc)) 5 (.int .i64 ((g.length : Nat) : Int)) 9 = z 9 ∧ upZ (upZ z 4 (.slice (some ⟨b, off, none⟩) g.length gc)) 5 (.int .i64 ((g.length : Nat) : Int)) 10 = z 10 ∧ upZ (upZ z 4 (.slice (some ⟨b, off, none⟩) g.length gc)) 5 (.int .i64 ((g.length : Nat) : Int)) 11 = z 11 := ⟨by simp [upZ], by simp [upZ], by simp [upZ]⟩
          obtain ⟨E9, E10, E11⟩ := EZ
          try rw [E9]
          try rw [E10]
          try rw [E11]
          exact HST
        · have e5 : z 5 = .int .i64 ((g.length : Nat) : Int) := hz.out 5 (by decide) (dep_of hi (d := 5) (by kernel_rfl))
          rw [e5]
          refine inv_step (by rfl) (fun K hK => ?_)
          go_simp
          refine hK.out _ _ ⟨upZ (upZ z 5 (.int .i64 ((g.length : Nat) : Int))) 6 (.int .i64 ((m : Nat) : Int)), rfl, hideG (TabZ.step (TabZ.fill hz.out e5) rfl), hideG ?_⟩
          have HST := hst.out
          clear hst hz hi hK
          simp only [flag_ne (show 6 ≠ 9 from by decide), flag_ne (show 6 ≠ 10 from by decide), flag_ne (show 6 ≠ 11 from by decide)]
          have EZ : upZ (upZ z 5 (.int .i64 ((g.length : Nat) : Int))) 6 (.int .i64 ((m : Nat) : Int)) 9 = z 9 ∧ upZ (upZ z 5 (.int .i64 ((g.length : Nat) : Int))) 6 (.int .i64 ((m : Nat) : Int)) 10 = z 10 ∧ upZ (upZ z 5 (.int .i64 ((g.length : Nat) : Int))) 6 (.int .i64 ((m : Nat) : Int)) 11 = z 11 := ⟨by simp [upZ], by simp [upZ], by simp [upZ]⟩
          obtain ⟨E9, E10, E11⟩ := EZ
          try rw [E9]
          try rw [E10]
          try rw [E11]
          exact HST
        · have e2 : z 2 = .slice (some ⟨b, off, none⟩) g.length gc := hz.out 2 (by decide) (dep_of hi (d := 2) (by kernel_rfl))
          have e6 : z 6 = .int .i64 ((m : Nat) : Int) := hz.out 6 (by decide) (dep_of hi (d := 6) (by kernel_rfl))
          rw [e2, e6]
          refine inv_step (by rfl) (fun K hK => ?_)
          go_simp
          refine hK.out _ _ ⟨upZ (upZ (upZ z 2 (.slice (some ⟨b, off, none⟩) g.length gc)) 6 (.int .i64 ((m : Nat) : Int))) 7 (.pointer (some ⟨b, off + m, none⟩)), rfl, hideG (TabZ.step (TabZ.fill (TabZ.fill hz.out e2) e6) rfl), hideG ?_⟩
          have HST := hst.out
          clear hst hz hi hK
          simp only [flag_ne (show 7 ≠ 9 from by decide), flag_ne (show 7 ≠ 10 from by decide), flag_ne (show 7 ≠ 11 from by decide)]
          have EZ : upZ (upZ (upZ z 2 (.slice (some ⟨b, off, none⟩) g.length gc)) 6 (.int .i64 ((m : Nat) : Int))) 7 (.pointer (some ⟨b, off + m, none⟩)) 9 = z 9 ∧ upZ (upZ (upZ z 2 (.slice (some ⟨b, off, none⟩) g.length gc)) 6 (.int .i64 ((m : Nat) : Int))) 7 (.pointer (some ⟨b, off + m, none⟩)) 10 = z 10 ∧ upZ (upZ (upZ z 2 (.slice (some ⟨b, off, none⟩) g.length gc)) 6 (.int .i64 ((m : Nat) : Int))) 7 (.pointer (some ⟨b, off + m, none⟩)) 11 = z 11 := ⟨by simp [upZ], by simp [upZ], by simp [upZ]⟩
          obtain ⟨E9, E10, E11⟩ := EZ
          try rw [E9]
          try rw [E10]
          try rw [E11]
          exact HST
        · have e7 : z 7 = .pointer (some ⟨b, off + m, none⟩) := hz.out 7 (by decide) (dep_of hi (d := 7) (by kernel_rfl))
          have hk : ∀ (b' o' : Nat) (u : Value), b' ≠ w.heap.size + 1 → WA.cell? ⟨b', o', none⟩ = some u → U.cell? ⟨b', o', none⟩ = some u := by
            intro b' o' u hne hu
            rcases hst.out with ⟨_, _, _, h⟩ | ⟨_, _, _, la, lc, _, _, h⟩ | ⟨_, _, _, la, lc, U1, _, _, rfl, _, h⟩ | ⟨_, _, _, la, lc, U1, _, _, rfl, _, h⟩
            · exact cell_below h hu
            · exact cell_below h hu
            · exact (set3_cell hne).trans (cell_below h hu)
            · exact (set3_cell hne).trans (cell_below h hu)
          have cr := hk _ _ _ HBN.out HCR.out
          have hltr := below_of_cell cr
          rw [e7]
          refine inv_step (by rfl) (fun K hK => ?_)
          go_simp
          refine hK.out _ _ ⟨upZ (upZ z 7 (.pointer (some ⟨b, off + m, none⟩))) 8 (.slice ra row.length rc), rfl, hideG (TabZ.step (TabZ.fill hz.out e7) rfl), hideG ?_⟩
          have HST := hst.out
          clear hst hz hi hK
          simp only [flag_ne (show 8 ≠ 9 from by decide), flag_ne (show 8 ≠ 10 from by decide), flag_ne (show 8 ≠ 11 from by decide)]
          have EZ : upZ (upZ z 7 (.pointer (some ⟨b, off + m, none⟩))) 8 (.slice ra row.length rc) 9 = z 9 ∧ upZ (upZ z 7 (.pointer (some ⟨b, off + m, none⟩))) 8 (.slice ra row.length rc) 10 = z 10 ∧ upZ (upZ z 7 (.pointer (some ⟨b, off + m, none⟩))) 8 (.slice ra row.length rc) 11 = z 11 := ⟨by simp [upZ], by simp [upZ], by simp [upZ]⟩
          obtain ⟨E9, E10, E11⟩ := EZ
          try rw [E9]
          try rw [E10]
          try rw [E11]
          exact HST
        · have e8 : z 8 = .slice ra row.length rc := hz.out 8 (by decide) (dep_of hi (d := 8) (by kernel_rfl))
          rcases hst.out with hq | hq | hq | hq
          · obtain ⟨b9, b10, b11, hS⟩ := hq
            rw [e8]
            refine inv_step (by rfl) (fun K hK => ?_)
            go_simp
            go_at_call 20
            refine Calls.mono (backward_any row (by omega) _ U (HI.out.below hS)) ?_
            rintro e w5 ⟨la, lc, rfl, hx1, hb1⟩
            go_wp2_with fail
            refine hK.out _ _ ⟨upZ (upZ z 8 (.slice ra row.length rc)) 9 (.slice la row.length lc), rfl, hideG (TabZ.step (TabZ.mono (TabZ.fill hz.out e8) (fun _ _ h => h)) trivial), hideG (.inr (.inl ⟨flag_self, flag_ne' (by decide) b10, flag_ne' (by decide) b11, ?_⟩))⟩
            exact ⟨la, lc, by simp [upZ], ownsRow_base hx1 (by have h1 := HT.out.box.lt; have h2 := HT.out.hX; have h3 := hS.size; omega), hS.trans (hb1.mono hS.size)⟩
          · exact absurd (hun.symm.trans hq.1) (by decide)
          · exact absurd (hun.symm.trans hq.1) (by decide)
          · exact absurd (hun.symm.trans hq.1) (by decide)
        · have e0 : z 0 = .agg #[.slice va g.length vc, .int .i64 (1), .bool n] := hz.out 0 (by decide) (dep_of hi (d := 0) (by kernel_rfl))
          have q9 := dep_of hi (d := 9) (by kernel_rfl)
          rcases hst.out with hq | hq | hq | hq
          · exact absurd (q9.symm.trans hq.1) (by decide)
          · obtain ⟨b9, b10, b11, hS⟩ := hq
            obtain ⟨la, lc, e9, hown, hbel⟩ := hS
            have hC := HT.out.call hbel
            have hd_0 := dep_of hi (d := 0) (by kernel_rfl)
            have r0 := hC.res.c0
            have r1 := hC.res.c1
            have r2 := hC.res.c2
            have f0 := hC.res.f0
            have f1 := hC.res.f1
            have f2 := hC.res.f2
            have hltr := hC.res.lt
            rw [e0, e9]
            refine inv_step (by rfl) (fun K hK => ?_)
            go_simp
            have hkp : (set3 U (w.heap.size + 1) (.slice va g.length vc) (.int .i64 (1)) (.bool n)).ownsRow W2.heap.size 3 1 (.slice la row.length lc) row.reverse.length (intCells row.reverse) := by
              have hne : Value.ownBlock (.slice la row.length lc) ≠ some (w.heap.size + 1) := fun e => by have h1 := (hown.lt _ e).1; have h2 := hC.le; omega
              exact ownsRow_kept_set (ownsRow_kept_set (ownsRow_kept_set hown hne) hne) hne
            refine hK.out _ _ ⟨upZ (upZ (upZ z 0 (.agg #[.slice va g.length vc, .int .i64 (1), .bool n])) 9 (.slice la row.length lc)) 10 (undef), rfl, hideG (TabZ.step (TabZ.mono (TabZ.fill (TabZ.fill hz.out e0) e9) (fun _ _ h => h)) trivial), hideG (.inr (.inr (.inl ⟨flag_ne' (by decide) b9, flag_self, flag_ne' (by decide) b11, ?_⟩)))⟩
            exact ⟨la, lc, U, by simp [upZ], hkp, rfl, hC, hbel⟩
          · exact absurd (hun.symm.trans hq.2.1) (by decide)
          · exact absurd (hun.symm.trans hq.2.1) (by decide)
        · have q9 := dep_of hi (d := 9) (by kernel_rfl)
          have q10 := dep_of hi (d := 10) (by kernel_rfl)
          rcases hst.out with hq | hq | hq | hq
          · exact absurd (q10.symm.trans hq.2.1) (by decide)
          · exact absurd (q10.symm.trans hq.2.1) (by decide)
          · obtain ⟨b9, b10, b11, hS⟩ := hq
            obtain ⟨la, lc, U1, e9, hown, rfl, hC, hbl⟩ := hS
            rw [e9]
            refine inv_step (by rfl) (fun K hK => ?_)
            go_simp
            refine hK.out _ _ ⟨upZ (upZ z 9 (.slice la row.length lc)) 11 (.slice la row.length lc), rfl, hideG (TabZ.step (TabZ.mono (TabZ.fill hz.out e9) (fun _ _ h => h)) trivial), hideG (.inr (.inr (.inr (⟨flag_ne' (by decide) b9, flag_ne' (by decide) b10, flag_self, ?_⟩))))⟩
            exact ⟨la, lc, U1, by simp [upZ], hown, rfl, hC, hbl⟩
          · exact absurd (hun.symm.trans hq.2.2.1) (by decide)
      · intro l ac U hall hInv
        obtain ⟨z, ha, hz, hst⟩ := hInv
        subst ha
        have e0 : z 0 = .agg #[.slice va g.length vc, .int .i64 (1), .bool n] := hz.out 0 (by decide) (hall 0 (by decide))
        have e1 : z 1 = .pointer (some ⟨w.heap.size, 0, none⟩) := hz.out 1 (by decide) (hall 1 (by decide))
        have e2 : z 2 = .slice (some ⟨b, off, none⟩) g.length gc := hz.out 2 (by decide) (hall 2 (by decide))
        have e3 : z 3 = .pointer (some ⟨w.heap.size, 0, none⟩) := hz.out 3 (by decide) (hall 3 (by decide))
        have e4 : z 4 = .slice (some ⟨b, off, none⟩) g.length gc := hz.out 4 (by decide) (hall 4 (by decide))
        have e5 : z 5 = .int .i64 ((g.length : Nat) : Int) := hz.out 5 (by decide) (hall 5 (by decide))
        have e6 : z 6 = .int .i64 ((m : Nat) : Int) := hz.out 6 (by decide) (hall 6 (by decide))
        have e7 : z 7 = .pointer (some ⟨b, off + m, none⟩) := hz.out 7 (by decide) (hall 7 (by decide))
        have e8 : z 8 = .slice ra row.length rc := hz.out 8 (by decide) (hall 8 (by decide))
        rcases hst.out with hq | hq | hq | hq
        · exact absurd ((hall 9 (by decide)).symm.trans hq.1) (by decide)
        · exact absurd ((hall 10 (by decide)).symm.trans hq.2.1) (by decide)
        · exact absurd ((hall 11 (by decide)).symm.trans hq.2.2.1) (by decide)
        · obtain ⟨_, _, _, hS⟩ := hq
          clear hz hall hst
          rw [e0, e1, e2, e3, e4, e5, e6, e7, e8]
          obtain ⟨la, lc, U1, e11, hown, rfl, hC, _⟩ := hS
          obtain ⟨hbx, hgr, hbl⟩ := hC.fin
          rw [e11]
          have t0 := hbx.c0
          have t1 := hbx.c1
          have t2 := hbx.c2
          go_wp2_with fail
          refine bodyPost_ret (v := .tuple #[.agg #[.slice va g.length vc, .int .i64 (1), .bool n], .slice la row.length lc]) (by simp [results, Try.f12, go_sem, t0, t1, t2]) rfl ?_
          exact ⟨va, vc, _, by rw [HA.out], hgr, by rw [HTL.out]; have hh := ownsRow_ints hown; exact hh, hbl⟩
end Go.Proofs.Ytlgbiecgbdbefab
