/- WOps: Act and Drop of package watch: contracts. -/
import Derived.Test.YtlgbiecgbdbefabWCop
import Derived.Test.YtlgbiecgbdbefabWSm
import Derived.Test.YtlgbiecgbdbefabWBack
namespace Go.Proofs.Ytlgbiecgbdbefab
open Go.RowKit

/-- The two boxes that a method of package watch begins with. -/
structure Start2 (w W2 : World) (gv : Value) (a : Int) (n : Bool) (g : List (List Int)) : Prop where
  bel : Below w.heap.size w W2
  size : W2.heap.size = w.heap.size + 1 + 1
  box : Box3 W2 w.heap.size gv (.int .i64 a) (.bool n)
  res : Box3 W2 (w.heap.size + 1) (.slice none 0 0) (.int .i64 0) (.bool false)
  grp : GrpsAt W2 gv g
theorem Start2.mk' (w : World) (gv : Value) (a : Int) (n : Bool) (g : List (List Int)) (hG : GrpsAt w gv g) :
    Start2 w ((w.alloc (.cells #[gv, .int .i64 a, .bool n] 26)).alloc (.cells #[.slice none 0 0, .int .i64 0, .bool false] 26)) gv a n g := by
  have hb : Below w.heap.size w ((w.alloc (.cells #[gv, .int .i64 a, .bool n] 26)).alloc (.cells #[.slice none 0 0, .int .i64 0, .bool false] 26)) := (alB _ _).trans ((alB _ _).mono (by simp))
  refine ⟨hb, by simp, (Box3.new _ _ _ _ _).alloc _, ?_, hG.below hb⟩
  have := Box3.new (w.alloc (.cells #[gv, .int .i64 a, .bool n] 26)) (.slice none 0 0) (.int .i64 0) (.bool false) 26
  rw [World.size_alloc] at this
  exact this
set_option maxRecDepth 100000 in
set_option maxHeartbeats 4000000 in
theorem act_any (g : List (List Int)) (hf : fewG g 1000) (gv : Value) (a : Int) (n : Bool) (w : World) (hG : GrpsAt w gv g) (ha : -9223372036854775808 ≤ a) :
    Calls Try.prog 10 #[.agg #[gv, .int .i64 a, .bool n]] w fun e w' => ∃ va vc, e = .returned (.agg #[.slice va g.length vc, .int .i64 (if n && decide (a < 1000) then a + 1 else a), .bool false]) ∧ OwnX w' w.heap.size (.slice va g.length vc) g ∧ Below w.heap.size w w' := by
  obtain ⟨ga, gc, rfl⟩ := hG.shape
  have hS := Start2.mk' w _ a n g hG
  obtain ⟨W2, hW2⟩ : ∃ W2, (w.alloc (.cells #[.slice ga g.length gc, .int .i64 a, .bool n] 26)).alloc (.cells #[.slice none 0 0, .int .i64 0, .bool false] 26) = W2 := ⟨_, rfl⟩
  rw [hW2] at hS
  have HS := hideG hS
  have HF := hideG hf
  have HW2 := hideG hW2
  clear hW2 hG hS hf
  have c0 := HS.out.box.c0
  have c1 := HS.out.box.c1
  have c2 := HS.out.box.c2
  have clt := HS.out.box.lt
  have HC := hideG (copied_any g HF.out _ a n W2 HS.out.grp)
  cases n
  · go_enter Try.func10, Try.ntmps10
    go_wp2_with fail
    rw [HW2.out]
    refine HC.out.mono ?_
    rintro e w1 ⟨va, vc, rv, rfl, ho, hb⟩
    have HO := hideG ho
    have HBB := hideG (HS.out.bel.trans (hb.mono HS.out.bel.size))
    have HBX := hideG (HS.out.box.call hb)
    have HRX := hideG (HS.out.res.call hb)
    clear ho hb c0 c1 c2 clt
    have c0 := HBX.out.c0
    have c1 := HBX.out.c1
    have c2 := HBX.out.c2
    have clt := HBX.out.lt
    have r0 := HRX.out.c0
    have r1 := HRX.out.c1
    have r2 := HRX.out.c2
    have f0 := HRX.out.f0
    have f1 := HRX.out.f1
    have f2 := HRX.out.f2
    have rlt := HRX.out.lt
    go_wp2_with fail
    have HT := (HRX.out.set (.slice va g.length vc) (.int .i64 a) (.bool false)).alloc (.cells #[.slice va g.length vc, .int .i64 a, .bool false] 26)
    unfold set3 at HT
    obtain ⟨t0, t1, t2, _, _, _⟩ := HT
    refine bodyPost_ret (v := .agg #[.slice va g.length vc, .int .i64 a, .bool false]) (by simp [results, Try.f10, go_sem, t0, t1, t2]) rfl ?_
    have HZ := ((HO.out.set3 (HO.out.off_lt (X := w.heap.size + 1) (by have := HS.out.size; omega)) (.slice va g.length vc) (.int .i64 a) (.bool false)).alloc (.cells #[.slice va g.length vc, .int .i64 a, .bool false] 26)).rebase (base' := w.heap.size) (by have := HS.out.size; omega)
    have HY := (set3_below (x := .slice va g.length vc) (y := .int .i64 a) (z := .bool false) (R := w.heap.size + 1) HBB.out (by omega)).alloc (Nat.le_trans HBB.out.size (Nat.le_of_eq (set3_size _ _ _ _ _).symm)) (.cells #[.slice va g.length vc, .int .i64 a, .bool false] 26)
    unfold set3 at HZ HY
    exact ⟨va, vc, rfl, ⟨_, HZ⟩, HY⟩
  · cases hlt : decide (a < 1000)
    · go_enter Try.func10, Try.ntmps10
      go_wp2_with fail
      rw [HW2.out]
      refine HC.out.mono ?_
      rintro e w1 ⟨va, vc, rv, rfl, ho, hb⟩
      have HO := hideG ho
      have HBB := hideG (HS.out.bel.trans (hb.mono HS.out.bel.size))
      have HBX := hideG (HS.out.box.call hb)
      have HRX := hideG (HS.out.res.call hb)
      clear ho hb c0 c1 c2 clt
      have c0 := HBX.out.c0
      have c1 := HBX.out.c1
      have c2 := HBX.out.c2
      have clt := HBX.out.lt
      have r0 := HRX.out.c0
      have r1 := HRX.out.c1
      have r2 := HRX.out.c2
      have f0 := HRX.out.f0
      have f1 := HRX.out.f1
      have f2 := HRX.out.f2
      have rlt := HRX.out.lt
      go_wp2_with fail
      have HT := (HRX.out.set (.slice va g.length vc) (.int .i64 a) (.bool false)).alloc (.cells #[.slice va g.length vc, .int .i64 a, .bool false] 26)
      unfold set3 at HT
      obtain ⟨t0, t1, t2, _, _, _⟩ := HT
      refine bodyPost_ret (v := .agg #[.slice va g.length vc, .int .i64 a, .bool false]) (by simp [results, Try.f10, go_sem, t0, t1, t2]) rfl ?_
      have HZ := ((HO.out.set3 (HO.out.off_lt (X := w.heap.size + 1) (by have := HS.out.size; omega)) (.slice va g.length vc) (.int .i64 a) (.bool false)).alloc (.cells #[.slice va g.length vc, .int .i64 a, .bool false] 26)).rebase (base' := w.heap.size) (by have := HS.out.size; omega)
      have HY := (set3_below (x := .slice va g.length vc) (y := .int .i64 a) (z := .bool false) (R := w.heap.size + 1) HBB.out (by omega)).alloc (Nat.le_trans HBB.out.size (Nat.le_of_eq (set3_size _ _ _ _ _).symm)) (.cells #[.slice va g.length vc, .int .i64 a, .bool false] 26)
      unfold set3 at HZ HY
      exact ⟨va, vc, rfl, ⟨_, HZ⟩, HY⟩
    · go_enter Try.func10, Try.ntmps10
      go_wp2_with fail
      rw [HW2.out]
      refine HC.out.mono ?_
      rintro e w1 ⟨va, vc, rv, rfl, ho, hb⟩
      have HO := hideG ho
      have HBB := hideG (HS.out.bel.trans (hb.mono HS.out.bel.size))
      have HBX := hideG (HS.out.box.call hb)
      have HRX := hideG (HS.out.res.call hb)
      clear ho hb c0 c1 c2 clt
      have c0 := HBX.out.c0
      have c1 := HBX.out.c1
      have c2 := HBX.out.c2
      have clt := HBX.out.lt
      have r0 := HRX.out.c0
      have r1 := HRX.out.c1
      have r2 := HRX.out.c2
      have f0 := HRX.out.f0
      have f1 := HRX.out.f1
      have f2 := HRX.out.f2
      have rlt := HRX.out.lt
      have hwr : IntKind.i64.wrap (a + 1) = a + 1 := by rw [IntKind.wrap_i64]; have := of_decide_eq_true hlt; omega
      go_wp2_with fail
      have HT := (HRX.out.set (.slice va g.length vc) (.int .i64 (a + 1)) (.bool false)).alloc (.cells #[.slice va g.length vc, .int .i64 (a + 1), .bool false] 26)
      unfold set3 at HT
      obtain ⟨t0, t1, t2, _, _, _⟩ := HT
      refine bodyPost_ret (v := .agg #[.slice va g.length vc, .int .i64 (a + 1), .bool false]) (by simp [results, Try.f10, go_sem, t0, t1, t2]) rfl ?_
      have HZ := ((HO.out.set3 (HO.out.off_lt (X := w.heap.size + 1) (by have := HS.out.size; omega)) (.slice va g.length vc) (.int .i64 (a + 1)) (.bool false)).alloc (.cells #[.slice va g.length vc, .int .i64 (a + 1), .bool false] 26)).rebase (base' := w.heap.size) (by have := HS.out.size; omega)
      have HY := (set3_below (x := .slice va g.length vc) (y := .int .i64 (a + 1)) (z := .bool false) (R := w.heap.size + 1) HBB.out (by omega)).alloc (Nat.le_trans HBB.out.size (Nat.le_of_eq (set3_size _ _ _ _ _).symm)) (.cells #[.slice va g.length vc, .int .i64 (a + 1), .bool false] 26)
      unfold set3 at HZ HY
      exact ⟨va, vc, rfl, ⟨_, HZ⟩, HY⟩

theorem CpT.pushG {w wr w1 w4 : World} {a : Int} {n : Bool} {va : Option Addr} {vc : Nat} {G : List (List Int)} {l : List Int} {rv : Nat → Value} {x1 v4 : Value} {o : Obj} (h : CpT w wr a n (.slice va G.length vc) (.slice va G.length vc) G rv)
    (hx : w1.ownsRow wr.heap.size 3 1 x1 l.length (intCells l)) (hb : Below wr.heap.size wr w1) (ho : w4.ownsRow (w.heap.size + 3) 22 1 v4 (G.length + 1) ((List.range G.length).map rv ++ [x1]))
    (hg : (w1.alloc o).grownBy w4 (Value.ownBlock (.slice va G.length vc))) (hf : ∀ j, v4.ownBlock = some j → Value.ownBlock (.slice va G.length vc) = some j ∨ (w1.alloc o).heap.size ≤ j) : CpT w w4 a n (.slice va G.length vc) v4 (G ++ [l]) (updv rv G.length x1) := by
  have hsz := h.box.lt
  have hp := h.own.push (l := l) (x1 := x1) (v' := v4) (w2 := w4) (o := o) (by omega) hx hb ho hg hf
  have ne : ∀ X, X < w.heap.size + 3 → some X ≠ Value.ownBlock (.slice va G.length vc) := fun X hX e => by have := (h.own.row.lt X e.symm).1; omega
  refine ⟨((h.box.call hb).alloc o).grown hg (ne _ (by omega)), ((h.res.call hb).alloc o).grown hg (ne _ (by omega)), hp, ?_⟩
  have hb1 := h.bel.trans (hb.mono h.bel.size)
  exact (hb1.alloc hb1.size o).grown hg (by have := hb1.size; simp; omega) (fun j e => by have := (h.own.row.lt j e).1; omega)
theorem CpT.call {w wr w1 : World} {a : Int} {n : Bool} {bv v : Value} {G : List (List Int)} {rv : Nat → Value} (h : CpT w wr a n bv v G rv) (hb : Below wr.heap.size wr w1) : CpT w w1 a n bv v G rv :=
  ⟨h.box.call hb, h.res.call hb, h.own.call hb, h.bel.trans (hb.mono h.bel.size)⟩
theorem dropG_snoc {g : List (List Int)} {k : Nat} {x : Int} (h : k < g.length) : dropG (g.take (k + 1)) x = dropG (g.take k) x ++ (if 0 < (woL x (g.getD k [])).length then [woL x (g.getD k [])] else []) := by
  unfold dropG
  rw [take_snoc (d := []) h, List.map_append, List.filter_append]
  congr 1
  by_cases h0 : 0 < (woL x (g.getD k [])).length
  · rw [if_pos h0]; simp only [List.map_cons, List.map_nil, List.filter_cons, h0, decide_true, if_true, List.filter_nil]
  · rw [if_neg h0]; simp only [List.map_cons, List.map_nil, List.filter_cons, h0, decide_false, Bool.false_eq_true, if_false, List.filter_nil]
set_option maxRecDepth 100000 in
set_option maxHeartbeats 4000000 in
theorem drop_any (g : List (List Int)) (hf : fewG g 1000) (gv : Value) (a : Int) (n : Bool) (x : Int) (w : World) (hG : GrpsAt w gv g) :
    Calls Try.prog 14 #[.agg #[gv, .int .i64 a, .bool n], .int .i64 x] w fun e w' => ∃ va vc, e = .returned (.agg #[.slice va (dropG g x).length vc, .int .i64 a, .bool n]) ∧ OwnX w' w.heap.size (.slice va (dropG g x).length vc) (dropG g x) ∧ Below w.heap.size w w' := by
  obtain ⟨i22, hi22, hz220, hz221, hz222⟩ := info_parts infoT22
  obtain ⟨ga, gc, rfl⟩ := hG.shape
  obtain ⟨W3, hW3⟩ : ∃ W3, ((w.alloc (.cells #[.slice ga g.length gc, .int .i64 a, .bool n] 26)).alloc (.cells #[.slice none 0 0, .int .i64 0, .bool false] 26)).alloc (.cells #[.slice none 0 0, .int .i64 a, .bool n] 26) = W3 := ⟨_, rfl⟩
  have HST := Start2.mk' w _ a n g hG
  have HC0 := hideG (show CpT w W3 a n (.slice none 0 0) (.slice none 0 0) [] (fun _ => undef) by
    rw [← hW3]
    refine ⟨?_, HST.res.alloc _, OwnG.nil _ _ _, HST.bel.alloc HST.bel.size _⟩
    have := Box3.new ((w.alloc (.cells #[.slice ga g.length gc, .int .i64 a, .bool n] 26)).alloc (.cells #[.slice none 0 0, .int .i64 0, .bool false] 26)) (.slice none 0 0) (.int .i64 a) (.bool n) 26
    rw [World.size_alloc, World.size_alloc] at this
    exact this)
  have HG := hideG hG
  have HF := hideG hf
  have hl := hf.1
  have HW3 := hideG hW3
  clear hW3 hG hf HST
  go_enter Try.func14, Try.ntmps14
  go_wp2_with fail
  rw [HW3.out]
  clear HW3
  go_loopw [17] (fun i wr => ∃ (k : Nat) (va : Option Addr) (vc : Nat) (rv : Nat → Value), k ≤ g.length ∧ i = .int .i64 (k : Int) ∧ CpT w wr a n (.slice va (dropG (g.take k) x).length vc) (.slice va (dropG (g.take k) x).length vc) (dropG (g.take k) x) rv) (fun i _ => g.length - (intOf i).toNat)
  case atStart => exact ⟨0, none, 0, fun _ => undef, Nat.zero_le _, rfl, HC0.out⟩
  case round =>
    obtain ⟨k, va, vc, rv, hk, rfl, hC⟩ := hrel
    have HC := hideG hC
    clear hC
    by_cases hlt : k < g.length
    · obtain ⟨b, off, ra, rc, rfl, cR, hI⟩ := (HG.out.below HC.out.bel).at hlt
      have HI := hideG hI
      have HDS := hideG (dropG_snoc (x := x) hlt)
      have hrl : (g.getD k []).length ≤ 1000 := HF.out.row
      have hdl := (dropG_few (x := x) (g := g.take k) (m := 1000) ⟨by rw [List.length_take]; omega, fun l hl => HF.out.2 l (List.mem_of_mem_take hl)⟩).1
      generalize g.getD k [] = row at *
      generalize dropG (g.take k) x = G at *
      clear hI
      have c0 := HC.out.box.c0
      have f0 := HC.out.box.f0
      have clt := HC.out.box.lt
      go_wp2_with fail
      refine (without_any row x _ wr HI.out (by omega)).mono ?_
      rintro e w1 ⟨xa, xc, rfl, hx, hb⟩
      have HX := hideG hx
      have HB1 := hideG hb
      have HC1 := hideG (HC.out.call hb)
      clear hx hb c0 f0 clt
      have c0 := HC1.out.box.c0
      have f0 := HC1.out.box.f0
      have clt := HC1.out.box.lt
      have hwl := woL_length x row
      have HWL := hideG (rfl : woL x row = woL x row)
      generalize woL x row = row' at *
      by_cases h0 : (0 : Int) < (row'.length : Int)
      · have HE := hideG (show dropG (g.take (k + 1)) x = G ++ [row'] by rw [HDS.out, if_pos (by omega)])
        go_wp2_with (at_builtin; refine wpList_append_any rfl (.tmp 28) (.tmp 30) 24 rfl (w.heap.size + 3) 22 i22 _ 1 24 Try.underlying24 hi22 hz220 hz221 hz222 rfl (by decide) _ G.length ((List.range G.length).map rv) rfl (HC1.out.own.alloc _).row _ 1 [.slice xa row'.length xc] rfl (row_newV w1 _ 22) rfl ?h2 ?h3 ?h4 ?h5 ?_)
        case h2 => intro y hy; simp at hy; subst hy; rfl
        case h3 => simp only [maxLen]; omega
        case h4 => omega
        case h5 => simp; omega
        intro v4 w4 ho4 hg4 hf4
        obtain ⟨a4, c4, rfl⟩ := ownsRow_shape ho4
        have HQ := hideG (HC.out.pushG HX.out HB1.out ho4 hg4 (fun j hj => by simpa using hf4 j hj))
        have HLE := hideG (show (G ++ [row']).length = G.length + 1 by simp)
        clear ho4 hg4 hf4 c0 f0 clt
        have c0 := HQ.out.box.c0
        have f0 := HQ.out.box.f0
        have clt := HQ.out.box.lt
        go_wp2_with fail
        go_roundw
        case rel => exact ⟨k + 1, a4, c4, _, by omega, by go_num, by rw [HE.out, HLE.out]; exact HQ.out.store⟩
        case measure => simp [intOf]; omega
      · have HE := hideG (show dropG (g.take (k + 1)) x = G by rw [HDS.out, if_neg (by omega), List.append_nil])
        go_wp2_with fail
        go_roundw
        case rel => exact ⟨k + 1, va, vc, rv, by omega, by go_num, by rw [HE.out]; exact HC1.out⟩
        case measure => simp [intOf]; omega
    · have hke : k = g.length := by omega
      subst hke
      have hte : g.take g.length = g := List.take_length
      rw [hte] at HC
      have c0 := HC.out.box.c0
      have c1 := HC.out.box.c1
      have c2 := HC.out.box.c2
      have r0 := HC.out.res.c0
      have r1 := HC.out.res.c1
      have r2 := HC.out.res.c2
      have f0 := HC.out.res.f0
      have f1 := HC.out.res.f1
      have f2 := HC.out.res.f2
      go_wp2_with fail
      have HB9 := HC.out.res.set (.slice va (dropG g x).length vc) (.int .i64 a) (.bool n)
      unfold set3 at HB9
      obtain ⟨t0, t1, t2, _, _, _⟩ := HB9
      refine bodyPost_ret (v := .agg #[.slice va (dropG g x).length vc, .int .i64 a, .bool n]) (by simp [results, Try.f14, go_sem, t0, t1, t2]) rfl ?_
      have HZ := (HC.out.own.set3 (HC.out.own.off_lt (X := w.heap.size + 1) (by omega)) (.slice va (dropG g x).length vc) (.int .i64 a) (.bool n)).rebase (base' := w.heap.size) (by omega)
      have HY := set3_below (x := .slice va (dropG g x).length vc) (y := .int .i64 a) (z := .bool n) (R := w.heap.size + 1) HC.out.bel (by omega)
      unfold set3 at HZ HY
      exact ⟨va, vc, rfl, ⟨_, HZ⟩, HY⟩
end Go.Proofs.Ytlgbiecgbdbefab
