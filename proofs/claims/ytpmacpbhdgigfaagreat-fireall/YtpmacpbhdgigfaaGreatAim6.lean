/- aim.Visits. -/
import Derived.Test.YtpmacpbhdgigfaaGreatAim5
import Derived.RangeFuncNested
namespace Go.Proofs.YtpmacpbhdgigfaaGreat
open Go.RowKit Go.Shelf

attribute [local go_sem] Oper.semAt_some

def visitsI (T : List Nd) (e : Ev) : List Vi := visitsL (pathI T e) e.bub
theorem StsAt.same {w w' : World} {v : Value} {l : List St} (h : StsAt w v l) (hc : ∀ b o u, w.cell? ⟨b, o, none⟩ = some u → w'.cell? ⟨b, o, none⟩ = some u) : StsAt w' v l := by
  obtain ⟨a, cap, rfl, hd⟩ := h
  refine ⟨a, cap, rfl, hd.1, fun h0 => ?_⟩
  obtain ⟨b, off, rfl, hd'⟩ := hd.2 h0
  refine ⟨b, off, rfl, fun j hj => ?_⟩
  have hq := hd' j hj
  exact ⟨hc _ _ _ hq.node, hc _ _ _ hq.tg, hc _ _ _ hq.rel⟩
def visK (p : List St) (b : Bool) (k : Nat) : List Vi := p.reverse.map (vis true) ++ ((p.take k).map (vis false)).filter (backP b)
theorem visK_zero (p : List St) (b : Bool) : visK p b 0 = p.reverse.map (vis true) := by simp [visK]
theorem visK_all (p : List St) (b : Bool) {k : Nat} (h : p.length ≤ k) : visK p b k = visitsL p b := by unfold visK visitsL; rw [List.take_of_length_le h]
theorem visK_succ (p : List St) (b : Bool) {k : Nat} (h : k < p.length) : visK p b (k + 1) = visK p b k ++ (if backP b (vis false (p.getD k stD)) then [vis false (p.getD k stD)] else []) := by
  unfold visK
  rw [List.take_succ_eq_append_getElem h, List.map_append, List.filter_append, ← List.append_assoc, List.getD_eq_getElem?_getD, List.getElem?_eq_getElem h]
  congr 1
  cases e : backP b (vis false p[k]) <;> simp [e]
theorem visK_le (p : List St) (b : Bool) (k : Nat) : (visK p b k).length ≤ 2 * p.length := by
  unfold visK
  have h1 := List.length_filter_le (backP b) ((p.take k).map (vis false))
  have h2 : (p.take k).length ≤ p.length := by rw [List.length_take]; omega
  simp only [List.length_append, List.length_map, List.length_reverse] at h1 ⊢
  omega
theorem back_map (p : List St) (f : St → Vi) : ((List.range p.length).reverse).map (fun j => f (p.getD j stD)) = p.reverse.map f := by
  rw [List.map_reverse, List.map_reverse]
  congr 1
  apply List.ext_getElem
  · simp
  · intro i h1 h2
    have h3 : i < p.length := by simpa using h2
    simp [List.getD_eq_getElem?_getD, List.getElem?_eq_getElem h3]
theorem keeps_below {W D : World} (h : Below W.heap.size W D) : KeepsOthers W D := ⟨h.size, fun k _ hk _ => (h.block k (Array.getElem?_eq_some_iff.1 hk).1).trans hk⟩
theorem row_newV2 (w : World) (o : Obj) (t : TypeId) (s : St) (ph : Int) (c : Bool) : Holds ((w.alloc o).alloc (.cells #[.int .i64 s.node, .int .i64 s.tg, .int .i64 s.rel, .int .i64 ph, .bool c] t)) (.slice (some ⟨w.heap.size + 1, 0, none⟩) 1 1) 1 [.int .i64 s.node, .int .i64 s.tg, .int .i64 s.rel, .int .i64 ph, .bool c] := by
  have := row_newV (w.alloc o) t s.node s.tg s.rel ph c
  rw [World.size_alloc] at this
  exact this
theorem row_newV1 (w : World) (t : TypeId) (s : St) (ph : Int) (c : Bool) : Holds (w.alloc (.cells #[.int .i64 s.node, .int .i64 s.tg, .int .i64 s.rel, .int .i64 ph, .bool c] t)) (.slice (some ⟨w.heap.size, 0, none⟩) 1 1) 1 [.int .i64 s.node, .int .i64 s.tg, .int .i64 s.rel, .int .i64 ph, .bool c] := row_newV w t s.node s.tg s.rel ph c

set_option maxRecDepth 100000 in
set_option maxHeartbeats 8000000 in
theorem visits_in (T : List Nd) (hS : Sane T) (v : Value) (e : Ev) (w : World) (hT : TreeAt w v T) (h6 : T.length ≤ 1000) :
    CallsIn Fence.wide 6 Tryz.prog 124 #[v, .agg #[.int .i64 e.type, .int .i64 e.target, .int .i64 e.related, .bool e.bub, .bool e.can, .bool e.comp]] w fun x w' => ∃ a c, x = .returned (.slice a (visitsI T e).length c) ∧ w'.ownsRow w.heap.size 39 5 (.slice a (visitsI T e).length c) (visitsI T e).length (viCells (visitsI T e)) ∧ Below w.heap.size w w' := by
  obtain ⟨i0, hi0, hz0, hz1, hz2⟩ := info_parts infoVi
  obtain ⟨ta, tc, rfl⟩ := hT.shape
  have HT := hideG hT
  have HS := hideG hS
  obtain ⟨W0, hW0⟩ : ∃ W0, w.alloc (.cells #[.int .i64 e.type, .int .i64 e.target, .int .i64 e.related, .bool e.bub, .bool e.can, .bool e.comp] 25) = W0 := ⟨_, rfl⟩
  have HB0 := hideG (show Below w.heap.size w W0 by rw [← hW0]; exact (Below.refl _ w).alloc (Nat.le_refl _) _)
  have p0 : W0.cell? ⟨w.heap.size, 0, none⟩ = some (.int .i64 e.type) := by rw [← hW0]; simp
  have p1 : W0.cell? ⟨w.heap.size, 1, none⟩ = some (.int .i64 e.target) := by rw [← hW0]; simp
  have p2 : W0.cell? ⟨w.heap.size, 2, none⟩ = some (.int .i64 e.related) := by rw [← hW0]; simp
  have p3 : W0.cell? ⟨w.heap.size, 3, none⟩ = some (.bool e.bub) := by rw [← hW0]; simp
  have p4 : W0.cell? ⟨w.heap.size, 4, none⟩ = some (.bool e.can) := by rw [← hW0]; simp
  have p5 : W0.cell? ⟨w.heap.size, 5, none⟩ = some (.bool e.comp) := by rw [← hW0]; simp
  have P3 := hideG p3
  have HPL := hideG (pathI_le (T := T) e)
  have HPA := hideG (path_any T HS.out (.slice ta T.length tc) e W0 (HT.out.below HB0.out) h6)
  have HW0 := hideG hW0
  clear hT hS hW0
  refine callsIn_of_wp_marks Tryz.func124 rfl trivial ?_ rfl
  simp only [Tryz.ntmps124, List.size_toArray, List.length_cons, List.length_nil, Nat.reduceAdd, Nat.reduceSub, Array.replicate_succ, Array.replicate_zero, List.push_toArray, List.append_toArray, List.nil_append, List.cons_append]
  gi_wp2_with fail
  refine ⟨trivial, ?_⟩
  gi_at_call 167
  rw [HW0.out]
  refine CallsIn.mono (callsIn_wide.2 HPA.out) ?_
  rintro ex w1 ⟨pa, pc, rfl, ho1, hb1⟩
  have HVD := hideG (show visitsI T e = visitsL (pathI T e) e.bub from rfl)
  generalize pathI T e = p at *
  have HB1 := hideG (HB0.out.trans (hb1.mono HB0.out.size))
  have q3 := cell_below hb1 p3
  have Q3 := hideG q3
  have HST := hideG (ownsRow_stCells ho1)
  have hs1 : w.heap.size < w1.heap.size := below_of_cell q3
  have hpl : p.length ≤ 64 := HPL.out
  clear ho1 hb1 p0 p1 p2 p3 p4 p5 q3
  gi_wp2_with fail
  refine ⟨trivial, ?_⟩
  gi_at_call 168
  refine (back0_in _ _ _ _ _).mono ?_
  rintro ex w2 ⟨rfl, rfl⟩
  gi_wp2_with fail
  obtain ⟨V, hV⟩ : ∃ V, (w1.alloc (.cells #[.slice none 0 0] 131)).alloc (.cells #[.slice pa p.length pc] 158) = V := ⟨_, rfl⟩
  have d0 := cell_new_l w1 (.slice none 0 0) 131
  have d1 := cell_new_l (w1.alloc (.cells #[.slice none 0 0] 131)) (.slice pa p.length pc) 158
  simp only [World.size_alloc] at d1
  have c0 : V.cell? ⟨w1.heap.size, 0, none⟩ = some (.slice none 0 0) := by rw [← hV]; exact cell_alloc_l _ d0.1
  have f0 : V.frozen? ⟨w1.heap.size, 0, none⟩ = false := by rw [← hV]; exact frozen_alloc_l _ d0.1 d0.2
  have cP : V.cell? ⟨w1.heap.size + 1, 0, none⟩ = some (.slice pa p.length pc) := by rw [← hV]; exact d1.1
  have hsV : V.heap.size = w1.heap.size + 2 := by rw [← hV]; simp
  have hbV : Below w1.heap.size w1 V := by rw [← hV]; exact ((Below.refl _ w1).alloc (Nat.le_refl _) _).alloc (by simp) _
  rw [hV]
  clear hV d0 d1
  have HCP := hideG cP
  have HF := hideG (show ∀ W, But V.heap.size w1.heap.size V W → W.cell? ⟨w1.heap.size + 1, 0, none⟩ = some (.slice pa p.length pc) ∧ StsAt W (.slice pa p.length pc) p from fun W hW => ⟨(hW.cell (by omega) (by omega)).trans HCP.out, HST.out.same (fun b o u hc => (hW.cell (by have := below_of_cell hc; simp at this; omega) (by have := below_of_cell hc; simp at this; omega)).trans (cell_below hbV hc))⟩)
  have HSV := hideG hsV
  refine wpIn_rangeFunc_ownH rfl (by omega) (gf := 200) (lb := #[.pointer (some ⟨w1.heap.size + 1, 0, none⟩)]) rfl trivial (enters_of Tryz.func200 (by kernel_rfl) rfl)
    (back_stops p (by omega) pa pc (w1.heap.size + 1) V (But V.heap.size w1.heap.size) But.trans (fun W hW => But.of_below hW (Nat.le_refl _)) HF.out) But.trans (but_b (Nat.le_refl _)) (Below.refl _ _) (fun _ => rfl)
    (fun pre W => (∃ v, W.cell? ⟨w1.heap.size, 0, none⟩ = some v ∧ W.frozen? ⟨w1.heap.size, 0, none⟩ = false ∧ W.ownsRow (w1.heap.size + 2) 39 5 v (pre.map fun j => vis true (p.getD j stD)).length (viCells (pre.map fun j => vis true (p.getD j stD)))) ∧ Below w1.heap.size w1 W ∧ V.heap.size ≤ W.heap.size)
    (fun _ _ _ => False)
    (OwnFrom.and (Own.from (fun s A B row hs hg hr => by
      obtain ⟨v, h1, h2, h3⟩ := hs
      exact ⟨v, cell_kept h1 hg hr, (frozen_kept h1 hg hr).trans h2, ownsRow_walk h3 hg hr⟩) _) (OwnFrom.and (ownFrom_below (Nat.le_refl _) (by omega)) (fun _ _ _ _ h hg _ => Nat.le_trans h hg.size)))
    (fun c => fun s A B row hs _ _ => hs.elim)
    ⟨⟨.slice none 0 0, c0, f0, by exact World.ownsRow_nil _ _ _ _⟩, hbV, Nat.le_refl _⟩
    (fun x a' W => ∃ b, a' = { tmps := #[.slice ta T.length tc, .agg #[.int .i64 e.type, .int .i64 e.target, .int .i64 e.related, .bool e.bub, .bool e.can, .bool e.comp], undef, .pointer (some ⟨w.heap.size, 0, none⟩), .slice none 0 0, .slice pa p.length pc, .pointer (some ⟨w1.heap.size, 0, none⟩), undef, .pointer (some ⟨b, 0, none⟩), undef, undef, undef, .slice ta T.length tc, .agg #[.int .i64 e.type, .int .i64 e.target, .int .i64 e.related, .bool e.bub, .bool e.can, .bool e.comp], .slice pa p.length pc, .slice pa p.length pc, .func (.func 200) #[] #[.pointer (some ⟨w1.heap.size + 1, 0, none⟩)], .int .i64 (x : Int), .agg #[.int .i64 (p.getD x stD).node, .int .i64 (p.getD x stD).tg, .int .i64 (p.getD x stD).rel], undef, undef, undef, undef, undef, undef, undef, undef, undef, undef, undef, undef, undef, undef, undef, undef, undef, undef, undef, undef, undef, undef, undef, undef, undef, undef], defers := [] } ∧ StAt W b 0 (p.getD x stD))
    (fun x a' => Own.from (fun s A B row hs hg hr => by
      obtain ⟨b, h1, h2⟩ := hs
      exact ⟨b, h1, cell_kept h2.node hg hr, cell_kept h2.tg hg hr, cell_kept h2.rel hg hr⟩) _) ?assign ?body ?done ?stop
  case assign =>
    rintro l pre x W K ⟨⟨v, hcX, hfX, hoX⟩, hBW, hVW⟩ hK
    have HK := hideG hK
    have HCX := hideG hcX
    have HFX := hideG hfX
    have HOX := hideG hoX
    have HBW := hideG hBW
    clear hK hsV HSV HCP cP c0 f0 hbV hBW hcX hfX hoX
    simp only [backE]
    generalize p.getD x stD = s at *
    gi_wp2
    exact HK.out _ _ ((KeepsOthers.alloc W _).from _) (But.of_below ((Below.refl _ W).alloc (Nat.le_refl _) _) hVW) ⟨⟨v, cell_alloc_l _ HCX.out, frozen_alloc_l _ HCX.out HFX.out, HOX.out.alloc _⟩, HBW.out.alloc HBW.out.size _, by simp; omega⟩ ⟨W.heap.size, rfl, by simp, by simp, by simp⟩
  case body =>
    rintro l pre x a' W hl _ ⟨⟨v, hc, hf, hown⟩, hB, hVW⟩ ⟨b, rfl, hS⟩ hlen
    obtain ⟨va, vc, rfl⟩ := ownsRow_shape hown
    have HE := hideG (show (pre ++ [x]).map (fun j => vis true (p.getD j stD)) = pre.map (fun j => vis true (p.getD j stD)) ++ [vis true (p.getD x stD)] by simp)
    have hcl : (pre.map fun j => vis true (p.getD j stD)).length ≤ 100 := by rw [List.length_map]; omega
    generalize hnx : (pre ++ [x]).map (fun j => vis true (p.getD j stD)) = nxt at *
    have HNX := hideG hnx
    clear hnx
    generalize pre.map (fun j => vis true (p.getD j stD)) = cur at *
    generalize p.getD x stD = s at *
    have hD := below_drew' (Below.refl W.heap.size W)
    have HKD := hideG (KeepsOthers.drew W)
    have hX : w1.heap.size < W.heap.size := below_of_cell hc
    have c0' := cell_below hD hc
    have HC := hideG c0'
    have HFR := hideG (frozen_below hD hc hf)
    have HOW := hideG (ownsRow_below hown hD (fun j e => (hown.lt j e).2))
    have g0 := cell_below hD hS.node
    have g1 := cell_below hD hS.tg
    have g2 := cell_below hD hS.rel
    simp only [Nat.zero_add] at g1 g2
    have HB := hideG (hB.trans (hD.mono hB.size))
    have HBut := hideG (show But V.heap.size w1.heap.size W W.drew from But.of_below hD hVW)
    have hsD : W.drew.heap.size = W.heap.size := rfl
    gi_wp2_with fail
    refine wpIn_region_few (by kernel_rfl) (L := [[0, 1, 2, 3, 4, 5], [1, 0, 2, 3, 4, 5], [1, 2, 0, 3, 4, 5], [1, 2, 3, 0, 4, 5]]) (by kernel_rfl) ?_
    have hVD : V.heap.size ≤ W.drew.heap.size := hVW
    clear hc hf hown hS hD hB c0 f0 cP hbV
    generalize W.drew = D at *
    intro o ho
    simp only [List.mem_cons, List.not_mem_nil, or_false] at ho
    rcases ho with rfl | rfl | rfl | rfl
    all_goals
      refine wpListIn_eq (l' := _ :: _ :: _ :: _ :: _ :: _ :: []) rfl ?_
      clear hsD
      gi_wp2_with fail
      refine ⟨trivial, ?_⟩
      gi_at_call 169
      refine CallsIn.mono (CallsIn.inRound l (callsIn_wide.2 (visit_any s true _))) ?_
      rintro ex D1 ⟨rfl, hb1⟩
      have c1' := cell_below hb1 HC.out
      have hX1 : w1.heap.size < D1.heap.size := below_of_cell c1'
      have HC1 := hideG c1'
      have HF1 := hideG (frozen_below hb1 HC.out HFR.out)
      have HO1 := hideG (ownsRow_below HOW.out hb1 (fun j e => (HOW.out.lt j e).2))
      have HK1 := hideG (HKD.out.trans (keeps_below hb1))
      have HB1' := hideG (HB.out.trans (hb1.mono HB.out.size))
      have HBu1 := hideG (HBut.out.trans (But.of_below hb1 hVD))
      have hVD1 : V.heap.size ≤ D1.heap.size := Nat.le_trans hVD hb1.size
      clear hb1 c0' g0 g1 g2
      gi_wp2_with (refine wpListIn_append_any rfl (.tmp 19) (.tmp 22) 131 rfl (w1.heap.size + 2) 39 i0 _ 5 40 Tryz.underlying131 hi0 hz0 hz1 hz2 rfl (by decide) _ cur.length (viCells cur) rfl (HO1.out.alloc _) _ 1 [.int .i64 s.node, .int .i64 s.tg, .int .i64 s.rel, .int .i64 (vis true s).phase, .bool true] rfl (row_newV1 _ _ s (vis true s).phase true) rfl ?h2 ?h3 ?h4 ?h5 ?_)
      case h2 => intro u hu; simp at hu; rcases hu with rfl | rfl | rfl | rfl | rfl <;> rfl
      case h3 => simp only [maxLen]; omega
      case h4 => omega
      case h5 => have h7 := HSV.out; simp; omega
      intro v4 w4 ho4 hg4 hf4
      obtain ⟨a4, c4, rfl⟩ := ownsRow_shape ho4
      have ec : viCells cur ++ [.int .i64 s.node, .int .i64 s.tg, .int .i64 s.rel, .int .i64 (vis true s).phase, .bool true] = viCells (cur ++ [vis true s]) := by rw [viCells_append]; rfl
      rw [ec, ← HE.out] at ho4
      have hne0 : ∀ j, j < w1.heap.size + 1 → some j ≠ Value.ownBlock (.slice va cur.length vc) := fun j hj e => by have := (HO1.out.lt _ e.symm).1; omega
      have hkk : ∀ j, j < w1.heap.size + 1 → w4.heap[j]? = D1.heap[j]? := fun j hj => (hg4.block j (by simp; omega) (hne0 j hj)).trans (((Below.refl D1.heap.size D1).alloc (Nat.le_refl _) _).block j (by omega))
      have hc4 : w4.cell? ⟨w1.heap.size, 0, none⟩ = some (.slice va cur.length vc) := (World.cell?_of_block (a := ⟨w1.heap.size, 0, none⟩) (hkk w1.heap.size (by omega))).trans HC1.out
      have hf4' : w4.frozen? ⟨w1.heap.size, 0, none⟩ = false := (World.frozen?_of_block (a := ⟨w1.heap.size, 0, none⟩) (hkk w1.heap.size (by omega))).trans HF1.out
      have HO4 := hideG ho4
      have HK4 := hideG ((HK1.out.trans (KeepsOthers.alloc D1 _)).trans (KeepsOthers.of_grownBy hg4 (fun j o e ho => by
        rcases (HO1.out.alloc (.cells #[.int .i64 s.node, .int .i64 s.tg, .int .i64 s.rel, .int .i64 (vis true s).phase, .bool true] 39)).2 with ⟨e0, _⟩ | ⟨g, cap, cr, e0, _, hcr, _⟩
        · rw [e0] at e; cases e
        · rw [e0] at e; cases e
          rw [hcr] at ho; cases ho; rfl)))
      have HB4 := hideG ((HB1'.out.alloc HB1'.out.size (.cells #[.int .i64 s.node, .int .i64 s.tg, .int .i64 s.rel, .int .i64 (vis true s).phase, .bool true] 39)).grown hg4 (by simp; omega) (fun j e => by have := (HO1.out.lt j e).1; omega))
      have HBu4 := hideG (HBu1.out.trans (show But V.heap.size w1.heap.size D1 w4 from ⟨by have := hg4.size; simp at this; omega, fun j hj hx => by
        refine (hg4.block j (by simp; omega) (fun e => ?_)).trans (((Below.refl D1.heap.size D1).alloc (Nat.le_refl _) _).block j (by omega))
        have := (HO1.out.lt _ e.symm).1
        have h7 := HSV.out
        omega⟩))
      have hl4 : nxt.length = cur.length + 1 := by rw [HE.out]; simp
      have HL4 := hideG hl4
      have hs4 := hg4.size
      simp only [World.size_alloc] at hs4
      clear ho4 hg4 hf4 ec hkk hne0 hl4 c1'
      gi_wp2_with fail
      refine ⟨(HK4.out.trans (KeepsOthers.setCell _ _ _)).from _, HBu4.out.setCell _, ⟨.slice a4 (cur.length + 1) c4, World.cell?_setCell_same' _ _ _ (by rw [hc4]; rfl), by rw [World.frozen?_setCell]; exact hf4', ?_⟩, HB4.out.setCell (p := ⟨w1.heap.size, 0, none⟩) (by simp) _, by simp; omega⟩
      have hkept := ownsRow_kept_set (g := w1.heap.size) (j := 0) (u := .slice a4 (cur.length + 1) c4) HO4.out (fun e => by have := (HO4.out.lt _ e).1; omega)
      rw [HNX.out, HL4.out]
      simpa using hkept
  case done =>
    rintro D xs W hD rfl ⟨⟨v, hc, hf, hown⟩, hB, hVW⟩ hK
    rw [back_map p (vis true), ← visK_zero p e.bub] at hown
    obtain ⟨va, vc, rfl⟩ := ownsRow_shape hown
    have HCw := hideG hc
    have HFw := hideG hf
    have HOw := hideG hown
    have HBw := hideG hB
    have HKw := hideG hK
    clear hc hf hown hB hK c0 f0 cP hbV
    gi_wp2_with fail
    gi_loopw [26] (fun i wr => ∃ (k : Nat) (oa : Option Addr) (oc : Nat), k ≤ p.length ∧ i = .int .i64 k ∧ wr.cell? ⟨w1.heap.size, 0, none⟩ = some (.slice oa (visK p e.bub k).length oc) ∧ wr.frozen? ⟨w1.heap.size, 0, none⟩ = false ∧ wr.ownsRow (w1.heap.size + 2) 39 5 (.slice oa (visK p e.bub k).length oc) (visK p e.bub k).length (viCells (visK p e.bub k)) ∧ Below w1.heap.size w1 wr ∧ wr.heap[D]? = some (.deferred (some [])) ∧ V.heap.size ≤ wr.heap.size) (fun i _ => p.length - (intOf i).toNat)
    case atStart => exact ⟨0, va, vc, Nat.zero_le _, rfl, HCw.out, HFw.out, HOw.out, HBw.out, HKw.out, hVW⟩
    case round =>
      obtain ⟨k, oa, oc, hk, rfl, hc, hf, hown, hB, hK, hVr⟩ := hrel
      have HC := hideG hc
      have HFR := hideG hf
      have HOW := hideG hown
      have HB := hideG hB
      have HKD := hideG hK
      have hX : w1.heap.size < wr.heap.size := below_of_cell hc
      clear hc hf hown hB hK
      by_cases hlt : k < p.length
      · have HE := hideG (visK_succ p e.bub hlt)
        have hvl := visK_le p e.bub k
        obtain ⟨a', c', hav, hd⟩ := HST.out
        simp only [Value.slice.injEq, true_and] at hav
        obtain ⟨rfl, rfl⟩ := hav
        obtain ⟨b, off, rfl, hd'⟩ := hd.2 (by omega)
        have hH := (hd' k hlt).below HB.out
        generalize p.getD k stD = x at *
        have g0 := hH.node
        have g1 := hH.tg
        have g2 := hH.rel
        have hk0 : (0 : Int) ≤ (k : Int) := by omega
        have hbb : b < wr.heap.size := below_of_cell g0
        generalize visK p e.bub k = cur at *
        clear hd hd' hH
        rcases (Bool.eq_false_or_eq_true e.bub).symm with hbu | hbu
        · rw [hbu] at Q3
          cases hph : ((vis false x).phase == 2)
          · rw [show backP e.bub (vis false x) = false by simp [backP, hbu, hph]] at HE
            simp only [Bool.false_eq_true, if_false, List.append_nil] at HE
            clear hbu
            gi_wp2_with fail
            refine ⟨trivial, ?_⟩
            gi_at_call 169
            refine CallsIn.mono (callsIn_wide.2 (visit_any x false _)) ?_
            rintro ex D1 ⟨rfl, hb1⟩
            have hbA := (Below.refl wr.heap.size wr).alloc (Nat.le_refl _) (.cells #[.int .i64 x.node, .int .i64 x.tg, .int .i64 x.rel] 37)
            have hbB := hbA.trans (hb1.mono hbA.size)
            have HB2 := hideG (HB.out.trans (hbB.mono HB.out.size))
            have HC1 := hideG (cell_below hbB HC.out)
            have HF1 := hideG (frozen_below hbB HC.out HFR.out)
            have HO1 := hideG (ownsRow_below HOW.out hbB (fun j e => (HOW.out.lt j e).2))
            have HKO := hideG (keeps_below hbB)
            have q3' := cell_below HB2.out Q3.out
            have hwD : w.heap.size < D1.heap.size := below_of_cell q3'
            have c1' := HC1.out
            have hX1 : w1.heap.size < D1.heap.size := below_of_cell c1'
            have hVD1 : V.heap.size ≤ D1.heap.size := Nat.le_trans hVr hbB.size
            clear hbA hbB hb1 g0 g1 g2
            have HC2 := hideG (cell_alloc_l (.cells #[.int .i64 x.node, .int .i64 x.tg, .int .i64 x.rel, .int .i64 (vis false x).phase, .bool false] 39) HC1.out)
            have HF2 := hideG (frozen_alloc_l (.cells #[.int .i64 x.node, .int .i64 x.tg, .int .i64 x.rel, .int .i64 (vis false x).phase, .bool false] 39) HC1.out HF1.out)
            have HO2 := hideG (HO1.out.alloc (.cells #[.int .i64 x.node, .int .i64 x.tg, .int .i64 x.rel, .int .i64 (vis false x).phase, .bool false] 39))
            have HB3 := hideG (HB2.out.alloc HB2.out.size (.cells #[.int .i64 x.node, .int .i64 x.tg, .int .i64 x.rel, .int .i64 (vis false x).phase, .bool false] 39))
            have HK3 := hideG (HKO.out.trans (KeepsOthers.alloc D1 (.cells #[.int .i64 x.node, .int .i64 x.tg, .int .i64 x.rel, .int .i64 (vis false x).phase, .bool false] 39)))
            clear c1'
            gi_wp2_with fail
            go_roundw
            case rel => exact ⟨k + 1, oa, oc, by omega, by go_num, by rw [HE.out]; exact HC2.out, HF2.out, by rw [HE.out]; exact HO2.out, HB3.out, HK3.out.same D _ HKD.out rfl, by simp; omega⟩
            case measure => simp [intOf]; omega
          · rw [show backP e.bub (vis false x) = true by simp [backP, hph]] at HE
            simp only [if_true] at HE
            clear hbu
            gi_wp2_with fail
            refine ⟨trivial, ?_⟩
            gi_at_call 169
            refine CallsIn.mono (callsIn_wide.2 (visit_any x false _)) ?_
            rintro ex D1 ⟨rfl, hb1⟩
            have hbA := (Below.refl wr.heap.size wr).alloc (Nat.le_refl _) (.cells #[.int .i64 x.node, .int .i64 x.tg, .int .i64 x.rel] 37)
            have hbB := hbA.trans (hb1.mono hbA.size)
            have HB2 := hideG (HB.out.trans (hbB.mono HB.out.size))
            have HC1 := hideG (cell_below hbB HC.out)
            have HF1 := hideG (frozen_below hbB HC.out HFR.out)
            have HO1 := hideG (ownsRow_below HOW.out hbB (fun j e => (HOW.out.lt j e).2))
            have HKO := hideG (keeps_below hbB)
            have q3' := cell_below HB2.out Q3.out
            have hwD : w.heap.size < D1.heap.size := below_of_cell q3'
            have c1' := HC1.out
            have hX1 : w1.heap.size < D1.heap.size := below_of_cell c1'
            have hVD1 : V.heap.size ≤ D1.heap.size := Nat.le_trans hVr hbB.size
            clear hbA hbB hb1 g0 g1 g2
            gi_wp2_with (refine wpListIn_append_any rfl (.tmp 39) (.tmp 41) 131 rfl (w1.heap.size + 2) 39 i0 _ 5 40 Tryz.underlying131 hi0 hz0 hz1 hz2 rfl (by decide) _ cur.length (viCells cur) rfl ((HO1.out.alloc _).alloc _) _ 1 [.int .i64 x.node, .int .i64 x.tg, .int .i64 x.rel, .int .i64 (vis false x).phase, .bool false] rfl (row_newV2 _ _ _ x (vis false x).phase false) rfl ?h2 ?h3 ?h4 ?h5 ?_)
            case h2 => intro u hu; simp at hu; rcases hu with rfl | rfl | rfl | rfl | rfl <;> rfl
            case h3 => simp only [maxLen]; omega
            case h4 => omega
            case h5 => have h7 := HSV.out; simp; omega
            intro v4 w4 ho4 hg4 hf4
            obtain ⟨a4, c4, rfl⟩ := ownsRow_shape ho4
            have ec : viCells cur ++ [.int .i64 x.node, .int .i64 x.tg, .int .i64 x.rel, .int .i64 (vis false x).phase, .bool false] = viCells (cur ++ [vis false x]) := by rw [viCells_append]; rfl
            rw [ec, ← HE.out] at ho4
            have hne0 : ∀ j, j < w1.heap.size + 1 → some j ≠ Value.ownBlock (.slice oa cur.length oc) := fun j hj e => by have := (HO1.out.lt _ e.symm).1; omega
            have hBA := ((Below.refl D1.heap.size D1).alloc (Nat.le_refl _) (.cells #[.int .i64 x.node, .int .i64 x.tg, .int .i64 x.rel, .int .i64 (vis false x).phase, .bool false] 39)).alloc (by simp) (.cells #[.int .i64 x.node, .int .i64 x.tg, .int .i64 x.rel, .int .i64 (vis false x).phase, .bool false] 39)
            have hkk : ∀ j, j < w1.heap.size + 1 → w4.heap[j]? = D1.heap[j]? := fun j hj => (hg4.block j (by simp; omega) (hne0 j hj)).trans (hBA.block j (by omega))
            have hc4 : w4.cell? ⟨w1.heap.size, 0, none⟩ = some (.slice oa cur.length oc) := (World.cell?_of_block (a := ⟨w1.heap.size, 0, none⟩) (hkk w1.heap.size (by omega))).trans HC1.out
            have hf4' : w4.frozen? ⟨w1.heap.size, 0, none⟩ = false := (World.frozen?_of_block (a := ⟨w1.heap.size, 0, none⟩) (hkk w1.heap.size (by omega))).trans HF1.out
            have HO4 := hideG ho4
            have HK4 := hideG (((HKO.out.trans (KeepsOthers.alloc D1 (.cells #[.int .i64 x.node, .int .i64 x.tg, .int .i64 x.rel, .int .i64 (vis false x).phase, .bool false] 39))).trans (KeepsOthers.alloc _ (.cells #[.int .i64 x.node, .int .i64 x.tg, .int .i64 x.rel, .int .i64 (vis false x).phase, .bool false] 39))).trans (KeepsOthers.of_grownBy hg4 (fun j o e ho => by
              rcases ((HO1.out.alloc (.cells #[.int .i64 x.node, .int .i64 x.tg, .int .i64 x.rel, .int .i64 (vis false x).phase, .bool false] 39)).alloc (.cells #[.int .i64 x.node, .int .i64 x.tg, .int .i64 x.rel, .int .i64 (vis false x).phase, .bool false] 39)).2 with ⟨e0, _⟩ | ⟨g, cap, cr, e0, _, hcr, _⟩
              · rw [e0] at e; cases e
              · rw [e0] at e; cases e
                rw [hcr] at ho; cases ho; rfl)))
            have HB4 := hideG (((HB2.out.alloc HB2.out.size (.cells #[.int .i64 x.node, .int .i64 x.tg, .int .i64 x.rel, .int .i64 (vis false x).phase, .bool false] 39)).alloc (by have := HB2.out.size; simp; omega) (.cells #[.int .i64 x.node, .int .i64 x.tg, .int .i64 x.rel, .int .i64 (vis false x).phase, .bool false] 39)).grown hg4 (by have := HB2.out.size; simp; omega) (fun j e => by have := (HO1.out.lt j e).1; omega))
            have hl4 : (visK p e.bub (k + 1)).length = cur.length + 1 := by rw [HE.out]; simp
            have HL4 := hideG hl4
            have hs4 := hg4.size
            simp only [World.size_alloc] at hs4
            clear ho4 hg4 hf4 ec hkk hne0 hl4 hBA
            gi_wp2_with fail
            have hkept := ownsRow_kept_set (g := w1.heap.size) (j := 0) (u := .slice a4 (cur.length + 1) c4) HO4.out (fun e => by have := (HO4.out.lt _ e).1; omega)
            have HKP := hideG hkept
            clear hkept
            go_roundw
            case rel => exact ⟨k + 1, a4, c4, by omega, by go_num, by rw [HL4.out]; exact World.cell?_setCell_same' _ _ _ (by rw [hc4]; rfl), by rw [World.frozen?_setCell]; exact hf4', by rw [HL4.out]; simpa [HL4.out] using HKP.out, HB4.out.setCell (p := ⟨w1.heap.size, 0, none⟩) (by simp) _, (HK4.out.trans (KeepsOthers.setCell _ _ _)).same D _ HKD.out rfl, by simp; omega⟩
            case measure => simp [intOf]; omega
        · rw [hbu] at Q3
          rw [show backP e.bub (vis false x) = true by simp [backP, hbu]] at HE
          simp only [if_true] at HE
          clear hbu
          gi_wp2_with fail
          refine ⟨trivial, ?_⟩
          gi_at_call 169
          refine CallsIn.mono (callsIn_wide.2 (visit_any x false _)) ?_
          rintro ex D1 ⟨rfl, hb1⟩
          have hbA := (Below.refl wr.heap.size wr).alloc (Nat.le_refl _) (.cells #[.int .i64 x.node, .int .i64 x.tg, .int .i64 x.rel] 37)
          have hbB := hbA.trans (hb1.mono hbA.size)
          have HB2 := hideG (HB.out.trans (hbB.mono HB.out.size))
          have HC1 := hideG (cell_below hbB HC.out)
          have HF1 := hideG (frozen_below hbB HC.out HFR.out)
          have HO1 := hideG (ownsRow_below HOW.out hbB (fun j e => (HOW.out.lt j e).2))
          have HKO := hideG (keeps_below hbB)
          have q3' := cell_below HB2.out Q3.out
          have hwD : w.heap.size < D1.heap.size := below_of_cell q3'
          have c1' := HC1.out
          have hX1 : w1.heap.size < D1.heap.size := below_of_cell c1'
          have hVD1 : V.heap.size ≤ D1.heap.size := Nat.le_trans hVr hbB.size
          clear hbA hbB hb1 g0 g1 g2
          gi_wp2_with (refine wpListIn_append_any rfl (.tmp 39) (.tmp 41) 131 rfl (w1.heap.size + 2) 39 i0 _ 5 40 Tryz.underlying131 hi0 hz0 hz1 hz2 rfl (by decide) _ cur.length (viCells cur) rfl ((HO1.out.alloc _).alloc _) _ 1 [.int .i64 x.node, .int .i64 x.tg, .int .i64 x.rel, .int .i64 (vis false x).phase, .bool false] rfl (row_newV2 _ _ _ x (vis false x).phase false) rfl ?h2 ?h3 ?h4 ?h5 ?_)
          case h2 => intro u hu; simp at hu; rcases hu with rfl | rfl | rfl | rfl | rfl <;> rfl
          case h3 => simp only [maxLen]; omega
          case h4 => omega
          case h5 => have h7 := HSV.out; simp; omega
          intro v4 w4 ho4 hg4 hf4
          obtain ⟨a4, c4, rfl⟩ := ownsRow_shape ho4
          have ec : viCells cur ++ [.int .i64 x.node, .int .i64 x.tg, .int .i64 x.rel, .int .i64 (vis false x).phase, .bool false] = viCells (cur ++ [vis false x]) := by rw [viCells_append]; rfl
          rw [ec, ← HE.out] at ho4
          have hne0 : ∀ j, j < w1.heap.size + 1 → some j ≠ Value.ownBlock (.slice oa cur.length oc) := fun j hj e => by have := (HO1.out.lt _ e.symm).1; omega
          have hBA := ((Below.refl D1.heap.size D1).alloc (Nat.le_refl _) (.cells #[.int .i64 x.node, .int .i64 x.tg, .int .i64 x.rel, .int .i64 (vis false x).phase, .bool false] 39)).alloc (by simp) (.cells #[.int .i64 x.node, .int .i64 x.tg, .int .i64 x.rel, .int .i64 (vis false x).phase, .bool false] 39)
          have hkk : ∀ j, j < w1.heap.size + 1 → w4.heap[j]? = D1.heap[j]? := fun j hj => (hg4.block j (by simp; omega) (hne0 j hj)).trans (hBA.block j (by omega))
          have hc4 : w4.cell? ⟨w1.heap.size, 0, none⟩ = some (.slice oa cur.length oc) := (World.cell?_of_block (a := ⟨w1.heap.size, 0, none⟩) (hkk w1.heap.size (by omega))).trans HC1.out
          have hf4' : w4.frozen? ⟨w1.heap.size, 0, none⟩ = false := (World.frozen?_of_block (a := ⟨w1.heap.size, 0, none⟩) (hkk w1.heap.size (by omega))).trans HF1.out
          have HO4 := hideG ho4
          have HK4 := hideG (((HKO.out.trans (KeepsOthers.alloc D1 (.cells #[.int .i64 x.node, .int .i64 x.tg, .int .i64 x.rel, .int .i64 (vis false x).phase, .bool false] 39))).trans (KeepsOthers.alloc _ (.cells #[.int .i64 x.node, .int .i64 x.tg, .int .i64 x.rel, .int .i64 (vis false x).phase, .bool false] 39))).trans (KeepsOthers.of_grownBy hg4 (fun j o e ho => by
            rcases ((HO1.out.alloc (.cells #[.int .i64 x.node, .int .i64 x.tg, .int .i64 x.rel, .int .i64 (vis false x).phase, .bool false] 39)).alloc (.cells #[.int .i64 x.node, .int .i64 x.tg, .int .i64 x.rel, .int .i64 (vis false x).phase, .bool false] 39)).2 with ⟨e0, _⟩ | ⟨g, cap, cr, e0, _, hcr, _⟩
            · rw [e0] at e; cases e
            · rw [e0] at e; cases e
              rw [hcr] at ho; cases ho; rfl)))
          have HB4 := hideG (((HB2.out.alloc HB2.out.size (.cells #[.int .i64 x.node, .int .i64 x.tg, .int .i64 x.rel, .int .i64 (vis false x).phase, .bool false] 39)).alloc (by have := HB2.out.size; simp; omega) (.cells #[.int .i64 x.node, .int .i64 x.tg, .int .i64 x.rel, .int .i64 (vis false x).phase, .bool false] 39)).grown hg4 (by have := HB2.out.size; simp; omega) (fun j e => by have := (HO1.out.lt j e).1; omega))
          have hl4 : (visK p e.bub (k + 1)).length = cur.length + 1 := by rw [HE.out]; simp
          have HL4 := hideG hl4
          have hs4 := hg4.size
          simp only [World.size_alloc] at hs4
          clear ho4 hg4 hf4 ec hkk hne0 hl4 hBA
          gi_wp2_with fail
          have hkept := ownsRow_kept_set (g := w1.heap.size) (j := 0) (u := .slice a4 (cur.length + 1) c4) HO4.out (fun e => by have := (HO4.out.lt _ e).1; omega)
          have HKP := hideG hkept
          clear hkept
          go_roundw
          case rel => exact ⟨k + 1, a4, c4, by omega, by go_num, by rw [HL4.out]; exact World.cell?_setCell_same' _ _ _ (by rw [hc4]; rfl), by rw [World.frozen?_setCell]; exact hf4', by rw [HL4.out]; simpa [HL4.out] using HKP.out, HB4.out.setCell (p := ⟨w1.heap.size, 0, none⟩) (by simp) _, (HK4.out.trans (KeepsOthers.setCell _ _ _)).same D _ HKD.out rfl, by simp; omega⟩
          case measure => simp [intOf]; omega
      · have hvk : visK p e.bub k = visitsI T e := by rw [visK_all p e.bub (by omega), HVD.out]
        rw [hvk] at HC HOW
        have c1' := HC.out
        have hxx := ownsRow_walk (B := wr.putObj D (.deferred none)) HOW.out (grownBy_putObj' wr D (.deferred none)) (fun r e => by cases e; exact ⟨_, HKD.out, rfl⟩)
        have HXX := hideG hxx
        clear hxx hvk
        gi_wp2_with fail
        refine ⟨by simp, .inl ⟨_, _, rfl, run_takeDeferred HKD.out, ?_⟩⟩
        refine ⟨.slice oa (visitsI T e).length oc, ?_, oa, oc, rfl, ownsRow_base (base := w1.heap.size + 2) (base' := w.heap.size) HXX.out (by omega), (HB1.out.trans (HB.out.mono HB1.out.size)).trans (belowK_b (w := w) (Nat.le_refl _) _ D _ _ (by have := HSV.out; omega) HKD.out rfl rfl)⟩
        simp [results, Tryz.f124, go_sem]
  case stop =>
    rintro D c pre W hD hpre h hK
    exact h.elim
end Go.Proofs.YtpmacpbhdgigfaaGreat
