/- The document's own Insert, walked. -/
import Derived.Test.YtoolkpjbbngdpaaRefIns
namespace Go.Proofs.Ytoolkpjbbngdpaa
open Go.RowKit

theorem intCells_two (l : List Int) (x y : Int) : intCells (l ++ [x]) ++ [.int .i64 y] = intCells (l ++ [x, y]) := by simp [intCells]

set_option maxRecDepth 100000 in
set_option maxHeartbeats 4000000 in
theorem refInsert_ok (T : List Nd) (hS : Sane T) (v : Value) (p c : Nat) (b : Int) (w : World) (hT : TreeAt w v T) (hm : mayB T = true) (hF : insertF T p c b = 0) (hbc : (b == (c : Int)) = false) :
    Calls Try.prog 29 #[v, .agg #[.int .i64 p, .int .i64 c, .int .i64 b]] w fun e w' => ∃ v', e = .returned (.tuple #[v', .int .i64 0]) ∧ Below w.heap.size w w' ∧ TreeAt w' v' (insertL T p c b) := by
  obtain ⟨p', c', e1, e2, hp, hc, _, _, hcp, _, hb⟩ := insertF_zero hF
  obtain rfl : p = p' := by omega
  obtain rfl : c = c' := by omega
  clear e1 e2
  obtain ⟨i3, hi3, hz30, hz31, hz32⟩ := info_parts infoT3
  have hpos := mayB_pos hm
  have h1000 : T.length ≤ 1000 := by omega
  obtain ⟨a, cap, rfl⟩ := hT.shape
  have HB0 := hideG ((Below.refl _ w).alloc (Nat.le_refl _) (.cells #[.int .i64 p, .int .i64 c, .int .i64 b] 33))
  have HT := hideG hT
  have HS := hideG hS
  have HM := hideG hm
  have HFi := hideG (mayB_fine hm)
  clear hT hS hb
  -- the rest, from the world in which the child is nobody's kid on
  have hpp : (((nd T c).parent == -1) = true) ∨ ((nd T c).parent == -1) = false := by cases (nd T c).parent == -1 <;> simp
  rcases hpp with hpp | hpp
  · have hpe : (nd T c).parent = -1 := by simpa using hpp
    have hpn : ((nd T c).parent != -1) = false := by simp [hpe]
    have HFin := hideG (fin_none HFi.out hF hbc hpe)
    have h64 := fine_short HFi.out hp
    clear hpp hpe
    go_enter Try.func29, Try.ntmps29
    go_wp2_with (first | (go_at_call 33; refine (refMay_walk T HS.out _ _ (HT.out.below HB0.out)).mono ?_; rintro e w1 ⟨rfl, hb1⟩; simp only [World.size_alloc] at hb1; have x0 := hb1.cell (p := ⟨w.heap.size, 0, none⟩) (by simp); have x1 := hb1.cell (p := ⟨w.heap.size, 1, none⟩) (by simp); have x2 := hb1.cell (p := ⟨w.heap.size, 2, none⟩) (by simp); simp only [World.cell?_alloc_new] at x0 x1 x2; simp at x0 x1 x2; have hs1 := hb1.size; simp only [World.size_alloc] at hs1; have HB1 := hideG (HB0.out.trans (hb1.mono (by omega))); clear hb1) | (go_at_call 75; refine (refWrong_any T HM.out _ _ _ _ _ (HT.out.below HB1.out)).mono ?_; rintro e w2 ⟨rfl, hb2⟩; have y0 := (hb2.cell (p := ⟨w.heap.size, 0, none⟩) (by simp; omega)).trans x0; have y1 := (hb2.cell (p := ⟨w.heap.size, 1, none⟩) (by simp; omega)).trans x1; have y2 := (hb2.cell (p := ⟨w.heap.size, 2, none⟩) (by simp; omega)).trans x2; have hs2 := hb2.size; have HB2 := hideG (HB1.out.trans (hb2.mono (by omega))); clear hb2 x0 x1 x2) | (go_at_call 26; refine (refCopy_any T HS.out _ _ (HT.out.below HB2.out) h1000).mono ?_; rintro e w3 ⟨v', kv, av, rfl, ho, hb3⟩; obtain ⟨g, cap', rfl⟩ := ownsRow_some ho.row hpos.1; have z0 := (hb3.cell (p := ⟨w.heap.size, 0, none⟩) (by simp; omega)).trans y0; have z1 := (hb3.cell (p := ⟨w.heap.size, 1, none⟩) (by simp; omega)).trans y1; have z2 := (hb3.cell (p := ⟨w.heap.size, 2, none⟩) (by simp; omega)).trans y2; have hs3 := hb3.size; have HB3 := hideG (HB2.out.trans (hb3.mono (by omega))); have ho' := ho.weaken HB2.out.size; have c2 : w3.cell? ⟨g, c * 7 + 2, none⟩ = some (.int .i64 (nd T c).parent) := (by rw [ho'.row.cellAt (c * 7 + 2) (by omega), rowL_at (by omega), rowCell_at _ _ _ _ _ (by omega)]; rfl); obtain ⟨ka, kc, hkv⟩ := ownsRow_shape (ho'.kids p hp); have c3 : w3.cell? ⟨g, p * 7 + 3, none⟩ = some (.slice ka (nd T p).kids.length kc) := (by rw [ho'.row.cellAt (p * 7 + 3) (by omega), rowL_at (by omega), rowCell_at _ _ _ _ _ (by omega), ← hkv]; rfl); have f3 := ho'.row.frozenAt (p * 7 + 3); have f2 := ho'.row.frozenAt (c * 7 + 2); have hgl : g < w3.heap.size := (ho'.row.lt g rfl).2; have hgb : w.heap.size ≤ g := (ho'.row.lt g rfl).1; have hki := ownsRow_ints (ho'.kids p hp); rw [hkv] at hki; have HKI := hideG hki; have HO := hideG ho'; clear ho ho' hb3 hkv hki y0 y1 y2))
    have hbw : w.heap.size < w3.heap.size := by omega
    have hown0 : (w3.alloc (.cells #[] 3)).ownsRow w3.heap.size 3 1 (.slice (some ⟨w3.heap.size, 0, none⟩) 0 0) 0 [] := by
      have := World.ownsRow_made w3 (base := w3.heap.size) (e := 3) (size := 1) #[] 0 (by simp) (by simp [maxLen]) rfl
      simpa using this
    have HOl := hideG hown0
    clear hown0
    go_loopw [9, 10] (fun o i wr => ∃ (k : Nat) (oa : Option Addr) (oc : Nat), k ≤ (nd T p).kids.length ∧ i = .int .i64 k ∧ o = .slice oa (insB ((nd T p).kids.take k) b c).length oc ∧ wr.ownsRow w3.heap.size 3 1 (.slice oa (insB ((nd T p).kids.take k) b c).length oc) (insB ((nd T p).kids.take k) b c).length (intCells (insB ((nd T p).kids.take k) b c)) ∧ Below w3.heap.size w3 wr) (fun _ i _ => (nd T p).kids.length - (intOf i).toNat)
    case atStart => exact ⟨0, some ⟨w3.heap.size, 0, none⟩, 0, Nat.zero_le _, rfl, rfl, HOl.out, (Below.refl _ w3).alloc (Nat.le_refl _) _⟩
    case round =>
      obtain ⟨k, oa, oc, hk, rfl, rfl, hown, hB⟩ := hrel
      have HOW := hideG hown
      have HBw := hideG hB
      have hsw := hB.size
      have r0 := (hB.cell (p := ⟨w.heap.size, 0, none⟩) hbw).trans z0
      have r1 := (hB.cell (p := ⟨w.heap.size, 1, none⟩) hbw).trans z1
      have r2 := (hB.cell (p := ⟨w.heap.size, 2, none⟩) hbw).trans z2
      have r3 := (hB.cell (p := ⟨g, p * 7 + 3, none⟩) hgl).trans c3
      have HKw := hideG (HKI.out.below hB)
      have hle := insB_len ((nd T p).kids.take k) b c
      rw [List.length_take] at hle
      clear hown hB
      by_cases hlt : k < (nd T p).kids.length
      · obtain ⟨ia, icap, hiv, hid⟩ := HKw.out
        simp only [Value.slice.injEq, true_and] at hiv
        obtain ⟨rfl, rfl⟩ := hiv
        obtain ⟨kb, koff, rfl, hd⟩ := hid (by omega)
        have c1 := hd k hlt
        have hst := insB_take hlt b c
        have hkb : kb < wr.heap.size := below_of_cell c1
        clear hd hid
        generalize (nd T p).kids.getD k 0 = x at *
        have HST := hideG hst
        clear hst
        generalize hcur : insB ((nd T p).kids.take k) b c = cur at *
        have hcl : cur.length ≤ 200 := by omega
        cases hx : (x == b)
        · have HS2 := hideG (show insB ((nd T p).kids.take (k + 1)) b c = cur ++ [x] by rw [HST.out, hx]; simp)
          go_wp2_with (at_builtin; refine wpList_append_any rfl (.tmp 80) (.tmp 82) 46 rfl w3.heap.size 3 i3 _ 1 8 Try.underlying46 hi3 hz30 hz31 hz32 rfl (by decide) _ cur.length (intCells cur) rfl (HOW.out.alloc _) _ 1 [.int .i64 x] rfl (row_new1 _ _) rfl ?h2 ?h3 ?h4 ?h5 ?_)
          case h2 => intro y hy; simp at hy; subst hy; rfl
          case h3 => simp only [maxLen]; omega
          case h4 => omega
          case h5 => simp; omega
          intro v4 w4 ho4 hg4 hf4
          obtain ⟨a4, c4, rfl⟩ := ownsRow_shape ho4
          rw [intCells_snoc] at ho4
          have HO4 := hideG ho4
          have HB4 := hideG ((HBw.out.alloc hsw (.cells #[.int .i64 x] 3)).grown hg4 (by simp; omega) (fun j e => (HOW.out.lt j e).1))
          clear ho4 hg4 hf4
          go_wp2_with fail
          go_roundw
          case rel =>
            refine ⟨k + 1, a4, c4, by omega, by go_num, ?_, ?_, HB4.out⟩
            · rw [HS2.out]; simp
            · rw [HS2.out]; have := HO4.out; simpa using this
          case measure => simp [intOf]; omega
        · have HS2 := hideG (show insB ((nd T p).kids.take (k + 1)) b c = cur ++ [(c : Int), x] by rw [HST.out, hx]; simp)
          go_wp2_with (at_builtin; refine wpList_append_any rfl (.tmp 75) (.tmp 78) 46 rfl w3.heap.size 3 i3 _ 1 8 Try.underlying46 hi3 hz30 hz31 hz32 rfl (by decide) _ cur.length (intCells cur) rfl (HOW.out.alloc _) _ 1 [.int .i64 (c : Int)] rfl (row_new1 _ _) rfl ?h2 ?h3 ?h4 ?h5 ?_)
          case h2 => intro y hy; simp at hy; subst hy; rfl
          case h3 => simp only [maxLen]; omega
          case h4 => omega
          case h5 => simp; omega
          intro v4 w4 ho4 hg4 hf4
          obtain ⟨a4, c4, rfl⟩ := ownsRow_shape ho4
          rw [intCells_snoc] at ho4
          have HO4 := hideG ho4
          have HB4 := hideG ((HBw.out.alloc hsw (.cells #[.int .i64 (c : Int)] 3)).grown hg4 (by simp; omega) (fun j e => (HOW.out.lt j e).1))
          have hs4 := HB4.out.size
          clear ho4 hg4 hf4
          go_wp2_with (at_builtin; refine wpList_append_any rfl (.tmp 80) (.tmp 82) 46 rfl w3.heap.size 3 i3 _ 1 8 Try.underlying46 hi3 hz30 hz31 hz32 rfl (by decide) _ (cur.length + 1) (intCells (cur ++ [(c : Int)])) rfl (HO4.out.alloc _) _ 1 [.int .i64 x] rfl (row_new1 _ _) rfl ?h2 ?h3 ?h4 ?h5 ?_)
          case h2 => intro y hy; simp at hy; subst hy; rfl
          case h3 => simp only [maxLen]; omega
          case h4 => omega
          case h5 => simp; omega
          intro v5 w5 ho5 hg5 hf5
          obtain ⟨a5, c5, rfl⟩ := ownsRow_shape ho5
          rw [intCells_two] at ho5
          have HO5 := hideG ho5
          have HB5 := hideG ((HB4.out.alloc hs4 (.cells #[.int .i64 x] 3)).grown hg5 (by simp; omega) (fun j e => (HO4.out.lt j e).1))
          clear ho5 hg5 hf5
          go_wp2_with fail
          go_roundw
          case rel =>
            refine ⟨k + 1, a5, c5, by omega, by go_num, ?_, ?_, HB5.out⟩
            · rw [HS2.out]; simp
            · rw [HS2.out]; have := HO5.out; simpa using this
          case measure => simp [intOf]; omega
      · have hke : k = (nd T p).kids.length := by omega
        subst hke
        rw [List.take_length] at HOW ⊢
        have r4 := (HBw.out.cell (p := ⟨g, c * 7 + 2, none⟩) hgl).trans c2
        have e3 := (World.frozen?_of_block (a := ⟨g, p * 7 + 3, none⟩) (HBw.out.block g hgl)).trans f3
        have e2 := (World.frozen?_of_block (a := ⟨g, c * 7 + 2, none⟩) (HBw.out.block g hgl)).trans f2
        have hnn : ¬ (p * 7 + 3 = c * 7 + 2) := by omega
        have hle2 := insB_len (nd T p).kids b c
        generalize hcur : insB (nd T p).kids b c = cur at *
        have hcl : cur.length ≤ 200 := by omega
        cases hb1 : (b == -1)
        · have hfin : finL T p c b = withParent (withKids T p cur) c p := by
            unfold finL; rw [hcur, hb1]; simp
          have HL := hideG hfin
          have hnew := HO.out.setKids (n := p) hp (ownsRow_base HOW.out (by omega)) (toGrown HBw.out _) (fun j e => .inr (HOW.out.lt j e).1)
          have HN := hideG (hnew.setParent (n := c) (by rw [withKids_length]; exact hc) (p : Int))
          have HBf := hideG (((HB3.out.trans (HBw.out.mono (by omega))).setCell (p := ⟨g, p * 7 + 3, none⟩) hgb (.slice oa cur.length oc)).setCell (p := ⟨g, c * 7 + 2, none⟩) hgb (.int .i64 (p : Int)))
          clear hnew hfin
          go_wp2_with fail
          go_ret2
          exact ⟨_, rfl, HBf.out, by rw [← HFin.out, HL.out]; exact HN.out.treeAt⟩
        · have hfin : finL T p c b = withParent (withKids T p (cur ++ [(c : Int)])) c p := by
            unfold finL; rw [hcur, hb1]; simp
          have HL := hideG hfin
          clear hfin
          go_wp2_with (at_builtin; refine wpList_append_any rfl (.tmp 87) (.tmp 90) 46 rfl w3.heap.size 3 i3 _ 1 8 Try.underlying46 hi3 hz30 hz31 hz32 rfl (by decide) _ cur.length (intCells cur) rfl (HOW.out.alloc _) _ 1 [.int .i64 (c : Int)] rfl (row_new1 _ _) rfl ?h2 ?h3 ?h4 ?h5 ?_)
          case h2 => intro y hy; simp at hy; subst hy; rfl
          case h3 => simp only [maxLen]; omega
          case h4 => omega
          case h5 => simp; omega
          intro v4 w4 ho4 hg4 hf4
          obtain ⟨a4, c4, rfl⟩ := ownsRow_shape ho4
          rw [intCells_snoc] at ho4
          have HB4 := hideG ((HBw.out.alloc hsw (.cells #[.int .i64 (c : Int)] 3)).grown hg4 (by simp; omega) (fun j e => (HOW.out.lt j e).1))
          have s0 := (HB4.out.cell (p := ⟨w.heap.size, 0, none⟩) hbw).trans z0
          have s1 := (HB4.out.cell (p := ⟨w.heap.size, 1, none⟩) hbw).trans z1
          have s3 := (HB4.out.cell (p := ⟨g, p * 7 + 3, none⟩) hgl).trans c3
          have s4 := (HB4.out.cell (p := ⟨g, c * 7 + 2, none⟩) hgl).trans c2
          have t3 := (World.frozen?_of_block (a := ⟨g, p * 7 + 3, none⟩) (HB4.out.block g hgl)).trans f3
          have t2 := (World.frozen?_of_block (a := ⟨g, c * 7 + 2, none⟩) (HB4.out.block g hgl)).trans f2
          have hlc : (cur ++ [(c : Int)]).length = cur.length + 1 := by simp
          have hnew := HO.out.setKids (n := p) (l := cur ++ [(c : Int)]) hp (by rw [hlc]; exact ownsRow_base ho4 (by omega)) (toGrown HB4.out _) (fun j e => .inr (ho4.lt j e).1)
          have HN := hideG (hnew.setParent (n := c) (by rw [withKids_length]; exact hc) (p : Int))
          have HBf := hideG (((HB3.out.trans (HB4.out.mono (by omega))).setCell (p := ⟨g, p * 7 + 3, none⟩) hgb (.slice a4 (cur.length + 1) c4)).setCell (p := ⟨g, c * 7 + 2, none⟩) hgb (.int .i64 (p : Int)))
          clear hnew ho4 hg4 hf4
          go_wp2_with fail
          go_ret2
          exact ⟨_, rfl, HBf.out, by rw [← HFin.out, HL.out]; exact HN.out.treeAt⟩
  · obtain ⟨q, hq, hqe, hmem⟩ : ∃ q : Nat, q < T.length ∧ (nd T c).parent = (q : Int) ∧ (c : Int) ∈ (nd T q).kids := by
      rcases HFi.out.par c hc with h | h
      · rw [h] at hpp; simp at hpp
      · exact h
    have hpn : ((q : Int) != -1) = true := by simp
    have hfin0 := fin_some HFi.out hF hbc hq hqe hmem
    have h64q := fine_short HFi.out hq
    have h64p := fine_short HFi.out hp
    have hU64 : (nd (withKids T q (withoutL (nd T q).kids c)) p).kids.length ≤ 64 := by
      rw [nd_withKids _ _ _ hq]
      split
      · have := withoutL_le (nd T q).kids c; simp only; omega
      · exact h64p
    have hUl : (withKids T q (withoutL (nd T q).kids c)).length = T.length := withKids_length _ _ _
    have HQ := hideG hqe
    have HFin0 := hideG hfin0
    clear hpp hmem hqe hfin0
    go_enter Try.func29, Try.ntmps29
    go_wp2_with (first | (go_at_call 33; refine (refMay_walk T HS.out _ _ (HT.out.below HB0.out)).mono ?_; rintro e w1 ⟨rfl, hb1⟩; simp only [World.size_alloc] at hb1; have x0 := hb1.cell (p := ⟨w.heap.size, 0, none⟩) (by simp); have x1 := hb1.cell (p := ⟨w.heap.size, 1, none⟩) (by simp); have x2 := hb1.cell (p := ⟨w.heap.size, 2, none⟩) (by simp); simp only [World.cell?_alloc_new] at x0 x1 x2; simp at x0 x1 x2; have hs1 := hb1.size; simp only [World.size_alloc] at hs1; have HB1 := hideG (HB0.out.trans (hb1.mono (by omega))); clear hb1) | (go_at_call 75; refine (refWrong_any T HM.out _ _ _ _ _ (HT.out.below HB1.out)).mono ?_; rintro e w2 ⟨rfl, hb2⟩; have y0 := (hb2.cell (p := ⟨w.heap.size, 0, none⟩) (by simp; omega)).trans x0; have y1 := (hb2.cell (p := ⟨w.heap.size, 1, none⟩) (by simp; omega)).trans x1; have y2 := (hb2.cell (p := ⟨w.heap.size, 2, none⟩) (by simp; omega)).trans x2; have hs2 := hb2.size; have HB2 := hideG (HB1.out.trans (hb2.mono (by omega))); clear hb2 x0 x1 x2) | (go_at_call 26; refine (refCopy_any T HS.out _ _ (HT.out.below HB2.out) h1000).mono ?_; rintro e w3 ⟨v', kv, av, rfl, ho, hb3⟩; obtain ⟨g, cap', rfl⟩ := ownsRow_some ho.row hpos.1; have z0 := (hb3.cell (p := ⟨w.heap.size, 0, none⟩) (by simp; omega)).trans y0; have z1 := (hb3.cell (p := ⟨w.heap.size, 1, none⟩) (by simp; omega)).trans y1; have z2 := (hb3.cell (p := ⟨w.heap.size, 2, none⟩) (by simp; omega)).trans y2; have hs3 := hb3.size; have HB3 := hideG (HB2.out.trans (hb3.mono (by omega))); have ho' := ho.weaken HB2.out.size; have c2 : w3.cell? ⟨g, c * 7 + 2, none⟩ = some (.int .i64 (q : Int)) := (by rw [ho'.row.cellAt (c * 7 + 2) (by omega), rowL_at (by omega), rowCell_at _ _ _ _ _ (by omega), ← HQ.out]; rfl); obtain ⟨ka, kc, hkv⟩ := ownsRow_shape (ho'.kids q hq); have c3 : w3.cell? ⟨g, q * 7 + 3, none⟩ = some (.slice ka (nd T q).kids.length kc) := (by rw [ho'.row.cellAt (q * 7 + 3) (by omega), rowL_at (by omega), rowCell_at _ _ _ _ _ (by omega), ← hkv]; rfl); have f3 := ho'.row.frozenAt (q * 7 + 3); have f2 := ho'.row.frozenAt (c * 7 + 2); have hgl : g < w3.heap.size := (ho'.row.lt g rfl).2; have hgb : w.heap.size ≤ g := (ho'.row.lt g rfl).1; have hki := ownsRow_ints (ho'.kids q hq); rw [hkv] at hki; have HKI := hideG hki; have HO := hideG ho'; clear ho ho' hb3 hkv hki y0 y1 y2))
    have hD : Below w3.heap.size w3 w3.drew := ⟨rfl, rfl, rfl, Nat.le_refl _, fun _ _ => rfl⟩
    have hwo : Calls Try.prog 76 #[.slice ka (nd T q).kids.length kc, .int .i64 c] w3.drew fun e w5 => ∃ xa xl xc, e = .returned (.slice xa xl xc) ∧ w5.cell? ⟨g, q * 7 + 3, none⟩ = some (.slice ka (nd T q).kids.length kc) ∧ w5.frozen? ⟨g, q * 7 + 3, none⟩ = false ∧ w5.cell? ⟨w.heap.size, 1, none⟩ = some (.int .i64 c) ∧
        Hid (Below w3.heap.size w3 w5 ∧ OwnTree (w5.setCell ⟨g, q * 7 + 3, none⟩ (.slice xa xl xc)) w.heap.size (.slice (some ⟨g, 0, none⟩) T.length cap') (withKids T q (withoutL (nd T q).kids c)) (upd kv q (.slice xa xl xc)) av) := by
      refine (refWithout_any (nd T q).kids _ c w3.drew (HKI.out.below hD) (by omega)).mono ?_
      rintro e w5 ⟨xa, xc, rfl, hx, hb5⟩
      have hb5' : Below w3.heap.size w3 w5 := hD.trans hb5
      refine ⟨xa, _, xc, rfl, (hb5'.cell (p := ⟨g, q * 7 + 3, none⟩) hgl).trans c3, (World.frozen?_of_block (a := ⟨g, q * 7 + 3, none⟩) (hb5'.block g hgl)).trans f3, (hb5'.cell (p := ⟨w.heap.size, 1, none⟩) (by simp; omega)).trans z1, hb5', ?_⟩
      have hx' : w5.ownsRow w.heap.size 3 1 (.slice xa (withoutL (nd T q).kids c).length xc) (withoutL (nd T q).kids c).length (intCells (withoutL (nd T q).kids c)) := ownsRow_base hx (show w.heap.size ≤ w3.heap.size by omega)
      exact HO.out.setKids hq hx' (toGrown hb5' _) (fun j e => .inr (hx.lt j e).1)
    have HWO := hideG hwo
    clear hwo hD
    go_region_with (go_at_call 76; refine HWO.out.mono ?_; rintro e w5 ⟨xa, xl, xc, rfl, d3, e3, q1, HX⟩)
    all_goals
      obtain ⟨hb5, ho5⟩ := HX.out
      have hs5 := hb5.size
      have HB6 : Hid (Below w.heap.size w (w5.setCell ⟨g, q * 7 + 3, none⟩ (.slice xa xl xc))) := (HB3.out.trans (hb5.mono (by omega))).setCell (p := ⟨g, q * 7 + 3, none⟩) hgb _
      have m0 : (w5.setCell ⟨g, q * 7 + 3, none⟩ (.slice xa xl xc)).cell? ⟨w.heap.size, 0, none⟩ = some (.int .i64 p) := (World.cell?_setCell_other _ _ _ _ (by simp <;> omega)).trans ((hb5.cell (p := ⟨w.heap.size, 0, none⟩) (by simp; omega)).trans z0)
      have m1 : (w5.setCell ⟨g, q * 7 + 3, none⟩ (.slice xa xl xc)).cell? ⟨w.heap.size, 1, none⟩ = some (.int .i64 c) := (World.cell?_setCell_other _ _ _ _ (by simp <;> omega)).trans ((hb5.cell (p := ⟨w.heap.size, 1, none⟩) (by simp; omega)).trans z1)
      have m2 : (w5.setCell ⟨g, q * 7 + 3, none⟩ (.slice xa xl xc)).cell? ⟨w.heap.size, 2, none⟩ = some (.int .i64 b) := (World.cell?_setCell_other _ _ _ _ (by simp <;> omega)).trans ((hb5.cell (p := ⟨w.heap.size, 2, none⟩) (by simp; omega)).trans z2)
      have hs6 : w3.heap.size ≤ (w5.setCell ⟨g, q * 7 + 3, none⟩ (.slice xa xl xc)).heap.size := by simp; omega
      clear z0 z1 z2 c2 c3 f2 f3 hgl HKI HB3 hb5 d3 e3 q1 HX HWO HO
      generalize (w5.setCell ⟨g, q * 7 + 3, none⟩ (.slice xa xl xc)) = w6 at *
      have HB3 := HB6
      have z0 := m0
      have z1 := m1
      have z2 := m2
      clear HB6 m0 m1 m2
      have HFin := HFin0
      generalize withKids T q (withoutL (nd T q).kids c) = U at *
      generalize upd kv q (.slice xa xl xc) = kv6 at *
      have hr := ho5.row
      rw [hUl] at hr
      have hpU : p < U.length := by omega
      have hcU : c < U.length := by omega
      have c2 : ∃ z, w6.cell? ⟨g, c * 7 + 2, none⟩ = some z := ⟨_, by rw [hr.cellAt (c * 7 + 2) (by omega), rowL_at (by omega)]⟩
      obtain ⟨zz, c2⟩ := c2
      obtain ⟨ka, kc, hkv⟩ := ownsRow_shape (ho5.kids p hpU)
      have c3 : w6.cell? ⟨g, p * 7 + 3, none⟩ = some (.slice ka (nd U p).kids.length kc) := by
        rw [hr.cellAt (p * 7 + 3) (by omega), rowL_at (by omega), rowCell_at _ _ _ _ _ (by omega), ← hkv]; rfl
      have f3 := hr.frozenAt (p * 7 + 3)
      have f2 := hr.frozenAt (c * 7 + 2)
      have hgl : g < w6.heap.size := (hr.lt g rfl).2
      have hki := ownsRow_ints (ho5.kids p hpU)
      rw [hkv] at hki
      have HKI := hideG hki
      have HO := hideG ho5
      clear hki hkv hr ho5
      go_wp2_with fail
      have hbw : w.heap.size < w6.heap.size := by omega
      have hown0 : (w6.alloc (.cells #[] 3)).ownsRow w6.heap.size 3 1 (.slice (some ⟨w6.heap.size, 0, none⟩) 0 0) 0 [] := by
        have := World.ownsRow_made w6 (base := w6.heap.size) (e := 3) (size := 1) #[] 0 (by simp) (by simp [maxLen]) rfl
        simpa using this
      have HOl := hideG hown0
      clear hown0
      go_loopw [9, 10] (fun o i wr => ∃ (k : Nat) (oa : Option Addr) (oc : Nat), k ≤ (nd U p).kids.length ∧ i = .int .i64 k ∧ o = .slice oa (insB ((nd U p).kids.take k) b c).length oc ∧ wr.ownsRow w6.heap.size 3 1 (.slice oa (insB ((nd U p).kids.take k) b c).length oc) (insB ((nd U p).kids.take k) b c).length (intCells (insB ((nd U p).kids.take k) b c)) ∧ Below w6.heap.size w6 wr) (fun _ i _ => (nd U p).kids.length - (intOf i).toNat)
      case atStart => exact ⟨0, some ⟨w6.heap.size, 0, none⟩, 0, Nat.zero_le _, rfl, rfl, HOl.out, (Below.refl _ w6).alloc (Nat.le_refl _) _⟩
      case round =>
        obtain ⟨k, oa, oc, hk, rfl, rfl, hown, hB⟩ := hrel
        have HOW := hideG hown
        have HBw := hideG hB
        have hsw := hB.size
        have r0 := (hB.cell (p := ⟨w.heap.size, 0, none⟩) hbw).trans z0
        have r1 := (hB.cell (p := ⟨w.heap.size, 1, none⟩) hbw).trans z1
        have r2 := (hB.cell (p := ⟨w.heap.size, 2, none⟩) hbw).trans z2
        have r3 := (hB.cell (p := ⟨g, p * 7 + 3, none⟩) hgl).trans c3
        have HKw := hideG (HKI.out.below hB)
        have hle := insB_len ((nd U p).kids.take k) b c
        rw [List.length_take] at hle
        clear hown hB
        by_cases hlt : k < (nd U p).kids.length
        · obtain ⟨ia, icap, hiv, hid⟩ := HKw.out
          simp only [Value.slice.injEq, true_and] at hiv
          obtain ⟨rfl, rfl⟩ := hiv
          obtain ⟨kb, koff, rfl, hd⟩ := hid (by omega)
          have c1 := hd k hlt
          have hst := insB_take hlt b c
          have hkb : kb < wr.heap.size := below_of_cell c1
          clear hd hid
          generalize (nd U p).kids.getD k 0 = x at *
          have HST := hideG hst
          clear hst
          generalize hcur : insB ((nd U p).kids.take k) b c = cur at *
          have hcl : cur.length ≤ 200 := by omega
          cases hx : (x == b)
          · have HS2 := hideG (show insB ((nd U p).kids.take (k + 1)) b c = cur ++ [x] by rw [HST.out, hx]; simp)
            go_wp2_with (at_builtin; refine wpList_append_any rfl (.tmp 80) (.tmp 82) 46 rfl w6.heap.size 3 i3 _ 1 8 Try.underlying46 hi3 hz30 hz31 hz32 rfl (by decide) _ cur.length (intCells cur) rfl (HOW.out.alloc _) _ 1 [.int .i64 x] rfl (row_new1 _ _) rfl ?h2 ?h3 ?h4 ?h5 ?_)
            case h2 => intro y hy; simp at hy; subst hy; rfl
            case h3 => simp only [maxLen]; omega
            case h4 => omega
            case h5 => simp; omega
            intro v4 w4 ho4 hg4 hf4
            obtain ⟨a4, c4, rfl⟩ := ownsRow_shape ho4
            rw [intCells_snoc] at ho4
            have HO4 := hideG ho4
            have HB4 := hideG ((HBw.out.alloc hsw (.cells #[.int .i64 x] 3)).grown hg4 (by simp; omega) (fun j e => (HOW.out.lt j e).1))
            clear ho4 hg4 hf4
            go_wp2_with fail
            go_roundw
            case rel =>
              refine ⟨k + 1, a4, c4, by omega, by go_num, ?_, ?_, HB4.out⟩
              · rw [HS2.out]; simp
              · rw [HS2.out]; have := HO4.out; simpa using this
            case measure => simp [intOf]; omega
          · have HS2 := hideG (show insB ((nd U p).kids.take (k + 1)) b c = cur ++ [(c : Int), x] by rw [HST.out, hx]; simp)
            go_wp2_with (at_builtin; refine wpList_append_any rfl (.tmp 75) (.tmp 78) 46 rfl w6.heap.size 3 i3 _ 1 8 Try.underlying46 hi3 hz30 hz31 hz32 rfl (by decide) _ cur.length (intCells cur) rfl (HOW.out.alloc _) _ 1 [.int .i64 (c : Int)] rfl (row_new1 _ _) rfl ?h2 ?h3 ?h4 ?h5 ?_)
            case h2 => intro y hy; simp at hy; subst hy; rfl
            case h3 => simp only [maxLen]; omega
            case h4 => omega
            case h5 => simp; omega
            intro v4 w4 ho4 hg4 hf4
            obtain ⟨a4, c4, rfl⟩ := ownsRow_shape ho4
            rw [intCells_snoc] at ho4
            have HO4 := hideG ho4
            have HB4 := hideG ((HBw.out.alloc hsw (.cells #[.int .i64 (c : Int)] 3)).grown hg4 (by simp; omega) (fun j e => (HOW.out.lt j e).1))
            have hs4 := HB4.out.size
            clear ho4 hg4 hf4
            go_wp2_with (at_builtin; refine wpList_append_any rfl (.tmp 80) (.tmp 82) 46 rfl w6.heap.size 3 i3 _ 1 8 Try.underlying46 hi3 hz30 hz31 hz32 rfl (by decide) _ (cur.length + 1) (intCells (cur ++ [(c : Int)])) rfl (HO4.out.alloc _) _ 1 [.int .i64 x] rfl (row_new1 _ _) rfl ?h2 ?h3 ?h4 ?h5 ?_)
            case h2 => intro y hy; simp at hy; subst hy; rfl
            case h3 => simp only [maxLen]; omega
            case h4 => omega
            case h5 => simp; omega
            intro v5 w5 ho5 hg5 hf5
            obtain ⟨a5, c5, rfl⟩ := ownsRow_shape ho5
            rw [intCells_two] at ho5
            have HO5 := hideG ho5
            have HB5 := hideG ((HB4.out.alloc hs4 (.cells #[.int .i64 x] 3)).grown hg5 (by simp; omega) (fun j e => (HO4.out.lt j e).1))
            clear ho5 hg5 hf5
            go_wp2_with fail
            go_roundw
            case rel =>
              refine ⟨k + 1, a5, c5, by omega, by go_num, ?_, ?_, HB5.out⟩
              · rw [HS2.out]; simp
              · rw [HS2.out]; have := HO5.out; simpa using this
            case measure => simp [intOf]; omega
        · have hke : k = (nd U p).kids.length := by omega
          subst hke
          rw [List.take_length] at HOW ⊢
          have r4 := (HBw.out.cell (p := ⟨g, c * 7 + 2, none⟩) hgl).trans c2
          have e3 := (World.frozen?_of_block (a := ⟨g, p * 7 + 3, none⟩) (HBw.out.block g hgl)).trans f3
          have e2 := (World.frozen?_of_block (a := ⟨g, c * 7 + 2, none⟩) (HBw.out.block g hgl)).trans f2
          have hnn : ¬ (p * 7 + 3 = c * 7 + 2) := by omega
          have hle2 := insB_len (nd U p).kids b c
          generalize hcur : insB (nd U p).kids b c = cur at *
          have hcl : cur.length ≤ 200 := by omega
          cases hb1 : (b == -1)
          · have hfin : finL U p c b = withParent (withKids U p cur) c p := by
              unfold finL; rw [hcur, hb1]; simp
            have HL := hideG hfin
            have hnew := HO.out.setKids (n := p) hpU (ownsRow_base HOW.out (by omega)) (toGrown HBw.out _) (fun j e => .inr (HOW.out.lt j e).1)
            have HN := hideG (hnew.setParent (n := c) (by rw [withKids_length]; exact hcU) (p : Int))
            have HBf := hideG (((HB3.out.trans (HBw.out.mono (by omega))).setCell (p := ⟨g, p * 7 + 3, none⟩) hgb (.slice oa cur.length oc)).setCell (p := ⟨g, c * 7 + 2, none⟩) hgb (.int .i64 (p : Int)))
            clear hnew hfin
            go_wp2_with fail
            go_ret2
            exact ⟨_, rfl, HBf.out, by rw [← HFin.out, HL.out]; exact HN.out.treeAt⟩
          · have hfin : finL U p c b = withParent (withKids U p (cur ++ [(c : Int)])) c p := by
              unfold finL; rw [hcur, hb1]; simp
            have HL := hideG hfin
            clear hfin
            go_wp2_with (at_builtin; refine wpList_append_any rfl (.tmp 87) (.tmp 90) 46 rfl w6.heap.size 3 i3 _ 1 8 Try.underlying46 hi3 hz30 hz31 hz32 rfl (by decide) _ cur.length (intCells cur) rfl (HOW.out.alloc _) _ 1 [.int .i64 (c : Int)] rfl (row_new1 _ _) rfl ?h2 ?h3 ?h4 ?h5 ?_)
            case h2 => intro y hy; simp at hy; subst hy; rfl
            case h3 => simp only [maxLen]; omega
            case h4 => omega
            case h5 => simp; omega
            intro v4 w4 ho4 hg4 hf4
            obtain ⟨a4, c4, rfl⟩ := ownsRow_shape ho4
            rw [intCells_snoc] at ho4
            have HB4 := hideG ((HBw.out.alloc hsw (.cells #[.int .i64 (c : Int)] 3)).grown hg4 (by simp; omega) (fun j e => (HOW.out.lt j e).1))
            have s0 := (HB4.out.cell (p := ⟨w.heap.size, 0, none⟩) hbw).trans z0
            have s1 := (HB4.out.cell (p := ⟨w.heap.size, 1, none⟩) hbw).trans z1
            have s3 := (HB4.out.cell (p := ⟨g, p * 7 + 3, none⟩) hgl).trans c3
            have s4 := (HB4.out.cell (p := ⟨g, c * 7 + 2, none⟩) hgl).trans c2
            have t3 := (World.frozen?_of_block (a := ⟨g, p * 7 + 3, none⟩) (HB4.out.block g hgl)).trans f3
            have t2 := (World.frozen?_of_block (a := ⟨g, c * 7 + 2, none⟩) (HB4.out.block g hgl)).trans f2
            have hlc : (cur ++ [(c : Int)]).length = cur.length + 1 := by simp
            have hnew := HO.out.setKids (n := p) (l := cur ++ [(c : Int)]) hpU (by rw [hlc]; exact ownsRow_base ho4 (by omega)) (toGrown HB4.out _) (fun j e => .inr (ho4.lt j e).1)
            have HN := hideG (hnew.setParent (n := c) (by rw [withKids_length]; exact hcU) (p : Int))
            have HBf := hideG (((HB3.out.trans (HB4.out.mono (by omega))).setCell (p := ⟨g, p * 7 + 3, none⟩) hgb (.slice a4 (cur.length + 1) c4)).setCell (p := ⟨g, c * 7 + 2, none⟩) hgb (.int .i64 (p : Int)))
            clear hnew ho4 hg4 hf4
            go_wp2_with fail
            go_ret2
            exact ⟨_, rfl, HBf.out, by rw [← HFin.out, HL.out]; exact HN.out.treeAt⟩
end Go.Proofs.Ytoolkpjbbngdpaa
