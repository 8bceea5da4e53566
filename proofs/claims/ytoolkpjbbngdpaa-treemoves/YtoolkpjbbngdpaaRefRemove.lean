/- The document's own Remove: it answers as the program's. -/
import Derived.Test.YtoolkpjbbngdpaaRefWrong
namespace Go.Proofs.Ytoolkpjbbngdpaa
open Go.RowKit

theorem takeL_without {T : List Nd} (h : Fine T) {c q : Nat} (hq : q < T.length) (e : (nd T c).parent = (q : Int)) (hm : (c : Int) ∈ (nd T q).kids) : takeL T c = withParent (withKids T q (withoutL (nd T q).kids c)) c (-1) := by
  unfold takeL
  rw [e, if_neg (by simp), Int.toNat_natCast, withoutL_cut (h.nodup q hq) hm]

set_option maxRecDepth 100000 in
set_option maxHeartbeats 4000000 in
theorem refRemove_any (T : List Nd) (hS : Sane T) (v : Value) (c : Int) (w : World) (hT : TreeAt w v T) :
    Calls Try.prog 31 #[v, .int .i64 c] w fun e w' => ∃ v', e = .returned (.tuple #[v', .int .i64 (removeE T c)]) ∧ Below w.heap.size w w' ∧ TreeAt w' v' (removeR T c) := by
  cases hm : mayB T
  · have hE : removeE T c = 1 := by simp only [removeE, hm, Bool.false_eq_true, if_false]
    rw [removeR_one hE, hE]
    obtain ⟨a, cap, rfl⟩ := hT.shape
    have HT := hideG hT
    have HS := hideG hS
    clear hT hS hE
    go_enter Try.func31, Try.ntmps31
    go_wp2_with (go_at_call 33; refine (refMay_walk T HS.out _ _ HT.out).mono ?_; rintro e w1 ⟨rfl, hb1⟩)
    go_ret2
    exact ⟨_, rfl, hb1, treeAt_nil _⟩
  · cases hi : isNodeB T.length c
    · have hE : removeE T c = 2 := by simp only [removeE, hm, hi, Bool.false_eq_true, if_false, if_true]
      rw [removeR_else (T := T) (by rw [hE]; decide) (by rw [hE]; decide), hE]
      obtain ⟨a, cap, rfl⟩ := hT.shape
      have HT := hideG hT
      have HS := hideG hS
      clear hT hS hE
      go_enter Try.func31, Try.ntmps31
      go_wp2_with (first | (go_at_call 33; refine (refMay_walk T HS.out _ _ HT.out).mono ?_; rintro e w1 ⟨rfl, hb1⟩) | (go_at_call 34; refine (refIs_any _ _ _ _ _).mono ?_; rintro e w2 ⟨rfl, hw⟩; subst hw))
      go_ret2
      exact ⟨_, rfl, hb1, HT.out.below hb1⟩
    · obtain ⟨c, rfl, hc⟩ := isNodeB_true hi
      have hpos := mayB_pos hm
      have h1000 : T.length ≤ 1000 := by omega
      have HFi := hideG (mayB_fine hm)
      have HT := hideG hT
      have HS := hideG hS
      obtain ⟨ba, off, cap, rfl, hcc⟩ := hT.at (by omega)
      obtain ⟨kvc, avc, hNc⟩ := hcc c hc
      have k2 := hNc.parent
      have hbz : ba < w.heap.size := below_of_cell k2
      clear hNc hcc hT hS
      cases hp : ((nd T c).parent == -1)
      · have hE : removeE T c = 0 := by simp only [removeE, hm, hi, hp, Bool.false_eq_true, if_false, if_true, Int.toNat_natCast]
        obtain ⟨q, hq, hqe, hmem⟩ : ∃ q : Nat, q < T.length ∧ (nd T c).parent = (q : Int) ∧ (c : Int) ∈ (nd T q).kids := by
          rcases HFi.out.par c hc with h | h
          · rw [h] at hp; simp at hp
          · exact h
        rw [removeR_zero hE, hE, Int.toNat_natCast, takeL_without HFi.out hq hqe hmem]
        have h64 := fine_short HFi.out hq
        have HQ := hideG hqe
        rw [hqe] at k2 hp
        clear hE hmem hqe
        go_enter Try.func31, Try.ntmps31
        go_wp2_with (first | (go_at_call 33; refine (refMay_walk T HS.out _ _ HT.out).mono ?_; rintro e w1 ⟨rfl, hb1⟩; have y2 := (hb1.cell (p := ⟨ba, off + c * 7 + 2, none⟩) hbz).trans k2) | (go_at_call 34; refine (refIs_any _ _ _ _ _).mono ?_; rintro e w2 ⟨rfl, hw⟩; subst hw) | (go_at_call 26; refine (refCopy_any T HS.out _ _ (HT.out.below hb1) h1000).mono ?_; rintro e w3 ⟨v', kv, av, rfl, ho, hb3⟩; obtain ⟨g, cap', rfl⟩ := ownsRow_some ho.row hpos.1; have hs3 := hb3.size; have hs1 := hb1.size; have HB3 := hideG (hb1.trans (hb3.mono hs1)); have ho' := ho.weaken hs1; have c2 : w3.cell? ⟨g, c * 7 + 2, none⟩ = some (.int .i64 (q : Int)) := (by rw [ho'.row.cellAt (c * 7 + 2) (by omega), rowL_at (by omega), rowCell_at _ _ _ _ _ (by omega), ← HQ.out]; rfl); obtain ⟨ka, kc, hkv⟩ := ownsRow_shape (ho'.kids q hq); have c3 : w3.cell? ⟨g, q * 7 + 3, none⟩ = some (.slice ka (nd T q).kids.length kc) := (by rw [ho'.row.cellAt (q * 7 + 3) (by omega), rowL_at (by omega), rowCell_at _ _ _ _ _ (by omega), ← hkv]; rfl); have f3 := ho'.row.frozenAt (q * 7 + 3); have f2 := ho'.row.frozenAt (c * 7 + 2); have hgl : g < w3.heap.size := (ho'.row.lt g rfl).2; have hgb : w.heap.size ≤ g := (ho'.row.lt g rfl).1; have hki := ownsRow_ints (ho'.kids q hq); rw [hkv] at hki; have HKI := hideG hki; have HO := hideG ho'; clear ho ho' hb3 hkv hki))
        refine (refWithout_any (nd T q).kids _ _ _ HKI.out (by omega)).mono ?_
        rintro e w4 ⟨xa, xc, rfl, hx, hb4⟩
        have hs4 := hb4.size
        have d3 := (hb4.cell (p := ⟨g, q * 7 + 3, none⟩) hgl).trans c3
        have d2 := (hb4.cell (p := ⟨g, c * 7 + 2, none⟩) hgl).trans c2
        have e3 := (World.frozen?_of_block (a := ⟨g, q * 7 + 3, none⟩) (hb4.block g hgl)).trans f3
        have e2 := (World.frozen?_of_block (a := ⟨g, c * 7 + 2, none⟩) (hb4.block g hgl)).trans f2
        have hs13 := HB3.out.size
        have hnew := HO.out.setKids hq (ownsRow_base hx hs13) (toGrown hb4 _) (fun j e => .inr (hx.lt j e).1)
        have HN := hideG (hnew.setParent (n := c) (by rw [withKids_length]; exact hc) (-1))
        have HB4 := hideG (((HB3.out.trans (hb4.mono hs13)).setCell (p := ⟨g, q * 7 + 3, none⟩) hgb (.slice xa (withoutL (nd T q).kids c).length xc)).setCell (p := ⟨g, c * 7 + 2, none⟩) hgb (.int .i64 (-1)))
        have hnn : ¬ (q * 7 + 3 = c * 7 + 2) := by omega
        clear hnew hx hb4
        go_wp2_with fail
        go_ret2
        exact ⟨_, rfl, HB4.out, HN.out.treeAt⟩
      · have hE : removeE T c = 3 := by simp only [removeE, hm, hi, hp, if_true, Int.toNat_natCast]
        rw [removeR_else (T := T) (by rw [hE]; decide) (by rw [hE]; decide), hE]
        clear hE
        go_enter Try.func31, Try.ntmps31
        go_wp2_with (first | (go_at_call 33; refine (refMay_walk T HS.out _ _ HT.out).mono ?_; rintro e w1 ⟨rfl, hb1⟩; have y2 := (hb1.cell (p := ⟨ba, off + c * 7 + 2, none⟩) hbz).trans k2) | (go_at_call 34; refine (refIs_any _ _ _ _ _).mono ?_; rintro e w2 ⟨rfl, hw⟩; subst hw))
        go_ret2
        exact ⟨_, rfl, hb1, HT.out.below hb1⟩
end Go.Proofs.Ytoolkpjbbngdpaa
