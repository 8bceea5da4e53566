/- attr.Drop, walked: for every tree in memory it answers what its Lean twin says, and leaves all that was there. -/
import Derived.Test.YtbfomnkapnlgeaaSet
import Derived.Test.YtbfomnkapnlgeaaDelA
namespace Go.Proofs.Ytbfomnkapnlgeaa
open Go.RowKit

theorem attrCells_dropL (l : List (Int × Int)) (k : Nat) : attrCells (dropL l k) = (attrCells l).take (k * 2) ++ (attrCells l).drop ((k + 1) * 2) := by
  unfold dropL
  rw [attrCells_append, attrCells_take, attrCells_drop]
theorem dropL_len {l : List (Int × Int)} {k : Nat} (h : k < l.length) : (dropL l k).length = l.length - 1 := by
  unfold dropL
  simp
  omega

set_option maxRecDepth 100000 in
set_option maxHeartbeats 2000000 in
theorem drop_fault (T : List Nd) (hS : Sane T) (v : Value) (n nm : Int) (w : World) (hT : TreeAt w v T) (hf : (faultE T n != 0) = true) :
    Calls Try.prog 38 #[v, .int .i64 n, .int .i64 nm] w fun e w' => ∃ v', e = .returned (.tuple #[v', .int .i64 (dropE T n nm)]) ∧ Below w.heap.size w w' ∧ TreeAt w' v' (dropR T n nm) := by
  obtain ⟨a, cap, rfl⟩ := hT.shape
  have HT := hideG hT
  have HS := hideG hS
  have hE : dropE T n nm = faultE T n := by simp only [dropE, hf, if_true]
  have HE := hideG hE
  clear hT hS hE
  cases h1 : (faultE T n == 1)
  all_goals
    go_enter Try.func38, Try.ntmps38
    go_wp2_with (first | (go_at_call 61; refine (fault_any T HS.out _ _ _ HT.out).mono ?_; rintro e w1 ⟨rfl, hb1⟩) | (go_at_call 63; refine (refuse_any _ _ _ _ _).mono ?_; rintro e w2 ⟨rfl, rfl⟩; rw [h1]; try simp only [Bool.false_eq_true, if_false, if_true]))
    go_ret2
    refine ⟨_, ret_ti rfl HE.out.symm, hb1, ?_⟩
    have hR : dropR T n nm = if faultE T n == 1 then [] else T := by
      simp only [dropR, HE.out]
      have : (faultE T n == 0) = false := by simpa using hf
      simp only [this, Bool.false_eq_true, if_false]
    rw [hR, h1]
    first | exact treeAt_nil _ | exact HT.out.below hb1

set_option maxRecDepth 100000 in
set_option maxHeartbeats 4000000 in
theorem drop_main (T : List Nd) (hS : Sane T) (v : Value) (n nm : Int) (w : World) (hT : TreeAt w v T) (hf : (faultE T n != 0) = false) (hal : (nd T n.toNat).attrs.length ≤ 900000) :
    Calls Try.prog 38 #[v, .int .i64 n, .int .i64 nm] w fun e w' => ∃ v', e = .returned (.tuple #[v', .int .i64 (dropE T n nm)]) ∧ Below w.heap.size w w' ∧ TreeAt w' v' (dropR T n nm) := by
  obtain ⟨hm, k, rfl, hk⟩ := faultE_zero hf
  rw [Int.toNat_natCast] at hal
  have hpos := mayB_pos hm
  have h1000 : T.length ≤ 1000 := by omega
  have HT := hideG hT
  have HS := hideG hS
  obtain ⟨b, off, cap, rfl, hc⟩ := hT.at (by omega)
  obtain ⟨kv, av, hN⟩ := hc k hk
  have c6 := hN.attrsc
  have hbz : b < w.heap.size := below_of_cell c6
  have HA := hideG hN.attrs
  obtain ⟨aa, ac, rfl⟩ := hN.attrs.shape
  have hs2 : (nd T k).attrs.length ≤ 1000000 := by omega
  clear hT hS hc hN hm
  cases hs : (searchL nm (nd T k).attrs).2
  · have hE : dropE T k nm = 7 := by simp only [dropE, hf, Int.toNat_natCast, hs, Bool.false_eq_true, if_false]
    have hR : dropR T k nm = T := by simp only [dropR, hE]; simp
    have HE := hideG hE
    have HR := hideG hR
    clear hE hR
    go_enter Try.func38, Try.ntmps38
    go_wp2_with (first | (go_at_call 61; refine (fault_any T HS.out _ _ _ HT.out).mono ?_; rintro e w1 ⟨rfl, hb1⟩; have g6 := (hb1.cell (p := ⟨b, off + k * 7 + 6, none⟩) hbz).trans c6; have HA1 := hideG (HA.out.below hb1)) | (go_at_call 62; refine (search_any (nd T k).attrs _ _ _ HA1.out hs2).mono ?_; rintro e w2 ⟨rfl, hb2⟩; rw [hs]) | (go_at_call 63; refine (refuse_any _ _ _ _ _).mono ?_; rintro e w6 ⟨rfl, rfl⟩; simp only [show ((7 : Int) == 1) = false from rfl, Bool.false_eq_true, if_false]))
    go_ret2
    have hfin := hb1.trans (hb2.mono hb1.size)
    exact ⟨_, ret_ti rfl HE.out.symm, hfin, by rw [HR.out]; exact HT.out.below hfin⟩
  · obtain ⟨q, hq⟩ : ∃ q, (searchL nm (nd T k).attrs).1 = q := ⟨_, rfl⟩
    have hlt := searchL_lt' hs
    have hE : dropE T k nm = 0 := by simp only [dropE, hf, Int.toNat_natCast, hs, Bool.false_eq_true, if_false, if_true]
    have hR : dropR T k nm = withAttrs T k (dropL (nd T k).attrs q) := by simp only [dropR, hE, Int.toNat_natCast, hq]; simp
    rw [hq] at hlt
    have HE := hideG hE
    have HR := hideG hR
    have HQ := hideG hq
    clear hE hR hq
    go_enter Try.func38, Try.ntmps38
    go_wp2_with (first | (go_at_call 61; refine (fault_any T HS.out _ _ _ HT.out).mono ?_; rintro e w1 ⟨rfl, hb1⟩; have g6 := (hb1.cell (p := ⟨b, off + k * 7 + 6, none⟩) hbz).trans c6; have HA1 := hideG (HA.out.below hb1)) | (go_at_call 62; refine (search_any (nd T k).attrs _ _ _ HA1.out hs2).mono ?_; rintro e w2 ⟨rfl, hb2⟩; rw [hs, HQ.out]; have HB2 := hideG (hb1.trans (hb2.mono hb1.size))) | (go_at_call 47; refine (copy_any T HS.out _ _ (HT.out.below HB2.out) hpos.1 h1000).mono ?_; rintro e w3 ⟨v', kv', av', rfl, ho, hb3⟩; obtain ⟨g, cap', rfl⟩ := ownsRow_some ho.row hpos.1; have hoa := ho.attrs k hk; obtain ⟨aa', ac', hav⟩ := ownsRow_shape hoa; have c6' : w3.cell? ⟨g, k * 7 + 6, none⟩ = some (.slice aa' (nd T k).attrs.length ac') := (by rw [ho.row.cellAt (k * 7 + 6) (by omega), rowL_at (by omega), rowCell_at _ _ _ _ _ (by omega), ← hav]; rfl); have f6 := ho.row.frozenAt (k * 7 + 6); have hgl : g < w3.heap.size := (ho.row.lt g rfl).2; have hne : some g ≠ (av' k).ownBlock := (fun e => ho.ar k hk g e.symm rfl); rw [hav] at hoa hne; have HO := hideG ho; have HOA := hideG hoa; have HAV := hideG hav; clear ho hoa hav))
    refine (delete67_any w2.heap.size _ (nd T k).attrs.length q (attrCells (nd T k).attrs) w3 HOA.out hlt hal (attrCells_one _)).mono ?_
    rintro e w4 ⟨rfl, hx1, hg3⟩
    simp only [ownAddr, ownCap] at hx1 ⊢
    have hf3 : ∀ j, Value.ownBlock (.slice aa' ((nd T k).attrs.length - 1) ac') = some j → Value.ownBlock (.slice aa' (nd T k).attrs.length ac') = some j ∨ w3.heap.size ≤ j := fun j hj => .inl (by cases aa' with | none => cases hj | some x => exact hj)
    rw [← attrCells_dropL, ← dropL_len hlt] at hx1
    rw [← dropL_len hlt] at hf3
    rw [← dropL_len hlt]
    have d6 := (World.cell?_of_block (a := ⟨g, k * 7 + 6, none⟩) (hg3.block g hgl hne)).trans c6'
    have e6 := (World.frozen?_of_block (a := ⟨g, k * 7 + 6, none⟩) (hg3.block g hgl hne)).trans f6
    have hnew : OwnTree (w4.setCell ⟨g, k * 7 + 6, none⟩ (.slice aa' (dropL (nd T k).attrs q).length ac')) w2.heap.size (.slice (some ⟨g, 0, none⟩) T.length cap') (withAttrs T k (dropL (nd T k).attrs q)) kv' (upd av' k (.slice aa' (dropL (nd T k).attrs q).length ac')) :=
      HO.out.setAttr hk hx1 (by rw [HAV.out]; exact hg3) (by rw [HAV.out]; exact hf3)
    have hsz := HB2.out.size
    have hs3 := hb3.size
    have hB4 : Below w.heap.size w (w4.setCell ⟨g, k * 7 + 6, none⟩ (.slice aa' (dropL (nd T k).attrs q).length ac')) :=
      ((HB2.out.trans (hb3.mono hsz)).grown hg3 (by omega) (fun j e => by have := (HOA.out.lt j e).1; omega)).setCell (p := ⟨g, k * 7 + 6, none⟩) (by have := (HO.out.row.lt g rfl).1; simp; omega) _
    have HN := hideG hnew
    have HB4 := hideG hB4
    clear hnew hB4 hx1 hg3 hf3
    go_wp2_with fail
    go_ret2
    exact ⟨_, ret_ti rfl HE.out.symm, HB4.out, by rw [HR.out]; exact HN.out.treeAt⟩

theorem drop_any (T : List Nd) (hS : Sane T) (v : Value) (n nm : Int) (w : World) (hT : TreeAt w v T) (hal : ∀ m, m < T.length → (nd T m).attrs.length ≤ 900000) :
    Calls Try.prog 38 #[v, .int .i64 n, .int .i64 nm] w fun e w' => ∃ v', e = .returned (.tuple #[v', .int .i64 (dropE T n nm)]) ∧ Below w.heap.size w w' ∧ TreeAt w' v' (dropR T n nm) := by
  cases hf : (faultE T n != 0)
  · obtain ⟨_, k, hk, hlt⟩ := faultE_zero hf
    exact drop_main T hS v n nm w hT hf (by rw [hk, Int.toNat_natCast]; exact hal k hlt)
  · exact drop_fault T hS v n nm w hT hf
end Go.Proofs.Ytbfomnkapnlgeaa
