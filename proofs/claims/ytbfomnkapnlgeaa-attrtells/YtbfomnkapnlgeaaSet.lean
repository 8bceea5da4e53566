/- attr.Set, walked: for every tree in memory it answers what its Lean twin says, and leaves all that was there. -/
import Derived.Deep.RegionWith
import Derived.Test.YtbfomnkapnlgeaaSetMath
namespace Go.Proofs.Ytbfomnkapnlgeaa
open Go.RowKit

theorem ret_ti {v v' : Value} {a b : Int} (hv : v = v') (h : a = b) : Ending.returned (.tuple #[v, .int .i64 a]) = .returned (.tuple #[v', .int .i64 b]) := by rw [hv, h]

theorem faultE_zero {T : List Nd} {n : Int} (h : (faultE T n != 0) = false) : mayB T = true ∧ ∃ k : Nat, n = k ∧ k < T.length := by
  simp only [faultE] at h
  cases hm : mayB T
  · simp [hm] at h
  · cases hi : isNodeB T.length n
    · simp [hm, hi] at h
    · exact ⟨rfl, isNodeB_true hi⟩

set_option maxRecDepth 100000 in
set_option maxHeartbeats 2000000 in
theorem set_fault (T : List Nd) (hS : Sane T) (v : Value) (n nm vl : Int) (w : World) (hT : TreeAt w v T) (hf : (faultE T n != 0) = true) :
    Calls Try.prog 36 #[v, .int .i64 n, .agg #[.int .i64 nm, .int .i64 vl]] w fun e w' => ∃ v', e = .returned (.tuple #[v', .int .i64 (setE T n (nm, vl))]) ∧ Below w.heap.size w w' ∧ TreeAt w' v' (setR T n (nm, vl)) := by
  obtain ⟨a, cap, rfl⟩ := hT.shape
  have hb0 : ∀ o, Below w.heap.size w (w.alloc o) := fun o => (Below.refl _ w).alloc (Nat.le_refl _) o
  have HT := hideG hT
  have HS := hideG hS
  have HB := hideG hb0
  have hE : setE T n (nm, vl) = faultE T n := by simp only [setE, hf, if_true]
  have HE := hideG hE
  clear hT hS hb0 hE
  cases h1 : (faultE T n == 1)
  all_goals
    go_enter Try.func36, Try.ntmps36
    go_wp2_with (first | (go_at_call 61; refine (fault_any T HS.out _ _ _ (HT.out.below (HB.out _))).mono ?_; rintro e w1 ⟨rfl, hb1⟩) | (go_at_call 63; refine (refuse_any _ _ _ _ _).mono ?_; rintro e w2 ⟨rfl, rfl⟩; rw [h1]; try simp only [Bool.false_eq_true, if_false, if_true]))
    go_ret2
    have hbb := (HB.out (.cells #[.int .i64 nm, .int .i64 vl] 54)).trans (hb1.mono (by simp))
    refine ⟨_, ret_ti rfl HE.out.symm, hbb, ?_⟩
    have hR : setR T n (nm, vl) = if faultE T n == 1 then [] else T := by
      simp only [setR, HE.out]
      have : (faultE T n == 0) = false := by simpa using hf
      simp only [this, Bool.false_eq_true, if_false]
    rw [hR, h1]
    first | exact treeAt_nil _ | exact HT.out.below hbb

set_option maxRecDepth 100000 in
set_option maxHeartbeats 2000000 in
theorem set_kind (T : List Nd) (hS : Sane T) (v : Value) (n nm vl : Int) (w : World) (hT : TreeAt w v T) (hf : (faultE T n != 0) = false) (hk1 : ((nd T n.toNat).kind != 1) = true) (hk3 : ((nd T n.toNat).kind != 3) = true) :
    Calls Try.prog 36 #[v, .int .i64 n, .agg #[.int .i64 nm, .int .i64 vl]] w fun e w' => ∃ v', e = .returned (.tuple #[v', .int .i64 (setE T n (nm, vl))]) ∧ Below w.heap.size w w' ∧ TreeAt w' v' (setR T n (nm, vl)) := by
  obtain ⟨hm, k, rfl, hk⟩ := faultE_zero hf
  rw [Int.toNat_natCast] at hk1 hk3
  have hb0 : ∀ o, Below w.heap.size w (w.alloc o) := fun o => (Below.refl _ w).alloc (Nat.le_refl _) o
  have HT := hideG hT
  have HS := hideG hS
  have HB := hideG hb0
  have hE : setE T k (nm, vl) = 3 := by simp only [setE, hf, Int.toNat_natCast, hk1, hk3, Bool.and_self, Bool.false_eq_true, if_false, if_true]
  have hR : setR T k (nm, vl) = T := by simp only [setR, hE]; simp
  have HE := hideG hE
  have HR := hideG hR
  obtain ⟨b, off, cap, rfl, hc⟩ := hT.at (by omega)
  obtain ⟨kv, av, hN⟩ := hc k hk
  have c0 := hN.kind
  have hbz : b < w.heap.size := below_of_cell c0
  clear hT hS hb0 hE hR hc hN hm
  go_enter Try.func36, Try.ntmps36
  go_wp2_with (first | (go_at_call 61; refine (fault_any T HS.out _ _ _ (HT.out.below (HB.out _))).mono ?_; rintro e w1 ⟨rfl, hb1⟩; have hbb := (HB.out (.cells #[.int .i64 nm, .int .i64 vl] 54)).trans (hb1.mono (by simp)); have g0 := (hbb.cell (p := ⟨b, off + k * 7, none⟩) hbz).trans c0) | (go_at_call 63; refine (refuse_any _ _ _ _ _).mono ?_; rintro e w2 ⟨rfl, rfl⟩; simp only [show ((3 : Int) == 1) = false from rfl, Bool.false_eq_true, if_false]))
  go_ret2
  exact ⟨_, ret_ti rfl HE.out.symm, hbb, by rw [HR.out]; exact HT.out.below hbb⟩

theorem putL_length (l : List (Int × Int)) (a : Int × Int) : (putL l a).length ≤ l.length + 1 := by
  unfold putL
  have := searchL_le a.1 l
  split
  · simp
  · simp; omega
theorem dropL_length (l : List (Int × Int)) (k : Nat) : (dropL l k).length ≤ l.length := by
  unfold dropL
  simp
  omega
theorem sane_withAttrs {T : List Nd} (hS : Sane T) {n : Nat} (hn : n < T.length) {l : List (Int × Int)} (hl : l.length ≤ 1000000) : Sane (withAttrs T n l) := by
  intro m hm
  rw [withAttrs_length] at hm
  rw [nd_withAttrs T n l hn]
  by_cases e : m = n
  · subst e
    rw [if_pos rfl]
    exact ⟨(hS m hm).1, hl⟩
  · rw [if_neg e]
    exact hS m hm

set_option maxRecDepth 100000 in
set_option maxHeartbeats 4000000 in
theorem set_main (T : List Nd) (hS : Sane T) (v : Value) (n nm vl : Int) (w : World) (hT : TreeAt w v T) (hf : (faultE T n != 0) = false) (hkk : ((nd T n.toNat).kind != 1 && (nd T n.toNat).kind != 3) = false) (hal : (nd T n.toNat).attrs.length ≤ 900000) :
    Calls Try.prog 36 #[v, .int .i64 n, .agg #[.int .i64 nm, .int .i64 vl]] w fun e w' => ∃ v', e = .returned (.tuple #[v', .int .i64 (setE T n (nm, vl))]) ∧ Below w.heap.size w w' ∧ TreeAt w' v' (setR T n (nm, vl)) := by
  obtain ⟨hm, k, rfl, hk⟩ := faultE_zero hf
  rw [Int.toNat_natCast] at hkk hal
  have hpos := mayB_pos hm
  have h1000 : T.length ≤ 1000 := by omega
  have hb0 : ∀ o, Below w.heap.size w (w.alloc o) := fun o => (Below.refl _ w).alloc (Nat.le_refl _) o
  have HT := hideG hT
  have HS := hideG hS
  have HB := hideG hb0
  obtain ⟨b, off, cap, rfl, hc⟩ := hT.at (by omega)
  obtain ⟨kv, av, hN⟩ := hc k hk
  have c0 := hN.kind
  have hbz : b < w.heap.size := below_of_cell c0
  clear hT hS hb0 hc hN hm
  have hor : ((nd T k).kind != 1) = false ∨ (((nd T k).kind != 1) = true ∧ ((nd T k).kind != 3) = false) := by
    cases h1 : ((nd T k).kind != 1)
    · exact .inl rfl
    · right
      rw [h1, Bool.true_and] at hkk
      exact ⟨rfl, hkk⟩
  rcases hor with h1 | ⟨h1, h3⟩
  · go_enter Try.func36, Try.ntmps36
    go_wp2_with (first | (go_at_call 61; refine (fault_any T HS.out _ _ _ (HT.out.below (HB.out _))).mono ?_; rintro e w1 ⟨rfl, hb1⟩; simp only [World.size_alloc] at hb1; have hbb := (HB.out (.cells #[.int .i64 nm, .int .i64 vl] 54)).trans (hb1.mono (by omega)); have g0 := (hbb.cell (p := ⟨b, off + k * 7, none⟩) hbz).trans c0; have hcc := hb1.cell (p := ⟨w.heap.size, 0, none⟩) (by simp); have hcc2 := hb1.cell (p := ⟨w.heap.size, 1, none⟩) (by simp); simp only [World.cell?_alloc_new] at hcc hcc2; simp at hcc hcc2) | (go_at_call 47; refine (copy_any T HS.out _ _ (HT.out.below hbb) hpos.1 h1000).mono ?_; rintro e w2 ⟨v', kv', av', rfl, ho, hb2⟩; obtain ⟨g, cap', rfl⟩ := ownsRow_some ho.row hpos.1))
    have hs1 := hb1.size
    simp only [World.size_alloc] at hs1
    have hs2 := hb2.size
    have k0 := (hb2.cell (p := ⟨w.heap.size, 0, none⟩) (by simp; omega)).trans hcc
    have k1 := (hb2.cell (p := ⟨w.heap.size, 1, none⟩) (by simp; omega)).trans hcc2
    have hoa := ho.attrs k hk
    obtain ⟨aa, ac, hav⟩ := ownsRow_shape hoa
    have c6 : w2.cell? ⟨g, k * 7 + 6, none⟩ = some (.slice aa (nd T k).attrs.length ac) := by
      rw [ho.row.cellAt (k * 7 + 6) (by omega), rowL_at (by omega), rowCell_at _ _ _ _ _ (by omega), ← hav]; rfl
    have f6 := ho.row.frozenAt (k * 7 + 6)
    have hgl : g < w2.heap.size := (ho.row.lt g rfl).2
    have hne : some g ≠ (av' k).ownBlock := fun e => ho.ar k hk g e.symm rfl
    rw [hav] at hoa hne
    have HO := hideG ho
    have HA := hideG hoa
    have HAV := hideG hav
    clear ho hoa hav
    have hput : Calls Try.prog 64 #[.slice aa (nd T k).attrs.length ac, .agg #[.int .i64 nm, .int .i64 vl]] w2.drew fun e w3 => ∃ xa xl xc, e = .returned (.slice xa xl xc) ∧ w3.cell? ⟨g, k * 7 + 6, none⟩ = some (.slice aa (nd T k).attrs.length ac) ∧ w3.frozen? ⟨g, k * 7 + 6, none⟩ = false ∧
        Hid (w3.ownsRow w1.heap.size 54 2 (.slice xa xl xc) (putL (nd T k).attrs (nm, vl)).length (attrCells (putL (nd T k).attrs (nm, vl))) ∧ w2.grownBy w3 (Value.ownBlock (.slice aa (nd T k).attrs.length ac)) ∧ (∀ j, Value.ownBlock (.slice xa xl xc) = some j → Value.ownBlock (.slice aa (nd T k).attrs.length ac) = some j ∨ w2.heap.size ≤ j)) := by
      refine (put_any w1.heap.size _ (nd T k).attrs nm vl w2.drew HA.out hs2 hal).mono ?_
      rintro e w3 ⟨x1, rfl, hx1, hg3, hf3⟩
      obtain ⟨xa, xc, rfl⟩ := ownsRow_shape hx1
      exact ⟨xa, _, xc, rfl, (World.cell?_of_block (a := ⟨g, k * 7 + 6, none⟩) (hg3.block g hgl hne)).trans c6, (World.frozen?_of_block (a := ⟨g, k * 7 + 6, none⟩) (hg3.block g hgl hne)).trans f6, hx1, ⟨hg3.os, hg3.tape, hg3.output, hg3.size, hg3.block⟩, hf3⟩
    have HPUT := hideG hput
    clear hput
    go_region_with (go_at_call 64; refine HPUT.out.mono ?_; rintro e w3 ⟨xa, xl, xc, rfl, d6, e6, HX⟩)
    all_goals
      obtain ⟨hx1, hg3, hf3⟩ := HX.out
      have hnew : OwnTree (w3.setCell ⟨g, k * 7 + 6, none⟩ (.slice xa xl xc)) w1.heap.size (.slice (some ⟨g, 0, none⟩) T.length cap') (withAttrs T k (putL (nd T k).attrs (nm, vl))) kv' (upd av' k (.slice xa xl xc)) :=
        HO.out.setAttr hk hx1 (by rw [HAV.out]; exact hg3) (by rw [HAV.out]; exact hf3)
      have hB4 : Below w.heap.size w (w3.setCell ⟨g, k * 7 + 6, none⟩ (.slice xa xl xc)) :=
        ((hbb.trans (hb2.mono (by omega))).grown hg3 (by omega) (fun j e => by have := (HA.out.lt j e).1; omega)).setCell (p := ⟨g, k * 7 + 6, none⟩) (by have := (HO.out.row.lt g rfl).1; simp; omega) _
      have hSn : Sane (withAttrs T k (putL (nd T k).attrs (nm, vl))) := sane_withAttrs HS.out hk (by have := putL_length (nd T k).attrs (nm, vl); omega)
      have HN := hideG hnew
      have HB4 := hideG hB4
      have HSn := hideG hSn
      clear hnew hB4 hSn hx1 hg3 hf3 HX HPUT
      cases hm2 : mayB (withAttrs T k (putL (nd T k).attrs (nm, vl)))
      · have hck : checkE (withAttrs T k (putL (nd T k).attrs (nm, vl))) = 1 := by simp only [checkE, hm2, Bool.false_eq_true, if_false]
        have hE : setE T k (nm, vl) = 7 := by simp only [setE, hf, Int.toNat_natCast, hkk, hm2, Bool.false_eq_true, if_false]
        have hR : setR T k (nm, vl) = T := by simp only [setR, hE]; simp
        have HE := hideG hE
        have HR := hideG hR
        clear hE hR
        go_wp2_with (first | (go_at_call 31; refine (check_any _ HSn.out _ _ HN.out.treeAt).mono ?_; rintro e w5 ⟨rfl, hb5⟩) | (go_at_call 63; refine (refuse_any _ _ _ _ _).mono ?_; rintro e w6 ⟨rfl, rfl⟩; simp only [show ((7 : Int) == 1) = false from rfl, Bool.false_eq_true, if_false]))
        go_ret2
        have hfin := HB4.out.trans (hb5.mono HB4.out.size)
        exact ⟨_, ret_ti rfl HE.out.symm, hfin, by rw [HR.out]; exact HT.out.below hfin⟩
      · have hck : checkE (withAttrs T k (putL (nd T k).attrs (nm, vl))) = 0 := by simp only [checkE, hm2, if_true]
        have hE : setE T k (nm, vl) = 0 := by simp only [setE, hf, Int.toNat_natCast, hkk, hm2, Bool.false_eq_true, if_false, if_true]
        have hR : setR T k (nm, vl) = withAttrs T k (putL (nd T k).attrs (nm, vl)) := by simp only [setR, hE, Int.toNat_natCast]; simp
        have HE := hideG hE
        have HR := hideG hR
        clear hE hR
        go_wp2_with (go_at_call 31; refine (check_any _ HSn.out _ _ HN.out.treeAt).mono ?_; rintro e w5 ⟨rfl, hb5⟩)
        go_ret2
        have hfin := HB4.out.trans (hb5.mono HB4.out.size)
        exact ⟨_, ret_ti rfl HE.out.symm, hfin, by rw [HR.out]; exact HN.out.treeAt.below hb5⟩
  · go_enter Try.func36, Try.ntmps36
    go_wp2_with (first | (go_at_call 61; refine (fault_any T HS.out _ _ _ (HT.out.below (HB.out _))).mono ?_; rintro e w1 ⟨rfl, hb1⟩; simp only [World.size_alloc] at hb1; have hbb := (HB.out (.cells #[.int .i64 nm, .int .i64 vl] 54)).trans (hb1.mono (by omega)); have g0 := (hbb.cell (p := ⟨b, off + k * 7, none⟩) hbz).trans c0; have hcc := hb1.cell (p := ⟨w.heap.size, 0, none⟩) (by simp); have hcc2 := hb1.cell (p := ⟨w.heap.size, 1, none⟩) (by simp); simp only [World.cell?_alloc_new] at hcc hcc2; simp at hcc hcc2) | (go_at_call 47; refine (copy_any T HS.out _ _ (HT.out.below hbb) hpos.1 h1000).mono ?_; rintro e w2 ⟨v', kv', av', rfl, ho, hb2⟩; obtain ⟨g, cap', rfl⟩ := ownsRow_some ho.row hpos.1))
    have hs1 := hb1.size
    simp only [World.size_alloc] at hs1
    have hs2 := hb2.size
    have k0 := (hb2.cell (p := ⟨w.heap.size, 0, none⟩) (by simp; omega)).trans hcc
    have k1 := (hb2.cell (p := ⟨w.heap.size, 1, none⟩) (by simp; omega)).trans hcc2
    have hoa := ho.attrs k hk
    obtain ⟨aa, ac, hav⟩ := ownsRow_shape hoa
    have c6 : w2.cell? ⟨g, k * 7 + 6, none⟩ = some (.slice aa (nd T k).attrs.length ac) := by
      rw [ho.row.cellAt (k * 7 + 6) (by omega), rowL_at (by omega), rowCell_at _ _ _ _ _ (by omega), ← hav]; rfl
    have f6 := ho.row.frozenAt (k * 7 + 6)
    have hgl : g < w2.heap.size := (ho.row.lt g rfl).2
    have hne : some g ≠ (av' k).ownBlock := fun e => ho.ar k hk g e.symm rfl
    rw [hav] at hoa hne
    have HO := hideG ho
    have HA := hideG hoa
    have HAV := hideG hav
    clear ho hoa hav
    have hput : Calls Try.prog 64 #[.slice aa (nd T k).attrs.length ac, .agg #[.int .i64 nm, .int .i64 vl]] w2.drew fun e w3 => ∃ xa xl xc, e = .returned (.slice xa xl xc) ∧ w3.cell? ⟨g, k * 7 + 6, none⟩ = some (.slice aa (nd T k).attrs.length ac) ∧ w3.frozen? ⟨g, k * 7 + 6, none⟩ = false ∧
        Hid (w3.ownsRow w1.heap.size 54 2 (.slice xa xl xc) (putL (nd T k).attrs (nm, vl)).length (attrCells (putL (nd T k).attrs (nm, vl))) ∧ w2.grownBy w3 (Value.ownBlock (.slice aa (nd T k).attrs.length ac)) ∧ (∀ j, Value.ownBlock (.slice xa xl xc) = some j → Value.ownBlock (.slice aa (nd T k).attrs.length ac) = some j ∨ w2.heap.size ≤ j)) := by
      refine (put_any w1.heap.size _ (nd T k).attrs nm vl w2.drew HA.out hs2 hal).mono ?_
      rintro e w3 ⟨x1, rfl, hx1, hg3, hf3⟩
      obtain ⟨xa, xc, rfl⟩ := ownsRow_shape hx1
      exact ⟨xa, _, xc, rfl, (World.cell?_of_block (a := ⟨g, k * 7 + 6, none⟩) (hg3.block g hgl hne)).trans c6, (World.frozen?_of_block (a := ⟨g, k * 7 + 6, none⟩) (hg3.block g hgl hne)).trans f6, hx1, ⟨hg3.os, hg3.tape, hg3.output, hg3.size, hg3.block⟩, hf3⟩
    have HPUT := hideG hput
    clear hput
    go_region_with (go_at_call 64; refine HPUT.out.mono ?_; rintro e w3 ⟨xa, xl, xc, rfl, d6, e6, HX⟩)
    all_goals
      obtain ⟨hx1, hg3, hf3⟩ := HX.out
      have hnew : OwnTree (w3.setCell ⟨g, k * 7 + 6, none⟩ (.slice xa xl xc)) w1.heap.size (.slice (some ⟨g, 0, none⟩) T.length cap') (withAttrs T k (putL (nd T k).attrs (nm, vl))) kv' (upd av' k (.slice xa xl xc)) :=
        HO.out.setAttr hk hx1 (by rw [HAV.out]; exact hg3) (by rw [HAV.out]; exact hf3)
      have hB4 : Below w.heap.size w (w3.setCell ⟨g, k * 7 + 6, none⟩ (.slice xa xl xc)) :=
        ((hbb.trans (hb2.mono (by omega))).grown hg3 (by omega) (fun j e => by have := (HA.out.lt j e).1; omega)).setCell (p := ⟨g, k * 7 + 6, none⟩) (by have := (HO.out.row.lt g rfl).1; simp; omega) _
      have hSn : Sane (withAttrs T k (putL (nd T k).attrs (nm, vl))) := sane_withAttrs HS.out hk (by have := putL_length (nd T k).attrs (nm, vl); omega)
      have HN := hideG hnew
      have HB4 := hideG hB4
      have HSn := hideG hSn
      clear hnew hB4 hSn hx1 hg3 hf3 HX HPUT
      cases hm2 : mayB (withAttrs T k (putL (nd T k).attrs (nm, vl)))
      · have hck : checkE (withAttrs T k (putL (nd T k).attrs (nm, vl))) = 1 := by simp only [checkE, hm2, Bool.false_eq_true, if_false]
        have hE : setE T k (nm, vl) = 7 := by simp only [setE, hf, Int.toNat_natCast, hkk, hm2, Bool.false_eq_true, if_false]
        have hR : setR T k (nm, vl) = T := by simp only [setR, hE]; simp
        have HE := hideG hE
        have HR := hideG hR
        clear hE hR
        go_wp2_with (first | (go_at_call 31; refine (check_any _ HSn.out _ _ HN.out.treeAt).mono ?_; rintro e w5 ⟨rfl, hb5⟩) | (go_at_call 63; refine (refuse_any _ _ _ _ _).mono ?_; rintro e w6 ⟨rfl, rfl⟩; simp only [show ((7 : Int) == 1) = false from rfl, Bool.false_eq_true, if_false]))
        go_ret2
        have hfin := HB4.out.trans (hb5.mono HB4.out.size)
        exact ⟨_, ret_ti rfl HE.out.symm, hfin, by rw [HR.out]; exact HT.out.below hfin⟩
      · have hck : checkE (withAttrs T k (putL (nd T k).attrs (nm, vl))) = 0 := by simp only [checkE, hm2, if_true]
        have hE : setE T k (nm, vl) = 0 := by simp only [setE, hf, Int.toNat_natCast, hkk, hm2, Bool.false_eq_true, if_false, if_true]
        have hR : setR T k (nm, vl) = withAttrs T k (putL (nd T k).attrs (nm, vl)) := by simp only [setR, hE, Int.toNat_natCast]; simp
        have HE := hideG hE
        have HR := hideG hR
        clear hE hR
        go_wp2_with (go_at_call 31; refine (check_any _ HSn.out _ _ HN.out.treeAt).mono ?_; rintro e w5 ⟨rfl, hb5⟩)
        go_ret2
        have hfin := HB4.out.trans (hb5.mono HB4.out.size)
        exact ⟨_, ret_ti rfl HE.out.symm, hfin, by rw [HR.out]; exact HN.out.treeAt.below hb5⟩

theorem set_any (T : List Nd) (hS : Sane T) (v : Value) (n nm vl : Int) (w : World) (hT : TreeAt w v T) (hal : ∀ m, m < T.length → (nd T m).attrs.length ≤ 900000) :
    Calls Try.prog 36 #[v, .int .i64 n, .agg #[.int .i64 nm, .int .i64 vl]] w fun e w' => ∃ v', e = .returned (.tuple #[v', .int .i64 (setE T n (nm, vl))]) ∧ Below w.heap.size w w' ∧ TreeAt w' v' (setR T n (nm, vl)) := by
  cases hf : (faultE T n != 0)
  · cases hkk : ((nd T n.toNat).kind != 1 && (nd T n.toNat).kind != 3)
    · obtain ⟨_, k, hk, hlt⟩ := faultE_zero hf
      exact set_main T hS v n nm vl w hT hf hkk (by rw [hk, Int.toNat_natCast]; exact hal k hlt)
    · simp only [Bool.and_eq_true] at hkk
      exact set_kind T hS v n nm vl w hT hf hkk.1 hkk.2
  · exact set_fault T hS v n nm vl w hT hf
end Go.Proofs.Ytbfomnkapnlgeaa
