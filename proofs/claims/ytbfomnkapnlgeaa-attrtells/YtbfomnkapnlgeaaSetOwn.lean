/- attr.Set, of an element: the tree that it hands back lies by itself. -/
import Derived.Deep.RegionWith
import Derived.Test.YtbfomnkapnlgeaaDrop
namespace Go.Proofs.Ytbfomnkapnlgeaa
open Go.RowKit

/-- A tree in memory, none of it in block B. -/
def Away (B : Nat) (w : World) (v : Value) (T : List Nd) : Prop :=
  ∀ w'' : World, (∀ b o, b ≠ B → b < w.heap.size → w''.cell? ⟨b, o, none⟩ = w.cell? ⟨b, o, none⟩) → TreeAt w'' v T
theorem Away.treeAt {B : Nat} {w : World} {v : Value} {T : List Nd} (h : Away B w v T) : TreeAt w v T := h w (fun _ _ _ _ => rfl)
theorem Away.below {B : Nat} {w w' : World} {v : Value} {T : List Nd} (h : Away B w v T) (hb : Below w.heap.size w w') : Away B w' v T := fun w'' hw =>
  h w'' (fun b o hne hlt => (hw b o hne (by have := hb.size; omega)).trans (hb.cell (p := ⟨b, o, none⟩) hlt))
theorem Away.setCell {B c : Nat} {x : Value} {w : World} {v : Value} {T : List Nd} (h : Away B w v T) : Away B (w.setCell ⟨B, c, none⟩ x) v T := fun w'' hw =>
  h w'' (fun b o hne hlt => (hw b o hne (by simpa using hlt)).trans (World.cell?_setCell_other _ _ _ _ (fun e => hne (by injection e with e1; exact e1.symm))))

theorem ints_away {w w'' : World} {base B : Nat} {v : Value} {l : List Int} (h : w.ownsRow base 3 1 v l.length (intCells l)) (hB : B < base) (hw : ∀ b o, b ≠ B → b < w.heap.size → w''.cell? ⟨b, o, none⟩ = w.cell? ⟨b, o, none⟩) : IntsAt w'' v l := by
  obtain ⟨a, cap, rfl, hc⟩ := ownsRow_ints h
  refine ⟨a, cap, rfl, fun h0 => ?_⟩
  obtain ⟨b, off, rfl, hd⟩ := hc h0
  have hl := h.lt b rfl
  exact ⟨b, off, rfl, fun j hj => (hw b _ (by omega) hl.2).trans (hd j hj)⟩
theorem attrs_away {w w'' : World} {base B : Nat} {v : Value} {l : List (Int × Int)} (h : w.ownsRow base 54 2 v l.length (attrCells l)) (hB : B < base) (hw : ∀ b o, b ≠ B → b < w.heap.size → w''.cell? ⟨b, o, none⟩ = w.cell? ⟨b, o, none⟩) : AttrsAt w'' v l := by
  obtain ⟨a, cap, rfl, hc⟩ := ownsRow_attrs h
  refine ⟨a, cap, rfl, fun h0 => ?_⟩
  obtain ⟨b, off, rfl, hd⟩ := hc h0
  have hl := h.lt b rfl
  exact ⟨b, off, rfl, fun j hj => ⟨(hw b _ (by omega) hl.2).trans (hd j hj).1, (hw b _ (by omega) hl.2).trans (hd j hj).2⟩⟩
theorem away_of_own {w : World} {base B : Nat} {v : Value} {T : List Nd} {kv av : Nat → Value} (h : OwnTree w base v T kv av) (hB : B < base) : Away B w v T := fun w'' hw => by
  rcases h.row.2 with ⟨rfl, h0⟩ | ⟨g, cap, cur, rfl, hb, hg, hn, hm, hs, ht⟩
  · exact ⟨none, 0, by rw [h0], fun h => by omega⟩
  · refine ⟨_, cap, rfl, fun _ => ⟨g, 0, rfl, fun n hn => ⟨kv n, av n, ?_⟩⟩⟩
    have hl := h.row.lt g rfl
    have hc : ∀ f, f < 7 → w''.cell? ⟨g, n * 7 + f, none⟩ = some ((ndCells (nd T n) (kv n) (av n)).getD f undef) := fun f hf => by
      rw [hw g _ (by omega) hl.2, h.row.cellAt (n * 7 + f) (by omega), rowL_at (by omega), rowCell_at _ _ _ _ _ hf]
    rw [Nat.zero_add]
    exact ⟨hc 0 (by omega), hc 1 (by omega), hc 2 (by omega), hc 3 (by omega), hc 4 (by omega), hc 5 (by omega), hc 6 (by omega), ints_away (h.kids n hn) hB hw, attrs_away (h.attrs n hn) hB hw⟩

set_option maxRecDepth 100000 in
set_option maxHeartbeats 4000000 in
theorem set_own (T : List Nd) (hS : Sane T) (v : Value) (n nm vl : Int) (w : World) (hT : TreeAt w v T) (hf : (faultE T n != 0) = false) (hkk : ((nd T n.toNat).kind != 1) = false) (hal : (nd T n.toNat).attrs.length ≤ 900000)
    (hm2 : mayB (withAttrs T n.toNat (putL (nd T n.toNat).attrs (nm, vl))) = true) :
    Calls Try.prog 36 #[v, .int .i64 n, .agg #[.int .i64 nm, .int .i64 vl]] w fun e w' => ∃ a' c', e = .returned (.tuple #[.slice a' T.length c', .int .i64 0]) ∧ Below w.heap.size w w' ∧ ∀ B, B < w.heap.size → Away B w' (.slice a' T.length c') (withAttrs T n.toNat (putL (nd T n.toNat).attrs (nm, vl))) := by
  obtain ⟨hm, k, rfl, hk⟩ := faultE_zero hf
  rw [Int.toNat_natCast] at hkk hal hm2
  rw [Int.toNat_natCast]
  have hpos := mayB_pos hm
  have h1000 : T.length ≤ 1000 := by omega
  have hb0 : ∀ o, Below w.heap.size w (w.alloc o) := fun o => (Below.refl _ w).alloc (Nat.le_refl _) o
  have HT := hideG hT
  have HS := hideG hS
  have HB := hideG hb0
  obtain ⟨b, off, cap, rfl, hc⟩ := hT.at (by omega)
  obtain ⟨kv, av, hN⟩ := hc k hk
  have c0 := hN.kind
  have hbz : b < w.heap.size := below_of_cell c0
  clear hT hS hb0 hc hN hm
  have h1 := hkk
  go_enter Try.func36, Try.ntmps36
  go_wp2_with (first | (go_at_call 61; refine (fault_any T HS.out _ _ _ (HT.out.below (HB.out _))).mono ?_; rintro e w1 ⟨rfl, hb1⟩; simp only [World.size_alloc] at hb1; have hbb := (HB.out (.cells #[.int .i64 nm, .int .i64 vl] 54)).trans (hb1.mono (by omega)); have g0 := (hbb.cell (p := ⟨b, off + k * 7, none⟩) hbz).trans c0; have hcc := hb1.cell (p := ⟨w.heap.size, 0, none⟩) (by simp); have hcc2 := hb1.cell (p := ⟨w.heap.size, 1, none⟩) (by simp); simp only [World.cell?_alloc_new] at hcc hcc2; simp at hcc hcc2) | (go_at_call 47; refine (copy_any T HS.out _ _ (HT.out.below hbb) hpos.1 h1000).mono ?_; rintro e w2 ⟨v', kv', av', rfl, ho, hb2⟩; obtain ⟨g, cap', rfl⟩ := ownsRow_some ho.row hpos.1))
  have hs1 := hb1.size
  simp only [World.size_alloc] at hs1
  have hs2 := hb2.size
  have k0 := (hb2.cell (p := ⟨w.heap.size, 0, none⟩) (by simp; omega)).trans hcc
  have k1 := (hb2.cell (p := ⟨w.heap.size, 1, none⟩) (by simp; omega)).trans hcc2
  have hoa := ho.attrs k hk
  obtain ⟨aa, ac, hav⟩ := ownsRow_shape hoa
  have c6 : w2.cell? ⟨g, k * 7 + 6, none⟩ = some (.slice aa (nd T k).attrs.length ac) := by
    rw [ho.row.cellAt (k * 7 + 6) (by omega), rowL_at (by omega), rowCell_at _ _ _ _ _ (by omega), ← hav]; rfl
  have f6 := ho.row.frozenAt (k * 7 + 6)
  have hgl : g < w2.heap.size := (ho.row.lt g rfl).2
  have hne : some g ≠ (av' k).ownBlock := fun e => ho.ar k hk g e.symm rfl
  rw [hav] at hoa hne
  have HO := hideG ho
  have HA := hideG hoa
  have HAV := hideG hav
  clear ho hoa hav
  have hput : Calls Try.prog 64 #[.slice aa (nd T k).attrs.length ac, .agg #[.int .i64 nm, .int .i64 vl]] w2.drew fun e w3 => ∃ xa xl xc, e = .returned (.slice xa xl xc) ∧ w3.cell? ⟨g, k * 7 + 6, none⟩ = some (.slice aa (nd T k).attrs.length ac) ∧ w3.frozen? ⟨g, k * 7 + 6, none⟩ = false ∧
      Hid (w3.ownsRow w1.heap.size 54 2 (.slice xa xl xc) (putL (nd T k).attrs (nm, vl)).length (attrCells (putL (nd T k).attrs (nm, vl))) ∧ w2.grownBy w3 (Value.ownBlock (.slice aa (nd T k).attrs.length ac)) ∧ (∀ j, Value.ownBlock (.slice xa xl xc) = some j → Value.ownBlock (.slice aa (nd T k).attrs.length ac) = some j ∨ w2.heap.size ≤ j)) := by
    refine (put_any w1.heap.size _ (nd T k).attrs nm vl w2.drew HA.out hs2 hal).mono ?_
    rintro e w3 ⟨x1, rfl, hx1, hg3, hf3⟩
    obtain ⟨xa, xc, rfl⟩ := ownsRow_shape hx1
    exact ⟨xa, _, xc, rfl, (World.cell?_of_block (a := ⟨g, k * 7 + 6, none⟩) (hg3.block g hgl hne)).trans c6, (World.frozen?_of_block (a := ⟨g, k * 7 + 6, none⟩) (hg3.block g hgl hne)).trans f6, hx1, ⟨hg3.os, hg3.tape, hg3.output, hg3.size, hg3.block⟩, hf3⟩
  have HPUT := hideG hput
  clear hput
  go_region_with (go_at_call 64; refine HPUT.out.mono ?_; rintro e w3 ⟨xa, xl, xc, rfl, d6, e6, HX⟩)
  all_goals
    obtain ⟨hx1, hg3, hf3⟩ := HX.out
    have hnew : OwnTree (w3.setCell ⟨g, k * 7 + 6, none⟩ (.slice xa xl xc)) w1.heap.size (.slice (some ⟨g, 0, none⟩) T.length cap') (withAttrs T k (putL (nd T k).attrs (nm, vl))) kv' (upd av' k (.slice xa xl xc)) :=
      HO.out.setAttr hk hx1 (by rw [HAV.out]; exact hg3) (by rw [HAV.out]; exact hf3)
    have hB4 : Below w.heap.size w (w3.setCell ⟨g, k * 7 + 6, none⟩ (.slice xa xl xc)) :=
      ((hbb.trans (hb2.mono (by omega))).grown hg3 (by omega) (fun j e => by have := (HA.out.lt j e).1; omega)).setCell (p := ⟨g, k * 7 + 6, none⟩) (by have := (HO.out.row.lt g rfl).1; simp; omega) _
    have hSn : Sane (withAttrs T k (putL (nd T k).attrs (nm, vl))) := sane_withAttrs HS.out hk (by have := putL_length (nd T k).attrs (nm, vl); omega)
    have HN := hideG hnew
    have HB4 := hideG hB4
    have HSn := hideG hSn
    clear hnew hB4 hSn hx1 hg3 hf3 HX HPUT
    have hck : checkE (withAttrs T k (putL (nd T k).attrs (nm, vl))) = 0 := by simp only [checkE, hm2, if_true]
    go_wp2_with (go_at_call 31; refine (check_any _ HSn.out _ _ HN.out.treeAt).mono ?_; rintro e w5 ⟨rfl, hb5⟩)
    go_ret2
    have hfin := HB4.out.trans (hb5.mono HB4.out.size)
    exact ⟨_, _, rfl, hfin, fun B hB => (away_of_own HN.out (by omega)).below hb5⟩
end Go.Proofs.Ytbfomnkapnlgeaa
