/- Part 7 of what the laws of layer 10 lean on. -/
import Derived.WalkKit
import Derived.WalkSpells
import Derived.WalkLawsBesides
import Derived.Lib.AppendZeros
import Derived.Lib.Overlaps
import Derived.Laws.CopyOwn
import Derived.Deep.RegionLaw
import Derived.Deep.QuietTactic
import Derived.BigQuiet
import Derived.Laws.AppendOwnNone
import Derived.Deep.RegionWith
import Derived.Deep.RegionHeld3
import Derived.Test.YtclhimodopgeoaaGreatTC1
import Derived.Test.YtclhimodopgeoaaGreatTC4
import Derived.Test.YtclhimodopgeoaaGreatTC5
import Derived.Test.YtclhimodopgeoaaGreatTC6
namespace Go.Proofs.YtclhimodopgeoaaGreat
open Go.RowKit Go.Shelf

theorem sort_none (p : Option Addr) (cap : Nat) (w : World) :
    Calls Tryz.prog 173 #[.slice p 0 cap] w fun e w' => e = .returned (.tuple #[]) ∧ w' = w := AnyM.slices_Sort_int_none Tryz.mSort p cap w
theorem sort_own (g : Nat) (base cap : Nat) (l : List Int) (w : World) (ho : w.ownsRow base 3 1 (.slice (some ⟨g, 0, none⟩) l.length cap) l.length (intCells l)) (hl : l.length ≤ 1000000) (hbs : base ≤ w.heap.size) :
    Calls Tryz.prog 173 #[.slice (some ⟨g, 0, none⟩) l.length cap] w fun e w' => e = .returned (.tuple #[]) ∧ w'.ownsRow base 3 1 (.slice (some ⟨g, 0, none⟩) l.length cap) l.length (intCells (sortL l)) ∧ Below base w w' := by
  rcases ho.2 with ⟨e, _⟩ | ⟨g', cap', cur, e, hbase, hgb, r1, r2, r3, r4⟩
  · simp at e
  · simp only [Value.slice.injEq, Option.some.injEq, Addr.mk.injEq, and_true, true_and] at e
    obtain ⟨rfl, rfl⟩ := e
    have hcur : cur.toList.take l.length = l.map (Value.int .i64) := by
      have := r4
      rw [Nat.mul_one] at this
      exact this
    have hH : Go.Sort.Holds (Value.int .i64) w g 0 l.toArray := Go.holds_of_blockI hgb hcur
    have hgl : g < w.heap.size := (Array.getElem?_eq_some_iff.1 hgb).1
    refine Calls.mono (AnyM.slices_Sort_int Tryz.mSort g 0 cap l w hH hgl (by omega)) ?_
    rintro e w' ⟨rfl, n, os, rfl⟩
    refine ⟨rfl, Go.ownsRow_sortedI (by simp) hbase hgb r1 r2 r3, ?_⟩
    exact (Below.refl base w).grown (Go.grownBy_sortedI _) hbs (fun j hj => by cases hj; exact hbase)

set_option maxRecDepth 100000 in
set_option maxHeartbeats 2000000 in
theorem sorted_any (p : List Int) (hp : p.length ≤ 1000) (a0 : Option Addr) (c0 Bs : Nat) (w : World) (hI : IntsAt w (.slice a0 p.length c0) p) (hBs : w.cell? ⟨Bs, 0, none⟩ = some (.slice a0 p.length c0)) :
    Calls Tryz.prog 151 #[.func (.func 174) #[] #[.pointer (some ⟨Bs, 0, none⟩)]] w fun e W' => ∃ a c, e = .returned (.slice a p.length c) ∧ W'.ownsRow w.heap.size 3 1 (.slice a p.length c) p.length (intCells (sortL p)) ∧ Below w.heap.size w W' := by
  have HC := hideG (collectVal_any p hp a0 c0 Bs w hI hBs)
  clear hI hBs
  go_enter Tryz.func151, Tryz.ntmps151
  go_wp2_with fail
  refine HC.out.mono ?_
  rintro e w1 ⟨a, c, rfl, ho, hb⟩
  have HB := hideG hb
  rcases ho.2 with ⟨e0, h0⟩ | ⟨g, cap, cur, e0, hbase, hgb, r1, r2, r3, r4⟩
  · have hp0 : p = [] := List.eq_nil_of_length_eq_zero h0
    subst hp0
    have HO := hideG ho
    simp only [List.length_nil, Value.slice.injEq, true_and] at e0
    obtain ⟨rfl, rfl⟩ := e0
    clear ho hb
    go_wp2_with fail
    refine (sort_none _ _ _).mono ?_
    rintro e w2 ⟨rfl, hw2⟩
    obtain rfl : _ = w2 := hw2.symm
    go_wp2_with fail
    go_ret
    exact ⟨none, 0, rfl, by rw [show sortL [] = [] by simp [sortL]]; exact HO.out, HB.out⟩
  · simp only [Value.slice.injEq, true_and] at e0
    obtain ⟨rfl, rfl⟩ := e0
    have HS := hideG (sort_own g w.heap.size c p w1 ho (by omega) hb.size)
    clear ho hb hgb hbase r1 r2 r3 r4
    go_wp2_with fail
    refine HS.out.mono ?_
    rintro e w2 ⟨rfl, ho2, hb2⟩
    have HO2 := hideG ho2
    have HB2 := hideG hb2
    clear ho2 hb2
    go_wp2_with fail
    go_ret
    exact ⟨_, c, rfl, HO2.out, HB.out.trans HB2.out⟩

set_option maxRecDepth 100000 in
set_option maxHeartbeats 4000000 in
theorem sameOnes_any (l m : List Int) (v u : Value) (w : World) (hL : IntsAt w v l) (hM : IntsAt w u m) (hl : l.length ≤ 1000) (hm : m.length ≤ 1000) :
    Calls Tryz.prog 122 #[v, u] w fun x w' => x = .returned (.bool (sameB l m)) ∧ Below w.heap.size w w' := by
  obtain ⟨la, lc, rfl⟩ := hL.shape
  obtain ⟨ma, mc, rfl⟩ := hM.shape
  obtain ⟨W1, hW1⟩ : ∃ W1, w.alloc (.cells #[.slice la l.length lc] 24) = W1 := ⟨_, rfl⟩
  have hB1 : Below w.heap.size w W1 := by rw [← hW1]; exact (Below.refl _ w).alloc (Nat.le_refl _) _
  have HS1 := hideG (sorted_any l hl la lc w.heap.size W1 (hL.below hB1) (by rw [← hW1]; simp))
  have HB1 := hideG hB1
  have HM := hideG hM
  have HW1 := hideG hW1
  clear hL hM hB1 hW1
  go_enter Tryz.func122, Tryz.ntmps122
  go_wp2_with fail
  refine (callsIn_wide.1 (valI0_in _ _ _ 5 _)).mono ?_
  rintro e wz ⟨rfl, hwz⟩
  rw [HW1.out] at hwz
  obtain rfl : _ = wz := hwz.symm
  go_wp2_with fail
  refine HS1.out.mono ?_
  rintro e w2 ⟨a2, c2, rfl, ho2, hb2⟩
  have HO2 := hideG ho2
  have hB2 := HB1.out.trans (hb2.mono HB1.out.size)
  have HB2 := hideG hB2
  obtain ⟨W3, hW3⟩ : ∃ W3, w2.alloc (.cells #[.slice ma m.length mc] 24) = W3 := ⟨_, rfl⟩
  have hB3 : Below w2.heap.size w2 W3 := by rw [← hW3]; exact (Below.refl _ w2).alloc (Nat.le_refl _) _
  have HS3 := hideG (sorted_any m hm ma mc w2.heap.size W3 ((HM.out.below hB2).below hB3) (by rw [← hW3]; simp))
  have HB3 := hideG hB3
  have HW3 := hideG hW3
  clear ho2 hb2 hB2 hB3 hW3
  go_wp2_with fail
  refine (callsIn_wide.1 (valI0_in _ _ _ 5 _)).mono ?_
  rintro e wz ⟨rfl, hwz⟩
  rw [HW3.out] at hwz
  obtain rfl : _ = wz := hwz.symm
  go_wp2_with fail
  refine HS3.out.mono ?_
  rintro e w4 ⟨a4, c4, rfl, ho4, hb4⟩
  have hI2 : IntsAt w2 (.slice a2 (sortL l).length c2) (sortL l) := by
    have := HO2.out
    rw [← sortL_len l] at this
    exact ownsRow_ints this
  have hI4 : IntsAt w4 (.slice a4 (sortL m).length c4) (sortL m) := by
    have := ho4
    rw [← sortL_len m] at this
    exact ownsRow_ints this
  have hE := equal_any (sortL l) (sortL m) _ _ w4 ((hI2.below HB3.out).below hb4) hI4 (by rw [sortL_len]; omega)
  rw [sortL_len, sortL_len] at hE
  have HE := hideG hE
  have HB4 := hideG (HB2.out.trans ((HB3.out.trans (hb4.mono HB3.out.size)).mono HB2.out.size))
  clear ho4 hb4 hI2 hI4 hE
  go_wp2_with fail
  refine HE.out.mono ?_
  rintro e w5 ⟨rfl, hb5⟩
  have HB5 := hideG hb5
  clear hb5
  go_wp2_with fail
  go_ret
  exact ⟨rfl, HB4.out.trans (HB5.out.mono HB4.out.size)⟩
end Go.Proofs.YtclhimodopgeoaaGreat

namespace Go.Proofs.YtclhimodopgeoaaGreat
open Go.RowKit

theorem Apart.hne {a b : Value} (h : Apart a b) : a.ownBlock = none ∨ a.ownBlock ≠ b.ownBlock := by
  cases ha : a.ownBlock with
  | none => exact .inl rfl
  | some k => exact .inr (fun e => h k ha e.symm)
theorem attrCells_one : ∀ l : List (Int × Int), ∀ u ∈ attrCells l, u.oneCell' = true
  | [], u, hu => by simp [attrCells] at hu
  | a :: l, u, hu => by
    simp only [attrCells, List.mem_cons] at hu
    rcases hu with rfl | rfl | hu
    · rfl
    · rfl
    · exact attrCells_one l u hu
theorem apart_new {w1 : World} {K : Nat} {e : TypeId} {size : Nat} {v u : Value} {n : Nat} {xs : List Value} (h : w1.ownsRow K e size v n xs) (hu : ∀ k, u.ownBlock = some k → k < K) : Apart v u := by
  intro k hv hu'
  have h1 := (h.lt k hv).1
  have h2 := hu k hu'
  omega
theorem ownsRow_attrs {w : World} {base : Nat} {v : Value} {l : List (Int × Int)} (h : w.ownsRow base 60 2 v l.length (attrCells l)) : AttrsAt w v l := by
  rcases h.2 with ⟨rfl, h0⟩ | ⟨g, cap, cur, rfl, hb, hg, hn, hm, hs, ht⟩
  · exact ⟨none, 0, by rw [h0], fun h => by omega⟩
  · refine ⟨_, cap, rfl, fun _ => ⟨g, 0, rfl, fun j hj => ?_⟩⟩
    rw [Nat.zero_add, h.cellAt (j * 2) (by omega), h.cellAt (j * 2 + 1) (by omega)]
    exact attrCells_at hj
theorem infoT54 : (Tryz.prog.info? 60).map (fun i => (i.zero, i.size, i.bytes)) = some (some (.agg #[.int .i64 0, .int .i64 0]), 2, 16) := by kernel_rfl
set_option maxHeartbeats 1000000 in
theorem clone81_some (a : Addr) (n cap : Nat) (cs : List Value) (w : World) (hn : n ≤ 1000000) (hl : cs.length = n * 2) (hc : ∀ j u, cs[j]? = some u → w.cell? (a.add j) = some u) (h1 : ∀ u ∈ cs, u.oneCell' = true) :
    Calls Tryz.prog 114 #[.slice (some a) n cap] w fun e w' => ∃ v', e = .returned v' ∧ w'.ownsRow w.heap.size 60 2 v' n cs ∧ Below w.heap.size w w' ∧ (v' = .slice none 0 0 → False) := by
  obtain ⟨i0, hi, hz0, hz1, hz2⟩ := info_parts infoT54
  have hown : (w.alloc (.cells #[] 60)).ownsRow w.heap.size 60 2 (.slice (some ⟨w.heap.size, 0, none⟩) 0 0) 0 [] := World.ownsRow_made w #[] 0 (Nat.le_refl _) (by simp [maxLen]) rfl
  have HC : Hid (∀ j u, cs[j]? = some u → w.cell? (a.add j) = some u) := hc
  have H1 : Hid (∀ u ∈ cs, u.oneCell' = true) := h1
  have HL : Hid (cs.length = n * 2) := hl
  have he := fun wx => Lib.run_eql_slice_nil (P := Tryz.prog) wx 55 60 (some a) n cap 0 0 Tryz.underlying55
  clear hc h1 hl
  go_enter Tryz.func114, Tryz.ntmps114
  go_wp2_with (at_builtin; refine wpList_append_own _ rfl (.tmp 5) (.tmp 6) 55 rfl w.heap.size 60 i0 _ 2 16 Tryz.underlying55 hi hz0 hz1 hz2 rfl (by decide) _ 0 [] rfl hown a n cap cs rfl HL.out ?h1 H1.out ?h2 ?h3 ?h4 ?h5)
  case h1 => exact fun j u hj => cell_kept' (HC.out j u hj)
  case h2 => simp only [maxLen]; omega
  case h3 => omega
  case h4 => simp
  case h5 =>
    intro v' w' hown' hgrow hnil
    go_wp2_with fail
    go_ret
    refine ⟨v', rfl, by simpa using hown', ?_, ?_⟩
    · exact ((Below.refl _ w).alloc (Nat.le_refl _) _).grown hgrow (by simp) (fun k e => by simp [Value.ownBlock] at e; omega)
    · exact hnil
set_option maxHeartbeats 400000 in
theorem clone81_nil (n cap : Nat) (w : World) :
    Calls Tryz.prog 114 #[.slice none n cap] w fun e w' => e = .returned (.slice none 0 0) ∧ w' = w := by
  have he := fun wx => Lib.run_eql_slice_nil (P := Tryz.prog) wx 55 60 none n cap 0 0 Tryz.underlying55
  go_enter Tryz.func114, Tryz.ntmps114
  go_wp2_with fail
  go_ret
  exact ⟨rfl, rfl⟩
theorem cloneAttrs (kv : Value) (l : List (Int × Int)) (w : World) (h : AttrsAt w kv l) (hl : l.length ≤ 1000000) :
    Calls Tryz.prog 114 #[kv] w fun e w' => ∃ v', e = .returned v' ∧ w'.ownsRow w.heap.size 60 2 v' l.length (attrCells l) ∧ Below w.heap.size w w' := by
  have hk := h
  obtain ⟨a, cap, rfl, hc⟩ := h
  cases a with
  | none =>
    have h0 : l = [] := by
      cases l with
      | nil => rfl
      | cons x l => obtain ⟨b, off, hb, _⟩ := hc (by simp); cases hb
    subst h0
    refine (clone81_nil _ cap w).mono ?_
    rintro e w' ⟨rfl, rfl⟩
    exact ⟨_, rfl, World.ownsRow_nil _ _ _ _, Below.refl _ _⟩
  | some a =>
    refine (clone81_some a l.length cap (attrCells l) w hl (attrCells_length l) hk.cells.2 (attrCells_one l)).mono ?_
    rintro e w' ⟨v', rfl, h1, h2, _⟩
    exact ⟨v', rfl, h1, h2⟩
theorem infoT49 : (Tryz.prog.info? 57).map (fun i => (i.zero, i.size, i.bytes)) = some (some (.agg #[.int .i64 0, .int .i64 0, .int .i64 0, .slice none 0 0, .int .i64 0, .int .i64 0, .slice none 0 0]), 7, 88) := by kernel_rfl
set_option maxHeartbeats 1000000 in
theorem clone79_some (a : Addr) (n cap : Nat) (cs : List Value) (w : World) (hn : n ≤ 1000000) (hl : cs.length = n * 7) (hc : ∀ j u, cs[j]? = some u → w.cell? (a.add j) = some u) (h1 : ∀ u ∈ cs, u.oneCell' = true) :
    Calls Tryz.prog 113 #[.slice (some a) n cap] w fun e w' => ∃ v', e = .returned v' ∧ w'.ownsRow w.heap.size 57 7 v' n cs ∧ Below w.heap.size w w' ∧ (v' = .slice none 0 0 → False) := by
  obtain ⟨i0, hi, hz0, hz1, hz2⟩ := info_parts infoT49
  have hown : (w.alloc (.cells #[] 57)).ownsRow w.heap.size 57 7 (.slice (some ⟨w.heap.size, 0, none⟩) 0 0) 0 [] := World.ownsRow_made w #[] 0 (Nat.le_refl _) (by simp [maxLen]) rfl
  have HC : Hid (∀ j u, cs[j]? = some u → w.cell? (a.add j) = some u) := hc
  have H1 : Hid (∀ u ∈ cs, u.oneCell' = true) := h1
  have HL : Hid (cs.length = n * 7) := hl
  have he := fun wx => Lib.run_eql_slice_nil (P := Tryz.prog) wx 23 57 (some a) n cap 0 0 Tryz.underlying23
  clear hc h1 hl
  go_enter Tryz.func113, Tryz.ntmps113
  go_wp2_with (at_builtin; refine wpList_append_own _ rfl (.tmp 5) (.tmp 6) 23 rfl w.heap.size 57 i0 _ 7 88 Tryz.underlying23 hi hz0 hz1 hz2 rfl (by decide) _ 0 [] rfl hown a n cap cs rfl HL.out ?h1 H1.out ?h2 ?h3 ?h4 ?h5)
  case h1 => exact fun j u hj => cell_kept' (HC.out j u hj)
  case h2 => simp only [maxLen]; omega
  case h3 => omega
  case h4 => simp
  case h5 =>
    intro v' w' hown' hgrow hnil
    go_wp2_with fail
    go_ret
    refine ⟨v', rfl, by simpa using hown', ?_, ?_⟩
    · exact ((Below.refl _ w).alloc (Nat.le_refl _) _).grown hgrow (by simp) (fun k e => by simp [Value.ownBlock] at e; omega)
    · exact hnil
set_option maxHeartbeats 400000 in
theorem clone79_nil (n cap : Nat) (w : World) :
    Calls Tryz.prog 113 #[.slice none n cap] w fun e w' => e = .returned (.slice none 0 0) ∧ w' = w := by
  have he := fun wx => Lib.run_eql_slice_nil (P := Tryz.prog) wx 23 57 none n cap 0 0 Tryz.underlying23
  go_enter Tryz.func113, Tryz.ntmps113
  go_wp2_with fail
  go_ret
  exact ⟨rfl, rfl⟩
def ndCells (x : Nd) (kv av : Value) : List Value := [.int .i64 x.kind, .int .i64 x.tag, .int .i64 x.parent, kv, .int .i64 x.host, .int .i64 x.root, av]
def rowCell (T : List Nd) (kv av : Nat → Value) (j : Nat) : Value := (ndCells (nd T (j / 7)) (kv (j / 7)) (av (j / 7))).getD (j % 7) undef
/-- The cells of a tree's row. -/
def rowL (T : List Nd) (kv av : Nat → Value) : List Value := (List.range (T.length * 7)).map (rowCell T kv av)
def upd {α : Type} (f : Nat → α) (n : Nat) (x : α) : Nat → α := fun m => if m = n then x else f m
theorem rowL_length (T : List Nd) (kv av : Nat → Value) : (rowL T kv av).length = T.length * 7 := by simp [rowL]
theorem rowL_at {T : List Nd} {kv av : Nat → Value} {j : Nat} (h : j < T.length * 7) : (rowL T kv av)[j]? = some (rowCell T kv av j) := by
  simp [rowL, List.getElem?_map, List.getElem?_range h]
theorem rowCell_at (T : List Nd) (kv av : Nat → Value) (n f : Nat) (hf : f < 7) : rowCell T kv av (n * 7 + f) = (ndCells (nd T n) (kv n) (av n)).getD f undef := by
  unfold rowCell
  rw [show (n * 7 + f) / 7 = n by omega, show (n * 7 + f) % 7 = f by omega]
theorem rowL_kv (T : List Nd) (kv av : Nat → Value) (n : Nat) (x : Value) (_hn : n < T.length) : (rowL T kv av).set (n * 7 + 3) x = rowL T (upd kv n x) av := by
  apply List.ext_getElem?
  intro j
  by_cases hj : j < T.length * 7
  · rw [List.getElem?_set, rowL_at hj, rowL_length]
    by_cases e : n * 7 + 3 = j
    · subst e
      rw [if_pos rfl, if_pos (by omega), rowL_at (by omega), rowCell_at _ _ _ _ _ (by omega)]
      simp [ndCells, upd]
    · rw [if_neg e, rowL_at hj]
      congr 1
      obtain ⟨m, f, hf, rfl⟩ : ∃ m f, f < 7 ∧ j = m * 7 + f := ⟨j / 7, j % 7, by omega, by omega⟩
      rw [rowCell_at _ _ _ _ _ hf, rowCell_at _ _ _ _ _ hf]
      by_cases em : m = n
      · subst em
        have : f ≠ 3 := by omega
        match f, hf, this with
        | 0, _, _ => rfl
        | 1, _, _ => rfl
        | 2, _, _ => rfl
        | 4, _, _ => rfl
        | 5, _, _ => rfl
        | 6, _, _ => rfl
      · simp [upd, em]
  · rw [List.getElem?_eq_none (by simp [rowL_length]; omega), List.getElem?_eq_none (by rw [rowL_length]; omega)]
theorem rowL_av (T : List Nd) (kv av : Nat → Value) (n : Nat) (x : Value) (_hn : n < T.length) : (rowL T kv av).set (n * 7 + 6) x = rowL T kv (upd av n x) := by
  apply List.ext_getElem?
  intro j
  by_cases hj : j < T.length * 7
  · rw [List.getElem?_set, rowL_at hj, rowL_length]
    by_cases e : n * 7 + 6 = j
    · subst e
      rw [if_pos rfl, if_pos (by omega), rowL_at (by omega), rowCell_at _ _ _ _ _ (by omega)]
      simp [ndCells, upd]
    · rw [if_neg e, rowL_at hj]
      congr 1
      obtain ⟨m, f, hf, rfl⟩ : ∃ m f, f < 7 ∧ j = m * 7 + f := ⟨j / 7, j % 7, by omega, by omega⟩
      rw [rowCell_at _ _ _ _ _ hf, rowCell_at _ _ _ _ _ hf]
      by_cases em : m = n
      · subst em
        have : f ≠ 6 := by omega
        match f, hf, this with
        | 0, _, _ => rfl
        | 1, _, _ => rfl
        | 2, _, _ => rfl
        | 3, _, _ => rfl
        | 4, _, _ => rfl
        | 5, _, _ => rfl
        | f + 6, h1, h2 => exact absurd (show f + 6 = 6 by omega) h2
      · simp [upd, em]
  · rw [List.getElem?_eq_none (by simp [rowL_length]; omega), List.getElem?_eq_none (by rw [rowL_length]; omega)]
/-- A tree of the call's own. -/
structure OwnTree (w : World) (base : Nat) (v : Value) (T : List Nd) (kv av : Nat → Value) : Prop where
  row : w.ownsRow base 57 7 v T.length (rowL T kv av)
  kids : ∀ n, n < T.length → w.ownsRow base 3 1 (kv n) (nd T n).kids.length (intCells (nd T n).kids)
  attrs : ∀ n, n < T.length → w.ownsRow base 60 2 (av n) (nd T n).attrs.length (attrCells (nd T n).attrs)
  kr : ∀ n, n < T.length → Apart (kv n) v
  ar : ∀ n, n < T.length → Apart (av n) v
  kk : ∀ n m, n < T.length → m < T.length → n ≠ m → Apart (kv n) (kv m)
  aa : ∀ n m, n < T.length → m < T.length → n ≠ m → Apart (av n) (av m)
  ka : ∀ n m, n < T.length → m < T.length → Apart (kv n) (av m)
theorem OwnTree.treeAt {w : World} {base : Nat} {v : Value} {T : List Nd} {kv av : Nat → Value} (h : OwnTree w base v T kv av) : TreeAt w v T := by
  rcases h.row.2 with ⟨rfl, h0⟩ | ⟨g, cap, cur, rfl, hb, hg, hn, hm, hs, ht⟩
  · exact ⟨none, 0, by rw [h0], fun h => by omega⟩
  · refine ⟨_, cap, rfl, fun _ => ⟨g, 0, rfl, fun n hn => ⟨kv n, av n, ?_⟩⟩⟩
    have hc : ∀ f, f < 7 → w.cell? ⟨g, n * 7 + f, none⟩ = some ((ndCells (nd T n) (kv n) (av n)).getD f undef) := fun f hf => by
      rw [h.row.cellAt (n * 7 + f) (by omega), rowL_at (by omega), rowCell_at _ _ _ _ _ hf]
    rw [Nat.zero_add]
    exact ⟨hc 0 (by omega), hc 1 (by omega), hc 2 (by omega), hc 3 (by omega), hc 4 (by omega), hc 5 (by omega), hc 6 (by omega), ownsRow_ints (h.kids n hn), ownsRow_attrs (h.attrs n hn)⟩
theorem nodes_choose {w : World} {b off len : Nat} {T : List Nd} (h : ∀ n, n < len → ∃ kv av, NodeAt w b (off + n * 7) (nd T n) kv av) : ∃ kv av : Nat → Value, ∀ n, n < len → NodeAt w b (off + n * 7) (nd T n) (kv n) (av n) := by
  have h' : ∀ n, ∃ p : Value × Value, n < len → NodeAt w b (off + n * 7) (nd T n) p.1 p.2 := fun n => by
    by_cases hn : n < len
    · obtain ⟨kv, av, h1⟩ := h n hn
      exact ⟨(kv, av), fun _ => h1⟩
    · exact ⟨(undef, undef), fun hn' => absurd hn' hn⟩
  obtain ⟨f, hf⟩ := Classical.axiomOfChoice h'
  exact ⟨fun n => (f n).1, fun n => (f n).2, hf⟩
/-- slices.Clone of a tree's row. -/
theorem cloneTree (T : List Nd) (v : Value) (w : World) (hT : TreeAt w v T) (h1 : 1 ≤ T.length) (h64 : T.length ≤ 1000) :
    Calls Tryz.prog 113 #[v] w fun e w' => ∃ v' kv av, e = .returned v' ∧ w'.ownsRow w.heap.size 57 7 v' T.length (rowL T kv av) ∧ Below w.heap.size w w' ∧
      (∀ n, n < T.length → IntsAt w (kv n) (nd T n).kids ∧ AttrsAt w (av n) (nd T n).attrs) := by
  obtain ⟨b, off, cap, rfl, hc⟩ := hT.at (by omega)
  obtain ⟨kv, av, hN⟩ := nodes_choose hc
  have hcell : ∀ n f, n < T.length → f < 7 → w.cell? ⟨b, off + n * 7 + f, none⟩ = some ((ndCells (nd T n) (kv n) (av n)).getD f undef) := fun n f hn hf => by
    have h := hN n hn
    match f, hf with
    | 0, _ => exact h.kind
    | 1, _ => exact h.tag
    | 2, _ => exact h.parent
    | 3, _ => exact h.kidsc
    | 4, _ => exact h.host
    | 5, _ => exact h.root
    | 6, _ => exact h.attrsc
  refine (clone79_some ⟨b, off, none⟩ T.length cap (rowL T kv av) w (by omega) (rowL_length T kv av) ?_ ?_).mono ?_
  · intro j u hu
    have hj : j < T.length * 7 := by
      have := (List.getElem?_eq_some_iff.1 hu).1
      rwa [rowL_length] at this
    rw [rowL_at hj] at hu
    obtain ⟨m, f, hf, rfl⟩ : ∃ m f, f < 7 ∧ j = m * 7 + f := ⟨j / 7, j % 7, by omega, by omega⟩
    rw [rowCell_at _ _ _ _ _ hf] at hu
    rw [addr_add, ← hu, ← Nat.add_assoc]
    exact hcell m f (by omega) hf
  · intro u hu
    simp only [rowL, List.mem_map, List.mem_range] at hu
    obtain ⟨j, hj, rfl⟩ := hu
    obtain ⟨m, f, hf, rfl⟩ : ∃ m f, f < 7 ∧ j = m * 7 + f := ⟨j / 7, j % 7, by omega, by omega⟩
    rw [rowCell_at _ _ _ _ _ hf]
    have h := hN m (by omega)
    obtain ⟨a1, c1, e1⟩ := h.kids.shape
    obtain ⟨a2, c2, e2⟩ := h.attrs.shape
    rw [e1, e2]
    match f, hf with
    | 0, _ => rfl
    | 1, _ => rfl
    | 2, _ => rfl
    | 3, _ => rfl
    | 4, _ => rfl
    | 5, _ => rfl
    | 6, _ => rfl
  · rintro e w' ⟨v', rfl, h1, h2, _⟩
    exact ⟨v', kv, av, rfl, h1, h2, fun n hn => ⟨(hN n hn).kids, (hN n hn).attrs⟩⟩
structure CopyInv (w wr : World) (v : Value) (T : List Nd) (kv av : Nat → Value) (k : Nat) : Prop where
  below : Below w.heap.size w wr
  row : wr.ownsRow w.heap.size 57 7 v T.length (rowL T kv av)
  kids : ∀ n, n < k → wr.ownsRow w.heap.size 3 1 (kv n) (nd T n).kids.length (intCells (nd T n).kids)
  attrs : ∀ n, n < k → wr.ownsRow w.heap.size 60 2 (av n) (nd T n).attrs.length (attrCells (nd T n).attrs)
  old : ∀ n, k ≤ n → n < T.length → IntsAt w (kv n) (nd T n).kids ∧ AttrsAt w (av n) (nd T n).attrs
  kr : ∀ n, n < k → Apart (kv n) v
  ar : ∀ n, n < k → Apart (av n) v
  kk : ∀ n m, n < k → m < k → n ≠ m → Apart (kv n) (kv m)
  aa : ∀ n m, n < k → m < k → n ≠ m → Apart (av n) (av m)
  ka : ∀ n m, n < k → m < k → Apart (kv n) (av m)
theorem upd_same {α : Type} (f : Nat → α) (n : Nat) (x : α) : upd f n x n = x := by simp [upd]
theorem upd_ne {α : Type} (f : Nat → α) {n m : Nat} (x : α) (h : m ≠ n) : upd f n x m = f m := by simp [upd, h]
theorem CopyInv.step {w wr w1 w3 : World} {T : List Nd} {kv av : Nat → Value} {k g cap : Nat} {x1 x2 : Value} (h : CopyInv w wr (.slice (some ⟨g, 0, none⟩) T.length cap) T kv av k) (hk : k < T.length)
    (h1 : w1.ownsRow wr.heap.size 3 1 x1 (nd T k).kids.length (intCells (nd T k).kids)) (b1 : Below wr.heap.size wr w1)
    (h3 : w3.ownsRow w1.heap.size 60 2 x2 (nd T k).attrs.length (attrCells (nd T k).attrs)) (b3 : Below w1.heap.size (w1.setCell ⟨g, k * 7 + 3, none⟩ x1) w3) :
    CopyInv w (w3.setCell ⟨g, k * 7 + 6, none⟩ x2) (.slice (some ⟨g, 0, none⟩) T.length cap) T (upd kv k x1) (upd av k x2) (k + 1) := by
  have hsz := h.below.size
  obtain ⟨hg0, hg1⟩ := h.row.lt g rfl
  have hb1 := b1.size
  have nx1 : x1.ownBlock ≠ some g := fun e => by have := (h1.lt g e).1; omega
  have nx2 : x2.ownBlock ≠ some g := fun e => by have := (h3.lt g e).1; omega
  -- what was owned ahead of the round, apart from the row
  have F : ∀ {e : TypeId} {size : Nat} {u : Value} {n : Nat} {xs : List Value}, wr.ownsRow w.heap.size e size u n xs → u.ownBlock ≠ some g → (w3.setCell ⟨g, k * 7 + 6, none⟩ x2).ownsRow w.heap.size e size u n xs := fun hu hne =>
    ownsRow_kept_set (ownsRow_below (ownsRow_kept_set (ownsRow_below hu b1 (fun b hb => (hu.lt b hb).2)) hne) b3 (fun b hb => by have := (hu.lt b hb).2; omega)) hne
  have O1 : (w3.setCell ⟨g, k * 7 + 6, none⟩ x2).ownsRow w.heap.size 3 1 x1 (nd T k).kids.length (intCells (nd T k).kids) :=
    ownsRow_base (ownsRow_kept_set (ownsRow_below (ownsRow_kept_set h1 nx1) b3 (fun b hb => (h1.lt b hb).2)) nx1) hsz
  have O2 : (w3.setCell ⟨g, k * 7 + 6, none⟩ x2).ownsRow w.heap.size 60 2 x2 (nd T k).attrs.length (attrCells (nd T k).attrs) :=
    ownsRow_base (ownsRow_kept_set h3 nx2) (by omega)
  have ne : ∀ {u : Value}, Apart u (.slice (some ⟨g, 0, none⟩) T.length cap) → u.ownBlock ≠ some g := fun ha e => ha g e rfl
  have ap : ∀ {u : Value}, u.ownBlock ≠ some g → Apart u (.slice (some ⟨g, 0, none⟩) T.length cap) := fun hne b hb e => hne (by rw [hb]; simpa [Value.ownBlock] using e.symm)
  have oldlt : ∀ {e : TypeId} {size : Nat} {u : Value} {n : Nat} {xs : List Value}, wr.ownsRow w.heap.size e size u n xs → ∀ b, u.ownBlock = some b → b < wr.heap.size := fun hu b hb => (hu.lt b hb).2
  have x1lt : ∀ b, x1.ownBlock = some b → b < w1.heap.size := fun b hb => (h1.lt b hb).2
  refine ⟨?_, ?_, ?_, ?_, ?_, ?_, ?_, ?_, ?_, ?_⟩
  · have s1 : Below w.heap.size w (w1.setCell ⟨g, k * 7 + 3, none⟩ x1) := (h.below.trans (b1.mono hsz)).setCell (p := ⟨g, k * 7 + 3, none⟩) hg0 _
    exact (s1.trans (b3.mono (by omega))).setCell (p := ⟨g, k * 7 + 6, none⟩) hg0 _
  · have r1 := ownsRow_below h.row b1 (fun b hb => (h.row.lt b hb).2)
    have r2 := (r1.stored (k * 7 + 3) x1).1
    have r3 := ownsRow_below r2 b3 (fun b hb => by have := (h.row.lt b hb).2; omega)
    have r4 := (r3.stored (k * 7 + 6) x2).1
    rw [rowL_kv T kv av k x1 hk, rowL_av T _ av k x2 hk] at r4
    exact r4
  · intro n hn
    by_cases e : n = k
    · subst e; rw [upd_same]; exact O1
    · rw [upd_ne _ _ e]; exact F (h.kids n (by omega)) (ne (h.kr n (by omega)))
  · intro n hn
    by_cases e : n = k
    · subst e; rw [upd_same]; exact O2
    · rw [upd_ne _ _ e]; exact F (h.attrs n (by omega)) (ne (h.ar n (by omega)))
  · intro n hn hlt
    rw [upd_ne _ _ (by omega), upd_ne _ _ (by omega)]
    exact h.old n (by omega) hlt
  · intro n hn
    by_cases e : n = k
    · subst e; rw [upd_same]; exact ap nx1
    · rw [upd_ne _ _ e]; exact h.kr n (by omega)
  · intro n hn
    by_cases e : n = k
    · subst e; rw [upd_same]; exact ap nx2
    · rw [upd_ne _ _ e]; exact h.ar n (by omega)
  · intro n m hn hm hnm
    by_cases e : n = k
    · subst e
      rw [upd_same, upd_ne _ _ (Ne.symm hnm)]
      exact apart_new h1 (oldlt (h.kids m (by omega)))
    · by_cases e' : m = k
      · subst e'
        rw [upd_same, upd_ne _ _ e]
        exact (apart_new h1 (oldlt (h.kids n (by omega)))).symm
      · rw [upd_ne _ _ e, upd_ne _ _ e']
        exact h.kk n m (by omega) (by omega) hnm
  · intro n m hn hm hnm
    by_cases e : n = k
    · subst e
      rw [upd_same, upd_ne _ _ (Ne.symm hnm)]
      exact apart_new h3 (fun b hb => by have := oldlt (h.attrs m (by omega)) b hb; omega)
    · by_cases e' : m = k
      · subst e'
        rw [upd_same, upd_ne _ _ e]
        exact (apart_new h3 (fun b hb => by have := oldlt (h.attrs n (by omega)) b hb; omega)).symm
      · rw [upd_ne _ _ e, upd_ne _ _ e']
        exact h.aa n m (by omega) (by omega) hnm
  · intro n m hn hm
    by_cases e' : m = k
    · subst e'
      rw [upd_same]
      by_cases e : n = m
      · subst e; rw [upd_same]; exact (apart_new h3 x1lt).symm
      · rw [upd_ne _ _ e]
        exact (apart_new h3 (fun b hb => by have := oldlt (h.kids n (by omega)) b hb; omega)).symm
    · rw [upd_ne _ _ e']
      by_cases e : n = k
      · subst e; rw [upd_same]; exact apart_new h1 (oldlt (h.attrs m (by omega)))
      · rw [upd_ne _ _ e]
        exact h.ka n m (by omega) (by omega)
theorem cloneTree' (T : List Nd) (v : Value) (w : World) (hT : TreeAt w v T) (h1 : 1 ≤ T.length) (h64 : T.length ≤ 1000) :
    Calls Tryz.prog 113 #[v] w fun e w' => ∃ g cap kv av, e = .returned (.slice (some ⟨g, 0, none⟩) T.length cap) ∧ CopyInv w w' (.slice (some ⟨g, 0, none⟩) T.length cap) T kv av 0 := by
  refine (cloneTree T v w hT h1 h64).mono ?_
  rintro e w' ⟨v', kv, av, rfl, h2, h3, h4⟩
  obtain ⟨g, cap, rfl⟩ := ownsRow_some h2 h1
  exact ⟨g, cap, kv, av, rfl, ⟨h3, h2, fun n h => by omega, fun n h => by omega, fun n _ h => h4 n h, fun n h => by omega, fun n h => by omega, fun n m h => by omega, fun n m h => by omega, fun n m h => by omega⟩⟩
set_option maxRecDepth 100000 in
set_option maxHeartbeats 2000000 in
theorem copy_any (T : List Nd) (hS : Sane T) (v : Value) (w : World) (hT : TreeAt w v T) (h1 : 1 ≤ T.length) (h64 : T.length ≤ 1000) :
    Calls Tryz.prog 70 #[v] w fun e w' => ∃ v' kv av, e = .returned v' ∧ OwnTree w' w.heap.size v' T kv av ∧ Below w.heap.size w w' := by
  have HT : Hid (TreeAt w v T) := hT
  have HS : Hid (Sane T) := hS
  obtain ⟨a, cap0, rfl⟩ : ∃ a c, v = .slice a T.length c := let ⟨a, c, h, _⟩ := hT; ⟨a, c, h⟩
  clear hT
  clear hS
  go_enter Tryz.func70, Tryz.ntmps70
  go_wp2_with (go_at_call 113; refine (cloneTree' T _ _ HT.out h1 h64).mono ?_; rintro e w0 ⟨g, cap, kv0, av0, rfl, hI0⟩)
  go_loopw [9] (fun i wr => ∃ (k : Nat) (kv av : Nat → Value), k ≤ T.length ∧ i = .int .i64 k ∧ CopyInv w wr (.slice (some ⟨g, 0, none⟩) T.length cap) T kv av k) (fun i _ => T.length - (intOf i).toNat)
  case atStart => exact ⟨0, kv0, av0, Nat.zero_le _, rfl, hI0⟩
  case round =>
    obtain ⟨k, kv, av, hk, rfl, hI⟩ := hrel
    have HJ : Hid (CopyInv w wr (.slice (some ⟨g, 0, none⟩) T.length cap) T kv av k) := hI
    by_cases hlt : k < T.length
    · obtain ⟨hi1, hi2⟩ := hI.old k (Nat.le_refl _) hlt
      have hi1r := hi1.below hI.below
      obtain ⟨ka, kc, hkv⟩ := hi1.shape
      obtain ⟨aa, ac, hav⟩ := hi2.shape
      have c3 : wr.cell? ⟨g, k * 7 + 3, none⟩ = some (.slice ka (nd T k).kids.length kc) := by
        rw [hI.row.cellAt (k * 7 + 3) (by omega), rowL_at (by omega), rowCell_at _ _ _ _ _ (by omega), ← hkv]; rfl
      have c6 : wr.cell? ⟨g, k * 7 + 6, none⟩ = some (.slice aa (nd T k).attrs.length ac) := by
        rw [hI.row.cellAt (k * 7 + 6) (by omega), rowL_at (by omega), rowCell_at _ _ _ _ _ (by omega), ← hav]; rfl
      have f3 := hI.row.frozenAt (k * 7 + 3)
      have f6 := hI.row.frozenAt (k * 7 + 6)
      have hg : g < wr.heap.size := (hI.row.lt g rfl).2
      rw [hkv] at hi1r
      rw [hav] at hi2
      have hg0 : w.heap.size ≤ g := (hI.row.lt g rfl).1
      have hbel := hI.below
      obtain ⟨hs1, hs2⟩ := HS.out k hlt
      have HK : Hid (IntsAt wr (.slice ka (nd T k).kids.length kc) (nd T k).kids) := hi1r
      have HA : Hid (AttrsAt w (.slice aa (nd T k).attrs.length ac) (nd T k).attrs) := hi2
      clear hi1 hi2 hi1r hkv hav hI hI0
      go_wp2_with (go_at_call 81; refine (cloneInts _ _ _ HK.out hs1).mono ?_; rintro e w1 ⟨x1, rfl, hx1, hb1⟩; obtain ⟨hcc, hff⟩ := bcell hb1; obtain ⟨a1, cc1, rfl⟩ := ownsRow_shape hx1)
      have hs1' := hb1.size
      have s1 : Below w.heap.size w (w1.setCell ⟨g, k * 7 + 3, none⟩ (.slice a1 (nd T k).kids.length cc1)) := (hbel.trans (hb1.mono hbel.size)).setCell (p := ⟨g, k * 7 + 3, none⟩) hg0 _
      refine (cloneAttrs _ _ _ (HA.out.below s1) hs2).mono ?_
      rintro e w3 ⟨x2, rfl, hx2, hb3⟩
      obtain ⟨a2, cc2, rfl⟩ := ownsRow_shape hx2
      obtain ⟨hcc3, hff3⟩ := bcell hb3
      have hg1 : g < w1.heap.size := by omega
      clear s1
      simp only [World.size_setCell] at hx2 hb3 hcc3 hff3
      go_wp2_with fail
      go_roundw
      case rel => exact ⟨k + 1, _, _, by omega, by go_num, HJ.out.step hlt hx1 hb1 hx2 hb3⟩
      case measure => simp [intOf]; omega
    · have hke : k = T.length := by omega
      subst hke
      clear hI0
      go_wp2_with fail
      go_ret
      exact ⟨_, kv, av, rfl, ⟨hI.row, hI.kids, hI.attrs, hI.kr, hI.ar, hI.kk, hI.aa, hI.ka⟩, hI.below⟩
theorem OwnTree.below {w w' : World} {base : Nat} {v : Value} {T : List Nd} {kv av : Nat → Value} (h : OwnTree w base v T kv av) (hb : Below w.heap.size w w') : OwnTree w' base v T kv av :=
  ⟨ownsRow_below h.row hb (fun g hg => (h.row.lt g hg).2), fun n hn => ownsRow_below (h.kids n hn) hb (fun g hg => ((h.kids n hn).lt g hg).2), fun n hn => ownsRow_below (h.attrs n hn) hb (fun g hg => ((h.attrs n hn).lt g hg).2), h.kr, h.ar, h.kk, h.aa, h.ka⟩
theorem OwnTree.nil (w : World) (base : Nat) : OwnTree w base (.slice none 0 0) [] (fun _ => undef) (fun _ => undef) :=
  ⟨World.ownsRow_nil _ _ _ _, fun n h => by simp at h, fun n h => by simp at h, fun n h => by simp at h, fun n h => by simp at h, fun n m h => by simp at h, fun n m h => by simp at h, fun n m h => by simp at h⟩
/-- Two trees of the same nodes, but for kids and parents. -/
structure SameBut (T T' : List Nd) : Prop where
  len : T'.length = T.length
  at_ : ∀ n, n < T.length → (nd T' n).kind = (nd T n).kind ∧ (nd T' n).tag = (nd T n).tag ∧ (nd T' n).host = (nd T n).host ∧ (nd T' n).root = (nd T n).root ∧ (nd T' n).attrs = (nd T n).attrs
theorem SameBut.refl (T : List Nd) : SameBut T T := ⟨rfl, fun _ _ => ⟨rfl, rfl, rfl, rfl, rfl⟩⟩
theorem SameBut.trans {A B C : List Nd} (h : SameBut A B) (k : SameBut B C) : SameBut A C :=
  ⟨k.len.trans h.len, fun n hn => by
    obtain ⟨a1, a2, a3, a4, a5⟩ := h.at_ n hn
    obtain ⟨b1, b2, b3, b4, b5⟩ := k.at_ n (by rw [h.len]; exact hn)
    exact ⟨b1.trans a1, b2.trans a2, b3.trans a3, b4.trans a4, b5.trans a5⟩⟩
/-- A list of places: three cells each. -/
def PlacesAt (w : World) (v : Value) (l : List (Int × Int × Int)) : Prop :=
  ∃ a cap, v = .slice a l.length cap ∧ (0 < l.length → ∃ b off, a = some ⟨b, off, none⟩ ∧ ∀ j, j < l.length → w.cell? ⟨b, off + j * 3, none⟩ = some (.int .i64 (l.getD j (0, 0, 0)).1) ∧ w.cell? ⟨b, off + j * 3 + 1, none⟩ = some (.int .i64 (l.getD j (0, 0, 0)).2.1) ∧ w.cell? ⟨b, off + j * 3 + 2, none⟩ = some (.int .i64 (l.getD j (0, 0, 0)).2.2))
theorem PlacesAt.below {w w' : World} {v : Value} {l : List (Int × Int × Int)} (h : PlacesAt w v l) (hb : Below w.heap.size w w') : PlacesAt w' v l := by
  obtain ⟨a, cap, rfl, hc⟩ := h
  refine ⟨a, cap, rfl, fun h0 => ?_⟩
  obtain ⟨b, off, rfl, hd⟩ := hc h0
  exact ⟨b, off, rfl, fun j hj => ⟨cell_below hb (hd j hj).1, cell_below hb (hd j hj).2.1, cell_below hb (hd j hj).2.2⟩⟩
end Go.Proofs.YtclhimodopgeoaaGreat

namespace Go.Proofs.YtclhimodopgeoaaGreat
open Go.RowKit

def notB {α : Type} (p : α → Bool) : α → Bool := fun x => !p x
theorem infoT39 : (Tryz.prog.info? 39).map (fun i => (i.zero, i.size, i.bytes)) = some (some (.agg #[.int .i64 0, .int .i64 0]), 2, 16) := by kernel_rfl
theorem shCells_snoc (l : List Sh) (x : Sh) : shCells l ++ [.int .i64 x.node, .int .i64 x.inv] = shCells (l ++ [x]) := by rw [shCells_append]; rfl
theorem row_newS (w : World) (x : Sh) : Holds (w.alloc (.cells #[.int .i64 x.node, .int .i64 x.inv] 39)) (.slice (some ⟨w.heap.size, 0, none⟩) 1 1) 1 [.int .i64 x.node, .int .i64 x.inv] := by
  refine .inl ⟨⟨w.heap.size, 0, none⟩, 1, rfl, fun j u hj => ?_⟩
  rw [addr_add, Nat.zero_add, World.cell?_alloc_at _ _ _ _ (by simp)]
  simpa using hj

set_option maxRecDepth 100000 in
set_option maxHeartbeats 4000000 in
theorem part66 (p : Int → Bool) (bv : Value) (l : List Int) (v : Value) (w : World) (HD : Hid (∀ (x : Int) U, Below w.heap.size w U → Calls Tryz.prog 66 #[bv, .int .i64 x] U (fun e w' => e = .returned (.bool (p x)) ∧ Below U.heap.size U w'))) (hL : IntsAt w v l) (hl : l.length ≤ 1000000) :
    Calls Tryz.prog 65 #[v, .func (.func 66) #[bv] #[]] w fun e w' => ∃ a1 c1 a2 c2, e = .returned (.tuple #[.slice a1 (l.filter p).length c1, .slice a2 (l.filter (notB p)).length c2]) ∧
      w'.ownsRow w.heap.size 3 1 (.slice a1 (l.filter p).length c1) (l.filter p).length (intCells (l.filter p)) ∧ w'.ownsRow w.heap.size 3 1 (.slice a2 (l.filter (notB p)).length c2) (l.filter (notB p)).length (intCells (l.filter (notB p))) ∧
      Apart (.slice a1 (l.filter p).length c1) (.slice a2 (l.filter (notB p)).length c2) ∧ Below w.heap.size w w' := by
  obtain ⟨i3, hi3, hz30, hz31, hz32⟩ := info_parts infoT3
  obtain ⟨a, cap, rfl, hc⟩ := hL
  have HC := hideG hc
  clear hc
  go_enter Tryz.func65, Tryz.ntmps65
  go_wp2_with fail
  go_loopw [4, 5, 10] (fun s g i wr => ∃ (k : Nat) (S G : List Int) (sa ga : Option Addr) (sc gc : Nat), k ≤ l.length ∧ i = .int .i64 (k : Int) ∧ s = .slice sa S.length sc ∧ g = .slice ga G.length gc ∧ S = (l.take k).filter p ∧ G = (l.take k).filter (notB p) ∧
      wr.ownsRow w.heap.size 3 1 (.slice sa S.length sc) S.length (intCells S) ∧ wr.ownsRow w.heap.size 3 1 (.slice ga G.length gc) G.length (intCells G) ∧ Apart (.slice sa S.length sc) (.slice ga G.length gc) ∧ Below w.heap.size w wr) (fun _ _ i _ => l.length - (intOf i).toNat)
  case atStart => exact ⟨0, [], [], none, none, 0, 0, Nat.zero_le _, rfl, rfl, rfl, rfl, rfl, World.ownsRow_nil _ _ _ _, World.ownsRow_nil _ _ _ _, fun k h => by simp [Value.ownBlock] at h, Below.refl _ _⟩
  case round =>
    obtain ⟨k, S, G, sa, ga, sc, gc, hk, rfl, rfl, rfl, hSe, hGe, hoS, hoG, hap, hB⟩ := hrel
    have HOS := hideG hoS
    have HOG := hideG hoG
    have HAP := hideG hap
    have HB := hideG hB
    have HSE := hideG hSe
    have HGE := hideG hGe
    have hSl : S.length ≤ 1000000 := by
      have h1 := List.length_filter_le p (l.take k)
      rw [← hSe, List.length_take] at h1
      omega
    have hGl : G.length ≤ 1000000 := by
      have h1 := List.length_filter_le (notB p) (l.take k)
      rw [← hGe, List.length_take] at h1
      omega
    clear hoS hoG hap hB hSe hGe
    by_cases hlt : k < l.length
    · obtain ⟨b, off, rfl, hd⟩ := HC.out (by omega)
      have hk0 : (0 : Int) ≤ (k : Int) := by omega
      have HTS0 := hideG (show l.take (k + 1) = l.take k ++ [l.getD k 0] by
        rw [List.take_succ_eq_append_getElem hlt, List.getD_eq_getElem?_getD, List.getElem?_eq_getElem hlt]; rfl)
      have c0 := cell_below HB.out (hd k hlt)
      have hbl : b < wr.heap.size := below_of_cell c0
      generalize hx : l.getD k 0 = x at *
      have HTS := HTS0
      have HCALL := hideG (HD.out x wr (HB.out))
      clear hd hx HTS0
      cases hp : p x
      · skip
        have HP := hideG hp
        clear hp
        go_wp2_with fail
        refine HCALL.out.mono ?_
        rintro ex w1 ⟨rfl, hb1⟩
        rw [HP.out]
        have HB1 := hideG ((HB.out).trans (hb1.mono (HB.out).size))
        have HRA := hideG (ownsRow_below HOG.out hb1 (fun j e => (HOG.out.lt j e).2))
        have HRB := hideG (ownsRow_below HOS.out hb1 (fun j e => (HOS.out.lt j e).2))
        have hqq : w.heap.size ≤ w1.heap.size := HB1.out.size
        clear c0 hb1
        go_wp2_with (at_builtin; refine wpList_append_any rfl (.tmp 21) (.tmp 23) 24 rfl w.heap.size 3 i3 _ 1 8 Tryz.underlying24 hi3 hz30 hz31 hz32 rfl (by decide) _ G.length (intCells G) rfl (HRA.out.alloc _) _ 1 [.int .i64 x] rfl (row_new1 _ _) rfl ?h2 ?h3 ?h4 ?h5 ?_)
        case h2 => intro y hy; simp at hy; subst hy; rfl
        case h3 => simp only [maxLen]; omega
        case h4 => omega
        case h5 => simp; omega
        intro v4 w4 ho4 hg4 hf4
        obtain ⟨a4, c4, rfl⟩ := ownsRow_shape ho4
        rw [intCells_snoc] at ho4
        have HB4 := hideG ((HB1.out.alloc HB1.out.size (.cells #[.int .i64 x] 3)).grown hg4 (by simp; omega) (fun j e => (HRA.out.lt j e).1))
        have HO4 := hideG (show w4.ownsRow w.heap.size 3 1 (.slice a4 (G ++ [x]).length c4) (G ++ [x]).length (intCells (G ++ [x])) by rw [List.length_append]; exact ho4)
        have HO5 := hideG ((HRB.out.alloc (.cells #[.int .i64 x] 3)).kept hg4 (Apart.hne HAP.out))
        have HAP4 := hideG (show Apart (.slice sa S.length sc) (.slice a4 (G ++ [x]).length c4) from fun j e1 e2 => by
          rcases hf4 j (by simpa [Value.ownBlock] using e2) with e3 | e3
          · exact HAP.out j e1 e3
          · have := (HRB.out.lt j e1).2; have e4 := hg4.size; (try simp only [World.size_alloc] at e3); omega)
        clear ho4 hg4 hf4
        go_wp2_with fail
        go_roundw
        case rel => exact ⟨k + 1, S, G ++ [x], sa, a4, sc, c4, by omega, by go_num, rfl, by simp, by rw [HTS.out, List.filter_append, ← HSE.out]; simp [HP.out], by rw [HTS.out, List.filter_append, ← HGE.out]; simp [notB, HP.out], HO5.out, HO4.out, HAP4.out, HB4.out⟩
        case measure => simp [intOf]; omega
      · skip
        have HP := hideG hp
        clear hp
        go_wp2_with fail
        refine HCALL.out.mono ?_
        rintro ex w1 ⟨rfl, hb1⟩
        rw [HP.out]
        have HB1 := hideG ((HB.out).trans (hb1.mono (HB.out).size))
        have HRA := hideG (ownsRow_below HOS.out hb1 (fun j e => (HOS.out.lt j e).2))
        have HRB := hideG (ownsRow_below HOG.out hb1 (fun j e => (HOG.out.lt j e).2))
        have hqq : w.heap.size ≤ w1.heap.size := HB1.out.size
        clear c0 hb1
        go_wp2_with (at_builtin; refine wpList_append_any rfl (.tmp 17) (.tmp 19) 24 rfl w.heap.size 3 i3 _ 1 8 Tryz.underlying24 hi3 hz30 hz31 hz32 rfl (by decide) _ S.length (intCells S) rfl (HRA.out.alloc _) _ 1 [.int .i64 x] rfl (row_new1 _ _) rfl ?h2 ?h3 ?h4 ?h5 ?_)
        case h2 => intro y hy; simp at hy; subst hy; rfl
        case h3 => simp only [maxLen]; omega
        case h4 => omega
        case h5 => simp; omega
        intro v4 w4 ho4 hg4 hf4
        obtain ⟨a4, c4, rfl⟩ := ownsRow_shape ho4
        rw [intCells_snoc] at ho4
        have HB4 := hideG ((HB1.out.alloc HB1.out.size (.cells #[.int .i64 x] 3)).grown hg4 (by simp; omega) (fun j e => (HRA.out.lt j e).1))
        have HO4 := hideG (show w4.ownsRow w.heap.size 3 1 (.slice a4 (S ++ [x]).length c4) (S ++ [x]).length (intCells (S ++ [x])) by rw [List.length_append]; exact ho4)
        have HO5 := hideG ((HRB.out.alloc (.cells #[.int .i64 x] 3)).kept hg4 (Apart.hne HAP.out.symm))
        have HAP4 := hideG (show Apart (.slice a4 (S ++ [x]).length c4) (.slice ga G.length gc) from fun j e2 e1 => by
          rcases hf4 j (by simpa [Value.ownBlock] using e2) with e3 | e3
          · exact HAP.out j e3 e1
          · have := (HRB.out.lt j e1).2; have e4 := hg4.size; (try simp only [World.size_alloc] at e3); omega)
        clear ho4 hg4 hf4
        go_wp2_with fail
        go_roundw
        case rel => exact ⟨k + 1, S ++ [x], G, a4, ga, c4, gc, by omega, by go_num, by simp, rfl, by rw [HTS.out, List.filter_append, ← HSE.out]; simp [HP.out], by rw [HTS.out, List.filter_append, ← HGE.out]; simp [notB, HP.out], HO4.out, HO5.out, HAP4.out, HB4.out⟩
        case measure => simp [intOf]; omega
    · have hke : k = l.length := by omega
      subst hke
      have hS' : S = l.filter p := by rw [HSE.out, List.take_length]
      have hG' : G = l.filter (notB p) := by rw [HGE.out, List.take_length]
      clear HSE HGE
      subst hS' hG'
      go_wp2_with fail
      go_ret2
      exact ⟨sa, sc, ga, gc, rfl, HOS.out, HOG.out, HAP.out, HB.out⟩

set_option maxRecDepth 100000 in
set_option maxHeartbeats 4000000 in
theorem part68 (p : Sh → Bool) (bv : Value) (l : List Sh) (v : Value) (w : World) (HD : Hid (∀ (x : Sh) U, Below w.heap.size w U → Calls Tryz.prog 68 #[bv, .agg #[.int .i64 x.node, .int .i64 x.inv]] U (fun e w' => e = .returned (.bool (p x)) ∧ Below U.heap.size U w'))) (hL : ShsAt w v l) (hl : l.length ≤ 1000000) :
    Calls Tryz.prog 67 #[v, .func (.func 68) #[bv] #[]] w fun e w' => ∃ a1 c1 a2 c2, e = .returned (.tuple #[.slice a1 (l.filter p).length c1, .slice a2 (l.filter (notB p)).length c2]) ∧
      w'.ownsRow w.heap.size 39 2 (.slice a1 (l.filter p).length c1) (l.filter p).length (shCells (l.filter p)) ∧ w'.ownsRow w.heap.size 39 2 (.slice a2 (l.filter (notB p)).length c2) (l.filter (notB p)).length (shCells (l.filter (notB p))) ∧
      Apart (.slice a1 (l.filter p).length c1) (.slice a2 (l.filter (notB p)).length c2) ∧ Below w.heap.size w w' := by
  obtain ⟨i3, hi3, hz30, hz31, hz32⟩ := info_parts infoT39
  obtain ⟨a, cap, rfl, hcp, hc⟩ := hL
  have HC := hideG hc
  clear hc hcp
  go_enter Tryz.func67, Tryz.ntmps67
  go_wp2_with fail
  go_loopw [4, 5, 10] (fun s g i wr => ∃ (k : Nat) (S G : List Sh) (sa ga : Option Addr) (sc gc : Nat), k ≤ l.length ∧ i = .int .i64 (k : Int) ∧ s = .slice sa S.length sc ∧ g = .slice ga G.length gc ∧ S = (l.take k).filter p ∧ G = (l.take k).filter (notB p) ∧
      wr.ownsRow w.heap.size 39 2 (.slice sa S.length sc) S.length (shCells S) ∧ wr.ownsRow w.heap.size 39 2 (.slice ga G.length gc) G.length (shCells G) ∧ Apart (.slice sa S.length sc) (.slice ga G.length gc) ∧ Below w.heap.size w wr) (fun _ _ i _ => l.length - (intOf i).toNat)
  case atStart => exact ⟨0, [], [], none, none, 0, 0, Nat.zero_le _, rfl, rfl, rfl, rfl, rfl, World.ownsRow_nil _ _ _ _, World.ownsRow_nil _ _ _ _, fun k h => by simp [Value.ownBlock] at h, Below.refl _ _⟩
  case round =>
    obtain ⟨k, S, G, sa, ga, sc, gc, hk, rfl, rfl, rfl, hSe, hGe, hoS, hoG, hap, hB⟩ := hrel
    have HOS := hideG hoS
    have HOG := hideG hoG
    have HAP := hideG hap
    have HB := hideG hB
    have HSE := hideG hSe
    have HGE := hideG hGe
    have hSl : S.length ≤ 1000000 := by
      have h1 := List.length_filter_le p (l.take k)
      rw [← hSe, List.length_take] at h1
      omega
    have hGl : G.length ≤ 1000000 := by
      have h1 := List.length_filter_le (notB p) (l.take k)
      rw [← hGe, List.length_take] at h1
      omega
    clear hoS hoG hap hB hSe hGe
    by_cases hlt : k < l.length
    · obtain ⟨b, off, rfl, hd⟩ := HC.out (by omega)
      have hk0 : (0 : Int) ≤ (k : Int) := by omega
      have HTS0 := hideG (show l.take (k + 1) = l.take k ++ [l.getD k shD] by
        rw [List.take_succ_eq_append_getElem hlt, List.getD_eq_getElem?_getD, List.getElem?_eq_getElem hlt]; rfl)
      have hH := (hd k hlt).below HB.out
      generalize hx : l.getD k shD = x at *
      have c0 := hH.node
      have c1 := hH.inv
      have hbl : b < wr.heap.size := below_of_cell c0
      clear hH
      have HTS := HTS0
      have HCALL := hideG (HD.out x (wr.alloc (.cells #[.int .i64 x.node, .int .i64 x.inv] 39)) (HB.out.alloc HB.out.size (.cells #[.int .i64 x.node, .int .i64 x.inv] 39)))
      clear hd hx HTS0
      cases hp : p x
      · skip
        have HP := hideG hp
        clear hp
        go_wp2_with fail
        refine HCALL.out.mono ?_
        rintro ex w1 ⟨rfl, hb1⟩
        rw [HP.out]
        have HB1 := hideG ((HB.out.alloc HB.out.size (.cells #[.int .i64 x.node, .int .i64 x.inv] 39)).trans (hb1.mono (HB.out.alloc HB.out.size (.cells #[.int .i64 x.node, .int .i64 x.inv] 39)).size))
        have HRA := hideG (ownsRow_below (HOG.out.alloc (.cells #[.int .i64 x.node, .int .i64 x.inv] 39)) hb1 (fun j e => ((HOG.out.alloc (.cells #[.int .i64 x.node, .int .i64 x.inv] 39)).lt j e).2))
        have HRB := hideG (ownsRow_below (HOS.out.alloc (.cells #[.int .i64 x.node, .int .i64 x.inv] 39)) hb1 (fun j e => ((HOS.out.alloc (.cells #[.int .i64 x.node, .int .i64 x.inv] 39)).lt j e).2))
        have d0 : w1.cell? ⟨wr.heap.size, 0, none⟩ = some (.int .i64 x.node) := cell_below hb1 (by simp)
        have d1 : w1.cell? ⟨wr.heap.size, 1, none⟩ = some (.int .i64 x.inv) := cell_below hb1 (by simp)
        clear c1
        have hqq : w.heap.size ≤ w1.heap.size := HB1.out.size
        clear c0 hb1
        go_wp2_with (at_builtin; refine wpList_append_any rfl (.tmp 21) (.tmp 23) 25 rfl w.heap.size 39 i3 _ 2 16 Tryz.underlying25 hi3 hz30 hz31 hz32 rfl (by decide) _ G.length (shCells G) rfl (HRA.out.alloc _) _ 1 [.int .i64 x.node, .int .i64 x.inv] rfl (row_newS _ _) rfl ?h2 ?h3 ?h4 ?h5 ?_)
        case h2 => intro y hy; simp at hy; rcases hy with rfl | rfl <;> rfl
        case h3 => simp only [maxLen]; omega
        case h4 => omega
        case h5 => simp; omega
        intro v4 w4 ho4 hg4 hf4
        obtain ⟨a4, c4, rfl⟩ := ownsRow_shape ho4
        rw [shCells_snoc] at ho4
        have HB4 := hideG ((HB1.out.alloc HB1.out.size (.cells #[.int .i64 x.node, .int .i64 x.inv] 39)).grown hg4 (by simp; omega) (fun j e => (HRA.out.lt j e).1))
        have HO4 := hideG (show w4.ownsRow w.heap.size 39 2 (.slice a4 (G ++ [x]).length c4) (G ++ [x]).length (shCells (G ++ [x])) by rw [List.length_append]; exact ho4)
        have HO5 := hideG ((HRB.out.alloc (.cells #[.int .i64 x.node, .int .i64 x.inv] 39)).kept hg4 (Apart.hne HAP.out))
        have HAP4 := hideG (show Apart (.slice sa S.length sc) (.slice a4 (G ++ [x]).length c4) from fun j e1 e2 => by
          rcases hf4 j (by simpa [Value.ownBlock] using e2) with e3 | e3
          · exact HAP.out j e1 e3
          · have := (HRB.out.lt j e1).2; have e4 := hg4.size; (try simp only [World.size_alloc] at e3); omega)
        clear ho4 hg4 hf4 d0 d1
        go_wp2_with fail
        go_roundw
        case rel => exact ⟨k + 1, S, G ++ [x], sa, a4, sc, c4, by omega, by go_num, rfl, by simp, by rw [HTS.out, List.filter_append, ← HSE.out]; simp [HP.out], by rw [HTS.out, List.filter_append, ← HGE.out]; simp [notB, HP.out], HO5.out, HO4.out, HAP4.out, HB4.out⟩
        case measure => simp [intOf]; omega
      · skip
        have HP := hideG hp
        clear hp
        go_wp2_with fail
        refine HCALL.out.mono ?_
        rintro ex w1 ⟨rfl, hb1⟩
        rw [HP.out]
        have HB1 := hideG ((HB.out.alloc HB.out.size (.cells #[.int .i64 x.node, .int .i64 x.inv] 39)).trans (hb1.mono (HB.out.alloc HB.out.size (.cells #[.int .i64 x.node, .int .i64 x.inv] 39)).size))
        have HRA := hideG (ownsRow_below (HOS.out.alloc (.cells #[.int .i64 x.node, .int .i64 x.inv] 39)) hb1 (fun j e => ((HOS.out.alloc (.cells #[.int .i64 x.node, .int .i64 x.inv] 39)).lt j e).2))
        have HRB := hideG (ownsRow_below (HOG.out.alloc (.cells #[.int .i64 x.node, .int .i64 x.inv] 39)) hb1 (fun j e => ((HOG.out.alloc (.cells #[.int .i64 x.node, .int .i64 x.inv] 39)).lt j e).2))
        have d0 : w1.cell? ⟨wr.heap.size, 0, none⟩ = some (.int .i64 x.node) := cell_below hb1 (by simp)
        have d1 : w1.cell? ⟨wr.heap.size, 1, none⟩ = some (.int .i64 x.inv) := cell_below hb1 (by simp)
        clear c1
        have hqq : w.heap.size ≤ w1.heap.size := HB1.out.size
        clear c0 hb1
        go_wp2_with (at_builtin; refine wpList_append_any rfl (.tmp 17) (.tmp 19) 25 rfl w.heap.size 39 i3 _ 2 16 Tryz.underlying25 hi3 hz30 hz31 hz32 rfl (by decide) _ S.length (shCells S) rfl (HRA.out.alloc _) _ 1 [.int .i64 x.node, .int .i64 x.inv] rfl (row_newS _ _) rfl ?h2 ?h3 ?h4 ?h5 ?_)
        case h2 => intro y hy; simp at hy; rcases hy with rfl | rfl <;> rfl
        case h3 => simp only [maxLen]; omega
        case h4 => omega
        case h5 => simp; omega
        intro v4 w4 ho4 hg4 hf4
        obtain ⟨a4, c4, rfl⟩ := ownsRow_shape ho4
        rw [shCells_snoc] at ho4
        have HB4 := hideG ((HB1.out.alloc HB1.out.size (.cells #[.int .i64 x.node, .int .i64 x.inv] 39)).grown hg4 (by simp; omega) (fun j e => (HRA.out.lt j e).1))
        have HO4 := hideG (show w4.ownsRow w.heap.size 39 2 (.slice a4 (S ++ [x]).length c4) (S ++ [x]).length (shCells (S ++ [x])) by rw [List.length_append]; exact ho4)
        have HO5 := hideG ((HRB.out.alloc (.cells #[.int .i64 x.node, .int .i64 x.inv] 39)).kept hg4 (Apart.hne HAP.out.symm))
        have HAP4 := hideG (show Apart (.slice a4 (S ++ [x]).length c4) (.slice ga G.length gc) from fun j e2 e1 => by
          rcases hf4 j (by simpa [Value.ownBlock] using e2) with e3 | e3
          · exact HAP.out j e3 e1
          · have := (HRB.out.lt j e1).2; have e4 := hg4.size; (try simp only [World.size_alloc] at e3); omega)
        clear ho4 hg4 hf4 d0 d1
        go_wp2_with fail
        go_roundw
        case rel => exact ⟨k + 1, S ++ [x], G, a4, ga, c4, gc, by omega, by go_num, by simp, rfl, by rw [HTS.out, List.filter_append, ← HSE.out]; simp [HP.out], by rw [HTS.out, List.filter_append, ← HGE.out]; simp [notB, HP.out], HO4.out, HO5.out, HAP4.out, HB4.out⟩
        case measure => simp [intOf]; omega
    · have hke : k = l.length := by omega
      subst hke
      have hS' : S = l.filter p := by rw [HSE.out, List.take_length]
      have hG' : G = l.filter (notB p) := by rw [HGE.out, List.take_length]
      clear HSE HGE
      subst hS' hG'
      go_wp2_with fail
      go_ret2
      exact ⟨sa, sc, ga, gc, rfl, HOS.out, HOG.out, HAP.out, HB.out⟩
end Go.Proofs.YtclhimodopgeoaaGreat

namespace Go.Proofs.YtclhimodopgeoaaGreat
open Go.RowKit

section
variable {P : Program} {ops : Array Oper} {Q : Exit → Act → World → Prop} {md : Region.Mode}

def unlisted (l : Array Bool) : Nat := (List.range l.size).countP fun i => !l.getD i true
theorem unlisted_set {l : Array Bool} {i : Nat} (hi : i < l.size) (h : l.getD i true = false) : unlisted (l.setIfInBounds i true) + 1 = unlisted l := by
  have key : ∀ n, i < n → n ≤ l.size → ((List.range n).countP fun j => !(l.setIfInBounds i true).getD j true) + 1 = (List.range n).countP fun j => !l.getD j true := by
    intro n
    induction n with
    | zero => intro h; omega
    | succ n ih =>
      intro h1 h2
      rw [List.range_succ, List.countP_append, List.countP_append]
      by_cases q : i = n
      · subst q
        have e1 : ((List.range i).countP fun j => !(l.setIfInBounds i true).getD j true) = (List.range i).countP fun j => !l.getD j true := by
          apply List.countP_congr
          intro j hj
          have hj' := List.mem_range.mp hj
          have : (l.setIfInBounds i true).getD j true = l.getD j true := by
            simp only [Array.getD_eq_getD_getElem?]
            rw [Array.getElem?_setIfInBounds_ne (by omega)]
          rw [this]
        have e2 : (l.setIfInBounds i true).getD i true = true := by
          simp only [Array.getD_eq_getD_getElem?]
          rw [Array.getElem?_setIfInBounds_self_of_lt hi]; rfl
        rw [e1]
        have h' : l[i]?.getD true = false := by rw [← Array.getD_eq_getD_getElem?]; exact h
        simp [h']
      · have := ih (by omega) (by omega)
        have e3 : (l.setIfInBounds i true).getD n true = l.getD n true := by
          simp only [Array.getD_eq_getD_getElem?]
          rw [Array.getElem?_setIfInBounds_ne q]
        simp only [List.countP_cons, List.countP_nil, e3]
        omega
  have hs : (l.setIfInBounds i true).size = l.size := by simp
  unfold unlisted
  rw [hs]
  exact key l.size hi (Nat.le_refl _)
theorem unlisted_zero {l : Array Bool} (h : unlisted l = 0) {i : Nat} (hi : i < l.size) : l.getD i true = true := by
  unfold unlisted at h
  rw [List.countP_eq_zero] at h
  have := h i (List.mem_range.mpr hi)
  simpa using this

/-- Each operation waits only for such as stand ahead of it. -/
def aheadB (md : Region.Mode) (ops : Array Oper) : Bool := (List.range ops.size).all fun i => ((ops[i]?).map (·.after.all fun e => !Region.binds md e || decide (e.on < i))).getD true
theorem all_listed (hA : aheadB md ops = true) {l : Array Bool} (hl : l.size = ops.size) (hr : Region.ready md ops l = []) : ∀ i, i < ops.size → l.getD i true = true := by
  intro i
  induction i using Nat.strongRecOn with
  | _ i ih =>
    intro hi
    cases hli : l.getD i true with
    | true => rfl
    | false =>
      exfalso
      have hmem : i ∈ Region.ready md ops l := by
        rw [mem_ready]
        refine ⟨hli, ops[i], by rw [Array.getElem?_eq_getElem hi], fun e he hb => ?_⟩
        have h1 := (List.all_eq_true.mp hA) i (List.mem_range.mpr hi)
        rw [Array.getElem?_eq_getElem hi] at h1
        simp only [Option.map_some, Option.getD_some] at h1
        have h2 := (Array.all_eq_true_iff_forall_mem.mp h1) e he
        rw [hb] at h2
        simp at h2
        have h3 := ih e.on h2 (by omega)
        rw [Array.getD_eq_getD_getElem?] at h3 ⊢
        rw [Array.getElem?_eq_getElem (by omega)] at h3 ⊢
        exact h3
      rw [hr] at hmem
      cases hmem

theorem wpAny_inv (Inv : Array Bool → Act → World → Prop) (hA : aheadB md ops = true)
    (hstep : ∀ i l a w, i ∈ Region.ready md ops l → Inv l a w → wpOp P ops Q i (fun a' w' => Inv (l.setIfInBounds i true) a' w') a w)
    (hend : ∀ l a w, (∀ i, i < ops.size → l.getD i true = true) → Inv l a w → Q .normal a w) :
    ∀ fuel (l : Array Bool) a w, l.size = ops.size → unlisted l ≤ fuel → Inv l a w → wpAny P md ops Q fuel l a w
  | 0, l, a, w, hl, hf, hI => by
    have hz : ∀ i, i < ops.size → l.getD i true = true := fun i hi => unlisted_zero (by omega) (by omega)
    refine ⟨?_, hend l a w hz hI⟩
    rw [List.eq_nil_iff_forall_not_mem]
    intro i hi
    obtain ⟨h1, o, ho, _⟩ := mem_ready.mp hi
    have hi' : i < ops.size := (Array.getElem?_eq_some_iff.mp ho).1
    rw [hz i hi'] at h1
    cases h1
  | fuel + 1, l, a, w, hl, hf, hI => by
    refine ⟨fun hr => hend l a w (all_listed hA hl hr) hI, fun i hi => ?_⟩
    refine wpOp_mono (fun a' w' hI' => wpAny_inv Inv hA hstep hend fuel _ a' w' (by simpa using hl) ?_ hI') (hstep i l a w hi hI)
    obtain ⟨h1, o, ho, _⟩ := mem_ready.mp hi
    have hi' : i < ops.size := (Array.getElem?_eq_some_iff.mp ho).1
    have := unlisted_set (by omega) h1
    omega

/-- **A region that draws its order, by an invariant.** -/
theorem wp_region_inv {id : Nat} {a : Act} {w : World} (Inv : Array Bool → Act → World → Prop) (hm : P.follows .mixedOrders = true) (hA : aheadB .any ops = true)
    (h0 : Inv (Array.replicate ops.size false) a w.drew)
    (hstep : ∀ i l a w, i ∈ Region.ready .any ops l → Inv l a w → wpOp P ops Q i (fun a' w' => Inv (l.setIfInBounds i true) a' w') a w)
    (hend : ∀ l a w, (∀ i, i < ops.size → l.getD i true = true) → Inv l a w → Q .normal a w) : (Code.region id ops true).wp P Q a w :=
  wp_region_any hm (wpAny_inv Inv hA hstep hend _ _ _ _ (by simp) (by
    unfold unlisted
    refine Nat.le_trans List.countP_le_length ?_
    simp) h0)
theorem set_getD {l : Array Bool} {i j : Nat} (hne : i ≠ j) (h : (l.setIfInBounds i true).getD j true = true) : l.getD j true = true := by
  rw [Array.getD_eq_getD_getElem?] at h ⊢
  rwa [Array.getElem?_setIfInBounds_ne hne] at h
/-- Does operation i wait for operation d? -/
def depB (md : Region.Mode) (ops : Array Oper) (i d : Nat) : Bool := ((ops[i]?).map (·.after.any fun e => Region.binds md e && e.on == d)).getD false
theorem dep_of {l : Array Bool} {i d : Nat} (h : i ∈ Region.ready md ops l) (hd : depB md ops i d = true) : l.getD d true = true := by
  obtain ⟨_, o, ho, hall⟩ := mem_ready.mp h
  rw [depB, ho] at hd
  simp only [Option.map_some, Option.getD_some] at hd
  obtain ⟨k, hk, hx⟩ := Array.any_eq_true.mp hd
  rw [Bool.and_eq_true, beq_iff_eq] at hx
  have := hall o.after[k] (Array.getElem_mem hk) hx.1
  rw [hx.2] at this
  rw [Array.getD_eq_getD_getElem?] at this ⊢
  cases hl : l[d]? with
  | none => rfl
  | some b => rw [hl] at this; exact this
theorem inv_step {Inv : Act → World → Prop} {i : Nat} {o : Oper} {a : Act} {w : World} (ho : ops[i]? = some o)
    (h : ∀ K' : Act → World → Prop, Shut (∀ a w, Inv a w → K' a w) → if Region.wanted o (yielded ops a.tmps) = true then Oper.wp P o a w K' Q else K' (a.put o.dst undef) w) : wpOp P ops Q i Inv a w :=
  wpOp_step ho h
theorem inv_skip {Inv : Act → World → Prop} {i : Nat} {o : Oper} {a : Act} {w : World} (ho : ops[i]? = some o) (hw : Region.wanted o (yielded ops a.tmps) = false) (h : Inv (a.put o.dst undef) w) : wpOp P ops Q i Inv a w := by
  unfold wpOp
  simp only [ho, hw, Bool.false_eq_true, if_false]
  exact h
end
end Go.Proofs.YtclhimodopgeoaaGreat

namespace Go.Proofs.YtclhimodopgeoaaGreat
open Go.RowKit

theorem ShsAt.cells {w : World} {a : Addr} {n cap : Nat} {l : List Sh} (h : ShsAt w (.slice (some a) n cap) l) : n = l.length ∧ ∀ j u, (shCells l)[j]? = some u → w.cell? (a.add j) = some u := by
  obtain ⟨a', cap', hv, hcp, hc⟩ := h
  simp only [Value.slice.injEq] at hv
  obtain ⟨rfl, rfl, rfl⟩ := hv
  refine ⟨rfl, fun j u hj => ?_⟩
  have hl : j < l.length * 2 := by rw [← shCells_length l]; exact (List.getElem?_eq_some_iff.mp hj).1
  obtain ⟨b, off, hb, hd⟩ := hc (by omega)
  cases hb
  have hq : j / 2 < l.length := by omega
  obtain ⟨e0, e1⟩ := shCells_at hq
  have hH := hd (j / 2) hq
  rw [addr_add]
  rcases Nat.mod_two_eq_zero_or_one j with hm | hm
  · rw [show j = j / 2 * 2 by omega] at hj ⊢
    rw [e0] at hj
    cases hj
    exact hH.node
  · rw [show j = j / 2 * 2 + 1 by omega] at hj ⊢
    rw [e1] at hj
    cases hj
    rw [← Nat.add_assoc]
    exact hH.inv
set_option maxHeartbeats 1000000 in
theorem clone82_some (a : Addr) (n cap : Nat) (cs : List Value) (w : World) (hn : n ≤ 1000000) (hl : cs.length = n * 2) (hc : ∀ j u, cs[j]? = some u → w.cell? (a.add j) = some u) (h1 : ∀ u ∈ cs, u.oneCell' = true) :
    Calls Tryz.prog 82 #[.slice (some a) n cap] w fun e w' => ∃ v', e = .returned v' ∧ w'.ownsRow w.heap.size 39 2 v' n cs ∧ Below w.heap.size w w' := by
  obtain ⟨i0, hi, hz0, hz1, hz2⟩ := info_parts infoT39
  have hown : (w.alloc (.cells #[] 39)).ownsRow w.heap.size 39 2 (.slice (some ⟨w.heap.size, 0, none⟩) 0 0) 0 [] := World.ownsRow_made w #[] 0 (Nat.le_refl _) (by simp [maxLen]) rfl
  have HC : Hid (∀ j u, cs[j]? = some u → w.cell? (a.add j) = some u) := hc
  have H1 : Hid (∀ u ∈ cs, u.oneCell' = true) := h1
  have HL : Hid (cs.length = n * 2) := hl
  have he := fun wx => Lib.run_eql_slice_nil (P := Tryz.prog) wx 25 39 (some a) n cap 0 0 Tryz.underlying25
  clear hc h1 hl
  go_enter Tryz.func82, Tryz.ntmps82
  go_wp2_with (at_builtin; refine wpList_append_own _ rfl (.tmp 5) (.tmp 6) 25 rfl w.heap.size 39 i0 _ 2 16 Tryz.underlying25 hi hz0 hz1 hz2 rfl (by decide) _ 0 [] rfl hown a n cap cs rfl HL.out ?h1 H1.out ?h2 ?h3 ?h4 ?h5)
  case h1 => exact fun j u hj => cell_kept' (HC.out j u hj)
  case h2 => simp only [maxLen]; omega
  case h3 => omega
  case h4 => simp
  case h5 =>
    intro v' w' hown' hgrow hnil
    go_wp2_with fail
    go_ret
    refine ⟨v', rfl, by simpa using hown', ?_⟩
    exact ((Below.refl _ w).alloc (Nat.le_refl _) _).grown hgrow (by simp) (fun k e => by simp [Value.ownBlock] at e; omega)
set_option maxHeartbeats 400000 in
theorem clone82_nil (n cap : Nat) (w : World) :
    Calls Tryz.prog 82 #[.slice none n cap] w fun e w' => e = .returned (.slice none 0 0) ∧ w' = w := by
  have he := fun wx => Lib.run_eql_slice_nil (P := Tryz.prog) wx 25 39 none n cap 0 0 Tryz.underlying25
  go_enter Tryz.func82, Tryz.ntmps82
  go_wp2_with fail
  go_ret
  exact ⟨rfl, rfl⟩
theorem cloneShs (kv : Value) (l : List Sh) (w : World) (h : ShsAt w kv l) (hl : l.length ≤ 1000000) :
    Calls Tryz.prog 82 #[kv] w fun e w' => ∃ v', e = .returned v' ∧ w'.ownsRow w.heap.size 39 2 v' l.length (shCells l) ∧ Below w.heap.size w w' := by
  have hk := h
  obtain ⟨a, cap, rfl, hcp, hc⟩ := h
  cases a with
  | none =>
    have h0 : l = [] := by
      cases l with
      | nil => rfl
      | cons x l => obtain ⟨b, off, hb, _⟩ := hc (by simp); cases hb
    subst h0
    refine (clone82_nil _ cap w).mono ?_
    rintro e w' ⟨rfl, rfl⟩
    exact ⟨_, rfl, World.ownsRow_nil _ _ _ _, Below.refl _ _⟩
  | some a => exact clone82_some a l.length cap (shCells l) w hl (shCells_length l) hk.cells.2 (shCells_one l)

theorem ownsRow_in {U W : World} {base : Nat} {e : TypeId} {size : Nat} {v : Value} {n : Nat} {xs : List Value} (h : U.ownsRow base e size v n xs) (hW : ∀ k, v.ownBlock = some k → W.heap[k]? = U.heap[k]?) : W.ownsRow base e size v n xs := by
  refine ⟨h.1, ?_⟩
  rcases h.2 with h | ⟨g, cap, cur, rfl, b, hg, r⟩
  · exact .inl h
  · exact .inr ⟨g, cap, cur, rfl, b, (hW g rfl).trans hg, r⟩
theorem ownsRow_rebase {U : World} {base base2 : Nat} {e : TypeId} {size : Nat} {v : Value} {n : Nat} {xs : List Value} (h : U.ownsRow base e size v n xs) (hk : ∀ k, v.ownBlock = some k → base2 ≤ k) : U.ownsRow base2 e size v n xs := by
  refine ⟨h.1, ?_⟩
  rcases h.2 with h | ⟨g, cap, cur, rfl, b, r⟩
  · exact .inl h
  · exact .inr ⟨g, cap, cur, rfl, hk g rfl, r⟩
/-- A tree that lies in a part of the memory. -/
def TreeIn (U : World) (I : Nat × Nat) (v : Value) (T : List Nd) : Prop := ∀ W : World, (∀ j, I.1 ≤ j → j < I.2 → W.heap[j]? = U.heap[j]?) → TreeAt W v T
theorem TreeIn.at {U : World} {I : Nat × Nat} {v : Value} {T : List Nd} (h : TreeIn U I v T) : TreeAt U v T := h U (fun _ _ _ => rfl)
theorem TreeIn.keep {U W : World} {I : Nat × Nat} {v : Value} {T : List Nd} (h : TreeIn U I v T) (hW : ∀ j, I.1 ≤ j → j < I.2 → W.heap[j]? = U.heap[j]?) : TreeIn W I v T :=
  fun X hX => h X (fun j h1 h2 => (hX j h1 h2).trans (hW j h1 h2))
theorem OwnTree.in {U : World} {base : Nat} {v : Value} {T : List Nd} {kv av : Nat → Value} (h : OwnTree U base v T kv av) : TreeIn U (base, U.heap.size) v T := fun W hW => by
  have hk : ∀ {e : TypeId} {sz : Nat} {x : Value} {n : Nat} {xs : List Value}, U.ownsRow base e sz x n xs → W.ownsRow base e sz x n xs := fun hr => ownsRow_in hr (fun k hk => hW k (hr.lt k hk).1 (hr.lt k hk).2)
  exact OwnTree.treeAt (kv := kv) (av := av) ⟨hk h.row, fun n hn => hk (h.kids n hn), fun n hn => hk (h.attrs n hn), h.kr, h.ar, h.kk, h.aa, h.ka⟩
theorem treeAt_nilS {W : World} {a : Option Addr} {c : Nat} : TreeAt W (.slice a 0 c) [] := ⟨a, c, rfl, fun h => by simp at h⟩
/-- A row in a part of the memory. -/
def RowIn (U : World) (I : Nat × Nat) (e : TypeId) (sz : Nat) (v : Value) (n : Nat) (xs : List Value) : Prop := U.ownsRow I.1 e sz v n xs ∧ ∀ k, v.ownBlock = some k → k < I.2
theorem RowIn.keep {U W : World} {I : Nat × Nat} {e : TypeId} {sz : Nat} {v : Value} {n : Nat} {xs : List Value} (h : RowIn U I e sz v n xs) (hW : ∀ j, I.1 ≤ j → j < I.2 → W.heap[j]? = U.heap[j]?) : RowIn W I e sz v n xs :=
  ⟨ownsRow_in h.1 (fun k hk => hW k (h.1.lt k hk).1 (h.2 k hk)), h.2⟩
theorem rowIn_of {U w : World} {e : TypeId} {sz : Nat} {v : Value} {n : Nat} {xs : List Value} (h : U.ownsRow w.heap.size e sz v n xs) : RowIn U (w.heap.size, U.heap.size) e sz v n xs := ⟨h, fun k hk => (h.lt k hk).2⟩

set_option maxHeartbeats 1000000 in
theorem copy0_any (a : Option Addr) (c : Nat) (w : World) :
    Calls Tryz.prog 70 #[.slice a 0 c] w fun e w' => ∃ v', e = .returned v' ∧ TreeIn w' (w.heap.size, w'.heap.size) v' [] ∧ Below w.heap.size w w' := by
  have HC := hideG (show Calls Tryz.prog 113 #[.slice a 0 c] w (fun e w' => ∃ a' c', e = .returned (.slice a' 0 c') ∧ Below w.heap.size w w') from by
    cases a with
    | none =>
      refine (clone79_nil 0 c w).mono ?_
      rintro e w' ⟨rfl, rfl⟩
      exact ⟨none, 0, rfl, Below.refl _ _⟩
    | some a =>
      refine (clone79_some a 0 c [] w (by omega) rfl (fun j u h => by simp at h) (fun u h => by simp at h)).mono ?_
      rintro e w' ⟨v', rfl, h1, h2, _⟩
      obtain ⟨a', c', rfl⟩ := ownsRow_shape h1
      exact ⟨a', c', rfl, h2⟩)
  go_enter Tryz.func70, Tryz.ntmps70
  go_wp2_with fail
  refine HC.out.mono ?_
  rintro e w1 ⟨a', c', rfl, hb1⟩
  have HB := hideG hb1
  clear hb1
  go_wp2_with fail
  go_loopw [9] (fun i wr => i = .int .i64 0 ∧ Below w.heap.size w wr) (fun _ _ => 0)
  case atStart => exact ⟨rfl, HB.out⟩
  case round =>
    obtain ⟨rfl, hB⟩ := hrel
    have HB2 := hideG hB
    clear hB
    go_wp2_with fail
    go_ret
    exact ⟨_, rfl, fun W _ => treeAt_nilS (W := W) (a := a') (c := c'), HB2.out⟩
theorem treeCopy_any (T : List Nd) (hS : Sane T) (v : Value) (w : World) (hT : TreeAt w v T) (h64 : T.length ≤ 1000) :
    Calls Tryz.prog 70 #[v] w fun e w' => ∃ v', e = .returned v' ∧ TreeIn w' (w.heap.size, w'.heap.size) v' T ∧ Below w.heap.size w w' := by
  by_cases h1 : 1 ≤ T.length
  · refine (copy_any T hS v w hT h1 h64).mono ?_
    rintro e w' ⟨v', kv, av, rfl, ho, hb⟩
    exact ⟨v', rfl, ho.in, hb⟩
  · have h0 : T = [] := List.eq_nil_of_length_eq_zero (by omega)
    subst h0
    obtain ⟨a, c, rfl⟩ := hT.shape
    exact copy0_any a c w
def upPart (f : Nat → Nat × Nat) (i : Nat) (p : Nat × Nat) : Nat → Nat × Nat := fun j => if j = i then p else f j
def DisI (p q : Nat × Nat) : Prop := p.2 ≤ q.1 ∨ q.2 ≤ p.1
/-- The parts do not meet, and lie between base and N. -/
structure Parts (f : Nat → Nat × Nat) (n base N : Nat) : Prop where
  le : ∀ i, i < n → base ≤ (f i).1 ∧ (f i).1 ≤ (f i).2 ∧ (f i).2 ≤ N
  dis : ∀ i j, i < n → j < n → i ≠ j → DisI (f i) (f j)
theorem DisI.symm {p q : Nat × Nat} (h : DisI p q) : DisI q p := Or.symm h
/-- A view of one's own. -/
structure OwnV (w : World) (base : Nat) (f : Nat → Nat × Nat) (tv ov mv pv qv : Value) (V : Vw) : Prop where
  parts : Parts f 5 base w.heap.size
  tree : TreeIn w (f 0) tv V.tree
  op : RowIn w (f 1) 3 1 ov V.op.length (intCells V.op)
  modal : RowIn w (f 2) 3 1 mv V.modal.length (intCells V.modal)
  pops : RowIn w (f 3) 39 2 pv V.pops.length (shCells V.pops)
  top : RowIn w (f 4) 3 1 qv V.top.length (intCells V.top)
theorem rowInts {U : World} {I : Nat × Nat} {v : Value} {l : List Int} (h : RowIn U I 3 1 v l.length (intCells l)) : IntsAt U v l := by
  obtain ⟨a, c, rfl⟩ := ownsRow_shape h.1
  exact ownsRow_ints h.1
theorem rowShs {U : World} {I : Nat × Nat} {v : Value} {l : List Sh} (h : RowIn U I 39 2 v l.length (shCells l)) : ShsAt U v l := ownsRow_shs h.1
theorem OwnV.at {w : World} {base : Nat} {f : Nat → Nat × Nat} {tv ov mv pv qv : Value} {V : Vw} (h : OwnV w base f tv ov mv pv qv V) : ViewAt w tv ov mv pv qv V :=
  ⟨h.tree.at, rowInts h.op, rowInts h.modal, rowShs h.pops, rowInts h.top⟩
theorem OwnV.keep {w W : World} {base : Nat} {f : Nat → Nat × Nat} {tv ov mv pv qv : Value} {V : Vw} (h : OwnV w base f tv ov mv pv qv V) (hs : w.heap.size ≤ W.heap.size) (hW : ∀ j, base ≤ j → j < w.heap.size → W.heap[j]? = w.heap[j]?) : OwnV W base f tv ov mv pv qv V := by
  have hk : ∀ i, i < 5 → ∀ j, (f i).1 ≤ j → j < (f i).2 → W.heap[j]? = w.heap[j]? := fun i hi j h1 h2 => by
    have := h.parts.le i hi
    exact hW j (by omega) (by omega)
  exact ⟨⟨fun i hi => by have := h.parts.le i hi; omega, h.parts.dis⟩, h.tree.keep (hk 0 (by omega)), h.op.keep (hk 1 (by omega)), h.modal.keep (hk 2 (by omega)), h.pops.keep (hk 3 (by omega)), h.top.keep (hk 4 (by omega))⟩
theorem OwnV.below {w W : World} {base : Nat} {f : Nat → Nat × Nat} {tv ov mv pv qv : Value} {V : Vw} (h : OwnV w base f tv ov mv pv qv V) (hb : Below w.heap.size w W) : OwnV W base f tv ov mv pv qv V :=
  h.keep hb.size (fun j _ h2 => hb.block j h2)
end Go.Proofs.YtclhimodopgeoaaGreat

namespace Go.Proofs.YtclhimodopgeoaaGreat
open Go.RowKit

structure IvL (l : Array Bool) (f : Nat → Nat × Nat) (n b N : Nat) : Prop where
  base : b ≤ N
  size : l.size = n
  le : ∀ i, l.getD i true = true → i < n → b ≤ (f i).1 ∧ (f i).1 ≤ (f i).2 ∧ (f i).2 ≤ N
  dis : ∀ i j, l.getD i true = true → l.getD j true = true → i < n → j < n → i ≠ j → DisI (f i) (f j)
theorem set_getD' {l : Array Bool} {i j : Nat} (h : l.getD j true = true) : (l.setIfInBounds i true).getD j true = true := by
  rw [Array.getD_eq_getD_getElem?] at h ⊢
  by_cases q : i = j
  · subst q
    by_cases hi : i < l.size
    · rw [Array.getElem?_setIfInBounds_self_of_lt hi]; rfl
    · rw [Array.getElem?_eq_none (by simpa using hi)]; rfl
  · rwa [Array.getElem?_setIfInBounds_ne q]
theorem IvL.start (n : Nat) (f : Nat → Nat × Nat) (b N : Nat) (hb : b ≤ N := by first | exact Nat.le_refl _ | omega) : IvL (Array.replicate n false) f n b N :=
  ⟨hb, by simp, fun i h hi => by simp [Array.getD_eq_getD_getElem?, hi] at h, fun i j h _ hi _ _ => by simp [Array.getD_eq_getD_getElem?, hi] at h⟩
theorem IvL.step {l : Array Bool} {f : Nat → Nat × Nat} {n b N N' i : Nat} (h : IvL l f n b N) (_hun : l.getD i true = false) (_hi : i < n) (hN : N ≤ N') : IvL (l.setIfInBounds i true) (upPart f i (N, N')) n b N' := by
  have hb := h.base
  refine ⟨by omega, by simpa using h.size, fun k hk hkn => ?_, fun k m hk hm hkn hmn hne => ?_⟩
  · unfold upPart
    by_cases q : k = i
    · rw [if_pos q]; exact ⟨hb, hN, Nat.le_refl _⟩
    · rw [if_neg q]
      have := h.le k (set_getD (by omega) hk) hkn
      omega
  · unfold upPart
    by_cases q : k = i
    · rw [if_pos q, if_neg (by omega)]
      have := h.le m (set_getD (by omega) hm) hmn
      exact .inr this.2.2
    · by_cases q2 : m = i
      · rw [if_neg q, if_pos q2]
        have := h.le k (set_getD (by omega) hk) hkn
        exact .inl this.2.2
      · rw [if_neg q, if_neg q2]
        exact h.dis k m (set_getD (by omega) hk) (set_getD (by omega) hm) hkn hmn hne
theorem IvL.old {l : Array Bool} {f : Nat → Nat × Nat} {n b j : Nat} {U U' : World} (h : IvL l f n b U.heap.size) (hj : l.getD j true = true) (hjn : j < n) (hk : ∀ m, b ≤ m → m < U.heap.size → U'.heap[m]? = U.heap[m]?) : ∀ m, (f j).1 ≤ m → m < (f j).2 → U'.heap[m]? = U.heap[m]? := fun m h1 h2 => by
  have := h.le j hj hjn
  exact hk m (by omega) (by omega)
structure IvA (f : Nat → Nat × Nat) (n b N : Nat) : Prop where
  le : ∀ i, i < n → b ≤ (f i).1 ∧ (f i).1 ≤ (f i).2 ∧ (f i).2 ≤ N
  dis : ∀ i j, i < n → j < n → i ≠ j → DisI (f i) (f j)
theorem IvL.all {l : Array Bool} {f : Nat → Nat × Nat} {n b N : Nat} (h : IvL l f n b N) (ha : ∀ i, i < n → l.getD i true = true) : IvA f n b N :=
  ⟨fun i hi => h.le i (ha i hi) hi, fun i j hi hj hne => h.dis i j (ha i hi) (ha j hj) hi hj hne⟩
/-- The world of a region that lays things, and writes the block R of a result. -/
structure CpS (w W0 : World) (R : Nat) (U : World) : Prop where
  bel : Below w.heap.size w U
  size : W0.heap.size ≤ U.heap.size
  old : ∀ j, j < W0.heap.size → j ≠ R → U.heap[j]? = W0.heap[j]?
  c : ∀ j, j < 5 → ∃ u, U.cell? ⟨R, j, none⟩ = some u ∧ U.frozen? ⟨R, j, none⟩ = false
theorem CpS.below {w W0 U U' : World} {R : Nat} (h : CpS w W0 R U) (hb : Below U.heap.size U U') : CpS w W0 R U' := by
  have hs := h.size
  exact ⟨h.bel.trans (hb.mono h.bel.size), Nat.le_trans hs hb.size, fun j h1 h2 => (hb.block j (by omega)).trans (h.old j h1 h2), fun j hj => let ⟨u, h1, h2⟩ := h.c j hj; ⟨u, cell_below hb h1, frozen_below hb h1 h2⟩⟩
theorem CpS.cell {w W0 U : World} {R : Nat} (h : CpS w W0 R U) {b o : Nat} {v : Value} (hc : W0.cell? ⟨b, o, none⟩ = some v) (hne : b ≠ R) : U.cell? ⟨b, o, none⟩ = some v :=
  (World.cell?_of_block (a := ⟨b, o, none⟩) (h.old b (below_of_cell hc) hne)).trans hc
/-- Five cells of one block, written one behind the other. -/
def set5 (U : World) (R : Nat) (v0 v1 v2 v3 v4 : Value) : World := ((((U.setCell ⟨R, 0, none⟩ v0).setCell ⟨R, 1, none⟩ v1).setCell ⟨R, 2, none⟩ v2).setCell ⟨R, 3, none⟩ v3).setCell ⟨R, 4, none⟩ v4
theorem set5_at {U : World} {R : Nat} {v0 v1 v2 v3 v4 : Value} (h : ∀ j, j < 5 → ∃ u, U.cell? ⟨R, j, none⟩ = some u ∧ U.frozen? ⟨R, j, none⟩ = false) :
    (set5 U R v0 v1 v2 v3 v4).cell? ⟨R, 0, none⟩ = some v0 ∧ (set5 U R v0 v1 v2 v3 v4).cell? ⟨R, 1, none⟩ = some v1 ∧ (set5 U R v0 v1 v2 v3 v4).cell? ⟨R, 2, none⟩ = some v2 ∧ (set5 U R v0 v1 v2 v3 v4).cell? ⟨R, 3, none⟩ = some v3 ∧ (set5 U R v0 v1 v2 v3 v4).cell? ⟨R, 4, none⟩ = some v4 := by
  obtain ⟨u0, c0, _⟩ := h 0 (by decide)
  obtain ⟨u1, c1, _⟩ := h 1 (by decide)
  obtain ⟨u2, c2, _⟩ := h 2 (by decide)
  obtain ⟨u3, c3, _⟩ := h 3 (by decide)
  obtain ⟨u4, c4, _⟩ := h 4 (by decide)
  unfold set5
  refine ⟨?_, ?_, ?_, ?_, ?_⟩
  · exact set_other (set_other (set_other (set_other (set_same c0) (by decide)) (by decide)) (by decide)) (by decide)
  · exact set_other (set_other (set_other (set_same (set_other c1 (by decide))) (by decide)) (by decide)) (by decide)
  · exact set_other (set_other (set_same (set_other (set_other c2 (by decide)) (by decide))) (by decide)) (by decide)
  · exact set_other (set_same (set_other (set_other (set_other c3 (by decide)) (by decide)) (by decide))) (by decide)
  · exact set_same (set_other (set_other (set_other (set_other c4 (by decide)) (by decide)) (by decide)) (by decide))
theorem set5_size (U : World) (R : Nat) (v0 v1 v2 v3 v4 : Value) : (set5 U R v0 v1 v2 v3 v4).heap.size = U.heap.size := by simp [set5]
theorem set5_block {U : World} {R : Nat} {v0 v1 v2 v3 v4 : Value} {m : Nat} (h : m ≠ R) : (set5 U R v0 v1 v2 v3 v4).heap[m]? = U.heap[m]? := by
  have e : ∀ (X : World) (o : Nat) (v : Value), (X.setCell ⟨R, o, none⟩ v).heap[m]? = X.heap[m]? := fun X o v => heap_setCell_other X ⟨R, o, none⟩ m v (fun e => h (by first | exact e | exact e.symm | simpa using e | simpa using e.symm))
  unfold set5
  rw [e, e, e, e, e]
theorem set5_below {w U : World} {R B : Nat} {v0 v1 v2 v3 v4 : Value} (h : Below B w U) (hR : B ≤ R) : Below B w (set5 U R v0 v1 v2 v3 v4) :=
  ((((h.setCell (p := ⟨R, 0, none⟩) hR v0).setCell (p := ⟨R, 1, none⟩) hR v1).setCell (p := ⟨R, 2, none⟩) hR v2).setCell (p := ⟨R, 3, none⟩) hR v3).setCell (p := ⟨R, 4, none⟩) hR v4
theorem CpS.set {w W0 U : World} {R : Nat} (h : CpS w W0 R U) (hR : w.heap.size ≤ R) (v0 v1 v2 v3 v4 : Value) : CpS w W0 R (set5 U R v0 v1 v2 v3 v4) := by
  have hat := set5_at (v0 := v0) (v1 := v1) (v2 := v2) (v3 := v3) (v4 := v4) h.c
  refine ⟨set5_below h.bel hR, by rw [set5_size]; exact h.size, fun j h1 h2 => (set5_block h2).trans (h.old j h1 h2), fun j hj => ?_⟩
  obtain ⟨u, _, hf⟩ := h.c j hj
  have hf' : (set5 U R v0 v1 v2 v3 v4).frozen? ⟨R, j, none⟩ = false := by simp [set5, World.frozen?_setCell, hf]
  obtain rfl | rfl | rfl | rfl | rfl : j = 0 ∨ j = 1 ∨ j = 2 ∨ j = 3 ∨ j = 4 := by omega
  · exact ⟨_, hat.1, hf'⟩
  · exact ⟨_, hat.2.1, hf'⟩
  · exact ⟨_, hat.2.2.1, hf'⟩
  · exact ⟨_, hat.2.2.2.1, hf'⟩
  · exact ⟨_, hat.2.2.2.2, hf'⟩
theorem RowIn.cap {U : World} {I : Nat × Nat} {e : TypeId} {sz : Nat} {v : Value} {n : Nat} {xs : List Value} (h : RowIn U I e sz v n xs) : ∃ a c, v = .slice a n c ∧ n ≤ c := by
  rcases h.1.2 with ⟨rfl, h0⟩ | ⟨g, cap, cur, rfl, _, _, hn, _⟩
  · exact ⟨none, 0, by rw [h0], by omega⟩
  · exact ⟨_, cap, rfl, hn⟩
/-- A box of five cells that lies as it lay. -/
structure BoxS (W0 : World) (B : Nat) (tv ov mv pv qv : Value) (U : World) : Prop where
  bel : Below W0.heap.size W0 U
  c0 : U.cell? ⟨B, 0, none⟩ = some tv
  c1 : U.cell? ⟨B, 1, none⟩ = some ov
  c2 : U.cell? ⟨B, 2, none⟩ = some mv
  c3 : U.cell? ⟨B, 3, none⟩ = some pv
  c4 : U.cell? ⟨B, 4, none⟩ = some qv
theorem BoxS.below {W0 U U' : World} {B : Nat} {tv ov mv pv qv : Value} (h : BoxS W0 B tv ov mv pv qv U) (hb : Below U.heap.size U U') : BoxS W0 B tv ov mv pv qv U' :=
  ⟨h.bel.trans (hb.mono h.bel.size), cell_below hb h.c0, cell_below hb h.c1, cell_below hb h.c2, cell_below hb h.c3, cell_below hb h.c4⟩
theorem BoxS.start {W0 : World} {B : Nat} {tv ov mv pv qv : Value} (h0 : W0.cell? ⟨B, 0, none⟩ = some tv) (h1 : W0.cell? ⟨B, 1, none⟩ = some ov) (h2 : W0.cell? ⟨B, 2, none⟩ = some mv) (h3 : W0.cell? ⟨B, 3, none⟩ = some pv) (h4 : W0.cell? ⟨B, 4, none⟩ = some qv) : BoxS W0 B tv ov mv pv qv W0.drew :=
  ⟨below_drewS _, h0, h1, h2, h3, h4⟩
end Go.Proofs.YtclhimodopgeoaaGreat

namespace Go.Proofs.YtclhimodopgeoaaGreat
open Go.RowKit

set_option maxRecDepth 100000 in
set_option maxHeartbeats 16000000 in
theorem mayBeV_any (tv ov mv pv qv : Value) (V : Vw) (w : World) (hV : ViewAt w tv ov mv pv qv V) (hS : Sane V.tree) (hm : mayB V.tree = true) (hl : V.op.length ≤ 500 ∧ V.modal.length ≤ 500 ∧ V.pops.length ≤ 500 ∧ V.top.length ≤ 1000) :
    Calls Tryz.prog 78 #[.agg #[tv, ov, mv, pv, qv]] w fun x w' => x = .returned (.bool (mayP V)) ∧ Below w.heap.size w w' := by
  obtain ⟨hT, hO, hM, hP, hQ⟩ := hV
  obtain ⟨ta, tc, rfl⟩ := hT.shape
  obtain ⟨oa, oc, rfl⟩ := hO.shape
  obtain ⟨ma, mc, rfl⟩ := hM.shape
  obtain ⟨pa, pc, rfl⟩ := hP.shape
  obtain ⟨qa, qc, rfl⟩ := hQ.shape
  obtain ⟨W0, hW0⟩ : ∃ W0, w.alloc (.cells #[.slice ta V.tree.length tc, .slice oa V.op.length oc, .slice ma V.modal.length mc, .slice pa V.pops.length pc, .slice qa V.top.length qc] 27) = W0 := ⟨_, rfl⟩
  have HB0 := hideG (show Below w.heap.size w W0 by rw [← hW0]; exact (Below.refl _ w).alloc (Nat.le_refl _) _)
  have P0 := hideG (show W0.cell? ⟨w.heap.size, 0, none⟩ = some (.slice ta V.tree.length tc) by rw [← hW0]; simp)
  have P1 := hideG (show W0.cell? ⟨w.heap.size, 1, none⟩ = some (.slice oa V.op.length oc) by rw [← hW0]; simp)
  have P2 := hideG (show W0.cell? ⟨w.heap.size, 2, none⟩ = some (.slice ma V.modal.length mc) by rw [← hW0]; simp)
  have P3 := hideG (show W0.cell? ⟨w.heap.size, 3, none⟩ = some (.slice pa V.pops.length pc) by rw [← hW0]; simp)
  have P4 := hideG (show W0.cell? ⟨w.heap.size, 4, none⟩ = some (.slice qa V.top.length qc) by rw [← hW0]; simp)
  have HV0 := hideG (show ViewAt W0 _ _ _ _ _ V from ⟨hT.below HB0.out, hO.below HB0.out, hM.below HB0.out, hP.below HB0.out, hQ.below HB0.out⟩)
  have HW0 := hideG hW0
  have HJ := hideG (judgeOf_any V.tree hS _ W0 HV0.out.tree)
  have HS := hideG hS
  have HM := hideG hm
  have h1l := hl.1
  have h2l := hl.2.1
  have h3l := hl.2.2.1
  have h4l := hl.2.2.2
  have p0 := P0.out
  clear hW0 hT hO hM hP hQ hS hm hl
  go_enter Tryz.func78, Tryz.ntmps78
  go_wp2_with fail
  rw [HW0.out]
  refine HJ.out.mono ?_
  rintro ex w1 ⟨ca, cc, rfl, hI1, hb1⟩
  obtain ⟨W1, hW1⟩ : ∃ W1, w1.alloc (.cells #[.slice ta V.tree.length tc, .slice ca (slI V.tree 0).length cc] 65) = W1 := ⟨_, rfl⟩
  have hbA : Below w1.heap.size w1 W1 := by rw [← hW1]; exact (Below.refl _ w1).alloc (Nat.le_refl _) _
  have J0 := hideG (show W1.cell? ⟨w1.heap.size, 0, none⟩ = some (.slice ta V.tree.length tc) by rw [← hW1]; simp)
  have J1 := hideG (show W1.cell? ⟨w1.heap.size, 1, none⟩ = some (.slice ca (slI V.tree 0).length cc) by rw [← hW1]; simp)
  have hbB := hb1.trans (hbA.mono hb1.size)
  have Q0 := hideG (cell_below hbB P0.out)
  have Q1 := hideG (cell_below hbB P1.out)
  have Q2 := hideG (cell_below hbB P2.out)
  have Q3 := hideG (cell_below hbB P3.out)
  have Q4 := hideG (cell_below hbB P4.out)
  have HV1 := hideG (HV0.out.below hbB)
  have HI1 := hideG (hI1.below hbA)
  have HBW1 := hideG (HB0.out.trans (hbB.mono HB0.out.size))
  have pw0 := cell_below hb1 P0.out
  have pw1 := cell_below hb1 P1.out
  have hwb1 : w.heap.size < w1.heap.size := below_of_cell pw0
  have HW1 := hideG hW1
  clear hb1 hbA hbB hI1 hW1 p0
  go_wp2_with fail
  rw [HW1.out]
  clear pw0 pw1 hwb1
  refine (everyDlg_any V.tree HM.out _ _ V.op _ W1 HV1.out.tree HI1.out HV1.out.op (by omega)).mono ?_
  rintro ex w2 ⟨rfl, hb2⟩
  have HB2 := hideG hb2
  have HF := hideG (HBW1.out.trans (hb2.mono HBW1.out.size))
  have p0 := cell_below HB2.out Q0.out
  have p1 := cell_below HB2.out Q1.out
  have p2 := cell_below HB2.out Q2.out
  have p3 := cell_below HB2.out Q3.out
  have p4 := cell_below HB2.out Q4.out
  have j0 := cell_below HB2.out J0.out
  have j1 := cell_below HB2.out J1.out
  have hwb : w.heap.size < w2.heap.size := below_of_cell p0
  clear hb2
  cases a1 : V.op.all (dlgB V.tree)
  · have a1' := hideG a1
    clear a1
    go_wp2_with fail
    go_ret
    exact ⟨ret_bool (by simp [mayP, a1'.out]), HF.out⟩
  · have A1 := hideG a1
    clear a1
    go_wp2_with fail
    clear p0 p1 p2 p3 p4 j0 j1 hwb HF
    refine (everyDlg_any V.tree HM.out _ _ V.modal _ w2 (HV1.out.tree.below HB2.out) (HI1.out.below HB2.out) (HV1.out.modal.below HB2.out) (by omega)).mono ?_
    rintro ex w3 ⟨rfl, hb3⟩
    have HB3 := hideG (HB2.out.trans (hb3.mono HB2.out.size))
    have HF := hideG (HBW1.out.trans (HB3.out.mono HBW1.out.size))
    have p0 := cell_below HB3.out Q0.out
    have p1 := cell_below HB3.out Q1.out
    have p2 := cell_below HB3.out Q2.out
    have p3 := cell_below HB3.out Q3.out
    have p4 := cell_below HB3.out Q4.out
    have j0 := cell_below HB3.out J0.out
    have j1 := cell_below HB3.out J1.out
    have hwb : w.heap.size < w3.heap.size := below_of_cell p0
    clear hb3
    cases a2 : V.modal.all (dlgB V.tree)
    · have a2' := hideG a2
      clear a2
      go_wp2_with fail
      go_ret
      exact ⟨ret_bool (by simp [mayP, A1.out, a2'.out]), HF.out⟩
    · have A2 := hideG a2
      clear a2
      go_wp2_with fail
      clear p0 p1 p2 p3 p4 j0 j1 hwb HF
      refine (everyPop_any V.tree HS.out HM.out _ _ V.pops _ w3 (HV1.out.tree.below HB3.out) (HI1.out.below HB3.out) (HV1.out.pops.below HB3.out) (by omega)).mono ?_
      rintro ex w4 ⟨rfl, hb4⟩
      have HB4 := hideG (HB3.out.trans (hb4.mono HB3.out.size))
      have HF := hideG (HBW1.out.trans (HB4.out.mono HBW1.out.size))
      have p0 := cell_below HB4.out Q0.out
      have p1 := cell_below HB4.out Q1.out
      have p2 := cell_below HB4.out Q2.out
      have p3 := cell_below HB4.out Q3.out
      have p4 := cell_below HB4.out Q4.out
      have j0 := cell_below HB4.out J0.out
      have j1 := cell_below HB4.out J1.out
      have hwb : w.heap.size < w4.heap.size := below_of_cell p0
      clear hb4
      have P4x := hideG p0
      cases a3 : V.pops.all fun x => popB V.tree x.node
      · have a3' := hideG a3
        clear a3
        go_wp2_with fail
        go_ret
        exact ⟨ret_bool (by simp [mayP, A1.out, A2.out, a3'.out]), HF.out⟩
      · have A3 := hideG a3
        clear a3
        go_wp2_with fail
        clear p0 p1 p2 p3 p4 j0 j1 hwb HF
        refine (everyFits_any V.tree ta tc w.heap.size V.pops _ w4 P4x.out (HV1.out.pops.below HB4.out) (by omega)).mono ?_
        rintro ex w5 ⟨rfl, hb5⟩
        have HB5 := hideG (HB4.out.trans (hb5.mono HB4.out.size))
        have HF := hideG (HBW1.out.trans (HB5.out.mono HBW1.out.size))
        have p0 := cell_below HB5.out Q0.out
        have p1 := cell_below HB5.out Q1.out
        have p2 := cell_below HB5.out Q2.out
        have p3 := cell_below HB5.out Q3.out
        have p4 := cell_below HB5.out Q4.out
        have j0 := cell_below HB5.out J0.out
        have j1 := cell_below HB5.out J1.out
        have hwb : w.heap.size < w5.heap.size := below_of_cell p0
        clear hb5
        cases a4 : V.pops.all (fitsB V.tree)
        · have a4' := hideG a4
          clear a4
          go_wp2_with fail
          go_ret
          exact ⟨ret_bool (by simp [mayP, A1.out, A2.out, A3.out, a4'.out]), HF.out⟩
        · have A4 := hideG a4
          clear a4
          have HB5y := HB5
          have HB5 := HF
          have hS0 : BoxS w5 (w.heap.size) (.slice ta V.tree.length tc) (.slice oa V.op.length oc) (.slice ma V.modal.length mc) (.slice pa V.pops.length pc) (.slice qa V.top.length qc) w5.drew := BoxS.start p0 p1 p2 p3 p4
          have HV5 := hideG (HV1.out.below HB5y.out)
          have HOL := hideG (opened_len V)
          cases a5 : onceB (openedL V)
          · have A5 := hideG a5
            clear a5
            go_wp2_with fail
            clear p0 p1 p2 p3 p4 j0 j1 hwb HF
            refine wp_region_inv (fun l a U => ∃ (f : Nat → Nat × Nat) (s34 s35 s36 s37 s38 s39 s40 s41 s42 s43 s44 s2 : Value), a = { tmps := #[.agg #[.slice ta V.tree.length tc, .slice oa V.op.length oc, .slice ma V.modal.length mc, .slice pa V.pops.length pc, .slice qa V.top.length qc], .pointer (some ⟨w.heap.size, 0, none⟩), s2, .pointer (some ⟨w1.heap.size, 0, none⟩), .pointer (some ⟨w.heap.size, 0, none⟩), .slice ta V.tree.length tc, .agg #[.slice ta V.tree.length tc, .slice ca (slI V.tree 0).length cc], .pointer (some ⟨w.heap.size, 1, none⟩), .slice oa V.op.length oc, .agg #[.slice ta V.tree.length tc, .slice ca (slI V.tree 0).length cc], .func (.func 66) #[.agg #[.slice ta V.tree.length tc, .slice ca (slI V.tree 0).length cc]] #[], .bool true, .bool (!true), .bool (!true), .pointer (some ⟨w.heap.size, 2, none⟩), .slice ma V.modal.length mc, .agg #[.slice ta V.tree.length tc, .slice ca (slI V.tree 0).length cc], .func (.func 66) #[.agg #[.slice ta V.tree.length tc, .slice ca (slI V.tree 0).length cc]] #[], .bool true, .bool (!true), .bool (!true), .bool (!true), .pointer (some ⟨w.heap.size, 3, none⟩), .slice pa V.pops.length pc, .agg #[.slice ta V.tree.length tc, .slice ca (slI V.tree 0).length cc], .func (.func 68) #[.agg #[.slice ta V.tree.length tc, .slice ca (slI V.tree 0).length cc]] #[], .bool true, .bool (!true), .bool (!true), .pointer (some ⟨w.heap.size, 3, none⟩), .slice pa V.pops.length pc, .func (.func 120) #[] #[.pointer (some ⟨w.heap.size, 0, none⟩)], .bool true, .bool (!true), s34, s35, s36, s37, s38, s39, s40, s41, s42, s43, s44], defers := [] } ∧ BoxS w5 (w.heap.size) (.slice ta V.tree.length tc) (.slice oa V.op.length oc) (.slice ma V.modal.length mc) (.slice pa V.pops.length pc) (.slice qa V.top.length qc) U ∧ IvL l f 12 w5.heap.size U.heap.size ∧ (l.getD 0 true = true → s34 = .agg #[.slice ta V.tree.length tc, .slice oa V.op.length oc, .slice ma V.modal.length mc, .slice pa V.pops.length pc, .slice qa V.top.length qc]) ∧ (l.getD 1 true = true → RowIn U (f 1) 3 1 s35 (openedL V).length (intCells (openedL V))) ∧ (l.getD 2 true = true → s36 = .bool (!false)) ∧ (l.getD 3 true = true → s37 = .bool false) ∧ (l.getD 4 true = true → s38 = .bool false) ∧ (l.getD 5 true = true → s39 = undef) ∧ (l.getD 6 true = true → s40 = undef) ∧ (l.getD 7 true = true → s41 = undef) ∧ (l.getD 8 true = true → s42 = undef) ∧ (l.getD 9 true = true → s43 = undef) ∧ (l.getD 10 true = true → s44 = .bool false) ∧ (l.getD 11 true = true → s2 = .bool false)) (by kernel_rfl) (by kernel_rfl) ?_ ?_ ?_
            · exact ⟨fun _ => (0, 0), _, _, _, _, _, _, _, _, _, _, _, _, rfl, hS0, IvL.start 12 _ _ _, fun h => by simp at h, fun h => by simp at h, fun h => by simp at h, fun h => by simp at h, fun h => by simp at h, fun h => by simp at h, fun h => by simp at h, fun h => by simp at h, fun h => by simp at h, fun h => by simp at h, fun h => by simp at h, fun h => by simp at h⟩
            · rintro i l a U hi ⟨f, s34, s35, s36, s37, s38, s39, s40, s41, s42, s43, s44, s2, rfl, hS, hIv, h0, h1, h2, h3, h4, h5, h6, h7, h8, h9, h10, h11⟩
              obtain ⟨hun, o, ho, _⟩ := mem_ready.mp hi
              have hlt := (Array.getElem?_eq_some_iff.mp ho).1
              clear ho
              simp only [List.size_toArray, List.length_cons, List.length_nil, Nat.reduceAdd] at hlt
              obtain rfl | rfl | rfl | rfl | rfl | rfl | rfl | rfl | rfl | rfl | rfl | rfl : i = 0 ∨ i = 1 ∨ i = 2 ∨ i = 3 ∨ i = 4 ∨ i = 5 ∨ i = 6 ∨ i = 7 ∨ i = 8 ∨ i = 9 ∨ i = 10 ∨ i = 11 := by omega
              · have pc0 := hS.c0
                have pc1 := hS.c1
                have pc2 := hS.c2
                have pc3 := hS.c3
                have pc4 := hS.c4
                refine inv_step (by rfl) (fun K hK => ?_)
                go_simp
                exact hK.out _ _ ⟨upPart f 0 (U.heap.size, _), _, _, _, _, _, _, _, _, _, _, _, _, rfl, hS, hIv.step (i := 0) hun (by decide) (Nat.le_refl _), fun _ => rfl, fun h => h1 (set_getD (i := 0) (by decide) h), fun h => h2 (set_getD (i := 0) (by decide) h), fun h => h3 (set_getD (i := 0) (by decide) h), fun h => h4 (set_getD (i := 0) (by decide) h), fun h => h5 (set_getD (i := 0) (by decide) h), fun h => h6 (set_getD (i := 0) (by decide) h), fun h => h7 (set_getD (i := 0) (by decide) h), fun h => h8 (set_getD (i := 0) (by decide) h), fun h => h9 (set_getD (i := 0) (by decide) h), fun h => h10 (set_getD (i := 0) (by decide) h), fun h => h11 (set_getD (i := 0) (by decide) h)⟩
              · have e0 := h0 (dep_of hi (d := 0) (by kernel_rfl))
                subst e0
                refine inv_step (by rfl) (fun K hK => ?_)
                go_simp
                (go_at_call 84; refine Calls.mono (opened_any _ _ _ _ _ V U (HV5.out.below hS.bel) ⟨by omega, by omega, by omega⟩) ?_; rintro e w1' ⟨va, vc, rfl, hgot, hb⟩)
                go_wp2_with fail
                have hk : ∀ m, w5.heap.size ≤ m → m < U.heap.size → w1'.heap[m]? = U.heap[m]? := fun m _ h2 => hb.block m h2
                exact hK.out _ _ ⟨upPart f 1 (U.heap.size, _), _, _, _, _, _, _, _, _, _, _, _, _, rfl, hS.below hb, hIv.step (i := 1) hun (by decide) hb.size, fun _ => rfl, fun _ => rowIn_of hgot, fun h => h2 (set_getD (i := 1) (by decide) h), fun h => h3 (set_getD (i := 1) (by decide) h), fun h => h4 (set_getD (i := 1) (by decide) h), fun h => h5 (set_getD (i := 1) (by decide) h), fun h => h6 (set_getD (i := 1) (by decide) h), fun h => h7 (set_getD (i := 1) (by decide) h), fun h => h8 (set_getD (i := 1) (by decide) h), fun h => h9 (set_getD (i := 1) (by decide) h), fun h => h10 (set_getD (i := 1) (by decide) h), fun h => h11 (set_getD (i := 1) (by decide) h)⟩
              · have q1 := dep_of hi (d := 1) (by kernel_rfl)
                have r1 := h1 q1
                refine inv_step (by rfl) (fun K hK => ?_)
                go_simp
                (go_at_call 121; refine Calls.mono (hasTwice_any (openedL V) _ U (rowInts r1) (by have := HOL.out; omega) r1.cap) ?_; rintro e w1' ⟨rfl, hwz⟩)
                obtain rfl : _ = w1' := hwz.symm
                have hb := Below.refl U.heap.size U
                rw [A5.out]
                go_wp2_with fail
                have hk : ∀ m, w5.heap.size ≤ m → m < U.heap.size → U.heap[m]? = U.heap[m]? := fun m _ h2 => hb.block m h2
                exact hK.out _ _ ⟨upPart f 2 (U.heap.size, _), _, _, _, _, _, _, _, _, _, _, _, _, rfl, hS.below hb, hIv.step (i := 2) hun (by decide) hb.size, fun h => h0 (set_getD (i := 2) (by decide) h), fun h => (h1 (set_getD (i := 2) (by decide) h)).keep (hIv.old (set_getD (i := 2) (by decide) h) (by decide) hk), fun _ => rfl, fun h => h3 (set_getD (i := 2) (by decide) h), fun h => h4 (set_getD (i := 2) (by decide) h), fun h => h5 (set_getD (i := 2) (by decide) h), fun h => h6 (set_getD (i := 2) (by decide) h), fun h => h7 (set_getD (i := 2) (by decide) h), fun h => h8 (set_getD (i := 2) (by decide) h), fun h => h9 (set_getD (i := 2) (by decide) h), fun h => h10 (set_getD (i := 2) (by decide) h), fun h => h11 (set_getD (i := 2) (by decide) h)⟩
              · have e2 := h2 (dep_of hi (d := 2) (by kernel_rfl))
                subst e2
                refine inv_step (by rfl) (fun K hK => ?_)
                go_simp
                exact hK.out _ _ ⟨upPart f 3 (U.heap.size, _), _, _, _, _, _, _, _, _, _, _, _, _, rfl, hS, hIv.step (i := 3) hun (by decide) (Nat.le_refl _), fun h => h0 (set_getD (i := 3) (by decide) h), fun h => h1 (set_getD (i := 3) (by decide) h), fun _ => rfl, fun _ => rfl, fun h => h4 (set_getD (i := 3) (by decide) h), fun h => h5 (set_getD (i := 3) (by decide) h), fun h => h6 (set_getD (i := 3) (by decide) h), fun h => h7 (set_getD (i := 3) (by decide) h), fun h => h8 (set_getD (i := 3) (by decide) h), fun h => h9 (set_getD (i := 3) (by decide) h), fun h => h10 (set_getD (i := 3) (by decide) h), fun h => h11 (set_getD (i := 3) (by decide) h)⟩
              · have e3 := h3 (dep_of hi (d := 3) (by kernel_rfl))
                subst e3
                refine inv_step (by rfl) (fun K hK => ?_)
                go_simp
                exact hK.out _ _ ⟨upPart f 4 (U.heap.size, _), _, _, _, _, _, _, _, _, _, _, _, _, rfl, hS, hIv.step (i := 4) hun (by decide) (Nat.le_refl _), fun h => h0 (set_getD (i := 4) (by decide) h), fun h => h1 (set_getD (i := 4) (by decide) h), fun h => h2 (set_getD (i := 4) (by decide) h), fun _ => rfl, fun _ => rfl, fun h => h5 (set_getD (i := 4) (by decide) h), fun h => h6 (set_getD (i := 4) (by decide) h), fun h => h7 (set_getD (i := 4) (by decide) h), fun h => h8 (set_getD (i := 4) (by decide) h), fun h => h9 (set_getD (i := 4) (by decide) h), fun h => h10 (set_getD (i := 4) (by decide) h), fun h => h11 (set_getD (i := 4) (by decide) h)⟩
              · have e4 := h4 (dep_of hi (d := 4) (by kernel_rfl))
                subst e4
                refine inv_skip (by rfl) (by rfl) ?_
                simp only [Act.put, List.setIfInBounds_toArray]
                exact ⟨upPart f 5 (U.heap.size, _), _, _, _, _, _, _, _, _, _, _, _, _, rfl, hS, hIv.step (i := 5) hun (by decide) (Nat.le_refl _), fun h => h0 (set_getD (i := 5) (by decide) h), fun h => h1 (set_getD (i := 5) (by decide) h), fun h => h2 (set_getD (i := 5) (by decide) h), fun h => h3 (set_getD (i := 5) (by decide) h), fun _ => rfl, fun _ => rfl, fun h => h6 (set_getD (i := 5) (by decide) h), fun h => h7 (set_getD (i := 5) (by decide) h), fun h => h8 (set_getD (i := 5) (by decide) h), fun h => h9 (set_getD (i := 5) (by decide) h), fun h => h10 (set_getD (i := 5) (by decide) h), fun h => h11 (set_getD (i := 5) (by decide) h)⟩
              · have e4 := h4 (dep_of hi (d := 4) (by kernel_rfl))
                subst e4
                refine inv_skip (by rfl) (by rfl) ?_
                simp only [Act.put, List.setIfInBounds_toArray]
                exact ⟨upPart f 6 (U.heap.size, _), _, _, _, _, _, _, _, _, _, _, _, _, rfl, hS, hIv.step (i := 6) hun (by decide) (Nat.le_refl _), fun h => h0 (set_getD (i := 6) (by decide) h), fun h => h1 (set_getD (i := 6) (by decide) h), fun h => h2 (set_getD (i := 6) (by decide) h), fun h => h3 (set_getD (i := 6) (by decide) h), fun _ => rfl, fun h => h5 (set_getD (i := 6) (by decide) h), fun _ => rfl, fun h => h7 (set_getD (i := 6) (by decide) h), fun h => h8 (set_getD (i := 6) (by decide) h), fun h => h9 (set_getD (i := 6) (by decide) h), fun h => h10 (set_getD (i := 6) (by decide) h), fun h => h11 (set_getD (i := 6) (by decide) h)⟩
              · have e4 := h4 (dep_of hi (d := 4) (by kernel_rfl))
                subst e4
                refine inv_skip (by rfl) (by rfl) ?_
                simp only [Act.put, List.setIfInBounds_toArray]
                exact ⟨upPart f 7 (U.heap.size, _), _, _, _, _, _, _, _, _, _, _, _, _, rfl, hS, hIv.step (i := 7) hun (by decide) (Nat.le_refl _), fun h => h0 (set_getD (i := 7) (by decide) h), fun h => h1 (set_getD (i := 7) (by decide) h), fun h => h2 (set_getD (i := 7) (by decide) h), fun h => h3 (set_getD (i := 7) (by decide) h), fun _ => rfl, fun h => h5 (set_getD (i := 7) (by decide) h), fun h => h6 (set_getD (i := 7) (by decide) h), fun _ => rfl, fun h => h8 (set_getD (i := 7) (by decide) h), fun h => h9 (set_getD (i := 7) (by decide) h), fun h => h10 (set_getD (i := 7) (by decide) h), fun h => h11 (set_getD (i := 7) (by decide) h)⟩
              · have e4 := h4 (dep_of hi (d := 4) (by kernel_rfl))
                subst e4
                refine inv_skip (by rfl) (by rfl) ?_
                simp only [Act.put, List.setIfInBounds_toArray]
                exact ⟨upPart f 8 (U.heap.size, _), _, _, _, _, _, _, _, _, _, _, _, _, rfl, hS, hIv.step (i := 8) hun (by decide) (Nat.le_refl _), fun h => h0 (set_getD (i := 8) (by decide) h), fun h => h1 (set_getD (i := 8) (by decide) h), fun h => h2 (set_getD (i := 8) (by decide) h), fun h => h3 (set_getD (i := 8) (by decide) h), fun _ => rfl, fun h => h5 (set_getD (i := 8) (by decide) h), fun h => h6 (set_getD (i := 8) (by decide) h), fun h => h7 (set_getD (i := 8) (by decide) h), fun _ => rfl, fun h => h9 (set_getD (i := 8) (by decide) h), fun h => h10 (set_getD (i := 8) (by decide) h), fun h => h11 (set_getD (i := 8) (by decide) h)⟩
              · have e4 := h4 (dep_of hi (d := 4) (by kernel_rfl))
                subst e4
                refine inv_skip (by rfl) (by rfl) ?_
                simp only [Act.put, List.setIfInBounds_toArray]
                exact ⟨upPart f 9 (U.heap.size, _), _, _, _, _, _, _, _, _, _, _, _, _, rfl, hS, hIv.step (i := 9) hun (by decide) (Nat.le_refl _), fun h => h0 (set_getD (i := 9) (by decide) h), fun h => h1 (set_getD (i := 9) (by decide) h), fun h => h2 (set_getD (i := 9) (by decide) h), fun h => h3 (set_getD (i := 9) (by decide) h), fun _ => rfl, fun h => h5 (set_getD (i := 9) (by decide) h), fun h => h6 (set_getD (i := 9) (by decide) h), fun h => h7 (set_getD (i := 9) (by decide) h), fun h => h8 (set_getD (i := 9) (by decide) h), fun _ => rfl, fun h => h10 (set_getD (i := 9) (by decide) h), fun h => h11 (set_getD (i := 9) (by decide) h)⟩
              · have e4 := h4 (dep_of hi (d := 4) (by kernel_rfl))
                subst e4
                have e9 := h9 (dep_of hi (d := 9) (by kernel_rfl))
                subst e9
                refine inv_step (by rfl) (fun K hK => ?_)
                go_simp
                exact hK.out _ _ ⟨upPart f 10 (U.heap.size, _), _, _, _, _, _, _, _, _, _, _, _, _, rfl, hS, hIv.step (i := 10) hun (by decide) (Nat.le_refl _), fun h => h0 (set_getD (i := 10) (by decide) h), fun h => h1 (set_getD (i := 10) (by decide) h), fun h => h2 (set_getD (i := 10) (by decide) h), fun h => h3 (set_getD (i := 10) (by decide) h), fun _ => rfl, fun h => h5 (set_getD (i := 10) (by decide) h), fun h => h6 (set_getD (i := 10) (by decide) h), fun h => h7 (set_getD (i := 10) (by decide) h), fun h => h8 (set_getD (i := 10) (by decide) h), fun _ => rfl, fun _ => rfl, fun h => h11 (set_getD (i := 10) (by decide) h)⟩
              · have e10 := h10 (dep_of hi (d := 10) (by kernel_rfl))
                subst e10
                refine inv_step (by rfl) (fun K hK => ?_)
                go_simp
                exact hK.out _ _ ⟨upPart f 11 (U.heap.size, _), _, _, _, _, _, _, _, _, _, _, _, _, rfl, hS, hIv.step (i := 11) hun (by decide) (Nat.le_refl _), fun h => h0 (set_getD (i := 11) (by decide) h), fun h => h1 (set_getD (i := 11) (by decide) h), fun h => h2 (set_getD (i := 11) (by decide) h), fun h => h3 (set_getD (i := 11) (by decide) h), fun h => h4 (set_getD (i := 11) (by decide) h), fun h => h5 (set_getD (i := 11) (by decide) h), fun h => h6 (set_getD (i := 11) (by decide) h), fun h => h7 (set_getD (i := 11) (by decide) h), fun h => h8 (set_getD (i := 11) (by decide) h), fun h => h9 (set_getD (i := 11) (by decide) h), fun _ => rfl, fun _ => rfl⟩
            · rintro l a U hall ⟨f, s34, s35, s36, s37, s38, s39, s40, s41, s42, s43, s44, s2, rfl, hS, hIv, h0, h1, h2, h3, h4, h5, h6, h7, h8, h9, h10, h11⟩
              have e0 := h0 (hall 0 (by decide))
              have e1 := h1 (hall 1 (by decide))
              have e2 := h2 (hall 2 (by decide))
              have e3 := h3 (hall 3 (by decide))
              have e4 := h4 (hall 4 (by decide))
              have e5 := h5 (hall 5 (by decide))
              have e6 := h6 (hall 6 (by decide))
              have e7 := h7 (hall 7 (by decide))
              have e8 := h8 (hall 8 (by decide))
              have e9 := h9 (hall 9 (by decide))
              have e10 := h10 (hall 10 (by decide))
              have e11 := h11 (hall 11 (by decide))
              have HIV := hideG (hIv.all hall)
              clear hIv hall h0 h1 h2 h3 h4 h5 h6 h7 h8 h9 h10 h11
              subst e0
              subst e2
              subst e3
              subst e4
              subst e5
              subst e6
              subst e7
              subst e8
              subst e9
              subst e10
              subst e11
              have HFF := hideG (HB5.out.trans (hS.bel.mono HB5.out.size))
              go_wp2_with fail
              go_ret
              exact ⟨ret_bool (by simp [mayP, A1.out, A2.out, A3.out, A4.out, A5.out]), HFF.out⟩
          · have A5 := hideG a5
            clear a5
            go_wp2_with fail
            clear p0 p1 p2 p3 p4 j0 j1 hwb HF
            refine wp_region_inv (fun l a U => ∃ (f : Nat → Nat × Nat) (s34 s35 s36 s37 s38 s39 s40 s41 s42 s43 s44 s2 : Value), a = { tmps := #[.agg #[.slice ta V.tree.length tc, .slice oa V.op.length oc, .slice ma V.modal.length mc, .slice pa V.pops.length pc, .slice qa V.top.length qc], .pointer (some ⟨w.heap.size, 0, none⟩), s2, .pointer (some ⟨w1.heap.size, 0, none⟩), .pointer (some ⟨w.heap.size, 0, none⟩), .slice ta V.tree.length tc, .agg #[.slice ta V.tree.length tc, .slice ca (slI V.tree 0).length cc], .pointer (some ⟨w.heap.size, 1, none⟩), .slice oa V.op.length oc, .agg #[.slice ta V.tree.length tc, .slice ca (slI V.tree 0).length cc], .func (.func 66) #[.agg #[.slice ta V.tree.length tc, .slice ca (slI V.tree 0).length cc]] #[], .bool true, .bool (!true), .bool (!true), .pointer (some ⟨w.heap.size, 2, none⟩), .slice ma V.modal.length mc, .agg #[.slice ta V.tree.length tc, .slice ca (slI V.tree 0).length cc], .func (.func 66) #[.agg #[.slice ta V.tree.length tc, .slice ca (slI V.tree 0).length cc]] #[], .bool true, .bool (!true), .bool (!true), .bool (!true), .pointer (some ⟨w.heap.size, 3, none⟩), .slice pa V.pops.length pc, .agg #[.slice ta V.tree.length tc, .slice ca (slI V.tree 0).length cc], .func (.func 68) #[.agg #[.slice ta V.tree.length tc, .slice ca (slI V.tree 0).length cc]] #[], .bool true, .bool (!true), .bool (!true), .pointer (some ⟨w.heap.size, 3, none⟩), .slice pa V.pops.length pc, .func (.func 120) #[] #[.pointer (some ⟨w.heap.size, 0, none⟩)], .bool true, .bool (!true), s34, s35, s36, s37, s38, s39, s40, s41, s42, s43, s44], defers := [] } ∧ BoxS w5 (w.heap.size) (.slice ta V.tree.length tc) (.slice oa V.op.length oc) (.slice ma V.modal.length mc) (.slice pa V.pops.length pc) (.slice qa V.top.length qc) U ∧ IvL l f 12 w5.heap.size U.heap.size ∧ (l.getD 0 true = true → s34 = .agg #[.slice ta V.tree.length tc, .slice oa V.op.length oc, .slice ma V.modal.length mc, .slice pa V.pops.length pc, .slice qa V.top.length qc]) ∧ (l.getD 1 true = true → RowIn U (f 1) 3 1 s35 (openedL V).length (intCells (openedL V))) ∧ (l.getD 2 true = true → s36 = .bool (!true)) ∧ (l.getD 3 true = true → s37 = .bool true) ∧ (l.getD 4 true = true → s38 = .bool true) ∧ (l.getD 5 true = true → s39 = .pointer (some ⟨w.heap.size, 4, none⟩)) ∧ (l.getD 6 true = true → s40 = .slice qa V.top.length qc) ∧ (l.getD 7 true = true → s41 = .agg #[.slice ta V.tree.length tc, .slice oa V.op.length oc, .slice ma V.modal.length mc, .slice pa V.pops.length pc, .slice qa V.top.length qc]) ∧ (l.getD 8 true = true → RowIn U (f 8) 3 1 s42 (raisedL V).length (intCells (raisedL V))) ∧ (l.getD 9 true = true → s43 = .bool (sameB V.top (raisedL V))) ∧ (l.getD 10 true = true → s44 = .bool (sameB V.top (raisedL V))) ∧ (l.getD 11 true = true → s2 = .bool (sameB V.top (raisedL V)))) (by kernel_rfl) (by kernel_rfl) ?_ ?_ ?_
            · exact ⟨fun _ => (0, 0), _, _, _, _, _, _, _, _, _, _, _, _, rfl, hS0, IvL.start 12 _ _ _, fun h => by simp at h, fun h => by simp at h, fun h => by simp at h, fun h => by simp at h, fun h => by simp at h, fun h => by simp at h, fun h => by simp at h, fun h => by simp at h, fun h => by simp at h, fun h => by simp at h, fun h => by simp at h, fun h => by simp at h⟩
            · rintro i l a U hi ⟨f, s34, s35, s36, s37, s38, s39, s40, s41, s42, s43, s44, s2, rfl, hS, hIv, h0, h1, h2, h3, h4, h5, h6, h7, h8, h9, h10, h11⟩
              obtain ⟨hun, o, ho, _⟩ := mem_ready.mp hi
              have hlt := (Array.getElem?_eq_some_iff.mp ho).1
              clear ho
              simp only [List.size_toArray, List.length_cons, List.length_nil, Nat.reduceAdd] at hlt
              obtain rfl | rfl | rfl | rfl | rfl | rfl | rfl | rfl | rfl | rfl | rfl | rfl : i = 0 ∨ i = 1 ∨ i = 2 ∨ i = 3 ∨ i = 4 ∨ i = 5 ∨ i = 6 ∨ i = 7 ∨ i = 8 ∨ i = 9 ∨ i = 10 ∨ i = 11 := by omega
              · have pc0 := hS.c0
                have pc1 := hS.c1
                have pc2 := hS.c2
                have pc3 := hS.c3
                have pc4 := hS.c4
                refine inv_step (by rfl) (fun K hK => ?_)
                go_simp
                exact hK.out _ _ ⟨upPart f 0 (U.heap.size, _), _, _, _, _, _, _, _, _, _, _, _, _, rfl, hS, hIv.step (i := 0) hun (by decide) (Nat.le_refl _), fun _ => rfl, fun h => h1 (set_getD (i := 0) (by decide) h), fun h => h2 (set_getD (i := 0) (by decide) h), fun h => h3 (set_getD (i := 0) (by decide) h), fun h => h4 (set_getD (i := 0) (by decide) h), fun h => h5 (set_getD (i := 0) (by decide) h), fun h => h6 (set_getD (i := 0) (by decide) h), fun h => h7 (set_getD (i := 0) (by decide) h), fun h => h8 (set_getD (i := 0) (by decide) h), fun h => h9 (set_getD (i := 0) (by decide) h), fun h => h10 (set_getD (i := 0) (by decide) h), fun h => h11 (set_getD (i := 0) (by decide) h)⟩
              · have e0 := h0 (dep_of hi (d := 0) (by kernel_rfl))
                subst e0
                refine inv_step (by rfl) (fun K hK => ?_)
                go_simp
                (go_at_call 84; refine Calls.mono (opened_any _ _ _ _ _ V U (HV5.out.below hS.bel) ⟨by omega, by omega, by omega⟩) ?_; rintro e w1' ⟨va, vc, rfl, hgot, hb⟩)
                go_wp2_with fail
                have hk : ∀ m, w5.heap.size ≤ m → m < U.heap.size → w1'.heap[m]? = U.heap[m]? := fun m _ h2 => hb.block m h2
                exact hK.out _ _ ⟨upPart f 1 (U.heap.size, _), _, _, _, _, _, _, _, _, _, _, _, _, rfl, hS.below hb, hIv.step (i := 1) hun (by decide) hb.size, fun _ => rfl, fun _ => rowIn_of hgot, fun h => h2 (set_getD (i := 1) (by decide) h), fun h => h3 (set_getD (i := 1) (by decide) h), fun h => h4 (set_getD (i := 1) (by decide) h), fun h => h5 (set_getD (i := 1) (by decide) h), fun h => h6 (set_getD (i := 1) (by decide) h), fun h => h7 (set_getD (i := 1) (by decide) h), fun h => (h8 (set_getD (i := 1) (by decide) h)).keep (hIv.old (set_getD (i := 1) (by decide) h) (by decide) hk), fun h => h9 (set_getD (i := 1) (by decide) h), fun h => h10 (set_getD (i := 1) (by decide) h), fun h => h11 (set_getD (i := 1) (by decide) h)⟩
              · have q1 := dep_of hi (d := 1) (by kernel_rfl)
                have r1 := h1 q1
                refine inv_step (by rfl) (fun K hK => ?_)
                go_simp
                (go_at_call 121; refine Calls.mono (hasTwice_any (openedL V) _ U (rowInts r1) (by have := HOL.out; omega) r1.cap) ?_; rintro e w1' ⟨rfl, hwz⟩)
                obtain rfl : _ = w1' := hwz.symm
                have hb := Below.refl U.heap.size U
                rw [A5.out]
                go_wp2_with fail
                have hk : ∀ m, w5.heap.size ≤ m → m < U.heap.size → U.heap[m]? = U.heap[m]? := fun m _ h2 => hb.block m h2
                exact hK.out _ _ ⟨upPart f 2 (U.heap.size, _), _, _, _, _, _, _, _, _, _, _, _, _, rfl, hS.below hb, hIv.step (i := 2) hun (by decide) hb.size, fun h => h0 (set_getD (i := 2) (by decide) h), fun h => (h1 (set_getD (i := 2) (by decide) h)).keep (hIv.old (set_getD (i := 2) (by decide) h) (by decide) hk), fun _ => rfl, fun h => h3 (set_getD (i := 2) (by decide) h), fun h => h4 (set_getD (i := 2) (by decide) h), fun h => h5 (set_getD (i := 2) (by decide) h), fun h => h6 (set_getD (i := 2) (by decide) h), fun h => h7 (set_getD (i := 2) (by decide) h), fun h => (h8 (set_getD (i := 2) (by decide) h)).keep (hIv.old (set_getD (i := 2) (by decide) h) (by decide) hk), fun h => h9 (set_getD (i := 2) (by decide) h), fun h => h10 (set_getD (i := 2) (by decide) h), fun h => h11 (set_getD (i := 2) (by decide) h)⟩
              · have e2 := h2 (dep_of hi (d := 2) (by kernel_rfl))
                subst e2
                refine inv_step (by rfl) (fun K hK => ?_)
                go_simp
                exact hK.out _ _ ⟨upPart f 3 (U.heap.size, _), _, _, _, _, _, _, _, _, _, _, _, _, rfl, hS, hIv.step (i := 3) hun (by decide) (Nat.le_refl _), fun h => h0 (set_getD (i := 3) (by decide) h), fun h => h1 (set_getD (i := 3) (by decide) h), fun _ => rfl, fun _ => rfl, fun h => h4 (set_getD (i := 3) (by decide) h), fun h => h5 (set_getD (i := 3) (by decide) h), fun h => h6 (set_getD (i := 3) (by decide) h), fun h => h7 (set_getD (i := 3) (by decide) h), fun h => h8 (set_getD (i := 3) (by decide) h), fun h => h9 (set_getD (i := 3) (by decide) h), fun h => h10 (set_getD (i := 3) (by decide) h), fun h => h11 (set_getD (i := 3) (by decide) h)⟩
              · have e3 := h3 (dep_of hi (d := 3) (by kernel_rfl))
                subst e3
                refine inv_step (by rfl) (fun K hK => ?_)
                go_simp
                exact hK.out _ _ ⟨upPart f 4 (U.heap.size, _), _, _, _, _, _, _, _, _, _, _, _, _, rfl, hS, hIv.step (i := 4) hun (by decide) (Nat.le_refl _), fun h => h0 (set_getD (i := 4) (by decide) h), fun h => h1 (set_getD (i := 4) (by decide) h), fun h => h2 (set_getD (i := 4) (by decide) h), fun _ => rfl, fun _ => rfl, fun h => h5 (set_getD (i := 4) (by decide) h), fun h => h6 (set_getD (i := 4) (by decide) h), fun h => h7 (set_getD (i := 4) (by decide) h), fun h => h8 (set_getD (i := 4) (by decide) h), fun h => h9 (set_getD (i := 4) (by decide) h), fun h => h10 (set_getD (i := 4) (by decide) h), fun h => h11 (set_getD (i := 4) (by decide) h)⟩
              · have e4 := h4 (dep_of hi (d := 4) (by kernel_rfl))
                subst e4
                refine inv_step (by rfl) (fun K hK => ?_)
                go_simp
                exact hK.out _ _ ⟨upPart f 5 (U.heap.size, _), _, _, _, _, _, _, _, _, _, _, _, _, rfl, hS, hIv.step (i := 5) hun (by decide) (Nat.le_refl _), fun h => h0 (set_getD (i := 5) (by decide) h), fun h => h1 (set_getD (i := 5) (by decide) h), fun h => h2 (set_getD (i := 5) (by decide) h), fun h => h3 (set_getD (i := 5) (by decide) h), fun _ => rfl, fun _ => rfl, fun h => h6 (set_getD (i := 5) (by decide) h), fun h => h7 (set_getD (i := 5) (by decide) h), fun h => h8 (set_getD (i := 5) (by decide) h), fun h => h9 (set_getD (i := 5) (by decide) h), fun h => h10 (set_getD (i := 5) (by decide) h), fun h => h11 (set_getD (i := 5) (by decide) h)⟩
              · have e4 := h4 (dep_of hi (d := 4) (by kernel_rfl))
                subst e4
                have e5 := h5 (dep_of hi (d := 5) (by kernel_rfl))
                subst e5
                have pc4 := hS.c4
                refine inv_step (by rfl) (fun K hK => ?_)
                go_simp
                exact hK.out _ _ ⟨upPart f 6 (U.heap.size, _), _, _, _, _, _, _, _, _, _, _, _, _, rfl, hS, hIv.step (i := 6) hun (by decide) (Nat.le_refl _), fun h => h0 (set_getD (i := 6) (by decide) h), fun h => h1 (set_getD (i := 6) (by decide) h), fun h => h2 (set_getD (i := 6) (by decide) h), fun h => h3 (set_getD (i := 6) (by decide) h), fun _ => rfl, fun _ => rfl, fun _ => rfl, fun h => h7 (set_getD (i := 6) (by decide) h), fun h => h8 (set_getD (i := 6) (by decide) h), fun h => h9 (set_getD (i := 6) (by decide) h), fun h => h10 (set_getD (i := 6) (by decide) h), fun h => h11 (set_getD (i := 6) (by decide) h)⟩
              · have e4 := h4 (dep_of hi (d := 4) (by kernel_rfl))
                subst e4
                have pc0 := hS.c0
                have pc1 := hS.c1
                have pc2 := hS.c2
                have pc3 := hS.c3
                have pc4 := hS.c4
                refine inv_step (by rfl) (fun K hK => ?_)
                go_simp
                exact hK.out _ _ ⟨upPart f 7 (U.heap.size, _), _, _, _, _, _, _, _, _, _, _, _, _, rfl, hS, hIv.step (i := 7) hun (by decide) (Nat.le_refl _), fun h => h0 (set_getD (i := 7) (by decide) h), fun h => h1 (set_getD (i := 7) (by decide) h), fun h => h2 (set_getD (i := 7) (by decide) h), fun h => h3 (set_getD (i := 7) (by decide) h), fun _ => rfl, fun h => h5 (set_getD (i := 7) (by decide) h), fun h => h6 (set_getD (i := 7) (by decide) h), fun _ => rfl, fun h => h8 (set_getD (i := 7) (by decide) h), fun h => h9 (set_getD (i := 7) (by decide) h), fun h => h10 (set_getD (i := 7) (by decide) h), fun h => h11 (set_getD (i := 7) (by decide) h)⟩
              · have e4 := h4 (dep_of hi (d := 4) (by kernel_rfl))
                subst e4
                have e7 := h7 (dep_of hi (d := 7) (by kernel_rfl))
                subst e7
                refine inv_step (by rfl) (fun K hK => ?_)
                go_simp
                (go_at_call 71; refine Calls.mono (raised_any _ _ _ _ _ V U (HV5.out.below hS.bel) ⟨by omega, by omega⟩) ?_; rintro e w1' ⟨va, vc, rfl, hgot, hb⟩)
                go_wp2_with fail
                have hk : ∀ m, w5.heap.size ≤ m → m < U.heap.size → w1'.heap[m]? = U.heap[m]? := fun m _ h2 => hb.block m h2
                exact hK.out _ _ ⟨upPart f 8 (U.heap.size, _), _, _, _, _, _, _, _, _, _, _, _, _, rfl, hS.below hb, hIv.step (i := 8) hun (by decide) hb.size, fun h => h0 (set_getD (i := 8) (by decide) h), fun h => (h1 (set_getD (i := 8) (by decide) h)).keep (hIv.old (set_getD (i := 8) (by decide) h) (by decide) hk), fun h => h2 (set_getD (i := 8) (by decide) h), fun h => h3 (set_getD (i := 8) (by decide) h), fun _ => rfl, fun h => h5 (set_getD (i := 8) (by decide) h), fun h => h6 (set_getD (i := 8) (by decide) h), fun _ => rfl, fun _ => rowIn_of hgot, fun h => h9 (set_getD (i := 8) (by decide) h), fun h => h10 (set_getD (i := 8) (by decide) h), fun h => h11 (set_getD (i := 8) (by decide) h)⟩
              · have e4 := h4 (dep_of hi (d := 4) (by kernel_rfl))
                subst e4
                have e6 := h6 (dep_of hi (d := 6) (by kernel_rfl))
                subst e6
                have q8 := dep_of hi (d := 8) (by kernel_rfl)
                have r8 := h8 q8
                refine inv_step (by rfl) (fun K hK => ?_)
                go_simp
                (go_at_call 122; refine Calls.mono (sameOnes_any V.top (raisedL V) _ _ U (HV5.out.top.below hS.bel) (rowInts r8) (by omega) (by simp [raisedL, nodesL']; omega)) ?_; rintro e w1' ⟨rfl, hb⟩)
                go_wp2_with fail
                have hk : ∀ m, w5.heap.size ≤ m → m < U.heap.size → w1'.heap[m]? = U.heap[m]? := fun m _ h2 => hb.block m h2
                exact hK.out _ _ ⟨upPart f 9 (U.heap.size, _), _, _, _, _, _, _, _, _, _, _, _, _, rfl, hS.below hb, hIv.step (i := 9) hun (by decide) hb.size, fun h => h0 (set_getD (i := 9) (by decide) h), fun h => (h1 (set_getD (i := 9) (by decide) h)).keep (hIv.old (set_getD (i := 9) (by decide) h) (by decide) hk), fun h => h2 (set_getD (i := 9) (by decide) h), fun h => h3 (set_getD (i := 9) (by decide) h), fun _ => rfl, fun h => h5 (set_getD (i := 9) (by decide) h), fun _ => rfl, fun h => h7 (set_getD (i := 9) (by decide) h), fun h => (h8 (set_getD (i := 9) (by decide) h)).keep (hIv.old (set_getD (i := 9) (by decide) h) (by decide) hk), fun _ => rfl, fun h => h10 (set_getD (i := 9) (by decide) h), fun h => h11 (set_getD (i := 9) (by decide) h)⟩
              · have e4 := h4 (dep_of hi (d := 4) (by kernel_rfl))
                subst e4
                have e9 := h9 (dep_of hi (d := 9) (by kernel_rfl))
                subst e9
                refine inv_step (by rfl) (fun K hK => ?_)
                go_simp
                exact hK.out _ _ ⟨upPart f 10 (U.heap.size, _), _, _, _, _, _, _, _, _, _, _, _, _, rfl, hS, hIv.step (i := 10) hun (by decide) (Nat.le_refl _), fun h => h0 (set_getD (i := 10) (by decide) h), fun h => h1 (set_getD (i := 10) (by decide) h), fun h => h2 (set_getD (i := 10) (by decide) h), fun h => h3 (set_getD (i := 10) (by decide) h), fun _ => rfl, fun h => h5 (set_getD (i := 10) (by decide) h), fun h => h6 (set_getD (i := 10) (by decide) h), fun h => h7 (set_getD (i := 10) (by decide) h), fun h => h8 (set_getD (i := 10) (by decide) h), fun _ => rfl, fun _ => rfl, fun h => h11 (set_getD (i := 10) (by decide) h)⟩
              · have e10 := h10 (dep_of hi (d := 10) (by kernel_rfl))
                subst e10
                refine inv_step (by rfl) (fun K hK => ?_)
                go_simp
                exact hK.out _ _ ⟨upPart f 11 (U.heap.size, _), _, _, _, _, _, _, _, _, _, _, _, _, rfl, hS, hIv.step (i := 11) hun (by decide) (Nat.le_refl _), fun h => h0 (set_getD (i := 11) (by decide) h), fun h => h1 (set_getD (i := 11) (by decide) h), fun h => h2 (set_getD (i := 11) (by decide) h), fun h => h3 (set_getD (i := 11) (by decide) h), fun h => h4 (set_getD (i := 11) (by decide) h), fun h => h5 (set_getD (i := 11) (by decide) h), fun h => h6 (set_getD (i := 11) (by decide) h), fun h => h7 (set_getD (i := 11) (by decide) h), fun h => h8 (set_getD (i := 11) (by decide) h), fun h => h9 (set_getD (i := 11) (by decide) h), fun _ => rfl, fun _ => rfl⟩
            · rintro l a U hall ⟨f, s34, s35, s36, s37, s38, s39, s40, s41, s42, s43, s44, s2, rfl, hS, hIv, h0, h1, h2, h3, h4, h5, h6, h7, h8, h9, h10, h11⟩
              have e0 := h0 (hall 0 (by decide))
              have e1 := h1 (hall 1 (by decide))
              have e2 := h2 (hall 2 (by decide))
              have e3 := h3 (hall 3 (by decide))
              have e4 := h4 (hall 4 (by decide))
              have e5 := h5 (hall 5 (by decide))
              have e6 := h6 (hall 6 (by decide))
              have e7 := h7 (hall 7 (by decide))
              have e8 := h8 (hall 8 (by decide))
              have e9 := h9 (hall 9 (by decide))
              have e10 := h10 (hall 10 (by decide))
              have e11 := h11 (hall 11 (by decide))
              have HIV := hideG (hIv.all hall)
              clear hIv hall h0 h1 h2 h3 h4 h5 h6 h7 h8 h9 h10 h11
              subst e0
              subst e2
              subst e3
              subst e4
              subst e5
              subst e6
              subst e7
              subst e9
              subst e10
              subst e11
              have HFF := hideG (HB5.out.trans (hS.bel.mono HB5.out.size))
              go_wp2_with fail
              go_ret
              exact ⟨ret_bool (by simp [mayP, A1.out, A2.out, A3.out, A4.out, A5.out]), HFF.out⟩
end Go.Proofs.YtclhimodopgeoaaGreat

namespace Go.Proofs.YtclhimodopgeoaaGreat
open Go.RowKit

def smallL (V : Vw) : Prop := V.op.length ≤ 500 ∧ V.modal.length ≤ 500 ∧ V.pops.length ≤ 500 ∧ V.top.length ≤ 1000
theorem check_may {V : Vw} (h : checkV V = 0) : mayB V.tree = true := by
  unfold checkV at h
  cases e : mayB V.tree
  · rw [e] at h; simp at h
  · rfl
theorem check_bad {V : Vw} (h : checkV V ≠ 0) : checkV V = 1 ∨ checkV V = 9 := by
  unfold checkV at h ⊢
  by_cases a : mayB V.tree = true
  · by_cases b : mayV V = true
    · rw [if_pos a, if_pos b] at h; exact absurd rfl h
    · rw [if_pos a, if_neg b]; exact .inr rfl
  · rw [if_neg a]; exact .inl rfl
set_option maxRecDepth 100000 in
set_option maxHeartbeats 4000000 in
theorem checkV_any (tv ov mv pv qv : Value) (V : Vw) (w : World) (hV : ViewAt w tv ov mv pv qv V) (hS : Sane V.tree) (hl : smallL V) :
    Calls Tryz.prog 24 #[.agg #[tv, ov, mv, pv, qv]] w fun x w' => x = .returned (.int .i64 (checkV V)) ∧ Below w.heap.size w w' := by
  obtain ⟨hT, hO, hM, hP, hQ⟩ := hV
  obtain ⟨ta, tc, rfl⟩ := hT.shape
  obtain ⟨oa, oc, rfl⟩ := hO.shape
  obtain ⟨ma, mc, rfl⟩ := hM.shape
  obtain ⟨pa, pc, rfl⟩ := hP.shape
  obtain ⟨qa, qc, rfl⟩ := hQ.shape
  obtain ⟨W0, hW0⟩ : ∃ W0, w.alloc (.cells #[.slice ta V.tree.length tc, .slice oa V.op.length oc, .slice ma V.modal.length mc, .slice pa V.pops.length pc, .slice qa V.top.length qc] 27) = W0 := ⟨_, rfl⟩
  have HB0 := hideG (show Below w.heap.size w W0 by rw [← hW0]; exact (Below.refl _ w).alloc (Nat.le_refl _) _)
  have P0 := hideG (show W0.cell? ⟨w.heap.size, 0, none⟩ = some (.slice ta V.tree.length tc) by rw [← hW0]; simp)
  have P1 := hideG (show W0.cell? ⟨w.heap.size, 1, none⟩ = some (.slice oa V.op.length oc) by rw [← hW0]; simp)
  have P2 := hideG (show W0.cell? ⟨w.heap.size, 2, none⟩ = some (.slice ma V.modal.length mc) by rw [← hW0]; simp)
  have P3 := hideG (show W0.cell? ⟨w.heap.size, 3, none⟩ = some (.slice pa V.pops.length pc) by rw [← hW0]; simp)
  have P4 := hideG (show W0.cell? ⟨w.heap.size, 4, none⟩ = some (.slice qa V.top.length qc) by rw [← hW0]; simp)
  have HV0 := hideG (show ViewAt W0 _ _ _ _ _ V from ⟨hT.below HB0.out, hO.below HB0.out, hM.below HB0.out, hP.below HB0.out, hQ.below HB0.out⟩)
  have HW0 := hideG hW0
  have HC := hideG (check_any V.tree hS _ W0 HV0.out.tree)
  have HS := hideG hS
  have HL := hideG hl
  clear hW0 hT hO hM hP hQ hS hl
  have p0 := P0.out
  cases hm : mayB V.tree
  · have HE := hideG (show checkE V.tree = 1 by simp [checkE, hm])
    have HQ := hideG (show checkV V = 1 by simp [checkV, hm])
    rw [HE.out] at HC
    clear hm HE
    go_enter Tryz.func24, Tryz.ntmps24
    go_wp2_with fail
    rw [HW0.out]
    refine HC.out.mono ?_
    rintro ex w1 ⟨rfl, hb1⟩
    have HB1 := hideG (HB0.out.trans (hb1.mono HB0.out.size))
    clear hb1 p0
    go_wp2_with fail
    go_ret
    exact ⟨by rw [HQ.out]; rfl, HB1.out⟩
  · have HE := hideG (show checkE V.tree = 0 by simp [checkE, hm])
    have HM := hideG hm
    rw [HE.out] at HC
    clear hm HE
    have HP := hideG (fun U (hU : Below W0.heap.size W0 U) => mayBeV_any _ _ _ _ _ V U (HV0.out.below hU) HS.out HM.out HL.out)
    cases hv : mayV V
    · have HQ := hideG (show checkV V = 9 by simp [checkV, HM.out, hv])
      have HN := hideG (show mayP V = false by rw [mayP_eq, hv])
      clear hv
      go_enter Tryz.func24, Tryz.ntmps24
      go_wp2_with fail
      rw [HW0.out]
      refine HC.out.mono ?_
      rintro ex w1 ⟨rfl, hb1⟩
      have HB1 := hideG (HB0.out.trans (hb1.mono HB0.out.size))
      have HX1 := hideG hb1
      have p0 := cell_below hb1 P0.out
      have p1 := cell_below hb1 P1.out
      have p2 := cell_below hb1 P2.out
      have p3 := cell_below hb1 P3.out
      have p4 := cell_below hb1 P4.out
      clear hb1
      go_wp2_with fail
      refine (HP.out w1 HX1.out).mono ?_
      rintro ex w2 ⟨rfl, hb2⟩
      rw [HN.out]
      have HB2 := hideG (HB1.out.trans (hb2.mono HB1.out.size))
      clear hb2 p0 p1 p2 p3 p4
      go_wp2_with fail
      go_ret
      exact ⟨by rw [HQ.out]; rfl, HB2.out⟩
    · have HQ := hideG (show checkV V = 0 by simp [checkV, HM.out, hv])
      have HN := hideG (show mayP V = true by rw [mayP_eq, hv])
      clear hv
      go_enter Tryz.func24, Tryz.ntmps24
      go_wp2_with fail
      rw [HW0.out]
      refine HC.out.mono ?_
      rintro ex w1 ⟨rfl, hb1⟩
      have HB1 := hideG (HB0.out.trans (hb1.mono HB0.out.size))
      have HX1 := hideG hb1
      have p0 := cell_below hb1 P0.out
      have p1 := cell_below hb1 P1.out
      have p2 := cell_below hb1 P2.out
      have p3 := cell_below hb1 P3.out
      have p4 := cell_below hb1 P4.out
      clear hb1
      go_wp2_with fail
      refine (HP.out w1 HX1.out).mono ?_
      rintro ex w2 ⟨rfl, hb2⟩
      rw [HN.out]
      have HB2 := hideG (HB1.out.trans (hb2.mono HB1.out.size))
      clear hb2 p0 p1 p2 p3 p4
      go_wp2_with fail
      go_ret
      exact ⟨by rw [HQ.out]; rfl, HB2.out⟩
end Go.Proofs.YtclhimodopgeoaaGreat

