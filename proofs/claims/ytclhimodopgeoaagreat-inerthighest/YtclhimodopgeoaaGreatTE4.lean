/- Part 4 of what the laws of layer 10 lean on. -/
import Derived.Deep.QuietTactic
import Derived.BigQuiet
import Derived.Deep.RegionHeld3
import Derived.WalkKit
import Derived.WalkSpells
import Derived.WalkLawsBesides
import Derived.Lib.AppendZeros
import Derived.Lib.Overlaps
import Derived.Laws.CopyOwn
import Derived.Deep.RegionLaw
import Derived.Laws.AppendOwnNone
import Derived.Deep.RegionWith
import Derived.RangeFuncCalls
import Derived.OrdersIn
import Derived.TacticsIn
import Derived.RangeFuncNested
import Derived.Test.YtclhimodopgeoaaGreatTE1
import Derived.Test.YtclhimodopgeoaaGreatTE2
import Derived.Test.YtclhimodopgeoaaGreatTE3
namespace Go.Proofs.YtclhimodopgeoaaGreat
open Go.RowKit
theorem below_drewNA {B : Nat} {a w : World} (h : Below B a w) (n : Nat) : Below B a (w.drewN n) := h.trans ⟨rfl, rfl, rfl, Nat.le_refl _, fun _ _ => rfl⟩

def searchL (name : Int) : List (Int × Int) → Nat × Bool
  | [] => (0, false)
  | a :: l => if name ≤ a.1 then (0, a.1 == name) else ((searchL name l).1 + 1, (searchL name l).2)

theorem search_hit {name : Int} : ∀ {l : List (Int × Int)} {k : Nat}, k < l.length → (∀ j, j < k → (l.getD j (0, 0)).1 < name) → name ≤ (l.getD k (0, 0)).1 → searchL name l = (k, (l.getD k (0, 0)).1 == name)
  | [], k, h, _, _ => by simp at h
  | a :: l, 0, _, _, h => by simp only [searchL]; rw [if_pos (by simpa using h)]; rfl
  | a :: l, k + 1, h, hb, hk => by
    have h0 := hb 0 (by omega)
    simp only [searchL]
    rw [if_neg (by simp at h0; omega), search_hit (l := l) (k := k) (by simpa using h) (fun j hj => by have := hb (j + 1) (by omega); simpa using this) (by simpa using hk)]
    simp
theorem search_miss {name : Int} : ∀ {l : List (Int × Int)}, (∀ j, j < l.length → (l.getD j (0, 0)).1 < name) → searchL name l = (l.length, false)
  | [], _ => rfl
  | a :: l, hb => by
    have h0 := hb 0 (by simp)
    simp only [searchL]
    rw [if_neg (by simp at h0; omega), search_miss (l := l) (fun j hj => by have := hb (j + 1) (by simpa using hj); simpa using this)]
    simp

theorem ret_ib {a a' : Int} {b b' : Bool} (h : a = a') (h' : b = b') : Ending.returned (.tuple #[.int .i64 a, .bool b]) = .returned (.tuple #[.int .i64 a', .bool b']) := by rw [h, h']

set_option maxRecDepth 100000 in
set_option maxHeartbeats 1000000 in
theorem search_any (l : List (Int × Int)) (v : Value) (name : Int) (w : World) (hA : AttrsAt w v l) (hl : l.length ≤ 1000000) :
    Calls Tryz.prog 171 #[v, .int .i64 name] w fun e w' => e = .returned (.tuple #[.int .i64 (searchL name l).1, .bool (searchL name l).2]) ∧ Below w.heap.size w w' := by
  obtain ⟨a, cap, rfl, hc⟩ := hA
  have HC : Hid (0 < l.length → ∃ b off, a = some ⟨b, off, none⟩ ∧ ∀ j, j < l.length → w.cell? ⟨b, off + j * 2, none⟩ = some (.int .i64 (l.getD j (0, 0)).1) ∧ w.cell? ⟨b, off + j * 2 + 1, none⟩ = some (.int .i64 (l.getD j (0, 0)).2)) := hc
  clear hc
  go_enter Tryz.func171, Tryz.ntmps171
  go_wp2_with fail
  go_loopw [10] (fun i wr => ∃ k : Nat, k ≤ l.length ∧ i = .int .i64 k ∧ (∀ j, j < k → (l.getD j (0, 0)).1 < name) ∧ Below w.heap.size w wr) (fun i _ => l.length - (intOf i).toNat)
  case atStart => exact ⟨0, Nat.zero_le _, rfl, fun j h => by omega, Below.refl _ _⟩
  case round =>
    obtain ⟨k, hk, rfl, hno, hB⟩ := hrel
    have HN : Hid (∀ j, j < k → (l.getD j (0, 0)).1 < name) := hno
    clear hno
    by_cases hlt : k < l.length
    · obtain ⟨b, off, rfl, hd⟩ := HC.out (by omega)
      obtain ⟨c1, c2⟩ := hd k hlt
      have hbz : b < w.heap.size := below_of_cell c1
      have g1 := (hB.cell (p := ⟨b, off + k * 2, none⟩) hbz).trans c1
      have g2 := (hB.cell (p := ⟨b, off + k * 2 + 1, none⟩) hbz).trans c2
      have hbz' : b < wr.heap.size := by have := hB.size; omega
      generalize hA : l.getD k (0, 0) = A at *
      obtain ⟨A1, A2⟩ := A
      have HA : Hid (l.getD k (0, 0) = (A1, A2)) := hA
      dsimp only at g1 g2
      clear hd c1 c2 hA
      by_cases hle : name ≤ A1
      · go_wp2_with fail
        go_quiet (fail)
        go_wp2_with fail
        go_ret2
        have e := search_hit hlt HN.out (by rw [HA.out]; exact hle)
        rw [HA.out] at e
        exact ⟨ret_ib (by rw [e]) (by rw [e]), below_drewNA (hB.alloc hB.size _) _⟩
      · go_wp2_with fail
        go_roundw
        case rel =>
          refine ⟨k + 1, by omega, by go_num, fun j hj => ?_, hB.alloc hB.size _⟩
          by_cases e : j = k
          · subst e; rw [HA.out]; show A1 < name; omega
          · exact HN.out j (by omega)
        case measure => simp [intOf]; omega
    · have hke : k = l.length := by omega
      subst hke
      go_wp2_with fail
      go_ret2
      have e := search_miss HN.out
      exact ⟨ret_ib (by rw [e]) (by rw [e]), hB⟩

def faultE (T : List Nd) (n : Int) : Int := if mayB T then (if isNodeB T.length n then 0 else 2) else 1
def getL (T : List Nd) (n : Int) (nm : Int) : Int × Bool :=
  if faultE T n != 0 then (0, false)
  else if (searchL nm (nd T n.toNat).attrs).2 then (((nd T n.toNat).attrs.getD (searchL nm (nd T n.toNat).attrs).1 (0, 0)).2, true) else (0, false)

theorem searchL_lt' {nm : Int} : ∀ {l : List (Int × Int)}, (searchL nm l).2 = true → (searchL nm l).1 < l.length
  | [], h => by simp [searchL] at h
  | a :: l, h => by
    simp only [searchL] at h ⊢
    split at h
    · rename_i hle; rw [if_pos hle]; simp
    · rename_i hle
      rw [if_neg hle]
      have := searchL_lt' h
      simp
      omega

set_option maxHeartbeats 800000 in
theorem fault_any (T : List Nd) (hS : Sane T) (v : Value) (n : Int) (w : World) (hT : TreeAt w v T) :
    Calls Tryz.prog 170 #[v, .int .i64 n] w fun e w' => e = .returned (.int .i64 (faultE T n)) ∧ Below w.heap.size w w' := by
  obtain ⟨a, cap, rfl⟩ := hT.shape
  have HT := hideG hT
  have HS := hideG hS
  clear hT hS
  cases hm : mayB T
  · have hck : checkE T = 1 := by simp only [checkE, hm, Bool.false_eq_true, if_false]
    go_enter Tryz.func170, Tryz.ntmps170
    go_wp2_with (go_at_call 63; refine (check_any T HS.out _ _ HT.out).mono ?_; rintro e w1 ⟨rfl, hb1⟩)
    go_ret
    exact ⟨ret_int (by simp only [faultE, hm, Bool.false_eq_true, if_false]), hb1⟩
  · have hck : checkE T = 0 := by simp only [checkE, hm, if_true]
    have hpos := mayB_pos hm
    have hlen : (T.length : Int) ≤ 64 := by omega
    by_cases h0 : n < 0
    · have hi : isNodeB T.length n = false := by simp [isNodeB]; omega
      go_enter Tryz.func170, Tryz.ntmps170
      go_wp2_with (go_at_call 63; refine (check_any T HS.out _ _ HT.out).mono ?_; rintro e w1 ⟨rfl, hb1⟩)
      go_ret
      exact ⟨ret_int (by simp only [faultE, hm, hi, Bool.false_eq_true, if_true, if_false]), hb1⟩
    · have hd : decide (n < 0) = false := by simpa using h0
      by_cases h1 : (T.length : Int) ≤ n
      · have hi : isNodeB T.length n = false := by simp [isNodeB]; omega
        go_enter Tryz.func170, Tryz.ntmps170
        go_wp2_with (go_at_call 63; refine (check_any T HS.out _ _ HT.out).mono ?_; rintro e w1 ⟨rfl, hb1⟩)
        go_ret
        exact ⟨ret_int (by simp only [faultE, hm, hi, Bool.false_eq_true, if_true, if_false]), hb1⟩
      · have hi : isNodeB T.length n = true := by simp [isNodeB]; omega
        have hd1 : decide ((T.length : Int) ≤ n) = false := by simpa using h1
        go_enter Tryz.func170, Tryz.ntmps170
        go_wp2_with (go_at_call 63; refine (check_any T HS.out _ _ HT.out).mono ?_; rintro e w1 ⟨rfl, hb1⟩)
        go_ret
        exact ⟨ret_int (by simp only [faultE, hm, hi, if_true]), hb1⟩

set_option maxRecDepth 100000 in
set_option maxHeartbeats 800000 in
theorem get_any (T : List Nd) (hS : Sane T) (v : Value) (n nm : Int) (w : World) (hT : TreeAt w v T) :
    Calls Tryz.prog 148 #[v, .int .i64 n, .int .i64 nm] w fun e w' => e = .returned (.tuple #[.int .i64 (getL T n nm).1, .bool (getL T n nm).2]) ∧ Below w.heap.size w w' := by
  obtain ⟨a, cap, rfl⟩ := hT.shape
  have HT := hideG hT
  have HS := hideG hS
  clear hT hS
  cases hf : (faultE T n != 0)
  · have hmn : mayB T = true ∧ isNodeB T.length n = true := by
      simp only [faultE] at hf
      cases hm : mayB T
      · simp [hm] at hf
      · cases hi : isNodeB T.length n
        · simp [hm, hi] at hf
        · exact ⟨rfl, rfl⟩
    obtain ⟨k, rfl, hk⟩ := isNodeB_true hmn.2
    have hg : getL T k nm = if (searchL nm (nd T k).attrs).2 then (((nd T k).attrs.getD (searchL nm (nd T k).attrs).1 (0, 0)).2, true) else (0, false) := by
      simp only [getL, hf, Bool.false_eq_true, if_false, Int.toNat_natCast]
    have HG := hideG hg
    have hs2 := (HS.out k hk).2
    obtain ⟨b, off, cap', hv, hc⟩ := HT.out.at (by omega)
    simp only [Value.slice.injEq, true_and] at hv
    obtain ⟨rfl, rfl⟩ := hv
    obtain ⟨kv, av, hN⟩ := hc k hk
    have c6 := hN.attrsc
    have hAt := hN.attrs
    have hbz : b < w.heap.size := below_of_cell c6
    obtain ⟨aa, ac, rfl⟩ := hN.attrs.shape
    have HA := hideG hAt
    clear hc hN hg hAt hmn
    cases hs : (searchL nm (nd T k).attrs).2
    · go_enter Tryz.func148, Tryz.ntmps148
      go_wp2_with (first | (go_at_call 170; refine (fault_any T HS.out _ _ _ HT.out).mono ?_; rintro e w1 ⟨rfl, hb1⟩; have g6 := (hb1.cell (p := ⟨b, off + k * 7 + 6, none⟩) hbz).trans c6; have HA1 := hideG (HA.out.below hb1)) | (go_at_call 171; refine (search_any (nd T k).attrs _ _ _ HA1.out hs2).mono ?_; rintro e w2 ⟨rfl, hb2⟩; rw [hs]))
      go_ret2
      exact ⟨ret_ib (by rw [HG.out, hs]; rfl) (by rw [HG.out, hs]; rfl), hb1.trans (hb2.mono hb1.size)⟩
    · have hlt := searchL_lt' hs
      obtain ⟨q, hq⟩ : ∃ q, (searchL nm (nd T k).attrs).1 = q := ⟨_, rfl⟩
      rw [hq] at hlt
      have HQ := hideG hq
      clear hq
      obtain ⟨a', c', hv', hd⟩ := HA.out
      simp only [Value.slice.injEq, true_and] at hv'
      obtain ⟨rfl, rfl⟩ := hv'
      obtain ⟨ab, aoff, rfl, hd2⟩ := hd (by omega)
      obtain ⟨_, c2⟩ := hd2 q hlt
      have hab : ab < w.heap.size := below_of_cell c2
      clear hd hd2
      go_enter Tryz.func148, Tryz.ntmps148
      go_wp2_with (first | (go_at_call 170; refine (fault_any T HS.out _ _ _ HT.out).mono ?_; rintro e w1 ⟨rfl, hb1⟩; have g6 := (hb1.cell (p := ⟨b, off + k * 7 + 6, none⟩) hbz).trans c6; have HA1 := hideG (HA.out.below hb1); have g2 := (hb1.cell (p := ⟨ab, aoff + q * 2 + 1, none⟩) hab).trans c2; have hz1 := hb1.size) | (go_at_call 171; refine (search_any (nd T k).attrs _ _ _ HA1.out hs2).mono ?_; rintro e w2 ⟨rfl, hb2⟩; rw [hs, HQ.out]; have i6 := (hb2.cell (p := ⟨b, off + k * 7 + 6, none⟩) (by simp; omega)).trans g6; have i2 := (hb2.cell (p := ⟨ab, aoff + q * 2 + 1, none⟩) (by simp; omega)).trans g2))
      go_ret2
      exact ⟨ret_ib (by rw [HG.out, hs, HQ.out]; simp [hlt]) (by rw [HG.out, hs]; rfl), hb1.trans (hb2.mono hb1.size)⟩
  · go_enter Tryz.func148, Tryz.ntmps148
    go_wp2_with (go_at_call 170; refine (fault_any T HS.out _ _ _ HT.out).mono ?_; rintro e w1 ⟨rfl, hb1⟩)
    go_ret2
    exact ⟨ret_ib (by simp only [getL, hf, if_true]) (by simp only [getL, hf, if_true]), hb1⟩

set_option maxHeartbeats 400000 in
theorem has_any (T : List Nd) (hS : Sane T) (v : Value) (n nm : Int) (w : World) (hT : TreeAt w v T) :
    Calls Tryz.prog 112 #[v, .int .i64 n, .int .i64 nm] w fun e w' => e = .returned (.bool (getL T n nm).2) ∧ Below w.heap.size w w' := by
  obtain ⟨a, cap, rfl⟩ := hT.shape
  have HT := hideG hT
  have HS := hideG hS
  clear hT hS
  go_enter Tryz.func112, Tryz.ntmps112
  go_wp2_with (go_at_call 148; refine (get_any T HS.out _ _ _ _ HT.out).mono ?_; rintro e w1 ⟨rfl, hb1⟩)
  go_ret
  exact ⟨rfl, hb1⟩

def lookL (l : List (Int × Int)) (nm : Int) : Int × Bool :=
  if (searchL nm l).2 then ((l.getD (searchL nm l).1 (0, 0)).2, true) else (0, false)
theorem lookL_cons (a : Int × Int) (l : List (Int × Int)) (nm : Int) : lookL (a :: l) nm = if nm ≤ a.1 then (if a.1 == nm then (a.2, true) else (0, false)) else lookL l nm := by
  rw [lookL, searchL]
  by_cases h : nm ≤ a.1
  · rw [if_pos h, if_pos h]; rfl
  · rw [if_neg h, if_neg h, lookL]; simp
theorem may_attrs {T : List Nd} (hm : mayB T = true) {m : Nat} (hlt : m < T.length) : attrsFrom (nd T m).kind (-1) (nd T m).attrs = true := (mayB_fine hm).attrs m hlt
theorem getL_ok {T : List Nd} {n : Nat} (hm : mayB T = true) (hn : n < T.length) (nm : Int) : getL T n nm = lookL (nd T n).attrs nm := by
  have hi : isNodeB T.length (n : Int) = true := by simp [isNodeB]; omega
  rw [getL, faultE, hm, hi, lookL, Int.toNat_natCast]
  rfl

/-- The first attribute of a name. -/
def firstL (nm : Int) : List (Int × Int) → Int × Bool
  | [] => (0, false)
  | a :: l => if a.1 == nm then (a.2, true) else firstL nm l
theorem first_drop {l : List (Int × Int)} {k : Nat} (h : k < l.length) (nm : Int) : firstL nm (l.drop k) = if (l.getD k (0, 0)).1 == nm then ((l.getD k (0, 0)).2, true) else firstL nm (l.drop (k + 1)) := by
  rw [List.drop_eq_getElem_cons h, firstL, List.getD_eq_getElem?_getD, List.getElem?_eq_getElem h, Option.getD_some]
theorem first_gone {k last nm : Int} (h : nm ≤ last) : ∀ {l : List (Int × Int)}, attrsFrom k last l = true → firstL nm l = (0, false)
  | [], _ => rfl
  | a :: l, hl => by
    rw [attrsFrom, Bool.and_eq_true, Bool.not_eq_true', Bool.or_eq_false_iff, decide_eq_false_iff_not] at hl
    rw [firstL, if_neg (by simp; omega)]
    exact first_gone (by omega) hl.2
theorem first_look {k nm : Int} : ∀ {l : List (Int × Int)} {last : Int}, attrsFrom k last l = true → firstL nm l = lookL l nm
  | [], _, _ => rfl
  | a :: l, last, hl => by
    rw [attrsFrom, Bool.and_eq_true] at hl
    rw [firstL, lookL_cons]
    by_cases e : a.1 = nm
    · rw [if_pos (by simpa using e), if_pos (by omega), if_pos (by simpa using e)]
    · rw [if_neg (by simpa using e)]
      by_cases hn : nm ≤ a.1
      · rw [if_pos hn, if_neg (by simpa using e)]
        exact first_gone hn hl.2
      · rw [if_neg hn]
        exact first_look hl.2

def refGetL (T : List Nd) (n nm : Int) : Int × Bool := if isNodeB T.length n then firstL nm (nd T n.toNat).attrs else (0, false)
theorem refGet_eq {T : List Nd} (hm : mayB T = true) (n nm : Int) : refGetL T n nm = getL T n nm := by
  rw [refGetL]
  cases hi : isNodeB T.length n
  · rw [getL, faultE, hm, hi]; rfl
  · obtain ⟨k, rfl, hk⟩ := isNodeB_true hi
    rw [if_pos rfl, Int.toNat_natCast, getL_ok hm hk]
    exact first_look (may_attrs hm hk)

end Go.Proofs.YtclhimodopgeoaaGreat
namespace Go.Proofs.YtclhimodopgeoaaGreat
open Go.RowKit

def nameI (T : List Nd) (n : Int) : Int := (getL T n 4).1
set_option maxHeartbeats 800000 in
theorem nameOf_any (T : List Nd) (hS : Sane T) (v : Value) (n : Int) (w : World) (hT : TreeAt w v T) :
    Calls Tryz.prog 216 #[v, .int .i64 n] w fun e w' => e = .returned (.int .i64 (nameI T n)) ∧ Below w.heap.size w w' := by
  obtain ⟨a, cap, rfl⟩ := hT.shape
  have HT := hideG hT
  have HS := hideG hS
  clear hT hS
  go_enter Tryz.func216, Tryz.ntmps216
  go_wp2_with (go_at_call 148; refine (get_any T HS.out _ _ _ _ HT.out).mono ?_; rintro e w1 ⟨rfl, hb1⟩)
  go_ret
  exact ⟨rfl, hb1⟩

/-- The slots below a node, in the order of the tree. -/
def slotsN (T : List Nd) (r : Nat) : List Nat := (dn T r).filter fun n => (nd T n).tag == 3
theorem filter_take {l : List Nat} {k : Nat} (h : k < l.length) (p : Nat → Bool) : (l.take (k + 1)).filter p = (l.take k).filter p ++ (if p (l.getD k 0) then [l.getD k 0] else []) := by
  rw [List.take_succ_eq_append_getElem h, List.filter_append, List.getD_eq_getElem?_getD, List.getElem?_eq_getElem h]
  congr 1
  simp only [Option.getD_some, List.filter_cons, List.filter_nil]
theorem slotsN_le {T : List Nd} (hm : mayB T = true) {r : Nat} (hr : r < T.length) : (slotsN T r).length ≤ 64 := by
  have h1 := List.length_filter_le (fun n => (nd T n).tag == 3) (dn T r)
  have h2 := (forest3 hm).d_len hr
  have h3 := mayB_pos hm
  unfold slotsN; omega

set_option maxRecDepth 100000 in
set_option maxHeartbeats 2000000 in
theorem slotsOf_any (T : List Nd) (hm : mayB T = true) (hS : Sane T) (v : Value) (r : Nat) (hr : r < T.length) (w : World) (hT : TreeAt w v T) :
    Calls Tryz.prog 215 #[v, .int .i64 (r : Int)] w fun e w' => ∃ a c, e = .returned (.slice a (castL (slotsN T r)).length c) ∧ w'.ownsRow w.heap.size 3 1 (.slice a (castL (slotsN T r)).length c) (castL (slotsN T r)).length (intCells (castL (slotsN T r))) ∧ Below w.heap.size w w' := by
  obtain ⟨i3, hi3, hz30, hz31, hz32⟩ := info_parts infoT3
  obtain ⟨tb, to, tc, rfl, _⟩ := hT.at (by omega)
  have HT := hideG hT
  have HS := hideG hS
  have E1 := hideG (dnI_known hm hr)
  have hdl := (forest3 hm).d_len hr
  have hpos := mayB_pos hm
  have HLT := hideG (show ∀ x ∈ dn T r, x < T.length from fun x hx => (forest3 hm).d_lt hr hx)
  have HLEN := hideG (castL_length (dn T r))
  clear hT hS hm
  go_enter Tryz.func215, Tryz.ntmps215
  go_wp2_with fail
  refine (listO_any T HS.out _ _ _ HT.out).mono ?_
  rintro e w2 ⟨a2, c2, rfl, ho2, hb2⟩
  rw [E1.out] at ho2 ⊢
  have HL := hideG (ownsRow_ints ho2)
  rw [HLEN.out] at HL ⊢
  have HB2 := hideG hb2
  have HT2 := hideG (HT.out.below hb2)
  clear ho2 hb2
  go_wp2_with fail
  go_loopw [5, 12] (fun o i wr => ∃ (k : Nat) (oa : Option Addr) (oc : Nat), k ≤ (dn T r).length ∧ i = .int .i64 k ∧ o = .slice oa (castL (((dn T r).take k).filter fun n => (nd T n).tag == 3)).length oc ∧ wr.ownsRow w2.heap.size 3 1 (.slice oa (castL (((dn T r).take k).filter fun n => (nd T n).tag == 3)).length oc) (castL (((dn T r).take k).filter fun n => (nd T n).tag == 3)).length (intCells (castL (((dn T r).take k).filter fun n => (nd T n).tag == 3))) ∧ Below w2.heap.size w2 wr) (fun _ i _ => (dn T r).length - (intOf i).toNat)
  case atStart => exact ⟨0, none, 0, Nat.zero_le _, rfl, rfl, World.ownsRow_nil _ _ _ _, Below.refl _ _⟩
  case round =>
    obtain ⟨k, oa, oc, hk, rfl, rfl, hown, hB⟩ := hrel
    have HOk := hideG hown
    have HBk := hideG hB
    clear hown hB
    by_cases hlt : k < (dn T r).length
    · obtain ⟨_, _, hsh, hd⟩ := HL.out.below HBk.out
      simp only [Value.slice.injEq] at hsh
      obtain ⟨rfl, hsq, rfl⟩ := hsh
      clear hsq
      obtain ⟨lb, loff, rfl, hdd⟩ := hd (by rw [HLEN.out]; omega)
      have c1 := hdd k (by rw [HLEN.out]; exact hlt)
      rw [castL_getD _ hlt] at c1
      have hxl := HLT.out _ (getD_mem hlt)
      have hft := filter_take hlt (fun n => (nd T n).tag == 3)
      have hcb : (castL (((dn T r).take k).filter fun n => (nd T n).tag == 3)).length ≤ 64 := by
        rw [castL_length]
        have h1 := List.length_filter_le (fun n => (nd T n).tag == 3) ((dn T r).take k)
        have h2 : ((dn T r).take k).length ≤ (dn T r).length := List.length_take_le' ..
        omega
      generalize (dn T r).getD k 0 = x at *
      obtain ⟨tb', to', tc', htv, hct⟩ := (HT2.out.below HBk.out).at (by omega)
      simp only [Value.slice.injEq, Option.some.injEq, Addr.mk.injEq, and_true, true_and] at htv
      obtain ⟨⟨rfl, rfl⟩, rfl⟩ := htv
      obtain ⟨kv, av, hN⟩ := hct x hxl
      have g1 := hN.tag
      have hx0 : (0 : Int) ≤ (x : Int) := by omega
      clear hd hdd hct hN
      cases htg : ((nd T x).tag == 3)
      · have he : castL (((dn T r).take (k + 1)).filter fun n => (nd T n).tag == 3) = castL (((dn T r).take k).filter fun n => (nd T n).tag == 3) := by
          rw [hft, htg]; simp
        have HE := hideG he
        clear he hft
        generalize castL (((dn T r).take k).filter fun n => (nd T n).tag == 3) = cur at *
        go_wp2_with fail
        go_roundw
        case rel => exact ⟨k + 1, oa, oc, by omega, by go_num, by rw [HE.out], by rw [HE.out]; exact HOk.out, HBk.out⟩
        case measure => simp [intOf]; omega
      · have he : castL (((dn T r).take (k + 1)).filter fun n => (nd T n).tag == 3) = castL (((dn T r).take k).filter fun n => (nd T n).tag == 3) ++ [(x : Int)] := by
          rw [hft, htg]; simp [castL]
        have HE := hideG he
        clear he hft
        generalize castL (((dn T r).take k).filter fun n => (nd T n).tag == 3) = cur at *
        go_wp2_with (at_builtin; refine wpList_append_any rfl (.tmp 22) (.tmp 24) 24 rfl w2.heap.size 3 i3 _ 1 8 Tryz.underlying24 hi3 hz30 hz31 hz32 rfl (by decide) _ cur.length (intCells cur) rfl (HOk.out.alloc _) _ 1 [.int .i64 (x : Int)] rfl (row_new1 _ _) rfl ?h2 ?h3 ?h4 ?h5 ?_)
        case h2 => intro y hy; simp at hy; subst hy; rfl
        case h3 => simp only [maxLen]; omega
        case h4 => omega
        case h5 => have := HBk.out.size; simp; omega
        intro v4 w4 ho4 hg4 hf4
        obtain ⟨a4, c4, rfl⟩ := ownsRow_shape ho4
        rw [intCells_snoc] at ho4
        have HB4 := hideG ((HBk.out.alloc HBk.out.size (.cells #[.int .i64 (x : Int)] 3)).grown hg4 (by have := HBk.out.size; simp; omega) (fun j e => (HOk.out.lt j e).1))
        have hl4 : (cur ++ [(x : Int)]).length = cur.length + 1 := by simp
        have HL4 := hideG hl4
        have HO4 := hideG ho4
        clear ho4 hg4 hf4 hl4
        go_wp2_with fail
        go_roundw
        case rel => exact ⟨k + 1, a4, c4, by omega, by go_num, by rw [HE.out, HL4.out], by rw [HE.out, HL4.out]; exact HO4.out, HB4.out⟩
        case measure => simp [intOf]; omega
    · have hke : (dn T r).take k = dn T r := List.take_of_length_le (by omega)
      rw [hke] at HOk ⊢
      have HBE := hideG (HB2.out.trans (HBk.out.mono HB2.out.size))
      have HOE := hideG (show wr.ownsRow w.heap.size 3 1 _ _ _ from ownsRow_base HOk.out HB2.out.size)
      clear hke
      go_wp2_with fail
      go_ret
      exact ⟨oa, oc, rfl, HOE.out, HBE.out⟩

end Go.Proofs.YtclhimodopgeoaaGreat
namespace Go.Proofs.YtclhimodopgeoaaGreat
open Go.RowKit

def byNumI (T : List Nd) (L : List Int) (kid : Int) : Int := if (getL T kid 9).2 && containsB L (getL T kid 9).1 then (getL T kid 9).1 else -1
def byNameI (T : List Nd) (L NL : List Int) (kid : Int) : Int := if indexI NL (nameI T kid) < 0 then -1 else L.getD (indexI NL (nameI T kid)).toNat 0
def placeV (T : List Nd) (m : Bool) (L NL : List Int) (kid : Int) : Int := if m then byNumI T L kid else byNameI T L NL kid

set_option maxRecDepth 100000 in
set_option maxHeartbeats 2000000 in
theorem byNumber_any (T : List Nd) (hS : Sane T) (v v1 v2 : Value) (m : Bool) (L NL : List Int) (kid : Int) (w : World) (hT : TreeAt w v T) (h1 : IntsAt w v1 L) (h2 : IntsAt w v2 NL) (hl : L.length ≤ 1000000) :
    Calls Tryz.prog 217 #[.agg #[.bool m, v1, v2], v, .int .i64 kid] w fun e w' => e = .returned (.int .i64 (byNumI T L kid)) ∧ Below w.heap.size w w' := by
  obtain ⟨ta, tc, rfl⟩ := hT.shape
  obtain ⟨a1, c1, rfl⟩ := h1.shape
  obtain ⟨a2, c2, rfl⟩ := h2.shape
  have HB0 := hideG ((Below.refl _ w).alloc (Nat.le_refl _) (.cells #[.bool m, .slice a1 L.length c1, .slice a2 NL.length c2] 134))
  have r1 := cell_of_cells (World.alloc_heap_new w (.cells #[.bool m, .slice a1 L.length c1, .slice a2 NL.length c2] 134)) (j := 1) (u := .slice a1 L.length c1) rfl
  have HT := hideG (hT.below HB0.out)
  have HI := hideG (h1.below HB0.out)
  have HS := hideG hS
  clear hT h1 h2 hS
  cases hg2 : (getL T kid 9).2
  · have HQ := hideG (show byNumI T L kid = -1 by simp [byNumI, hg2])
    generalize (getL T kid 9).1 = gv at *
    go_enter Tryz.func217, Tryz.ntmps217
    go_wp2_with fail
    refine (get_any T HS.out _ _ _ _ HT.out).mono ?_
    rintro e w1 ⟨rfl, hb1⟩
    rw [hg2]
    have HB1 := hideG (HB0.out.trans (hb1.mono (by simp)))
    clear hb1
    go_wp2_with fail
    go_ret
    exact ⟨ret_int HQ.out.symm, HB1.out⟩
  · cases hcn : containsB L (getL T kid 9).1
    · have HQ := hideG (show byNumI T L kid = -1 by simp [byNumI, hg2, hcn])
      have HG := hideG hg2
      have HC := hideG hcn
      go_enter Tryz.func217, Tryz.ntmps217
      go_wp2_with fail
      refine (get_any T HS.out _ _ _ _ HT.out).mono ?_
      rintro e w1 ⟨rfl, hb1⟩
      rw [HG.out]
      have HB1 := hideG (HB0.out.trans (hb1.mono (by simp)))
      have HI1 := hideG (HI.out.below hb1)
      have r1' := cell_below hb1 r1
      clear hb1 r1
      generalize (getL T kid 9).1 = gv at *
      clear hg2 hcn
      go_wp2_with (go_at_call 73; refine (contains_any L _ _ _ HI1.out hl).mono ?_; rintro e w2 ⟨rfl, hw2⟩; subst hw2; rw [HC.out])
      go_ret
      exact ⟨ret_int HQ.out.symm, HB1.out⟩
    · have HQ := hideG (show byNumI T L kid = (getL T kid 9).1 by simp [byNumI, hg2, hcn])
      have HG := hideG hg2
      have HC := hideG hcn
      go_enter Tryz.func217, Tryz.ntmps217
      go_wp2_with fail
      refine (get_any T HS.out _ _ _ _ HT.out).mono ?_
      rintro e w1 ⟨rfl, hb1⟩
      rw [HG.out]
      have HB1 := hideG (HB0.out.trans (hb1.mono (by simp)))
      have HI1 := hideG (HI.out.below hb1)
      have r1' := cell_below hb1 r1
      clear hb1 r1
      generalize (getL T kid 9).1 = gv at *
      clear hg2 hcn
      go_wp2_with (go_at_call 73; refine (contains_any L _ _ _ HI1.out hl).mono ?_; rintro e w2 ⟨rfl, hw2⟩; subst hw2; rw [HC.out])
      go_ret
      exact ⟨ret_int HQ.out.symm, HB1.out⟩

set_option maxRecDepth 100000 in
set_option maxHeartbeats 2000000 in
theorem byName_any (T : List Nd) (hS : Sane T) (v v1 v2 : Value) (m : Bool) (L NL : List Int) (kid : Int) (w : World) (hT : TreeAt w v T) (h1 : IntsAt w v1 L) (h2 : IntsAt w v2 NL) (hl : L.length ≤ 1000) (hln : NL.length = L.length) :
    Calls Tryz.prog 218 #[.agg #[.bool m, v1, v2], v, .int .i64 kid] w fun e w' => e = .returned (.int .i64 (byNameI T L NL kid)) ∧ Below w.heap.size w w' := by
  obtain ⟨ta, tc, rfl⟩ := hT.shape
  have hsh1 := h1
  obtain ⟨a1, c1, rfl⟩ := h1.shape
  obtain ⟨a2, c2, rfl⟩ := h2.shape
  have HB0 := hideG ((Below.refl _ w).alloc (Nat.le_refl _) (.cells #[.bool m, .slice a1 L.length c1, .slice a2 NL.length c2] 134))
  have r1 := cell_of_cells (World.alloc_heap_new w (.cells #[.bool m, .slice a1 L.length c1, .slice a2 NL.length c2] 134)) (j := 1) (u := .slice a1 L.length c1) rfl
  have r2 := cell_of_cells (World.alloc_heap_new w (.cells #[.bool m, .slice a1 L.length c1, .slice a2 NL.length c2] 134)) (j := 2) (u := .slice a2 NL.length c2) rfl
  have HT := hideG (hT.below HB0.out)
  have HI1 := hideG (h1.below HB0.out)
  have HI2 := hideG (h2.below HB0.out)
  have HS := hideG hS
  have HLN := hideG hln
  clear hT h1 h2 hS hsh1 hln
  have hsz : w.heap.size < (w.alloc (.cells #[.bool m, .slice a1 L.length c1, .slice a2 NL.length c2] 134)).heap.size := by simp
  by_cases hlt : indexI NL (nameI T kid) < 0
  · have HQ := hideG (show byNameI T L NL kid = -1 by simp [byNameI, hlt])
    go_enter Tryz.func218, Tryz.ntmps218
    go_wp2_with fail
    generalize (w.alloc (.cells #[.bool m, .slice a1 L.length c1, .slice a2 NL.length c2] 134)) = V at *
    have HF1 := hideG (show ∀ U, Below V.heap.size V U → Calls Tryz.prog 216 #[.slice ta T.length tc, .int .i64 kid] U fun e w' => e = .returned (.int .i64 (nameI T kid)) ∧ Below V.heap.size V w' from fun U hU => by
      refine (nameOf_any T HS.out _ _ _ (HT.out.below hU)).mono ?_
      rintro e w' ⟨rfl, hb⟩
      exact ⟨rfl, hU.trans (hb.mono hU.size)⟩)
    have HF2 := hideG (show ∀ U, Below V.heap.size V U → Calls Tryz.prog 115 #[.slice a2 NL.length c2, .int .i64 (nameI T kid)] U fun e w' => e = .returned (.int .i64 (indexI NL (nameI T kid))) ∧ Below V.heap.size V w' from fun U hU => by
      refine (sliceIndex_any NL _ _ _ (HI2.out.below hU) (by rw [HLN.out]; omega)).mono ?_
      rintro e w' ⟨rfl, rfl⟩
      exact ⟨rfl, hU⟩)
    have hcc : ∀ (d : Calm V) (b o : Nat), b < V.heap.size → d.to.cell? ⟨b, o, none⟩ = V.cell? ⟨b, o, none⟩ := calmCell
    generalize indexI NL (nameI T kid) = ix at *
    generalize nameI T kid = nm at *
    refine wp_region_calm (by kernel_rfl) (by kernel_rfl) ?_
    repeat (go_big_quiet_step (first | (go_at_call 216; refine Calls.mono (HF1.out _ (Calm.below _)) ?_; rintro e w1 ⟨rfl, hb⟩; exact ⟨rfl, ⟨w1, hb⟩, rfl⟩) | (go_at_call 115; refine Calls.mono (HF2.out _ (Calm.below _)) ?_; rintro e w1 ⟨rfl, hb⟩; exact ⟨rfl, ⟨w1, hb⟩, rfl⟩)))
    refine wpQuiet_nil ?_
    intro _ hw'
    obtain ⟨dq, hw''⟩ := hw'
    subst hw''
    have HBD := hideG (HB0.out.trans (dq.below.mono HB0.out.size))
    generalize dq.to = w3 at *
    clear dq hcc HF1 HF2
    go_wp2_with fail
    go_ret
    exact ⟨ret_int HQ.out.symm, HBD.out⟩
  · have hge : 0 ≤ indexI NL (nameI T kid) := by omega
    obtain ⟨q, hq⟩ : ∃ q : Nat, indexI NL (nameI T kid) = (q : Int) := ⟨(indexI NL (nameI T kid)).toNat, by omega⟩
    have hql : q < L.length := by
      unfold indexI at hq
      split at hq
      · rename_i h; rw [HLN.out] at h; omega
      · omega
    have HQ := hideG (show byNameI T L NL kid = L.getD q 0 by unfold byNameI; rw [if_neg hlt, hq, Int.toNat_natCast])
    obtain ⟨b1, o1, rfl, hd1⟩ : ∃ b1 o1, a1 = some ⟨b1, o1, none⟩ ∧ (w.alloc (.cells #[.bool m, .slice a1 L.length c1, .slice a2 NL.length c2] 134)).cell? ⟨b1, o1 + q, none⟩ = some (.int .i64 (L.getD q 0)) := by
      obtain ⟨a', c', hv', hd'⟩ := HI1.out
      simp only [Value.slice.injEq, true_and] at hv'
      obtain ⟨rfl, rfl⟩ := hv'
      obtain ⟨b, off, rfl, hd⟩ := hd' (by omega)
      exact ⟨b, off, rfl, hd q hql⟩
    have hb1 : b1 < (w.alloc (.cells #[.bool m, .slice (some ⟨b1, o1, none⟩) L.length c1, .slice a2 NL.length c2] 134)).heap.size := below_of_cell hd1
    go_enter Tryz.func218, Tryz.ntmps218
    go_wp2_with fail
    generalize (w.alloc (.cells #[.bool m, .slice (some ⟨b1, o1, none⟩) L.length c1, .slice a2 NL.length c2] 134)) = V at *
    have HF1 := hideG (show ∀ U, Below V.heap.size V U → Calls Tryz.prog 216 #[.slice ta T.length tc, .int .i64 kid] U fun e w' => e = .returned (.int .i64 (nameI T kid)) ∧ Below V.heap.size V w' from fun U hU => by
      refine (nameOf_any T HS.out _ _ _ (HT.out.below hU)).mono ?_
      rintro e w' ⟨rfl, hb⟩
      exact ⟨rfl, hU.trans (hb.mono hU.size)⟩)
    have HF2 := hideG (show ∀ U, Below V.heap.size V U → Calls Tryz.prog 115 #[.slice a2 NL.length c2, .int .i64 (nameI T kid)] U fun e w' => e = .returned (.int .i64 (q : Int)) ∧ Below V.heap.size V w' from fun U hU => by
      refine (sliceIndex_any NL _ _ _ (HI2.out.below hU) (by rw [HLN.out]; omega)).mono ?_
      rintro e w' ⟨rfl, rfl⟩
      exact ⟨by rw [hq], hU⟩)
    have hcc : ∀ (d : Calm V) (b o : Nat), b < V.heap.size → d.to.cell? ⟨b, o, none⟩ = V.cell? ⟨b, o, none⟩ := calmCell
    clear hq hlt hge
    generalize nameI T kid = nm at *
    refine wp_region_calm (by kernel_rfl) (by kernel_rfl) ?_
    repeat (go_big_quiet_step (first | (go_at_call 216; refine Calls.mono (HF1.out _ (Calm.below _)) ?_; rintro e w1 ⟨rfl, hb⟩; exact ⟨rfl, ⟨w1, hb⟩, rfl⟩) | (go_at_call 115; refine Calls.mono (HF2.out _ (Calm.below _)) ?_; rintro e w1 ⟨rfl, hb⟩; exact ⟨rfl, ⟨w1, hb⟩, rfl⟩)))
    refine wpQuiet_nil ?_
    intro _ hw'
    obtain ⟨dq, hw''⟩ := hw'
    subst hw''
    have HBD := hideG (HB0.out.trans (dq.below.mono HB0.out.size))
    have s1 := cell_below dq.below r1
    have s2 := cell_below dq.below hd1
    generalize dq.to = w3 at *
    clear dq hcc HF1 HF2 r1 r2 hd1
    generalize L.getD q 0 = lq at *
    have hq0 : (0 : Int) ≤ (q : Int) := by omega
    go_wp2_with fail
    go_ret
    exact ⟨ret_int HQ.out.symm, HBD.out⟩

set_option maxRecDepth 100000 in
set_option maxHeartbeats 2000000 in
theorem place_any (T : List Nd) (hS : Sane T) (v v1 v2 : Value) (m : Bool) (L NL : List Int) (kid : Int) (w : World) (hT : TreeAt w v T) (h1 : IntsAt w v1 L) (h2 : IntsAt w v2 NL) (hl : L.length ≤ 1000) (hln : m = false → NL.length = L.length) :
    Calls Tryz.prog 207 #[.agg #[.bool m, v1, v2], v, .int .i64 kid] w fun e w' => e = .returned (.int .i64 (placeV T m L NL kid)) ∧ Below w.heap.size w w' := by
  obtain ⟨ta, tc, rfl⟩ := hT.shape
  obtain ⟨a1, c1, rfl⟩ := h1.shape
  obtain ⟨a2, c2, rfl⟩ := h2.shape
  have HB0 := hideG ((Below.refl _ w).alloc (Nat.le_refl _) (.cells #[.bool m, .slice a1 L.length c1, .slice a2 NL.length c2] 134))
  have HT := hideG (hT.below HB0.out)
  have HI1 := hideG (h1.below HB0.out)
  have HI2 := hideG (h2.below HB0.out)
  have HS := hideG hS
  have HLN := hideG hln
  clear hT h1 h2 hS hln
  cases m
  · have HQ := hideG (show placeV T false L NL kid = byNameI T L NL kid by simp [placeV])
    go_enter Tryz.func207, Tryz.ntmps207
    go_wp2_with (go_at_call 218; refine (byName_any T HS.out _ _ _ false L NL kid _ HT.out HI1.out HI2.out hl (HLN.out rfl)).mono ?_; rintro e w1 ⟨rfl, hb1⟩; simp only [World.size_alloc] at hb1)
    go_ret
    exact ⟨ret_int HQ.out.symm, HB0.out.trans (hb1.mono (by omega))⟩
  · have HQ := hideG (show placeV T true L NL kid = byNumI T L kid by simp [placeV])
    go_enter Tryz.func207, Tryz.ntmps207
    go_wp2_with (go_at_call 217; refine (byNumber_any T HS.out _ _ _ true L NL kid _ HT.out HI1.out HI2.out (by omega)).mono ?_; rintro e w1 ⟨rfl, hb1⟩; simp only [World.size_alloc] at hb1)
    go_ret
    exact ⟨ret_int HQ.out.symm, HB0.out.trans (hb1.mono (by omega))⟩
end Go.Proofs.YtclhimodopgeoaaGreat
namespace Go.Proofs.YtclhimodopgeoaaGreat
open Go.RowKit

theorem wp_append_any {P : Program} {w : World} {o : Oper} {a : Act} {K : Act → World → Prop} {Q : Exit → Act → World → Prop} (s x : Operand) (t : TypeId)
    (ho : o.op = .call { callee := .builtin .append, args := #[s, x], argTypes := #[t, t] })
    (base : Nat) (e : TypeId) (i : TypeInfo) (z : Value) (size bytes : Nat) (ht : P.underlying t = some (.slice e)) (hi : P.info? e = some i) (hz : i.zero = some z)
    (hsize : i.size = size) (hby : i.bytes = bytes) (hzs : z.cells.size = size) (hsz : 0 < size)
    (v : Value) (n : Nat) (xs : List Value) (hs : a.eval s = v) (hown : w.ownsRow base e size v n xs)
    (u : Value) (m : Nat) (news : List Value) (hx : a.eval x = u) (hu : Holds w u m news) (hl : news.length = m * size) (h1 : ∀ x ∈ news, x.oneCell' = true)
    (h63 : n + m ≤ maxLen) (hbytes : (n + m) * bytes ≤ 140737488355328) (hbase : base ≤ w.heap.size)
    (h : ∀ v' w', w'.ownsRow base e size v' (n + m) (xs ++ news) → w.grownBy w' v.ownBlock → (∀ k, v'.ownBlock = some k → v.ownBlock = some k ∨ w.heap.size ≤ k) → K (a.put o.dst v') w') : Oper.wp P o a w K Q := by
  obtain ⟨v', w', hrun, h2, h3, h4⟩ := append_any (P := P) w base t o.type e i z size bytes ht hi hz hsize hby hzs hsz v n xs hown u m news hu hl h1 h63 hbytes hbase
  unfold Oper.wp
  simp [execOp, ho, resolve, invoke, builtin, hs, hx, hrun, Result.andThen, Oper.upon]
  exact h v' w' h2 h3 h4
def manB (T : List Nd) (r : Int) : Bool := (getL T r 8).2
def namesI (T : List Nd) (r : Nat) : List Int := (slotsN T r).map fun (s : Nat) => nameI T (s : Int)
theorem namesI_len (T : List Nd) (r : Nat) : (namesI T r).length = (slotsN T r).length := by simp [namesI]
theorem namesI_take {T : List Nd} {r k : Nat} (h : k < (slotsN T r).length) : (namesI T r).take (k + 1) = (namesI T r).take k ++ [nameI T (((slotsN T r).getD k 0 : Nat) : Int)] := by
  have h' : k < (namesI T r).length := by rw [namesI_len]; exact h
  rw [List.take_succ_eq_append_getElem h']
  congr 2
  simp [namesI, List.getElem?_eq_getElem h]

set_option maxRecDepth 100000 in
set_option maxHeartbeats 4000000 in
theorem shelfOf_any (T : List Nd) (hm : mayB T = true) (hS : Sane T) (v : Value) (r : Nat) (hr : r < T.length) (w : World) (hT : TreeAt w v T) :
    Calls Tryz.prog 206 #[v, .int .i64 (r : Int)] w fun e w' => ∃ a1 c1 a2 c2, e = .returned (.agg #[.bool (manB T (r : Int)), .slice a1 (castL (slotsN T r)).length c1, .slice a2 (if manB T (r : Int) then [] else namesI T r).length c2]) ∧ w'.ownsRow w.heap.size 3 1 (.slice a1 (castL (slotsN T r)).length c1) (castL (slotsN T r)).length (intCells (castL (slotsN T r))) ∧ w'.ownsRow w.heap.size 3 1 (.slice a2 (if manB T (r : Int) then [] else namesI T r).length c2) (if manB T (r : Int) then [] else namesI T r).length (intCells (if manB T (r : Int) then [] else namesI T r)) ∧ Below w.heap.size w w' := by
  obtain ⟨i3, hi3, hz30, hz31, hz32⟩ := info_parts infoT3
  obtain ⟨tb, to, tc, rfl, _⟩ := hT.at (by omega)
  have HT := hideG hT
  have HS := hideG hS
  have HM := hideG hm
  have hpos := mayB_pos hm
  have hsl := slotsN_le hm hr
  have HLT := hideG (show ∀ x ∈ slotsN T r, x < T.length from fun x hx => (forest3 hm).d_lt hr (List.mem_filter.mp hx).1)
  have HLEN := hideG (castL_length (slotsN T r))
  obtain ⟨W0, hW0⟩ : ∃ W0, w.alloc (.cells #[.bool false, .slice none 0 0, .slice none 0 0] 134) = W0 := ⟨_, rfl⟩
  have HB0 := hideG (show Below w.heap.size w W0 by rw [← hW0]; exact (Below.refl _ w).alloc (Nat.le_refl _) _)
  have q0 : W0.cell? ⟨w.heap.size, 0, none⟩ = some (.bool false) := by rw [← hW0]; exact cell_of_cells (World.alloc_heap_new w _) (j := 0) rfl
  have q1 : W0.cell? ⟨w.heap.size, 1, none⟩ = some (.slice none 0 0) := by rw [← hW0]; exact cell_of_cells (World.alloc_heap_new w _) (j := 1) rfl
  have q2 : W0.cell? ⟨w.heap.size, 2, none⟩ = some (.slice none 0 0) := by rw [← hW0]; exact cell_of_cells (World.alloc_heap_new w _) (j := 2) rfl
  have y0 : W0.frozen? ⟨w.heap.size, 0, none⟩ = false := by rw [← hW0]; exact World.frozen?_alloc_at _ _ _ _ rfl
  have y1 : W0.frozen? ⟨w.heap.size, 1, none⟩ = false := by rw [← hW0]; exact World.frozen?_alloc_at _ _ _ _ rfl
  have y2 : W0.frozen? ⟨w.heap.size, 2, none⟩ = false := by rw [← hW0]; exact World.frozen?_alloc_at _ _ _ _ rfl
  have hsz0 : W0.heap.size = w.heap.size + 1 := by rw [← hW0]; simp
  have HSZ0 := hideG hsz0
  clear hT hS hm hsz0
  cases hman : manB T (r : Int)
  · have HMAN := hideG hman
    go_enter Tryz.func206, Tryz.ntmps206
    go_wp2_with fail
    clear hW0
    refine (has_any T HS.out _ _ _ _ (HT.out.below HB0.out)).mono ?_
    rintro e w1 ⟨rfl, hb1⟩
    have hmm : (getL T (r : Int) 8).2 = false := HMAN.out
    rw [hmm]
    have HB1 := hideG (HB0.out.trans (hb1.mono HB0.out.size))
    have hwl0 : w.heap.size < W0.heap.size := below_of_cell q0
    have x0 := (hb1.frozen (p := ⟨w.heap.size, 0, none⟩) hwl0).trans y0
    have x1 := (hb1.frozen (p := ⟨w.heap.size, 1, none⟩) hwl0).trans y1
    have x2 := (hb1.frozen (p := ⟨w.heap.size, 2, none⟩) hwl0).trans y2
    have r0 := cell_below hb1 q0
    have r1 := cell_below hb1 q1
    have r2 := cell_below hb1 q2
    clear hb1 q0 q1 q2 hmm hman y0 y1 y2 hwl0
    go_wp2_with fail
    refine (slotsOf_any T HM.out HS.out _ r hr _ (HT.out.below HB1.out)).mono ?_
    rintro e w2 ⟨a1, cc1, rfl, ho1, hb2⟩
    have hwl : w.heap.size < w1.heap.size := below_of_cell r0
    have HO1 := hideG (ownsRow_base (base' := w.heap.size + 1) ho1 hwl)
    have HB2 := hideG (HB1.out.trans (hb2.mono HB1.out.size))
    have HT2 := hideG (HT.out.below HB2.out)
    have z0' := (hb2.frozen (p := ⟨w.heap.size, 0, none⟩) hwl).trans x0
    have z1' := (hb2.frozen (p := ⟨w.heap.size, 1, none⟩) hwl).trans x1
    have z2' := (hb2.frozen (p := ⟨w.heap.size, 2, none⟩) hwl).trans x2
    have s0 := cell_below hb2 r0
    have s1 := cell_below hb2 r1
    have s2 := cell_below hb2 r2
    clear ho1 hb2 r0 r1 r2 x0 x1 x2 hwl
    rw [HLEN.out] at HO1 ⊢
    go_wp2_with fail
    generalize hS0 : (slotsN T r).length = S0 at *
    have HS0 := hideG hS0
    have HNS := hideG (show (namesI T r).length = S0 by rw [namesI_len, hS0])
    clear hS0
    go_loopw [21] (fun i wr => ∃ (k : Nat) (na : Option Addr) (nc : Nat), k ≤ S0 ∧ i = .int .i64 k ∧ wr.cell? ⟨w2.heap.size, 2, none⟩ = some (.slice na k nc) ∧ wr.frozen? ⟨w2.heap.size, 2, none⟩ = false ∧ wr.cell? ⟨w2.heap.size, 0, none⟩ = some (.bool false) ∧ wr.cell? ⟨w2.heap.size, 1, none⟩ = some (.slice a1 S0 cc1) ∧ wr.ownsRow (w2.heap.size + 1) 3 1 (.slice na k nc) k (intCells ((namesI T r).take k)) ∧ Below w2.heap.size w2 wr) (fun i _ => S0 - (intOf i).toNat)
    case atStart =>
      refine ⟨0, none, 0, Nat.zero_le _, rfl, cell_of_cells (World.alloc_heap_new w2 _) (j := 2) (u := .slice none 0 0) rfl, ?_, cell_of_cells (World.alloc_heap_new w2 _) (j := 0) (u := .bool false) rfl, cell_of_cells (World.alloc_heap_new w2 _) (j := 1) (u := .slice a1 S0 cc1) rfl, by simpa [intCells] using World.ownsRow_nil _ _ _ _, (Below.refl _ w2).alloc (Nat.le_refl _) _⟩
      exact World.frozen?_alloc_at _ _ _ _ rfl
    case round =>
      obtain ⟨k, na, nc, hk, rfl, c2, f2, c0, c1, hown, hB⟩ := hrel
      have HOK := hideG hown
      have HBk := hideG hB
      have hwz : w2.heap.size < wr.heap.size := below_of_cell c2
      clear hown hB
      by_cases hlt : k < S0
      · have hlt' : k < (slotsN T r).length := by rw [HS0.out]; exact hlt
        have htk := namesI_take hlt'
        have hxl := HLT.out _ (getD_mem hlt')
        obtain ⟨g1, cg1, hg1⟩ := ownsRow_some HO1.out (by omega)
        simp only [Value.slice.injEq, true_and] at hg1
        obtain ⟨rfl, rfl⟩ := hg1
        have cx : wr.cell? ⟨g1, k, none⟩ = some (.int .i64 (((slotsN T r).getD k 0 : Nat) : Int)) := by
          refine cell_below HBk.out ?_
          rw [HO1.out.cellAt k (by omega), intCells_at (by rw [HLEN.out]; exact hlt), castL_getD _ hlt']
        have HTk := hideG (HT2.out.below HBk.out)
        generalize (slotsN T r).getD k 0 = x at *
        generalize (namesI T r).take k = cur at *
        have HTK := hideG htk
        have HOW := hideG (show ∀ U, Below wr.heap.size wr U → (U.alloc (.cells #[.int .i64 (nameI T (x : Int))] 3)).ownsRow (w2.heap.size + 1) 3 1 (.slice na k nc) k (intCells cur) from fun U hU => (ownsRow_below HOK.out hU (fun j e => (HOK.out.lt j e).2)).alloc _)
        clear htk hlt'
        go_wp2_with fail
        refine wp_region_held_drew (S := fun _ => True) (by kernel_rfl) trivial (fun hHeld => ?_)
        refine wpAnyH_take (i := 0) (v := .pointer (some ⟨w2.heap.size, 2, none⟩)) rfl (by kernel_rfl) (by kernel_rfl) (by kernel_rfl) (fun _ _ _ h => h) (Or.inl ⟨by rfl, ?_⟩) hHeld ?_
        · (intro wq hSw; (try dsimp only at hSw); go_simp)
        try simp only [Act.put, List.setIfInBounds_toArray, List.set_cons_zero, List.set_cons_succ, List.getElem_toArray, List.getElem_cons_zero]
        refine wpAnyH_take (i := 2) (v := .slice (some ⟨tb, to, none⟩) T.length tc) rfl (by kernel_rfl) (by kernel_rfl) (by kernel_rfl) (fun _ _ _ h => h) (Or.inl ⟨by rfl, ?_⟩) hHeld ?_
        · (intro wq hSw; (try dsimp only at hSw); go_simp)
        try simp only [Act.put, List.setIfInBounds_toArray, List.set_cons_zero, List.set_cons_succ, List.getElem_toArray, List.getElem_cons_zero, List.getElem_cons_succ]
        refine wpAnyH_take (i := 3) (v := .int .i64 (x : Int)) rfl (by kernel_rfl) (by kernel_rfl) (by kernel_rfl) (fun _ _ _ h => h) (Or.inl ⟨by rfl, ?_⟩) hHeld ?_
        · (intro wq hSw; (try dsimp only at hSw); go_simp)
        try simp only [Act.put, List.setIfInBounds_toArray, List.set_cons_zero, List.set_cons_succ, List.getElem_toArray, List.getElem_cons_zero, List.getElem_cons_succ]
        refine wpAnyH_ready (rs := [1, 4]) (by kernel_rfl) (by simp) ?_
        refine AllReadyH.cons rfl (fun K hK => ?_) (AllReadyH.cons rfl (fun K hK => ?_) AllReadyH.nil)
        ·
          go_simp
          refine hK.out _ _ trivial (fun hHeld => ?_)
          clear hK K
          try simp only [Act.put, List.setIfInBounds_toArray, List.set_cons_zero, List.set_cons_succ, List.getElem_toArray, List.getElem_cons_zero, List.getElem_cons_succ]
          refine wpAnyH_ready (rs := [4]) (by kernel_rfl) (by simp) ?_
          refine AllReadyH.cons rfl (fun K hK => ?_) AllReadyH.nil
          go_simp
          go_at_call 216
          refine (nameOf_any T HS.out _ _ _ (HTk.out.below (below_drew' (Below.refl _ _)))).mono ?_
          rintro e wq ⟨rfl, hbq⟩
          have hbq := (below_drew' (Below.refl wr.heap.size wr)).trans hbq
          go_wp2_with fail
          refine hK.out _ _ trivial (fun hHeld => ?_)
          clear hK K
          try simp only [Act.put, List.setIfInBounds_toArray, List.set_cons_zero, List.set_cons_succ, List.getElem_toArray, List.getElem_cons_zero, List.getElem_cons_succ]
          have d2 := cell_below hbq c2
          have d2a := cell_alloc_l (.cells #[.int .i64 (nameI T (x : Int))] 3) d2
          refine wpAnyH_ready (rs := [5]) (by kernel_rfl) (by simp) ?_
          refine AllReadyH.cons rfl (fun K hK => ?_) AllReadyH.nil
          go_simp
          refine hK.out _ _ trivial (fun hHeld => ?_)
          clear hK K
          try simp only [Act.put, List.setIfInBounds_toArray, List.set_cons_zero, List.set_cons_succ, List.getElem_toArray, List.getElem_cons_zero, List.getElem_cons_succ]
          refine wpAnyH_ready (rs := [6]) (by kernel_rfl) (by simp) ?_
          refine AllReadyH.cons rfl (fun K hK => ?_) AllReadyH.nil
          rw [if_pos (by rfl)]
          refine wp_append_any (.tmp 26) (.tmp 30) 24 rfl (w2.heap.size + 1) 3 i3 _ 1 8 Tryz.underlying24 hi3 hz30 hz31 hz32 rfl (by decide) _ k (intCells cur) rfl (HOW.out wq hbq) _ 1 [.int .i64 (nameI T (x : Int))] rfl (row_new1 _ _) rfl (fun y hy => by simp at hy; subst hy; rfl) (by simp only [maxLen]; omega) (by omega) (by have := hbq.size; simp; omega) ?_
          intro v4 w4 ho4 hg4 hf4
          obtain ⟨a4, c4, rfl⟩ := ownsRow_shape ho4
          rw [intCells_snoc] at ho4
          have hne : ∀ j, j < w2.heap.size + 1 → some j ≠ Value.ownBlock (.slice na k nc) := fun j hj e => by have := (HOK.out.lt j e.symm).1; omega
          have hbz := hbq.size
          have kk : ∀ j, j < w2.heap.size + 1 → w4.heap[j]? = wr.heap[j]? := fun j hj => (hg4.block j (by simp; omega) (hne j hj)).trans ((((Below.refl _ wq).alloc (Nat.le_refl _) (.cells #[.int .i64 (nameI T (x : Int))] 3)).block j (by omega)).trans (hbq.block j (by omega)))
          have e2 : w4.cell? ⟨w2.heap.size, 2, none⟩ = some (.slice na k nc) := (World.cell?_of_block (a := ⟨w2.heap.size, 2, none⟩) (kk w2.heap.size (by omega))).trans c2
          have f2' : w4.frozen? ⟨w2.heap.size, 2, none⟩ = false := (World.frozen?_of_block (a := ⟨w2.heap.size, 2, none⟩) (kk w2.heap.size (by omega))).trans f2
          have HE0 := hideG ((World.cell?_of_block (a := ⟨w2.heap.size, 0, none⟩) (kk w2.heap.size (by omega))).trans c0)
          have HE1 := hideG ((World.cell?_of_block (a := ⟨w2.heap.size, 1, none⟩) (kk w2.heap.size (by omega))).trans c1)
          have HSZ4 := hideG (show wr.heap.size ≤ w4.heap.size by have := hg4.size; simp at this; omega)
          have HB4 := hideG (show Below w2.heap.size w2 w4 from ((HBk.out.trans (hbq.mono HBk.out.size)).alloc (HBk.out.trans (hbq.mono HBk.out.size)).size (.cells #[.int .i64 (nameI T (x : Int))] 3)).grown hg4 (by have := HBk.out.size; simp; omega) (fun j e => by have := (HOK.out.lt j e).1; omega))
          have HO4 := hideG ho4
          clear ho4 hg4 hf4 hne kk
          refine hK.out _ _ trivial (fun hHeld => ?_)
          clear hK K
          try simp only [Act.put, List.setIfInBounds_toArray, List.set_cons_zero, List.set_cons_succ, List.getElem_toArray, List.getElem_cons_zero, List.getElem_cons_succ]
          refine wpAnyH_take (i := 7) (v := .pointer (some ⟨w2.heap.size, 2, none⟩)) rfl (by kernel_rfl) (by kernel_rfl) (by kernel_rfl) (fun _ _ _ h => h) (Or.inl ⟨by rfl, ?_⟩) hHeld ?_
          · (intro wq hSw; (try dsimp only at hSw); go_simp)
          try simp only [Act.put, List.setIfInBounds_toArray, List.set_cons_zero, List.set_cons_succ, List.getElem_toArray, List.getElem_cons_zero, List.getElem_cons_succ]
          refine wpAnyH_ready (rs := [8]) (by kernel_rfl) (by simp) ?_
          refine AllReadyH.cons rfl (fun K hK => ?_) AllReadyH.nil
          go_simp
          refine hK.out _ _ trivial (fun hHeld => ?_)
          clear hK K
          try simp only [Act.put, List.setIfInBounds_toArray, List.set_cons_zero, List.set_cons_succ, List.getElem_toArray, List.getElem_cons_zero, List.getElem_cons_succ]
          refine wpAnyH_done (by kernel_rfl) ?_ _
          go_wp2_with fail
          go_roundw
          case rel =>
            refine ⟨k + 1, a4, c4, by omega, by go_num, ?_, by rw [World.frozen?_setCell]; exact f2', (World.cell?_setCell_other _ _ _ _ (by simp)).trans HE0.out, (World.cell?_setCell_other _ _ _ _ (by simp)).trans HE1.out, ?_, HB4.out.setCell (p := ⟨w2.heap.size, 2, none⟩) (by simp) _⟩
            · exact World.cell?_setCell_same' _ _ _ (by rw [e2]; rfl)
            · rw [HTK.out]
              have hkept := ownsRow_kept_set (g := w2.heap.size) (j := 2) (u := .slice a4 (k + 1) c4) HO4.out (fun e => by have := (HO4.out.lt _ e).1; omega)
              simpa using hkept
          case measure => simp [intOf]; omega
        ·
          go_simp
          go_at_call 216
          refine (nameOf_any T HS.out _ _ _ (HTk.out.below (below_drew' (Below.refl _ _)))).mono ?_
          rintro e wq ⟨rfl, hbq⟩
          have hbq := (below_drew' (Below.refl wr.heap.size wr)).trans hbq
          go_wp2_with fail
          refine hK.out _ _ trivial (fun hHeld => ?_)
          clear hK K
          try simp only [Act.put, List.setIfInBounds_toArray, List.set_cons_zero, List.set_cons_succ, List.getElem_toArray, List.getElem_cons_zero, List.getElem_cons_succ]
          have d2 := cell_below hbq c2
          have d2a := cell_alloc_l (.cells #[.int .i64 (nameI T (x : Int))] 3) d2
          refine wpAnyH_ready (rs := [1, 5]) (by kernel_rfl) (by simp) ?_
          refine AllReadyH.cons rfl (fun K hK => ?_) (AllReadyH.cons rfl (fun K hK => ?_) AllReadyH.nil)
          ·
            go_simp
            refine hK.out _ _ trivial (fun hHeld => ?_)
            clear hK K
            try simp only [Act.put, List.setIfInBounds_toArray, List.set_cons_zero, List.set_cons_succ, List.getElem_toArray, List.getElem_cons_zero, List.getElem_cons_succ]
            refine wpAnyH_ready (rs := [5]) (by kernel_rfl) (by simp) ?_
            refine AllReadyH.cons rfl (fun K hK => ?_) AllReadyH.nil
            go_simp
            refine hK.out _ _ trivial (fun hHeld => ?_)
            clear hK K
            try simp only [Act.put, List.setIfInBounds_toArray, List.set_cons_zero, List.set_cons_succ, List.getElem_toArray, List.getElem_cons_zero, List.getElem_cons_succ]
            refine wpAnyH_ready (rs := [6]) (by kernel_rfl) (by simp) ?_
            refine AllReadyH.cons rfl (fun K hK => ?_) AllReadyH.nil
            rw [if_pos (by rfl)]
            refine wp_append_any (.tmp 26) (.tmp 30) 24 rfl (w2.heap.size + 1) 3 i3 _ 1 8 Tryz.underlying24 hi3 hz30 hz31 hz32 rfl (by decide) _ k (intCells cur) rfl (HOW.out wq hbq) _ 1 [.int .i64 (nameI T (x : Int))] rfl (row_new1 _ _) rfl (fun y hy => by simp at hy; subst hy; rfl) (by simp only [maxLen]; omega) (by omega) (by have := hbq.size; simp; omega) ?_
            intro v4 w4 ho4 hg4 hf4
            obtain ⟨a4, c4, rfl⟩ := ownsRow_shape ho4
            rw [intCells_snoc] at ho4
            have hne : ∀ j, j < w2.heap.size + 1 → some j ≠ Value.ownBlock (.slice na k nc) := fun j hj e => by have := (HOK.out.lt j e.symm).1; omega
            have hbz := hbq.size
            have kk : ∀ j, j < w2.heap.size + 1 → w4.heap[j]? = wr.heap[j]? := fun j hj => (hg4.block j (by simp; omega) (hne j hj)).trans ((((Below.refl _ wq).alloc (Nat.le_refl _) (.cells #[.int .i64 (nameI T (x : Int))] 3)).block j (by omega)).trans (hbq.block j (by omega)))
            have e2 : w4.cell? ⟨w2.heap.size, 2, none⟩ = some (.slice na k nc) := (World.cell?_of_block (a := ⟨w2.heap.size, 2, none⟩) (kk w2.heap.size (by omega))).trans c2
            have f2' : w4.frozen? ⟨w2.heap.size, 2, none⟩ = false := (World.frozen?_of_block (a := ⟨w2.heap.size, 2, none⟩) (kk w2.heap.size (by omega))).trans f2
            have HE0 := hideG ((World.cell?_of_block (a := ⟨w2.heap.size, 0, none⟩) (kk w2.heap.size (by omega))).trans c0)
            have HE1 := hideG ((World.cell?_of_block (a := ⟨w2.heap.size, 1, none⟩) (kk w2.heap.size (by omega))).trans c1)
            have HSZ4 := hideG (show wr.heap.size ≤ w4.heap.size by have := hg4.size; simp at this; omega)
            have HB4 := hideG (show Below w2.heap.size w2 w4 from ((HBk.out.trans (hbq.mono HBk.out.size)).alloc (HBk.out.trans (hbq.mono HBk.out.size)).size (.cells #[.int .i64 (nameI T (x : Int))] 3)).grown hg4 (by have := HBk.out.size; simp; omega) (fun j e => by have := (HOK.out.lt j e).1; omega))
            have HO4 := hideG ho4
            clear ho4 hg4 hf4 hne kk
            refine hK.out _ _ trivial (fun hHeld => ?_)
            clear hK K
            try simp only [Act.put, List.setIfInBounds_toArray, List.set_cons_zero, List.set_cons_succ, List.getElem_toArray, List.getElem_cons_zero, List.getElem_cons_succ]
            refine wpAnyH_take (i := 7) (v := .pointer (some ⟨w2.heap.size, 2, none⟩)) rfl (by kernel_rfl) (by kernel_rfl) (by kernel_rfl) (fun _ _ _ h => h) (Or.inl ⟨by rfl, ?_⟩) hHeld ?_
            · (intro wq hSw; (try dsimp only at hSw); go_simp)
            try simp only [Act.put, List.setIfInBounds_toArray, List.set_cons_zero, List.set_cons_succ, List.getElem_toArray, List.getElem_cons_zero, List.getElem_cons_succ]
            refine wpAnyH_ready (rs := [8]) (by kernel_rfl) (by simp) ?_
            refine AllReadyH.cons rfl (fun K hK => ?_) AllReadyH.nil
            go_simp
            refine hK.out _ _ trivial (fun hHeld => ?_)
            clear hK K
            try simp only [Act.put, List.setIfInBounds_toArray, List.set_cons_zero, List.set_cons_succ, List.getElem_toArray, List.getElem_cons_zero, List.getElem_cons_succ]
            refine wpAnyH_done (by kernel_rfl) ?_ _
            go_wp2_with fail
            go_roundw
            case rel =>
              refine ⟨k + 1, a4, c4, by omega, by go_num, ?_, by rw [World.frozen?_setCell]; exact f2', (World.cell?_setCell_other _ _ _ _ (by simp)).trans HE0.out, (World.cell?_setCell_other _ _ _ _ (by simp)).trans HE1.out, ?_, HB4.out.setCell (p := ⟨w2.heap.size, 2, none⟩) (by simp) _⟩
              · exact World.cell?_setCell_same' _ _ _ (by rw [e2]; rfl)
              · rw [HTK.out]
                have hkept := ownsRow_kept_set (g := w2.heap.size) (j := 2) (u := .slice a4 (k + 1) c4) HO4.out (fun e => by have := (HO4.out.lt _ e).1; omega)
                simpa using hkept
            case measure => simp [intOf]; omega
          ·
            go_simp
            refine hK.out _ _ trivial (fun hHeld => ?_)
            clear hK K
            try simp only [Act.put, List.setIfInBounds_toArray, List.set_cons_zero, List.set_cons_succ, List.getElem_toArray, List.getElem_cons_zero, List.getElem_cons_succ]
            refine wpAnyH_ready (rs := [1]) (by kernel_rfl) (by simp) ?_
            refine AllReadyH.cons rfl (fun K hK => ?_) AllReadyH.nil
            go_simp
            refine hK.out _ _ trivial (fun hHeld => ?_)
            clear hK K
            try simp only [Act.put, List.setIfInBounds_toArray, List.set_cons_zero, List.set_cons_succ, List.getElem_toArray, List.getElem_cons_zero, List.getElem_cons_succ]
            refine wpAnyH_ready (rs := [6]) (by kernel_rfl) (by simp) ?_
            refine AllReadyH.cons rfl (fun K hK => ?_) AllReadyH.nil
            rw [if_pos (by rfl)]
            refine wp_append_any (.tmp 26) (.tmp 30) 24 rfl (w2.heap.size + 1) 3 i3 _ 1 8 Tryz.underlying24 hi3 hz30 hz31 hz32 rfl (by decide) _ k (intCells cur) rfl (HOW.out wq hbq) _ 1 [.int .i64 (nameI T (x : Int))] rfl (row_new1 _ _) rfl (fun y hy => by simp at hy; subst hy; rfl) (by simp only [maxLen]; omega) (by omega) (by have := hbq.size; simp; omega) ?_
            intro v4 w4 ho4 hg4 hf4
            obtain ⟨a4, c4, rfl⟩ := ownsRow_shape ho4
            rw [intCells_snoc] at ho4
            have hne : ∀ j, j < w2.heap.size + 1 → some j ≠ Value.ownBlock (.slice na k nc) := fun j hj e => by have := (HOK.out.lt j e.symm).1; omega
            have hbz := hbq.size
            have kk : ∀ j, j < w2.heap.size + 1 → w4.heap[j]? = wr.heap[j]? := fun j hj => (hg4.block j (by simp; omega) (hne j hj)).trans ((((Below.refl _ wq).alloc (Nat.le_refl _) (.cells #[.int .i64 (nameI T (x : Int))] 3)).block j (by omega)).trans (hbq.block j (by omega)))
            have e2 : w4.cell? ⟨w2.heap.size, 2, none⟩ = some (.slice na k nc) := (World.cell?_of_block (a := ⟨w2.heap.size, 2, none⟩) (kk w2.heap.size (by omega))).trans c2
            have f2' : w4.frozen? ⟨w2.heap.size, 2, none⟩ = false := (World.frozen?_of_block (a := ⟨w2.heap.size, 2, none⟩) (kk w2.heap.size (by omega))).trans f2
            have HE0 := hideG ((World.cell?_of_block (a := ⟨w2.heap.size, 0, none⟩) (kk w2.heap.size (by omega))).trans c0)
            have HE1 := hideG ((World.cell?_of_block (a := ⟨w2.heap.size, 1, none⟩) (kk w2.heap.size (by omega))).trans c1)
            have HSZ4 := hideG (show wr.heap.size ≤ w4.heap.size by have := hg4.size; simp at this; omega)
            have HB4 := hideG (show Below w2.heap.size w2 w4 from ((HBk.out.trans (hbq.mono HBk.out.size)).alloc (HBk.out.trans (hbq.mono HBk.out.size)).size (.cells #[.int .i64 (nameI T (x : Int))] 3)).grown hg4 (by have := HBk.out.size; simp; omega) (fun j e => by have := (HOK.out.lt j e).1; omega))
            have HO4 := hideG ho4
            clear ho4 hg4 hf4 hne kk
            refine hK.out _ _ trivial (fun hHeld => ?_)
            clear hK K
            try simp only [Act.put, List.setIfInBounds_toArray, List.set_cons_zero, List.set_cons_succ, List.getElem_toArray, List.getElem_cons_zero, List.getElem_cons_succ]
            refine wpAnyH_take (i := 7) (v := .pointer (some ⟨w2.heap.size, 2, none⟩)) rfl (by kernel_rfl) (by kernel_rfl) (by kernel_rfl) (fun _ _ _ h => h) (Or.inl ⟨by rfl, ?_⟩) hHeld ?_
            · (intro wq hSw; (try dsimp only at hSw); go_simp)
            try simp only [Act.put, List.setIfInBounds_toArray, List.set_cons_zero, List.set_cons_succ, List.getElem_toArray, List.getElem_cons_zero, List.getElem_cons_succ]
            refine wpAnyH_ready (rs := [8]) (by kernel_rfl) (by simp) ?_
            refine AllReadyH.cons rfl (fun K hK => ?_) AllReadyH.nil
            go_simp
            refine hK.out _ _ trivial (fun hHeld => ?_)
            clear hK K
            try simp only [Act.put, List.setIfInBounds_toArray, List.set_cons_zero, List.set_cons_succ, List.getElem_toArray, List.getElem_cons_zero, List.getElem_cons_succ]
            refine wpAnyH_done (by kernel_rfl) ?_ _
            go_wp2_with fail
            go_roundw
            case rel =>
              refine ⟨k + 1, a4, c4, by omega, by go_num, ?_, by rw [World.frozen?_setCell]; exact f2', (World.cell?_setCell_other _ _ _ _ (by simp)).trans HE0.out, (World.cell?_setCell_other _ _ _ _ (by simp)).trans HE1.out, ?_, HB4.out.setCell (p := ⟨w2.heap.size, 2, none⟩) (by simp) _⟩
              · exact World.cell?_setCell_same' _ _ _ (by rw [e2]; rfl)
              · rw [HTK.out]
                have hkept := ownsRow_kept_set (g := w2.heap.size) (j := 2) (u := .slice a4 (k + 1) c4) HO4.out (fun e => by have := (HO4.out.lt _ e).1; omega)
                simpa using hkept
            case measure => simp [intOf]; omega
      · have hke : k = S0 := by omega
        subst hke
        have HNT := hideG (show (namesI T r).take k = namesI T r from List.take_of_length_le (by rw [HNS.out]; exact Nat.le_refl _))
        rw [HNT.out] at HOK
        have t0 := cell_below HBk.out s0
        have t1 := cell_below HBk.out s1
        have t2 := cell_below HBk.out s2
        have hwb : w.heap.size < w2.heap.size := below_of_cell s0
        have z0 : wr.frozen? ⟨w.heap.size, 0, none⟩ = false := (HBk.out.frozen (p := ⟨w.heap.size, 0, none⟩) hwb).trans z0'
        have z1 : wr.frozen? ⟨w.heap.size, 1, none⟩ = false := (HBk.out.frozen (p := ⟨w.heap.size, 1, none⟩) hwb).trans z1'
        have z2 : wr.frozen? ⟨w.heap.size, 2, none⟩ = false := (HBk.out.frozen (p := ⟨w.heap.size, 2, none⟩) hwb).trans z2'
        have HBE := hideG (HB2.out.trans (HBk.out.mono HB2.out.size))
        have HO1k := hideG (ownsRow_below HO1.out HBk.out (fun j e => (HO1.out.lt j e).2))
        clear s0 s1 s2 z0' z1' z2'
        go_wp2_with fail
        have hc0 : (((wr.setCell ⟨w.heap.size, 0, none⟩ (.bool false)).setCell ⟨w.heap.size, 1, none⟩ (.slice a1 k cc1)).setCell ⟨w.heap.size, 2, none⟩ (.slice na k nc)).cell? ⟨w.heap.size, 0, none⟩ = some (.bool false) := by
          rw [World.cell?_setCell_other _ _ _ _ (by simp), World.cell?_setCell_other _ _ _ _ (by simp)]
          exact World.cell?_setCell_same' _ _ _ (by rw [t0]; rfl)
        have hc1 : (((wr.setCell ⟨w.heap.size, 0, none⟩ (.bool false)).setCell ⟨w.heap.size, 1, none⟩ (.slice a1 k cc1)).setCell ⟨w.heap.size, 2, none⟩ (.slice na k nc)).cell? ⟨w.heap.size, 1, none⟩ = some (.slice a1 k cc1) := by
          rw [World.cell?_setCell_other _ _ _ _ (by simp)]
          exact World.cell?_setCell_same' _ _ _ (by rw [World.cell?_setCell_other _ _ _ _ (by simp), t1]; rfl)
        have hc2 : (((wr.setCell ⟨w.heap.size, 0, none⟩ (.bool false)).setCell ⟨w.heap.size, 1, none⟩ (.slice a1 k cc1)).setCell ⟨w.heap.size, 2, none⟩ (.slice na k nc)).cell? ⟨w.heap.size, 2, none⟩ = some (.slice na k nc) :=
          World.cell?_setCell_same' _ _ _ (by rw [World.cell?_setCell_other _ _ _ _ (by simp), World.cell?_setCell_other _ _ _ _ (by simp), t2]; rfl)
        refine bodyPost_ret (v := .agg #[.bool false, .slice a1 k cc1, .slice na k nc]) (by simp [results, Tryz.results206, go_sem, hc0, hc1, hc2]) rfl ⟨a1, cc1, na, nc, by rw [HLEN.out, HNS.out], ?_, ?_, ?_⟩
        · rw [HLEN.out]
          have k0 := ownsRow_kept_set (g := w.heap.size) (j := 0) (u := .bool false) HO1k.out (fun e => by have := (HO1k.out.lt _ e).1; omega)
          have k1 := ownsRow_kept_set (g := w.heap.size) (j := 1) (u := .slice a1 k cc1) k0 (fun e => by have := (HO1k.out.lt _ e).1; omega)
          have k2 := ownsRow_kept_set (g := w.heap.size) (j := 2) (u := .slice na k nc) k1 (fun e => by have := (HO1k.out.lt _ e).1; omega)
          exact ownsRow_base k2 (by omega)
        · rw [HNS.out]
          have k0 := ownsRow_kept_set (g := w.heap.size) (j := 0) (u := .bool false) HOK.out (fun e => by have := (HOK.out.lt _ e).1; omega)
          have k1 := ownsRow_kept_set (g := w.heap.size) (j := 1) (u := .slice a1 k cc1) k0 (fun e => by have := (HOK.out.lt _ e).1; omega)
          have k2 := ownsRow_kept_set (g := w.heap.size) (j := 2) (u := .slice na k nc) k1 (fun e => by have := (HOK.out.lt _ e).1; omega)
          exact ownsRow_base k2 (by omega)
        · exact ((HBE.out.setCell (p := ⟨w.heap.size, 0, none⟩) (by simp) _).setCell (p := ⟨w.heap.size, 1, none⟩) (by simp) _).setCell (p := ⟨w.heap.size, 2, none⟩) (by simp) _
  · have HMAN := hideG hman
    go_enter Tryz.func206, Tryz.ntmps206
    go_wp2_with fail
    clear hW0
    refine (has_any T HS.out _ _ _ _ (HT.out.below HB0.out)).mono ?_
    rintro e w1 ⟨rfl, hb1⟩
    have hmm : (getL T (r : Int) 8).2 = true := HMAN.out
    rw [hmm]
    have HB1 := hideG (HB0.out.trans (hb1.mono HB0.out.size))
    have hwl0 : w.heap.size < W0.heap.size := below_of_cell q0
    have x0 := (hb1.frozen (p := ⟨w.heap.size, 0, none⟩) hwl0).trans y0
    have x1 := (hb1.frozen (p := ⟨w.heap.size, 1, none⟩) hwl0).trans y1
    have x2 := (hb1.frozen (p := ⟨w.heap.size, 2, none⟩) hwl0).trans y2
    have r0 := cell_below hb1 q0
    have r1 := cell_below hb1 q1
    have r2 := cell_below hb1 q2
    clear hb1 q0 q1 q2 hmm hman y0 y1 y2 hwl0
    go_wp2_with fail
    refine (slotsOf_any T HM.out HS.out _ r hr _ (HT.out.below HB1.out)).mono ?_
    rintro e w2 ⟨a1, cc1, rfl, ho1, hb2⟩
    have hwl : w.heap.size < w1.heap.size := below_of_cell r0
    have HO1 := hideG (ownsRow_base (base' := w.heap.size + 1) ho1 hwl)
    have hwb : w.heap.size < w2.heap.size := by have := hb2.size; omega
    have HB2 := hideG (HB1.out.trans (hb2.mono HB1.out.size))
    have z0 := (hb2.frozen (p := ⟨w.heap.size, 0, none⟩) hwl).trans x0
    have z1 := (hb2.frozen (p := ⟨w.heap.size, 1, none⟩) hwl).trans x1
    have z2 := (hb2.frozen (p := ⟨w.heap.size, 2, none⟩) hwl).trans x2
    have t0 := cell_below hb2 r0
    have t1 := cell_below hb2 r1
    have t2 := cell_below hb2 r2
    have hne : w2.heap.size ≠ w.heap.size := by omega
    clear ho1 hb2 r0 r1 r2 x0 x1 x2 hwl
    rw [HLEN.out] at HO1 ⊢
    generalize hS0 : (slotsN T r).length = S0 at *
    clear hS0
    go_wp2_with fail
    obtain ⟨w3, hw3⟩ : ∃ w3, ((w2.setCell ⟨w.heap.size, 0, none⟩ (.bool true)).setCell ⟨w.heap.size, 1, none⟩ (.slice a1 S0 cc1)).setCell ⟨w.heap.size, 2, none⟩ (.slice none 0 0) = w3 := ⟨_, rfl⟩
    have hc0 : w3.cell? ⟨w.heap.size, 0, none⟩ = some (.bool true) := by
      rw [← hw3, World.cell?_setCell_other _ _ _ _ (by simp), World.cell?_setCell_other _ _ _ _ (by simp)]
      exact World.cell?_setCell_same' _ _ _ (by rw [t0]; rfl)
    have hc1 : w3.cell? ⟨w.heap.size, 1, none⟩ = some (.slice a1 S0 cc1) := by
      rw [← hw3, World.cell?_setCell_other _ _ _ _ (by simp)]
      exact World.cell?_setCell_same' _ _ _ (by rw [World.cell?_setCell_other _ _ _ _ (by simp), t1]; rfl)
    have hc2 : w3.cell? ⟨w.heap.size, 2, none⟩ = some (.slice none 0 0) := by
      rw [← hw3]
      exact World.cell?_setCell_same' _ _ _ (by rw [World.cell?_setCell_other _ _ _ _ (by simp), World.cell?_setCell_other _ _ _ _ (by simp), t2]; rfl)
    have hs3 : w3.heap.size = w2.heap.size := by rw [← hw3]; simp
    have HO3 : w3.ownsRow (w.heap.size + 1) 3 1 (.slice a1 S0 cc1) S0 (intCells (castL (slotsN T r))) := by
      rw [← hw3]
      have k0 := ownsRow_kept_set (g := w.heap.size) (j := 0) (u := .bool true) HO1.out (fun e => by have := (HO1.out.lt _ e).1; omega)
      have k1 := ownsRow_kept_set (g := w.heap.size) (j := 1) (u := .slice a1 S0 cc1) k0 (fun e => by have := (HO1.out.lt _ e).1; omega)
      exact ownsRow_kept_set (g := w.heap.size) (j := 2) (u := .slice none 0 0) k1 (fun e => by have := (HO1.out.lt _ e).1; omega)
    have HB3 : Below w.heap.size w w3 := by
      rw [← hw3]
      exact ((HB2.out.setCell (p := ⟨w.heap.size, 0, none⟩) (by simp) _).setCell (p := ⟨w.heap.size, 1, none⟩) (by simp) _).setCell (p := ⟨w.heap.size, 2, none⟩) (by simp) _
    rw [hw3]
    have d0 := cell_alloc_l (.cells #[.bool true, .slice a1 S0 cc1, .slice none 0 0] 134) hc0
    have d1 := cell_alloc_l (.cells #[.bool true, .slice a1 S0 cc1, .slice none 0 0] 134) hc1
    have d2 := cell_alloc_l (.cells #[.bool true, .slice a1 S0 cc1, .slice none 0 0] 134) hc2
    refine bodyPost_ret (v := .agg #[.bool true, .slice a1 S0 cc1, .slice none 0 0]) (by simp [results, Tryz.results206, go_sem, d0, d1, d2]) rfl ⟨a1, cc1, none, 0, by rw [HLEN.out], ?_, World.ownsRow_nil _ _ _ _, HB3.alloc HB3.size _⟩
    rw [HLEN.out]
    exact ownsRow_base (HO3.alloc _) (by omega)
end Go.Proofs.YtclhimodopgeoaaGreat
namespace Go.Proofs.YtclhimodopgeoaaGreat
open Go.RowKit

/-- Where a kid of the host of shadow r lies. -/
def placeI (T : List Nd) (r : Nat) (kid : Int) : Int := placeV T (manB T (r : Int)) (castL (slotsN T r)) (if manB T (r : Int) then [] else namesI T r) kid
/-- slots.Of, of a node. -/
def ofN (T : List Nd) (n : Nat) : Int := if (nd T n).parent == -1 then -1 else if (nd T (nd T n).parent.toNat).root == -1 then -1 else placeI T (nd T (nd T n).parent.toNat).root.toNat (n : Int)
def ofI (T : List Nd) (n : Int) : Int := if knownB T [n] then ofN T n.toNat else -1

set_option maxRecDepth 100000 in
set_option maxHeartbeats 2000000 in
theorem slotOf_any (T : List Nd) (hS : Sane T) (v : Value) (n : Int) (w : World) (hT : TreeAt w v T) :
    Calls Tryz.prog 189 #[v, .int .i64 n] w fun e w' => e = .returned (.int .i64 (ofI T n)) ∧ Below w.heap.size w w' := by
  have HT := hideG hT
  have HS := hideG hS
  cases hk : knownB T [n]
  · obtain ⟨ta, tc, rfl⟩ := hT.shape
    have HQ := hideG (show ofI T n = -1 by simp [ofI, hk])
    have E1 := hideG (show topI T n = -1 by simp [topI, hk])
    clear hT hS
    go_enter Tryz.func189, Tryz.ntmps189
    go_wp2_with (go_at_call 146; refine (orderTop_any T HS.out _ _ _ HT.out).mono ?_; rintro e w1 ⟨rfl, hb1⟩; rw [E1.out]; have HB1 := hideG hb1; clear hb1)
    go_ret
    exact ⟨ret_int HQ.out.symm, HB1.out⟩
  · obtain ⟨hm, m, rfl, hn⟩ := known_one hk
    obtain ⟨tb, to, tc, rfl, hct⟩ := hT.at (by omega)
    obtain ⟨kv, av, hN⟩ := hct m hn
    have E1 := hideG (topI_known hm hn)
    have HM := hideG hm
    have hpos := mayB_pos hm
    have htn : ((topN T m : Int) == -1) = false := by simp
    have hm0 : (0 : Int) ≤ (m : Int) := by omega
    have hQ0 : ofI T (m : Int) = ofN T m := by simp [ofI, hk]
    rcases parent_cases (mayB_fine hm) hn with e | ⟨e, p, hpl, hpm⟩
    · have hp : (nd T m).parent = -1 := by simpa using e
      have HQ := hideG (show ofI T (m : Int) = -1 by rw [hQ0]; simp [ofN, hp])
      have G2 := hideG hN.parent
      rw [hp] at G2
      clear hT hS hct hN hm hk e hp hQ0
      go_enter Tryz.func189, Tryz.ntmps189
      go_wp2_with (go_at_call 146; refine (orderTop_any T HS.out _ _ _ HT.out).mono ?_; rintro e w1 ⟨rfl, hb1⟩; rw [E1.out]; have HB1 := hideG hb1; have g2 := cell_below hb1 G2.out; clear hb1)
      go_ret
      exact ⟨ret_int HQ.out.symm, HB1.out⟩
    · have G2 := hideG hN.parent
      rw [hpm] at G2
      obtain ⟨kv', av', hP⟩ := hct p hpl
      have hpn : ((p : Int) == -1) = false := by simp
      have hp0 : (0 : Int) ≤ (p : Int) := by omega
      cases hr : ((nd T p).root == -1)
      · obtain ⟨q, hrq, hql, _, _⟩ := root_facts (mayB_fine hm) hpl hr
        have HQ := hideG (show ofI T (m : Int) = placeV T (manB T (q : Int)) (castL (slotsN T q)) (if manB T (q : Int) then [] else namesI T q) (m : Int) by
          rw [hQ0]; unfold ofN; rw [e, hpm, Int.toNat_natCast, hr, hrq, Int.toNat_natCast]; rfl)
        have G5 := hideG hP.root
        rw [hrq] at G5
        have hqn : ((q : Int) == -1) = false := by simp
        have hsl := slotsN_le hm hql
        have hlc : (castL (slotsN T q)).length ≤ 1000 := by rw [castL_length]; omega
        have HNL := hideG (show manB T (q : Int) = false → (if manB T (q : Int) then [] else namesI T q).length = (castL (slotsN T q)).length from fun e => by rw [e, castL_length, ← namesI_len]; rfl)
        clear hT hS hct hN hm hk e hpm hQ0 hP hr hrq
        go_enter Tryz.func189, Tryz.ntmps189
        go_wp2_with fail
        refine (orderTop_any T HS.out _ _ _ HT.out).mono ?_
        rintro e w1 ⟨rfl, hb1⟩
        rw [E1.out]
        have HB1 := hideG hb1
        have g2 := cell_below hb1 G2.out
        have g5 := cell_below hb1 G5.out
        clear hb1
        go_wp2_with fail
        refine (shelfOf_any T HM.out HS.out _ q hql _ (HT.out.below HB1.out)).mono ?_
        rintro e w2 ⟨a1, c1, a2, c2, rfl, ho1, ho2, hb2⟩
        have HI1 := hideG (ownsRow_ints ho1)
        have HI2 := hideG (ownsRow_ints ho2)
        have HB2 := hideG (HB1.out.trans (hb2.mono HB1.out.size))
        clear ho1 ho2 hb2 g2 g5
        generalize (if manB T (q : Int) then [] else namesI T q) = NL at *
        generalize castL (slotsN T q) = LL at *
        generalize manB T (q : Int) = mm at *
        go_wp2_with fail
        refine (place_any T HS.out _ _ _ mm LL NL _ _ (HT.out.below HB2.out) HI1.out HI2.out hlc HNL.out).mono ?_
        rintro e w3 ⟨rfl, hb3⟩
        have HB3 := hideG (HB2.out.trans (hb3.mono HB2.out.size))
        clear hb3
        go_wp2_with fail
        go_ret
        exact ⟨ret_int HQ.out.symm, HB3.out⟩
      · have hr1 : (nd T p).root = -1 := by simpa using hr
        have HQ := hideG (show ofI T (m : Int) = -1 by
          rw [hQ0]; unfold ofN; rw [e, hpm, Int.toNat_natCast, hr]; rfl)
        have G5 := hideG hP.root
        rw [hr1] at G5
        clear hT hS hct hN hm hk e hpm hQ0 hP hr hr1
        go_enter Tryz.func189, Tryz.ntmps189
        go_wp2_with (go_at_call 146; refine (orderTop_any T HS.out _ _ _ HT.out).mono ?_; rintro e w1 ⟨rfl, hb1⟩; rw [E1.out]; have HB1 := hideG hb1; have g2 := cell_below hb1 G2.out; have g5 := cell_below hb1 G5.out; clear hb1)
        go_ret
        exact ⟨ret_int HQ.out.symm, HB1.out⟩
end Go.Proofs.YtclhimodopgeoaaGreat
namespace Go.Proofs.YtclhimodopgeoaaGreat
open Go.RowKit Go.Shelf

attribute [local go_sem] Oper.semAt_some

def pairsI (T : List Nd) (r h : Nat) : List (Int × Int) := (nd T h).kids.map fun k => (k, placeI T r k)

theorem rowHeld {E : Nat → Prop} {X : Nat} {A B : World} {base : Nat} {v : Value} {l : List Int} (h : A.ownsRow base 3 1 v l.length (intCells l)) (hH : ∀ g, v.ownBlock = some g → Held E X A g) (hk : Kd E X A B) : B.ownsRow base 3 1 v l.length (intCells l) := by
  refine ⟨h.1, ?_⟩
  rcases h.2 with h | ⟨g, cap, cur, rfl, b, hg, r⟩
  · exact .inl h
  · have hh := hH g rfl
    exact .inr ⟨g, cap, cur, rfl, b, by rw [hk.block g hh.1 hh.2.1 hh.2.2]; exact hg, r⟩
theorem Kd.of_below {E : Nat → Prop} {X : Nat} {A B : World} (hX : X < A.heap.size) (h : Below A.heap.size A B) : Kd E X A B :=
  ⟨h.os, h.tape, h.output, h.size, fun k hk _ _ => h.block k hk, fun g hg => .inl (by rw [ownX_block (h.block X hX)] at hg; exact hg)⟩
theorem ownFrom_below' {β : Type} {M : Nat} {J : β → World → Prop} (hJ : OwnFrom M J) {s : β} {A B : World} (h : J s A) (hb : Below A.heap.size A B) : J s B :=
  hJ s A B none h ⟨hb.os, hb.tape, hb.output, hb.size, fun k hk _ => hb.block k hk⟩ (fun r e => by cases e)

end Go.Proofs.YtclhimodopgeoaaGreat
namespace Go.Proofs.YtclhimodopgeoaaGreat
open Go.RowKit Go.Shelf

attribute [local go_sem] Oper.semAt_some

/-- Those that lie in slot s of shadow r, whose host is h. -/
def asgN (T : List Nd) (r h : Nat) (s : Int) : List Int := (nd T h).kids.filter fun k => placeI T r k == s
theorem asg_take {s : Int} (pre : List (Int × Int)) (p : Int × Int) : ((pre ++ [p]).filter fun q => q.2 == s).map (·.1) = (pre.filter fun q => q.2 == s).map (·.1) ++ (if p.2 == s then [p.1] else []) := by
  rw [List.filter_append, List.map_append]
  congr 1
  cases h : (p.2 == s) <;> simp [h]
theorem asg_all (T : List Nd) (r h : Nat) (s : Int) : ((pairsI T r h).filter fun q => q.2 == s).map (·.1) = asgN T r h s := by
  unfold pairsI asgN
  rw [List.filter_map, List.map_map]
  simp [Function.comp_def]

/-- slots.Assigned. -/
def asgI (T : List Nd) (s : Int) : List Int := if knownB T [s] && (nd T (topN T s.toNat)).kind == 3 && (nd T s.toNat).tag == 3 then asgN T (topN T s.toNat) (nd T (topN T s.toNat)).host.toNat s else []

end Go.Proofs.YtclhimodopgeoaaGreat

namespace Go.Proofs.YtclhimodopgeoaaGreat
open Go.RowKit

end Go.Proofs.YtclhimodopgeoaaGreat
namespace Go.Proofs.YtclhimodopgeoaaGreat
open Go.RowKit

def isSlotB (T : List Nd) (n : Nat) : Bool := (nd T n).kind == 1 && ((nd T n).tag == 3 && (nd T (topN T n)).kind == 3)
theorem tag_elem {T : List Nd} (hm : mayB T = true) {n : Nat} (hn : n < T.length) (h : (nd T n).tag = 3) : (nd T n).kind = 1 := by
  have hk := (mayB_fine hm).kind n hn
  have ht : tagFitsB (nd T n).kind (nd T n).tag = true := by
    unfold kindFitsB at hk
    split at hk <;> simp only [Bool.and_eq_true] at hk <;> exact hk.2
  unfold tagFitsB at ht
  split at ht
  · rename_i h1; simpa using h1
  · rw [h] at ht; simp at ht
theorem top_shadow {T : List Nd} (hm : mayB T = true) {r : Nat} (hr : r < T.length) (hk : (nd T r).kind = 3) : topN T r = r :=
  topN_none (by rw [fine_shadow_parent (mayB_fine hm) hr hk]; rfl)
theorem slot_below {T : List Nd} (hm : mayB T = true) {r : Nat} (hr : r < T.length) (hk : (nd T r).kind = 3) {n : Nat} (hn : n ∈ dn T r) : n < T.length ∧ isSlotB T n = ((nd T n).tag == 3) := by
  obtain ⟨hnl, hpar, _⟩ := (forest3 hm).d_segment hr hn
  have ht : topN T n = r := by rw [← top_eq hm hnl hpar, top_shadow hm hr hk]
  refine ⟨hnl, ?_⟩
  unfold isSlotB
  rw [ht, hk]
  cases h : ((nd T n).tag == 3)
  · simp
  · have := tag_elem hm hnl (by simpa using h)
    rw [this]; rfl

end Go.Proofs.YtclhimodopgeoaaGreat
namespace Go.Proofs.YtclhimodopgeoaaGreat
open Go.RowKit

theorem place_man {T : List Nd} {r : Nat} {k : Int} (h : manB T (r : Int) = true) : placeI T r k = byNumI T (castL (slotsN T r)) k := by
  unfold placeI placeV; rw [h]; rfl
theorem place_nam {T : List Nd} {r : Nat} {k : Int} (h : manB T (r : Int) = false) : placeI T r k = byNameI T (castL (slotsN T r)) (namesI T r) k := by
  unfold placeI placeV; rw [h]; rfl
theorem names_getD {T : List Nd} {r j : Nat} (h : j < (slotsN T r).length) : (namesI T r).getD j 0 = nameI T (((slotsN T r).getD j 0 : Nat) : Int) := by
  unfold namesI
  rw [List.getD_eq_getElem?_getD, List.getElem?_map, List.getD_eq_getElem?_getD, List.getElem?_eq_getElem h]; rfl

/-- Who lies in a slot: a kid of the host whose Of is the slot. -/
theorem of_kid {T : List Nd} (hm : mayB T = true) {r h : Nat} (hr : r < T.length) (hk : (nd T r).kind = 3) (hho : (nd T r).host = (h : Int)) (hh : h < T.length) {k : Int} (hkk : k ∈ (nd T h).kids) : ∃ m : Nat, k = m ∧ m < T.length ∧ ofN T m = placeI T r k := by
  obtain ⟨m, rfl, hml, _, hp⟩ := kidP_iff.mp ((mayB_fine hm).kid h hh k hkk)
  refine ⟨m, rfl, hml, ?_⟩
  have hro := fine_hostroot hm hr hk hho
  unfold ofN
  have e1 : ((nd T m).parent == -1) = false := by rw [hp]; simp
  have e2 : ((nd T h).root == -1) = false := by rw [hro]; simp
  rw [e1, hp, Int.toNat_natCast, e2, hro, Int.toNat_natCast]; rfl
theorem filter_takeI {l : List Int} {k : Nat} (h : k < l.length) (p : Int → Bool) : (l.take (k + 1)).filter p = (l.take k).filter p ++ (if p (l.getD k 0) then [l.getD k 0] else []) := by
  rw [List.take_succ_eq_append_getElem h, List.filter_append, List.getD_eq_getElem?_getD, List.getElem?_eq_getElem h]
  congr 1
  simp only [Option.getD_some, List.filter_cons, List.filter_nil]
theorem isSlot_iff {T : List Nd} (hm : mayB T = true) {n : Nat} (hn : n < T.length) : isSlotB T n = ((nd T (topN T n)).kind == 3 && (nd T n).tag == 3) := by
  unfold isSlotB
  cases h : ((nd T n).tag == 3)
  · simp
  · have := tag_elem hm hn (by simpa using h)
    rw [this]; simp

end Go.Proofs.YtclhimodopgeoaaGreat
namespace Go.Proofs.YtclhimodopgeoaaGreat
open Go.RowKit

end Go.Proofs.YtclhimodopgeoaaGreat

namespace Go.Proofs.YtclhimodopgeoaaGreat
open Go.RowKit

end Go.Proofs.YtclhimodopgeoaaGreat
namespace Go.Proofs.YtclhimodopgeoaaGreat
open Go.RowKit

theorem place_mem {T : List Nd} {r : Nat} {k : Int} {s : Nat} (h : placeI T r k = (s : Int)) : s ∈ slotsN T r := by
  cases hman : manB T (r : Int)
  · rw [place_nam hman] at h
    unfold byNameI at h
    split at h
    · omega
    · rename_i hge
      have hlt : (indexI (namesI T r) (nameI T k)).toNat < (slotsN T r).length := by
        have : indexI (namesI T r) (nameI T k) < ((namesI T r).length : Int) := by
          unfold indexI at hge ⊢
          split <;> omega
        rw [namesI_len] at this
        omega
      rw [castL_getD _ hlt] at h
      have : (slotsN T r).getD (indexI (namesI T r) (nameI T k)).toNat 0 = s := by omega
      rw [← this]; exact getD_mem hlt
  · rw [place_man hman] at h
    unfold byNumI at h
    split at h
    · rename_i hc
      rw [Bool.and_eq_true] at hc
      rw [h] at hc
      have := hc.2
      rw [contains_castL] at this
      exact of_decide_eq_true this
    · omega
/-- Who lies in a slot, by the slot and by the kid. -/
theorem asg_iff {T : List Nd} (hm : mayB T = true) {n s : Nat} (hn : n < T.length) (hs : s < T.length) : (n : Int) ∈ asgI T (s : Int) ↔ ofN T n = (s : Int) := by
  constructor
  · intro h
    unfold asgI at h
    split at h
    · rename_i hc
      rw [Int.toNat_natCast] at h hc
      simp only [Bool.and_eq_true] at hc
      have hk : (nd T (topN T s)).kind = 3 := by simpa using hc.1.2
      have htl := top_lt hm hs
      obtain ⟨q, hql, hho, _, _⟩ := fine_host (mayB_fine hm) htl hk
      rw [hho, Int.toNat_natCast] at h
      unfold asgN at h
      obtain ⟨h1, h2⟩ := List.mem_filter.mp h
      obtain ⟨m, e, _, hof⟩ := of_kid hm htl hk hho hql h1
      have : n = m := by omega
      subst this
      rw [hof]; simpa using h2
    · simp at h
  · intro h
    unfold ofN at h
    split at h
    · omega
    · rename_i hp
      split at h
      · omega
      · rename_i hr
        have hp' : ((nd T n).parent == -1) = false := by simpa using hp
        have hr' : ((nd T (nd T n).parent.toNat).root == -1) = false := by simpa using hr
        rcases (mayB_fine hm).par n hn with e | ⟨p, hpl, e, hmem⟩
        · rw [e] at hp'; simp at hp'
        · rw [e, Int.toNat_natCast] at h hr'
          obtain ⟨r, hrr, hrl, hk, hho⟩ := root_facts (mayB_fine hm) hpl hr'
          rw [hrr, Int.toNat_natCast] at h
          have hsm := place_mem h
          obtain ⟨hsd, htag⟩ := List.mem_filter.mp hsm
          obtain ⟨_, hpar, _⟩ := (forest3 hm).d_segment hrl hsd
          have ht : topN T s = r := by rw [← top_eq hm hs hpar, top_shadow hm hrl hk]
          unfold asgI
          rw [known_of hm hs, Int.toNat_natCast, ht, hk, htag, hho, Int.toNat_natCast]
          show (n : Int) ∈ asgN T r p (s : Int)
          unfold asgN
          refine List.mem_filter.mpr ⟨hmem, ?_⟩
          rw [h]; simp
end Go.Proofs.YtclhimodopgeoaaGreat
namespace Go.Proofs.YtclhimodopgeoaaGreat
open Go.RowKit

end Go.Proofs.YtclhimodopgeoaaGreat
namespace Go.Proofs.YtclhimodopgeoaaGreat
open Go.RowKit

end Go.Proofs.YtclhimodopgeoaaGreat
namespace Go.Proofs.YtclhimodopgeoaaGreat
open Go.RowKit

end Go.Proofs.YtclhimodopgeoaaGreat
namespace Go.Proofs.YtclhimodopgeoaaGreat
open Go.RowKit

end Go.Proofs.YtclhimodopgeoaaGreat

namespace Go.Proofs.YtclhimodopgeoaaGreat
open Go.RowKit

end Go.Proofs.YtclhimodopgeoaaGreat
namespace Go.Proofs.YtclhimodopgeoaaGreat
open Go.RowKit

theorem slI_known {T : List Nd} (hm : mayB T = true) {n : Nat} (hn : n < T.length) : slI T (n : Int) = castL (sl T n) := by
  unfold slI; rw [known_of hm hn, if_pos rfl, Int.toNat_natCast]
theorem sl_short {T : List Nd} (m : Nat) (hm : mayB T = true) (h : m < T.length) : (sl T m).length ≤ 1000 := by
  have h1 := (forest4 hm).d_len h
  have h2 := mayB_pos hm
  omega
end Go.Proofs.YtclhimodopgeoaaGreat
namespace Go.Proofs.YtclhimodopgeoaaGreat
open Go.RowKit

theorem supN_le (T : List Nd) (n : Nat) : (supN T n).length ≤ T.length + 1 := by
  unfold supN; have := upsL_le T n; simp; omega
theorem aboveS_known {T : List Nd} (hm : mayB T = true) (a : Int) {b : Nat} (hb : b < T.length) : aboveS T a (b : Int) = containsB (castL (supN T b)) a := by
  unfold aboveS; rw [supI_known hm hb]

end Go.Proofs.YtclhimodopgeoaaGreat

namespace Go.Proofs.YtclhimodopgeoaaGreat
open Go.RowKit

theorem flat_congr {f g : Nat → List Nat} : ∀ {l : List Nat}, (∀ x ∈ l, f x = g x) → l.flatMap f = l.flatMap g
  | [], _ => rfl
  | a :: l, h => by
    rw [List.flatMap_cons, List.flatMap_cons, h a (List.mem_cons_self ..), flat_congr (fun x hx => h x (List.mem_cons_of_mem _ hx))]
/-- A way up, by parents. -/
def upG (par : Nat → Int) : Nat → Nat → List Nat
  | 0, n => [n]
  | k + 1, n => n :: (if par n == -1 then [] else upG par k (par n).toNat)
/-- A walk down, by kids. -/
def dnG (ch : Nat → List Nat) : Nat → Nat → List Nat
  | 0, n => [n]
  | k + 1, n => n :: (ch n).flatMap (dnG ch k)

/-- Kids and parents that fit. -/
structure Fits (L : Nat) (ch : Nat → List Nat) (par : Nat → Int) (rk : Nat → Nat) : Prop where
  lt : ∀ n, n < L → ∀ m, m ∈ ch n → m < L
  nd : ∀ n, n < L → (ch n).Nodup
  kid : ∀ n, n < L → ∀ m, m ∈ ch n → par m = (n : Int)
  par : ∀ m, m < L → par m = -1 ∨ ∃ n, n < L ∧ par m = (n : Int) ∧ m ∈ ch n
  rank : ∀ n, n < L → ∀ m, m ∈ ch n → rk n < rk m
  le : ∀ n, n < L → rk n < L

namespace Fits
variable {L : Nat} {ch : Nat → List Nat} {par : Nat → Int} {rk : Nat → Nat}

theorem up_stable (F : Fits L ch par rk) : ∀ {k n : Nat}, n < L → rk n ≤ k → upG par (k + 1) n = upG par k n
  | 0, n, hn, h => by
    rcases F.par n hn with e | ⟨p, hp, _, hmem⟩
    · simp [upG, e]
    · have := F.rank p hp n hmem; omega
  | k + 1, n, hn, h => by
    rcases F.par n hn with e | ⟨p, hp, e, hmem⟩
    · simp [upG, e]
    · have hr := F.rank p hp n hmem
      have hne : (par n == -1) = false := by rw [e]; simp
      rw [upG, hne, e, Int.toNat_natCast, up_stable F hp (by omega : rk p ≤ k), upG, hne, e, Int.toNat_natCast]
theorem dn_stable (F : Fits L ch par rk) : ∀ {k n : Nat}, n < L → L ≤ k + 1 + rk n → dnG ch (k + 1) n = dnG ch k n
  | 0, n, hn, h => by
    have : ch n = [] := by
      apply List.eq_nil_iff_forall_not_mem.mpr
      intro m hm
      have := F.rank n hn m hm
      have := F.le m (F.lt n hn m hm)
      omega
    simp [dnG, this]
  | k + 1, n, hn, h => by
    rw [dnG, dnG]
    congr 1
    apply flat_congr
    intro m hm
    have := F.rank n hn m hm
    exact dn_stable F (F.lt n hn m hm) (by omega)
theorem forest (F : Fits L ch par rk) : Forest L ch (dnG ch L) (upG par L) rk := by
  refine ⟨fun n hn => ?_, F.lt, F.nd, fun n hn m hm => ?_, fun n hn => ?_, F.rank⟩
  · obtain ⟨k, rfl⟩ : ∃ k, L = k + 1 := ⟨L - 1, by omega⟩
    rw [dnG]
    congr 1
    apply flat_congr
    intro m hm
    have := F.rank n hn m hm
    exact (dn_stable F (F.lt n hn m hm) (by omega)).symm
  · obtain ⟨k, rfl⟩ : ∃ k, L = k + 1 := ⟨L - 1, by omega⟩
    have hml := F.lt n hn m hm
    have e := F.kid n hn m hm
    have hr := F.rank n hn m hm
    have hle := F.le m hml
    have hne : (par m == -1) = false := by rw [e]; simp
    rw [upG, hne, e, Int.toNat_natCast, up_stable F hn (by omega)]; rfl
  · obtain ⟨k, rfl⟩ : ∃ k, L = k + 1 := ⟨L - 1, by omega⟩
    rcases F.par n hn with e | ⟨p, hp, _, hmem⟩
    · left; simp [upG, e]
    · exact .inr ⟨p, hp, hmem⟩
end Fits

namespace Forest
variable {L : Nat} {ch D U : Nat → List Nat} {rk : Nat → Nat}
def topU (U : Nat → List Nat) (n : Nat) : Nat := (U n).getLastD n
theorem topU_mem (F : Forest L ch D U rk) {n : Nat} (hn : n < L) : topU U n ∈ U n := by
  unfold topU
  rw [List.getLastD_eq_getLast?]
  cases h : (U n).getLast? with
  | none =>
    have := List.getLast?_eq_none_iff.mp h
    have h2 := F.u_self hn
    rw [this] at h2; simp at h2
  | some x => exact List.mem_of_getLast? h
theorem topU_eq (F : Forest L ch D U rk) {n x : Nat} (hn : n < L) (hx : x ∈ U n) : topU U x = topU U n := by
  obtain ⟨p, hp, hxl, _⟩ := F.u_suffix hn hx
  have hs := F.u_self hxl
  unfold topU
  rw [hp, List.getLastD_eq_getLast?, List.getLastD_eq_getLast?, List.getLast?_append]
  cases h : (U x).getLast? with
  | none =>
    have := List.getLast?_eq_none_iff.mp h
    rw [this] at hs; simp at hs
  | some y => simp
/-- A node's place in the walk down from its top. -/
def posU (D U : Nat → List Nat) (n : Nat) : Nat := pos n (D (topU U n))
theorem posU_lt (F : Forest L ch D U rk) {n : Nat} (hn : n < L) : posU D U n < L := by
  have h1 := F.topU_mem hn
  have h2 := F.u_lt hn h1
  have h3 := pos_mem.mp ((F.mem_d h2 hn).mpr h1)
  have h4 := F.d_len h2
  unfold posU
  omega
theorem ahead_in (F : Forest L ch D U rk) {t p n : Nat} (ht : t < L) (hp : p ∈ D t) (hn : n ∈ D p) (hne : p ≠ n) : pos p (D t) < pos n (D t) := by
  obtain ⟨hpl, _, q, s, hD⟩ := F.d_segment ht hp
  have hnd := F.d_nodup ht
  rw [F.deq p hpl] at hn hD
  have hn' : n ∈ (ch p).flatMap D := by
    rcases List.mem_cons.mp hn with e | h
    · exact absurd e.symm hne
    · exact h
  have e : D t = q ++ p :: ((ch p).flatMap D ++ s) := by rw [hD]; simp
  rw [e] at hnd ⊢
  exact pos_ahead hnd (List.mem_append.mpr (.inl hn'))
theorem posU_anc (F : Forest L ch D U rk) {p n : Nat} (hn : n < L) (h : p ∈ U n) (hne : p ≠ n) : posU D U p < posU D U n := by
  have hpl := F.u_lt hn h
  have htm := F.topU_mem hpl
  have htl := F.u_lt hpl htm
  unfold posU
  rw [← F.topU_eq hn h]
  exact F.ahead_in htl ((F.mem_d htl hpl).mpr htm) ((F.mem_d hpl hn).mpr h) hne
theorem posU_sib (F : Forest L ch D U rk) {p a b x y : Nat} {l1 l2 : List Nat} (hp : p < L) (hc : ch p = l1 ++ l2) (ha : a ∈ l1) (hb : b ∈ l2) (hx : x ∈ D a) (hy : y ∈ D b) : posU D U x < posU D U y := by
  have hal := F.lt p hp a (by rw [hc]; exact List.mem_append.mpr (.inl ha))
  have hbl := F.lt p hp b (by rw [hc]; exact List.mem_append.mpr (.inr hb))
  obtain ⟨hxl, hxa, _⟩ := F.d_segment hal hx
  obtain ⟨hyl, hyb, _⟩ := F.d_segment hbl hy
  have hpx : p ∈ U x := F.u_trans hxl (F.u_kid hp (by rw [hc]; exact List.mem_append.mpr (.inl ha))) hxa
  have hpy : p ∈ U y := F.u_trans hyl (F.u_kid hp (by rw [hc]; exact List.mem_append.mpr (.inr hb))) hyb
  have htm := F.topU_mem hp
  have htl := F.u_lt hp htm
  unfold posU
  rw [← F.topU_eq hxl hpx, ← F.topU_eq hyl hpy]
  obtain ⟨_, _, q, s, hD⟩ := F.d_segment htl ((F.mem_d htl hp).mpr htm)
  have hnd := F.d_nodup htl
  rw [F.deq p hp, hc, List.flatMap_append] at hD
  have e : D (topU U p) = (q ++ p :: l1.flatMap D) ++ (l2.flatMap D ++ s) := by rw [hD]; simp
  have hx1 : x ∈ q ++ p :: l1.flatMap D := by
    rw [List.mem_append, List.mem_cons, List.mem_flatMap]; exact .inr (.inr ⟨a, ha, hx⟩)
  have hy1 : y ∈ l2.flatMap D ++ s := by
    rw [List.mem_append, List.mem_flatMap]; exact .inl ⟨b, hb, hy⟩
  rw [e] at hnd ⊢
  have hyn : y ∉ q ++ p :: l1.flatMap D := fun h => (List.nodup_append.mp hnd).2.2 y h y hy1 rfl
  rw [pos_left _ hx1, pos_right _ hyn]
  have := pos_mem.mp hx1
  omega
end Forest

/-- The kids of a node in the flat tree. -/
def kidsF (T : List Nd) (n : Nat) : List Int :=
  if (nd T n).kind == 3 then []
  else if (nd T n).root == -1 then (if (asgI T (n : Int)).length == 0 then (nd T n).kids else asgI T (n : Int))
  else (nd T (nd T n).root.toNat).kids
/-- The slot that shows a node. -/
def showF (T : List Nd) (n : Nat) : Int := if ofN T n == -1 then -1 else if (nd T (ofN T n).toNat).root == -1 then ofN T n else -1
/-- The parent of a node in the flat tree. -/
def parF (T : List Nd) (n : Nat) : Int :=
  if (nd T n).parent == -1 then -1
  else if (nd T (nd T n).parent.toNat).kind == 3 then hostS T (n : Int)
  else if (nd T (nd T n).parent.toNat).root == -1 then (if (asgI T (nd T n).parent).length == 0 then (nd T n).parent else -1)
  else showF T n
def chF (T : List Nd) (n : Nat) : List Nat := (kidsF T n).map Int.toNat

theorem place_range (T : List Nd) (r : Nat) (k : Int) : placeI T r k = -1 ∨ ∃ s : Nat, placeI T r k = (s : Int) := by
  cases hman : manB T (r : Int)
  · rw [place_nam hman]
    unfold byNameI
    split
    · exact Or.inl rfl
    · rename_i hge
      refine Or.inr ?_
      have hlt : (indexI (namesI T r) (nameI T k)).toNat < (slotsN T r).length := by
        have : indexI (namesI T r) (nameI T k) < ((namesI T r).length : Int) := by
          unfold indexI at hge ⊢
          split <;> omega
        rw [namesI_len] at this
        omega
      exact ⟨_, castL_getD _ hlt⟩
  · rw [place_man hman]
    unfold byNumI
    split
    · rename_i hc
      rw [Bool.and_eq_true] at hc
      refine Or.inr ?_
      have h2 := of_decide_eq_true hc.2
      obtain ⟨x, _, e⟩ := List.mem_map.mp h2
      exact ⟨x, e.symm⟩
    · exact Or.inl rfl
theorem top_kid {T : List Nd} (hm : mayB T = true) {m r : Nat} (hml : m < T.length) (hr : r < T.length) (hk : (nd T r).kind = 3) (hp : (nd T m).parent = (r : Int)) : topN T m = r := by
  have h1 : r ∈ pars T m := by
    rw [pars_some hm hml hp]
    exact List.mem_cons_of_mem _ ((forest3 hm).u_self hr)
  rw [← top_eq hm hml h1, top_shadow hm hr hk]
theorem ofN_cases {T : List Nd} (hm : mayB T = true) {n : Nat} (hn : n < T.length) : ofN T n = -1 ∨ ∃ s p r : Nat, ofN T n = (s : Int) ∧ s < T.length ∧ p < T.length ∧ r < T.length ∧ (nd T n).parent = (p : Int) ∧ (n : Int) ∈ (nd T p).kids ∧ (nd T p).root = (r : Int) ∧ (nd T r).kind = 3 ∧ (nd T r).host = (p : Int) ∧ s ∈ dn T r ∧ ((nd T s).tag == 3) = true := by
  have hF := mayB_fine hm
  rcases hF.par n hn with e | ⟨p, hpl, e, hmem⟩
  · left; unfold ofN; rw [e]; rfl
  · have e1 : ((nd T n).parent == -1) = false := by rw [e]; simp
    cases hr : ((nd T p).root == -1)
    · obtain ⟨r, hrr, hrl, hk, hho⟩ := root_facts hF hpl hr
      have hof : ofN T n = placeI T r (n : Int) := by
        unfold ofN; rw [e1, e, Int.toNat_natCast, hr, hrr, Int.toNat_natCast]; rfl
      rcases place_range T r (n : Int) with h | ⟨s, h⟩
      · left; rw [hof, h]
      · right
        have hsm := place_mem h
        obtain ⟨hsd, htag⟩ := List.mem_filter.mp hsm
        exact ⟨s, p, r, by rw [hof, h], (forest3 hm).d_lt hrl hsd, hpl, hrl, e, hmem, hrr, hk, hho, hsd, htag⟩
    · left; unfold ofN; rw [e1, e, Int.toNat_natCast, hr]; rfl

theorem asg_facts {T : List Nd} (hm : mayB T = true) {n : Nat} (hn : n < T.length) {x : Int} (hx : x ∈ asgI T (n : Int)) : ∃ m : Nat, x = (m : Int) ∧ m < T.length ∧ ofN T m = (n : Int) := by
  have hx' := hx
  unfold asgI at hx
  split at hx
  · rename_i hc
    simp only [Bool.and_eq_true, Int.toNat_natCast] at hc hx
    have hk : (nd T (topN T n)).kind = 3 := by simpa using hc.1.2
    have htl := top_lt hm hn
    obtain ⟨q, hql, hho, _, _⟩ := fine_host (mayB_fine hm) htl hk
    rw [hho, Int.toNat_natCast] at hx
    obtain ⟨m, e, hml, _⟩ := of_kid hm htl hk hho hql (List.mem_filter.mp hx).1
    subst e
    exact ⟨m, rfl, hml, (asg_iff hm hml hn).mp hx'⟩
  · simp at hx
theorem asg_nodup {T : List Nd} (hm : mayB T = true) {n : Nat} (hn : n < T.length) : (asgI T (n : Int)).Nodup := by
  unfold asgI
  split
  · rename_i hc
    simp only [Bool.and_eq_true, Int.toNat_natCast] at hc ⊢
    have hk : (nd T (topN T n)).kind = 3 := by simpa using hc.1.2
    have htl := top_lt hm hn
    obtain ⟨q, hql, hho, _, _⟩ := fine_host (mayB_fine hm) htl hk
    rw [hho, Int.toNat_natCast]
    exact ((mayB_fine hm).nodup q hql).filter _
  · simp
/-- Who is a kid in the flat tree, by cases. -/
theorem kidsF_cases {T : List Nd} (hm : mayB T = true) {n : Nat} (hn : n < T.length) {x : Int} (hx : x ∈ kidsF T n) : ∃ m : Nat, x = (m : Int) ∧ m < T.length ∧ (nd T n).kind ≠ 3 ∧ canBeKidB (nd T m).kind = true ∧
    ((∃ r : Nat, r < T.length ∧ (nd T n).root = (r : Int) ∧ (nd T r).kind = 3 ∧ (nd T r).host = (n : Int) ∧ (nd T m).parent = (r : Int)) ∨
     ((nd T n).root = -1 ∧ ofN T m = (n : Int)) ∨ ((nd T n).root = -1 ∧ asgI T (n : Int) = [] ∧ (nd T m).parent = (n : Int))) := by
  have hF := mayB_fine hm
  unfold kidsF at hx
  split at hx
  · simp at hx
  · rename_i hk
    have hk3 : (nd T n).kind ≠ 3 := by simpa using hk
    split at hx
    · rename_i hr
      have hr1 : (nd T n).root = -1 := by simpa using hr
      split at hx
      · rename_i he
        have he1 : asgI T (n : Int) = [] := by
          have : (asgI T (n : Int)).length = 0 := by simpa using he
          exact List.length_eq_zero_iff.mp this
        obtain ⟨m, rfl, hml, hc, hp⟩ := kidP_iff.mp (hF.kid n hn x hx)
        exact ⟨m, rfl, hml, hk3, hc, .inr (.inr ⟨hr1, he1, hp⟩)⟩
      · obtain ⟨m, rfl, hml, hof⟩ := asg_facts hm hn hx
        rcases ofN_cases hm hml with h | ⟨s, p, r, _, _, hpl, _, _, hmem, _⟩
        · rw [h] at hof; omega
        · obtain ⟨m', e, _, hc, _⟩ := kidP_iff.mp (hF.kid p hpl _ hmem)
          have : m' = m := by omega
          subst this
          exact ⟨m', rfl, hml, hk3, hc, .inr (.inl ⟨hr1, hof⟩)⟩
    · rename_i hr
      obtain ⟨r, hrr, hrl, hkr, hho⟩ := root_facts hF hn (by simpa using hr)
      rw [hrr, Int.toNat_natCast] at hx
      obtain ⟨m, rfl, hml, hc, hp⟩ := kidP_iff.mp (hF.kid r hrl x hx)
      exact ⟨m, rfl, hml, hk3, hc, .inl ⟨r, hrl, hrr, hkr, hho, hp⟩⟩
theorem kind_one {T : List Nd} (hm : mayB T = true) {p r : Nat} (hp : p < T.length) (hr : (nd T p).root = (r : Int)) : (nd T p).kind = 1 := by
  rcases rootP_iff.mp ((mayB_fine hm).root p hp) with e | ⟨h, _⟩
  · omega
  · exact h
theorem parF_kid {T : List Nd} (hm : mayB T = true) {n m : Nat} (hn : n < T.length) (hml : m < T.length) (hx : (m : Int) ∈ kidsF T n) : parF T m = (n : Int) := by
  obtain ⟨m', e, _, hk3, _, hc⟩ := kidsF_cases hm hn hx
  have : m' = m := by omega
  subst this
  rcases hc with ⟨r, hrl, hrr, hkr, hho, hp⟩ | ⟨hr1, hof⟩ | ⟨hr1, he, hp⟩
  · have e1 : ((nd T m').parent == -1) = false := by rw [hp]; simp
    unfold parF
    rw [e1, hp, Int.toNat_natCast, hkr]
    show hostS T (m' : Int) = _
    unfold hostS
    rw [known_of hm hml, Int.toNat_natCast, top_kid hm hml hrl hkr hp, hho]; rfl
  · rcases ofN_cases hm hml with h | ⟨s, p, r, hs, _, hpl, hrl, hp, _, hrr, hkr, _, _, _⟩
    · rw [h] at hof; omega
    · have e1 : ((nd T m').parent == -1) = false := by rw [hp]; simp
      have hk1 := kind_one hm hpl hrr
      have e3 : ((nd T p).root == -1) = false := by rw [hrr]; simp
      unfold parF
      rw [e1, hp, Int.toNat_natCast, hk1, e3]
      show showF T m' = _
      unfold showF
      have e4 : ((n : Int) == -1) = false := by simp
      rw [hof, e4, Int.toNat_natCast, hr1]; rfl
  · have e1 : ((nd T m').parent == -1) = false := by rw [hp]; simp
    have e2 : ((nd T n).kind == 3) = false := by simpa using hk3
    unfold parF
    rw [e1, hp, Int.toNat_natCast, e2, hr1, he]; rfl
theorem parF_cases {T : List Nd} (hm : mayB T = true) {m : Nat} (hml : m < T.length) : parF T m = -1 ∨ ∃ n, n < T.length ∧ parF T m = (n : Int) ∧ (m : Int) ∈ kidsF T n := by
  have hF := mayB_fine hm
  rcases hF.par m hml with e | ⟨p, hpl, e, hmem⟩
  · left; unfold parF; rw [e]; rfl
  · have e1 : ((nd T m).parent == -1) = false := by rw [e]; simp
    cases hk : ((nd T p).kind == 3)
    · cases hr : ((nd T p).root == -1)
      · have hpar : parF T m = showF T m := by
          unfold parF; rw [e1, e, Int.toNat_natCast, hk, hr]; rfl
        rcases ofN_cases hm hml with h | ⟨s, p', r, hs, hsl, hpl', hrl, hp', _, hrr, hkr, hho, hsd, htag⟩
        · left; rw [hpar]; unfold showF; rw [h]; rfl
        · have e4 : ((s : Int) == -1) = false := by simp
          cases hsr : ((nd T s).root == -1)
          · left; rw [hpar]; unfold showF; rw [hs, e4, Int.toNat_natCast, hsr]; rfl
          · right
            refine ⟨s, hsl, ?_, ?_⟩
            · rw [hpar]; unfold showF; rw [hs, e4, Int.toNat_natCast, hsr]; rfl
            · have hin := (asg_iff hm hml hsl).mpr hs
              have htg : (nd T s).tag = 3 := by simpa using htag
              have hk1 := tag_elem hm hsl htg
              have hne : ((asgI T (s : Int)).length == 0) = false := by
                have := List.length_pos_of_mem hin
                simp; intro h; rw [h] at hin; simp at hin
              unfold kidsF
              rw [hk1, hsr, hne]
              exact hin
      · cases ha : ((asgI T (p : Int)).length == 0)
        · left; unfold parF; rw [e1, e, Int.toNat_natCast, hk, hr, ha]; rfl
        · right
          refine ⟨p, hpl, ?_, ?_⟩
          · unfold parF; rw [e1, e, Int.toNat_natCast, hk, hr, ha]; rfl
          · unfold kidsF; rw [hk, hr, ha]; exact hmem
    · right
      have hk3 : (nd T p).kind = 3 := by simpa using hk
      obtain ⟨h, hhl, hho, hk1, hroot⟩ := fine_host hF hpl hk3
      refine ⟨h, hhl, ?_, ?_⟩
      · unfold parF
        rw [e1, e, Int.toNat_natCast, hk]
        show hostS T (m : Int) = _
        unfold hostS
        rw [known_of hm hml, Int.toNat_natCast, top_kid hm hml hpl hk3 e, hho]; rfl
      · have e5 : ((p : Int) == -1) = false := by simp
        unfold kidsF
        rw [hk1, hroot, e5, Int.toNat_natCast]
        exact hmem
theorem pars_sup {T : List Nd} (hm : mayB T = true) {n x : Nat} (hn : n < T.length) (h : x ∈ pars T n) : x ∈ supN T n := by
  obtain ⟨_, _, h1⟩ := sup_split hm hn
  unfold supN
  rcases h1 with ⟨_, _, e⟩ | ⟨_, q, _, _, e⟩
  · rw [e]; exact h
  · rw [e]; exact List.mem_append.mpr (.inl h)
def rkF (T : List Nd) (n : Nat) : Nat := Forest.posU (sl T) (supN T) n
theorem sup_step {T : List Nd} (hm : mayB T = true) {m p : Nat} (hml : m < T.length) (hp : (nd T m).parent = (p : Int)) : p ∈ supN T m := by
  have := upsL_some hm hml (over_of_parent (mayB_fine hm) hml hp)
  unfold supN
  rw [this.1]; simp
theorem rkF_kid {T : List Nd} (hm : mayB T = true) {n m : Nat} (hn : n < T.length) (hml : m < T.length) (hx : (m : Int) ∈ kidsF T n) : rkF T n < rkF T m := by
  have F := forest4 hm
  have hF := mayB_fine hm
  obtain ⟨m', e, _, hk3, _, hc⟩ := kidsF_cases hm hn hx
  have : m' = m := by omega
  subst this
  rcases hc with ⟨r, hrl, hrr, hkr, hho, hp⟩ | ⟨hr1, hof⟩ | ⟨hr1, he, hp⟩
  · have h1 := sup_step hm hml hp
    have h2 : n ∈ supN T r := by
      have h3 : overI (nd T r) = (n : Int) := by unfold overI; rw [hkr]; exact hho
      have := upsL_some hm hrl h3
      unfold supN
      rw [this.1]; simp
    have h4 : r ∈ chS T n := by
      have e5 : ((r : Int) == -1) = false := by simp
      unfold chS; rw [hrr, e5]; simp
    have hlt : rkF T n < rkF T r := F.posU_anc hrl h2 (fun e => by subst e; exact hk3 hkr)
    have hne : r ≠ m' := fun e => by
      subst e
      have h5 := F.rank n hn r h4
      rcases hF.par r hrl with e' | ⟨q, hq, e', hmem⟩
      · omega
      · obtain ⟨z, ez, _, hcz, _⟩ := kidP_iff.mp (hF.kid q hq _ hmem)
        have : z = r := by omega
        subst this
        exact kid_not_shadow hcz hkr
    have := F.posU_anc hml h1 hne
    have h6 : rkF T r < rkF T m' := this
    omega
  · rcases ofN_cases hm hml with h | ⟨s, p, r, hs, hsl, hpl, hrl, hp, hmem, hrr, hkr, hho, hsd, htag⟩
    · rw [h] at hof; omega
    · have hsn : s = n := by omega
      subst hsn
      have e5 : ((r : Int) == -1) = false := by simp
      have hch : chS T p = [r] ++ chK T p := by unfold chS; rw [hrr, e5]; simp
      have hx1 : s ∈ sl T r := by
        refine (F.mem_d hrl hsl).mpr ?_
        obtain ⟨_, hpar, _⟩ := (forest3 hm).d_segment hrl hsd
        exact pars_sup hm hsl hpar
      exact F.posU_sib hpl hch (List.mem_singleton.mpr rfl) (List.mem_map.mpr ⟨(m' : Int), hmem, by simp⟩) hx1 (F.d_self hml)
  · have h1 := sup_step hm hml hp
    have hne : n ≠ m' := fun e => by
      subst e
      have := upsL_some hm hml (over_of_parent hF hml hp)
      have h7 := congrArg List.length this.1
      simp at h7
    exact F.posU_anc hml h1 hne
theorem mem_chF {T : List Nd} (hm : mayB T = true) {n m : Nat} (hn : n < T.length) : m ∈ chF T n ↔ m < T.length ∧ (m : Int) ∈ kidsF T n := by
  constructor
  · intro h
    obtain ⟨x, hx, rfl⟩ := List.mem_map.mp h
    obtain ⟨m, rfl, hml, _⟩ := kidsF_cases hm hn hx
    exact ⟨by simpa using hml, by simpa using hx⟩
  · rintro ⟨_, h⟩
    exact List.mem_map.mpr ⟨(m : Int), h, by simp⟩
theorem kidsF_nodup {T : List Nd} (hm : mayB T = true) {n : Nat} (hn : n < T.length) : (kidsF T n).Nodup := by
  have hF := mayB_fine hm
  unfold kidsF
  split
  · simp
  · split
    · split
      · exact hF.nodup n hn
      · exact asg_nodup hm hn
    · rename_i hr
      obtain ⟨r, hrr, hrl, _⟩ := root_facts hF hn (by simpa using hr)
      rw [hrr, Int.toNat_natCast]
      exact hF.nodup r hrl
theorem fitsF {T : List Nd} (hm : mayB T = true) : Fits T.length (chF T) (parF T) (rkF T) := by
  refine ⟨fun n hn m h => ((mem_chF hm hn).mp h).1, fun n hn => ?_, fun n hn m h => ?_, fun m hml => ?_, fun n hn m h => ?_, fun n hn => (forest4 hm).posU_lt hn⟩
  · exact map_nodup (kidsF_nodup hm hn) (fun k hk => by obtain ⟨q, rfl, _⟩ := kidsF_cases hm hn hk; omega)
  · obtain ⟨h1, h2⟩ := (mem_chF hm hn).mp h
    exact parF_kid hm hn h1 h2
  · rcases parF_cases hm hml with e | ⟨n, hn, e, h⟩
    · exact .inl e
    · exact .inr ⟨n, hn, e, (mem_chF hm hn).mpr ⟨hml, h⟩⟩
  · obtain ⟨h1, h2⟩ := (mem_chF hm hn).mp h
    exact rkF_kid hm hn h1 h2
/-- A node and all above it, a node and all below it, in the flat tree. -/
def upF (T : List Nd) (n : Nat) : List Nat := upG (parF T) T.length n
def dnFl (T : List Nd) (n : Nat) : List Nat := dnG (chF T) T.length n
theorem forest6 {T : List Nd} (hm : mayB T = true) : Forest T.length (chF T) (dnFl T) (upF T) (rkF T) := (fitsF hm).forest
end Go.Proofs.YtclhimodopgeoaaGreat

namespace Go.Proofs.YtclhimodopgeoaaGreat
open Go.RowKit

theorem ofI_nat {T : List Nd} (hm : mayB T = true) {n : Nat} (hn : n < T.length) : ofI T (n : Int) = ofN T n := by
  unfold ofI; rw [known_of hm hn, Int.toNat_natCast]; rfl

end Go.Proofs.YtclhimodopgeoaaGreat

namespace Go.Proofs.YtclhimodopgeoaaGreat
open Go.RowKit

structure St where
  node : Int
  tg : Int
  rel : Int
  deriving Inhabited, DecidableEq
structure Vi where
  s : St
  phase : Int
  cap : Bool
  deriving Inhabited, DecidableEq
def stD : St := ⟨0, 0, 0⟩
def viD : Vi := ⟨⟨0, 0, 0⟩, 0, false⟩

end Go.Proofs.YtclhimodopgeoaaGreat

namespace Go.Proofs.YtclhimodopgeoaaGreat
open Go.RowKit

/-- The cells. -/
structure StAt (w : World) (b o : Nat) (h : St) : Prop where
  node : w.cell? ⟨b, o, none⟩ = some (.int .i64 h.node)
  tg : w.cell? ⟨b, o + 1, none⟩ = some (.int .i64 h.tg)
  rel : w.cell? ⟨b, o + 2, none⟩ = some (.int .i64 h.rel)
def StsAt (w : World) (v : Value) (l : List St) : Prop :=
  ∃ a cap, v = .slice a l.length cap ∧ l.length ≤ cap ∧ (0 < l.length → ∃ b off, a = some ⟨b, off, none⟩ ∧ ∀ j, j < l.length → StAt w b (off + j * 3) (l.getD j stD))
theorem StAt.below {w w' : World} {b o : Nat} {h : St} (H : StAt w b o h) (hb : Below w.heap.size w w') : StAt w' b o h :=
  ⟨cell_below hb H.node, cell_below hb H.tg, cell_below hb H.rel⟩
theorem StsAt.below {w w' : World} {v : Value} {l : List St} (h : StsAt w v l) (hb : Below w.heap.size w w') : StsAt w' v l := by
  obtain ⟨a, cap, rfl, hc⟩ := h
  refine ⟨a, cap, rfl, hc.1, fun h0 => ?_⟩
  obtain ⟨b, off, rfl, hd⟩ := hc.2 h0
  exact ⟨b, off, rfl, fun j hj => (hd j hj).below hb⟩
theorem StsAt.shape {w : World} {v : Value} {l : List St} (h : StsAt w v l) : ∃ a c, v = .slice a l.length c := let ⟨a, c, h, _⟩ := h; ⟨a, c, h⟩
/-- The cells. -/
structure ViAt (w : World) (b o : Nat) (h : Vi) : Prop where
  node : w.cell? ⟨b, o, none⟩ = some (.int .i64 h.s.node)
  tg : w.cell? ⟨b, o + 1, none⟩ = some (.int .i64 h.s.tg)
  rel : w.cell? ⟨b, o + 2, none⟩ = some (.int .i64 h.s.rel)
  phase : w.cell? ⟨b, o + 3, none⟩ = some (.int .i64 h.phase)
  cap : w.cell? ⟨b, o + 4, none⟩ = some (.bool h.cap)
def VisAt (w : World) (v : Value) (l : List Vi) : Prop :=
  ∃ a cap, v = .slice a l.length cap ∧ l.length ≤ cap ∧ (0 < l.length → ∃ b off, a = some ⟨b, off, none⟩ ∧ ∀ j, j < l.length → ViAt w b (off + j * 5) (l.getD j viD))
theorem ViAt.below {w w' : World} {b o : Nat} {h : Vi} (H : ViAt w b o h) (hb : Below w.heap.size w w') : ViAt w' b o h :=
  ⟨cell_below hb H.node, cell_below hb H.tg, cell_below hb H.rel, cell_below hb H.phase, cell_below hb H.cap⟩
theorem VisAt.below {w w' : World} {v : Value} {l : List Vi} (h : VisAt w v l) (hb : Below w.heap.size w w') : VisAt w' v l := by
  obtain ⟨a, cap, rfl, hc⟩ := h
  refine ⟨a, cap, rfl, hc.1, fun h0 => ?_⟩
  obtain ⟨b, off, rfl, hd⟩ := hc.2 h0
  exact ⟨b, off, rfl, fun j hj => (hd j hj).below hb⟩
theorem VisAt.shape {w : World} {v : Value} {l : List Vi} (h : VisAt w v l) : ∃ a c, v = .slice a l.length c := let ⟨a, c, h, _⟩ := h; ⟨a, c, h⟩
theorem frozen_below {w w' : World} (hb : Below w.heap.size w w') {a : Addr} {v : Value} (h : w.cell? a = some v) (hf : w.frozen? a = false) : w'.frozen? a = false := (hb.frozen (below_of_cell h)).trans hf
end Go.Proofs.YtclhimodopgeoaaGreat

namespace Go.Proofs.YtclhimodopgeoaaGreat
open Go.RowKit

theorem ne_off {b i j : Nat} (h : i ≠ j) : (⟨b, i, none⟩ : Addr) ≠ ⟨b, j, none⟩ := fun e => h (by have := congrArg Addr.off e; exact this)
end Go.Proofs.YtclhimodopgeoaaGreat

namespace Go.Proofs.YtclhimodopgeoaaGreat
open Go.RowKit Go.Shelf

attribute [local go_sem] Oper.semAt_some

theorem range_rev (k : Nat) : (List.range (k + 1)).reverse = k :: (List.range k).reverse := by rw [List.range_succ, List.reverse_append]; rfl

end Go.Proofs.YtclhimodopgeoaaGreat

namespace Go.Proofs.YtclhimodopgeoaaGreat
open Go.RowKit Go.Shelf

attribute [local go_sem] Oper.semAt_some

theorem StsAt.same {w w' : World} {v : Value} {l : List St} (h : StsAt w v l) (hc : ∀ b o u, w.cell? ⟨b, o, none⟩ = some u → w'.cell? ⟨b, o, none⟩ = some u) : StsAt w' v l := by
  obtain ⟨a, cap, rfl, hd⟩ := h
  refine ⟨a, cap, rfl, hd.1, fun h0 => ?_⟩
  obtain ⟨b, off, rfl, hd'⟩ := hd.2 h0
  refine ⟨b, off, rfl, fun j hj => ?_⟩
  have hq := hd' j hj
  exact ⟨hc _ _ _ hq.node, hc _ _ _ hq.tg, hc _ _ _ hq.rel⟩
end Go.Proofs.YtclhimodopgeoaaGreat

