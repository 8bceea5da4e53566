/- tree.Attach: a shadow over a host. -/
import Derived.Test.YtoolkpjbbngdpaaFields
namespace Go.Proofs.Ytoolkpjbbngdpaa
open Go.RowKit

def attachF (T : List Nd) (h : Int) : Int :=
  if !isNodeB T.length h then 2 else if (nd T h.toNat).kind != 1 then 3 else if (nd T h.toNat).root != -1 then 6 else if (T.length : Int) == 64 then 4 else 0
def attachE (T : List Nd) (h : Int) : Int := if mayB T then attachF T h else 1
def attachL (T : List Nd) (h : Nat) : List Nd := withRoot (withHost (T ++ [lonex 3 0]) T.length h) h T.length
def attachR (T : List Nd) (h : Int) : List Nd :=
  if attachE T h == 1 then [] else if attachE T h == 0 then attachL T h.toNat else T
def attachN (T : List Nd) (h : Int) : Int := if attachE T h == 0 then T.length else 0
theorem attachR_one {T : List Nd} {h : Int} (e : attachE T h = 1) : attachR T h = [] ∧ attachN T h = 0 := by simp [attachR, attachN, e]
theorem attachR_zero {T : List Nd} {h : Int} (e : attachE T h = 0) : attachR T h = attachL T h.toNat ∧ attachN T h = T.length := by simp [attachR, attachN, e]
theorem attachR_else {T : List Nd} {h : Int} (h1 : attachE T h ≠ 1) (h0 : attachE T h ≠ 0) : attachR T h = T ∧ attachN T h = 0 := by simp [attachR, attachN, h1, h0]

theorem attachF_ne {T : List Nd} {h : Int} : attachF T h ≠ 1 := by
  unfold attachF
  split
  · decide
  · split
    · decide
    · split
      · decide
      · split <;> decide

set_option maxRecDepth 100000 in
set_option maxHeartbeats 2000000 in
theorem attachFault_any (T : List Nd) (v : Value) (h : Int) (w : World) (hT : TreeAt w v T) (h6 : T.length ≤ 1000000) :
    Calls Try.prog 71 #[v, .int .i64 h] w fun e w' => e = .returned (.int .i64 (attachF T h)) ∧ w' = w := by
  cases hi : isNodeB T.length h
  · obtain ⟨a, cap, rfl⟩ := hT.shape
    clear hT
    have HF := hideG (show attachF T h = 2 by simp only [attachF, hi, Bool.not_false, if_true])
    go_enter Try.func71, Try.ntmps71
    go_wp2_with (go_at_call 77; refine (isNode_any _ _ _ _ _).mono ?_; rintro e w1 ⟨rfl, rfl⟩)
    go_ret
    exact ⟨ret_int HF.out.symm, rfl⟩
  · obtain ⟨m, rfl, hm⟩ := isNodeB_true hi
    obtain ⟨b, off, cap, rfl, hc⟩ := hT.at (by omega)
    obtain ⟨kv, av, hN⟩ := hc m hm
    have g0 := hN.kind
    have g5 := hN.root
    clear hN hc hT
    cases hk : ((nd T m).kind != 1)
    · cases hr : ((nd T m).root != -1)
      · cases hl : ((T.length : Int) == 64)
        · have HF := hideG (show attachF T m = 0 by simp only [attachF, hi, Int.toNat_natCast, hk, hr, hl, Bool.not_true, Bool.false_eq_true, if_false])
          go_enter Try.func71, Try.ntmps71
          go_wp2_with (go_at_call 77; refine (isNode_any _ _ _ _ _).mono ?_; rintro e w1 ⟨rfl, rfl⟩)
          go_ret
          exact ⟨ret_int HF.out.symm, rfl⟩
        · have HF := hideG (show attachF T m = 4 by simp only [attachF, hi, Int.toNat_natCast, hk, hr, hl, Bool.not_true, Bool.false_eq_true, if_false, if_true])
          go_enter Try.func71, Try.ntmps71
          go_wp2_with (go_at_call 77; refine (isNode_any _ _ _ _ _).mono ?_; rintro e w1 ⟨rfl, rfl⟩)
          go_ret
          exact ⟨ret_int HF.out.symm, rfl⟩
      · have HF := hideG (show attachF T m = 6 by simp only [attachF, hi, Int.toNat_natCast, hk, hr, Bool.not_true, Bool.false_eq_true, if_false, if_true])
        go_enter Try.func71, Try.ntmps71
        go_wp2_with (go_at_call 77; refine (isNode_any _ _ _ _ _).mono ?_; rintro e w1 ⟨rfl, rfl⟩)
        go_ret
        exact ⟨ret_int HF.out.symm, rfl⟩
    · have HF := hideG (show attachF T m = 3 by simp only [attachF, hi, Int.toNat_natCast, hk, Bool.not_true, Bool.false_eq_true, if_false, if_true])
      go_enter Try.func71, Try.ntmps71
      go_wp2_with (go_at_call 77; refine (isNode_any _ _ _ _ _).mono ?_; rintro e w1 ⟨rfl, rfl⟩)
      go_ret
      exact ⟨ret_int HF.out.symm, rfl⟩

theorem attachF_zero {T : List Nd} {h : Int} (e : attachF T h = 0) : ∃ m : Nat, h = m ∧ m < T.length ∧ (nd T m).kind = 1 ∧ (nd T m).root = -1 ∧ T.length ≠ 64 := by
  unfold attachF at e
  cases hi : isNodeB T.length h
  · simp [hi] at e
  · obtain ⟨m, rfl, hm⟩ := isNodeB_true hi
    rw [hi, Int.toNat_natCast] at e
    simp only [Bool.not_true, Bool.false_eq_true, if_false] at e
    cases hk : ((nd T m).kind != 1)
    · cases hr : ((nd T m).root != -1)
      · cases hl : ((T.length : Int) == 64)
        · simp at hk hr hl
          exact ⟨m, rfl, hm, hk, hr, by omega⟩
        · simp [hk, hr, hl] at e
      · simp [hk, hr] at e
    · simp [hk] at e

set_option maxRecDepth 100000 in
set_option maxHeartbeats 2000000 in
theorem attach_ok (T : List Nd) (hS : Sane T) (v : Value) (m : Nat) (w : World) (hT : TreeAt w v T) (hm : mayB T = true) (hF : attachF T m = 0) :
    Calls Try.prog 23 #[v, .int .i64 m] w fun e w' => ∃ v' kv av, e = .returned (.tuple #[v', .int .i64 T.length, .int .i64 0]) ∧ Below w.heap.size w w' ∧ OwnTree w' w.heap.size v' (attachL T m) kv av := by
  obtain ⟨m', e', hlt, _, _, hne⟩ := attachF_zero hF
  obtain rfl : m = m' := by omega
  clear e'
  obtain ⟨a, cap, rfl⟩ := hT.shape
  have hpos := mayB_pos hm
  have h1000 : T.length ≤ 1000 := by omega
  have HT := hideG hT
  have HS := hideG hS
  obtain ⟨i49, hi49, hz490, hz491, hz492⟩ := info_parts infoT49
  clear hT hS
  go_enter Try.func23, Try.ntmps23
  go_wp2_with (first | (go_at_call 67; refine (mayBe_any T HS.out _ _ HT.out).mono ?_; rintro e w1 ⟨rfl, hb1⟩) | (go_at_call 71; refine (attachFault_any T _ _ _ (HT.out.below hb1) (by omega)).mono ?_; rintro e w1' ⟨rfl, rfl⟩) | (go_at_call 69; refine (copy_any T HS.out _ _ (HT.out.below hb1) hpos.1 h1000).mono ?_; rintro e w2 ⟨v', kv, av, rfl, ho, hb2⟩; obtain ⟨g, cap', rfl⟩ := ownsRow_some ho.row hpos.1) | (go_at_call 70; refine (lone_any _ _ _).mono ?_; rintro e w3 ⟨rfl, hb3⟩; have hs1 := hb1.size; have hs2 := hb2.size; have hs3 := hb3.size; have HO := hideG (ho.weaken hs1); have HB := hideG (hb3.alloc hs3 (.cells #[.int .i64 3, .int .i64 0, .int .i64 (-1), .slice none 0 0, .int .i64 (-1), .int .i64 (-1), .slice none 0 0] 49)); have HO2 := hideG (HO.out.below HB.out); have HB1 := hideG hb1; have HB2 := hideG hb2; clear ho hb1 hb2 hb3) | (at_builtin; refine wpList_append_any rfl (.tmp 23) (.tmp 25) 23 rfl w.heap.size 49 i49 _ 7 88 Try.underlying23 hi49 hz490 hz491 hz492 rfl (by decide) _ T.length (rowL T kv av) rfl ?h0 _ 1 (ndCells (lonex 3 0) (.slice none 0 0) (.slice none 0 0)) rfl ?h1 rfl ?h2 ?h3 ?h4 ?h5 ?_))
  case h0 => exact HO2.out.row
  case h1 =>
    refine .inl ⟨⟨w3.heap.size, 0, none⟩, 1, rfl, fun j u hj => ?_⟩
    rw [addr_add, Nat.zero_add, World.cell?_alloc_at _ _ _ _ (by simp)]
    simpa [ndCells, lonex] using hj
  case h2 =>
    intro x hx
    simp only [ndCells, List.mem_cons, List.not_mem_nil, or_false] at hx
    rcases hx with rfl | rfl | rfl | rfl | rfl | rfl | rfl <;> rfl
  case h3 => simp only [maxLen]; omega
  case h4 => omega
  case h5 => simp; omega
  intro v4 w4 ho4 hg4 hf4
  have hN := HO.out.pushLone HB.out hg4 ho4 (fun j e => by have := hf4 j e; simpa using this)
  have hW := hideG (((HB1.out.trans (HB2.out.mono hs1)).trans (HB.out.mono (by omega))).grown hg4 (by simp; omega) (fun j e => (HO.out.row.lt j e).1))
  obtain ⟨g4, c4, rfl⟩ := ownsRow_some ho4 (by omega)
  have len4 : (T ++ [lonex 3 0]).length = T.length + 1 := by simp
  have hg40 : w.heap.size ≤ g4 := (hN.row.lt g4 rfl).1
  have hNr := hN.row
  rw [len4] at hNr
  have c4' : w4.cell? ⟨g4, T.length * 7 + 4, none⟩ = some (.int .i64 (-1)) := by
    rw [hNr.cellAt (T.length * 7 + 4) (by omega), rowL_at (by rw [len4]; omega), rowCell_at _ _ _ _ _ (by omega), nd_snoc_eq]; rfl
  have c5' : ∃ z, w4.cell? ⟨g4, m * 7 + 5, none⟩ = some z := by
    exact ⟨_, by rw [hNr.cellAt (m * 7 + 5) (by omega), rowL_at (by rw [len4]; omega)]⟩
  obtain ⟨z5, c5⟩ := c5'
  have f4 := hNr.frozenAt (T.length * 7 + 4)
  have f5 := hNr.frozenAt (m * 7 + 5)
  have hN2 := hideG ((hN.setHost (n := T.length) (by omega) (m : Int)).setRoot (n := m) (by rw [withHost_length]; omega) (T.length : Int))
  have hW2 := hideG (((hW.out.setCell (p := ⟨g4, T.length * 7 + 4, none⟩) hg40 (.int .i64 (m : Int)))).setCell (p := ⟨g4, m * 7 + 5, none⟩) hg40 (.int .i64 (T.length : Int)))
  clear ho4 hg4 hf4 hN hW hNr
  go_wp2_with fail
  go_ret3
  exact ⟨_, _, _, rfl, hW2.out, hN2.out⟩

set_option maxRecDepth 100000 in
set_option maxHeartbeats 2000000 in
theorem attach_any (T : List Nd) (hS : Sane T) (v : Value) (h : Int) (w : World) (hT : TreeAt w v T) :
    Calls Try.prog 23 #[v, .int .i64 h] w fun e w' => ∃ v', e = .returned (.tuple #[v', .int .i64 (attachN T h), .int .i64 (attachE T h)]) ∧ Below w.heap.size w w' ∧ TreeAt w' v' (attachR T h) := by
  cases hm : mayB T
  · have hE : attachE T h = 1 := by simp only [attachE, hm, Bool.false_eq_true, if_false]
    obtain ⟨hR, hN⟩ := attachR_one hE
    rw [hE, hR, hN]
    obtain ⟨a, cap, rfl⟩ := hT.shape
    have HT := hideG hT
    have HS := hideG hS
    clear hT hS hE hR hN
    go_enter Try.func23, Try.ntmps23
    go_wp2_with (go_at_call 67; refine (mayBe_any T HS.out _ _ HT.out).mono ?_; rintro e w1 ⟨rfl, hb1⟩)
    go_ret3
    exact ⟨_, rfl, hb1, treeAt_nil _⟩
  · have hE : attachE T h = attachF T h := by simp only [attachE, hm, if_true]
    have hpos := mayB_pos hm
    cases h0 : (attachF T h != 0)
    · have h0' : attachF T h = 0 := by simpa using h0
      obtain ⟨m, rfl, _⟩ := attachF_zero h0'
      rw [h0'] at hE
      obtain ⟨hR, hN⟩ := attachR_zero hE
      rw [hE, hR, hN, Int.toNat_natCast]
      refine (attach_ok T hS v m w hT hm h0').mono ?_
      rintro e w' ⟨v', kv, av, rfl, hb, ho⟩
      exact ⟨v', rfl, hb, ho.treeAt⟩
    · obtain ⟨hR, hN⟩ := attachR_else (T := T) (h := h) (by rw [hE]; exact attachF_ne) (by rw [hE]; simpa using h0)
      rw [hE, hR, hN]
      obtain ⟨a, cap, rfl⟩ := hT.shape
      have HT := hideG hT
      have HS := hideG hS
      clear hT hS hE hR hN
      generalize hz : attachF T h = z at *
      have HZ := hideG hz
      clear hz
      go_enter Try.func23, Try.ntmps23
      go_wp2_with (first | (go_at_call 67; refine (mayBe_any T HS.out _ _ HT.out).mono ?_; rintro e w1 ⟨rfl, hb1⟩) | (go_at_call 71; refine (attachFault_any T _ _ _ (HT.out.below hb1) (by omega)).mono ?_; rintro e w1' ⟨rfl, rfl⟩; rw [HZ.out]))
      go_ret3
      exact ⟨_, rfl, hb1, HT.out.below hb1⟩
end Go.Proofs.Ytoolkpjbbngdpaa
