/- WFns: slices.Clone at numbers; the document's Ints; a group without somebody: contracts. -/
import Derived.Test.YtlgbiecgbdbefabWBits
import Derived.Test.YtlgbiecgbdbefabWMath
import Derived.BigQuiet
namespace Go.Proofs.Ytlgbiecgbdbefab
open Go.RowKit
set_option maxHeartbeats 1000000 in
theorem clone80_some (a : Addr) (n cap : Nat) (cs : List Value) (w : World) (hn : n ≤ 1000000) (hl : cs.length = n * 1) (hc : ∀ j u, cs[j]? = some u → w.cell? (a.add j) = some u) (h1 : ∀ u ∈ cs, u.oneCell' = true) :
    Calls Try.prog 22 #[.slice (some a) n cap] w fun e w' => ∃ v', e = .returned v' ∧ w'.ownsRow w.heap.size 3 1 v' n cs ∧ Below w.heap.size w w' ∧ (v' = .slice none 0 0 → False) := by
  obtain ⟨i0, hi, hz0, hz1, hz2⟩ := info_parts infoT3
  have hown : (w.alloc (.cells #[] 3)).ownsRow w.heap.size 3 1 (.slice (some ⟨w.heap.size, 0, none⟩) 0 0) 0 [] := World.ownsRow_made w #[] 0 (Nat.le_refl _) (by simp [maxLen]) rfl
  have HC : Hid (∀ j u, cs[j]? = some u → w.cell? (a.add j) = some u) := hc
  have H1 : Hid (∀ u ∈ cs, u.oneCell' = true) := h1
  have HL : Hid (cs.length = n * 1) := hl
  have he := fun wx => Lib.run_eql_slice_nil (P := Try.prog) wx 22 3 (some a) n cap 0 0 Try.underlying22
  clear hc h1 hl
  go_enter Try.func22, Try.ntmps22
  go_wp2_with (at_builtin; refine wpList_append_own _ rfl (.tmp 5) (.tmp 6) 22 rfl w.heap.size 3 i0 _ 1 8 Try.underlying22 hi hz0 hz1 hz2 rfl (by decide) _ 0 [] rfl hown a n cap cs rfl HL.out ?h1 H1.out ?h2 ?h3 ?h4 ?h5)
  case h1 => exact fun j u hj => cell_kept' (HC.out j u hj)
  case h2 => simp only [maxLen]; omega
  case h3 => omega
  case h4 => simp
  case h5 =>
    intro v' w' hown' hgrow hnil
    go_wp2_with fail
    go_ret
    refine ⟨v', rfl, by simpa using hown', ?_, ?_⟩
    · exact ((Below.refl _ w).alloc (Nat.le_refl _) _).grown hgrow (by simp) (fun k e => by simp [Value.ownBlock] at e; omega)
    · exact hnil
set_option maxHeartbeats 400000 in
theorem clone80_nil (n cap : Nat) (w : World) :
    Calls Try.prog 22 #[.slice none n cap] w fun e w' => e = .returned (.slice none 0 0) ∧ w' = w := by
  have he := fun wx => Lib.run_eql_slice_nil (P := Try.prog) wx 22 3 none n cap 0 0 Try.underlying22
  go_enter Try.func22, Try.ntmps22
  go_wp2_with fail
  go_ret
  exact ⟨rfl, rfl⟩
/-- slices.Clone at numbers, nil or not. -/
theorem cloneInts (kv : Value) (l : List Int) (w : World) (h : IntsAt w kv l) (hl : l.length ≤ 1000000) :
    Calls Try.prog 22 #[kv] w fun e w' => ∃ v', e = .returned v' ∧ w'.ownsRow w.heap.size 3 1 v' l.length (intCells l) ∧ Below w.heap.size w w' := by
  have hk := h
  obtain ⟨a, cap, rfl, hc⟩ := h
  cases a with
  | none =>
    have h0 : l = [] := by
      cases l with
      | nil => rfl
      | cons x l => obtain ⟨b, off, hb, _⟩ := hc (by simp); cases hb
    subst h0
    refine (clone80_nil _ cap w).mono ?_
    rintro e w' ⟨rfl, rfl⟩
    exact ⟨_, rfl, World.ownsRow_nil _ _ _ _, Below.refl _ _⟩
  | some a =>
    refine (clone80_some a l.length cap (intCells l) w hl (intCells_length l) hk.cells.2 (intCells_one l)).mono ?_
    rintro e w' ⟨v', rfl, h1, h2, _⟩
    exact ⟨v', rfl, h1, h2⟩
set_option maxRecDepth 100000 in
set_option maxHeartbeats 1000000 in
theorem refInts_any (l m : List Int) (v u : Value) (w : World) (hl : IntsAt w v l) (hm : IntsAt w u m) (h1 : l.length ≤ 1000000) :
    Calls Try.prog 18 #[v, u] w fun e w' => e = .returned (.bool (decide (l = m))) ∧ Below w.heap.size w w' := by
  obtain ⟨a, cap, rfl, hc⟩ := hl
  obtain ⟨a', cap', rfl, hc'⟩ := hm
  by_cases hlen : l.length = m.length
  · have hne : ((l.length : Int) != (m.length : Int)) = false := by simp [hlen]
    have HC : Hid (0 < l.length → ∃ b off, a = some ⟨b, off, none⟩ ∧ ∀ j, j < l.length → w.cell? ⟨b, off + j, none⟩ = some (.int .i64 (l.getD j 0))) := hc
    have HC' : Hid (0 < m.length → ∃ b off, a' = some ⟨b, off, none⟩ ∧ ∀ j, j < m.length → w.cell? ⟨b, off + j, none⟩ = some (.int .i64 (m.getD j 0))) := hc'
    have HL : Hid (l.length = m.length) := hlen
    clear hc hc' hlen
    go_enter Try.func18, Try.ntmps18
    go_wp2_with fail
    go_loopw [5] (fun i wr => ∃ k : Nat, k ≤ l.length ∧ i = .int .i64 k ∧ Below w.heap.size w wr ∧ (∀ j, j < k → l.getD j 0 = m.getD j 0)) (fun i _ => l.length - (intOf i).toNat)
    case atStart => exact ⟨0, Nat.zero_le _, rfl, Below.refl _ _, fun j h => by omega⟩
    case round =>
      obtain ⟨k, hk, rfl, hB, hEq⟩ := hrel
      have HE : Hid (∀ j, j < k → l.getD j 0 = m.getD j 0) := hEq
      clear hEq
      by_cases hlt : k < l.length
      · obtain ⟨b, off, rfl, hd⟩ := HC.out (by omega)
        obtain ⟨b', off', rfl, hd'⟩ := HC'.out (by have := HL.out; omega)
        have c1 := cell_below hB (hd k hlt)
        have c2 := cell_below hB (hd' k (by have := HL.out; omega))
        have hlt' : k < m.length := by have := HL.out; omega
        clear hd hd'
        have HX : Hid (l.getD k 0 = m.getD k 0 ↔ l.getD k 0 = m.getD k 0) := Iff.rfl
        generalize hA1 : l.getD k 0 = x1 at c1
        generalize hA2 : m.getD k 0 = x2 at c2
        have HA1 : Hid (l.getD k 0 = x1) := hA1
        have HA2 : Hid (m.getD k 0 = x2) := hA2
        clear hA1 hA2 HX
        cases hx : (x1 != x2)
        · go_wp2_with fail
          go_quiet (fail)
          go_wp2_with fail
          go_roundw
          case rel =>
            refine ⟨k + 1, by omega, by go_num, below_drewN hB _, fun j hj => ?_⟩
            by_cases h : j = k
            · subst h; rw [HA1.out, HA2.out]; simpa using hx
            · exact HE.out j (by omega)
          case measure => simp [intOf]; omega
        · go_wp2_with fail
          go_quiet (fail)
          go_wp2_with fail
          go_ret
          refine ⟨ret_bool (Eq.symm (decide_eq_false (fun h => ?_))), below_drewN hB _⟩
          have e := HA1.out
          rw [h, HA2.out] at e
          simp [e] at hx
      · go_wp2_with fail
        go_ret
        exact ⟨ret_bool (Eq.symm (decide_eq_true (list_ext_getD HL.out (fun j hj => HE.out j (by omega))))), hB⟩
  · have hne : ((l.length : Int) != (m.length : Int)) = true := by simp; omega
    clear hc hc'
    go_enter Try.func18, Try.ntmps18
    go_wp2_with fail
    go_ret
    exact ⟨ret_bool (Eq.symm (decide_eq_false (fun h => hlen (by rw [h])))), Below.refl _ _⟩
set_option maxRecDepth 100000 in
set_option maxHeartbeats 4000000 in
theorem without_any (l : List Int) (n : Int) (v : Value) (w : World) (hL : IntsAt w v l) (hl : l.length ≤ 1000000) :
    Calls Try.prog 21 #[v, .int .i64 n] w fun x w' => ∃ a c, x = .returned (.slice a (woL n l).length c) ∧ w'.ownsRow w.heap.size 3 1 (.slice a (woL n l).length c) (woL n l).length (intCells (woL n l)) ∧ Below w.heap.size w w' := by
  obtain ⟨i3, hi3, hz30, hz31, hz32⟩ := info_parts infoT3
  obtain ⟨a, cap, rfl, hc⟩ := hL
  have HC := hideG hc
  clear hc
  go_enter Try.func21, Try.ntmps21
  go_wp2_with fail
  go_loopw [5, 10] (fun o i wr => ∃ (k : Nat) (oa : Option Addr) (oc : Nat), k ≤ l.length ∧ i = .int .i64 (k : Int) ∧ o = .slice oa (woL n (l.take k)).length oc ∧ wr.ownsRow w.heap.size 3 1 (.slice oa (woL n (l.take k)).length oc) (woL n (l.take k)).length (intCells (woL n (l.take k))) ∧ Below w.heap.size w wr) (fun _ i _ => l.length - (intOf i).toNat)
  case atStart => exact ⟨0, none, 0, Nat.zero_le _, rfl, rfl, World.ownsRow_nil _ _ _ _, Below.refl _ _⟩
  case round =>
    obtain ⟨k, oa, oc, hk, rfl, rfl, hown, hB⟩ := hrel
    have HOW := hideG hown
    have HB := hideG hB
    clear hown hB
    by_cases hlt : k < l.length
    · obtain ⟨b, off, rfl, hd⟩ := HC.out (by omega)
      have c0 := cell_below HB.out (hd k hlt)
      have HT := hideG (show woL n (l.take (k + 1)) = woL n (l.take k) ++ (if (l.getD k 0 != n) = true then [l.getD k 0] else []) by
        unfold woL
        rw [filter_takeI hlt])
      have hfl : (woL n (l.take k)).length ≤ l.length := by
        unfold woL
        have h1 := List.length_filter_le (fun x => x != n) (l.take k)
        have h2 : (l.take k).length ≤ l.length := by rw [List.length_take]; omega
        omega
      generalize l.getD k 0 = x at *
      have hbl : b < wr.heap.size := below_of_cell c0
      have hk0 : (0 : Int) ≤ (k : Int) := by omega
      clear hd
      cases hx : (x != n)
      · have HE := hideG (show woL n (l.take (k + 1)) = woL n (l.take k) by rw [HT.out, hx]; simp)
        go_wp2_with fail
        go_roundw
        case rel => exact ⟨k + 1, oa, oc, by omega, by go_num, by rw [HE.out], by rw [HE.out]; exact HOW.out, HB.out⟩
        case measure => simp [intOf]; omega
      · have HE := hideG (show woL n (l.take (k + 1)) = woL n (l.take k) ++ [x] by rw [HT.out, hx]; simp)
        generalize woL n (l.take k) = cur at *
        go_wp2_with (at_builtin; refine wpList_append_any rfl (.tmp 17) (.tmp 19) 22 rfl w.heap.size 3 i3 _ 1 8 Try.underlying22 hi3 hz30 hz31 hz32 rfl (by decide) _ cur.length (intCells cur) rfl (HOW.out.alloc _) _ 1 [.int .i64 x] rfl (row_new1 _ _) rfl ?h2 ?h3 ?h4 ?h5 ?_)
        case h2 => intro y hy; simp at hy; subst hy; rfl
        case h3 => simp only [maxLen]; omega
        case h4 => omega
        case h5 => have := HB.out.size; simp; omega
        intro v4 w4 ho4 hg4 hf4
        obtain ⟨a4, c4, rfl⟩ := ownsRow_shape ho4
        rw [intCells_snoc] at ho4
        have HB4 := hideG ((HB.out.alloc HB.out.size (.cells #[.int .i64 x] 3)).grown hg4 (by have := HB.out.size; simp; omega) (fun j e => (HOW.out.lt j e).1))
        have hl4 : (woL n (l.take (k + 1))).length = cur.length + 1 := by rw [HE.out]; simp
        have HL4 := hideG hl4
        have HO4 := hideG ho4
        clear ho4 hg4 hf4 hl4
        go_wp2_with fail
        go_roundw
        case rel => exact ⟨k + 1, a4, c4, by omega, by go_num, by rw [HL4.out], by rw [HL4.out, HE.out]; exact HO4.out, HB4.out⟩
        case measure => simp [intOf]; omega
    · have hke : l.take k = l := List.take_of_length_le (by omega)
      rw [hke] at HOW ⊢
      go_wp2_with fail
      go_ret
      exact ⟨oa, oc, rfl, HOW.out, HB.out⟩
end Go.Proofs.Ytlgbiecgbdbefab
