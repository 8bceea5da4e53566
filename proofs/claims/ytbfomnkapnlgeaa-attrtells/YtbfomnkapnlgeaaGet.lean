/- attr.fault, refuse, Get and Has: each returns what its Lean twin says of a tree in memory. -/
import Derived.Test.YtbfomnkapnlgeaaSearch
namespace Go.Proofs.Ytbfomnkapnlgeaa
open Go.RowKit

def faultE (T : List Nd) (n : Int) : Int := if mayB T then (if isNodeB T.length n then 0 else 2) else 1
def getL (T : List Nd) (n : Int) (nm : Int) : Int × Bool :=
  if faultE T n != 0 then (0, false)
  else if (searchL nm (nd T n.toNat).attrs).2 then (((nd T n.toNat).attrs.getD (searchL nm (nd T n.toNat).attrs).1 (0, 0)).2, true) else (0, false)

theorem searchL_lt' {nm : Int} : ∀ {l : List (Int × Int)}, (searchL nm l).2 = true → (searchL nm l).1 < l.length
  | [], h => by simp [searchL] at h
  | a :: l, h => by
    simp only [searchL] at h ⊢
    split at h
    · rename_i hle; rw [if_pos hle]; simp
    · rename_i hle
      rw [if_neg hle]
      have := searchL_lt' h
      simp
      omega

theorem hideG {p : Prop} (h : p) : Hid p := h

theorem TreeAt.shape {w : World} {v : Value} {T : List Nd} (h : TreeAt w v T) : ∃ a c, v = .slice a T.length c := let ⟨a, c, h, _⟩ := h; ⟨a, c, h⟩

theorem mayB_pos {T : List Nd} (h : mayB T = true) : 1 ≤ T.length ∧ T.length ≤ 64 := by
  simp only [mayB, Bool.and_eq_true, decide_eq_true_eq] at h
  exact ⟨h.1, h.2.1⟩

set_option maxHeartbeats 800000 in
theorem fault_any (T : List Nd) (hS : Sane T) (v : Value) (n : Int) (w : World) (hT : TreeAt w v T) :
    Calls Try.prog 61 #[v, .int .i64 n] w fun e w' => e = .returned (.int .i64 (faultE T n)) ∧ Below w.heap.size w w' := by
  obtain ⟨a, cap, rfl⟩ := hT.shape
  have HT := hideG hT
  have HS := hideG hS
  clear hT hS
  cases hm : mayB T
  · have hck : checkE T = 1 := by simp only [checkE, hm, Bool.false_eq_true, if_false]
    go_enter Try.func61, Try.ntmps61
    go_wp2_with (go_at_call 31; refine (check_any T HS.out _ _ HT.out).mono ?_; rintro e w1 ⟨rfl, hb1⟩)
    go_ret
    exact ⟨ret_int (by simp only [faultE, hm, Bool.false_eq_true, if_false]), hb1⟩
  · have hck : checkE T = 0 := by simp only [checkE, hm, if_true]
    have hpos := mayB_pos hm
    have hlen : (T.length : Int) ≤ 64 := by omega
    by_cases h0 : n < 0
    · have hi : isNodeB T.length n = false := by simp [isNodeB]; omega
      go_enter Try.func61, Try.ntmps61
      go_wp2_with (go_at_call 31; refine (check_any T HS.out _ _ HT.out).mono ?_; rintro e w1 ⟨rfl, hb1⟩)
      go_ret
      exact ⟨ret_int (by simp only [faultE, hm, hi, Bool.false_eq_true, if_true, if_false]), hb1⟩
    · have hd : decide (n < 0) = false := by simpa using h0
      by_cases h1 : (T.length : Int) ≤ n
      · have hi : isNodeB T.length n = false := by simp [isNodeB]; omega
        go_enter Try.func61, Try.ntmps61
        go_wp2_with (go_at_call 31; refine (check_any T HS.out _ _ HT.out).mono ?_; rintro e w1 ⟨rfl, hb1⟩)
        go_ret
        exact ⟨ret_int (by simp only [faultE, hm, hi, Bool.false_eq_true, if_true, if_false]), hb1⟩
      · have hi : isNodeB T.length n = true := by simp [isNodeB]; omega
        have hd1 : decide ((T.length : Int) ≤ n) = false := by simpa using h1
        go_enter Try.func61, Try.ntmps61
        go_wp2_with (go_at_call 31; refine (check_any T HS.out _ _ HT.out).mono ?_; rintro e w1 ⟨rfl, hb1⟩)
        go_ret
        exact ⟨ret_int (by simp only [faultE, hm, hi, if_true]), hb1⟩

set_option maxHeartbeats 400000 in
theorem refuse_any (a : Option Addr) (len cap : Nat) (e0 : Int) (w : World) :
    Calls Try.prog 63 #[.slice a len cap, .int .i64 e0] w fun e w' => e = .returned (.tuple #[if e0 == 1 then .slice none 0 0 else .slice a len cap, .int .i64 e0]) ∧ w' = w := by
  cases h : (e0 == 1)
  all_goals
    go_enter Try.func63, Try.ntmps63
    go_wp2
    go_ret2
    exact ⟨rfl, rfl⟩

set_option maxRecDepth 100000 in
set_option maxHeartbeats 800000 in
theorem get_any (T : List Nd) (hS : Sane T) (v : Value) (n nm : Int) (w : World) (hT : TreeAt w v T) :
    Calls Try.prog 34 #[v, .int .i64 n, .int .i64 nm] w fun e w' => e = .returned (.tuple #[.int .i64 (getL T n nm).1, .bool (getL T n nm).2]) ∧ Below w.heap.size w w' := by
  obtain ⟨a, cap, rfl⟩ := hT.shape
  have HT := hideG hT
  have HS := hideG hS
  clear hT hS
  cases hf : (faultE T n != 0)
  · have hmn : mayB T = true ∧ isNodeB T.length n = true := by
      simp only [faultE] at hf
      cases hm : mayB T
      · simp [hm] at hf
      · cases hi : isNodeB T.length n
        · simp [hm, hi] at hf
        · exact ⟨rfl, rfl⟩
    obtain ⟨k, rfl, hk⟩ := isNodeB_true hmn.2
    have hg : getL T k nm = if (searchL nm (nd T k).attrs).2 then (((nd T k).attrs.getD (searchL nm (nd T k).attrs).1 (0, 0)).2, true) else (0, false) := by
      simp only [getL, hf, Bool.false_eq_true, if_false, Int.toNat_natCast]
    have HG := hideG hg
    have hs2 := (HS.out k hk).2
    obtain ⟨b, off, cap', hv, hc⟩ := HT.out.at (by omega)
    simp only [Value.slice.injEq, true_and] at hv
    obtain ⟨rfl, rfl⟩ := hv
    obtain ⟨kv, av, hN⟩ := hc k hk
    have c6 := hN.attrsc
    have hAt := hN.attrs
    have hbz : b < w.heap.size := below_of_cell c6
    obtain ⟨aa, ac, rfl⟩ := hN.attrs.shape
    have HA := hideG hAt
    clear hc hN hg hAt hmn
    cases hs : (searchL nm (nd T k).attrs).2
    · go_enter Try.func34, Try.ntmps34
      go_wp2_with (first | (go_at_call 61; refine (fault_any T HS.out _ _ _ HT.out).mono ?_; rintro e w1 ⟨rfl, hb1⟩; have g6 := (hb1.cell (p := ⟨b, off + k * 7 + 6, none⟩) hbz).trans c6; have HA1 := hideG (HA.out.below hb1)) | (go_at_call 62; refine (search_any (nd T k).attrs _ _ _ HA1.out hs2).mono ?_; rintro e w2 ⟨rfl, hb2⟩; rw [hs]))
      go_ret2
      exact ⟨ret_ib (by rw [HG.out, hs]; rfl) (by rw [HG.out, hs]; rfl), hb1.trans (hb2.mono hb1.size)⟩
    · have hlt := searchL_lt' hs
      obtain ⟨q, hq⟩ : ∃ q, (searchL nm (nd T k).attrs).1 = q := ⟨_, rfl⟩
      rw [hq] at hlt
      have HQ := hideG hq
      clear hq
      obtain ⟨a', c', hv', hd⟩ := HA.out
      simp only [Value.slice.injEq, true_and] at hv'
      obtain ⟨rfl, rfl⟩ := hv'
      obtain ⟨ab, aoff, rfl, hd2⟩ := hd (by omega)
      obtain ⟨_, c2⟩ := hd2 q hlt
      have hab : ab < w.heap.size := below_of_cell c2
      clear hd hd2
      go_enter Try.func34, Try.ntmps34
      go_wp2_with (first | (go_at_call 61; refine (fault_any T HS.out _ _ _ HT.out).mono ?_; rintro e w1 ⟨rfl, hb1⟩; have g6 := (hb1.cell (p := ⟨b, off + k * 7 + 6, none⟩) hbz).trans c6; have HA1 := hideG (HA.out.below hb1); have g2 := (hb1.cell (p := ⟨ab, aoff + q * 2 + 1, none⟩) hab).trans c2; have hz1 := hb1.size) | (go_at_call 62; refine (search_any (nd T k).attrs _ _ _ HA1.out hs2).mono ?_; rintro e w2 ⟨rfl, hb2⟩; rw [hs, HQ.out]; have i6 := (hb2.cell (p := ⟨b, off + k * 7 + 6, none⟩) (by simp; omega)).trans g6; have i2 := (hb2.cell (p := ⟨ab, aoff + q * 2 + 1, none⟩) (by simp; omega)).trans g2))
      go_ret2
      exact ⟨ret_ib (by rw [HG.out, hs, HQ.out]; simp [hlt]) (by rw [HG.out, hs]; rfl), hb1.trans (hb2.mono hb1.size)⟩
  · go_enter Try.func34, Try.ntmps34
    go_wp2_with (go_at_call 61; refine (fault_any T HS.out _ _ _ HT.out).mono ?_; rintro e w1 ⟨rfl, hb1⟩)
    go_ret2
    exact ⟨ret_ib (by simp only [getL, hf, if_true]) (by simp only [getL, hf, if_true]), hb1⟩

set_option maxHeartbeats 400000 in
theorem has_any (T : List Nd) (hS : Sane T) (v : Value) (n nm : Int) (w : World) (hT : TreeAt w v T) :
    Calls Try.prog 40 #[v, .int .i64 n, .int .i64 nm] w fun e w' => e = .returned (.bool (getL T n nm).2) ∧ Below w.heap.size w w' := by
  obtain ⟨a, cap, rfl⟩ := hT.shape
  have HT := hideG hT
  have HS := hideG hS
  clear hT hS
  go_enter Try.func40, Try.ntmps40
  go_wp2_with (go_at_call 34; refine (get_any T HS.out _ _ _ _ HT.out).mono ?_; rintro e w1 ⟨rfl, hb1⟩)
  go_ret
  exact ⟨rfl, hb1⟩
end Go.Proofs.Ytbfomnkapnlgeaa
