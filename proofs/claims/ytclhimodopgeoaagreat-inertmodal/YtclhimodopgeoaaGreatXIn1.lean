/- Small functions of package inert: known, blocked, underMark. -/
import Derived.WalkMore
import Derived.Test.YtclhimodopgeoaaGreatTC9
import Derived.Test.YtclhimodopgeoaaGreatTC10
import Derived.Test.YtclhimodopgeoaaGreatXFlatUp
namespace Go.Proofs.YtclhimodopgeoaaGreat
open Go.RowKit

/-- Is the view one that may be, and n a node of it? -/
def knownV (V : Vw) (n : Int) : Bool := (checkV V == 0) && (decide (0 ≤ n) && decide (n < (V.tree.length : Int)))
set_option maxRecDepth 100000 in
set_option maxHeartbeats 4000000 in
theorem iknown_any (tv ov mv pv qv : Value) (V : Vw) (n : Int) (w : World) (hV : ViewAt w tv ov mv pv qv V) (hS : Sane V.tree) (hl : smallL V) :
    Calls Tryz.prog 105 #[.agg #[tv, ov, mv, pv, qv], .int .i64 n] w fun e w' => e = .returned (.bool (knownV V n)) ∧ Below w.heap.size w w' := by
  obtain ⟨hT, hO, hM, hP, hQ⟩ := hV
  obtain ⟨ta, tc, rfl⟩ := hT.shape
  obtain ⟨oa, oc, rfl⟩ := hO.shape
  obtain ⟨ma, mc, rfl⟩ := hM.shape
  obtain ⟨pa, pc, rfl⟩ := hP.shape
  obtain ⟨qa, qc, rfl⟩ := hQ.shape
  obtain ⟨W0, hW0⟩ : ∃ W0, w.alloc (.cells #[.slice ta V.tree.length tc, .slice oa V.op.length oc, .slice ma V.modal.length mc, .slice pa V.pops.length pc, .slice qa V.top.length qc] 27) = W0 := ⟨_, rfl⟩
  have HB0 := hideG (show Below w.heap.size w W0 by rw [← hW0]; exact alB _ _)
  have BX := hideG (show BoxV W0 w.heap.size _ _ _ _ _ by rw [← hW0]; exact BoxV.new _ _ _ _ _ _ _)
  have HV := hideG (show ViewAt w _ _ _ _ _ V from ⟨hT, hO, hM, hP, hQ⟩)
  have HC := hideG (checkV_any _ _ _ _ _ V W0 (HV.out.below HB0.out) hS hl)
  have HW0 := hideG hW0
  clear hW0 hT hO hM hP hQ
  unfold knownV
  by_cases hck : checkV V = 0
  · rw [hck] at HC ⊢
    cases h0 : decide (0 ≤ n)
    all_goals
      go_enter Tryz.func105, Tryz.ntmps105
      go_wp2_with fail
      rw [HW0.out]
      refine HC.out.mono ?_
      rintro e w1 ⟨rfl, hb1⟩
      have HB1 := hideG (HB0.out.trans (hb1.mono HB0.out.size))
      have BX1 := hideG (BX.out.below hb1)
      clear hb1
      have p0 := BX1.out.c0
      have plt := BX1.out.lt
      go_wp2_with fail
      go_ret
      exact ⟨ret_bool (by simp), HB1.out⟩
  · have hce : (checkV V == 0) = false := by rw [beq_eq_false_iff_ne]; exact hck
    rw [hce]
    go_enter Tryz.func105, Tryz.ntmps105
    go_wp2_with fail
    rw [HW0.out]
    refine HC.out.mono ?_
    rintro e w1 ⟨rfl, hb1⟩
    have HB1 := hideG (HB0.out.trans (hb1.mono HB0.out.size))
    clear hb1
    go_wp2_with fail
    go_ret
    exact ⟨ret_bool (by simp), HB1.out⟩

/-- Is one blocked, by its way up? -/
def blockedB (high : Int) (up : List Int) : Bool := (high != -1) && ((up.getD 0 0 != 0) && !containsB up high)
set_option maxHeartbeats 1000000 in
theorem blocked_any (high : Int) (up : List Int) (v : Value) (w : World) (hI : IntsAt w v up) (h0 : 0 < up.length) (hl : up.length ≤ 1000000) :
    Calls Tryz.prog 108 #[.int .i64 high, v] w fun e w' => e = .returned (.bool (blockedB high up)) ∧ w' = w := by
  obtain ⟨a, cap, rfl⟩ := hI.shape
  have HC := hideG (contains_any up _ high w hI hl)
  obtain ⟨a', cap', e, hd⟩ := hI
  simp only [Value.slice.injEq, true_and] at e
  obtain ⟨rfl, rfl⟩ := e
  obtain ⟨b, off, rfl, hd'⟩ := hd h0
  have c0 := hd' 0 h0
  rw [Nat.add_zero] at c0
  have clt := below_of_cell c0
  have hi1 : (0 : Int) < (up.length : Int) := by omega
  unfold blockedB
  generalize up.getD 0 0 = x at *
  clear hd hd'
  cases h1 : (high != -1)
  · go_enter Tryz.func108, Tryz.ntmps108
    go_wp2_with fail
    go_ret
    exact ⟨ret_bool (by simp), rfl⟩
  · cases h2 : (x != 0)
    · go_enter Tryz.func108, Tryz.ntmps108
      go_wp2_with fail
      go_ret
      exact ⟨ret_bool (by simp), rfl⟩
    · go_enter Tryz.func108, Tryz.ntmps108
      go_wp2_with fail
      refine HC.out.mono ?_
      rintro e wz ⟨rfl, hwz⟩
      obtain rfl : _ = wz := hwz.symm
      go_wp2_with fail
      go_ret
      exact ⟨ret_bool (by simp), rfl⟩

/-- Is one of those marked, as far up as to the highest one? -/
def underB (M : List Int) (high : Int) : List Int → Bool
  | [] => false
  | x :: l => containsB M x || (!(x == high) && underB M high l)
theorem underB_at {M : List Int} {high : Int} : ∀ {l : List Int} {k : Nat}, k < l.length → underB M high (l.drop k) = (containsB M (l.getD k 0) || (!(l.getD k 0 == high) && underB M high (l.drop (k + 1)))) := by
  intro l k h
  rw [List.drop_eq_getElem_cons h, underB, List.getD_eq_getElem?_getD, List.getElem?_eq_getElem h]
  rfl
set_option maxRecDepth 100000 in
set_option maxHeartbeats 2000000 in
theorem underMark_any (ta : Option Addr) (tn tc : Nat) (high : Int) (M up : List Int) (mv v : Value) (w : World) (hM : IntsAt w mv M) (hI : IntsAt w v up) (hm : M.length ≤ 1000000) (hl : up.length ≤ 1000000) :
    Calls Tryz.prog 139 #[.agg #[.slice ta tn tc, .int .i64 high, mv], v] w fun e w' => e = .returned (.bool (underB M high up)) ∧ Below w.heap.size w w' := by
  obtain ⟨a, cap, rfl⟩ := hI.shape
  obtain ⟨ma, mcap, rfl⟩ := hM.shape
  obtain ⟨W0, hW0⟩ : ∃ W0, w.alloc (.cells #[.slice ta tn tc, .int .i64 high, .slice ma M.length mcap] 91) = W0 := ⟨_, rfl⟩
  have HB0 := hideG (show Below w.heap.size w W0 by rw [← hW0]; exact alB _ _)
  have p1 : W0.cell? ⟨w.heap.size, 1, none⟩ = some (.int .i64 high) := by rw [← hW0]; simp
  have p2 : W0.cell? ⟨w.heap.size, 2, none⟩ = some (.slice ma M.length mcap) := by rw [← hW0]; simp
  have P1 := hideG p1
  have P2 := hideG p2
  have HM := hideG (hM.below HB0.out)
  have HI := hideG (hI.below HB0.out)
  have HW0 := hideG hW0
  clear hW0 hM hI p1 p2
  go_enter Tryz.func139, Tryz.ntmps139
  go_wp2_with fail
  rw [HW0.out]
  clear HW0
  go_step3
  go_wp2_with fail
  go_step3
  go_wp2_with fail
  go_loopw [9] (fun i wr => ∃ k : Nat, k ≤ up.length ∧ i = .int .i64 (k : Int) ∧ wr = W0 ∧ Hid (underB M high up = underB M high (up.drop k))) (fun i _ => up.length - (intOf i).toNat)
  case atStart => exact ⟨0, Nat.zero_le _, rfl, rfl, hideG rfl⟩
  case round =>
    obtain ⟨k, hk, rfl, rfl, HU⟩ := hrel
    have p1 := P1.out
    have p2 := P2.out
    have plt := below_of_cell p1
    by_cases hlt : k < up.length
    · obtain ⟨b, off, rfl, hd⟩ : ∃ b off, a = some ⟨b, off, none⟩ ∧ wr.cell? ⟨b, off + k, none⟩ = some (.int .i64 (up.getD k 0)) := by
        obtain ⟨a', c', e, hc⟩ := HI.out
        simp only [Value.slice.injEq, true_and] at e
        obtain ⟨rfl, rfl⟩ := e
        obtain ⟨b, off, rfl, hd⟩ := hc (by omega)
        exact ⟨b, off, rfl, hd k hlt⟩
      have hdlt := below_of_cell hd
      have HN := hideG (underB_at (M := M) (high := high) hlt)
      have HC := hideG (contains_any M _ (up.getD k 0) wr HM.out hm)
      generalize up.getD k 0 = x at *
      cases hc : containsB M x
      · rw [hc] at HC
        cases hx : (x == high)
        · have HE := hideG (show underB M high up = underB M high (up.drop (k + 1)) by rw [HU.out, HN.out, hc, hx]; rfl)
          clear hc
          go_wp2_with fail
          refine HC.out.mono ?_
          rintro e wz ⟨rfl, hwz⟩
          obtain rfl : _ = wz := hwz.symm
          go_wp2_with fail
          go_roundw
          case rel => exact ⟨k + 1, by omega, by go_num, by first | rfl | trivial, HE⟩
          case measure => simp [intOf]; omega
        · have HE := hideG (show underB M high up = false by rw [HU.out, HN.out, hc, hx]; rfl)
          clear hc
          go_wp2_with fail
          refine HC.out.mono ?_
          rintro e wz ⟨rfl, hwz⟩
          obtain rfl : _ = wz := hwz.symm
          go_wp2_with fail
          (first | go_ret | (rw [Exit.noGoto_ret]; go_ret))
          exact ⟨ret_bool HE.out.symm, HB0.out⟩
      · rw [hc] at HC
        have HE := hideG (show underB M high up = true by rw [HU.out, HN.out, hc]; rfl)
        clear hc
        go_wp2_with fail
        refine HC.out.mono ?_
        rintro e wz ⟨rfl, hwz⟩
        obtain rfl : _ = wz := hwz.symm
        go_wp2_with fail
        (first | go_ret | (rw [Exit.noGoto_ret]; go_ret))
        exact ⟨ret_bool HE.out.symm, HB0.out⟩
    · have hke : up.drop k = [] := List.drop_eq_nil_of_le (by omega)
      have HE := hideG (show underB M high up = false by rw [HU.out, hke]; rfl)
      go_wp2_with fail
      (first | go_ret | (rw [Exit.noGoto_ret]; go_ret))
      exact ⟨ret_bool HE.out.symm, HB0.out⟩
end Go.Proofs.YtclhimodopgeoaaGreat

