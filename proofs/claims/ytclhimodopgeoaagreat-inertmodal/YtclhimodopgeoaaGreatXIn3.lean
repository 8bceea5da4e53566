/- Package inert: whether a node is inert; Is; All. -/
import Derived.Test.YtclhimodopgeoaaGreatXIn2
namespace Go.Proofs.YtclhimodopgeoaaGreat
open Go.RowKit

def upI6 (T : List Nd) (n : Nat) : List Int := castL (upF T n)
theorem fupI_node {T : List Nd} (hm : mayB T = true) {n : Nat} (hn : n < T.length) : fupI T (n : Int) = upI6 T n := by
  have hk : knownB T [(n : Int)] = true := by
    unfold knownB
    simp [hm, isNodeB, hn]
  unfold fupI upI6
  rw [hk]
  simp
theorem upI6_len {T : List Nd} (hm : mayB T = true) {n : Nat} (hn : n < T.length) : (upI6 T n).length ≤ 64 ∧ 0 < (upI6 T n).length ∧ (upI6 T n).getD 0 0 = (n : Int) := by
  have h1 := upF_le hm hn
  have h2 := (mayB_pos hm).2
  obtain ⟨r, hr⟩ := upF_ne T n
  unfold upI6 castL
  rw [hr] at h1 ⊢
  simp only [List.length_map, List.length_cons, List.map_cons] at h1 ⊢
  exact ⟨by omega, by omega, rfl⟩
/-- Is a node inert? -/
def inB (V : Vw) (n : Nat) : Bool := blockedB (highV V) (upI6 V.tree n) || underB (markL V.tree V.tree.length) (highV V) (upI6 V.tree n)
set_option maxRecDepth 100000 in
set_option maxHeartbeats 4000000 in
theorem iinert_any (T : List Nd) (hm : mayB T = true) (hS : Sane T) (high : Int) (M : List Int) (tv mv : Value) (n : Nat) (hn : n < T.length) (w : World) (hT : TreeAt w tv T) (hM : IntsAt w mv M) (hml : M.length ≤ 1000000) :
    Calls Tryz.prog 107 #[.agg #[tv, .int .i64 high, mv], .int .i64 (n : Int)] w fun e w' => e = .returned (.bool (blockedB high (upI6 T n) || underB M high (upI6 T n))) ∧ Below w.heap.size w w' := by
  obtain ⟨ta, tc, rfl⟩ := hT.shape
  obtain ⟨ma, mc, rfl⟩ := hM.shape
  obtain ⟨hu1, hu2, _⟩ := upI6_len hm hn
  obtain ⟨W0, hW0⟩ : ∃ W0, w.alloc (.cells #[.slice ta T.length tc, .int .i64 high, .slice ma M.length mc] 91) = W0 := ⟨_, rfl⟩
  have HB0 := hideG (show Below w.heap.size w W0 by rw [← hW0]; exact alB _ _)
  have HX := hideG (show Box3 W0 w.heap.size (.slice ta T.length tc) (.int .i64 high) (.slice ma M.length mc) by rw [← hW0]; exact Box3.new _ _ _ _ _)
  have HUP := hideG (flatUp_any T hS _ (n : Int) W0 (hT.below HB0.out))
  rw [fupI_node hm hn] at HUP
  have HM := hideG (hM.below HB0.out)
  have HW0 := hideG hW0
  clear hW0 hT hM hS
  generalize upI6 T n = up at *
  have c0 := HX.out.c0
  have clt := HX.out.lt
  cases hb : blockedB high up
  all_goals
    go_enter Tryz.func107, Tryz.ntmps107
    go_wp2_with fail
    rw [HW0.out]
    refine HUP.out.mono ?_
    rintro e w1 ⟨ua, uc, rfl, hrow, hb1⟩
    have HI := hideG (ownsRow_ints hrow)
    have HB1 := hideG (HB0.out.trans (hb1.mono HB0.out.size))
    have HX1 := hideG (HX.out.call hb1)
    have HM1 := hideG (HM.out.below hb1)
    have HBL := hideG (blocked_any high up _ w1 (ownsRow_ints hrow) hu2 (by omega))
    rw [hb] at HBL
    clear hrow hb1 c0 clt
    have c0 := HX1.out.c0
    have c1 := HX1.out.c1
    have c2 := HX1.out.c2
    have clt := HX1.out.lt
    go_wp2_with fail
    refine HBL.out.mono ?_
    rintro e wz ⟨rfl, hwz⟩
    obtain rfl : _ = wz := hwz.symm
    go_wp2_with fail
    first
    | (go_ret; exact ⟨ret_bool (by simp), HB1.out⟩)
    | (refine (underMark_any _ _ _ high M up _ _ _ HM1.out HI.out hml (by omega)).mono ?_
       rintro e w2 ⟨rfl, hb2⟩
       have HB2 := hideG (HB1.out.trans (hb2.mono HB1.out.size))
       clear hb2
       go_wp2_with fail
       go_ret
       exact ⟨ret_bool (by simp), HB2.out⟩)
set_option maxRecDepth 100000 in
set_option maxHeartbeats 4000000 in
theorem iis_any (tv ov mv pv qv : Value) (V : Vw) (n : Int) (w : World) (hV : ViewAt w tv ov mv pv qv V) (hS : Sane V.tree) (hl : smallL V) :
    Calls Tryz.prog 55 #[.agg #[tv, ov, mv, pv, qv], .int .i64 n] w fun e w' => e = .returned (.bool (knownV V n && inB V n.toNat)) ∧ Below w.heap.size w w' := by
  have HVV := hideG hV
  obtain ⟨hT, hO, hM, hP, hQ⟩ := hV
  obtain ⟨ta, tc, rfl⟩ := hT.shape
  obtain ⟨oa, oc, rfl⟩ := hO.shape
  obtain ⟨ma, mc, rfl⟩ := hM.shape
  obtain ⟨pa, pc, rfl⟩ := hP.shape
  obtain ⟨qa, qc, rfl⟩ := hQ.shape
  obtain ⟨W0, hW0⟩ : ∃ W0, w.alloc (.cells #[.slice ta V.tree.length tc, .slice oa V.op.length oc, .slice ma V.modal.length mc, .slice pa V.pops.length pc, .slice qa V.top.length qc] 27) = W0 := ⟨_, rfl⟩
  have HB0 := hideG (show Below w.heap.size w W0 by rw [← hW0]; exact alB _ _)
  have BX := hideG (show BoxV W0 w.heap.size _ _ _ _ _ by rw [← hW0]; exact BoxV.new _ _ _ _ _ _ _)
  have HV0 := hideG (HVV.out.below HB0.out)
  have HK := hideG (iknown_any _ _ _ _ _ V n W0 HV0.out hS hl)
  have HS := hideG hS
  have HL := hideG hl
  have HW0 := hideG hW0
  clear hW0 hT hO hM hP hQ hS hl
  cases hk : knownV V n
  · rw [hk] at HK
    go_enter Tryz.func55, Tryz.ntmps55
    go_wp2_with fail
    rw [HW0.out]
    refine HK.out.mono ?_
    rintro e w1 ⟨rfl, hb1⟩
    have HB1 := hideG (HB0.out.trans (hb1.mono HB0.out.size))
    clear hb1
    go_wp2_with fail
    go_ret
    exact ⟨ret_bool (by simp), HB1.out⟩
  · rw [hk] at HK
    have HKF := hideG hk
    unfold knownV at hk
    simp only [Bool.and_eq_true, beq_iff_eq, decide_eq_true_eq] at hk
    obtain ⟨hck, hn0, hn1⟩ := hk
    obtain ⟨m, rfl⟩ : ∃ m : Nat, n = (m : Int) := ⟨n.toNat, by omega⟩
    have HCK := hideG hck
    have hmay := hideG (check_iff.mp hck).1
    have hml := markL_len V.tree V.tree.length
    have htl := (mayB_pos hmay.out).2
    clear hck hn0
    go_enter Tryz.func55, Tryz.ntmps55
    go_wp2_with fail
    rw [HW0.out]
    refine HK.out.mono ?_
    rintro e w1 ⟨rfl, hb1⟩
    have HB1 := hideG (HB0.out.trans (hb1.mono HB0.out.size))
    have BX1 := hideG (BX.out.below hb1)
    have HV1 := hideG (HV0.out.below hb1)
    clear hb1 HK
    have p0 := BX1.out.c0
    have p1 := BX1.out.c1
    have p2 := BX1.out.c2
    have p3 := BX1.out.c3
    have p4 := BX1.out.c4
    have plt := BX1.out.lt
    go_wp2_with fail
    refine (ijudge_any _ _ _ _ _ V w1 HV1.out HS.out HL.out HCK.out).mono ?_
    rintro e w2 ⟨na, nc, rfl, hI2, hb2⟩
    have HB2 := hideG (HB1.out.trans (hb2.mono HB1.out.size))
    have HV2 := hideG (HV1.out.below hb2)
    have HI2 := hideG hI2
    clear hb2 hI2 p0 p1 p2 p3 p4 plt
    go_wp2_with fail
    refine (iinert_any V.tree hmay.out HS.out (highV V) _ _ _ m (by omega) w2 HV2.out.tree HI2.out (by omega)).mono ?_
    rintro e w3 ⟨rfl, hb3⟩
    have HB3 := hideG (HB2.out.trans (hb3.mono HB2.out.size))
    clear hb3
    go_wp2_with fail
    go_ret
    exact ⟨ret_bool (by rw [Bool.true_and, Int.toNat_natCast]; rfl), HB3.out⟩
def allIn (V : Vw) (k : Nat) : List Int := castL ((List.range k).filter (inB V))
theorem allIn_succ (V : Vw) (k : Nat) : allIn V (k + 1) = allIn V k ++ (if inB V k then [(k : Int)] else []) := by
  unfold allIn castL
  rw [List.range_succ, List.filter_append, List.map_append]
  congr 1
  cases h : inB V k <;> simp [h]
theorem allIn_len (V : Vw) (k : Nat) : (allIn V k).length ≤ k := by
  unfold allIn castL
  rw [List.length_map]
  exact Nat.le_trans (List.length_filter_le _ _) (by simp)
def allV (V : Vw) : List Int := if knownV V 0 then allIn V V.tree.length else []
set_option maxRecDepth 100000 in
set_option maxHeartbeats 4000000 in
theorem iall_any (tv ov mv pv qv : Value) (V : Vw) (w : World) (hV : ViewAt w tv ov mv pv qv V) (hS : Sane V.tree) (hl : smallL V) :
    Calls Tryz.prog 57 #[.agg #[tv, ov, mv, pv, qv]] w fun e w' => ∃ a c, e = .returned (.slice a (allV V).length c) ∧ IntsAt w' (.slice a (allV V).length c) (allV V) ∧ Below w.heap.size w w' := by
  obtain ⟨i3, hi3, hz30, hz31, hz32⟩ := info_parts infoT3
  have HVV := hideG hV
  obtain ⟨hT, hO, hM, hP, hQ⟩ := hV
  obtain ⟨ta, tc, rfl⟩ := hT.shape
  obtain ⟨oa, oc, rfl⟩ := hO.shape
  obtain ⟨ma, mc, rfl⟩ := hM.shape
  obtain ⟨pa, pc, rfl⟩ := hP.shape
  obtain ⟨qa, qc, rfl⟩ := hQ.shape
  obtain ⟨W0, hW0⟩ : ∃ W0, w.alloc (.cells #[.slice ta V.tree.length tc, .slice oa V.op.length oc, .slice ma V.modal.length mc, .slice pa V.pops.length pc, .slice qa V.top.length qc] 27) = W0 := ⟨_, rfl⟩
  have HB0 := hideG (show Below w.heap.size w W0 by rw [← hW0]; exact alB _ _)
  have BX := hideG (show BoxV W0 w.heap.size _ _ _ _ _ by rw [← hW0]; exact BoxV.new _ _ _ _ _ _ _)
  have HV0 := hideG (HVV.out.below HB0.out)
  have HK := hideG (iknown_any _ _ _ _ _ V 0 W0 HV0.out hS hl)
  have HS := hideG hS
  have HL := hideG hl
  have HW0 := hideG hW0
  clear hW0 hT hO hM hP hQ hS hl
  unfold allV
  cases hk : knownV V 0
  · rw [hk] at HK
    simp only [Bool.false_eq_true, if_false]
    go_enter Tryz.func57, Tryz.ntmps57
    go_wp2_with fail
    rw [HW0.out]
    refine HK.out.mono ?_
    rintro e w1 ⟨rfl, hb1⟩
    have HB1 := hideG (HB0.out.trans (hb1.mono HB0.out.size))
    clear hb1
    go_wp2_with fail
    go_ret
    exact ⟨none, 0, rfl, ⟨none, 0, rfl, fun h => by simp at h⟩, HB1.out⟩
  · rw [hk] at HK
    simp only [if_true]
    unfold knownV at hk
    simp only [Bool.and_eq_true, beq_iff_eq, decide_eq_true_eq] at hk
    obtain ⟨hck, _, hn1⟩ := hk
    have HCK := hideG hck
    have hmay := hideG (check_iff.mp hck).1
    have hml := markL_len V.tree V.tree.length
    have htl := (mayB_pos hmay.out).2
    clear hck
    go_enter Tryz.func57, Tryz.ntmps57
    go_wp2_with fail
    rw [HW0.out]
    refine HK.out.mono ?_
    rintro e w1 ⟨rfl, hb1⟩
    have HB1 := hideG (HB0.out.trans (hb1.mono HB0.out.size))
    have BX1 := hideG (BX.out.below hb1)
    have HV1 := hideG (HV0.out.below hb1)
    clear hb1 HK
    have p0 := BX1.out.c0
    have p1 := BX1.out.c1
    have p2 := BX1.out.c2
    have p3 := BX1.out.c3
    have p4 := BX1.out.c4
    have plt := BX1.out.lt
    go_wp2_with fail
    refine (ijudge_any _ _ _ _ _ V w1 HV1.out HS.out HL.out HCK.out).mono ?_
    rintro e w2 ⟨na, nc, rfl, hI2, hb2⟩
    obtain ⟨W3, hW3⟩ : ∃ W3, w2.alloc (.cells #[.slice ta V.tree.length tc, .int .i64 (highV V), .slice na (markL V.tree V.tree.length).length nc] 91) = W3 := ⟨_, rfl⟩
    have hb3 : Below w1.heap.size w1 W3 := by rw [← hW3]; exact hb2.trans ((alB _ _).mono hb2.size)
    have HB3 := hideG (HB1.out.trans (hb3.mono HB1.out.size))
    have HV3 := hideG (HV1.out.below hb3)
    have BX3 := hideG (BX1.out.below hb3)
    have BX2 := hideG (BX1.out.below hb2)
    have HI3 := hideG (show IntsAt W3 _ _ by rw [← hW3]; exact hI2.below (alB _ _))
    have HJ3 := hideG (show Box3 W3 w2.heap.size (.slice ta V.tree.length tc) (.int .i64 (highV V)) (.slice na (markL V.tree V.tree.length).length nc) by rw [← hW3]; exact Box3.new _ _ _ _ _)
    have HW3 := hideG hW3
    clear hb2 hb3 hI2 hW3 p0 p1 p2 p3 p4 plt
    have p0 := BX2.out.c0
    have plt := BX2.out.lt
    go_wp2_with fail
    rw [HW3.out]
    clear HW3 p0 plt BX2
    go_loopw [4, 14] (fun o i wr => ∃ (k : Nat) (oa : Option Addr) (oc : Nat), k ≤ V.tree.length ∧ i = .int .i64 (k : Int) ∧ o = .slice oa (allIn V k).length oc ∧ wr.ownsRow W3.heap.size 3 1 (.slice oa (allIn V k).length oc) (allIn V k).length (intCells (allIn V k)) ∧ Below W3.heap.size W3 wr) (fun _ i _ => V.tree.length - (intOf i).toNat)
    case atStart => exact ⟨0, none, 0, Nat.zero_le _, rfl, rfl, World.ownsRow_nil _ _ _ _, Below.refl _ _⟩
    case round =>
      obtain ⟨k, oa', oc', hk, rfl, rfl, hown, hB⟩ := hrel
      have HOW := hideG hown
      have HBK := hideG hB
      have HJK := hideG (HJ3.out.call hB)
      clear hown hB
      by_cases hlt : k < V.tree.length
      · have c0 := HJK.out.c0
        have c1 := HJK.out.c1
        have c2 := HJK.out.c2
        have clt := HJK.out.lt
        have HAS := hideG (allIn_succ V k)
        have hal := allIn_len V k
        go_wp2_with fail
        refine (iinert_any V.tree hmay.out HS.out (highV V) _ _ _ k hlt wr (HV3.out.tree.below HBK.out) (HI3.out.below HBK.out) (by omega)).mono ?_
        rintro e w4 ⟨rfl, hb4⟩
        rw [show (blockedB (highV V) (upI6 V.tree k) || underB (markL V.tree V.tree.length) (highV V) (upI6 V.tree k)) = inB V k from rfl]
        have HOW4 := hideG (ownsRow_below HOW.out hb4 (fun j e => (HOW.out.lt j e).2))
        have HB4 := hideG (HBK.out.trans (hb4.mono HBK.out.size))
        clear hb4 c0 c1 c2 clt
        cases hin : inB V k
        · have HE := hideG (show allIn V (k + 1) = allIn V k by rw [HAS.out, hin]; simp)
          clear hin
          go_wp2_with fail
          go_roundw
          case rel => exact ⟨k + 1, oa', oc', by omega, by go_num, by rw [HE.out], by rw [HE.out]; exact HOW4.out, HB4.out⟩
          case measure => simp [intOf]; omega
        · have HE := hideG (show allIn V (k + 1) = allIn V k ++ [(k : Int)] by rw [HAS.out, hin]; simp)
          clear hin
          generalize allIn V k = cur at *
          go_wp2_with (at_builtin; refine wpList_append_any rfl (.tmp 20) (.tmp 22) 24 rfl W3.heap.size 3 i3 _ 1 8 Tryz.underlying24 hi3 hz30 hz31 hz32 rfl (by decide) _ cur.length (intCells cur) rfl (HOW4.out.alloc _) _ 1 [.int .i64 (k : Int)] rfl (row_new1 _ _) rfl ?h2 ?h3 ?h4 ?h5 ?_)
          case h2 => first | (intro y hy; simp at hy; subst hy; rfl) | rfl | simp
          case h3 => simp only [maxLen]; omega
          case h4 => omega
          case h5 => have := HB4.out.size; simp; omega
          intro v5 w5 ho5 hg5 hf5
          obtain ⟨a5, c5, rfl⟩ := ownsRow_shape ho5
          rw [intCells_snoc] at ho5
          have HB5 := hideG ((HB4.out.alloc HB4.out.size (.cells #[.int .i64 (k : Int)] 3)).grown hg5 (by have := HB4.out.size; simp; omega) (fun j e => (HOW4.out.lt j e).1))
          have HL5 := hideG (show (allIn V (k + 1)).length = cur.length + 1 by rw [HE.out]; simp)
          have HO5 := hideG ho5
          clear ho5 hg5 hf5
          go_wp2_with fail
          go_roundw
          case rel => exact ⟨k + 1, a5, c5, by omega, by go_num, by rw [HL5.out], by rw [HL5.out, HE.out]; exact HO5.out, HB5.out⟩
          case measure => simp [intOf]; omega
      · have hke : k = V.tree.length := by omega
        rw [hke] at HOW ⊢
        clear hke
        go_wp2_with fail
        go_ret
        exact ⟨oa', oc', rfl, ownsRow_ints HOW.out, HB3.out.trans (HBK.out.mono HB3.out.size)⟩
end Go.Proofs.YtclhimodopgeoaaGreat

