/- OrderList, walked. ShadeList, walked. The document's own Up, Above, List, Connected, Retarget and Host of layer 4. -/
import Derived.Test.YtgfdcllpmjhkeaaOrdL
namespace Go.Proofs.Ytgfdcllpmjhkeaa
open Go.RowKit

def cntP (p : Nat → Bool) (k : Nat) : Nat := ((List.range k).filter p).length
theorem cntP_true {p : Nat → Bool} {k : Nat} (h : p k = true) : cntP p (k + 1) = cntP p k + 1 := by
  unfold cntP; rw [List.range_succ, List.filter_append]; simp [h]
theorem cntP_false {p : Nat → Bool} {k : Nat} (h : p k = false) : cntP p (k + 1) = cntP p k := by
  unfold cntP; rw [List.range_succ, List.filter_append]; simp [h]
theorem cntP_le (p : Nat → Bool) (k : Nat) : cntP p k ≤ k := by
  have := List.length_filter_le p (List.range k)
  unfold cntP; simpa using this

end Go.Proofs.Ytgfdcllpmjhkeaa
namespace Go.Proofs.Ytgfdcllpmjhkeaa
open Go.RowKit

theorem slI_known {T : List Nd} (hm : mayB T = true) {n : Nat} (hn : n < T.length) : slI T (n : Int) = castL (sl T n) := by
  unfold slI; rw [known_of hm hn, if_pos rfl, Int.toNat_natCast]
theorem sl_short {T : List Nd} (m : Nat) (hm : mayB T = true) (h : m < T.length) : (sl T m).length ≤ 1000 := by
  have h1 := (forest4 hm).d_len h
  have h2 := mayB_pos hm
  omega
end Go.Proofs.Ytgfdcllpmjhkeaa
namespace Go.Proofs.Ytgfdcllpmjhkeaa
open Go.RowKit

theorem supN_le (T : List Nd) (n : Nat) : (supN T n).length ≤ T.length + 1 := by
  unfold supN; have := upsL_le T n; simp; omega
theorem supN_ne (T : List Nd) (n : Nat) : supN T n ≠ [] := by unfold supN; simp

set_option maxRecDepth 100000 in
set_option maxHeartbeats 2000000 in
theorem refUp4_any (T : List Nd) (hm : mayB T = true) (v : Value) (n : Nat) (hn : n < T.length) (w : World) (hT : TreeAt w v T) :
    Calls Try.prog 44 #[v, .int .i64 (n : Int)] w fun e w' => ∃ a c, e = .returned (.slice a (castL (supN T n)).length c) ∧ w'.ownsRow w.heap.size 3 1 (.slice a (castL (supN T n)).length c) (castL (supN T n)).length (intCells (castL (supN T n))) ∧ Below w.heap.size w w' := by
  obtain ⟨i3, hi3, hz30, hz31, hz32⟩ := info_parts infoT3
  obtain ⟨tb, to, tc, rfl, hct⟩ := hT.at (by omega)
  have HT := hideG hT
  have HM := hideG hm
  have hpos := mayB_pos hm
  clear hT hct hm
  go_enter Try.func44, Try.ntmps44
  go_wp2_with fail
  go_loopw [1, 5] (fun t o wr => ∃ (pre : List Nat) (oa : Option Addr) (oc : Nat), o = .slice oa (castL pre).length oc ∧ wr.ownsRow w.heap.size 3 1 (.slice oa (castL pre).length oc) (castL pre).length (intCells (castL pre)) ∧ Below w.heap.size w wr ∧ ((∃ q : Nat, q < T.length ∧ t = .int .i64 (q : Int) ∧ supN T n = pre ++ supN T q) ∨ (t = .int .i64 (-1) ∧ supN T n = pre)))
    (fun t _ _ => if intOf t = -1 then 0 else (upsL T (intOf t).toNat).length + 1)
  case atStart => exact ⟨[], none, 0, rfl, World.ownsRow_nil _ _ _ _, Below.refl _ _, .inl ⟨n, hn, rfl, rfl⟩⟩
  case round =>
    obtain ⟨pre, oa, oc, rfl, hown, hB, hrel⟩ := hrel
    have HOW := hideG hown
    have HB := hideG hB
    clear hown hB
    rcases hrel with ⟨q, hq, rfl, hp⟩ | ⟨rfl, hp⟩
    · have HP := hideG hp
      have hplen : (castL pre).length ≤ 100 := by
        have h1 := supN_le T n
        rw [hp, List.length_append] at h1
        rw [castL_length]; omega
      have hq1 : ((q : Int) != -1) = true := by simp
      clear hp
      have hsnoc : castL pre ++ [(q : Int)] = castL (pre ++ [q]) := by simp [castL]
      have HSN := hideG hsnoc
      clear hsnoc
      generalize hcur : castL pre = cur at *
      have hor : ∃ nx : Int, overI (nd T q) = nx ∧ ((∃ m : Nat, m < T.length ∧ nx = (m : Int) ∧ supN T q = q :: supN T m ∧ (upsL T m).length < (upsL T q).length) ∨ (nx = -1 ∧ supN T q = [q])) := by
        rcases over_cases HM.out hq with e | ⟨m, hml, hpm⟩
        · exact ⟨-1, by simpa using e, .inr ⟨rfl, by unfold supN; rw [upsL_none e]⟩⟩
        · exact ⟨m, hpm, .inl ⟨m, hml, rfl, by unfold supN; rw [(upsL_some HM.out hq hpm).1], by rw [(upsL_some HM.out hq hpm).1]; simp⟩⟩
      obtain ⟨nx, hnx, hor⟩ := hor
      have HNX := hideG hnx
      have HOR := hideG hor
      clear hnx hor
      go_wp2_with (at_builtin; refine wpList_append_any rfl (.tmp 8) (.tmp 10) 50 rfl w.heap.size 3 i3 _ 1 8 Try.underlying50 hi3 hz30 hz31 hz32 rfl (by decide) _ cur.length (intCells cur) rfl (HOW.out.alloc _) _ 1 [.int .i64 (q : Int)] rfl (row_new1 _ _) rfl ?h2 ?h3 ?h4 ?h5 ?_)
      case h2 => intro y hy; simp at hy; subst hy; rfl
      case h3 => simp only [maxLen]; omega
      case h4 => omega
      case h5 => have := HB.out.size; simp; omega
      intro v4 w4 ho4 hg4 hf4
      obtain ⟨a4, c4, rfl⟩ := ownsRow_shape ho4
      rw [intCells_snoc, HSN.out] at ho4
      have HB4 := hideG ((HB.out.alloc HB.out.size (.cells #[.int .i64 (q : Int)] 3)).grown hg4 (by have := HB.out.size; simp; omega) (fun j e => (HOW.out.lt j e).1))
      have hl4 : (castL (pre ++ [q])).length = cur.length + 1 := by rw [← HSN.out]; simp
      have HL4 := hideG hl4
      have HO4 := hideG ho4
      clear ho4 hg4 hf4 hl4
      go_wp2_with (go_at_call 68; refine (refUp_any T _ q _ (HT.out.below HB4.out) hq (by omega)).mono ?_; rintro e w5 ⟨rfl, hw5⟩; subst hw5; rw [HNX.out])
      go_roundw
      case rel =>
        refine ⟨pre ++ [q], a4, c4, by rw [HL4.out], by rw [HL4.out]; exact HO4.out, HB4.out, ?_⟩
        rcases HOR.out with ⟨m, hml, rfl, hpm, _⟩ | ⟨rfl, hpm⟩
        · exact .inl ⟨m, hml, rfl, by rw [HP.out, hpm]; simp⟩
        · exact .inr ⟨rfl, by rw [HP.out, hpm]⟩
      case measure =>
        have h2 : ¬ ((q : Int) = -1) := by omega
        rcases HOR.out with ⟨m, hml, rfl, hpm, hlt⟩ | ⟨rfl, hpm⟩
        · have h1 : ¬ ((m : Int) = -1) := by omega
          simp only [intOf, h1, h2, if_false, Int.toNat_natCast]; omega
        · simp [intOf, h2]
    · have HP := hideG hp
      clear hp
      go_wp2_with fail
      go_ret
      rw [HP.out]
      exact ⟨oa, oc, rfl, HOW.out, HB.out⟩


theorem aboveS_known {T : List Nd} (hm : mayB T = true) (a : Int) {b : Nat} (hb : b < T.length) : aboveS T a (b : Int) = containsB (castL (supN T b)) a := by
  unfold aboveS; rw [supI_known hm hb]

set_option maxHeartbeats 1000000 in
theorem refAbove4_any (T : List Nd) (hm : mayB T = true) (v : Value) (a : Int) (b : Nat) (hb : b < T.length) (w : World) (hT : TreeAt w v T) :
    Calls Try.prog 24 #[v, .int .i64 a, .int .i64 (b : Int)] w fun e w' => e = .returned (.bool (aboveS T a (b : Int))) ∧ Below w.heap.size w w' := by
  obtain ⟨tb, to, tc, rfl, _⟩ := hT.at (by omega)
  have HT := hideG hT
  have HM := hideG hm
  have HQ := hideG (aboveS_known hm a hb)
  have hpos := mayB_pos hm
  have hl : (castL (supN T b)).length ≤ 1000000 := by rw [castL_length]; have := supN_le T b; omega
  clear hT hm
  go_enter Try.func24, Try.ntmps24
  go_wp2_with (first | (go_at_call 44; refine (refUp4_any T HM.out _ b hb _ HT.out).mono ?_; rintro e w1 ⟨a1, c1, rfl, ho1, hb1⟩; have HI := hideG (ownsRow_ints ho1); have HB1 := hideG hb1; clear ho1 hb1; generalize castL (supN T b) = l at *) | (go_at_call 43; refine (refIn_any l _ _ _ HI.out hl).mono ?_; rintro e w3 ⟨rfl, hw⟩; subst hw))
  go_ret
  exact ⟨ret_bool HQ.out.symm, HB1.out⟩
set_option maxRecDepth 100000 in
set_option maxHeartbeats 2000000 in
theorem refRet4_in (T : List Nd) (hm : mayB T = true) (tb to tc : Nat) (b : Nat) (hb : b < T.length) : ∀ (d a : Nat), (upsL T a).length < d → a < T.length → ∀ (w : World), TreeAt w (.slice (some ⟨tb, to, none⟩) T.length tc) T →
    Calls Try.prog 21 #[.slice (some ⟨tb, to, none⟩) T.length tc, .int .i64 (a : Int), .int .i64 (b : Int)] w fun e w' => e = .returned (.int .i64 (ret T (supI T (b : Int)) a : Int)) ∧ Below w.heap.size w w'
  | 0, a, h, _ => by omega
  | d + 1, a, hd, ha => by
    intro w hT
    have IH := hideG (refRet4_in T hm tb to tc b hb d)
    obtain ⟨htl, _, hspl⟩ := sup_split hm ha
    obtain ⟨tb', to', tc', htv, hct⟩ := hT.at (by omega)
    simp only [Value.slice.injEq, Option.some.injEq, Addr.mk.injEq, and_true, true_and] at htv
    obtain ⟨⟨rfl, rfl⟩, rfl⟩ := htv
    obtain ⟨kv, av, hN⟩ := hct _ htl
    have G0 := hideG hN.kind
    have G4 := hideG hN.host
    have HT := hideG hT
    have HM := hideG hm
    have hpos := mayB_pos hm
    clear hT hm hct hN
    cases hk : ((nd T (topN T a)).kind != 3)
    · cases hcn : aboveS T (topN T a : Int) (b : Int)
      · rcases hspl with ⟨h3, _⟩ | ⟨h3, g, hgl, hh, heq⟩
        · exact absurd h3 (by simpa using hk)
        · have hlt := upsL_host heq
          have HST := hideG (ret_step HM.out (H := supI T (b : Int)) (by rw [hk]; exact hcn) hgl hh hlt)
          have HCN := hideG hcn
          have g4 := G4.out
          rw [hh] at g4
          have HG4 := hideG g4
          clear h3 hh heq hcn g4
          go_enter Try.func21, Try.ntmps21
          go_wp2_with (first | (go_at_call 23; refine (refTop3_any T HM.out _ a ha _ HT.out).mono ?_; rintro e w1 ⟨rfl, hb1⟩; have HB1 := hideG hb1; have g0 := cell_below hb1 G0.out; clear hb1) | (go_at_call 24; refine (refAbove4_any T HM.out _ _ b hb _ (HT.out.below HB1.out)).mono ?_; rintro e w2 ⟨rfl, hb2⟩; rw [HCN.out]; have HB2 := hideG (HB1.out.trans (hb2.mono HB1.out.size)); have g4 := cell_below HB2.out HG4.out; clear hb2) | (go_at_call 21; refine (IH.out g (by omega) hgl _ (HT.out.below HB2.out)).mono ?_; rintro e w3 ⟨rfl, hb3⟩; have HB3 := hideG (HB2.out.trans (hb3.mono HB2.out.size)); clear hb3))
          go_ret
          exact ⟨ret_int (by rw [HST.out]), HB3.out⟩
      · have HST := hideG (ret_stop (T := T) (H := supI T (b : Int)) (a := a) (by rw [hk]; exact hcn))
        have HCN := hideG hcn
        clear hspl hcn
        go_enter Try.func21, Try.ntmps21
        go_wp2_with (first | (go_at_call 23; refine (refTop3_any T HM.out _ a ha _ HT.out).mono ?_; rintro e w1 ⟨rfl, hb1⟩; have HB1 := hideG hb1; have g0 := cell_below hb1 G0.out; clear hb1) | (go_at_call 24; refine (refAbove4_any T HM.out _ _ b hb _ (HT.out.below HB1.out)).mono ?_; rintro e w2 ⟨rfl, hb2⟩; rw [HCN.out]; have HB2 := hideG (HB1.out.trans (hb2.mono HB1.out.size)); clear hb2))
        go_ret
        exact ⟨ret_int (by rw [HST.out]), HB2.out⟩
    · have HST := hideG (ret_stop (T := T) (H := supI T (b : Int)) (a := a) (by rw [hk]; rfl))
      clear hspl
      go_enter Try.func21, Try.ntmps21
      go_wp2_with (go_at_call 23; refine (refTop3_any T HM.out _ a ha _ HT.out).mono ?_; rintro e w1 ⟨rfl, hb1⟩; have HB1 := hideG hb1; have g0 := cell_below hb1 G0.out; clear hb1)
      go_ret
      exact ⟨ret_int (by rw [HST.out]), HB1.out⟩
theorem refRet4_any (T : List Nd) (hm : mayB T = true) (v : Value) (a b : Nat) (ha : a < T.length) (hb : b < T.length) (w : World) (hT : TreeAt w v T) :
    Calls Try.prog 21 #[v, .int .i64 (a : Int), .int .i64 (b : Int)] w fun e w' => e = .returned (.int .i64 (ret T (supI T (b : Int)) a : Int)) ∧ Below w.heap.size w w' := by
  obtain ⟨tb, to, tc, rfl, _⟩ := hT.at (by omega)
  exact refRet4_in T hm tb to tc b hb ((upsL T a).length + 1) a (by omega) ha w hT

end Go.Proofs.Ytgfdcllpmjhkeaa
