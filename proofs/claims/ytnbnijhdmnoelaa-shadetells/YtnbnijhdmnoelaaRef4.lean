/- The document's own Up, Above, List, Connected, Retarget and Host of layer 4. -/
import Derived.Test.YtnbnijhdmnoelaaSList
namespace Go.Proofs.Ytnbnijhdmnoelaa
open Go.RowKit

theorem supN_le (T : List Nd) (n : Nat) : (supN T n).length ≤ T.length + 1 := by
  unfold supN; have := upsL_le T n; simp; omega
theorem supN_ne (T : List Nd) (n : Nat) : supN T n ≠ [] := by unfold supN; simp

set_option maxRecDepth 100000 in
set_option maxHeartbeats 2000000 in
theorem refUp4_any (T : List Nd) (hm : mayB T = true) (v : Value) (n : Nat) (hn : n < T.length) (w : World) (hT : TreeAt w v T) :
    Calls Try.prog 50 #[v, .int .i64 (n : Int)] w fun e w' => ∃ a c, e = .returned (.slice a (castL (supN T n)).length c) ∧ w'.ownsRow w.heap.size 3 1 (.slice a (castL (supN T n)).length c) (castL (supN T n)).length (intCells (castL (supN T n))) ∧ Below w.heap.size w w' := by
  obtain ⟨i3, hi3, hz30, hz31, hz32⟩ := info_parts infoT3
  obtain ⟨tb, to, tc, rfl, hct⟩ := hT.at (by omega)
  have HT := hideG hT
  have HM := hideG hm
  have hpos := mayB_pos hm
  clear hT hct hm
  go_enter Try.func50, Try.ntmps50
  go_wp2_with fail
  go_loopw [1, 5] (fun t o wr => ∃ (pre : List Nat) (oa : Option Addr) (oc : Nat), o = .slice oa (castL pre).length oc ∧ wr.ownsRow w.heap.size 3 1 (.slice oa (castL pre).length oc) (castL pre).length (intCells (castL pre)) ∧ Below w.heap.size w wr ∧ ((∃ q : Nat, q < T.length ∧ t = .int .i64 (q : Int) ∧ supN T n = pre ++ supN T q) ∨ (t = .int .i64 (-1) ∧ supN T n = pre)))
    (fun t _ _ => if intOf t = -1 then 0 else (upsL T (intOf t).toNat).length + 1)
  case atStart => exact ⟨[], none, 0, rfl, World.ownsRow_nil _ _ _ _, Below.refl _ _, .inl ⟨n, hn, rfl, rfl⟩⟩
  case round =>
    obtain ⟨pre, oa, oc, rfl, hown, hB, hrel⟩ := hrel
    have HOW := hideG hown
    have HB := hideG hB
    clear hown hB
    rcases hrel with ⟨q, hq, rfl, hp⟩ | ⟨rfl, hp⟩
    · have HP := hideG hp
      have hplen : (castL pre).length ≤ 100 := by
        have h1 := supN_le T n
        rw [hp, List.length_append] at h1
        rw [castL_length]; omega
      have hq1 : ((q : Int) != -1) = true := by simp
      clear hp
      have hsnoc : castL pre ++ [(q : Int)] = castL (pre ++ [q]) := by simp [castL]
      have HSN := hideG hsnoc
      clear hsnoc
      generalize hcur : castL pre = cur at *
      have hor : ∃ nx : Int, overI (nd T q) = nx ∧ ((∃ m : Nat, m < T.length ∧ nx = (m : Int) ∧ supN T q = q :: supN T m ∧ (upsL T m).length < (upsL T q).length) ∨ (nx = -1 ∧ supN T q = [q])) := by
        rcases over_cases HM.out hq with e | ⟨m, hml, hpm⟩
        · exact ⟨-1, by simpa using e, .inr ⟨rfl, by unfold supN; rw [upsL_none e]⟩⟩
        · exact ⟨m, hpm, .inl ⟨m, hml, rfl, by unfold supN; rw [(upsL_some HM.out hq hpm).1], by rw [(upsL_some HM.out hq hpm).1]; simp⟩⟩
      obtain ⟨nx, hnx, hor⟩ := hor
      have HNX := hideG hnx
      have HOR := hideG hor
      clear hnx hor
      go_wp2_with (at_builtin; refine wpList_append_any rfl (.tmp 8) (.tmp 10) 28 rfl w.heap.size 3 i3 _ 1 8 Try.underlying28 hi3 hz30 hz31 hz32 rfl (by decide) _ cur.length (intCells cur) rfl (HOW.out.alloc _) _ 1 [.int .i64 (q : Int)] rfl (row_new1 _ _) rfl ?h2 ?h3 ?h4 ?h5 ?_)
      case h2 => intro y hy; simp at hy; subst hy; rfl
      case h3 => simp only [maxLen]; omega
      case h4 => omega
      case h5 => have := HB.out.size; simp; omega
      intro v4 w4 ho4 hg4 hf4
      obtain ⟨a4, c4, rfl⟩ := ownsRow_shape ho4
      rw [intCells_snoc, HSN.out] at ho4
      have HB4 := hideG ((HB.out.alloc HB.out.size (.cells #[.int .i64 (q : Int)] 3)).grown hg4 (by have := HB.out.size; simp; omega) (fun j e => (HOW.out.lt j e).1))
      have hl4 : (castL (pre ++ [q])).length = cur.length + 1 := by rw [← HSN.out]; simp
      have HL4 := hideG hl4
      have HO4 := hideG ho4
      clear ho4 hg4 hf4 hl4
      go_wp2_with (go_at_call 87; refine (refUp_any T _ q _ (HT.out.below HB4.out) hq (by omega)).mono ?_; rintro e w5 ⟨rfl, hw5⟩; subst hw5; rw [HNX.out])
      go_roundw
      case rel =>
        refine ⟨pre ++ [q], a4, c4, by rw [HL4.out], by rw [HL4.out]; exact HO4.out, HB4.out, ?_⟩
        rcases HOR.out with ⟨m, hml, rfl, hpm, _⟩ | ⟨rfl, hpm⟩
        · exact .inl ⟨m, hml, rfl, by rw [HP.out, hpm]; simp⟩
        · exact .inr ⟨rfl, by rw [HP.out, hpm]⟩
      case measure =>
        have h2 : ¬ ((q : Int) = -1) := by omega
        rcases HOR.out with ⟨m, hml, rfl, hpm, hlt⟩ | ⟨rfl, hpm⟩
        · have h1 : ¬ ((m : Int) = -1) := by omega
          simp only [intOf, h1, h2, if_false, Int.toNat_natCast]; omega
        · simp [intOf, h2]
    · have HP := hideG hp
      clear hp
      go_wp2_with fail
      go_ret
      rw [HP.out]
      exact ⟨oa, oc, rfl, HOW.out, HB.out⟩


theorem aboveS_known {T : List Nd} (hm : mayB T = true) (a : Int) {b : Nat} (hb : b < T.length) : aboveS T a (b : Int) = containsB (castL (supN T b)) a := by
  unfold aboveS; rw [supI_known hm hb]

set_option maxHeartbeats 1000000 in
theorem refAbove4_any (T : List Nd) (hm : mayB T = true) (v : Value) (a : Int) (b : Nat) (hb : b < T.length) (w : World) (hT : TreeAt w v T) :
    Calls Try.prog 52 #[v, .int .i64 a, .int .i64 (b : Int)] w fun e w' => e = .returned (.bool (aboveS T a (b : Int))) ∧ Below w.heap.size w w' := by
  obtain ⟨tb, to, tc, rfl, _⟩ := hT.at (by omega)
  have HT := hideG hT
  have HM := hideG hm
  have HQ := hideG (aboveS_known hm a hb)
  have hpos := mayB_pos hm
  have hl : (castL (supN T b)).length ≤ 1000000 := by rw [castL_length]; have := supN_le T b; omega
  clear hT hm
  go_enter Try.func52, Try.ntmps52
  go_wp2_with (first | (go_at_call 50; refine (refUp4_any T HM.out _ b hb _ HT.out).mono ?_; rintro e w1 ⟨a1, c1, rfl, ho1, hb1⟩; have HI := hideG (ownsRow_ints ho1); have HB1 := hideG hb1; clear ho1 hb1; generalize castL (supN T b) = l at *) | (go_at_call 38; refine (refIn_any l _ _ _ HI.out hl).mono ?_; rintro e w3 ⟨rfl, hw⟩; subst hw))
  go_ret
  exact ⟨ret_bool HQ.out.symm, HB1.out⟩
set_option maxHeartbeats 1000000 in
theorem refConn4_any (T : List Nd) (hm : mayB T = true) (v : Value) (b : Nat) (hb : b < T.length) (w : World) (hT : TreeAt w v T) :
    Calls Try.prog 53 #[v, .int .i64 (b : Int)] w fun e w' => e = .returned (.bool (aboveS T 0 (b : Int))) ∧ Below w.heap.size w w' := by
  obtain ⟨tb, to, tc, rfl, _⟩ := hT.at (by omega)
  have HT := hideG hT
  have HM := hideG hm
  clear hT hm
  go_enter Try.func53, Try.ntmps53
  go_wp2_with (go_at_call 52; refine (refAbove4_any T HM.out _ 0 b hb _ HT.out).mono ?_; rintro e w1 ⟨rfl, hb1⟩; have HB1 := hideG hb1; clear hb1)
  go_ret
  exact ⟨rfl, HB1.out⟩
set_option maxHeartbeats 1000000 in
theorem refHost4_any (T : List Nd) (hm : mayB T = true) (v : Value) (n : Nat) (hn : n < T.length) (w : World) (hT : TreeAt w v T) :
    Calls Try.prog 55 #[v, .int .i64 (n : Int)] w fun e w' => e = .returned (.int .i64 (nd T (topN T n)).host) ∧ Below w.heap.size w w' := by
  obtain ⟨tb, to, tc, rfl, hct⟩ := hT.at (by omega)
  have htl := top_lt hm hn
  obtain ⟨kv, av, hN⟩ := hct _ htl
  have G4 := hideG hN.host
  have HT := hideG hT
  have HM := hideG hm
  have hpos := mayB_pos hm
  clear hT hm hct hN
  go_enter Try.func55, Try.ntmps55
  go_wp2_with (go_at_call 37; refine (refTop3_any T HM.out _ n hn _ HT.out).mono ?_; rintro e w1 ⟨rfl, hb1⟩; have HB1 := hideG hb1; have g4 := cell_below hb1 G4.out; clear hb1)
  go_ret
  exact ⟨rfl, HB1.out⟩

set_option maxRecDepth 100000 in
set_option maxHeartbeats 2000000 in
theorem refRet4_in (T : List Nd) (hm : mayB T = true) (tb to tc : Nat) (b : Nat) (hb : b < T.length) : ∀ (d a : Nat), (upsL T a).length < d → a < T.length → ∀ (w : World), TreeAt w (.slice (some ⟨tb, to, none⟩) T.length tc) T →
    Calls Try.prog 54 #[.slice (some ⟨tb, to, none⟩) T.length tc, .int .i64 (a : Int), .int .i64 (b : Int)] w fun e w' => e = .returned (.int .i64 (ret T (supI T (b : Int)) a : Int)) ∧ Below w.heap.size w w'
  | 0, a, h, _ => by omega
  | d + 1, a, hd, ha => by
    intro w hT
    have IH := hideG (refRet4_in T hm tb to tc b hb d)
    obtain ⟨htl, _, hspl⟩ := sup_split hm ha
    obtain ⟨tb', to', tc', htv, hct⟩ := hT.at (by omega)
    simp only [Value.slice.injEq, Option.some.injEq, Addr.mk.injEq, and_true, true_and] at htv
    obtain ⟨⟨rfl, rfl⟩, rfl⟩ := htv
    obtain ⟨kv, av, hN⟩ := hct _ htl
    have G0 := hideG hN.kind
    have G4 := hideG hN.host
    have HT := hideG hT
    have HM := hideG hm
    have hpos := mayB_pos hm
    clear hT hm hct hN
    cases hk : ((nd T (topN T a)).kind != 3)
    · cases hcn : aboveS T (topN T a : Int) (b : Int)
      · rcases hspl with ⟨h3, _⟩ | ⟨h3, g, hgl, hh, heq⟩
        · exact absurd h3 (by simpa using hk)
        · have hlt := upsL_host heq
          have HST := hideG (ret_step HM.out (H := supI T (b : Int)) (by rw [hk]; exact hcn) hgl hh hlt)
          have HCN := hideG hcn
          have g4 := G4.out
          rw [hh] at g4
          have HG4 := hideG g4
          clear h3 hh heq hcn g4
          go_enter Try.func54, Try.ntmps54
          go_wp2_with (first | (go_at_call 37; refine (refTop3_any T HM.out _ a ha _ HT.out).mono ?_; rintro e w1 ⟨rfl, hb1⟩; have HB1 := hideG hb1; have g0 := cell_below hb1 G0.out; clear hb1) | (go_at_call 52; refine (refAbove4_any T HM.out _ _ b hb _ (HT.out.below HB1.out)).mono ?_; rintro e w2 ⟨rfl, hb2⟩; rw [HCN.out]; have HB2 := hideG (HB1.out.trans (hb2.mono HB1.out.size)); have g4 := cell_below HB2.out HG4.out; clear hb2) | (go_at_call 54; refine (IH.out g (by omega) hgl _ (HT.out.below HB2.out)).mono ?_; rintro e w3 ⟨rfl, hb3⟩; have HB3 := hideG (HB2.out.trans (hb3.mono HB2.out.size)); clear hb3))
          go_ret
          exact ⟨ret_int (by rw [HST.out]), HB3.out⟩
      · have HST := hideG (ret_stop (T := T) (H := supI T (b : Int)) (a := a) (by rw [hk]; exact hcn))
        have HCN := hideG hcn
        clear hspl hcn
        go_enter Try.func54, Try.ntmps54
        go_wp2_with (first | (go_at_call 37; refine (refTop3_any T HM.out _ a ha _ HT.out).mono ?_; rintro e w1 ⟨rfl, hb1⟩; have HB1 := hideG hb1; have g0 := cell_below hb1 G0.out; clear hb1) | (go_at_call 52; refine (refAbove4_any T HM.out _ _ b hb _ (HT.out.below HB1.out)).mono ?_; rintro e w2 ⟨rfl, hb2⟩; rw [HCN.out]; have HB2 := hideG (HB1.out.trans (hb2.mono HB1.out.size)); clear hb2))
        go_ret
        exact ⟨ret_int (by rw [HST.out]), HB2.out⟩
    · have HST := hideG (ret_stop (T := T) (H := supI T (b : Int)) (a := a) (by rw [hk]; rfl))
      clear hspl
      go_enter Try.func54, Try.ntmps54
      go_wp2_with (go_at_call 37; refine (refTop3_any T HM.out _ a ha _ HT.out).mono ?_; rintro e w1 ⟨rfl, hb1⟩; have HB1 := hideG hb1; have g0 := cell_below hb1 G0.out; clear hb1)
      go_ret
      exact ⟨ret_int (by rw [HST.out]), HB1.out⟩
theorem refRet4_any (T : List Nd) (hm : mayB T = true) (v : Value) (a b : Nat) (ha : a < T.length) (hb : b < T.length) (w : World) (hT : TreeAt w v T) :
    Calls Try.prog 54 #[v, .int .i64 (a : Int), .int .i64 (b : Int)] w fun e w' => e = .returned (.int .i64 (ret T (supI T (b : Int)) a : Int)) ∧ Below w.heap.size w w' := by
  obtain ⟨tb, to, tc, rfl, _⟩ := hT.at (by omega)
  exact refRet4_in T hm tb to tc b hb ((upsL T a).length + 1) a (by omega) ha w hT

set_option maxRecDepth 100000 in
set_option maxHeartbeats 4000000 in
theorem refList4_in (T : List Nd) (hm : mayB T = true) (tb to tc : Nat) : ∀ (d n : Nat), n < T.length → T.length < d + (upsL T n).length → ∀ (w : World), TreeAt w (.slice (some ⟨tb, to, none⟩) T.length tc) T →
    Calls Try.prog 51 #[.slice (some ⟨tb, to, none⟩) T.length tc, .int .i64 (n : Int)] w fun e w' => ∃ a c, e = .returned (.slice a (castL (sl T n)).length c) ∧ w'.ownsRow w.heap.size 3 1 (.slice a (castL (sl T n)).length c) (castL (sl T n)).length (intCells (castL (sl T n))) ∧ Below w.heap.size w w'
  | 0, n, hn, h => by have := upsL_le T n; omega
  | d + 1, n, hn, hd => by
    intro w hT
    have hF := mayB_fine hm
    obtain ⟨i3, hi3, hz30, hz31, hz32⟩ := info_parts infoT3
    have ih := refList4_in T hm tb to tc d
    have HSTEP := hideG (show ∀ m : Nat, m < T.length → overI (nd T m) = (n : Int) → ∀ (w : World), TreeAt w (.slice (some ⟨tb, to, none⟩) T.length tc) T →
        Calls Try.prog 51 #[.slice (some ⟨tb, to, none⟩) T.length tc, .int .i64 (m : Int)] w fun e w' => ∃ a c, e = .returned (.slice a (castL (sl T m)).length c) ∧ w'.ownsRow w.heap.size 3 1 (.slice a (castL (sl T m)).length c) (castL (sl T m)).length (intCells (castL (sl T m))) ∧ Below w.heap.size w w' from fun m hml ho => by
      have hs := (upsL_some hm hml ho).1
      exact ih m hml (by rw [hs, List.length_cons]; omega))
    have hdl : (sl T n).length ≤ T.length := (forest4 hm).d_len hn
    have hdq : ∀ q, q < T.length → (sl T q).length ≤ T.length := fun q hq => (forest4 hm).d_len hq
    have hdn := sl_eq hm hn
    have hpos := mayB_pos hm
    obtain ⟨tb', to', tc', htv, hct⟩ := hT.at (by omega)
    simp only [Value.slice.injEq, Option.some.injEq, Addr.mk.injEq, and_true, true_and] at htv
    obtain ⟨⟨rfl, rfl⟩, rfl⟩ := htv
    obtain ⟨kv, av, hN⟩ := hct n hn
    obtain ⟨kka, kkc, hkv⟩ := hN.kids.shape
    subst hkv
    have HKC : Hid (0 < (nd T n).kids.length → ∃ b off, kka = some ⟨b, off, none⟩ ∧ ∀ j, j < (nd T n).kids.length → w.cell? ⟨b, off + j, none⟩ = some (.int .i64 ((nd T n).kids.getD j 0))) := by
      obtain ⟨a', cap', hv', hd'⟩ := hN.kids
      simp only [Value.slice.injEq, true_and] at hv'
      obtain ⟨rfl, rfl⟩ := hv'
      exact hd'
    have G3 := hideG hN.kidsc
    have HT := hideG hT
    have HFi := hideG hF
    have HDN := hideG hdn
    have HDQ := hideG hdq
    have h64 := fine_short hF hn
    have G5 := hideG hN.root
    clear ih hct hT hm hF hd hN hdl
    go_enter Try.func51, Try.ntmps51
    cases hr : ((nd T n).root == -1)
    · obtain ⟨r, hrr, hrl, hro⟩ := over_root HFi.out hn hr
      have hsn := HDN.out
      rw [hr, hrr, Int.toNat_natCast] at hsn
      simp only [Bool.false_eq_true, if_false] at hsn
      obtain ⟨A0, hA0⟩ : ∃ A0 : List Int, A0 = [(n : Int)] ++ castL (sl T r) := ⟨_, rfl⟩
      have hfin : A0 ++ castL ((nd T n).kids.flatMap fun x => sl T x.toNat) = castL (sl T n) := by rw [hsn, hA0]; simp [castL]
      have HA0L : A0.length + ((nd T n).kids.flatMap fun x => sl T x.toNat).length ≤ 64 := by
        have h1 := hdq n hn
        have h2 := congrArg List.length hfin
        rw [List.length_append, castL_length, castL_length] at h2
        omega
      have hl0 : (castL (sl T r)).length ≤ 64 := by rw [castL_length]; have := hdq r hrl; omega
      have g5 := G5.out
      rw [hrr] at g5 hr
      have g5a := cell_alloc_l (.cells #[.int .i64 (n : Int)] 3) g5
      have HO1 := hideG (ownsRow_new1 w n)
      have HBA := hideG ((Below.refl _ w).alloc (Nat.le_refl _) (.cells #[.int .i64 (n : Int)] 3))
      have HA0 := hideG hA0
      have HDNF := hideG hfin
      have hne : ((r : Int) != -1) = true := by simp
      clear hrr hsn hfin hA0 hdq hr g5
      go_wp2_with (first | (go_at_call 51; refine (HSTEP.out r hrl hro _ (HT.out.below HBA.out)).mono ?_; rintro e w7 ⟨a7, c7, rfl, ho7, hb7⟩; have HO7 := hideG ho7; have HB7 := hideG (HBA.out.trans (hb7.mono (by simp))); have HOA := hideG (ownsRow_below HO1.out hb7 (fun j e => (HO1.out.lt j e).2)); clear ho7 hb7; generalize hsub : castL (sl T r) = sub at *; have HSUB := hideG hsub; clear hsub) | (at_builtin; refine wpList_append_any rfl (.tmp 15) (.tmp 22) 28 rfl w.heap.size 3 i3 _ 1 8 Try.underlying28 hi3 hz30 hz31 hz32 rfl (by decide) _ 1 (intCells [(n : Int)]) rfl HOA.out _ sub.length (intCells sub) rfl (ints_holds (ownsRow_ints HO7.out)) (intCells_length _) (intCells_one _) ?h3 ?h4 ?h5 ?_))
      case h3 => simp only [maxLen]; omega
      case h4 => omega
      case h5 => exact HB7.out.size
      intro v4 w4 ho4 hg4 hf4
      have ecells : intCells [(n : Int)] ++ intCells sub = intCells ([(n : Int)] ++ sub) := by simp [intCells]
      rw [ecells, ← HA0.out] at ho4
      have hlA : 1 + sub.length = A0.length := by rw [HA0.out]; simp; omega
      rw [hlA] at ho4
      obtain ⟨sa, sc, rfl⟩ := ownsRow_shape ho4
      have HBS := hideG (HB7.out.grown hg4 HB7.out.size (fun j e => (HOA.out.lt j e).1))
      have HOS := hideG ho4
      have g5s := cell_below HBS.out G3.out
      clear ho4 hg4 hf4 hlA ecells
      go_wp2_with fail
      go_loopw [5, 6] (fun o i wr => ∃ (k : Nat) (oa : Option Addr) (oc : Nat), k ≤ (nd T n).kids.length ∧ i = .int .i64 k ∧ o = .slice oa (A0 ++ castL (((nd T n).kids.take k).flatMap fun x => sl T x.toNat)).length oc ∧ wr.ownsRow w.heap.size 3 1 (.slice oa (A0 ++ castL (((nd T n).kids.take k).flatMap fun x => sl T x.toNat)).length oc) (A0 ++ castL (((nd T n).kids.take k).flatMap fun x => sl T x.toNat)).length (intCells (A0 ++ castL (((nd T n).kids.take k).flatMap fun x => sl T x.toNat))) ∧ Below w.heap.size w wr) (fun _ i _ => (nd T n).kids.length - (intOf i).toNat)
      case atStart => exact ⟨0, sa, sc, Nat.zero_le _, rfl, by simp [castL], by simpa [castL] using HOS.out, HBS.out⟩
      case round =>
        obtain ⟨k, oa, oc, hk, rfl, rfl, hown, hB⟩ := hrel
        have HOk := hideG hown
        have HBk := hideG hB
        have g3 := cell_below hB G3.out
        clear hown hB
        by_cases hlt : k < (nd T n).kids.length
        · obtain ⟨kb, koff, rfl, hdd⟩ := HKC.out (by omega)
          have c1 := cell_below HBk.out (hdd k hlt)
          have hst := flat_take hlt (fun x => sl T x.toNat)
          have hle := flat_le (l := (nd T n).kids) (k + 1) (fun x => sl T x.toNat)
          have hxk : (nd T n).kids.getD k 0 ∈ (nd T n).kids := by
            rw [List.getD_eq_getElem?_getD, List.getElem?_eq_getElem hlt]; exact List.getElem_mem hlt
          obtain ⟨m, hxm, hml, ho⟩ := over_kid HFi.out hn hxk
          rw [hxm] at c1
          rw [hxm, Int.toNat_natCast] at hst
          have hbnd : ((A0 ++ castL (((nd T n).kids.take k).flatMap fun x => sl T x.toNat))).length + (castL (sl T m)).length ≤ 64 := by
            rw [hst, List.length_append] at hle
            simp only [List.length_append, castL_length] at HA0L ⊢
            omega
          have he : (A0 ++ castL (((nd T n).kids.take k).flatMap fun x => sl T x.toNat)) ++ castL (sl T m) = (A0 ++ castL (((nd T n).kids.take (k + 1)).flatMap fun x => sl T x.toNat)) := by
            rw [hst]; simp [castL]
          have HE := hideG he
          clear hdd hst hle hxk hxm he
          generalize hcur : (A0 ++ castL (((nd T n).kids.take k).flatMap fun x => sl T x.toNat)) = cur at *
          clear hcur
          go_wp2_with (first | (go_at_call 51; refine (HSTEP.out m hml ho _ (HT.out.below HBk.out)).mono ?_; rintro e w7 ⟨a7, c7, rfl, ho7, hb7⟩; have HO7 := hideG ho7; have HB7 := hideG (HBk.out.trans (hb7.mono HBk.out.size)); have HOA := hideG (ownsRow_below HOk.out hb7 (fun j e => (HOk.out.lt j e).2)); generalize hsub : castL (sl T m) = sub at *; clear ho7 hb7 hsub) | (at_builtin; refine wpList_append_any rfl (.tmp 34) (.tmp 44) 28 rfl w.heap.size 3 i3 _ 1 8 Try.underlying28 hi3 hz30 hz31 hz32 rfl (by decide) _ cur.length (intCells cur) rfl HOA.out _ sub.length (intCells sub) rfl (ints_holds (ownsRow_ints HO7.out)) (intCells_length _) (intCells_one _) ?h3 ?h4 ?h5 ?_))
          case h3 => simp only [maxLen]; omega
          case h4 => omega
          case h5 => exact HB7.out.size
          intro v4 w4 ho4 hg4 hf4
          have ecells : intCells cur ++ intCells sub = intCells (cur ++ sub) := by simp [intCells]
          rw [ecells, HE.out] at ho4
          have hl4 : ((A0 ++ castL (((nd T n).kids.take (k + 1)).flatMap fun x => sl T x.toNat))).length = cur.length + sub.length := by rw [← HE.out, List.length_append]
          obtain ⟨a4, c4, rfl⟩ := ownsRow_shape ho4
          have HB4 := hideG (HB7.out.grown hg4 HB7.out.size (fun j e => (HOA.out.lt j e).1))
          have HO4 := hideG ho4
          have HL4 := hideG hl4
          clear ho4 hg4 hf4 hl4 ecells
          go_wp2_with fail
          go_roundw
          case rel =>
            exact ⟨k + 1, a4, c4, by omega, by go_num, by rw [HL4.out], by rw [HL4.out]; exact HO4.out, HB4.out⟩
          case measure => simp [intOf]; omega
        · have hke : k = (nd T n).kids.length := by omega
          subst hke
          rw [List.take_length, HDNF.out] at HOk ⊢
          go_wp2_with fail
          go_ret
          exact ⟨oa, oc, rfl, HOk.out, HBk.out⟩
    · obtain ⟨A0, hA0⟩ : ∃ A0 : List Int, A0 = [(n : Int)] := ⟨_, rfl⟩
      have hsn := HDN.out
      rw [hr] at hsn
      simp only [if_true, List.nil_append] at hsn
      have hfin : A0 ++ castL ((nd T n).kids.flatMap fun x => sl T x.toNat) = castL (sl T n) := by rw [hsn, hA0]; simp [castL]
      have HA0L : A0.length + ((nd T n).kids.flatMap fun x => sl T x.toNat).length ≤ 64 := by
        have h1 := hdq n hn
        have h2 := congrArg List.length hfin
        rw [List.length_append, castL_length, castL_length] at h2
        omega
      have hr1 : (nd T n).root = -1 := by simpa using hr
      have g5 := G5.out
      rw [hr1] at g5
      have g5a := cell_alloc_l (.cells #[.int .i64 (n : Int)] 3) g5
      obtain ⟨sa, hsa⟩ : ∃ sa : Option Addr, sa = some ⟨w.heap.size, 0, none⟩ := ⟨_, rfl⟩
      obtain ⟨sc, hsc⟩ : ∃ sc : Nat, sc = 1 := ⟨_, rfl⟩
      have HOS := hideG (show (w.alloc (.cells #[.int .i64 (n : Int)] 3)).ownsRow w.heap.size 3 1 (.slice sa A0.length sc) A0.length (intCells A0) by rw [hsa, hsc, hA0]; exact ownsRow_new1 w n)
      have HBS := hideG ((Below.refl _ w).alloc (Nat.le_refl _) (.cells #[.int .i64 (n : Int)] 3))
      have HSA := hideG (show Value.slice (some ⟨w.heap.size, 0, none⟩) 1 1 = .slice sa A0.length sc by rw [hsa, hsc, hA0]; rfl)
      have HDNF := hideG hfin
      clear hr hr1 hsn hfin hA0 hdq hsa hsc g5
      go_wp2_with fail
      rw [HSA.out]
      go_loopw [5, 6] (fun o i wr => ∃ (k : Nat) (oa : Option Addr) (oc : Nat), k ≤ (nd T n).kids.length ∧ i = .int .i64 k ∧ o = .slice oa (A0 ++ castL (((nd T n).kids.take k).flatMap fun x => sl T x.toNat)).length oc ∧ wr.ownsRow w.heap.size 3 1 (.slice oa (A0 ++ castL (((nd T n).kids.take k).flatMap fun x => sl T x.toNat)).length oc) (A0 ++ castL (((nd T n).kids.take k).flatMap fun x => sl T x.toNat)).length (intCells (A0 ++ castL (((nd T n).kids.take k).flatMap fun x => sl T x.toNat))) ∧ Below w.heap.size w wr) (fun _ i _ => (nd T n).kids.length - (intOf i).toNat)
      case atStart => exact ⟨0, sa, sc, Nat.zero_le _, rfl, by simp [castL], by simpa [castL] using HOS.out, HBS.out⟩
      case round =>
        obtain ⟨k, oa, oc, hk, rfl, rfl, hown, hB⟩ := hrel
        have HOk := hideG hown
        have HBk := hideG hB
        have g3 := cell_below hB G3.out
        clear hown hB
        by_cases hlt : k < (nd T n).kids.length
        · obtain ⟨kb, koff, rfl, hdd⟩ := HKC.out (by omega)
          have c1 := cell_below HBk.out (hdd k hlt)
          have hst := flat_take hlt (fun x => sl T x.toNat)
          have hle := flat_le (l := (nd T n).kids) (k + 1) (fun x => sl T x.toNat)
          have hxk : (nd T n).kids.getD k 0 ∈ (nd T n).kids := by
            rw [List.getD_eq_getElem?_getD, List.getElem?_eq_getElem hlt]; exact List.getElem_mem hlt
          obtain ⟨m, hxm, hml, ho⟩ := over_kid HFi.out hn hxk
          rw [hxm] at c1
          rw [hxm, Int.toNat_natCast] at hst
          have hbnd : ((A0 ++ castL (((nd T n).kids.take k).flatMap fun x => sl T x.toNat))).length + (castL (sl T m)).length ≤ 64 := by
            rw [hst, List.length_append] at hle
            simp only [List.length_append, castL_length] at HA0L ⊢
            omega
          have he : (A0 ++ castL (((nd T n).kids.take k).flatMap fun x => sl T x.toNat)) ++ castL (sl T m) = (A0 ++ castL (((nd T n).kids.take (k + 1)).flatMap fun x => sl T x.toNat)) := by
            rw [hst]; simp [castL]
          have HE := hideG he
          clear hdd hst hle hxk hxm he
          generalize hcur : (A0 ++ castL (((nd T n).kids.take k).flatMap fun x => sl T x.toNat)) = cur at *
          clear hcur
          go_wp2_with (first | (go_at_call 51; refine (HSTEP.out m hml ho _ (HT.out.below HBk.out)).mono ?_; rintro e w7 ⟨a7, c7, rfl, ho7, hb7⟩; have HO7 := hideG ho7; have HB7 := hideG (HBk.out.trans (hb7.mono HBk.out.size)); have HOA := hideG (ownsRow_below HOk.out hb7 (fun j e => (HOk.out.lt j e).2)); generalize hsub : castL (sl T m) = sub at *; clear ho7 hb7 hsub) | (at_builtin; refine wpList_append_any rfl (.tmp 34) (.tmp 44) 28 rfl w.heap.size 3 i3 _ 1 8 Try.underlying28 hi3 hz30 hz31 hz32 rfl (by decide) _ cur.length (intCells cur) rfl HOA.out _ sub.length (intCells sub) rfl (ints_holds (ownsRow_ints HO7.out)) (intCells_length _) (intCells_one _) ?h3 ?h4 ?h5 ?_))
          case h3 => simp only [maxLen]; omega
          case h4 => omega
          case h5 => exact HB7.out.size
          intro v4 w4 ho4 hg4 hf4
          have ecells : intCells cur ++ intCells sub = intCells (cur ++ sub) := by simp [intCells]
          rw [ecells, HE.out] at ho4
          have hl4 : ((A0 ++ castL (((nd T n).kids.take (k + 1)).flatMap fun x => sl T x.toNat))).length = cur.length + sub.length := by rw [← HE.out, List.length_append]
          obtain ⟨a4, c4, rfl⟩ := ownsRow_shape ho4
          have HB4 := hideG (HB7.out.grown hg4 HB7.out.size (fun j e => (HOA.out.lt j e).1))
          have HO4 := hideG ho4
          have HL4 := hideG hl4
          clear ho4 hg4 hf4 hl4 ecells
          go_wp2_with fail
          go_roundw
          case rel =>
            exact ⟨k + 1, a4, c4, by omega, by go_num, by rw [HL4.out], by rw [HL4.out]; exact HO4.out, HB4.out⟩
          case measure => simp [intOf]; omega
        · have hke : k = (nd T n).kids.length := by omega
          subst hke
          rw [List.take_length, HDNF.out] at HOk ⊢
          go_wp2_with fail
          go_ret
          exact ⟨oa, oc, rfl, HOk.out, HBk.out⟩

theorem refList4_any (T : List Nd) (hm : mayB T = true) (v : Value) (n : Nat) (hn : n < T.length) (w : World) (hT : TreeAt w v T) :
    Calls Try.prog 51 #[v, .int .i64 (n : Int)] w fun e w' => ∃ a c, e = .returned (.slice a (castL (sl T n)).length c) ∧ w'.ownsRow w.heap.size 3 1 (.slice a (castL (sl T n)).length c) (castL (sl T n)).length (intCells (castL (sl T n))) ∧ Below w.heap.size w w' := by
  obtain ⟨tb, to, tc, rfl, _⟩ := hT.at (by omega)
  exact refList4_in T hm tb to tc (T.length + 1) n hn (by omega) w hT
end Go.Proofs.Ytnbnijhdmnoelaa
