/- What the other seat's texts lack of the document's own layers 2 to 5. The document's own Parent and stop of layer 7. The document's own stop of layer 7. The document's own Path of layer 7. The document's own Visits of layer 7. -/
import Derived.Test.YtpmacpbhdgigfaaGreatSlotsR
import Derived.Test.YtpmacpbhdgigfaaGreatS5All
import Derived.Test.YtpmacpbhdgigfaaGreatRef4
import Derived.Test.YtpmacpbhdgigfaaGreatAimMem
import Derived.Test.YtpmacpbhdgigfaaGreatAim6
namespace Go.Proofs.YtpmacpbhdgigfaaGreat
open Go.RowKit Go.Shelf

set_option maxRecDepth 100000 in
set_option maxHeartbeats 2000000 in
theorem refUp3_any (T : List Nd) (hm : mayB T = true) (v : Value) (n : Nat) (hn : n < T.length) (w : World) (hT : TreeAt w v T) :
    Calls Tryz.prog 220 #[v, .int .i64 (n : Int)] w fun e w' => ∃ a c, e = .returned (.slice a (castL (pars T n)).length c) ∧ w'.ownsRow w.heap.size 3 1 (.slice a (castL (pars T n)).length c) (castL (pars T n)).length (intCells (castL (pars T n))) ∧ Below w.heap.size w w' := by
  obtain ⟨i3, hi3, hz30, hz31, hz32⟩ := info_parts infoT3
  obtain ⟨tb, to, tc, rfl, hct⟩ := hT.at (by omega)
  have HCT := hideG hct
  have HM := hideG hm
  have hpos := mayB_pos hm
  clear hT hct hm
  go_enter Tryz.func220, Tryz.ntmps220
  go_wp2_with fail
  go_loopw [1, 5] (fun t o wr => ∃ (pre : List Nat) (oa : Option Addr) (oc : Nat), o = .slice oa (castL pre).length oc ∧ wr.ownsRow w.heap.size 3 1 (.slice oa (castL pre).length oc) (castL pre).length (intCells (castL pre)) ∧ Below w.heap.size w wr ∧ ((∃ q : Nat, q < T.length ∧ t = .int .i64 (q : Int) ∧ pars T n = pre ++ pars T q) ∨ (t = .int .i64 (-1) ∧ pars T n = pre)))
    (fun t _ _ => if intOf t = -1 then 0 else (upsL T (intOf t).toNat).length + 1)
  case atStart => exact ⟨[], none, 0, rfl, World.ownsRow_nil _ _ _ _, Below.refl _ _, .inl ⟨n, hn, rfl, rfl⟩⟩
  case round =>
    obtain ⟨pre, oa, oc, rfl, hown, hB, hrel⟩ := hrel
    have HOW := hideG hown
    have HB := hideG hB
    clear hown hB
    rcases hrel with ⟨q, hq, rfl, hp⟩ | ⟨rfl, hp⟩
    · have HP := hideG hp
      have hplen : (castL pre).length ≤ 100 := by
        have h1 := pars_le T n
        rw [hp, List.length_append] at h1
        rw [castL_length]; omega
      have hq1 : ((q : Int) != -1) = true := by simp
      obtain ⟨kv, av, hN⟩ := HCT.out q hq
      have g2 := hN.parent
      have htb : tb < w.heap.size := below_of_cell g2
      clear hp hN
      have hsnoc : castL pre ++ [(q : Int)] = castL (pre ++ [q]) := by simp [castL]
      have HSN := hideG hsnoc
      clear hsnoc
      generalize hcur : castL pre = cur at *
      have hor : ∃ nx : Int, (nd T q).parent = nx ∧ ((∃ m : Nat, m < T.length ∧ nx = (m : Int) ∧ pars T q = q :: pars T m ∧ (upsL T m).length < (upsL T q).length) ∨ (nx = -1 ∧ pars T q = [q])) := by
        rcases parent_cases (mayB_fine HM.out) hq with e | ⟨e, m, hml, hpm⟩
        · exact ⟨-1, by simpa using e, .inr ⟨rfl, pars_none e⟩⟩
        · exact ⟨m, hpm, .inl ⟨m, hml, rfl, pars_some HM.out hq hpm, by rw [(upsL_some HM.out hq (over_of_parent (mayB_fine HM.out) hq hpm)).1]; simp⟩⟩
      obtain ⟨nx, hnx, hor⟩ := hor
      rw [hnx] at g2
      have HOR := hideG hor
      clear hnx hor
      go_wp2_with (at_builtin; refine wpList_append_any rfl (.tmp 8) (.tmp 10) 48 rfl w.heap.size 3 i3 _ 1 8 Tryz.underlying48 hi3 hz30 hz31 hz32 rfl (by decide) _ cur.length (intCells cur) rfl (HOW.out.alloc _) _ 1 [.int .i64 (q : Int)] rfl (row_new1 _ _) rfl ?h2 ?h3 ?h4 ?h5 ?_)
      case h2 => intro y hy; simp at hy; subst hy; rfl
      case h3 => simp only [maxLen]; omega
      case h4 => omega
      case h5 => have := HB.out.size; simp; omega
      intro v4 w4 ho4 hg4 hf4
      obtain ⟨a4, c4, rfl⟩ := ownsRow_shape ho4
      rw [intCells_snoc, HSN.out] at ho4
      have HB4 := hideG ((HB.out.alloc HB.out.size (.cells #[.int .i64 (q : Int)] 3)).grown hg4 (by have := HB.out.size; simp; omega) (fun j e => (HOW.out.lt j e).1))
      have hl4 : (castL (pre ++ [q])).length = cur.length + 1 := by rw [← HSN.out]; simp
      have HL4 := hideG hl4
      have HO4 := hideG ho4
      have g4 := cell_below HB4.out g2
      clear ho4 hg4 hf4 hl4
      go_wp2_with fail
      go_roundw
      case rel =>
        refine ⟨pre ++ [q], a4, c4, by rw [HL4.out], by rw [HL4.out]; exact HO4.out, HB4.out, ?_⟩
        rcases HOR.out with ⟨m, hml, rfl, hpm, _⟩ | ⟨rfl, hpm⟩
        · exact .inl ⟨m, hml, rfl, by rw [HP.out, hpm]; simp⟩
        · exact .inr ⟨rfl, by rw [HP.out, hpm]⟩
      case measure =>
        have h2 : ¬ ((q : Int) = -1) := by omega
        rcases HOR.out with ⟨m, hml, rfl, hpm, hlt⟩ | ⟨rfl, hpm⟩
        · have h1 : ¬ ((m : Int) = -1) := by omega
          simp only [intOf, h1, h2, if_false, Int.toNat_natCast]; omega
        · simp [intOf, h2]
    · have HP := hideG hp
      clear hp
      go_wp2_with fail
      go_ret
      rw [HP.out]
      exact ⟨oa, oc, rfl, HOW.out, HB.out⟩
set_option maxRecDepth 100000 in
set_option maxHeartbeats 2000000 in
theorem refTop3_any (T : List Nd) (hm : mayB T = true) (v : Value) (n : Nat) (hn : n < T.length) (w : World) (hT : TreeAt w v T) :
    Calls Tryz.prog 196 #[v, .int .i64 (n : Int)] w fun e w' => e = .returned (.int .i64 (topN T n : Int)) ∧ Below w.heap.size w w' := by
  obtain ⟨ta, tc, rfl⟩ := hT.shape
  have HT := hideG hT
  have HM := hideG hm
  have hpos := mayB_pos hm
  obtain ⟨_, ⟨ini, hini⟩, _⟩ := sup_split hm hn
  have hlen := pars_le T n
  have HI := hideG hini
  clear hT hm hini
  go_enter Tryz.func196, Tryz.ntmps196
  go_wp2_with (go_at_call 220; refine (refUp3_any T HM.out _ n hn _ HT.out).mono ?_; rintro e w1 ⟨a1, c1, rfl, ho1, hb1⟩; have HB1 := hideG hb1; rw [HI.out] at ho1 ⊢; have hl1 : (castL (ini ++ [topN T n])).length = ini.length + 1 := (by rw [castL_length]; simp); rw [hl1] at ho1 ⊢; obtain ⟨g1, cc1, hg1⟩ := ownsRow_some ho1 (by omega); simp only [Value.slice.injEq, true_and] at hg1; obtain ⟨rfl, rfl⟩ := hg1; have clast : w1.cell? ⟨g1, ini.length, none⟩ = some (.int .i64 (topN T n : Int)) := (by rw [ho1.cellAt ini.length (by omega)]; simp [intCells, castL]); have hil : ini.length ≤ 100 := (by have h1 := congrArg List.length HI.out; simp at h1; omega); clear ho1 hb1 hl1)
  go_ret
  exact ⟨rfl, HB1.out⟩
set_option maxRecDepth 100000 in
set_option maxHeartbeats 1000000 in
theorem refPlace_any (l : List Int) (v : Value) (x : Int) (w : World) (hI : IntsAt w v l) (hl : l.length ≤ 1000000) :
    Calls Tryz.prog 47 #[v, .int .i64 x] w fun e w' => e = .returned (.int .i64 (indexI l x)) ∧ w' = w := by
  obtain ⟨a, cap, rfl, hc⟩ := hI
  have HC := hideG hc
  clear hc
  go_enter Tryz.func47, Tryz.ntmps47
  go_wp2_with fail
  go_loopw [5] (fun i wr => ∃ k : Nat, k ≤ l.length ∧ i = .int .i64 k ∧ wr = w ∧ ∀ j, j < k → (x == l.getD j 0) = false) (fun i _ => l.length - (intOf i).toNat)
  case atStart => exact ⟨0, Nat.zero_le _, rfl, rfl, fun j h => by omega⟩
  case round =>
    obtain ⟨k, hk, rfl, rfl, hno⟩ := hrel
    have HN := hideG hno
    clear hno
    by_cases hlt : k < l.length
    · obtain ⟨b, off, rfl, hd⟩ := HC.out (by omega)
      have c1 := hd k hlt
      clear hd
      cases hx : (x == l.getD k 0)
      · have HX := hideG hx
        have hx' : (l.getD k 0 == x) = false := by
          have : ¬ x = l.getD k 0 := by simpa using hx
          rw [beq_eq_false_iff_ne]; exact fun e => this e.symm
        generalize l.getD k 0 = y at hx' c1
        clear hx
        go_wp2_with fail
        go_roundw
        case rel =>
          refine ⟨k + 1, by omega, by go_num, trivial, fun j hj => ?_⟩
          by_cases e : j = k
          · rw [e]; exact HX.out
          · exact HN.out j (by omega)
        case measure => simp [intOf]; omega
      · have HX := hideG (idx_hit hlt HN.out hx)
        have hx' : (l.getD k 0 == x) = true := by
          have : x = l.getD k 0 := by simpa using hx
          rw [← this]; simp
        generalize l.getD k 0 = y at hx' c1
        clear hx
        go_wp2_with fail
        go_ret
        exact ⟨ret_int (by rw [indexI, HX.out, if_pos hlt]), rfl⟩
    · have hke : k = l.length := by omega
      subst hke
      go_wp2_with fail
      go_ret
      exact ⟨ret_int (by rw [indexI, idx_miss HN.out, if_neg (by omega)]), rfl⟩
set_option maxHeartbeats 800000 in
theorem refIn_any (l : List Int) (v : Value) (x : Int) (w : World) (hI : IntsAt w v l) (hl : l.length ≤ 1000000) :
    Calls Tryz.prog 43 #[v, .int .i64 x] w fun e w' => e = .returned (.bool (containsB l x)) ∧ w' = w := by
  obtain ⟨a, cap, rfl⟩ := hI.shape
  have H := hideG hI
  have HQ := hideG (index_ge (l := l) (x := x))
  clear hI
  go_enter Tryz.func43, Tryz.ntmps43
  go_wp2_with (go_at_call 47; refine (refPlace_any l _ _ _ H.out hl).mono ?_; rintro e w1 ⟨rfl, rfl⟩)
  go_ret
  exact ⟨ret_bool HQ.out, rfl⟩
set_option maxRecDepth 100000 in
set_option maxHeartbeats 4000000 in
theorem refList3_in (T : List Nd) (hm : mayB T = true) (tb to tc : Nat) : ∀ (d n : Nat), n < T.length → T.length < d + (upsL T n).length → ∀ (w : World), TreeAt w (.slice (some ⟨tb, to, none⟩) T.length tc) T →
    Calls Tryz.prog 233 #[.slice (some ⟨tb, to, none⟩) T.length tc, .int .i64 (n : Int)] w fun e w' => ∃ a c, e = .returned (.slice a (castL (dn T n)).length c) ∧ w'.ownsRow w.heap.size 3 1 (.slice a (castL (dn T n)).length c) (castL (dn T n)).length (intCells (castL (dn T n))) ∧ Below w.heap.size w w'
  | 0, n, hn, h => by have := upsL_le T n; omega
  | d + 1, n, hn, hd => by
    intro w hT
    have hF := mayB_fine hm
    obtain ⟨i3, hi3, hz30, hz31, hz32⟩ := info_parts infoT3
    have ih := refList3_in T hm tb to tc d
    have HSTEP := hideG (show ∀ m : Nat, m < T.length → overI (nd T m) = (n : Int) → ∀ (w : World), TreeAt w (.slice (some ⟨tb, to, none⟩) T.length tc) T →
        Calls Tryz.prog 233 #[.slice (some ⟨tb, to, none⟩) T.length tc, .int .i64 (m : Int)] w fun e w' => ∃ a c, e = .returned (.slice a (castL (dn T m)).length c) ∧ w'.ownsRow w.heap.size 3 1 (.slice a (castL (dn T m)).length c) (castL (dn T m)).length (intCells (castL (dn T m))) ∧ Below w.heap.size w w' from fun m hml ho => by
      have hs := (upsL_some hm hml ho).1
      exact ih m hml (by rw [hs, List.length_cons]; omega))
    have hdl : (dn T n).length ≤ T.length := (forest3 hm).d_len hn
    have hdq : ∀ q, q < T.length → (dn T q).length ≤ T.length := fun q hq => (forest3 hm).d_len hq
    have hdn := dn_eq hm hn
    have hpos := mayB_pos hm
    obtain ⟨tb', to', tc', htv, hct⟩ := hT.at (by omega)
    simp only [Value.slice.injEq, Option.some.injEq, Addr.mk.injEq, and_true, true_and] at htv
    obtain ⟨⟨rfl, rfl⟩, rfl⟩ := htv
    obtain ⟨kv, av, hN⟩ := hct n hn
    obtain ⟨kka, kkc, hkv⟩ := hN.kids.shape
    subst hkv
    have HKC : Hid (0 < (nd T n).kids.length → ∃ b off, kka = some ⟨b, off, none⟩ ∧ ∀ j, j < (nd T n).kids.length → w.cell? ⟨b, off + j, none⟩ = some (.int .i64 ((nd T n).kids.getD j 0))) := by
      obtain ⟨a', cap', hv', hd'⟩ := hN.kids
      simp only [Value.slice.injEq, true_and] at hv'
      obtain ⟨rfl, rfl⟩ := hv'
      exact hd'
    have G3 := hideG hN.kidsc
    have HT := hideG hT
    have HFi := hideG hF
    have HDN := hideG hdn
    have HDQ := hideG hdq
    have h64 := fine_short hF hn
    have hdlN : (n :: (nd T n).kids.flatMap fun x => dn T x.toNat).length ≤ 64 := by rw [← hdn]; omega
    clear ih hdn hct hT hm hF hd hN hdl hdq
    go_enter Tryz.func233, Tryz.ntmps233
    go_wp2_with fail
    go_loopw [5, 6] (fun o i wr => ∃ (k : Nat) (oa : Option Addr) (oc : Nat), k ≤ (nd T n).kids.length ∧ i = .int .i64 k ∧ o = .slice oa (castL (n :: ((nd T n).kids.take k).flatMap fun x => dn T x.toNat)).length oc ∧ wr.ownsRow w.heap.size 3 1 (.slice oa (castL (n :: ((nd T n).kids.take k).flatMap fun x => dn T x.toNat)).length oc) (castL (n :: ((nd T n).kids.take k).flatMap fun x => dn T x.toNat)).length (intCells (castL (n :: ((nd T n).kids.take k).flatMap fun x => dn T x.toNat))) ∧ Below w.heap.size w wr) (fun _ i _ => (nd T n).kids.length - (intOf i).toNat)
    case atStart => exact ⟨0, some ⟨w.heap.size, 0, none⟩, 1, Nat.zero_le _, rfl, by simp [castL], by simpa [castL] using ownsRow_new1 w n, (Below.refl _ w).alloc (Nat.le_refl _) _⟩
    case round =>
      obtain ⟨k, oa, oc, hk, rfl, rfl, hown, hB⟩ := hrel
      have HOk := hideG hown
      have HBk := hideG hB
      have g3 := cell_below hB G3.out
      clear hown hB
      by_cases hlt : k < (nd T n).kids.length
      · obtain ⟨kb, koff, rfl, hdd⟩ := HKC.out (by omega)
        have c1 := cell_below HBk.out (hdd k hlt)
        have hst := flat_take hlt (fun x => dn T x.toNat)
        have hle := flat_le (l := (nd T n).kids) (k + 1) (fun x => dn T x.toNat)
        have hxk : (nd T n).kids.getD k 0 ∈ (nd T n).kids := by
          rw [List.getD_eq_getElem?_getD, List.getElem?_eq_getElem hlt]; exact List.getElem_mem hlt
        obtain ⟨m, hxm, hml, ho⟩ := over_kid HFi.out hn hxk
        rw [hxm] at c1
        rw [hxm, Int.toNat_natCast] at hst
        have hbnd : (castL (n :: ((nd T n).kids.take k).flatMap fun x => dn T x.toNat)).length + (castL (dn T m)).length ≤ 64 := by
          rw [hst, List.length_append] at hle
          simp only [castL_length, List.length_cons] at hdlN ⊢
          omega
        have he : castL (n :: ((nd T n).kids.take k).flatMap fun x => dn T x.toNat) ++ castL (dn T m) = castL (n :: ((nd T n).kids.take (k + 1)).flatMap fun x => dn T x.toNat) := by
          rw [hst]; simp [castL]
        have HE := hideG he
        clear hdd hst hle hxk hxm he
        generalize hcur : castL (n :: ((nd T n).kids.take k).flatMap fun x => dn T x.toNat) = cur at *
        clear hcur
        go_wp2_with (first | (go_at_call 233; refine (HSTEP.out m hml ho _ (HT.out.below HBk.out)).mono ?_; rintro e w7 ⟨a7, c7, rfl, ho7, hb7⟩; have HO7 := hideG ho7; have HB7 := hideG (HBk.out.trans (hb7.mono HBk.out.size)); have HOA := hideG (ownsRow_below HOk.out hb7 (fun j e => (HOk.out.lt j e).2)); generalize hsub : castL (dn T m) = sub at *; clear ho7 hb7 hsub) | (at_builtin; refine wpList_append_any rfl (.tmp 19) (.tmp 29) 48 rfl w.heap.size 3 i3 _ 1 8 Tryz.underlying48 hi3 hz30 hz31 hz32 rfl (by decide) _ cur.length (intCells cur) rfl HOA.out _ sub.length (intCells sub) rfl (ints_holds (ownsRow_ints HO7.out)) (intCells_length _) (intCells_one _) ?h3 ?h4 ?h5 ?_))
        case h3 => simp only [maxLen]; omega
        case h4 => omega
        case h5 => exact HB7.out.size
        intro v4 w4 ho4 hg4 hf4
        have ecells : intCells cur ++ intCells sub = intCells (cur ++ sub) := by simp [intCells]
        rw [ecells, HE.out] at ho4
        have hl4 : (castL (n :: ((nd T n).kids.take (k + 1)).flatMap fun x => dn T x.toNat)).length = cur.length + sub.length := by rw [← HE.out, List.length_append]
        obtain ⟨a4, c4, rfl⟩ := ownsRow_shape ho4
        have HB4 := hideG (HB7.out.grown hg4 HB7.out.size (fun j e => (HOA.out.lt j e).1))
        have HO4 := hideG ho4
        have HL4 := hideG hl4
        clear ho4 hg4 hf4 hl4 ecells
        go_wp2_with fail
        go_roundw
        case rel =>
          exact ⟨k + 1, a4, c4, by omega, by go_num, by rw [HL4.out], by rw [HL4.out]; exact HO4.out, HB4.out⟩
        case measure => simp [intOf]; omega
      · have hke : k = (nd T n).kids.length := by omega
        subst hke
        rw [List.take_length, ← HDN.out] at HOk ⊢
        go_wp2_with fail
        go_ret
        exact ⟨oa, oc, rfl, HOk.out, HBk.out⟩
theorem refList3_any (T : List Nd) (hm : mayB T = true) (v : Value) (n : Nat) (hn : n < T.length) (w : World) (hT : TreeAt w v T) :
    Calls Tryz.prog 233 #[v, .int .i64 (n : Int)] w fun e w' => ∃ a c, e = .returned (.slice a (castL (dn T n)).length c) ∧ w'.ownsRow w.heap.size 3 1 (.slice a (castL (dn T n)).length c) (castL (dn T n)).length (intCells (castL (dn T n))) ∧ Below w.heap.size w w' := by
  obtain ⟨tb, to, tc, rfl, _⟩ := hT.at (by omega)
  exact refList3_in T hm tb to tc (T.length + 1) n hn (by omega) w hT
set_option maxRecDepth 100000 in
set_option maxHeartbeats 2000000 in
theorem refGet_any (T : List Nd) (hS : Sane T) (v : Value) (n nm : Int) (w : World) (hT : TreeAt w v T) :
    Calls Tryz.prog 123 #[v, .int .i64 n, .int .i64 nm] w fun e w' => e = .returned (.tuple #[.int .i64 (refGetL T n nm).1, .bool (refGetL T n nm).2]) ∧ w' = w := by
  have HT := hideG hT
  obtain ⟨a, cap, rfl⟩ := hT.shape
  clear hT
  cases hi : isNodeB T.length n
  · have hR : refGetL T n nm = (0, false) := by rw [refGetL, hi]; rfl
    go_enter Tryz.func123, Tryz.ntmps123
    go_wp2_with (go_at_call 53; refine (refIs_any _ _ _ _ _).mono ?_; rw [hi]; rintro e w1 ⟨rfl, rfl⟩)
    go_ret2
    exact ⟨ret_ib (by rw [hR]) (by rw [hR]), rfl⟩
  · obtain ⟨k, rfl, hk⟩ := isNodeB_true hi
    have HR := hideG (show refGetL T (k : Int) nm = firstL nm (nd T k).attrs by rw [refGetL, hi, if_pos rfl, Int.toNat_natCast])
    obtain ⟨b, off, cap2, hv, hc⟩ := HT.out.at (by omega)
    obtain ⟨rfl, rfl⟩ : a = some ⟨b, off, none⟩ ∧ cap = cap2 := by simpa using hv
    obtain ⟨kv, av, hN⟩ := hc k hk
    have c6 := hN.attrsc
    obtain ⟨aa, ac, rfl, hac⟩ := hN.attrs
    have hl := (hS k hk).2
    have HC := hideG hac
    clear hN hc hv hac hS
    generalize (nd T k).attrs = l at *
    go_enter Tryz.func123, Tryz.ntmps123
    go_wp2_with (go_at_call 53; refine (refIs_any _ _ _ _ _).mono ?_; rw [hi]; rintro e w1 ⟨rfl, rfl⟩)
    go_loopw [8] (fun i wr => ∃ j : Nat, j ≤ l.length ∧ i = .int .i64 j ∧ wr = w1 ∧ Hid (firstL nm (l.drop j) = firstL nm l)) (fun i _ => l.length - (intOf i).toNat)
    case atStart => exact ⟨0, Nat.zero_le _, rfl, rfl, rfl⟩
    case round =>
      obtain ⟨j, hj, rfl, rfl, HF⟩ := hrel
      by_cases hlt : j < l.length
      · obtain ⟨ab, aoff, rfl, hd⟩ := HC.out (by omega)
        obtain ⟨c1, c2⟩ := hd j hlt
        have HS := hideG (first_drop hlt nm)
        clear hd
        generalize l.getD j (0, 0) = A at *
        obtain ⟨p, q⟩ := A
        dsimp only at c1 c2 HS
        cases hx : (p == nm)
        · have HF2 := hideG (show firstL nm (l.drop (j + 1)) = firstL nm l by rw [← HF.out, HS.out, hx]; rfl)
          go_wp2_with fail
          go_roundw
          case rel => exact ⟨j + 1, by omega, by go_num, trivial, HF2.out⟩
          case measure => simp [intOf]; omega
        · have HF2 := hideG (show firstL nm l = (q, true) by rw [← HF.out, HS.out, hx]; rfl)
          go_wp2_with fail
          go_ret2
          exact ⟨ret_ib (by rw [HR.out, HF2.out]) (by rw [HR.out, HF2.out]), rfl⟩
      · have HF2 := hideG (show firstL nm l = (0, false) by rw [← HF.out, List.drop_eq_nil_of_le (by omega)]; rfl)
        go_wp2_with fail
        go_ret2
        exact ⟨ret_ib (by rw [HR.out, HF2.out]) (by rw [HR.out, HF2.out]), rfl⟩
theorem refHas_any (T : List Nd) (hS : Sane T) (v : Value) (n nm : Int) (w : World) (hT : TreeAt w v T) :
    Calls Tryz.prog 67 #[v, .int .i64 n, .int .i64 nm] w fun e w' => e = .returned (.bool (refGetL T n nm).2) ∧ w' = w := by
  have HG := hideG (refGet_any T hS v n nm w hT)
  obtain ⟨a, cap, rfl⟩ := hT.shape
  clear hT
  go_enter Tryz.func67, Tryz.ntmps67
  go_wp2_with (go_at_call 123; refine Calls.mono HG.out ?_; rintro e w1 ⟨rfl, rfl⟩)
  go_ret
  exact ⟨rfl, rfl⟩
set_option maxHeartbeats 800000 in
theorem refName_any (T : List Nd) (hm : mayB T = true) (hS : Sane T) (v : Value) (n : Int) (w : World) (hT : TreeAt w v T) :
    Calls Tryz.prog 222 #[v, .int .i64 n] w fun e w' => e = .returned (.int .i64 (nameI T n)) ∧ w' = w := by
  obtain ⟨a, cap, rfl⟩ := hT.shape
  have HT := hideG hT
  have HS := hideG hS
  have HQ := hideG (show (refGetL T n 4).1 = nameI T n by rw [refGet_eq hm]; rfl)
  clear hT hS hm
  go_enter Tryz.func222, Tryz.ntmps222
  go_wp2_with (go_at_call 123; refine (refGet_any T HS.out _ _ _ _ HT.out).mono ?_; rintro e w1 ⟨rfl, hw⟩; subst hw)
  go_ret
  exact ⟨ret_int HQ.out, rfl⟩
set_option maxRecDepth 100000 in
set_option maxHeartbeats 1000000 in
theorem refIs5_any (T : List Nd) (hm : mayB T = true) (v : Value) (n : Nat) (hn : n < T.length) (w : World) (hT : TreeAt w v T) :
    Calls Tryz.prog 195 #[v, .int .i64 (n : Int)] w fun e w' => e = .returned (.bool (isSlotB T n)) ∧ Below w.heap.size w w' := by
  obtain ⟨tb, to, tc, rfl, hct⟩ := hT.at (by omega)
  have htl := top_lt hm hn
  obtain ⟨kv, av, hN⟩ := hct n hn
  obtain ⟨kv', av', hN'⟩ := hct _ htl
  have g0 := hN.kind
  have g1 := hN.tag
  have G2 := hideG hN'.kind
  have HT := hideG hT
  have HM := hideG hm
  have hpos := mayB_pos hm
  have hn0 : (0 : Int) ≤ (n : Int) := by omega
  have ht0 : (0 : Int) ≤ (topN T n : Int) := by omega
  clear hT hm hct hN hN'
  cases h1 : ((nd T n).kind == 1)
  · have HQ := hideG (show isSlotB T n = false by simp [isSlotB, h1])
    go_enter Tryz.func195, Tryz.ntmps195
    go_wp2_with fail
    go_ret
    exact ⟨ret_bool HQ.out.symm, Below.refl _ _⟩
  · cases h2 : ((nd T n).tag == 3)
    · have HQ := hideG (show isSlotB T n = false by simp [isSlotB, h2])
      go_enter Tryz.func195, Tryz.ntmps195
      go_wp2_with fail
      go_ret
      exact ⟨ret_bool HQ.out.symm, Below.refl _ _⟩
    · have HQ := hideG (show isSlotB T n = ((nd T (topN T n)).kind == 3) by simp [isSlotB, h1, h2])
      go_enter Tryz.func195, Tryz.ntmps195
      go_wp2_with (go_at_call 196; refine (refTop3_any T HM.out _ n hn _ HT.out).mono ?_; rintro e w1 ⟨rfl, hb1⟩; have HB1 := hideG hb1; have g2 := cell_below hb1 G2.out; clear hb1)
      go_ret
      exact ⟨ret_bool HQ.out.symm, HB1.out⟩
set_option maxRecDepth 100000 in
set_option maxHeartbeats 2000000 in
theorem refAll5_any (T : List Nd) (hm : mayB T = true) (v : Value) (r : Nat) (hr : r < T.length) (hk3 : (nd T r).kind = 3) (w : World) (hT : TreeAt w v T) :
    Calls Tryz.prog 221 #[v, .int .i64 (r : Int)] w fun e w' => ∃ a c, e = .returned (.slice a (castL (slotsN T r)).length c) ∧ w'.ownsRow w.heap.size 3 1 (.slice a (castL (slotsN T r)).length c) (castL (slotsN T r)).length (intCells (castL (slotsN T r))) ∧ Below w.heap.size w w' := by
  obtain ⟨i3, hi3, hz30, hz31, hz32⟩ := info_parts infoT3
  obtain ⟨tb, to, tc, rfl, hct⟩ := hT.at (by omega)
  obtain ⟨kv, av, hN⟩ := hct r hr
  have g0 := hN.kind
  rw [hk3] at g0
  have HT := hideG hT
  have HM := hideG hm
  have hdl := (forest3 hm).d_len hr
  have hpos := mayB_pos hm
  have HSB := hideG (show ∀ x ∈ dn T r, x < T.length ∧ isSlotB T x = ((nd T x).tag == 3) from fun x hx => slot_below hm hr hk3 hx)
  have HLEN := hideG (castL_length (dn T r))
  have hr0 : (0 : Int) ≤ (r : Int) := by omega
  clear hT hm hct hN
  go_enter Tryz.func221, Tryz.ntmps221
  go_wp2_with fail
  refine (refList3_any T HM.out _ r hr _ HT.out).mono ?_
  rintro e w2 ⟨a2, c2, rfl, ho2, hb2⟩
  have HL := hideG (ownsRow_ints ho2)
  rw [HLEN.out] at HL ⊢
  have HB2 := hideG hb2
  have HT2 := hideG (HT.out.below hb2)
  clear ho2 hb2 g0
  go_wp2_with fail
  go_loopw [5, 7] (fun o i wr => ∃ (k : Nat) (oa : Option Addr) (oc : Nat), k ≤ (dn T r).length ∧ i = .int .i64 k ∧ o = .slice oa (castL (((dn T r).take k).filter fun n => (nd T n).tag == 3)).length oc ∧ wr.ownsRow w2.heap.size 3 1 (.slice oa (castL (((dn T r).take k).filter fun n => (nd T n).tag == 3)).length oc) (castL (((dn T r).take k).filter fun n => (nd T n).tag == 3)).length (intCells (castL (((dn T r).take k).filter fun n => (nd T n).tag == 3))) ∧ Below w2.heap.size w2 wr) (fun _ i _ => (dn T r).length - (intOf i).toNat)
  case atStart => exact ⟨0, none, 0, Nat.zero_le _, rfl, rfl, World.ownsRow_nil _ _ _ _, Below.refl _ _⟩
  case round =>
    obtain ⟨k, oa, oc, hk, rfl, rfl, hown, hB⟩ := hrel
    have HOk := hideG hown
    have HBk := hideG hB
    clear hown hB
    by_cases hlt : k < (dn T r).length
    · obtain ⟨_, _, hsh, hd⟩ := HL.out.below HBk.out
      simp only [Value.slice.injEq] at hsh
      obtain ⟨rfl, hsq, rfl⟩ := hsh
      clear hsq
      obtain ⟨lb, loff, rfl, hdd⟩ := hd (by rw [HLEN.out]; omega)
      have c1 := hdd k (by rw [HLEN.out]; exact hlt)
      rw [castL_getD _ hlt] at c1
      obtain ⟨hxl, hsb⟩ := HSB.out _ (getD_mem hlt)
      have hft := filter_take hlt (fun n => (nd T n).tag == 3)
      have hcb : (castL (((dn T r).take k).filter fun n => (nd T n).tag == 3)).length ≤ 64 := by
        rw [castL_length]
        have h1 := List.length_filter_le (fun n => (nd T n).tag == 3) ((dn T r).take k)
        have h2 : ((dn T r).take k).length ≤ (dn T r).length := List.length_take_le' ..
        omega
      generalize (dn T r).getD k 0 = x at *
      have hx0 : (0 : Int) ≤ (x : Int) := by omega
      clear hd hdd
      cases htg : ((nd T x).tag == 3)
      · have he : castL (((dn T r).take (k + 1)).filter fun n => (nd T n).tag == 3) = castL (((dn T r).take k).filter fun n => (nd T n).tag == 3) := by
          rw [hft, htg]; simp
        rw [htg] at hsb
        have HSX := hideG hsb
        have HE := hideG he
        clear he hft hsb htg
        generalize castL (((dn T r).take k).filter fun n => (nd T n).tag == 3) = cur at *
        go_wp2_with (go_at_call 195; refine (refIs5_any T HM.out _ x hxl _ (HT2.out.below HBk.out)).mono ?_; rintro e w5 ⟨rfl, hb5⟩; rw [HSX.out]; have HB5 := hideG (HBk.out.trans (hb5.mono HBk.out.size)); have HO5 := hideG (ownsRow_below HOk.out hb5 (fun j e => (HOk.out.lt j e).2)); clear hb5)
        go_roundw
        case rel => exact ⟨k + 1, oa, oc, by omega, by go_num, by rw [HE.out], by rw [HE.out]; exact HO5.out, HB5.out⟩
        case measure => simp [intOf]; omega
      · have he : castL (((dn T r).take (k + 1)).filter fun n => (nd T n).tag == 3) = castL (((dn T r).take k).filter fun n => (nd T n).tag == 3) ++ [(x : Int)] := by
          rw [hft, htg]; simp [castL]
        rw [htg] at hsb
        have HSX := hideG hsb
        have HE := hideG he
        clear he hft hsb htg
        generalize castL (((dn T r).take k).filter fun n => (nd T n).tag == 3) = cur at *
        go_wp2_with (first | (go_at_call 195; refine (refIs5_any T HM.out _ x hxl _ (HT2.out.below HBk.out)).mono ?_; rintro e w5 ⟨rfl, hb5⟩; rw [HSX.out]; have HB5 := hideG (HBk.out.trans (hb5.mono HBk.out.size)); have HO5 := hideG (ownsRow_below HOk.out hb5 (fun j e => (HOk.out.lt j e).2)); have c1' := cell_below hb5 c1; clear hb5) | (at_builtin; refine wpList_append_any rfl (.tmp 30) (.tmp 35) 48 rfl w2.heap.size 3 i3 _ 1 8 Tryz.underlying48 hi3 hz30 hz31 hz32 rfl (by decide) _ cur.length (intCells cur) rfl (HO5.out.alloc _) _ 1 [.int .i64 (x : Int)] rfl (row_new1 _ _) rfl ?h2 ?h3 ?h4 ?h5 ?_))
        case h2 => intro y hy; simp at hy; subst hy; rfl
        case h3 => simp only [maxLen]; omega
        case h4 => omega
        case h5 => have := HB5.out.size; simp; omega
        intro v4 w4 ho4 hg4 hf4
        obtain ⟨a4, c4, rfl⟩ := ownsRow_shape ho4
        rw [intCells_snoc] at ho4
        have HB4 := hideG ((HB5.out.alloc HB5.out.size (.cells #[.int .i64 (x : Int)] 3)).grown hg4 (by have := HB5.out.size; simp; omega) (fun j e => (HO5.out.lt j e).1))
        have hl4 : (cur ++ [(x : Int)]).length = cur.length + 1 := by simp
        have HL4 := hideG hl4
        have HO4 := hideG ho4
        clear ho4 hg4 hf4 hl4
        go_wp2_with fail
        go_roundw
        case rel => exact ⟨k + 1, a4, c4, by omega, by go_num, by rw [HE.out, HL4.out], by rw [HE.out, HL4.out]; exact HO4.out, HB4.out⟩
        case measure => simp [intOf]; omega
    · have hke : (dn T r).take k = dn T r := List.take_of_length_le (by omega)
      rw [hke] at HOk ⊢
      have HBE := hideG (HB2.out.trans (HBk.out.mono HB2.out.size))
      have HOE := hideG (show wr.ownsRow w.heap.size 3 1 _ _ _ from ownsRow_base HOk.out HB2.out.size)
      clear hke
      go_wp2_with fail
      go_ret
      exact ⟨oa, oc, rfl, HOE.out, HBE.out⟩
set_option maxHeartbeats 800000 in
theorem refAll5_no (T : List Nd) (v : Value) (r : Nat) (hr : r < T.length) (hk3 : ((nd T r).kind == 3) = false) (hpos : T.length ≤ 1000) (w : World) (hT : TreeAt w v T) :
    Calls Tryz.prog 221 #[v, .int .i64 (r : Int)] w fun e w' => e = .returned (.slice none 0 0) ∧ w' = w := by
  obtain ⟨tb, to, tc, rfl, hct⟩ := hT.at (by omega)
  obtain ⟨kv, av, hN⟩ := hct r hr
  have g0 := hN.kind
  have hne : ((nd T r).kind != 3) = true := by simp only [bne, hk3]; rfl
  have hr0 : (0 : Int) ≤ (r : Int) := by omega
  clear hT hct hN hk3
  go_enter Tryz.func221, Tryz.ntmps221
  go_wp2_with fail
  go_ret
  exact ⟨rfl, rfl⟩
set_option maxRecDepth 100000 in
set_option maxHeartbeats 4000000 in
theorem refOf5_any (T : List Nd) (hm : mayB T = true) (hS : Sane T) (v : Value) (n : Nat) (hn : n < T.length) (w : World) (hT : TreeAt w v T) :
    Calls Tryz.prog 197 #[v, .int .i64 (n : Int)] w fun e w' => e = .returned (.int .i64 (ofN T n)) ∧ Below w.heap.size w w' := by
  obtain ⟨tb, to, tc, rfl, hct⟩ := hT.at (by omega)
  obtain ⟨kv, av, hN⟩ := hct n hn
  have HT := hideG hT
  have HS := hideG hS
  have HM := hideG hm
  have hpos := mayB_pos hm
  have hn0 : (0 : Int) ≤ (n : Int) := by omega
  rcases parent_cases (mayB_fine hm) hn with e | ⟨e, p, hpl, hpm⟩
  · have hp : (nd T n).parent = -1 := by simpa using e
    have HQ := hideG (show ofN T n = -1 by simp [ofN, hp])
    have g2 := hN.parent
    rw [hp] at g2
    clear hT hS hct hN hm e hp
    go_enter Tryz.func197, Tryz.ntmps197
    go_wp2_with fail
    go_ret
    exact ⟨ret_int HQ.out.symm, Below.refl _ _⟩
  · have g2 := hN.parent
    rw [hpm] at g2
    obtain ⟨kv', av', hP⟩ := hct p hpl
    have hpn : ((p : Int) == -1) = false := by simp
    have hp0 : (0 : Int) ≤ (p : Int) := by omega
    cases hr : ((nd T p).root == -1)
    · obtain ⟨q, hrq, hql, hq3, _⟩ := root_facts (mayB_fine hm) hpl hr
      have HQ0 := hideG (show ofN T n = placeI T q (n : Int) by
        unfold ofN; rw [e, hpm, Int.toNat_natCast, hr, hrq, Int.toNat_natCast]; rfl)
      have g5 := hP.root
      rw [hrq] at g5
      have hqn : ((q : Int) == -1) = false := by simp
      have hsl := slotsN_le hm hql
      have HCL := hideG (castL_length (slotsN T q))
      have HLT := hideG (show ∀ x ∈ slotsN T q, x < T.length from fun x hx => (forest3 hm).d_lt hql (List.mem_filter.mp hx).1)
      have HMB := hideG (show (refGetL T (q : Int) 8).2 = manB T (q : Int) by rw [refGet_eq hm]; rfl)
      have HG9 := hideG (show refGetL T (n : Int) 9 = getL T (n : Int) 9 from refGet_eq hm _ _)
      clear hT hS hct hN hm e hpm hP hr hrq
      cases hman : manB T (q : Int)
      · have HQ := hideG (HQ0.out.trans (place_nam hman))
        rw [hman] at HMB
        clear hman
        go_enter Tryz.func197, Tryz.ntmps197
        go_wp2_with fail
        refine (refAll5_any T HM.out _ q hql hq3 _ HT.out).mono ?_
        rintro e w2 ⟨a2, c2, rfl, ho2, hb2⟩
        have HL := hideG (ownsRow_ints ho2)
        rw [HCL.out] at HL ⊢
        have HB2 := hideG hb2
        have HT2 := hideG (HT.out.below hb2)
        clear ho2 hb2 g2 g5
        go_wp2_with fail
        refine (refHas_any T HS.out _ _ _ _ HT2.out).mono ?_
        rintro e w3 ⟨rfl, hw3⟩
        subst hw3
        rw [HMB.out]
        go_wp2_with fail
        go_loopw [10] (fun i wr => ∃ k : Nat, k ≤ (slotsN T q).length ∧ i = .int .i64 k ∧ wr = w3 ∧ ∀ j, j < k → (nameI T (n : Int) == (namesI T q).getD j 0) = false) (fun i _ => (slotsN T q).length - (intOf i).toNat)
        case atStart => exact ⟨0, Nat.zero_le _, rfl, rfl, fun j h => by omega⟩
        case round =>
          obtain ⟨k, hk, rfl, rfl, hno⟩ := hrel
          have HN := hideG hno
          clear hno
          by_cases hlt : k < (slotsN T q).length
          · obtain ⟨_, _, hsh, hd⟩ := HL.out
            simp only [Value.slice.injEq] at hsh
            obtain ⟨rfl, hsq, rfl⟩ := hsh
            clear hsq
            obtain ⟨lb, loff, rfl, hdd⟩ := hd (by rw [HCL.out]; omega)
            have c1 := hdd k (by rw [HCL.out]; exact hlt)
            rw [castL_getD _ hlt] at c1
            have hxl := HLT.out _ (getD_mem hlt)
            have hnk := names_getD hlt
            have HLQ := hideG (show (castL (slotsN T q)).getD k 0 = (((slotsN T q).getD k 0 : Nat) : Int) from castL_getD _ hlt)
            generalize (slotsN T q).getD k 0 = x at *
            have hx0 : (0 : Int) ≤ (x : Int) := by omega
            clear hd hdd
            cases heq : (nameI T (n : Int) == (namesI T q).getD k 0)
            · have HX := hideG heq
              have hxe : (nameI T (x : Int) == nameI T (n : Int)) = false := by
                rw [hnk] at heq
                have : ¬ nameI T (n : Int) = nameI T (x : Int) := by simpa using heq
                rw [beq_eq_false_iff_ne]; exact fun e => this e.symm
              clear heq hnk
              go_wp2_with (go_at_call 222; refine (refName_any T HM.out HS.out _ _ _ HT2.out).mono ?_; rintro e w5 ⟨rfl, hw5⟩; subst hw5)
              go_roundw
              case rel =>
                refine ⟨k + 1, by omega, by go_num, trivial, fun j hj => ?_⟩
                by_cases ejk : j = k
                · rw [ejk]; exact HX.out
                · exact HN.out j (by omega)
              case measure => simp [intOf]; omega
            · have hix := idx_hit (x := nameI T (n : Int)) (l := namesI T q) (k := k) (by rw [namesI_len]; exact hlt) HN.out heq
              have HV := hideG (show ofN T n = (x : Int) by
                have hi2 : indexI (namesI T q) (nameI T (n : Int)) = (k : Int) := by unfold indexI; rw [hix, if_pos (by rw [namesI_len]; exact hlt)]
                rw [HQ.out]
                unfold byNameI
                rw [hi2, if_neg (by omega), Int.toNat_natCast]
                exact HLQ.out)
              have hxe : (nameI T (x : Int) == nameI T (n : Int)) = true := by
                rw [hnk] at heq
                have : nameI T (n : Int) = nameI T (x : Int) := by simpa using heq
                rw [this]; simp
              clear heq hnk hix
              go_wp2_with (go_at_call 222; refine (refName_any T HM.out HS.out _ _ _ HT2.out).mono ?_; rintro e w5 ⟨rfl, hw5⟩; subst hw5)
              go_ret
              exact ⟨ret_int HV.out.symm, HB2.out⟩
          · have hix := idx_miss (x := nameI T (n : Int)) (l := namesI T q) (fun j hj => HN.out j (by rw [namesI_len] at hj; omega))
            have HV := hideG (show ofN T n = -1 by
              have hi2 : indexI (namesI T q) (nameI T (n : Int)) = -1 := by unfold indexI; rw [hix, if_neg (by omega)]
              rw [HQ.out]
              unfold byNameI
              rw [hi2]; rfl)
            clear hix
            go_wp2_with fail
            go_ret
            exact ⟨ret_int HV.out.symm, HB2.out⟩
      · have HQ := hideG (HQ0.out.trans (place_man hman))
        rw [hman] at HMB
        clear hman
        cases hg2 : (getL T (n : Int) 9).2
        · have HV := hideG (show ofN T n = -1 by rw [HQ.out]; unfold byNumI; rw [hg2]; rfl)
          have HG2 := hideG hg2
          clear hg2
          go_enter Tryz.func197, Tryz.ntmps197
          go_wp2_with fail
          refine (refAll5_any T HM.out _ q hql hq3 _ HT.out).mono ?_
          rintro e w2 ⟨a2, c2, rfl, ho2, hb2⟩
          have HB2 := hideG hb2
          have HT2 := hideG (HT.out.below hb2)
          clear ho2 hb2 g2 g5
          go_wp2_with fail
          refine (refHas_any T HS.out _ _ _ _ HT2.out).mono ?_
          rintro e w3 ⟨rfl, hw3⟩
          subst hw3
          rw [HMB.out]
          go_wp2_with fail
          refine (refGet_any T HS.out _ _ _ _ HT2.out).mono ?_
          rintro e w3 ⟨rfl, hw3⟩
          subst hw3
          rw [HG9.out, HG2.out]
          go_wp2_with fail
          go_ret
          exact ⟨ret_int HV.out.symm, HB2.out⟩
        · cases hcn : containsB (castL (slotsN T q)) (getL T (n : Int) 9).1
          all_goals
            have HV := hideG (show ofN T n = (if containsB (castL (slotsN T q)) (getL T (n : Int) 9).1 then (getL T (n : Int) 9).1 else -1) by rw [HQ.out]; unfold byNumI; rw [hg2]; rfl)
            rw [hcn] at HV
            have HG2 := hideG hg2
            have HCN := hideG hcn
            clear hg2 hcn
            go_enter Tryz.func197, Tryz.ntmps197
            go_wp2_with fail
            refine (refAll5_any T HM.out _ q hql hq3 _ HT.out).mono ?_
            rintro e w2 ⟨a2, c2, rfl, ho2, hb2⟩
            have HL := hideG (ownsRow_ints ho2)
            have HB2 := hideG hb2
            have HT2 := hideG (HT.out.below hb2)
            have HLL := hideG (show (castL (slotsN T q)).length ≤ 1000000 by rw [HCL.out]; omega)
            clear ho2 hb2 g2 g5
            generalize castL (slotsN T q) = LL at *
            go_wp2_with fail
            refine (refHas_any T HS.out _ _ _ _ HT2.out).mono ?_
            rintro e w3 ⟨rfl, hw3⟩
            subst hw3
            rw [HMB.out]
            go_wp2_with fail
            refine (refGet_any T HS.out _ _ _ _ HT2.out).mono ?_
            rintro e w3 ⟨rfl, hw3⟩
            subst hw3
            rw [HG9.out, HG2.out]
            generalize (getL T (n : Int) 9).1 = gv at *
            go_wp2_with fail
            refine (refIn_any LL _ _ _ HL.out HLL.out).mono ?_
            rintro e w3 ⟨rfl, hw3⟩
            subst hw3
            rw [HCN.out]
            go_wp2_with fail
            go_ret
            exact ⟨ret_int HV.out.symm, HB2.out⟩
    · have hr1 : (nd T p).root = -1 := by simpa using hr
      have HQ := hideG (show ofN T n = -1 by unfold ofN; rw [e, hpm, Int.toNat_natCast, hr]; rfl)
      have g5 := hP.root
      rw [hr1] at g5
      clear hT hS hct hN hm e hpm hP hr hr1
      go_enter Tryz.func197, Tryz.ntmps197
      go_wp2_with fail
      go_ret
      exact ⟨ret_int HQ.out.symm, Below.refl _ _⟩
set_option maxRecDepth 100000 in
set_option maxHeartbeats 2000000 in
theorem refUp4_any (T : List Nd) (hm : mayB T = true) (v : Value) (n : Nat) (hn : n < T.length) (w : World) (hT : TreeAt w v T) :
    Calls Tryz.prog 212 #[v, .int .i64 (n : Int)] w fun e w' => ∃ a c, e = .returned (.slice a (castL (supN T n)).length c) ∧ w'.ownsRow w.heap.size 3 1 (.slice a (castL (supN T n)).length c) (castL (supN T n)).length (intCells (castL (supN T n))) ∧ Below w.heap.size w w' := by
  obtain ⟨i3, hi3, hz30, hz31, hz32⟩ := info_parts infoT3
  obtain ⟨tb, to, tc, rfl, hct⟩ := hT.at (by omega)
  have HT := hideG hT
  have HM := hideG hm
  have hpos := mayB_pos hm
  clear hT hct hm
  go_enter Tryz.func212, Tryz.ntmps212
  go_wp2_with fail
  go_loopw [1, 5] (fun t o wr => ∃ (pre : List Nat) (oa : Option Addr) (oc : Nat), o = .slice oa (castL pre).length oc ∧ wr.ownsRow w.heap.size 3 1 (.slice oa (castL pre).length oc) (castL pre).length (intCells (castL pre)) ∧ Below w.heap.size w wr ∧ ((∃ q : Nat, q < T.length ∧ t = .int .i64 (q : Int) ∧ supN T n = pre ++ supN T q) ∨ (t = .int .i64 (-1) ∧ supN T n = pre)))
    (fun t _ _ => if intOf t = -1 then 0 else (upsL T (intOf t).toNat).length + 1)
  case atStart => exact ⟨[], none, 0, rfl, World.ownsRow_nil _ _ _ _, Below.refl _ _, .inl ⟨n, hn, rfl, rfl⟩⟩
  case round =>
    obtain ⟨pre, oa, oc, rfl, hown, hB, hrel⟩ := hrel
    have HOW := hideG hown
    have HB := hideG hB
    clear hown hB
    rcases hrel with ⟨q, hq, rfl, hp⟩ | ⟨rfl, hp⟩
    · have HP := hideG hp
      have hplen : (castL pre).length ≤ 100 := by
        have h1 := supN_le T n
        rw [hp, List.length_append] at h1
        rw [castL_length]; omega
      have hq1 : ((q : Int) != -1) = true := by simp
      clear hp
      have hsnoc : castL pre ++ [(q : Int)] = castL (pre ++ [q]) := by simp [castL]
      have HSN := hideG hsnoc
      clear hsnoc
      generalize hcur : castL pre = cur at *
      have hor : ∃ nx : Int, overI (nd T q) = nx ∧ ((∃ m : Nat, m < T.length ∧ nx = (m : Int) ∧ supN T q = q :: supN T m ∧ (upsL T m).length < (upsL T q).length) ∨ (nx = -1 ∧ supN T q = [q])) := by
        rcases over_cases HM.out hq with e | ⟨m, hml, hpm⟩
        · exact ⟨-1, by simpa using e, .inr ⟨rfl, by unfold supN; rw [upsL_none e]⟩⟩
        · exact ⟨m, hpm, .inl ⟨m, hml, rfl, by unfold supN; rw [(upsL_some HM.out hq hpm).1], by rw [(upsL_some HM.out hq hpm).1]; simp⟩⟩
      obtain ⟨nx, hnx, hor⟩ := hor
      have HNX := hideG hnx
      have HOR := hideG hor
      clear hnx hor
      go_wp2_with (at_builtin; refine wpList_append_any rfl (.tmp 8) (.tmp 10) 48 rfl w.heap.size 3 i3 _ 1 8 Tryz.underlying48 hi3 hz30 hz31 hz32 rfl (by decide) _ cur.length (intCells cur) rfl (HOW.out.alloc _) _ 1 [.int .i64 (q : Int)] rfl (row_new1 _ _) rfl ?h2 ?h3 ?h4 ?h5 ?_)
      case h2 => intro y hy; simp at hy; subst hy; rfl
      case h3 => simp only [maxLen]; omega
      case h4 => omega
      case h5 => have := HB.out.size; simp; omega
      intro v4 w4 ho4 hg4 hf4
      obtain ⟨a4, c4, rfl⟩ := ownsRow_shape ho4
      rw [intCells_snoc, HSN.out] at ho4
      have HB4 := hideG ((HB.out.alloc HB.out.size (.cells #[.int .i64 (q : Int)] 3)).grown hg4 (by have := HB.out.size; simp; omega) (fun j e => (HOW.out.lt j e).1))
      have hl4 : (castL (pre ++ [q])).length = cur.length + 1 := by rw [← HSN.out]; simp
      have HL4 := hideG hl4
      have HO4 := hideG ho4
      clear ho4 hg4 hf4 hl4
      go_wp2_with (go_at_call 154; refine (refUp_any T _ q _ (HT.out.below HB4.out) hq (by omega)).mono ?_; rintro e w5 ⟨rfl, hw5⟩; subst hw5; rw [HNX.out])
      go_roundw
      case rel =>
        refine ⟨pre ++ [q], a4, c4, by rw [HL4.out], by rw [HL4.out]; exact HO4.out, HB4.out, ?_⟩
        rcases HOR.out with ⟨m, hml, rfl, hpm, _⟩ | ⟨rfl, hpm⟩
        · exact .inl ⟨m, hml, rfl, by rw [HP.out, hpm]; simp⟩
        · exact .inr ⟨rfl, by rw [HP.out, hpm]⟩
      case measure =>
        have h2 : ¬ ((q : Int) = -1) := by omega
        rcases HOR.out with ⟨m, hml, rfl, hpm, hlt⟩ | ⟨rfl, hpm⟩
        · have h1 : ¬ ((m : Int) = -1) := by omega
          simp only [intOf, h1, h2, if_false, Int.toNat_natCast]; omega
        · simp [intOf, h2]
    · have HP := hideG hp
      clear hp
      go_wp2_with fail
      go_ret
      rw [HP.out]
      exact ⟨oa, oc, rfl, HOW.out, HB.out⟩
set_option maxHeartbeats 1000000 in
theorem refAbove4_any (T : List Nd) (hm : mayB T = true) (v : Value) (a : Int) (b : Nat) (hb : b < T.length) (w : World) (hT : TreeAt w v T) :
    Calls Tryz.prog 184 #[v, .int .i64 a, .int .i64 (b : Int)] w fun e w' => e = .returned (.bool (aboveS T a (b : Int))) ∧ Below w.heap.size w w' := by
  obtain ⟨tb, to, tc, rfl, _⟩ := hT.at (by omega)
  have HT := hideG hT
  have HM := hideG hm
  have HQ := hideG (aboveS_known hm a hb)
  have hpos := mayB_pos hm
  have hl : (castL (supN T b)).length ≤ 1000000 := by rw [castL_length]; have := supN_le T b; omega
  clear hT hm
  go_enter Tryz.func184, Tryz.ntmps184
  go_wp2_with (first | (go_at_call 212; refine (refUp4_any T HM.out _ b hb _ HT.out).mono ?_; rintro e w1 ⟨a1, c1, rfl, ho1, hb1⟩; have HI := hideG (ownsRow_ints ho1); have HB1 := hideG hb1; clear ho1 hb1; generalize castL (supN T b) = l at *) | (go_at_call 43; refine (refIn_any l _ _ _ HI.out hl).mono ?_; rintro e w3 ⟨rfl, hw⟩; subst hw))
  go_ret
  exact ⟨ret_bool HQ.out.symm, HB1.out⟩
set_option maxRecDepth 100000 in
set_option maxHeartbeats 2000000 in
theorem refRet4_in (T : List Nd) (hm : mayB T = true) (tb to tc : Nat) (b : Nat) (hb : b < T.length) : ∀ (d a : Nat), (upsL T a).length < d → a < T.length → ∀ (w : World), TreeAt w (.slice (some ⟨tb, to, none⟩) T.length tc) T →
    Calls Tryz.prog 225 #[.slice (some ⟨tb, to, none⟩) T.length tc, .int .i64 (a : Int), .int .i64 (b : Int)] w fun e w' => e = .returned (.int .i64 (ret T (supI T (b : Int)) a : Int)) ∧ Below w.heap.size w w'
  | 0, a, h, _ => by omega
  | d + 1, a, hd, ha => by
    intro w hT
    have IH := hideG (refRet4_in T hm tb to tc b hb d)
    obtain ⟨htl, _, hspl⟩ := sup_split hm ha
    obtain ⟨tb', to', tc', htv, hct⟩ := hT.at (by omega)
    simp only [Value.slice.injEq, Option.some.injEq, Addr.mk.injEq, and_true, true_and] at htv
    obtain ⟨⟨rfl, rfl⟩, rfl⟩ := htv
    obtain ⟨kv, av, hN⟩ := hct _ htl
    have G0 := hideG hN.kind
    have G4 := hideG hN.host
    have HT := hideG hT
    have HM := hideG hm
    have hpos := mayB_pos hm
    clear hT hm hct hN
    cases hk : ((nd T (topN T a)).kind != 3)
    · cases hcn : aboveS T (topN T a : Int) (b : Int)
      · rcases hspl with ⟨h3, _⟩ | ⟨h3, g, hgl, hh, heq⟩
        · exact absurd h3 (by simpa using hk)
        · have hlt := upsL_host heq
          have HST := hideG (ret_step HM.out (H := supI T (b : Int)) (by rw [hk]; exact hcn) hgl hh hlt)
          have HCN := hideG hcn
          have g4 := G4.out
          rw [hh] at g4
          have HG4 := hideG g4
          clear h3 hh heq hcn g4
          go_enter Tryz.func225, Tryz.ntmps225
          go_wp2_with (first | (go_at_call 196; refine (refTop3_any T HM.out _ a ha _ HT.out).mono ?_; rintro e w1 ⟨rfl, hb1⟩; have HB1 := hideG hb1; have g0 := cell_below hb1 G0.out; clear hb1) | (go_at_call 184; refine (refAbove4_any T HM.out _ _ b hb _ (HT.out.below HB1.out)).mono ?_; rintro e w2 ⟨rfl, hb2⟩; rw [HCN.out]; have HB2 := hideG (HB1.out.trans (hb2.mono HB1.out.size)); have g4 := cell_below HB2.out HG4.out; clear hb2) | (go_at_call 225; refine (IH.out g (by omega) hgl _ (HT.out.below HB2.out)).mono ?_; rintro e w3 ⟨rfl, hb3⟩; have HB3 := hideG (HB2.out.trans (hb3.mono HB2.out.size)); clear hb3))
          go_ret
          exact ⟨ret_int (by rw [HST.out]), HB3.out⟩
      · have HST := hideG (ret_stop (T := T) (H := supI T (b : Int)) (a := a) (by rw [hk]; exact hcn))
        have HCN := hideG hcn
        clear hspl hcn
        go_enter Tryz.func225, Tryz.ntmps225
        go_wp2_with (first | (go_at_call 196; refine (refTop3_any T HM.out _ a ha _ HT.out).mono ?_; rintro e w1 ⟨rfl, hb1⟩; have HB1 := hideG hb1; have g0 := cell_below hb1 G0.out; clear hb1) | (go_at_call 184; refine (refAbove4_any T HM.out _ _ b hb _ (HT.out.below HB1.out)).mono ?_; rintro e w2 ⟨rfl, hb2⟩; rw [HCN.out]; have HB2 := hideG (HB1.out.trans (hb2.mono HB1.out.size)); clear hb2))
        go_ret
        exact ⟨ret_int (by rw [HST.out]), HB2.out⟩
    · have HST := hideG (ret_stop (T := T) (H := supI T (b : Int)) (a := a) (by rw [hk]; rfl))
      clear hspl
      go_enter Tryz.func225, Tryz.ntmps225
      go_wp2_with (go_at_call 196; refine (refTop3_any T HM.out _ a ha _ HT.out).mono ?_; rintro e w1 ⟨rfl, hb1⟩; have HB1 := hideG hb1; have g0 := cell_below hb1 G0.out; clear hb1)
      go_ret
      exact ⟨ret_int (by rw [HST.out]), HB1.out⟩
theorem refRet4_any (T : List Nd) (hm : mayB T = true) (v : Value) (a b : Nat) (ha : a < T.length) (hb : b < T.length) (w : World) (hT : TreeAt w v T) :
    Calls Tryz.prog 225 #[v, .int .i64 (a : Int), .int .i64 (b : Int)] w fun e w' => e = .returned (.int .i64 (ret T (supI T (b : Int)) a : Int)) ∧ Below w.heap.size w w' := by
  obtain ⟨tb, to, tc, rfl, _⟩ := hT.at (by omega)
  exact refRet4_in T hm tb to tc b hb ((upsL T a).length + 1) a (by omega) ha w hT
theorem infoStR : (Tryz.prog.info? 42).map (fun i => (i.zero, i.size, i.bytes)) = some (some (.agg #[.int .i64 0, .int .i64 0, .int .i64 0]), 3, 24) := by kernel_rfl
theorem infoViR : (Tryz.prog.info? 44).map (fun i => (i.zero, i.size, i.bytes)) = some (some (.agg #[.int .i64 0, .int .i64 0, .int .i64 0, .int .i64 0, .bool false]), 5, 40) := by kernel_rfl
end Go.Proofs.YtpmacpbhdgigfaaGreat
namespace Go.Proofs.YtpmacpbhdgigfaaGreat
open Go.RowKit

set_option maxRecDepth 100000 in
set_option maxHeartbeats 4000000 in
theorem refParent7_any (T : List Nd) (hm : mayB T = true) (hS : Sane T) (v : Value) (n tg : Nat) (hn : n < T.length) (htl : tg < T.length) (e : Ev) (he : e.target = (tg : Int)) (w : World) (hT : TreeAt w v T) :
    Calls Tryz.prog 201 #[v, .int .i64 (n : Int), .agg #[.int .i64 e.type, .int .i64 e.target, .int .i64 e.related, .bool e.bub, .bool e.can, .bool e.comp]] w fun x w' => x = .returned (.int .i64 (parA T tg e.comp n)) ∧ Below w.heap.size w w' := by
  have HT := hideG hT
  have HS := hideG hS
  have HM := hideG hm
  obtain ⟨W0, hW0⟩ : ∃ W0, w.alloc (.cells #[.int .i64 e.type, .int .i64 e.target, .int .i64 e.related, .bool e.bub, .bool e.can, .bool e.comp] 25) = W0 := ⟨_, rfl⟩
  have HB0 := hideG (show Below w.heap.size w W0 by rw [← hW0]; exact (Below.refl _ w).alloc (Nat.le_refl _) _)
  have P1 := hideG (show W0.cell? ⟨w.heap.size, 1, none⟩ = some (.int .i64 (tg : Int)) by rw [← hW0, ← he]; simp)
  have P5 := hideG (show W0.cell? ⟨w.heap.size, 5, none⟩ = some (.bool e.comp) by rw [← hW0]; simp)
  have HW0 := hideG hW0
  obtain ⟨tb, to, tc, rfl, hct⟩ := hT.at (by omega)
  obtain ⟨kv, av, hN⟩ := hct n hn
  have G0 := hideG hN.kind
  have G2 := hideG hN.parent
  have G4 := hideG hN.host
  have hn0 : (0 : Int) ≤ (n : Int) := by omega
  rcases ofN_cases hm hn with ho | ⟨s, _, _, ho, _⟩
  · have E3 := hideG ho
    cases hk : ((nd T n).kind == 3)
    · have HQ := hideG (show parA T tg e.comp n = (nd T n).parent by unfold parA; rw [ho, hk]; rfl)
      have hne : ((nd T n).kind != 3) = true := by simp only [bne, hk]; rfl
      clear hT hS hm hct hN ho hk hW0 he
      go_enter Tryz.func201, Tryz.ntmps201
      go_wp2_with fail
      rw [HW0.out]
      refine (refOf5_any T HM.out HS.out _ n hn _ (HT.out.below HB0.out)).mono ?_
      rintro ex w1 ⟨rfl, hb1⟩
      rw [E3.out]
      have HB1 := hideG (HB0.out.trans (hb1.mono HB0.out.size))
      have HX1 := hideG hb1
      clear hb1
      have g0 := cell_below HB1.out G0.out
      have g2 := cell_below HB1.out G2.out
      have g4 := cell_below HB1.out G4.out
      have p1 := cell_below HX1.out P1.out
      have p5 := cell_below HX1.out P5.out
      go_wp2_with fail
      go_ret
      exact ⟨ret_int HQ.out.symm, HB1.out⟩
    · have hne : ((nd T n).kind != 3) = false := by simp only [bne, hk]; rfl
      rcases (Bool.eq_false_or_eq_true e.comp).symm with hc | hc
      · rw [hc] at P5
        cases hmt : (n == topN T tg)
        · have hme : ((topN T tg : Int) == (n : Int)) = false := by simp at hmt; simp; omega
          have HQ := hideG (show parA T tg e.comp n = (nd T n).host by unfold parA; rw [ho, hk, hmt]; rfl)
          clear hT hS hm hct hN ho hk hmt hc hW0 he
          go_enter Tryz.func201, Tryz.ntmps201
          go_wp2_with fail
          rw [HW0.out]
          refine (refOf5_any T HM.out HS.out _ n hn _ (HT.out.below HB0.out)).mono ?_
          rintro ex w1 ⟨rfl, hb1⟩
          rw [E3.out]
          have HB1 := hideG (HB0.out.trans (hb1.mono HB0.out.size))
          have HX1 := hideG hb1
          clear hb1
          have g0 := cell_below HB1.out G0.out
          have g2 := cell_below HB1.out G2.out
          have g4 := cell_below HB1.out G4.out
          have p1 := cell_below HX1.out P1.out
          have p5 := cell_below HX1.out P5.out
          go_wp2_with (go_at_call 196; refine (refTop3_any T HM.out _ tg htl _ (HT.out.below HB1.out)).mono ?_; rintro ex w2 ⟨rfl, hb2⟩; have HB2 := hideG (HB1.out.trans (hb2.mono HB1.out.size)); have g4' := cell_below HB2.out G4.out; clear hb2)
          go_ret
          exact ⟨ret_int HQ.out.symm, HB2.out⟩
        · have hme : ((topN T tg : Int) == (n : Int)) = true := by simp at hmt; simp; omega
          have HQ := hideG (show parA T tg e.comp n = -1 by unfold parA; rw [ho, hk, hmt, hc]; rfl)
          clear hT hS hm hct hN ho hk hmt hc hW0 he
          go_enter Tryz.func201, Tryz.ntmps201
          go_wp2_with fail
          rw [HW0.out]
          refine (refOf5_any T HM.out HS.out _ n hn _ (HT.out.below HB0.out)).mono ?_
          rintro ex w1 ⟨rfl, hb1⟩
          rw [E3.out]
          have HB1 := hideG (HB0.out.trans (hb1.mono HB0.out.size))
          have HX1 := hideG hb1
          clear hb1
          have g0 := cell_below HB1.out G0.out
          have g2 := cell_below HB1.out G2.out
          have g4 := cell_below HB1.out G4.out
          have p1 := cell_below HX1.out P1.out
          have p5 := cell_below HX1.out P5.out
          go_wp2_with (go_at_call 196; refine (refTop3_any T HM.out _ tg htl _ (HT.out.below HB1.out)).mono ?_; rintro ex w2 ⟨rfl, hb2⟩; have HB2 := hideG (HB1.out.trans (hb2.mono HB1.out.size)); have g4' := cell_below HB2.out G4.out; clear hb2)
          go_ret
          exact ⟨ret_int HQ.out.symm, HB2.out⟩
      · rw [hc] at P5
        have HQ := hideG (show parA T tg e.comp n = (nd T n).host by unfold parA; rw [ho, hk, hc]; simp)
        clear hT hS hm hct hN ho hk hc hW0 he
        go_enter Tryz.func201, Tryz.ntmps201
        go_wp2_with fail
        rw [HW0.out]
        refine (refOf5_any T HM.out HS.out _ n hn _ (HT.out.below HB0.out)).mono ?_
        rintro ex w1 ⟨rfl, hb1⟩
        rw [E3.out]
        have HB1 := hideG (HB0.out.trans (hb1.mono HB0.out.size))
        have HX1 := hideG hb1
        clear hb1
        have g0 := cell_below HB1.out G0.out
        have g2 := cell_below HB1.out G2.out
        have g4 := cell_below HB1.out G4.out
        have p1 := cell_below HX1.out P1.out
        have p5 := cell_below HX1.out P5.out
        go_wp2_with fail
        go_ret
        exact ⟨ret_int HQ.out.symm, HB1.out⟩
  · have E3 := hideG ho
    have hsn : ((s : Int) == -1) = false := by simp
    have hsm : ((s : Int) != -1) = true := by simp
    have HQ := hideG (show parA T tg e.comp n = (s : Int) by unfold parA; rw [ho, hsn]; rfl)
    clear hT hS hm hct hN ho hW0 he
    go_enter Tryz.func201, Tryz.ntmps201
    go_wp2_with fail
    rw [HW0.out]
    refine (refOf5_any T HM.out HS.out _ n hn _ (HT.out.below HB0.out)).mono ?_
    rintro ex w1 ⟨rfl, hb1⟩
    rw [E3.out]
    have HB1 := hideG (HB0.out.trans (hb1.mono HB0.out.size))
    have HX1 := hideG hb1
    clear hb1
    go_wp2_with fail
    go_ret
    exact ⟨ret_int HQ.out.symm, HB1.out⟩
end Go.Proofs.YtpmacpbhdgigfaaGreat
namespace Go.Proofs.YtpmacpbhdgigfaaGreat
open Go.RowKit

set_option maxRecDepth 100000 in
set_option maxHeartbeats 4000000 in
theorem refStop7_any (T : List Nd) (hm : mayB T = true) (v : Value) (n tg : Nat) (hn : n < T.length) (htl : tg < T.length) (e : Ev) (he : e.target = (tg : Int)) (w : World) (hT : TreeAt w v T) :
    Calls Tryz.prog 202 #[v, .int .i64 (n : Int), .agg #[.int .i64 e.type, .int .i64 e.target, .int .i64 e.related, .bool e.bub, .bool e.can, .bool e.comp]] w fun x w' => x = .returned (.agg #[.int .i64 (n : Int), .int .i64 (retI T e.target n), .int .i64 (retI T e.related n)]) ∧ Below w.heap.size w w' := by
  obtain ⟨ta, tc, rfl⟩ := hT.shape
  have HM := hideG hm
  obtain ⟨V, hV⟩ : ∃ V, (w.alloc (.cells #[.int .i64 e.type, .int .i64 e.target, .int .i64 e.related, .bool e.bub, .bool e.can, .bool e.comp] 25)).alloc (.cells #[.int .i64 0, .int .i64 0, .int .i64 0] 42) = V := ⟨_, rfl⟩
  have HBV := hideG (show Below w.heap.size w V by rw [← hV]; exact ((Below.refl _ w).alloc (Nat.le_refl _) _).alloc (by simp) _)
  have HVS := hideG (show V.heap.size = w.heap.size + 2 by rw [← hV]; simp)
  have p1 : V.cell? ⟨w.heap.size, 1, none⟩ = some (.int .i64 (tg : Int)) := by rw [← hV, ← he]; simp
  have P2 := hideG (show V.cell? ⟨w.heap.size, 2, none⟩ = some (.int .i64 e.related) by rw [← hV]; simp)
  have B0 := hideG (show V.cell? ⟨w.heap.size + 1, 0, none⟩ = some (.int .i64 0) by rw [← hV]; simp)
  have B1 := hideG (show V.cell? ⟨w.heap.size + 1, 1, none⟩ = some (.int .i64 0) by rw [← hV]; simp)
  have B2 := hideG (show V.cell? ⟨w.heap.size + 1, 2, none⟩ = some (.int .i64 0) by rw [← hV]; simp)
  have F0 := hideG (show V.frozen? ⟨w.heap.size + 1, 0, none⟩ = false by rw [← hV]; simp)
  have F1 := hideG (show V.frozen? ⟨w.heap.size + 1, 1, none⟩ = false by rw [← hV]; simp)
  have F2 := hideG (show V.frozen? ⟨w.heap.size + 1, 2, none⟩ = false by rw [← hV]; simp)
  have HT := hideG hT
  have HV := hideG hV
  have E1 := hideG (show retI T e.target n = (ret T (supI T (n : Int)) tg : Int) by rw [he]; exact retI_known hm htl hn)
  have HTE := hideG he
  clear hV he hT
  cases hr : isNodeB T.length e.related
  · have HR := hideG hr
    have E2 := hideG (show retI T e.related n = -1 by simp [retI, knownB, hr])
    clear hr hm
    go_enter Tryz.func202, Tryz.ntmps202
    go_wp2_with fail
    rw [HV.out, HTE.out]
    refine (refRet4_any T HM.out _ tg n htl hn _ (HT.out.below HBV.out)).mono ?_
    rintro ex w1 ⟨rfl, hb1⟩
    have HB1 := hideG hb1
    have p2 := cell_below hb1 P2.out
    have hl1 : w.heap.size < w1.heap.size := below_of_cell p2
    have b0 := cell_below hb1 B0.out
    have hl2 : w.heap.size + 1 < w1.heap.size := below_of_cell b0
    have b1 := cell_below hb1 B1.out
    have b2 := cell_below hb1 B2.out
    have f0 := frozen_below hb1 B0.out F0.out
    have f1 := frozen_below hb1 B1.out F1.out
    have f2 := frozen_below hb1 B2.out F2.out
    clear hb1 p1
    go_wp2_with (go_at_call 53; refine (refIs_any _ _ _ _ _).mono ?_; rintro ex w2 ⟨rfl, hw2⟩; rw [HR.out]; subst hw2)
    refine bodyPost_ret (v := .agg #[.int .i64 (n : Int), .int .i64 (ret T (supI T (n : Int)) tg : Int), .int .i64 (-1)]) (by simp [results, Tryz.results202, go_sem, *]) rfl ⟨by rw [E1.out, E2.out], ?_⟩
    have hz := (HBV.out.trans (HB1.out.mono HBV.out.size))
    exact ((((hz.setCell (p := ⟨w.heap.size + 1, 0, none⟩) (by simp) _).setCell (p := ⟨w.heap.size + 1, 1, none⟩) (by simp) _).setCell (p := ⟨w.heap.size + 1, 2, none⟩) (by simp) _).alloc (by simp; omega) _)
  · obtain ⟨r, hre, hrl⟩ := isNodeB_true hr
    have HR := hideG hr
    have E2 := hideG (show retI T e.related n = (ret T (supI T (n : Int)) r : Int) by rw [hre]; exact retI_known hm hrl hn)
    have HRE := hideG hre
    rw [hre] at P2
    clear hr hm hre
    go_enter Tryz.func202, Tryz.ntmps202
    go_wp2_with fail
    rw [HV.out, HTE.out]
    refine (refRet4_any T HM.out _ tg n htl hn _ (HT.out.below HBV.out)).mono ?_
    rintro ex w1 ⟨rfl, hb1⟩
    have HB1 := hideG hb1
    have p2 := cell_below hb1 P2.out
    have hl1 : w.heap.size < w1.heap.size := below_of_cell p2
    have b0 := cell_below hb1 B0.out
    have hl2 : w.heap.size + 1 < w1.heap.size := below_of_cell b0
    have b1 := cell_below hb1 B1.out
    have b2 := cell_below hb1 B2.out
    have f0 := frozen_below hb1 B0.out F0.out
    have f1 := frozen_below hb1 B1.out F1.out
    have f2 := frozen_below hb1 B2.out F2.out
    clear hb1 p1
    go_wp2_with fail
    refine (refIs_any _ _ _ _ _).mono ?_
    rintro ex w2 ⟨rfl, hw2⟩
    rw [← HRE.out, HR.out, HRE.out]
    subst hw2
    go_wp2_with fail
    have HBA := hideG ((HBV.out.trans (HB1.out.mono HBV.out.size)).alloc (by omega) (.cells #[.int .i64 (n : Int), .int .i64 (ret T (supI T (n : Int)) tg : Int), .int .i64 (-1)] 42))
    refine (refRet4_any T HM.out _ r n hrl hn _ (HT.out.below HBA.out)).mono ?_
    rintro ex w3 ⟨rfl, hb3⟩
    have HB3 := hideG hb3; have b0x := cell_below hb3 (cell_alloc_l (.cells #[.int .i64 (n : Int), .int .i64 (ret T (supI T (n : Int)) tg : Int), .int .i64 (-1)] 42) b0); have f0x := frozen_below hb3 (cell_alloc_l (.cells #[.int .i64 (n : Int), .int .i64 (ret T (supI T (n : Int)) tg : Int), .int .i64 (-1)] 42) b0) (frozen_alloc_l (.cells #[.int .i64 (n : Int), .int .i64 (ret T (supI T (n : Int)) tg : Int), .int .i64 (-1)] 42) b0 f0); have b1x := cell_below hb3 (cell_alloc_l (.cells #[.int .i64 (n : Int), .int .i64 (ret T (supI T (n : Int)) tg : Int), .int .i64 (-1)] 42) b1); have f1x := frozen_below hb3 (cell_alloc_l (.cells #[.int .i64 (n : Int), .int .i64 (ret T (supI T (n : Int)) tg : Int), .int .i64 (-1)] 42) b1) (frozen_alloc_l (.cells #[.int .i64 (n : Int), .int .i64 (ret T (supI T (n : Int)) tg : Int), .int .i64 (-1)] 42) b1 f1); have b2x := cell_below hb3 (cell_alloc_l (.cells #[.int .i64 (n : Int), .int .i64 (ret T (supI T (n : Int)) tg : Int), .int .i64 (-1)] 42) b2); have f2x := frozen_below hb3 (cell_alloc_l (.cells #[.int .i64 (n : Int), .int .i64 (ret T (supI T (n : Int)) tg : Int), .int .i64 (-1)] 42) b2) (frozen_alloc_l (.cells #[.int .i64 (n : Int), .int .i64 (ret T (supI T (n : Int)) tg : Int), .int .i64 (-1)] 42) b2 f2); have c0x := cell_below hb3 (show (w1.alloc (.cells #[.int .i64 (n : Int), .int .i64 (ret T (supI T (n : Int)) tg : Int), .int .i64 (-1)] 42)).cell? ⟨w1.heap.size, 0, none⟩ = some (.int .i64 (n : Int)) by simp); have d0x := frozen_below hb3 (show (w1.alloc (.cells #[.int .i64 (n : Int), .int .i64 (ret T (supI T (n : Int)) tg : Int), .int .i64 (-1)] 42)).cell? ⟨w1.heap.size, 0, none⟩ = some (.int .i64 (n : Int)) by simp) (show (w1.alloc (.cells #[.int .i64 (n : Int), .int .i64 (ret T (supI T (n : Int)) tg : Int), .int .i64 (-1)] 42)).frozen? ⟨w1.heap.size, 0, none⟩ = false by simp); have c1x := cell_below hb3 (show (w1.alloc (.cells #[.int .i64 (n : Int), .int .i64 (ret T (supI T (n : Int)) tg : Int), .int .i64 (-1)] 42)).cell? ⟨w1.heap.size, 1, none⟩ = some (.int .i64 (ret T (supI T (n : Int)) tg : Int)) by simp); have d1x := frozen_below hb3 (show (w1.alloc (.cells #[.int .i64 (n : Int), .int .i64 (ret T (supI T (n : Int)) tg : Int), .int .i64 (-1)] 42)).cell? ⟨w1.heap.size, 1, none⟩ = some (.int .i64 (ret T (supI T (n : Int)) tg : Int)) by simp) (show (w1.alloc (.cells #[.int .i64 (n : Int), .int .i64 (ret T (supI T (n : Int)) tg : Int), .int .i64 (-1)] 42)).frozen? ⟨w1.heap.size, 1, none⟩ = false by simp); have c2x := cell_below hb3 (show (w1.alloc (.cells #[.int .i64 (n : Int), .int .i64 (ret T (supI T (n : Int)) tg : Int), .int .i64 (-1)] 42)).cell? ⟨w1.heap.size, 2, none⟩ = some (.int .i64 (-1)) by simp); have d2x := frozen_below hb3 (show (w1.alloc (.cells #[.int .i64 (n : Int), .int .i64 (ret T (supI T (n : Int)) tg : Int), .int .i64 (-1)] 42)).cell? ⟨w1.heap.size, 2, none⟩ = some (.int .i64 (-1)) by simp) (show (w1.alloc (.cells #[.int .i64 (n : Int), .int .i64 (ret T (supI T (n : Int)) tg : Int), .int .i64 (-1)] 42)).frozen? ⟨w1.heap.size, 2, none⟩ = false by simp); have hl3 : w1.heap.size < w3.heap.size := below_of_cell c0x; have hne : w1.heap.size ≠ w.heap.size + 1 := (by omega); clear hb3 b0 b1 b2 f0 f1 f2 p2
    go_wp2_with fail
    refine bodyPost_ret (v := .agg #[.int .i64 (n : Int), .int .i64 (ret T (supI T (n : Int)) tg : Int), .int .i64 (ret T (supI T (n : Int)) r : Int)]) (by simp [results, Tryz.results202, go_sem, *]) rfl ⟨by rw [E1.out, E2.out], ?_⟩
    have hz := HBA.out.trans (HB3.out.mono HBA.out.size)
    have hw1 : w.heap.size ≤ w1.heap.size := (HBV.out.trans (HB1.out.mono HBV.out.size)).size
    refine Below.setCell (Below.setCell (Below.setCell (Below.setCell hz ?_ _) ?_ _) ?_ _) ?_ _ <;> first | exact hw1 | exact Nat.le_succ _
end Go.Proofs.YtpmacpbhdgigfaaGreat
namespace Go.Proofs.YtpmacpbhdgigfaaGreat
open Go.RowKit

set_option maxRecDepth 100000 in
set_option maxHeartbeats 8000000 in
theorem refPath7_any (T : List Nd) (hS : Sane T) (v : Value) (e : Ev) (hkt : knownB T [e.target] = true) (w : World) (hT : TreeAt w v T) :
    Calls Tryz.prog 173 #[v, .agg #[.int .i64 e.type, .int .i64 e.target, .int .i64 e.related, .bool e.bub, .bool e.can, .bool e.comp]] w fun x w' => ∃ a c, x = .returned (.slice a (pathI T e).length c) ∧ w'.ownsRow w.heap.size 42 3 (.slice a (pathI T e).length c) (pathI T e).length (stCells (pathI T e)) ∧ Below w.heap.size w w' := by
  obtain ⟨i0, hi0, hz0, hz1, hz2⟩ := info_parts infoStR
  have HT := hideG hT
  have HS := hideG hS
  obtain ⟨W0, hW0⟩ : ∃ W0, w.alloc (.cells #[.int .i64 e.type, .int .i64 e.target, .int .i64 e.related, .bool e.bub, .bool e.can, .bool e.comp] 25) = W0 := ⟨_, rfl⟩
  have HB0 := hideG (show Below w.heap.size w W0 by rw [← hW0]; exact (Below.refl _ w).alloc (Nat.le_refl _) _)
  have P0 := hideG (show W0.cell? ⟨w.heap.size, 0, none⟩ = some (.int .i64 e.type) by rw [← hW0]; simp)
  have P1 := hideG (show W0.cell? ⟨w.heap.size, 1, none⟩ = some (.int .i64 e.target) by rw [← hW0]; simp)
  have P2 := hideG (show W0.cell? ⟨w.heap.size, 2, none⟩ = some (.int .i64 e.related) by rw [← hW0]; simp)
  have P3 := hideG (show W0.cell? ⟨w.heap.size, 3, none⟩ = some (.bool e.bub) by rw [← hW0]; simp)
  have P4 := hideG (show W0.cell? ⟨w.heap.size, 4, none⟩ = some (.bool e.can) by rw [← hW0]; simp)
  have P5 := hideG (show W0.cell? ⟨w.heap.size, 5, none⟩ = some (.bool e.comp) by rw [← hW0]; simp)
  have HW0 := hideG hW0
  clear hW0
  obtain ⟨hm, tg, htg, htl⟩ := known_one hkt
  have HQ := hideG (show pathI T e = pathA T e tg by unfold pathI; rw [hkt, htg]; simp)
  have HPL := hideG (pathI_le (T := T) e)
  obtain ⟨tb, to, tc, rfl, hct⟩ := hT.at (by omega)
  have HM := hideG hm
  have HTG := hideG htg
  clear hT hS hkt hct hm htg
  have p1 := P1.out
  go_enter Tryz.func173, Tryz.ntmps173
  go_wp2_with fail
  rw [HW0.out]
  go_loopw [5, 6] (fun p i wr => ∃ (pre : List St) (oa : Option Addr) (oc : Nat), p = .slice oa pre.length oc ∧ wr.ownsRow W0.heap.size 42 3 (.slice oa pre.length oc) pre.length (stCells pre) ∧ Below W0.heap.size W0 wr ∧ ((∃ m : Nat, m < T.length ∧ i = .int .i64 (m : Int) ∧ pathI T e = pre ++ pathA T e m) ∨ (i = .int .i64 (-1) ∧ pathI T e = pre))) (fun _ i _ => if intOf i = -1 then 0 else rkF T (intOf i).toNat + 1)
  case atStart => exact ⟨[], none, 0, rfl, World.ownsRow_nil _ _ _ _, Below.refl _ _, .inl ⟨tg, htl, by rw [HTG.out], by rw [HQ.out]; rfl⟩⟩
  case round =>
    obtain ⟨pre, oa, oc, rfl, hown, hB, hrel⟩ := hrel
    have HOW := hideG hown
    have HB := hideG hB
    have HBw := hideG (HB0.out.trans (hB.mono HB0.out.size))
    have p0 := cell_below hB P0.out
    have p1 := cell_below hB P1.out
    have p2 := cell_below hB P2.out
    have p3 := cell_below hB P3.out
    have p4 := cell_below hB P4.out
    have p5 := cell_below hB P5.out
    have hpl : pre.length ≤ 64 := by
      have h1 := HPL.out
      rcases hrel with ⟨m, _, _, h2⟩ | ⟨_, h2⟩
      · rw [h2, List.length_append] at h1; omega
      · rw [h2] at h1; exact h1
    clear hown hB
    rcases hrel with ⟨m, hml, rfl, hpm⟩ | ⟨rfl, hpm⟩
    · have HPM := hideG hpm
      clear hpm
      have hm1 : ((m : Int) != -1) = true := by simp
      have HST := hideG (refStop7_any T HM.out (.slice (some ⟨tb, to, none⟩) T.length tc) m tg hml htl e HTG.out wr (HT.out.below HBw.out))
      cases ho : oneS e (stopT T e m)
      · have HPAR := hideG (show parA T tg e.comp m = parA T e.target.toNat e.comp m by rw [HTG.out, Int.toNat_natCast])
        have HO := hideG ho
        have hor : ((stopT T e m).tg == (stopT T e m).rel) = false ∨ (((stopT T e m).tg == (stopT T e m).rel) = true ∧ (e.target != e.related) = false) := by
          unfold oneS at ho
          cases h1 : ((stopT T e m).tg == (stopT T e m).rel)
          · exact .inl rfl
          · rw [h1] at ho
            exact .inr ⟨rfl, by rw [bne]; simpa using ho⟩
        clear ho
        rcases hor with h1 | ⟨h1, h2⟩
        · simp only [stopT] at h1
          go_wp2_with (first | (go_at_call 202; refine HST.out.mono ?_; rintro ex w2 ⟨rfl, hb2⟩; have HB2 := hideG hb2; clear hb2; have q0 := cell_below HB2.out p0; have q1 := cell_below HB2.out p1; have q2 := cell_below HB2.out p2; have q3 := cell_below HB2.out p3; have q4 := cell_below HB2.out p4; have q5 := cell_below HB2.out p5; have hlt2 : w.heap.size < w2.heap.size := below_of_cell q1; have HOW2 := hideG (ownsRow_below HOW.out HB2.out (fun j e => (HOW.out.lt j e).2)); clear p0 p1 p2 p3 p4 p5) | (at_builtin; refine wpList_append_any rfl (.tmp 33) (.tmp 35) 165 rfl W0.heap.size 42 i0 _ 3 24 Tryz.underlying165 hi0 hz0 hz1 hz2 rfl (by decide) _ pre.length (stCells pre) rfl ((HOW2.out.alloc _).alloc _) _ 1 [.int .i64 (m : Int), .int .i64 (retI T e.target m), .int .i64 (retI T e.related m)] rfl (row_newS2 _ _ _ _ _ _) rfl ?h2 ?h3 ?h4 ?h5 ?_))
          case h2 => intro y hy; simp at hy; rcases hy with rfl | rfl | rfl <;> rfl
          case h3 => simp only [maxLen]; omega
          case h4 => omega
          case h5 => have h1 := HB.out.size; have h2 := HB2.out.size; simp; omega
          intro v4 w4 ho4 hg4 hf4
          obtain ⟨a4, c4, rfl⟩ := ownsRow_shape ho4
          have ec : stCells pre ++ [.int .i64 (m : Int), .int .i64 (retI T e.target m), .int .i64 (retI T e.related m)] = stCells (pre ++ [stopT T e m]) := by rw [stCells_append]; rfl
          rw [ec] at ho4
          have HB3 := hideG ((HB2.out.alloc HB2.out.size (.cells #[.int .i64 (m : Int), .int .i64 (retI T e.target m), .int .i64 (retI T e.related m)] 42)).alloc (HB2.out.alloc HB2.out.size (.cells #[.int .i64 (m : Int), .int .i64 (retI T e.target m), .int .i64 (retI T e.related m)] 42)).size (.cells #[.int .i64 (m : Int), .int .i64 (retI T e.target m), .int .i64 (retI T e.related m)] 42))
          have HB4 := hideG ((HB.out.trans (HB3.out.mono HB.out.size)).grown hg4 (HB.out.trans (HB3.out.mono HB.out.size)).size (fun j e => (HOW2.out.lt j e).1))
          have HO4 := hideG ho4
          clear ho4 hg4 hf4 ec q0 q1 q2 q3 q4 q5
          have p0 := cell_below HB4.out P0.out; have p1 := cell_below HB4.out P1.out; have p2 := cell_below HB4.out P2.out; have p3 := cell_below HB4.out P3.out; have p4 := cell_below HB4.out P4.out; have p5 := cell_below HB4.out P5.out
          have HP := hideG (refParent7_any T HM.out HS.out (.slice (some ⟨tb, to, none⟩) T.length tc) m tg hml htl e HTG.out w4 (HT.out.below (HB0.out.trans (HB4.out.mono HB0.out.size))))
          rcases parA_cases HM.out e.target.toNat e.comp hml with hp | ⟨m', hml', hp, hr⟩
          · have HR := hideG (pathA_none hml HO.out hp)
            have HE := hideG (HPAR.out.trans hp)
            clear hp
            go_wp2_with (go_at_call 201; refine HP.out.mono ?_; rw [HE.out]; rintro ex w5 ⟨rfl, hb5⟩; have HB5 := hideG hb5; clear hb5)
            go_roundw
            case rel => exact ⟨pre ++ [stopT T e m], a4, c4, by simp, by simpa using ownsRow_below HO4.out HB5.out (fun j e => (HO4.out.lt j e).2), HB4.out.trans (HB5.out.mono HB4.out.size), .inr ⟨rfl, by rw [HPM.out, HR.out]⟩⟩
            case measure =>
              have h2 : ¬ ((m : Int) = -1) := by omega
              simp [intOf, h2]
          · have HR := hideG (pathA_some HM.out hml HO.out hp)
            have HE := hideG (HPAR.out.trans hp)
            clear hp
            go_wp2_with (go_at_call 201; refine HP.out.mono ?_; rw [HE.out]; rintro ex w5 ⟨rfl, hb5⟩; have HB5 := hideG hb5; clear hb5)
            go_roundw
            case rel => exact ⟨pre ++ [stopT T e m], a4, c4, by simp, by simpa using ownsRow_below HO4.out HB5.out (fun j e => (HO4.out.lt j e).2), HB4.out.trans (HB5.out.mono HB4.out.size), .inl ⟨m', hml', rfl, by rw [HPM.out, HR.out.2.1]; simp⟩⟩
            case measure =>
              simp [intOf]
              omega
        · simp only [stopT] at h1
          go_wp2_with (first | (go_at_call 202; refine HST.out.mono ?_; rintro ex w2 ⟨rfl, hb2⟩; have HB2 := hideG hb2; clear hb2; have q0 := cell_below HB2.out p0; have q1 := cell_below HB2.out p1; have q2 := cell_below HB2.out p2; have q3 := cell_below HB2.out p3; have q4 := cell_below HB2.out p4; have q5 := cell_below HB2.out p5; have hlt2 : w.heap.size < w2.heap.size := below_of_cell q1; have HOW2 := hideG (ownsRow_below HOW.out HB2.out (fun j e => (HOW.out.lt j e).2)); clear p0 p1 p2 p3 p4 p5) | (at_builtin; refine wpList_append_any rfl (.tmp 33) (.tmp 35) 165 rfl W0.heap.size 42 i0 _ 3 24 Tryz.underlying165 hi0 hz0 hz1 hz2 rfl (by decide) _ pre.length (stCells pre) rfl ((HOW2.out.alloc _).alloc _) _ 1 [.int .i64 (m : Int), .int .i64 (retI T e.target m), .int .i64 (retI T e.related m)] rfl (row_newS2 _ _ _ _ _ _) rfl ?h2 ?h3 ?h4 ?h5 ?_))
          case h2 => intro y hy; simp at hy; rcases hy with rfl | rfl | rfl <;> rfl
          case h3 => simp only [maxLen]; omega
          case h4 => omega
          case h5 => have h1 := HB.out.size; have h2 := HB2.out.size; simp; omega
          intro v4 w4 ho4 hg4 hf4
          obtain ⟨a4, c4, rfl⟩ := ownsRow_shape ho4
          have ec : stCells pre ++ [.int .i64 (m : Int), .int .i64 (retI T e.target m), .int .i64 (retI T e.related m)] = stCells (pre ++ [stopT T e m]) := by rw [stCells_append]; rfl
          rw [ec] at ho4
          have HB3 := hideG ((HB2.out.alloc HB2.out.size (.cells #[.int .i64 (m : Int), .int .i64 (retI T e.target m), .int .i64 (retI T e.related m)] 42)).alloc (HB2.out.alloc HB2.out.size (.cells #[.int .i64 (m : Int), .int .i64 (retI T e.target m), .int .i64 (retI T e.related m)] 42)).size (.cells #[.int .i64 (m : Int), .int .i64 (retI T e.target m), .int .i64 (retI T e.related m)] 42))
          have HB4 := hideG ((HB.out.trans (HB3.out.mono HB.out.size)).grown hg4 (HB.out.trans (HB3.out.mono HB.out.size)).size (fun j e => (HOW2.out.lt j e).1))
          have HO4 := hideG ho4
          clear ho4 hg4 hf4 ec q0 q1 q2 q3 q4 q5
          have p0 := cell_below HB4.out P0.out; have p1 := cell_below HB4.out P1.out; have p2 := cell_below HB4.out P2.out; have p3 := cell_below HB4.out P3.out; have p4 := cell_below HB4.out P4.out; have p5 := cell_below HB4.out P5.out
          have HP := hideG (refParent7_any T HM.out HS.out (.slice (some ⟨tb, to, none⟩) T.length tc) m tg hml htl e HTG.out w4 (HT.out.below (HB0.out.trans (HB4.out.mono HB0.out.size))))
          rcases parA_cases HM.out e.target.toNat e.comp hml with hp | ⟨m', hml', hp, hr⟩
          · have HR := hideG (pathA_none hml HO.out hp)
            have HE := hideG (HPAR.out.trans hp)
            clear hp
            go_wp2_with (go_at_call 201; refine HP.out.mono ?_; rw [HE.out]; rintro ex w5 ⟨rfl, hb5⟩; have HB5 := hideG hb5; clear hb5)
            go_roundw
            case rel => exact ⟨pre ++ [stopT T e m], a4, c4, by simp, by simpa using ownsRow_below HO4.out HB5.out (fun j e => (HO4.out.lt j e).2), HB4.out.trans (HB5.out.mono HB4.out.size), .inr ⟨rfl, by rw [HPM.out, HR.out]⟩⟩
            case measure =>
              have h2 : ¬ ((m : Int) = -1) := by omega
              simp [intOf, h2]
          · have HR := hideG (pathA_some HM.out hml HO.out hp)
            have HE := hideG (HPAR.out.trans hp)
            clear hp
            go_wp2_with (go_at_call 201; refine HP.out.mono ?_; rw [HE.out]; rintro ex w5 ⟨rfl, hb5⟩; have HB5 := hideG hb5; clear hb5)
            go_roundw
            case rel => exact ⟨pre ++ [stopT T e m], a4, c4, by simp, by simpa using ownsRow_below HO4.out HB5.out (fun j e => (HO4.out.lt j e).2), HB4.out.trans (HB5.out.mono HB4.out.size), .inl ⟨m', hml', rfl, by rw [HPM.out, HR.out.2.1]; simp⟩⟩
            case measure =>
              simp [intOf]
              omega
      · have h1 : ((stopT T e m).tg == (stopT T e m).rel) = true := by unfold oneS at ho; simp only [Bool.and_eq_true] at ho; exact ho.1
        have h2 : (e.target != e.related) = true := by unfold oneS at ho; simp only [Bool.and_eq_true] at ho; exact ho.2
        have HQ2 := hideG (show pathI T e = pre by rw [HPM.out, pathA_stop HM.out hml ho, List.append_nil])
        clear ho
        simp only [stopT] at h1
        go_wp2_with (go_at_call 202; refine HST.out.mono ?_; rintro ex w2 ⟨rfl, hb2⟩; have HB2 := hideG hb2; clear hb2; have q0 := cell_below HB2.out p0; have q1 := cell_below HB2.out p1; have q2 := cell_below HB2.out p2; have q3 := cell_below HB2.out p3; have q4 := cell_below HB2.out p4; have q5 := cell_below HB2.out p5; have hlt2 : w.heap.size < w2.heap.size := below_of_cell q1; have HOW2 := hideG (ownsRow_below HOW.out HB2.out (fun j e => (HOW.out.lt j e).2)); clear p0 p1 p2 p3 p4 p5)
        go_ret
        rw [HQ2.out]
        exact ⟨oa, oc, rfl, ownsRow_base (ownsRow_below HOW.out (HB2.out.alloc HB2.out.size _) (fun j e => (HOW.out.lt j e).2)) HB0.out.size, (HBw.out.trans (HB2.out.mono HBw.out.size)).alloc (HBw.out.trans (HB2.out.mono HBw.out.size)).size _⟩
    · rw [← hpm] at HOW ⊢
      go_wp2_with fail
      go_ret
      exact ⟨oa, oc, rfl, ownsRow_base HOW.out HB0.out.size, HBw.out⟩
end Go.Proofs.YtpmacpbhdgigfaaGreat
namespace Go.Proofs.YtpmacpbhdgigfaaGreat
open Go.RowKit

theorem drop_rev (p : List St) {k : Nat} (h : k < p.length) : ((p.drop k).reverse).map (vis true) = ((p.drop (k + 1)).reverse).map (vis true) ++ [vis true (p.getD k stD)] := by
  rw [List.drop_eq_getElem_cons h, List.reverse_cons, List.map_append, List.getD_eq_getElem?_getD, List.getElem?_eq_getElem h]; rfl
theorem drop_rev_le (p : List St) (k : Nat) : (((p.drop k).reverse).map (vis true)).length ≤ p.length := by simp

set_option maxRecDepth 100000 in
set_option maxHeartbeats 8000000 in
theorem refVisits7_any (T : List Nd) (hS : Sane T) (v : Value) (e : Ev) (hkt : knownB T [e.target] = true) (w : World) (hT : TreeAt w v T) :
    Calls Tryz.prog 132 #[v, .agg #[.int .i64 e.type, .int .i64 e.target, .int .i64 e.related, .bool e.bub, .bool e.can, .bool e.comp]] w fun x w' => ∃ a c, x = .returned (.slice a (visitsI T e).length c) ∧ w'.ownsRow w.heap.size 44 5 (.slice a (visitsI T e).length c) (visitsI T e).length (viCells (visitsI T e)) ∧ Below w.heap.size w w' := by
  obtain ⟨i0, hi0, hz0, hz1, hz2⟩ := info_parts infoViR
  obtain ⟨ta, tc, rfl⟩ := hT.shape
  have HT := hideG hT
  have HS := hideG hS
  obtain ⟨W0, hW0⟩ : ∃ W0, w.alloc (.cells #[.int .i64 e.type, .int .i64 e.target, .int .i64 e.related, .bool e.bub, .bool e.can, .bool e.comp] 25) = W0 := ⟨_, rfl⟩
  have HB0 := hideG (show Below w.heap.size w W0 by rw [← hW0]; exact (Below.refl _ w).alloc (Nat.le_refl _) _)
  have P3 := hideG (show W0.cell? ⟨w.heap.size, 3, none⟩ = some (.bool e.bub) by rw [← hW0]; simp)
  have HPL := hideG (pathI_le (T := T) e)
  have HPA := hideG (refPath7_any T HS.out (.slice ta T.length tc) e hkt W0 (HT.out.below HB0.out))
  have HW0 := hideG hW0
  clear hT hS hW0 hkt
  go_enter Tryz.func132, Tryz.ntmps132
  go_wp2_with fail
  rw [HW0.out]
  refine HPA.out.mono ?_
  rintro ex w1 ⟨pa, pc, rfl, ho1, hb1⟩
  have HVD := hideG (show visitsI T e = visitsL (pathI T e) e.bub from rfl)
  generalize pathI T e = p at *
  have HB1 := hideG (HB0.out.trans (hb1.mono HB0.out.size))
  have Q3 := hideG (cell_below hb1 P3.out)
  have HST := hideG (ownsRow_stCells ho1)
  have hpl : p.length ≤ 64 := HPL.out
  have hw0 : IntKind.i64.wrap ((p.length : Int) - 1) = (p.length : Int) - 1 := by rw [IntKind.wrap_i64]; omega
  clear ho1 hb1
  go_wp2_with fail
  clear hw0
  go_loopw [5, 7] (fun o i wr => ∃ (k : Nat) (oa : Option Addr) (oc : Nat), k ≤ p.length ∧ i = .int .i64 ((k : Int) - 1) ∧ o = .slice oa (((p.drop k).reverse).map (vis true)).length oc ∧ wr.ownsRow w1.heap.size 44 5 (.slice oa (((p.drop k).reverse).map (vis true)).length oc) (((p.drop k).reverse).map (vis true)).length (viCells (((p.drop k).reverse).map (vis true))) ∧ Below w1.heap.size w1 wr) (fun _ i _ => (intOf i + 1).toNat)
  case atStart => exact ⟨p.length, none, 0, Nat.le_refl _, by first | rfl | simp, by simp, by simp only [List.drop_length, List.reverse_nil, List.map_nil, viCells]; exact World.ownsRow_nil _ _ _ _, Below.refl _ _⟩
  case round =>
    obtain ⟨k, oa, oc, hk, rfl, rfl, hown, hB⟩ := hrel
    have HOW := hideG hown
    have HB := hideG hB
    have HBw := hideG (HB1.out.trans (hB.mono HB1.out.size))
    clear hown hB
    cases k with
    | zero =>
      have e0 : ((0 : Nat) : Int) - 1 = -1 := rfl
      rw [e0]
      rw [show ((p.drop 0).reverse).map (vis true) = visK p e.bub 0 by simp [visK]] at HOW ⊢
      go_wp2_with fail
      go_loopw [5, 9] (fun o i wr2 => ∃ (k : Nat) (oa : Option Addr) (oc : Nat), k ≤ p.length ∧ i = .int .i64 (k : Int) ∧ o = .slice oa (visK p e.bub k).length oc ∧ wr2.ownsRow w1.heap.size 44 5 (.slice oa (visK p e.bub k).length oc) (visK p e.bub k).length (viCells (visK p e.bub k)) ∧ Below w1.heap.size w1 wr2) (fun _ i _ => p.length - (intOf i).toNat)
      case atStart => exact ⟨0, oa, oc, Nat.zero_le _, rfl, rfl, HOW.out, HB.out⟩
      case round =>
        obtain ⟨k, oa, oc, hk, rfl, rfl, hown, hB⟩ := hrel
        have HOW := hideG hown
        have HB := hideG hB
        have HBw := hideG (HB1.out.trans (hB.mono HB1.out.size))
        have q3 := cell_below hB Q3.out
        clear hown hB
        by_cases hlt : k < p.length
        · have HE := hideG (visK_succ p e.bub hlt)
          have hvl := visK_le p e.bub k
          obtain ⟨a', c', hav, hd⟩ := HST.out
          simp only [Value.slice.injEq, true_and] at hav
          obtain ⟨rfl, rfl⟩ := hav
          obtain ⟨b, off, rfl, hd'⟩ := hd.2 (by omega)
          have hH := (hd' k hlt).below HB.out
          generalize p.getD k stD = x at *
          have g0 := hH.node
          have g1 := hH.tg
          have g2 := hH.rel
          have hk0 : (0 : Int) ≤ (k : Int) := by omega
          have hk1 : (k : Int) < (p.length : Int) := by omega
          have hbb : b < wr.heap.size := below_of_cell g0
          clear hd hd' hH
          generalize visK p e.bub k = cur at *
          cases hn : (x.node == x.tg)
          · have HV := hideG (show (vis false x) = ⟨x, 3, false⟩ by simp [vis, hn])
            rcases (Bool.eq_false_or_eq_true e.bub).symm with hbu | hbu
            · rw [show backP e.bub (vis false x) = false by rw [HV.out]; simp [backP, hbu]] at HE
              simp only [Bool.false_eq_true, if_false, List.append_nil] at HE
              rw [hbu] at q3
              clear hbu
              go_wp2_with fail
              go_region
              go_wp2_with fail
              go_roundw
              case rel => exact ⟨k + 1, oa, oc, by omega, by go_num, by rw [HE.out], by rw [HE.out]; exact ownsRow_below HOW.out (below_drew' (Below.refl _ _)) (fun j e => (HOW.out.lt j e).2), below_drew' HB.out⟩
              case measure => simp [intOf]; omega
            · rw [show backP e.bub (vis false x) = true by rw [HV.out]; simp [backP, hbu]] at HE
              simp only [if_true] at HE
              rw [hbu] at q3
              clear hbu
              go_wp2_with fail
              go_region
              go_wp2_with (at_builtin; refine wpList_append_any rfl (.tmp 68) (.tmp 74) 143 rfl w1.heap.size 44 i0 _ 5 40 Tryz.underlying143 hi0 hz0 hz1 hz2 rfl (by decide) _ cur.length (viCells cur) rfl (HOW.out.alloc _) _ 1 [.int .i64 x.node, .int .i64 x.tg, .int .i64 x.rel, .int .i64 3, .bool false] rfl (row_newV1 _ _ x 3 false) rfl ?h2 ?h3 ?h4 ?h5 ?_)
              case h2 => intro u hu; simp at hu; rcases hu with rfl | rfl | rfl | rfl | rfl <;> rfl
              case h3 => simp only [maxLen]; omega
              case h4 => omega
              case h5 => have h1 := HB.out.size; simp; omega
              intro v4 w4 ho4 hg4 hf4
              obtain ⟨a4, c4, rfl⟩ := ownsRow_shape ho4
              have ec : viCells cur ++ [.int .i64 x.node, .int .i64 x.tg, .int .i64 x.rel, .int .i64 3, .bool false] = viCells (cur ++ [vis false x]) := by rw [viCells_append, HV.out]; rfl
              rw [ec, ← HE.out] at ho4
              have hBA := below_drew' ((Below.refl wr.heap.size wr).alloc (Nat.le_refl _) (.cells #[.int .i64 x.node, .int .i64 x.tg, .int .i64 x.rel, .int .i64 3, .bool false] 44))
              have HB4 := hideG ((HB.out.trans (hBA.mono HB.out.size)).grown hg4 (HB.out.trans (hBA.mono HB.out.size)).size (fun j e => (HOW.out.lt j e).1))
              have hl4 : (visK p e.bub (k + 1)).length = cur.length + 1 := by rw [HE.out]; simp
              have HL4 := hideG hl4
              have HO4 := hideG ho4
              clear ho4 hg4 hf4 ec hBA hl4
              go_wp2_with fail
              go_roundw
              case rel => exact ⟨k + 1, a4, c4, by omega, by go_num, by rw [HL4.out], by rw [HL4.out]; simpa [HL4.out] using HO4.out, HB4.out⟩
              case measure => simp [intOf]; omega
          · have HV := hideG (show (vis false x) = ⟨x, 2, false⟩ by simp [vis, hn])
            rw [show backP e.bub (vis false x) = true by rw [HV.out]; simp [backP]] at HE
            simp only [if_true] at HE
            go_wp2_with fail
            go_region
            go_wp2_with (at_builtin; refine wpList_append_any rfl (.tmp 58) (.tmp 64) 143 rfl w1.heap.size 44 i0 _ 5 40 Tryz.underlying143 hi0 hz0 hz1 hz2 rfl (by decide) _ cur.length (viCells cur) rfl (HOW.out.alloc _) _ 1 [.int .i64 x.node, .int .i64 x.tg, .int .i64 x.rel, .int .i64 2, .bool false] rfl (row_newV1 _ _ x 2 false) rfl ?h2 ?h3 ?h4 ?h5 ?_)
            case h2 => intro u hu; simp at hu; rcases hu with rfl | rfl | rfl | rfl | rfl <;> rfl
            case h3 => simp only [maxLen]; omega
            case h4 => omega
            case h5 => have h1 := HB.out.size; simp; omega
            intro v4 w4 ho4 hg4 hf4
            obtain ⟨a4, c4, rfl⟩ := ownsRow_shape ho4
            have ec : viCells cur ++ [.int .i64 x.node, .int .i64 x.tg, .int .i64 x.rel, .int .i64 2, .bool false] = viCells (cur ++ [vis false x]) := by rw [viCells_append, HV.out]; rfl
            rw [ec, ← HE.out] at ho4
            have hBA := below_drew' ((Below.refl wr.heap.size wr).alloc (Nat.le_refl _) (.cells #[.int .i64 x.node, .int .i64 x.tg, .int .i64 x.rel, .int .i64 2, .bool false] 44))
            have HB4 := hideG ((HB.out.trans (hBA.mono HB.out.size)).grown hg4 (HB.out.trans (hBA.mono HB.out.size)).size (fun j e => (HOW.out.lt j e).1))
            have hl4 : (visK p e.bub (k + 1)).length = cur.length + 1 := by rw [HE.out]; simp
            have HL4 := hideG hl4
            have HO4 := hideG ho4
            clear ho4 hg4 hf4 ec hBA hl4
            go_wp2_with fail
            go_roundw
            case rel => exact ⟨k + 1, a4, c4, by omega, by go_num, by rw [HL4.out], by rw [HL4.out]; simpa [HL4.out] using HO4.out, HB4.out⟩
            case measure => simp [intOf]; omega
        · have hvk : visK p e.bub k = visitsI T e := by rw [visK_all p e.bub (by omega), HVD.out]
          rw [hvk] at HOW ⊢
          go_wp2_with fail
          go_ret
          exact ⟨oa, oc, rfl, ownsRow_base HOW.out HB1.out.size, HBw.out⟩
    | succ k =>
      have e0 : ((k + 1 : Nat) : Int) - 1 = (k : Int) := by omega
      rw [e0]
      have hlt : k < p.length := by omega
      have HE := hideG (drop_rev p hlt)
      have hvl := drop_rev_le p (k + 1)
      obtain ⟨a', c', hav, hd⟩ := HST.out
      simp only [Value.slice.injEq, true_and] at hav
      obtain ⟨rfl, rfl⟩ := hav
      obtain ⟨b, off, rfl, hd'⟩ := hd.2 (by omega)
      have hH := (hd' k hlt).below HB.out
      generalize p.getD k stD = x at *
      have g0 := hH.node
      have g1 := hH.tg
      have g2 := hH.rel
      have hk0 : (0 : Int) ≤ (k : Int) := by omega
      have hk1 : (k : Int) < (p.length : Int) := by omega
      have hbb : b < wr.heap.size := below_of_cell g0
      clear hd hd' hH
      generalize ((p.drop (k + 1)).reverse).map (vis true) = cur at *
      cases hn : (x.node == x.tg)
      · have HV := hideG (show (vis true x) = ⟨x, 1, true⟩ by simp [vis, hn])
        go_wp2_with fail
        go_region
        go_wp2_with (at_builtin; refine wpList_append_any rfl (.tmp 37) (.tmp 39) 143 rfl w1.heap.size 44 i0 _ 5 40 Tryz.underlying143 hi0 hz0 hz1 hz2 rfl (by decide) _ cur.length (viCells cur) rfl ((HOW.out.alloc _).alloc _) _ 1 [.int .i64 x.node, .int .i64 x.tg, .int .i64 x.rel, .int .i64 1, .bool true] rfl (row_newV2 _ _ _ x 1 true) rfl ?h2 ?h3 ?h4 ?h5 ?_)
        case h2 => intro u hu; simp at hu; rcases hu with rfl | rfl | rfl | rfl | rfl <;> rfl
        case h3 => simp only [maxLen]; omega
        case h4 => omega
        case h5 => have h1 := HB.out.size; simp; omega
        intro v4 w4 ho4 hg4 hf4
        obtain ⟨a4, c4, rfl⟩ := ownsRow_shape ho4
        have ec : viCells cur ++ [.int .i64 x.node, .int .i64 x.tg, .int .i64 x.rel, .int .i64 1, .bool true] = viCells (cur ++ [vis true x]) := by rw [viCells_append, HV.out]; rfl
        rw [ec, ← HE.out] at ho4
        have hBA := below_drew' (((Below.refl wr.heap.size wr).alloc (Nat.le_refl _) (.cells #[.int .i64 x.node, .int .i64 x.tg, .int .i64 x.rel, .int .i64 1, .bool true] 44)).alloc (by simp) (.cells #[.int .i64 x.node, .int .i64 x.tg, .int .i64 x.rel, .int .i64 1, .bool true] 44))
        have HB4 := hideG ((HB.out.trans (hBA.mono HB.out.size)).grown hg4 (HB.out.trans (hBA.mono HB.out.size)).size (fun j e => (HOW.out.lt j e).1))
        have hl4 : (((p.drop k).reverse).map (vis true)).length = cur.length + 1 := by rw [HE.out]; simp
        have HL4 := hideG hl4
        have HO4 := hideG ho4
        have hwk : IntKind.i64.wrap ((k : Int) - 1) = (k : Int) - 1 := by rw [IntKind.wrap_i64]; omega
        clear ho4 hg4 hf4 ec hBA hl4
        go_wp2_with fail
        go_roundw
        case rel => exact ⟨k, a4, c4, by omega, rfl, by rw [HL4.out], by rw [HL4.out]; simpa [HL4.out] using HO4.out, HB4.out⟩
        case measure => simp [intOf]
      · have HV := hideG (show (vis true x) = ⟨x, 2, true⟩ by simp [vis, hn])
        go_wp2_with fail
        go_region
        go_wp2_with (at_builtin; refine wpList_append_any rfl (.tmp 37) (.tmp 39) 143 rfl w1.heap.size 44 i0 _ 5 40 Tryz.underlying143 hi0 hz0 hz1 hz2 rfl (by decide) _ cur.length (viCells cur) rfl ((HOW.out.alloc _).alloc _) _ 1 [.int .i64 x.node, .int .i64 x.tg, .int .i64 x.rel, .int .i64 2, .bool true] rfl (row_newV2 _ _ _ x 2 true) rfl ?h2 ?h3 ?h4 ?h5 ?_)
        case h2 => intro u hu; simp at hu; rcases hu with rfl | rfl | rfl | rfl | rfl <;> rfl
        case h3 => simp only [maxLen]; omega
        case h4 => omega
        case h5 => have h1 := HB.out.size; simp; omega
        intro v4 w4 ho4 hg4 hf4
        obtain ⟨a4, c4, rfl⟩ := ownsRow_shape ho4
        have ec : viCells cur ++ [.int .i64 x.node, .int .i64 x.tg, .int .i64 x.rel, .int .i64 2, .bool true] = viCells (cur ++ [vis true x]) := by rw [viCells_append, HV.out]; rfl
        rw [ec, ← HE.out] at ho4
        have hBA := below_drew' (((Below.refl wr.heap.size wr).alloc (Nat.le_refl _) (.cells #[.int .i64 x.node, .int .i64 x.tg, .int .i64 x.rel, .int .i64 2, .bool true] 44)).alloc (by simp) (.cells #[.int .i64 x.node, .int .i64 x.tg, .int .i64 x.rel, .int .i64 2, .bool true] 44))
        have HB4 := hideG ((HB.out.trans (hBA.mono HB.out.size)).grown hg4 (HB.out.trans (hBA.mono HB.out.size)).size (fun j e => (HOW.out.lt j e).1))
        have hl4 : (((p.drop k).reverse).map (vis true)).length = cur.length + 1 := by rw [HE.out]; simp
        have HL4 := hideG hl4
        have HO4 := hideG ho4
        have hwk : IntKind.i64.wrap ((k : Int) - 1) = (k : Int) - 1 := by rw [IntKind.wrap_i64]; omega
        clear ho4 hg4 hf4 ec hBA hl4
        go_wp2_with fail
        go_roundw
        case rel => exact ⟨k, a4, c4, by omega, rfl, by rw [HL4.out], by rw [HL4.out]; simpa [HL4.out] using HO4.out, HB4.out⟩
        case measure => simp [intOf]
end Go.Proofs.YtpmacpbhdgigfaaGreat
