/- Part 5 of what the laws of layer 10 lean on. -/
import Derived.Lib.AppendZeros
import Derived.Test.YtclhimodopgeoaaGreatTC4
namespace Go.Proofs.YtclhimodopgeoaaGreat
open Go.RowKit

theorem attrs_kind {k : Int} : ∀ {l : List (Int × Int)} {last : Int}, attrsFrom k last l = true → ∀ a ∈ l, (k == attrKindI a.1) = true
  | [], _, _, a, h => by cases h
  | x :: l, last, h, a, ha => by
    simp only [attrsFrom, Bool.and_eq_true, Bool.not_eq_true', Bool.or_eq_false_iff] at h
    obtain ⟨⟨_, h1⟩, h2⟩ := h
    rcases List.mem_cons.mp ha with rfl | ha
    · simp only [Bool.not_eq_false', attrFitsB, Bool.and_eq_true, Bool.not_eq_true', Bool.or_eq_false_iff] at h1
      have := h1.1.2
      simpa [bne] using this
    · exact attrs_kind h2 a ha
theorem firstL_mem {nm : Int} : ∀ {l : List (Int × Int)}, (firstL nm l).2 = true → ∃ a ∈ l, a.1 = nm
  | [], h => by cases h
  | x :: l, h => by
    unfold firstL at h
    split at h
    · rename_i e; exact ⟨x, by simp, by simpa using e⟩
    · obtain ⟨a, h1, h2⟩ := firstL_mem h; exact ⟨a, by simp [h1], h2⟩
theorem pop_elem {T : List Nd} (hm : mayB T = true) {m : Nat} (hml : m < T.length) (h : (refGetL T (m : Int) 6).2 = true) : ((nd T m).kind == 1) = true := by
  have hn : isNodeB T.length (m : Int) = true := by simp [isNodeB]; omega
  rw [refGetL, hn, if_pos rfl, Int.toNat_natCast] at h
  obtain ⟨a, h1, h2⟩ := firstL_mem h
  have := attrs_kind ((mayB_fine hm).attrs m hml) a h1
  rw [h2] at this
  exact this
/-- What package top asks is what the document asks. -/
theorem dlg_eq {T : List Nd} (hm : mayB T = true) (n : Int) : dlgB T n = (containsB (slI T 0) n && ((nd T n.toNat).tag == 2)) := by
  rw [conn_list hm]
  unfold dlgB
  cases hn : isNodeB T.length n
  · simp
  · obtain ⟨m, rfl, hml⟩ := isNodeB_true hn
    simp only [Int.toNat_natCast, Bool.true_and]
    cases ht : ((nd T m).tag == 2)
    · simp
    · rw [tag_elem2 hm hml ht]; simp
theorem pop_eq {T : List Nd} (hm : mayB T = true) (n : Int) : popB T n = (containsB (slI T 0) n && (refGetL T n 6).2) := by
  rw [conn_list hm]
  unfold popB
  cases hn : isNodeB T.length n
  · simp
  · obtain ⟨m, rfl, hml⟩ := isNodeB_true hn
    simp only [Int.toNat_natCast, Bool.true_and]
    cases ht : (refGetL T (m : Int) 6).2
    · simp
    · rw [pop_elem hm hml ht]; simp

theorem slI_len (T : List Nd) : (slI T 0).length ≤ 1000 := by
  unfold slI
  split
  · rename_i h
    have hm : mayB T = true := by simp only [knownB, Bool.and_eq_true] at h; exact h.1
    have h0 : (0 : Nat) < T.length := by have := mayB_pos hm; omega
    rw [castL_length]
    exact sl_short _ hm h0
  · simp

set_option maxRecDepth 100000 in
set_option maxHeartbeats 2000000 in
theorem judgeOf_any (T : List Nd) (hS : Sane T) (v : Value) (w : World) (hT : TreeAt w v T) :
    Calls Tryz.prog 64 #[v] w fun e w' => ∃ a c, e = .returned (.agg #[v, .slice a (slI T 0).length c]) ∧ IntsAt w' (.slice a (slI T 0).length c) (slI T 0) ∧ Below w.heap.size w w' := by
  obtain ⟨ta, tc, rfl⟩ := hT.shape
  obtain ⟨W0, hW0⟩ : ∃ W0, w.alloc (.cells #[.slice none 0 0, .slice none 0 0] 65) = W0 := ⟨_, rfl⟩
  have HB0 := hideG (show Below w.heap.size w W0 by rw [← hW0]; exact (Below.refl _ w).alloc (Nat.le_refl _) _)
  have c0 : W0.cell? ⟨w.heap.size, 0, none⟩ = some (.slice none 0 0) := by rw [← hW0]; simp
  have c1 : W0.cell? ⟨w.heap.size, 1, none⟩ = some (.slice none 0 0) := by rw [← hW0]; simp
  have f0 : W0.frozen? ⟨w.heap.size, 0, none⟩ = false := by rw [← hW0]; simp
  have f1 : W0.frozen? ⟨w.heap.size, 1, none⟩ = false := by rw [← hW0]; simp
  have HL := hideG (listS_any T hS (.slice ta T.length tc) 0 W0 (hT.below HB0.out))
  have HW0 := hideG hW0
  have C0 := hideG c0
  have C1 := hideG c1
  have F0 := hideG f0
  have F1 := hideG f1
  clear hT hW0 c0 c1 f0 f1
  go_enter Tryz.func64, Tryz.ntmps64
  go_wp2_with (first | rw [HW0.out])
  refine HL.out.mono ?_
  rintro ex w1 ⟨a, c, rfl, ho1, hb1⟩
  have d0 := cell_below hb1 C0.out
  have d1 := cell_below hb1 C1.out
  have g0 := frozen_below hb1 C0.out F0.out
  have g1 := frozen_below hb1 C1.out F1.out
  have HB1 := hideG (HB0.out.trans (hb1.mono HB0.out.size))
  have HI := hideG (ownsRow_ints ho1)
  have HNE := hideG (show ∀ z, a = some z → z.block ≠ w.heap.size from fun z e => by
    have h1 := (ho1.lt z.block (by rw [e]; rfl)).1
    have h2 : w.heap.size < W0.heap.size := below_of_cell C0.out
    omega)
  obtain ⟨L, hL⟩ : ∃ L, slI T 0 = L := ⟨_, rfl⟩
  rw [hL] at HI ⊢
  have HLQ := hideG hL
  clear hb1 ho1 hL
  obtain ⟨W2, hW2⟩ : ∃ W2, (w1.setCell ⟨w.heap.size, 0, none⟩ (.slice ta T.length tc)).setCell ⟨w.heap.size, 1, none⟩ (.slice a L.length c) = W2 := ⟨_, rfl⟩
  have k0 : W2.cell? ⟨w.heap.size, 0, none⟩ = some (.slice ta T.length tc) := by rw [← hW2]; exact set_other (set_same d0) (by omega)
  have k1 : W2.cell? ⟨w.heap.size, 1, none⟩ = some (.slice a L.length c) := by rw [← hW2]; exact set_same (set_other d1 (by omega))
  have HI2 := hideG (show IntsAt W2 (.slice a L.length c) L by
    rw [← hW2]
    obtain ⟨a', c', e, hd⟩ := HI.out
    injection e with e1 e2 e3
    subst e1 e3
    refine ⟨_, _, rfl, fun h0 => ?_⟩
    obtain ⟨b, off, rfl, hx⟩ := hd h0
    have hne := HNE.out _ rfl
    exact ⟨b, off, rfl, fun j hj => (World.cell?_setCell_other _ _ _ _ (fun e => hne (congrArg Addr.block e).symm)).trans ((World.cell?_setCell_other _ _ _ _ (fun e => hne (congrArg Addr.block e).symm)).trans (hx j hj))⟩)
  have HB2 := hideG (show Below w.heap.size w W2 by rw [← hW2]; exact (HB1.out.setCell (Nat.le_refl _) _).setCell (Nat.le_refl _) _)
  have HW2 := hideG hW2
  clear hW2
  go_wp2_with fail
  rw [HW2.out]
  exact bodyPost_ret (v := .agg #[.slice ta T.length tc, .slice a L.length c]) (by simp [results, Tryz.results64, go_sem, k0, k1]) rfl ⟨a, c, by rw [HLQ.out], by rw [HLQ.out]; exact HI2.out, HB2.out⟩

set_option maxRecDepth 100000 in
set_option maxHeartbeats 2000000 in
theorem dialog_any (T : List Nd) (hm : mayB T = true) (v u : Value) (n : Int) (w : World) (hT : TreeAt w v T) (hI : IntsAt w u (slI T 0)) :
    Calls Tryz.prog 66 #[.agg #[v, u], .int .i64 n] w fun e w' => e = .returned (.bool (dlgB T n)) ∧ Below w.heap.size w w' := by
  obtain ⟨ta, tc, rfl⟩ := hT.shape
  obtain ⟨ca, cc, rfl⟩ := hI.shape
  have EQ := hideG (dlg_eq hm n)
  have HA := hideG (show Below w.heap.size w (w.alloc (.cells #[.slice ta T.length tc, .slice ca (slI T 0).length cc] 65)) from (Below.refl _ w).alloc (Nat.le_refl _) _)
  have HC := hideG (contains_any (slI T 0) (.slice ca (slI T 0).length cc) n _ (hI.below HA.out) (Nat.le_trans (slI_len T) (by omega)))
  cases hc : containsB (slI T 0) n
  · have HQ := hideG (show dlgB T n = false by rw [EQ.out, hc]; rfl)
    have HN := hideG hc
    clear hT hI hc
    go_enter Tryz.func66, Tryz.ntmps66
    go_wp2_with (go_at_call 73; refine HC.out.mono ?_; rintro e wz ⟨rfl, hwz⟩; obtain rfl : _ = wz := hwz.symm; rw [HN.out])
    go_ret
    exact ⟨ret_bool HQ.out.symm, HA.out⟩
  · have HQ := hideG (show dlgB T n = ((nd T n.toNat).tag == 2) by rw [EQ.out, hc]; rfl)
    have HN := hideG hc
    have hn : isNodeB T.length n = true := by
      rw [conn_list hm] at hc
      simp only [Bool.and_eq_true] at hc
      exact hc.1
    obtain ⟨m, rfl, hml⟩ := isNodeB_true hn
    rw [Int.toNat_natCast] at HQ
    obtain ⟨tb, to, tc', htv, hct⟩ := hT.at (by omega)
    simp only [Value.slice.injEq, true_and] at htv
    obtain ⟨rfl, rfl⟩ := htv
    obtain ⟨kv, av, hN⟩ := hct m hml
    have g1 := hN.tag
    have hm0 : (0 : Int) ≤ (m : Int) := by omega
    have hmi : (m : Int) < (T.length : Int) := by omega
    have htb : tb < w.heap.size := below_of_cell g1
    clear hct hN hc hn hT hI
    go_enter Tryz.func66, Tryz.ntmps66
    go_wp2_with (go_at_call 73; refine HC.out.mono ?_; rintro e wz ⟨rfl, hwz⟩; obtain rfl : _ = wz := hwz.symm; rw [HN.out])
    go_ret
    exact ⟨ret_bool HQ.out.symm, HA.out⟩

set_option maxRecDepth 100000 in
set_option maxHeartbeats 2000000 in
theorem popup_any (T : List Nd) (hS : Sane T) (hm : mayB T = true) (v u : Value) (x : Sh) (w : World) (hT : TreeAt w v T) (hI : IntsAt w u (slI T 0)) :
    Calls Tryz.prog 68 #[.agg #[v, u], .agg #[.int .i64 x.node, .int .i64 x.inv]] w fun e w' => e = .returned (.bool (popB T x.node)) ∧ Below w.heap.size w w' := by
  obtain ⟨ta, tc, rfl⟩ := hT.shape
  obtain ⟨ca, cc, rfl⟩ := hI.shape
  have EQ := hideG (pop_eq hm x.node)
  obtain ⟨W0, hW0⟩ : ∃ W0, (w.alloc (.cells #[.slice ta T.length tc, .slice ca (slI T 0).length cc] 65)).alloc (.cells #[.int .i64 x.node, .int .i64 x.inv] 39) = W0 := ⟨_, rfl⟩
  have HA := hideG (show Below w.heap.size w W0 by rw [← hW0]; exact ((Below.refl _ w).alloc (Nat.le_refl _) _).alloc (by simp) _)
  have c0 : W0.cell? ⟨w.heap.size, 0, none⟩ = some (.slice ta T.length tc) := by rw [← hW0]; simp
  have c1 : W0.cell? ⟨w.heap.size, 1, none⟩ = some (.slice ca (slI T 0).length cc) := by rw [← hW0]; simp
  have c2 : W0.cell? ⟨w.heap.size + 1, 0, none⟩ = some (.int .i64 x.node) := by rw [← hW0]; simp
  have HC := hideG (contains_any (slI T 0) (.slice ca (slI T 0).length cc) x.node W0 (hI.below HA.out) (Nat.le_trans (slI_len T) (by omega)))
  have HH := hideG (has_any T hS (.slice ta T.length tc) x.node 6 W0 (hT.below HA.out))
  have HW0 := hideG hW0
  cases hc : containsB (slI T 0) x.node
  · have HQ := hideG (show popB T x.node = false by rw [EQ.out, hc]; rfl)
    have HN := hideG hc
    clear hT hI hc hW0
    go_enter Tryz.func68, Tryz.ntmps68
    go_wp2_with (go_at_call 73; rw [HW0.out]; refine HC.out.mono ?_; rintro e wz ⟨rfl, hwz⟩; obtain rfl : _ = wz := hwz.symm; rw [HN.out])
    go_ret
    exact ⟨ret_bool HQ.out.symm, HA.out⟩
  · have HQ := hideG (show popB T x.node = (getL T x.node 6).2 by rw [EQ.out, hc, refGet_eq hm]; rfl)
    have HN := hideG hc
    clear hT hI hc hW0
    go_enter Tryz.func68, Tryz.ntmps68
    go_wp2_with (first | (go_at_call 73; rw [HW0.out]; refine HC.out.mono ?_; rintro e wz ⟨rfl, hwz⟩; obtain rfl : _ = wz := hwz.symm; rw [HN.out]) | (go_at_call 112; refine HH.out.mono ?_; rintro e w1 ⟨rfl, hb1⟩; have HB1 := hideG hb1; clear hb1))
    go_ret
    exact ⟨ret_bool HQ.out.symm, HA.out.trans (HB1.out.mono HA.out.size)⟩
end Go.Proofs.YtclhimodopgeoaaGreat

namespace Go.Proofs.YtclhimodopgeoaaGreat
open Go.RowKit

theorem all_take {α : Type} [Inhabited α] {p : α → Bool} {l : List α} (d : α) (h : ∀ j, j < l.length → p (l.getD j d) = true) : l.all p = true := by
  rw [List.all_eq_true]
  intro x hx
  obtain ⟨j, hj, rfl⟩ := List.getElem_of_mem hx
  have := h j hj
  rwa [List.getD_eq_getElem?_getD, List.getElem?_eq_getElem hj] at this
theorem all_no {α : Type} {p : α → Bool} {l : List α} (d : α) {j : Nat} (hj : j < l.length) (h : p (l.getD j d) = false) : l.all p = false := by
  rw [List.all_eq_false]
  refine ⟨l[j], List.getElem_mem hj, ?_⟩
  rw [List.getD_eq_getElem?_getD, List.getElem?_eq_getElem hj] at h
  have h' : p l[j] = false := h
  rw [h']; simp

set_option maxRecDepth 100000 in
set_option maxHeartbeats 4000000 in
theorem everyDlg_any (T : List Nd) (hm : mayB T = true) (tv u : Value) (l : List Int) (v : Value) (w : World) (hT : TreeAt w tv T) (hI : IntsAt w u (slI T 0)) (hL : IntsAt w v l) (hl : l.length ≤ 1000000) :
    Calls Tryz.prog 118 #[v, .func (.func 66) #[.agg #[tv, u]] #[]] w fun x w' => x = .returned (.bool (l.all (dlgB T))) ∧ Below w.heap.size w w' := by
  obtain ⟨a, cap, rfl, hc⟩ := hL
  have HC := hideG hc
  have HD := hideG (show ∀ n U, Below w.heap.size w U → Calls Tryz.prog 66 #[.agg #[tv, u], .int .i64 n] U (fun e w' => e = .returned (.bool (dlgB T n)) ∧ Below w.heap.size w w') from fun n U hU => by
    refine (dialog_any T hm tv u n U (hT.below hU) (hI.below hU)).mono ?_
    rintro e w' ⟨rfl, hb⟩
    exact ⟨rfl, hU.trans (hb.mono hU.size)⟩)
  obtain ⟨ta, tc, rfl⟩ := hT.shape
  obtain ⟨ca, cc, rfl⟩ := hI.shape
  clear hc hT hI
  go_enter Tryz.func118, Tryz.ntmps118
  go_wp2_with fail
  go_loopw [9] (fun i wr => ∃ k : Nat, k ≤ l.length ∧ i = .int .i64 (k : Int) ∧ (∀ j, j < k → dlgB T (l.getD j 0) = true) ∧ Below w.heap.size w wr) (fun i _ => l.length - (intOf i).toNat)
  case atStart => exact ⟨0, Nat.zero_le _, rfl, fun j hj => by omega, Below.refl _ _⟩
  case round =>
    obtain ⟨k, hk, rfl, hno, hB⟩ := hrel
    have HNO := hideG hno
    have HB := hideG hB
    clear hno hB
    by_cases hlt : k < l.length
    · obtain ⟨b, off, rfl, hd⟩ := HC.out (by omega)
      have c0 := cell_below HB.out (hd k hlt)
      have hbl : b < wr.heap.size := below_of_cell c0
      have hk0 : (0 : Int) ≤ (k : Int) := by omega
      generalize hx : l.getD k 0 = x at *
      have HX := hideG hx
      clear hd hx
      cases hcn : dlgB T x
      · have HQ := hideG (show l.all (dlgB T) = false from all_no 0 hlt (by rw [HX.out]; exact hcn))
        have HN := hideG hcn
        clear hcn
        go_wp2_with fail
        refine (HD.out x _ HB.out).mono ?_
        rintro ex w1 ⟨rfl, hb1⟩
        rw [HN.out]
        have HB1 := hideG hb1
        clear hb1 c0 hbl
        go_wp2_with fail
        go_ret
        exact ⟨ret_bool HQ.out.symm, HB1.out⟩
      · have HN := hideG hcn
        clear hcn
        go_wp2_with fail
        refine (HD.out x _ HB.out).mono ?_
        rintro ex w1 ⟨rfl, hb1⟩
        rw [HN.out]
        have HB1 := hideG hb1
        clear hb1 c0 hbl
        go_wp2_with fail
        go_roundw
        case rel => exact ⟨k + 1, by omega, by go_num, fun j hj => by
          by_cases q : j = k
          · subst q; rw [HX.out]; exact HN.out
          · exact HNO.out j (by omega), HB1.out⟩
        case measure => simp [intOf]; omega
    · have HQ := hideG (show l.all (dlgB T) = true from all_take 0 (fun j hj => HNO.out j (by omega)))
      go_wp2_with fail
      go_ret
      exact ⟨ret_bool HQ.out.symm, HB.out⟩

set_option maxRecDepth 100000 in
set_option maxHeartbeats 4000000 in
theorem everyPop_any (T : List Nd) (hS : Sane T) (hm : mayB T = true) (tv u : Value) (l : List Sh) (v : Value) (w : World) (hT : TreeAt w tv T) (hI : IntsAt w u (slI T 0)) (hL : ShsAt w v l) (hl : l.length ≤ 1000000) :
    Calls Tryz.prog 119 #[v, .func (.func 68) #[.agg #[tv, u]] #[]] w fun x w' => x = .returned (.bool (l.all fun x => popB T x.node)) ∧ Below w.heap.size w w' := by
  obtain ⟨a, cap, rfl, hcp, hc⟩ := hL
  have HC := hideG hc
  have HD := hideG (show ∀ (x : Sh) U, Below w.heap.size w U → Calls Tryz.prog 68 #[.agg #[tv, u], .agg #[.int .i64 x.node, .int .i64 x.inv]] U (fun e w' => e = .returned (.bool (popB T x.node)) ∧ Below w.heap.size w w') from fun x U hU => by
    refine (popup_any T hS hm tv u x U (hT.below hU) (hI.below hU)).mono ?_
    rintro e w' ⟨rfl, hb⟩
    exact ⟨rfl, hU.trans (hb.mono hU.size)⟩)
  obtain ⟨ta, tc, rfl⟩ := hT.shape
  obtain ⟨ca, cc, rfl⟩ := hI.shape
  clear hc hT hI hcp
  go_enter Tryz.func119, Tryz.ntmps119
  go_wp2_with fail
  go_loopw [9] (fun i wr => ∃ k : Nat, k ≤ l.length ∧ i = .int .i64 (k : Int) ∧ (∀ j, j < k → popB T (l.getD j shD).node = true) ∧ Below w.heap.size w wr) (fun i _ => l.length - (intOf i).toNat)
  case atStart => exact ⟨0, Nat.zero_le _, rfl, fun j hj => by omega, Below.refl _ _⟩
  case round =>
    obtain ⟨k, hk, rfl, hno, hB⟩ := hrel
    have HNO := hideG hno
    have HB := hideG hB
    clear hno hB
    by_cases hlt : k < l.length
    · obtain ⟨b, off, rfl, hd⟩ := HC.out (by omega)
      have hH := (hd k hlt).below HB.out
      generalize hx : l.getD k shD = x at *
      have HX := hideG hx
      have c0 := hH.node
      have c1 := hH.inv
      have hbl : b < wr.heap.size := below_of_cell c0
      have hk0 : (0 : Int) ≤ (k : Int) := by omega
      have HBA := hideG (HB.out.alloc HB.out.size (.cells #[.int .i64 x.node, .int .i64 x.inv] 39))
      clear hd hH hx
      cases hcn : popB T x.node
      · have HQ := hideG (show (l.all fun x => popB T x.node) = false from all_no shD hlt (by rw [HX.out]; exact hcn))
        have HN := hideG hcn
        clear hcn
        go_wp2_with fail
        refine (HD.out x _ HBA.out).mono ?_
        rintro ex w1 ⟨rfl, hb1⟩
        rw [HN.out]
        have HB1 := hideG hb1
        clear hb1 c0 c1 hbl
        go_wp2_with fail
        go_ret
        exact ⟨ret_bool HQ.out.symm, HB1.out⟩
      · have HN := hideG hcn
        clear hcn
        go_wp2_with fail
        refine (HD.out x _ HBA.out).mono ?_
        rintro ex w1 ⟨rfl, hb1⟩
        rw [HN.out]
        have HB1 := hideG hb1
        clear hb1 c0 c1 hbl
        go_wp2_with fail
        go_roundw
        case rel => exact ⟨k + 1, by omega, by go_num, fun j hj => by
          by_cases q : j = k
          · subst q; rw [HX.out]; exact HN.out
          · exact HNO.out j (by omega), HB1.out⟩
        case measure => simp [intOf]; omega
    · have HQ := hideG (show (l.all fun x => popB T x.node) = true from all_take shD (fun j hj => HNO.out j (by omega)))
      go_wp2_with fail
      go_ret
      exact ⟨ret_bool HQ.out.symm, HB.out⟩
end Go.Proofs.YtclhimodopgeoaaGreat

namespace Go.Proofs.YtclhimodopgeoaaGreat
open Go.RowKit

set_option maxRecDepth 100000 in
set_option maxHeartbeats 1000000 in
theorem fitsFn_any (T : List Nd) (a : Option Addr) (cap B : Nat) (x : Sh) (w : World) (hc : w.cell? ⟨B, 0, none⟩ = some (.slice a T.length cap)) :
    Calls Tryz.prog 120 #[.agg #[.int .i64 x.node, .int .i64 x.inv], .pointer (some ⟨B, 0, none⟩)] w fun e w' => e = .returned (.bool (fitsB T x)) ∧ Below w.heap.size w w' := by
  have hB : B < w.heap.size := below_of_cell hc
  have HA := hideG (show Below w.heap.size w (w.alloc (.cells #[.int .i64 x.node, .int .i64 x.inv] 39)) from (Below.refl _ w).alloc (Nat.le_refl _) _)
  have HF := hideG (fits_any T a cap x (w.alloc (.cells #[.int .i64 x.node, .int .i64 x.inv] 39)))
  go_enter Tryz.func120, Tryz.ntmps120
  go_wp2_with (go_at_call 69; refine HF.out.mono ?_; rintro e w1 ⟨rfl, hb1⟩; have HB1 := hideG hb1; clear hb1)
  go_ret
  exact ⟨rfl, HA.out.trans (HB1.out.mono HA.out.size)⟩

set_option maxRecDepth 100000 in
set_option maxHeartbeats 4000000 in
theorem everyFits_any (T : List Nd) (ta : Option Addr) (tc B : Nat) (l : List Sh) (v : Value) (w : World) (hB : w.cell? ⟨B, 0, none⟩ = some (.slice ta T.length tc)) (hL : ShsAt w v l) (hl : l.length ≤ 1000000) :
    Calls Tryz.prog 119 #[v, .func (.func 120) #[] #[.pointer (some ⟨B, 0, none⟩)]] w fun x w' => x = .returned (.bool (l.all (fitsB T))) ∧ Below w.heap.size w w' := by
  obtain ⟨a, cap, rfl, hcp, hc⟩ := hL
  have HC := hideG hc
  have HD := hideG (show ∀ (x : Sh) U, Below w.heap.size w U → Calls Tryz.prog 120 #[.agg #[.int .i64 x.node, .int .i64 x.inv], .pointer (some ⟨B, 0, none⟩)] U (fun e w' => e = .returned (.bool (fitsB T x)) ∧ Below w.heap.size w w') from fun x U hU => by
    refine (fitsFn_any T ta tc B x U (cell_below hU hB)).mono ?_
    rintro e w' ⟨rfl, hb⟩
    exact ⟨rfl, hU.trans (hb.mono hU.size)⟩)
  clear hc hB hcp
  go_enter Tryz.func119, Tryz.ntmps119
  go_wp2_with fail
  go_loopw [9] (fun i wr => ∃ k : Nat, k ≤ l.length ∧ i = .int .i64 (k : Int) ∧ (∀ j, j < k → fitsB T (l.getD j shD) = true) ∧ Below w.heap.size w wr) (fun i _ => l.length - (intOf i).toNat)
  case atStart => exact ⟨0, Nat.zero_le _, rfl, fun j hj => by omega, Below.refl _ _⟩
  case round =>
    obtain ⟨k, hk, rfl, hno, hB⟩ := hrel
    have HNO := hideG hno
    have HB := hideG hB
    clear hno hB
    by_cases hlt : k < l.length
    · obtain ⟨b, off, rfl, hd⟩ := HC.out (by omega)
      have hH := (hd k hlt).below HB.out
      generalize hx : l.getD k shD = x at *
      have HX := hideG hx
      have c0 := hH.node
      have c1 := hH.inv
      have hbl : b < wr.heap.size := below_of_cell c0
      have hk0 : (0 : Int) ≤ (k : Int) := by omega
      have HBA := hideG (HB.out.alloc HB.out.size (.cells #[.int .i64 x.node, .int .i64 x.inv] 39))
      clear hd hH hx
      cases hcn : fitsB T x
      · have HQ := hideG (show l.all (fitsB T) = false from all_no shD hlt (by rw [HX.out]; exact hcn))
        have HN := hideG hcn
        clear hcn
        go_wp2_with fail
        refine (HD.out x _ HBA.out).mono ?_
        rintro ex w1 ⟨rfl, hb1⟩
        rw [HN.out]
        have HB1 := hideG hb1
        clear hb1 c0 c1 hbl
        go_wp2_with fail
        go_ret
        exact ⟨ret_bool HQ.out.symm, HB1.out⟩
      · have HN := hideG hcn
        clear hcn
        go_wp2_with fail
        refine (HD.out x _ HBA.out).mono ?_
        rintro ex w1 ⟨rfl, hb1⟩
        rw [HN.out]
        have HB1 := hideG hb1
        clear hb1 c0 c1 hbl
        go_wp2_with fail
        go_roundw
        case rel => exact ⟨k + 1, by omega, by go_num, fun j hj => by
          by_cases q : j = k
          · subst q; rw [HX.out]; exact HN.out
          · exact HNO.out j (by omega), HB1.out⟩
        case measure => simp [intOf]; omega
    · have HQ := hideG (show l.all (fitsB T) = true from all_take shD (fun j hj => HNO.out j (by omega)))
      go_wp2_with fail
      go_ret
      exact ⟨ret_bool HQ.out.symm, HB.out⟩

set_option maxRecDepth 100000 in
set_option maxHeartbeats 4000000 in
theorem equal_any (l m : List Int) (v u : Value) (w : World) (hL : IntsAt w v l) (hM : IntsAt w u m) (hl : l.length ≤ 1000000) :
    Calls Tryz.prog 150 #[v, u] w fun x w' => x = .returned (.bool (decide (l = m))) ∧ Below w.heap.size w w' := by
  obtain ⟨a, cap, rfl, hc⟩ := hL
  obtain ⟨a', cap', rfl, hc'⟩ := hM
  by_cases hlm : l.length = m.length
  · have HC := hideG hc
    have HC' := hideG hc'
    have HLM := hideG hlm
    have hlm' : ((l.length : Int) != (m.length : Int)) = false := by simp [hlm]
    clear hc hc' hlm
    go_enter Tryz.func150, Tryz.ntmps150
    go_wp2_with fail
    go_loopw [13] (fun i wr => ∃ k : Nat, k ≤ l.length ∧ i = .int .i64 (k : Int) ∧ (∀ j, j < k → l.getD j 0 = m.getD j 0) ∧ Below w.heap.size w wr) (fun i _ => l.length - (intOf i).toNat)
    case atStart => exact ⟨0, Nat.zero_le _, rfl, fun j hj => by omega, Below.refl _ _⟩
    case round =>
      obtain ⟨k, hk, rfl, hno, hB⟩ := hrel
      have HNO := hideG hno
      have HB := hideG hB
      clear hno hB
      by_cases hlt : k < l.length
      · obtain ⟨b, off, rfl, hd⟩ := HC.out (by omega)
        obtain ⟨b', off', rfl, hd'⟩ := HC'.out (by have := HLM.out; omega)
        have c0 := cell_below HB.out (hd k hlt)
        have c1 := cell_below HB.out (hd' k (by have := HLM.out; omega))
        have hkm : k < m.length := by have := HLM.out; omega
        have hbl : b < wr.heap.size := below_of_cell c0
        have hbl' : b' < wr.heap.size := below_of_cell c1
        have hk0 : (0 : Int) ≤ (k : Int) := by omega
        have hcc : ∀ (d : Calm wr) (b o : Nat), b < wr.heap.size → d.to.cell? ⟨b, o, none⟩ = wr.cell? ⟨b, o, none⟩ := calmCell
        generalize hx : l.getD k 0 = x at *
        generalize hy : m.getD k 0 = y at *
        have HX := hideG hx
        have HY := hideG hy
        clear hd hd' hx hy
        cases hxy : (x != y)
        · have HE := hideG (show x = y by simpa using hxy)
          go_wp2_with fail
          refine wp_region_calm (by kernel_rfl) (by kernel_rfl) ?_
          repeat (go_big_quiet_step (fail))
          refine wpQuiet_nil ?_
          intro _ hw'
          obtain ⟨dq, hw''⟩ := hw'
          subst hw''
          have HB9 := hideG (HB.out.trans (dq.below.mono HB.out.size))
          generalize dq.to = wd at *
          clear dq hcc c0 c1
          go_wp2_with fail
          go_roundw
          case rel => exact ⟨k + 1, by omega, by go_num, fun j hj => by
            by_cases q : j = k
            · subst q; rw [HX.out, HY.out]; exact HE.out
            · exact HNO.out j (by omega), HB9.out⟩
          case measure => simp [intOf]; omega
        · have HQ := hideG (show decide (l = m) = false from decide_eq_false (fun e => by
            have h1 := HX.out
            have h2 := HY.out
            rw [e] at h1
            have : x = y := by rw [← h1, h2]
            simp [this] at hxy))
          go_wp2_with fail
          refine wp_region_calm (by kernel_rfl) (by kernel_rfl) ?_
          repeat (go_big_quiet_step (fail))
          refine wpQuiet_nil ?_
          intro _ hw'
          obtain ⟨dq, hw''⟩ := hw'
          subst hw''
          have HB9 := hideG (HB.out.trans (dq.below.mono HB.out.size))
          generalize dq.to = wd at *
          clear dq hcc c0 c1
          go_wp2_with fail
          go_ret
          exact ⟨ret_bool HQ.out.symm, HB9.out⟩
      · have HQ := hideG (show decide (l = m) = true from decide_eq_true (by
          apply List.ext_getElem HLM.out
          intro j h1 h2
          have := HNO.out j (by omega)
          rwa [List.getD_eq_getElem?_getD, List.getD_eq_getElem?_getD, List.getElem?_eq_getElem h1, List.getElem?_eq_getElem h2] at this))
        go_wp2_with fail
        go_ret
        exact ⟨ret_bool HQ.out.symm, HB.out⟩
  · have HQ := hideG (show decide (l = m) = false from decide_eq_false (fun e => hlm (by rw [e])))
    have hlm' : ((l.length : Int) != (m.length : Int)) = true := by simp; omega
    clear hc hc'
    go_enter Tryz.func150, Tryz.ntmps150
    go_wp2_with fail
    go_ret
    exact ⟨ret_bool HQ.out.symm, Below.refl _ _⟩

set_option maxRecDepth 100000 in
set_option maxHeartbeats 4000000 in
theorem refSmall10_any (tv ov mv pv qv : Value) (V : Vw) (w : World) (hV : ViewAt w tv ov mv pv qv V) :
    Calls Tryz.prog 18 #[.agg #[tv, ov, mv, pv, qv]] w fun x w' => x = .returned (.bool (smallV V)) ∧ Below w.heap.size w w' := by
  obtain ⟨hT, hO, hM, hP, hQ⟩ := hV
  obtain ⟨W0, hW0⟩ : ∃ W0, w.alloc (.cells #[tv, ov, mv, pv, qv] 27) = W0 := ⟨_, rfl⟩
  have HB0 := hideG (show Below w.heap.size w W0 by rw [← hW0]; exact (Below.refl _ w).alloc (Nat.le_refl _) _)
  have P0 := hideG (show W0.cell? ⟨w.heap.size, 0, none⟩ = some tv by rw [← hW0]; simp)
  have P1 := hideG (show W0.cell? ⟨w.heap.size, 1, none⟩ = some ov by rw [← hW0]; simp)
  have P2 := hideG (show W0.cell? ⟨w.heap.size, 2, none⟩ = some mv by rw [← hW0]; simp)
  have P3 := hideG (show W0.cell? ⟨w.heap.size, 3, none⟩ = some pv by rw [← hW0]; simp)
  have P4 := hideG (show W0.cell? ⟨w.heap.size, 4, none⟩ = some qv by rw [← hW0]; simp)
  have HT0 := hideG (hT.below HB0.out)
  have HO0 := hideG (hO.below HB0.out)
  have HM0 := hideG (hM.below HB0.out)
  have HP0 := hideG (hP.below HB0.out)
  have HQ0 := hideG (hQ.below HB0.out)
  have HW0 := hideG hW0
  obtain ⟨ta, tc, rfl⟩ := hT.shape
  obtain ⟨oa, oc, rfl⟩ := hO.shape
  obtain ⟨ma, mc, rfl⟩ := hM.shape
  obtain ⟨pa, pc, rfl⟩ := hP.shape
  obtain ⟨qa, qc, rfl⟩ := hQ.shape
  clear hW0 hT hO hM hP hQ
  have HS := hideG (refSmall_any V.tree _ W0 HT0.out)
  cases hs : smallB V.tree
  · have HSB := hideG hs
    clear hs
    have HQS := hideG (show smallV V = false by unfold smallV; rw [HSB.out]; rfl)
    go_enter Tryz.func18, Tryz.ntmps18
    go_wp2_with (go_at_call 42; rw [HW0.out]; refine HS.out.mono ?_; rintro e wz ⟨rfl, hwz⟩; obtain rfl : _ = wz := hwz.symm; rw [HSB.out]; have p0 := P0.out; have p1 := P1.out; have p2 := P2.out; have p3 := P3.out; have p4 := P4.out)
    go_ret
    exact ⟨ret_bool HQS.out.symm, HB0.out⟩
  · have HSB := hideG hs
    clear hs
    by_cases l0 : (V.tree.length : Int) ≤ 16
    · skip
      by_cases l1 : (V.op.length : Int) ≤ 40
      · skip
        by_cases l2 : (V.modal.length : Int) ≤ 40
        · skip
          by_cases l3 : (V.pops.length : Int) ≤ 40
          · skip
            have HQS := hideG (show smallV V = decide ((V.top.length : Int) ≤ 80) by rw [Bool.eq_iff_iff]; unfold smallV; rw [HSB.out]; simp; omega)
            go_enter Tryz.func18, Tryz.ntmps18
            go_wp2_with (go_at_call 42; rw [HW0.out]; refine HS.out.mono ?_; rintro e wz ⟨rfl, hwz⟩; obtain rfl : _ = wz := hwz.symm; rw [HSB.out]; have p0 := P0.out; have p1 := P1.out; have p2 := P2.out; have p3 := P3.out; have p4 := P4.out)
            go_ret
            exact ⟨ret_bool HQS.out.symm, HB0.out⟩
          · skip
            have HQS := hideG (show smallV V = false by unfold smallV; rw [HSB.out]; simp; omega)
            go_enter Tryz.func18, Tryz.ntmps18
            go_wp2_with (go_at_call 42; rw [HW0.out]; refine HS.out.mono ?_; rintro e wz ⟨rfl, hwz⟩; obtain rfl : _ = wz := hwz.symm; rw [HSB.out]; have p0 := P0.out; have p1 := P1.out; have p2 := P2.out; have p3 := P3.out; have p4 := P4.out)
            go_ret
            exact ⟨ret_bool HQS.out.symm, HB0.out⟩
        · skip
          have HQS := hideG (show smallV V = false by unfold smallV; rw [HSB.out]; simp; omega)
          go_enter Tryz.func18, Tryz.ntmps18
          go_wp2_with (go_at_call 42; rw [HW0.out]; refine HS.out.mono ?_; rintro e wz ⟨rfl, hwz⟩; obtain rfl : _ = wz := hwz.symm; rw [HSB.out]; have p0 := P0.out; have p1 := P1.out; have p2 := P2.out; have p3 := P3.out; have p4 := P4.out)
          go_ret
          exact ⟨ret_bool HQS.out.symm, HB0.out⟩
      · skip
        have HQS := hideG (show smallV V = false by unfold smallV; rw [HSB.out]; simp; omega)
        go_enter Tryz.func18, Tryz.ntmps18
        go_wp2_with (go_at_call 42; rw [HW0.out]; refine HS.out.mono ?_; rintro e wz ⟨rfl, hwz⟩; obtain rfl : _ = wz := hwz.symm; rw [HSB.out]; have p0 := P0.out; have p1 := P1.out; have p2 := P2.out; have p3 := P3.out; have p4 := P4.out)
        go_ret
        exact ⟨ret_bool HQS.out.symm, HB0.out⟩
    · skip
      have HQS := hideG (show smallV V = false by unfold smallV; rw [HSB.out]; simp; omega)
      go_enter Tryz.func18, Tryz.ntmps18
      go_wp2_with (go_at_call 42; rw [HW0.out]; refine HS.out.mono ?_; rintro e wz ⟨rfl, hwz⟩; obtain rfl : _ = wz := hwz.symm; rw [HSB.out]; have p0 := P0.out; have p1 := P1.out; have p2 := P2.out; have p3 := P3.out; have p4 := P4.out)
      go_ret
      exact ⟨ret_bool HQS.out.symm, HB0.out⟩

set_option maxRecDepth 100000 in
set_option maxHeartbeats 4000000 in
theorem refOpen_any (tv ov mv pv qv : Value) (V : Vw) (w : World) (hV : ViewAt w tv ov mv pv qv V) (hl : V.op.length ≤ 1000 ∧ V.modal.length ≤ 1000 ∧ V.pops.length ≤ 1000) :
    Calls Tryz.prog 89 #[.agg #[tv, ov, mv, pv, qv]] w fun x w' => ∃ a c, x = .returned (.slice a (openedL V).length c) ∧ w'.ownsRow w.heap.size 3 1 (.slice a (openedL V).length c) (openedL V).length (intCells (openedL V)) ∧ Below w.heap.size w w' := by
  obtain ⟨i3, hi3, hz30, hz31, hz32⟩ := info_parts infoT3
  obtain ⟨hT, hO, hM, hP, hQ⟩ := hV
  obtain ⟨W0, hW0⟩ : ∃ W0, w.alloc (.cells #[tv, ov, mv, pv, qv] 27) = W0 := ⟨_, rfl⟩
  have HB0 := hideG (show Below w.heap.size w W0 by rw [← hW0]; exact (Below.refl _ w).alloc (Nat.le_refl _) _)
  have P0 := hideG (show W0.cell? ⟨w.heap.size, 0, none⟩ = some tv by rw [← hW0]; simp)
  have P1 := hideG (show W0.cell? ⟨w.heap.size, 1, none⟩ = some ov by rw [← hW0]; simp)
  have P2 := hideG (show W0.cell? ⟨w.heap.size, 2, none⟩ = some mv by rw [← hW0]; simp)
  have P3 := hideG (show W0.cell? ⟨w.heap.size, 3, none⟩ = some pv by rw [← hW0]; simp)
  have P4 := hideG (show W0.cell? ⟨w.heap.size, 4, none⟩ = some qv by rw [← hW0]; simp)
  have HT0 := hideG (hT.below HB0.out)
  have HO0 := hideG (hO.below HB0.out)
  have HM0 := hideG (hM.below HB0.out)
  have HP0 := hideG (hP.below HB0.out)
  have HQ0 := hideG (hQ.below HB0.out)
  have HW0 := hideG hW0
  obtain ⟨ta, tc, rfl⟩ := hT.shape
  obtain ⟨oa, oc, rfl⟩ := hO.shape
  obtain ⟨ma, mc, rfl⟩ := hM.shape
  obtain ⟨pa, pc, rfl⟩ := hP.shape
  obtain ⟨qa, qc, rfl⟩ := hQ.shape
  clear hW0 hT hO hM hP hQ
  have HLN := hideG hl
  have p1 := P1.out
  clear hl
  go_enter Tryz.func89, Tryz.ntmps89
  go_wp2_with (at_builtin; rw [HW0.out]; refine wpList_append_any rfl (.tmp 4) (.tmp 6) 24 rfl W0.heap.size 3 i3 _ 1 8 Tryz.underlying24 hi3 hz30 hz31 hz32 rfl (by decide) _ 0 (intCells []) rfl (World.ownsRow_nil _ _ _ _) _ V.op.length (intCells V.op) rfl (ints_holds HO0.out) (by simp [intCells]) (intCells_one _) ?h3 ?h4 ?h5 ?_)
  case h3 => have := HLN.out; simp only [maxLen]; omega
  case h4 => have := HLN.out; omega
  case h5 => exact Nat.le_refl _
  intro v1 w1 ho1 hg1 hf1
  obtain ⟨a1, c1, rfl⟩ := ownsRow_shape ho1
  have HB1 := hideG (show Below W0.heap.size W0 w1 from (Below.refl W0.heap.size W0).grown hg1 (Nat.le_refl _) (fun j e => by cases e))
  have HO1 := hideG (show w1.ownsRow W0.heap.size 3 1 (.slice a1 V.op.length c1) V.op.length (intCells V.op) by simpa [intCells] using ho1)
  have p2 := cell_below HB1.out P2.out
  clear ho1 hg1 hf1 p1
  go_wp2_with (at_builtin; refine wpList_append_any rfl (.tmp 8) (.tmp 10) 24 rfl W0.heap.size 3 i3 _ 1 8 Tryz.underlying24 hi3 hz30 hz31 hz32 rfl (by decide) _ V.op.length (intCells V.op) rfl HO1.out _ V.modal.length (intCells V.modal) rfl (ints_holds (HM0.out.below HB1.out)) (by simp [intCells]) (intCells_one _) ?h3 ?h4 ?h5 ?_)
  case h3 => have := HLN.out; simp only [maxLen]; omega
  case h4 => have := HLN.out; omega
  case h5 => exact HB1.out.size
  intro v2 w2 ho2 hg2 hf2
  obtain ⟨a2, c2, rfl⟩ := ownsRow_shape ho2
  have HB2 := hideG (show Below W0.heap.size W0 w2 from HB1.out.grown hg2 HB1.out.size (fun j e => (HO1.out.lt j e).1))
  have e2 : intCells V.op ++ intCells V.modal = intCells (V.op ++ V.modal) := by simp [intCells]
  rw [e2] at ho2
  have HO2 := hideG ho2
  have p3 := cell_below HB2.out P3.out
  clear ho2 hg2 hf2 p2 e2
  go_wp2_with fail
  refine (refNodes_any V.pops (.slice pa V.pops.length pc) w2 (HP0.out.below HB2.out) (by have := HLN.out; omega)).mono ?_
  rintro ex w3 ⟨a3, c3, rfl, ho3, hb3⟩
  have HI3 := hideG (show IntsAt w3 (.slice a3 V.pops.length c3) (nodesL' V.pops) from by
    have hl : (nodesL' V.pops).length = V.pops.length := by simp [nodesL']
    rw [← hl] at ho3 ⊢
    exact ownsRow_ints ho3)
  have HO3 := hideG (ownsRow_below HO2.out hb3 (fun j e => (HO2.out.lt j e).2))
  have HB3 := hideG (HB2.out.trans (hb3.mono HB2.out.size))
  have hnl : (nodesL' V.pops).length = V.pops.length := by simp [nodesL']
  have hh3 : Holds w3 (.slice a3 V.pops.length c3) V.pops.length (intCells (nodesL' V.pops)) := by
    have := ints_holds HI3.out
    rwa [hnl] at this
  have HH3 := hideG hh3
  have HNL := hideG hnl
  clear ho3 hb3 p3 hh3 hnl
  go_wp2_with (at_builtin; refine wpList_append_any rfl (.tmp 12) (.tmp 15) 24 rfl W0.heap.size 3 i3 _ 1 8 Tryz.underlying24 hi3 hz30 hz31 hz32 rfl (by decide) _ (V.op.length + V.modal.length) (intCells (V.op ++ V.modal)) rfl HO3.out _ V.pops.length (intCells (nodesL' V.pops)) rfl HH3.out (by simp [intCells, HNL.out]) (intCells_one _) ?h3 ?h4 ?h5 ?_)
  case h3 => have := HLN.out; simp only [maxLen]; omega
  case h4 => have := HLN.out; omega
  case h5 => exact HB3.out.size
  intro v4 w4 ho4 hg4 hf4
  obtain ⟨a4, c4, rfl⟩ := ownsRow_shape ho4
  have HB4 := hideG (show Below W0.heap.size W0 w4 from HB3.out.grown hg4 HB3.out.size (fun j e => (HO3.out.lt j e).1))
  have e4 : intCells (V.op ++ V.modal) ++ intCells (nodesL' V.pops) = intCells (openedL V) := by simp [intCells, openedL, raisedL]
  have el : V.op.length + V.modal.length + V.pops.length = (openedL V).length := by simp [openedL, raisedL, nodesL']; omega
  rw [e4, el] at ho4
  have HO4 := hideG ho4
  have HEL := hideG el
  clear ho4 hg4 hf4 e4 el
  go_wp2_with fail
  go_ret
  rw [HEL.out]
  exact ⟨a4, c4, rfl, ownsRow_base HO4.out HB0.out.size, HB0.out.trans (HB4.out.mono HB0.out.size)⟩

set_option maxRecDepth 100000 in
set_option maxHeartbeats 4000000 in
theorem refIsOpen_any (tv ov mv pv qv : Value) (V : Vw) (w : World) (hV : ViewAt w tv ov mv pv qv V) (n : Int) (hl : V.op.length ≤ 1000 ∧ V.modal.length ≤ 1000 ∧ V.pops.length ≤ 1000) :
    Calls Tryz.prog 36 #[.agg #[tv, ov, mv, pv, qv], .int .i64 n] w fun x w' => x = .returned (.bool (containsB (openedL V) n)) ∧ Below w.heap.size w w' := by
  obtain ⟨hT, hO, hM, hP, hQ⟩ := hV
  obtain ⟨W0, hW0⟩ : ∃ W0, w.alloc (.cells #[tv, ov, mv, pv, qv] 27) = W0 := ⟨_, rfl⟩
  have HB0 := hideG (show Below w.heap.size w W0 by rw [← hW0]; exact (Below.refl _ w).alloc (Nat.le_refl _) _)
  have P0 := hideG (show W0.cell? ⟨w.heap.size, 0, none⟩ = some tv by rw [← hW0]; simp)
  have P1 := hideG (show W0.cell? ⟨w.heap.size, 1, none⟩ = some ov by rw [← hW0]; simp)
  have P2 := hideG (show W0.cell? ⟨w.heap.size, 2, none⟩ = some mv by rw [← hW0]; simp)
  have P3 := hideG (show W0.cell? ⟨w.heap.size, 3, none⟩ = some pv by rw [← hW0]; simp)
  have P4 := hideG (show W0.cell? ⟨w.heap.size, 4, none⟩ = some qv by rw [← hW0]; simp)
  have HT0 := hideG (hT.below HB0.out)
  have HO0 := hideG (hO.below HB0.out)
  have HM0 := hideG (hM.below HB0.out)
  have HP0 := hideG (hP.below HB0.out)
  have HQ0 := hideG (hQ.below HB0.out)
  have HW0 := hideG hW0
  obtain ⟨ta, tc, rfl⟩ := hT.shape
  obtain ⟨oa, oc, rfl⟩ := hO.shape
  obtain ⟨ma, mc, rfl⟩ := hM.shape
  obtain ⟨pa, pc, rfl⟩ := hP.shape
  obtain ⟨qa, qc, rfl⟩ := hQ.shape
  clear hW0 hT hO hM hP hQ
  have HO := hideG (refOpen_any _ _ _ _ _ V W0 ⟨HT0.out, HO0.out, HM0.out, HP0.out, HQ0.out⟩ hl)
  have HLN := hideG (show (openedL V).length ≤ 1000000 by simp [openedL, raisedL, nodesL']; omega)
  have p0 := P0.out
  have p1 := P1.out
  have p2 := P2.out
  have p3 := P3.out
  have p4 := P4.out
  clear hl
  go_enter Tryz.func36, Tryz.ntmps36
  go_wp2_with fail
  rw [HW0.out]
  refine HO.out.mono ?_
  rintro ex w1 ⟨a, c, rfl, ho1, hb1⟩
  have HI := hideG (ownsRow_ints ho1)
  have HB1 := hideG (HB0.out.trans (hb1.mono HB0.out.size))
  obtain ⟨L, hL⟩ : ∃ L, openedL V = L := ⟨_, rfl⟩
  rw [hL] at HI HLN ⊢
  have HLQ := hideG hL
  clear ho1 hb1 p0 p1 p2 p3 p4 hL
  go_wp2_with fail
  refine (refIn_any L _ n w1 HI.out HLN.out).mono ?_
  rintro ex wz ⟨rfl, hwz⟩
  obtain rfl : _ = wz := hwz.symm
  go_wp2_with fail
  go_ret
  exact ⟨ret_bool (by rw [HLQ.out]), HB1.out⟩

def withoutL (l : List Int) (n : Int) : List Int := l.filter fun x => x != n
set_option maxRecDepth 100000 in
set_option maxHeartbeats 4000000 in
theorem refWithout_any (l : List Int) (n : Int) (v : Value) (w : World) (hL : IntsAt w v l) (hl : l.length ≤ 1000000) :
    Calls Tryz.prog 88 #[v, .int .i64 n] w fun x w' => ∃ a c, x = .returned (.slice a (withoutL l n).length c) ∧ w'.ownsRow w.heap.size 3 1 (.slice a (withoutL l n).length c) (withoutL l n).length (intCells (withoutL l n)) ∧ Below w.heap.size w w' := by
  obtain ⟨i3, hi3, hz30, hz31, hz32⟩ := info_parts infoT3
  obtain ⟨a, cap, rfl, hc⟩ := hL
  have HC := hideG hc
  clear hc
  go_enter Tryz.func88, Tryz.ntmps88
  go_wp2_with fail
  go_loopw [5, 6] (fun o i wr => ∃ (k : Nat) (oa : Option Addr) (oc : Nat), k ≤ l.length ∧ i = .int .i64 (k : Int) ∧ o = .slice oa (withoutL (l.take k) n).length oc ∧ wr.ownsRow w.heap.size 3 1 (.slice oa (withoutL (l.take k) n).length oc) (withoutL (l.take k) n).length (intCells (withoutL (l.take k) n)) ∧ Below w.heap.size w wr) (fun _ i _ => l.length - (intOf i).toNat)
  case atStart => exact ⟨0, none, 0, Nat.zero_le _, rfl, rfl, World.ownsRow_nil _ _ _ _, Below.refl _ _⟩
  case round =>
    obtain ⟨k, oa, oc, hk, rfl, rfl, hown, hB⟩ := hrel
    have HOW := hideG hown
    have HB := hideG hB
    clear hown hB
    by_cases hlt : k < l.length
    · obtain ⟨b, off, rfl, hd⟩ := HC.out (by omega)
      have c0 := cell_below HB.out (hd k hlt)
      have HT := hideG (show withoutL (l.take (k + 1)) n = withoutL (l.take k) n ++ (if (l.getD k 0 != n) = true then [l.getD k 0] else []) by
        unfold withoutL
        rw [filter_takeI hlt])
      have hfl : (withoutL (l.take k) n).length ≤ l.length := by
        unfold withoutL
        have h1 := List.length_filter_le (fun x => x != n) (l.take k)
        have h2 : (l.take k).length ≤ l.length := by rw [List.length_take]; omega
        omega
      generalize l.getD k 0 = x at *
      have hbl : b < wr.heap.size := below_of_cell c0
      have hk0 : (0 : Int) ≤ (k : Int) := by omega
      clear hd
      cases hx : (x != n)
      · have HE := hideG (show withoutL (l.take (k + 1)) n = withoutL (l.take k) n by rw [HT.out, hx]; simp)
        go_wp2_with fail
        go_roundw
        case rel => exact ⟨k + 1, oa, oc, by omega, by go_num, by rw [HE.out], by rw [HE.out]; exact HOW.out, HB.out⟩
        case measure => simp [intOf]; omega
      · have HE := hideG (show withoutL (l.take (k + 1)) n = withoutL (l.take k) n ++ [x] by rw [HT.out, hx]; simp)
        generalize withoutL (l.take k) n = cur at *
        go_wp2_with (at_builtin; refine wpList_append_any rfl (.tmp 19) (.tmp 24) 24 rfl w.heap.size 3 i3 _ 1 8 Tryz.underlying24 hi3 hz30 hz31 hz32 rfl (by decide) _ cur.length (intCells cur) rfl (HOW.out.alloc _) _ 1 [.int .i64 x] rfl (row_new1 _ _) rfl ?h2 ?h3 ?h4 ?h5 ?_)
        case h2 => intro y hy; simp at hy; subst hy; rfl
        case h3 => simp only [maxLen]; omega
        case h4 => omega
        case h5 => have := HB.out.size; simp; omega
        intro v4 w4 ho4 hg4 hf4
        obtain ⟨a4, c4, rfl⟩ := ownsRow_shape ho4
        rw [intCells_snoc] at ho4
        have HB4 := hideG ((HB.out.alloc HB.out.size (.cells #[.int .i64 x] 3)).grown hg4 (by have := HB.out.size; simp; omega) (fun j e => (HOW.out.lt j e).1))
        have hl4 : (withoutL (l.take (k + 1)) n).length = cur.length + 1 := by rw [HE.out]; simp
        have HL4 := hideG hl4
        have HO4 := hideG ho4
        clear ho4 hg4 hf4 hl4
        go_wp2_with fail
        go_roundw
        case rel => exact ⟨k + 1, a4, c4, by omega, by go_num, by rw [HL4.out], by rw [HL4.out, HE.out]; exact HO4.out, HB4.out⟩
        case measure => simp [intOf]; omega
    · have hke : l.take k = l := List.take_of_length_le (by omega)
      rw [hke] at HOW ⊢
      go_wp2_with fail
      go_ret
      exact ⟨oa, oc, rfl, HOW.out, HB.out⟩
end Go.Proofs.YtclhimodopgeoaaGreat

namespace Go.Proofs.YtclhimodopgeoaaGreat
open Go.RowKit

/-- May who stands at a place among the open ones? -/
def goodAt (V : Vw) (i : Nat) : Bool := if i < V.op.length + V.modal.length then dlgB V.tree ((openedL V).getD i 0) else popB V.tree ((openedL V).getD i 0)
/-- May a view be, whose tree may be? -/
def mayV (V : Vw) : Bool := (List.range (openedL V).length).all (goodAt V) && (V.pops.all (fitsB V.tree) && ((raisedL V).all (containsB V.top) && (onceB (openedL V) && (onceB V.top && (V.top.length == (raisedL V).length)))))
theorem may_bad1 {V : Vw} {i : Nat} (hi : i < (openedL V).length) (h : goodAt V i = false) : mayV V = false := by
  unfold mayV
  rw [show (List.range (openedL V).length).all (goodAt V) = false by
    rw [List.all_eq_false]; exact ⟨i, List.mem_range.mpr hi, by rw [h]; simp⟩]
  rfl
theorem good_all {V : Vw} (h : ∀ j, j < (openedL V).length → goodAt V j = true) : (List.range (openedL V).length).all (goodAt V) = true := by
  rw [List.all_eq_true]; exact fun j hj => h j (List.mem_range.mp hj)

set_option maxRecDepth 100000 in
set_option maxHeartbeats 8000000 in
theorem refMay10_any (tv ov mv pv qv : Value) (V : Vw) (w : World) (hV : ViewAt w tv ov mv pv qv V) (hS : Sane V.tree) (hm : mayB V.tree = true) (hl : V.op.length ≤ 1000 ∧ V.modal.length ≤ 1000 ∧ V.pops.length ≤ 1000 ∧ V.top.length ≤ 1000) :
    Calls Tryz.prog 35 #[.agg #[tv, ov, mv, pv, qv]] w fun x w' => x = .returned (.bool (mayV V)) ∧ Below w.heap.size w w' := by
  obtain ⟨hT, hO, hM, hP, hQ⟩ := hV
  obtain ⟨W0, hW0⟩ : ∃ W0, w.alloc (.cells #[tv, ov, mv, pv, qv] 27) = W0 := ⟨_, rfl⟩
  have HB0 := hideG (show Below w.heap.size w W0 by rw [← hW0]; exact (Below.refl _ w).alloc (Nat.le_refl _) _)
  have P0 := hideG (show W0.cell? ⟨w.heap.size, 0, none⟩ = some tv by rw [← hW0]; simp)
  have P1 := hideG (show W0.cell? ⟨w.heap.size, 1, none⟩ = some ov by rw [← hW0]; simp)
  have P2 := hideG (show W0.cell? ⟨w.heap.size, 2, none⟩ = some mv by rw [← hW0]; simp)
  have P3 := hideG (show W0.cell? ⟨w.heap.size, 3, none⟩ = some pv by rw [← hW0]; simp)
  have P4 := hideG (show W0.cell? ⟨w.heap.size, 4, none⟩ = some qv by rw [← hW0]; simp)
  have HT0 := hideG (hT.below HB0.out)
  have HO0 := hideG (hO.below HB0.out)
  have HM0 := hideG (hM.below HB0.out)
  have HP0 := hideG (hP.below HB0.out)
  have HQ0 := hideG (hQ.below HB0.out)
  have HW0 := hideG hW0
  obtain ⟨ta, tc, rfl⟩ := hT.shape
  obtain ⟨oa, oc, rfl⟩ := hO.shape
  obtain ⟨ma, mc, rfl⟩ := hM.shape
  obtain ⟨pa, pc, rfl⟩ := hP.shape
  obtain ⟨qa, qc, rfl⟩ := hQ.shape
  clear hW0 hT hO hM hP hQ
  have HO := hideG (refOpen_any _ _ _ _ _ V W0 ⟨HT0.out, HO0.out, HM0.out, HP0.out, HQ0.out⟩ ⟨hl.1, hl.2.1, hl.2.2.1⟩)
  have HS := hideG hS
  have HM := hideG hm
  have h1l := hl.1
  have h2l := hl.2.1
  have h3l := hl.2.2.1
  have h4l := hl.2.2.2
  have HOL := hideG (show (openedL V).length = V.op.length + V.modal.length + V.pops.length by simp [openedL, raisedL, nodesL']; omega)
  have p0 := P0.out
  have p1 := P1.out
  have p2 := P2.out
  have p3 := P3.out
  have p4 := P4.out
  clear hl hS hm
  go_enter Tryz.func35, Tryz.ntmps35
  go_wp2_with fail
  rw [HW0.out]
  refine HO.out.mono ?_
  rintro ex w1 ⟨la, lc, rfl, ho1, hb1⟩
  have HLI := hideG (ownsRow_ints ho1)
  have HLC := hideG (show (openedL V).length ≤ lc by
    rcases ho1.2 with ⟨e, h0⟩ | ⟨g, cap, cur, e, _, _, hn, _⟩
    · omega
    · injection e with _ _ e3
      omega)
  have HX1 := hideG hb1
  have HB1 := hideG (HB0.out.trans (hb1.mono HB0.out.size))
  obtain ⟨L, hL⟩ : ∃ L, openedL V = L := ⟨_, rfl⟩
  rw [hL] at HLI HOL HLC ⊢
  have HLQ := hideG hL
  have hLb : L.length ≤ 3000 := by have := HOL.out; omega
  clear ho1 hb1 hL p0 p1 p2 p3 p4
  go_wp2_with fail
  go_loopw [4] (fun i wr => ∃ k : Nat, k ≤ L.length ∧ i = .int .i64 (k : Int) ∧ (∀ j, j < k → goodAt V j = true) ∧ Below w1.heap.size w1 wr) (fun i _ => L.length - (intOf i).toNat)
  case atStart => exact ⟨0, Nat.zero_le _, rfl, fun j hj => by omega, Below.refl _ _⟩
  case round =>
    obtain ⟨k, hk, rfl, hno, hB⟩ := hrel
    have HNO := hideG hno
    have HB := hideG hB
    have HBX := HX1.out.trans (hB.mono HX1.out.size)
    have p0 := cell_below HBX P0.out
    have p1 := cell_below HBX P1.out
    have p2 := cell_below HBX P2.out
    have p3 := cell_below HBX P3.out
    have p4 := cell_below HBX P4.out
    have hwb : w.heap.size < wr.heap.size := below_of_cell p0
    clear hno hB
    by_cases hlt : k < L.length
    · obtain ⟨a', c', hv, hc⟩ := HLI.out
      injection hv with x1 x2 x3
      subst x1
      clear x2 x3
      obtain ⟨b, off, rfl, hd⟩ := hc (by omega)
      have c0 := cell_below HB.out (hd k hlt)
      have hbl : b < wr.heap.size := below_of_cell c0
      have hk0 : (0 : Int) ≤ (k : Int) := by omega
      have hcc : ∀ (d : Calm wr) (b o : Nat), b < wr.heap.size → d.to.cell? ⟨b, o, none⟩ = wr.cell? ⟨b, o, none⟩ := calmCell
      have HKL := hideG hlt
      generalize hx : L.getD k 0 = x at *
      have HX := hideG (show (openedL V).getD k 0 = x by rw [HLQ.out]; exact hx)
      clear hd hc hx
      by_cases hkb : (k : Int) < (V.op.length : Int) + (V.modal.length : Int)
      · skip
        have HSIDE := hideG (show (k < V.op.length + V.modal.length) from by omega)
        have HD := hideG (show ∀ x U, Below wr.heap.size wr U → Calls Tryz.prog 76 #[.slice ta V.tree.length tc, .int .i64 x] U (fun e w' => e = .returned (.bool (dlgB V.tree x)) ∧ Below wr.heap.size wr w') from fun x U hU => by
          refine (refDialogs_any V.tree HM.out _ x U (((HT0.out.below HX1.out).below HB.out).below hU)).mono ?_
          rintro e w' ⟨rfl, hb⟩
          exact ⟨rfl, hU.trans (hb.mono hU.size)⟩)
        cases hcn : dlgB V.tree x
        · have HQ := hideG (show mayV V = false by
            have h1 : goodAt V k = false := by unfold goodAt; rw [HX.out]; simp only [HSIDE.out, if_true]; exact hcn
            exact may_bad1 (by rw [← HLQ.out] at HKL; exact HKL.out) h1)
          have HN := hideG hcn
          clear hcn
          go_wp2_with fail
          refine wp_region_calm (by kernel_rfl) (by kernel_rfl) ?_
          repeat (go_big_quiet_step (first | (go_at_call 76; refine Calls.mono (HD.out x _ (Calm.below _)) ?_; rintro ex wx ⟨rfl, hbx⟩; rw [HN.out]; exact ⟨rfl, ⟨wx, hbx⟩, rfl⟩)))
          refine wpQuiet_nil ?_
          intro _ hw'
          obtain ⟨dq, hw''⟩ := hw'
          subst hw''
          have HB9 := hideG (HB.out.trans (dq.below.mono HB.out.size))
          generalize dq.to = wd at *
          clear dq hcc c0 p0 p1 p2 p3 p4 hwb
          go_wp2_with fail
          go_ret
          exact ⟨ret_bool HQ.out.symm, HB1.out.trans (HB9.out.mono HB1.out.size)⟩
        · skip
          have HN := hideG hcn
          clear hcn
          go_wp2_with fail
          refine wp_region_calm (by kernel_rfl) (by kernel_rfl) ?_
          repeat (go_big_quiet_step (first | (go_at_call 76; refine Calls.mono (HD.out x _ (Calm.below _)) ?_; rintro ex wx ⟨rfl, hbx⟩; rw [HN.out]; exact ⟨rfl, ⟨wx, hbx⟩, rfl⟩)))
          refine wpQuiet_nil ?_
          intro _ hw'
          obtain ⟨dq, hw''⟩ := hw'
          subst hw''
          have HB9 := hideG (HB.out.trans (dq.below.mono HB.out.size))
          generalize dq.to = wd at *
          clear dq hcc c0 p0 p1 p2 p3 p4 hwb
          go_wp2_with fail
          go_roundw
          case rel => exact ⟨k + 1, by omega, by go_num, fun j hj => by
            by_cases q : j = k
            · subst q; unfold goodAt; rw [HX.out]; simp only [HSIDE.out, if_true]; exact HN.out
            · exact HNO.out j (by omega), HB9.out⟩
          case measure => simp [intOf]; omega
      · skip
        have HSIDE := hideG (show ¬ (k < V.op.length + V.modal.length) from by omega)
        have HD := hideG (show ∀ x U, Below wr.heap.size wr U → Calls Tryz.prog 77 #[.slice ta V.tree.length tc, .int .i64 x] U (fun e w' => e = .returned (.bool (popB V.tree x)) ∧ Below wr.heap.size wr w') from fun x U hU => by
          refine (refPopups_any V.tree HS.out HM.out _ x U (((HT0.out.below HX1.out).below HB.out).below hU)).mono ?_
          rintro e w' ⟨rfl, hb⟩
          exact ⟨rfl, hU.trans (hb.mono hU.size)⟩)
        cases hcn : popB V.tree x
        · have HQ := hideG (show mayV V = false by
            have h1 : goodAt V k = false := by unfold goodAt; rw [HX.out]; simp only [HSIDE.out, if_false]; exact hcn
            exact may_bad1 (by rw [← HLQ.out] at HKL; exact HKL.out) h1)
          have HN := hideG hcn
          clear hcn
          go_wp2_with fail
          refine wp_region_calm (by kernel_rfl) (by kernel_rfl) ?_
          repeat (go_big_quiet_step (first | (go_at_call 77; refine Calls.mono (HD.out x _ (Calm.below _)) ?_; rintro ex wx ⟨rfl, hbx⟩; rw [HN.out]; exact ⟨rfl, ⟨wx, hbx⟩, rfl⟩)))
          refine wpQuiet_nil ?_
          intro _ hw'
          obtain ⟨dq, hw''⟩ := hw'
          subst hw''
          have HB9 := hideG (HB.out.trans (dq.below.mono HB.out.size))
          generalize dq.to = wd at *
          clear dq hcc c0 p0 p1 p2 p3 p4 hwb
          go_wp2_with fail
          go_ret
          exact ⟨ret_bool HQ.out.symm, HB1.out.trans (HB9.out.mono HB1.out.size)⟩
        · skip
          have HN := hideG hcn
          clear hcn
          go_wp2_with fail
          refine wp_region_calm (by kernel_rfl) (by kernel_rfl) ?_
          repeat (go_big_quiet_step (first | (go_at_call 77; refine Calls.mono (HD.out x _ (Calm.below _)) ?_; rintro ex wx ⟨rfl, hbx⟩; rw [HN.out]; exact ⟨rfl, ⟨wx, hbx⟩, rfl⟩)))
          refine wpQuiet_nil ?_
          intro _ hw'
          obtain ⟨dq, hw''⟩ := hw'
          subst hw''
          have HB9 := hideG (HB.out.trans (dq.below.mono HB.out.size))
          generalize dq.to = wd at *
          clear dq hcc c0 p0 p1 p2 p3 p4 hwb
          go_wp2_with fail
          go_roundw
          case rel => exact ⟨k + 1, by omega, by go_num, fun j hj => by
            by_cases q : j = k
            · subst q; unfold goodAt; rw [HX.out]; simp only [HSIDE.out, if_false]; exact HN.out
            · exact HNO.out j (by omega), HB9.out⟩
          case measure => simp [intOf]; omega
    · have hke : k = L.length := by omega
      have HGOOD := hideG (show (List.range (openedL V).length).all (goodAt V) = true from good_all (fun j hj => HNO.out j (by rw [HLQ.out] at hj; omega)))
      clear hke
      have hkL : ¬ (k : Int) < (L.length : Int) := by omega
      have HB2 := HB
      have HPS := hideG ((HP0.out.below HX1.out).below HB.out)
      have HBXH := hideG HBX
      clear HNO HBX
      go_wp2_with fail
      go_loop [5] (fun i => ∃ q : Nat, q ≤ V.pops.length ∧ i = .int .i64 (q : Int) ∧ ∀ j, j < q → fitsB V.tree (V.pops.getD j shD) = true) (fun i => V.pops.length - (intOf i).toNat)
      case atStart => exact ⟨0, Nat.zero_le _, rfl, fun j hj => by omega⟩
      case round =>
        obtain ⟨q, hq, rfl, hno⟩ := hrel
        have HNO := hideG hno
        clear hno
        by_cases hqt : q < V.pops.length
        · obtain ⟨a', c', hv, _, hc⟩ := HPS.out
          injection hv with x1 x2 x3
          subst x1
          clear x2 x3
          obtain ⟨b, off, rfl, hd⟩ := hc (by omega)
          have hH := hd q hqt
          generalize hx : V.pops.getD q shD = x at *
          have HX := hideG hx
          have c1 := hH.inv
          have hq0 : (0 : Int) ≤ (q : Int) := by omega
          clear hd hc hH hx
          cases hinv : (x.inv == -1)
          · have hinv2 : (x.inv != -1) = true := by rw [bne, hinv]; rfl
            cases hnd : isNodeB V.tree.length x.inv
            · have HQ := hideG (show mayV V = false by
                have : V.pops.all (fitsB V.tree) = false := all_no shD hqt (by rw [HX.out]; simp [fitsB, hinv, hnd])
                unfold mayV; rw [this]; simp)
              have HND := hideG hnd
              clear hnd hinv
              go_wp2_with (go_at_call 47; refine (refIs_any _ _ _ _ _).mono ?_; rintro e wz ⟨rfl, hwz⟩; obtain rfl : _ = wz := hwz.symm; rw [HND.out])
              go_ret
              exact ⟨ret_bool HQ.out.symm, HB1.out.trans (HB2.out.mono HB1.out.size)⟩
            · have HFT := hideG (show fitsB V.tree x = true by simp [fitsB, hinv, hnd])
              have HND := hideG hnd
              clear hnd hinv
              go_wp2_with (go_at_call 47; refine (refIs_any _ _ _ _ _).mono ?_; rintro e wz ⟨rfl, hwz⟩; obtain rfl : _ = wz := hwz.symm; rw [HND.out])
              go_round
              case rel => exact ⟨q + 1, by omega, by go_num, fun j hj => by
                by_cases e : j = q
                · subst e; rw [HX.out]; exact HFT.out
                · exact HNO.out j (by omega)⟩
              case measure => simp [intOf]; omega
          · have hinv2 : (x.inv != -1) = false := by rw [bne, hinv]; rfl
            have HFT := hideG (show fitsB V.tree x = true by simp [fitsB, hinv])
            clear hinv
            go_wp2_with fail
            go_round
            case rel => exact ⟨q + 1, by omega, by go_num, fun j hj => by
              by_cases e : j = q
              · subst e; rw [HX.out]; exact HFT.out
              · exact HNO.out j (by omega)⟩
            case measure => simp [intOf]; omega
        · have HFIT := hideG (show V.pops.all (fitsB V.tree) = true from all_take shD (fun j hj => HNO.out j (by omega)))
          have hqL : ¬ (q : Int) < (V.pops.length : Int) := by omega
          have hol : V.op.length ≤ L.length := by have := HOL.out; omega
          have hoc : V.op.length ≤ lc := by have := HLC.out; omega
          have hlc : L.length ≤ lc := HLC.out
          clear HNO
          generalize wr = w2 at *
          have HRL := hideG (show L.length - V.op.length = (raisedL V).length by rw [← HLQ.out]; simp [openedL])
          have HLW := hideG (HLI.out.below HB2.out)
          have HTI := hideG ((HQ0.out.below HX1.out).below HB2.out)
          by_cases hcz : lc = V.op.length
          · subst hcz
            have HRZ := hideG (show raisedL V = [] from List.length_eq_zero_iff.mp (by have := HRL.out; omega))
            go_wp2_with fail
            go_loopw [8] (fun i wr => i = .int .i64 0 ∧ Below w2.heap.size w2 wr) (fun _ _ => 0)
            case atStart => exact ⟨rfl, Below.refl _ _⟩
            case round =>
              obtain ⟨rfl, hB⟩ := hrel
              have HB3 := hideG hB
              have HBX := HBXH.out.trans (hB.mono HBXH.out.size)
              have p0 := cell_below HBX P0.out
              have p1 := cell_below HBX P1.out
              have p2 := cell_below HBX P2.out
              have p3 := cell_below HBX P3.out
              have p4 := cell_below HBX P4.out
              have hwb : w.heap.size < wr.heap.size := below_of_cell p0
              clear hB HBX
              have HRA := hideG (show (raisedL V).all (containsB V.top) = true by rw [HRZ.out]; rfl)
              have HEQ := hideG (show mayV V = (onceB L && (onceB V.top && (V.top.length == (raisedL V).length))) by unfold mayV; rw [HGOOD.out, HFIT.out, HRA.out, HLQ.out]; simp)
              have HO1 := hideG (refOnce_any L _ wr (HLW.out.below HB3.out) (by omega))
              have HO2 := hideG (refOnce_any V.top _ wr (HTI.out.below HB3.out) (by omega))
              have HBF := hideG (HB1.out.trans ((HB2.out.trans (HB3.out.mono HB2.out.size)).mono HB1.out.size))
              cases ho1 : onceB L
              · have HN1 := hideG ho1
                have HQ := hideG (show mayV V = false by rw [HEQ.out, ho1]; rfl)
                clear ho1
                go_wp2_with fail
                refine HO1.out.mono ?_
                rintro ex wz ⟨rfl, hwz⟩
                obtain rfl : _ = wz := hwz.symm
                rw [HN1.out]
                go_wp2_with fail
                go_ret
                exact ⟨ret_bool HQ.out.symm, HBF.out⟩
              · have HN1 := hideG ho1
                clear ho1
                cases ho2 : onceB V.top
                · have HN2 := hideG ho2
                  have HQ := hideG (show mayV V = false by rw [HEQ.out, HN1.out, ho2]; rfl)
                  clear ho2
                  go_wp2_with fail
                  refine HO1.out.mono ?_
                  rintro ex wz ⟨rfl, hwz⟩
                  obtain rfl : _ = wz := hwz.symm
                  rw [HN1.out]
                  go_wp2_with fail
                  refine HO2.out.mono ?_
                  rintro ex wz ⟨rfl, hwz⟩
                  obtain rfl : _ = wz := hwz.symm
                  rw [HN2.out]
                  go_wp2_with fail
                  go_ret
                  exact ⟨ret_bool HQ.out.symm, HBF.out⟩
                · have HN2 := hideG ho2
                  have HQ := hideG (show mayV V = ((V.top.length : Int) == 0) by rw [HEQ.out, HN1.out, ho2, Bool.true_and, Bool.true_and, HRZ.out, Bool.eq_iff_iff]; simp)
                  clear ho2
                  go_wp2_with fail
                  refine HO1.out.mono ?_
                  rintro ex wz ⟨rfl, hwz⟩
                  obtain rfl : _ = wz := hwz.symm
                  rw [HN1.out]
                  go_wp2_with fail
                  refine HO2.out.mono ?_
                  rintro ex wz ⟨rfl, hwz⟩
                  obtain rfl : _ = wz := hwz.symm
                  rw [HN2.out]
                  go_wp2_with fail
                  go_ret
                  exact ⟨ret_bool HQ.out.symm, HBF.out⟩
          · have HI3 := hideG (show IntsAt w2 (.slice (Option.map (fun x => x.add V.op.length) la) (raisedL V).length (lc - V.op.length)) (raisedL V) from ⟨_, _, rfl, fun h0 => by
              obtain ⟨a', c', hv, hc⟩ := HLW.out
              injection hv with x1 x2 x3
              subst x1
              obtain ⟨b, off, rfl, hd⟩ := hc (by have := HRL.out; omega)
              refine ⟨b, off + V.op.length, by simp [addr_add], fun j hj => ?_⟩
              have h7 := hd (V.op.length + j) (by have := HRL.out; omega)
              have e7 : L.getD (V.op.length + j) 0 = (raisedL V).getD j 0 := by
                rw [← HLQ.out]
                unfold openedL
                rw [List.getD_eq_getElem?_getD, List.getD_eq_getElem?_getD, List.getElem?_append_right (by omega)]
                congr 2
                omega
              rw [e7] at h7
              rw [Nat.add_assoc]
              exact h7⟩)
            go_wp2_with fail
            rw [HRL.out]
            generalize Option.map (fun x => Addr.add x V.op.length) la = sa at *
            generalize lc - V.op.length = sc at *
            have hRb : (raisedL V).length ≤ 3000 := by have := HRL.out; omega
            go_loopw [8] (fun i wr => ∃ m : Nat, m ≤ (raisedL V).length ∧ i = .int .i64 (m : Int) ∧ (∀ j, j < m → containsB V.top ((raisedL V).getD j 0) = true) ∧ Below w2.heap.size w2 wr) (fun i _ => (raisedL V).length - (intOf i).toNat)
            case atStart => exact ⟨0, Nat.zero_le _, rfl, fun j hj => by omega, Below.refl _ _⟩
            case round =>
              obtain ⟨m, hm, rfl, hno, hB⟩ := hrel
              have HNO := hideG hno
              have HB3 := hideG hB
              have HBX := HBXH.out.trans (hB.mono HBXH.out.size)
              have p0 := cell_below HBX P0.out
              have p1 := cell_below HBX P1.out
              have p2 := cell_below HBX P2.out
              have p3 := cell_below HBX P3.out
              have p4 := cell_below HBX P4.out
              have hwb : w.heap.size < wr.heap.size := below_of_cell p0
              clear hno hB HBX
              by_cases hmt : m < (raisedL V).length
              · obtain ⟨a', c', hv, hc⟩ := HI3.out
                injection hv with x1 x2 x3
                subst x1
                clear x2 x3
                obtain ⟨b, off, he3, hd⟩ := hc (by omega)
                have c0 := cell_below HB3.out (hd m hmt)
                have hbl : b < wr.heap.size := below_of_cell c0
                have hm0 : (0 : Int) ≤ (m : Int) := by omega
                have hcc : ∀ (d : Calm wr) (b o : Nat), b < wr.heap.size → d.to.cell? ⟨b, o, none⟩ = wr.cell? ⟨b, o, none⟩ := calmCell
                have HD := hideG (show ∀ x U, Below wr.heap.size wr U → Calls Tryz.prog 37 #[.slice qa V.top.length qc, .int .i64 x] U (fun e w' => e = .returned (.bool (containsB V.top x)) ∧ Below wr.heap.size wr w') from fun x U hU => by
                  refine (refIn_any V.top _ x U ((HTI.out.below HB3.out).below hU) (by omega)).mono ?_
                  rintro e w' ⟨rfl, rfl⟩
                  exact ⟨rfl, hU⟩)
                generalize hx : (raisedL V).getD m 0 = x at *
                have HX := hideG hx
                have HE3 := hideG he3
                clear hd hc hx he3
                cases hcn : containsB V.top x
                · have HQ := hideG (show mayV V = false by
                    have : (raisedL V).all (containsB V.top) = false := all_no 0 hmt (by rw [HX.out]; exact hcn)
                    unfold mayV; rw [this]; simp)
                  have HN := hideG hcn
                  clear hcn
                  have he3 := HE3.out
                  subst he3
                  go_wp2_with fail
                  refine wp_region_calm (by kernel_rfl) (by kernel_rfl) ?_
                  repeat (go_big_quiet_step (first | (go_at_call 37; refine Calls.mono (HD.out x _ (Calm.below _)) ?_; rintro ex wx ⟨rfl, hbx⟩; rw [HN.out]; exact ⟨rfl, ⟨wx, hbx⟩, rfl⟩)))
                  refine wpQuiet_nil ?_
                  intro _ hw'
                  obtain ⟨dq, hw''⟩ := hw'
                  subst hw''
                  have HB9 := hideG (HB3.out.trans (dq.below.mono HB3.out.size))
                  generalize dq.to = wd at *
                  clear dq hcc c0 p0 p1 p2 p3 p4 hwb
                  go_wp2_with fail
                  go_ret
                  exact ⟨ret_bool HQ.out.symm, HB1.out.trans ((HB2.out.trans (HB9.out.mono HB2.out.size)).mono HB1.out.size)⟩
                · have HN := hideG hcn
                  clear hcn
                  have he3 := HE3.out
                  subst he3
                  go_wp2_with fail
                  refine wp_region_calm (by kernel_rfl) (by kernel_rfl) ?_
                  repeat (go_big_quiet_step (first | (go_at_call 37; refine Calls.mono (HD.out x _ (Calm.below _)) ?_; rintro ex wx ⟨rfl, hbx⟩; rw [HN.out]; exact ⟨rfl, ⟨wx, hbx⟩, rfl⟩)))
                  refine wpQuiet_nil ?_
                  intro _ hw'
                  obtain ⟨dq, hw''⟩ := hw'
                  subst hw''
                  have HB9 := hideG (HB3.out.trans (dq.below.mono HB3.out.size))
                  generalize dq.to = wd at *
                  clear dq hcc c0 p0 p1 p2 p3 p4 hwb
                  go_wp2_with fail
                  go_roundw
                  case rel => exact ⟨m + 1, by omega, by go_num, fun j hj => by
                    by_cases q : j = m
                    · subst q; rw [HX.out]; exact HN.out
                    · exact HNO.out j (by omega), HB9.out⟩
                  case measure => simp [intOf]; omega
              · have HRA := hideG (show (raisedL V).all (containsB V.top) = true from all_take 0 (fun j hj => HNO.out j (by omega)))
                have hmL : ¬ (m : Int) < ((raisedL V).length : Int) := by omega
                have HEQ := hideG (show mayV V = (onceB L && (onceB V.top && (V.top.length == (raisedL V).length))) by unfold mayV; rw [HGOOD.out, HFIT.out, HRA.out, HLQ.out]; simp)
                have HO1 := hideG (refOnce_any L _ wr (HLW.out.below HB3.out) (by omega))
                have HO2 := hideG (refOnce_any V.top _ wr (HTI.out.below HB3.out) (by omega))
                have HBF := hideG (HB1.out.trans ((HB2.out.trans (HB3.out.mono HB2.out.size)).mono HB1.out.size))
                clear HNO
                cases ho1 : onceB L
                · have HN1 := hideG ho1
                  have HQ := hideG (show mayV V = false by rw [HEQ.out, ho1]; rfl)
                  clear ho1
                  go_wp2_with fail
                  refine HO1.out.mono ?_
                  rintro ex wz ⟨rfl, hwz⟩
                  obtain rfl : _ = wz := hwz.symm
                  rw [HN1.out]
                  go_wp2_with fail
                  go_ret
                  exact ⟨ret_bool HQ.out.symm, HBF.out⟩
                · have HN1 := hideG ho1
                  clear ho1
                  cases ho2 : onceB V.top
                  · have HN2 := hideG ho2
                    have HQ := hideG (show mayV V = false by rw [HEQ.out, HN1.out, ho2]; rfl)
                    clear ho2
                    go_wp2_with fail
                    refine HO1.out.mono ?_
                    rintro ex wz ⟨rfl, hwz⟩
                    obtain rfl : _ = wz := hwz.symm
                    rw [HN1.out]
                    go_wp2_with fail
                    refine HO2.out.mono ?_
                    rintro ex wz ⟨rfl, hwz⟩
                    obtain rfl : _ = wz := hwz.symm
                    rw [HN2.out]
                    go_wp2_with fail
                    go_ret
                    exact ⟨ret_bool HQ.out.symm, HBF.out⟩
                  · have HN2 := hideG ho2
                    have HQ := hideG (show mayV V = ((V.top.length : Int) == ((raisedL V).length : Int)) by rw [HEQ.out, HN1.out, ho2, Bool.true_and, Bool.true_and, Bool.eq_iff_iff]; simp; omega)
                    clear ho2
                    go_wp2_with fail
                    refine HO1.out.mono ?_
                    rintro ex wz ⟨rfl, hwz⟩
                    obtain rfl : _ = wz := hwz.symm
                    rw [HN1.out]
                    go_wp2_with fail
                    refine HO2.out.mono ?_
                    rintro ex wz ⟨rfl, hwz⟩
                    obtain rfl : _ = wz := hwz.symm
                    rw [HN2.out]
                    go_wp2_with fail
                    go_ret
                    exact ⟨ret_bool HQ.out.symm, HBF.out⟩
end Go.Proofs.YtclhimodopgeoaaGreat

namespace Go.Proofs.YtclhimodopgeoaaGreat
open Go.RowKit

def checkV (V : Vw) : Int := if mayB V.tree then (if mayV V then 0 else 9) else 1
set_option maxRecDepth 100000 in
set_option maxHeartbeats 4000000 in
theorem refCheck10_any (tv ov mv pv qv : Value) (V : Vw) (w : World) (hV : ViewAt w tv ov mv pv qv V) (hS : Sane V.tree) (hl : V.op.length ≤ 1000 ∧ V.modal.length ≤ 1000 ∧ V.pops.length ≤ 1000 ∧ V.top.length ≤ 1000) :
    Calls Tryz.prog 20 #[.agg #[tv, ov, mv, pv, qv]] w fun x w' => x = .returned (.int .i64 (checkV V)) ∧ Below w.heap.size w w' := by
  obtain ⟨hT, hO, hM, hP, hQ⟩ := hV
  obtain ⟨W0, hW0⟩ : ∃ W0, w.alloc (.cells #[tv, ov, mv, pv, qv] 27) = W0 := ⟨_, rfl⟩
  have HB0 := hideG (show Below w.heap.size w W0 by rw [← hW0]; exact (Below.refl _ w).alloc (Nat.le_refl _) _)
  have P0 := hideG (show W0.cell? ⟨w.heap.size, 0, none⟩ = some tv by rw [← hW0]; simp)
  have P1 := hideG (show W0.cell? ⟨w.heap.size, 1, none⟩ = some ov by rw [← hW0]; simp)
  have P2 := hideG (show W0.cell? ⟨w.heap.size, 2, none⟩ = some mv by rw [← hW0]; simp)
  have P3 := hideG (show W0.cell? ⟨w.heap.size, 3, none⟩ = some pv by rw [← hW0]; simp)
  have P4 := hideG (show W0.cell? ⟨w.heap.size, 4, none⟩ = some qv by rw [← hW0]; simp)
  have HT0 := hideG (hT.below HB0.out)
  have HO0 := hideG (hO.below HB0.out)
  have HM0 := hideG (hM.below HB0.out)
  have HP0 := hideG (hP.below HB0.out)
  have HQ0 := hideG (hQ.below HB0.out)
  have HW0 := hideG hW0
  obtain ⟨ta, tc, rfl⟩ := hT.shape
  obtain ⟨oa, oc, rfl⟩ := hO.shape
  obtain ⟨ma, mc, rfl⟩ := hM.shape
  obtain ⟨pa, pc, rfl⟩ := hP.shape
  obtain ⟨qa, qc, rfl⟩ := hQ.shape
  clear hW0 hT hO hM hP hQ
  have HR := hideG (refMay_walk V.tree hS _ W0 HT0.out)
  have p0 := P0.out
  cases hm : mayB V.tree
  · have HM := hideG hm
    have HQ := hideG (show checkV V = 1 by simp [checkV, hm])
    clear hm hS hl
    go_enter Tryz.func20, Tryz.ntmps20
    go_wp2_with fail
    rw [HW0.out]
    refine HR.out.mono ?_
    rintro ex w1 ⟨rfl, hb1⟩
    rw [HM.out]
    have HB1 := hideG (HB0.out.trans (hb1.mono HB0.out.size))
    clear hb1 p0
    go_wp2_with fail
    go_ret
    exact ⟨ret_int HQ.out.symm, HB1.out⟩
  · have HM := hideG hm
    have HMY := hideG (fun (U : World) (h : ViewAt U (.slice ta V.tree.length tc) (.slice oa V.op.length oc) (.slice ma V.modal.length mc) (.slice pa V.pops.length pc) (.slice qa V.top.length qc) V) => refMay10_any _ _ _ _ _ V U h hS hm hl)
    clear hS hl
    cases hy : mayV V
    all_goals
      have HY := hideG hy
      have HQ := hideG (show checkV V = if mayV V then 0 else 9 by simp [checkV, HM.out])
      clear hy
      go_enter Tryz.func20, Tryz.ntmps20
      go_wp2_with fail
      rw [HW0.out]
      refine HR.out.mono ?_
      rintro ex w1 ⟨rfl, hb1⟩
      rw [HM.out]
      have HB1 := hideG (HB0.out.trans (hb1.mono HB0.out.size))
      have HV1 := hideG (show ViewAt w1 (.slice ta V.tree.length tc) (.slice oa V.op.length oc) (.slice ma V.modal.length mc) (.slice pa V.pops.length pc) (.slice qa V.top.length qc) V from ⟨HT0.out.below hb1, HO0.out.below hb1, HM0.out.below hb1, HP0.out.below hb1, HQ0.out.below hb1⟩)
      have q0 := cell_below hb1 P0.out
      have q1 := cell_below hb1 P1.out
      have q2 := cell_below hb1 P2.out
      have q3 := cell_below hb1 P3.out
      have q4 := cell_below hb1 P4.out
      clear hb1 p0
      go_wp2_with fail
      refine (HMY.out w1 HV1.out).mono ?_
      rintro ex w2 ⟨rfl, hb2⟩
      rw [HY.out]
      have HB2 := hideG (HB1.out.trans (hb2.mono HB1.out.size))
      clear hb2 q0 q1 q2 q3 q4
      go_wp2_with fail
      go_ret
      exact ⟨ret_int (by rw [HQ.out, HY.out]; rfl), HB2.out⟩

/-- The highest modal dialog: the last of the top layer that is one. -/
def highF (modal top : List Int) : Nat → Int
  | 0 => -1
  | k + 1 => if containsB modal (top.getD k 0) then top.getD k 0 else highF modal top k
def highV (V : Vw) : Int := highF V.modal V.top V.top.length
set_option maxRecDepth 100000 in
set_option maxHeartbeats 4000000 in
theorem refHighest_any (tv ov mv pv qv : Value) (V : Vw) (w : World) (hV : ViewAt w tv ov mv pv qv V) (hl : V.modal.length ≤ 1000 ∧ V.top.length ≤ 1000) :
    Calls Tryz.prog 21 #[.agg #[tv, ov, mv, pv, qv]] w fun x w' => x = .returned (.int .i64 (highV V)) ∧ Below w.heap.size w w' := by
  obtain ⟨hT, hO, hM, hP, hQ⟩ := hV
  obtain ⟨W0, hW0⟩ : ∃ W0, w.alloc (.cells #[tv, ov, mv, pv, qv] 27) = W0 := ⟨_, rfl⟩
  have HB0 := hideG (show Below w.heap.size w W0 by rw [← hW0]; exact (Below.refl _ w).alloc (Nat.le_refl _) _)
  have P0 := hideG (show W0.cell? ⟨w.heap.size, 0, none⟩ = some tv by rw [← hW0]; simp)
  have P1 := hideG (show W0.cell? ⟨w.heap.size, 1, none⟩ = some ov by rw [← hW0]; simp)
  have P2 := hideG (show W0.cell? ⟨w.heap.size, 2, none⟩ = some mv by rw [← hW0]; simp)
  have P3 := hideG (show W0.cell? ⟨w.heap.size, 3, none⟩ = some pv by rw [← hW0]; simp)
  have P4 := hideG (show W0.cell? ⟨w.heap.size, 4, none⟩ = some qv by rw [← hW0]; simp)
  have HT0 := hideG (hT.below HB0.out)
  have HO0 := hideG (hO.below HB0.out)
  have HM0 := hideG (hM.below HB0.out)
  have HP0 := hideG (hP.below HB0.out)
  have HQ0 := hideG (hQ.below HB0.out)
  have HW0 := hideG hW0
  obtain ⟨ta, tc, rfl⟩ := hT.shape
  obtain ⟨oa, oc, rfl⟩ := hO.shape
  obtain ⟨ma, mc, rfl⟩ := hM.shape
  obtain ⟨pa, pc, rfl⟩ := hP.shape
  obtain ⟨qa, qc, rfl⟩ := hQ.shape
  clear hW0 hT hO hM hP hQ
  have h2l := hl.1
  have h4l := hl.2
  have HHV := hideG (show highV V = highF V.modal V.top V.top.length from rfl)
  have p4 := P4.out
  clear hl
  go_enter Tryz.func21, Tryz.ntmps21
  go_wp2_with (first | rw [HW0.out])
  try rw [HW0.out]
  go_loopw [3] (fun i wr => ∃ k : Nat, k ≤ V.top.length ∧ i = .int .i64 ((k : Int) - 1) ∧ highV V = highF V.modal V.top k ∧ Below W0.heap.size W0 wr) (fun i _ => (intOf i + 1).toNat)
  case atStart => exact ⟨V.top.length, Nat.le_refl _, rfl, HHV.out, Below.refl _ _⟩
  case round =>
    obtain ⟨k, hk, rfl, hh, hB⟩ := hrel
    have HH := hideG hh
    have HB := hideG hB
    have q1 := cell_below hB P1.out
    have q2 := cell_below hB P2.out
    have q3 := cell_below hB P3.out
    have q4 := cell_below hB P4.out
    have hwb : w.heap.size < wr.heap.size := below_of_cell q2
    clear hh hB p4 HHV
    cases k with
    | zero =>
      have HQ := hideG (show highV V = -1 from HH.out)
      have hk1 : ((0 : Nat) : Int) - 1 = -1 := rfl
      rw [hk1]
      clear hk1
      go_wp2_with fail
      go_ret
      exact ⟨ret_int HQ.out.symm, HB0.out.trans (HB.out.mono HB0.out.size)⟩
    | succ m =>
      have hk1 : ((m + 1 : Nat) : Int) - 1 = (m : Int) := by omega
      rw [hk1]
      obtain ⟨a', c', hv, hc⟩ := HQ0.out
      injection hv with x1 x2 x3
      subst x1
      clear x2 x3 hk1
      obtain ⟨b, off, he3, hd⟩ := hc (by omega)
      have c0 := cell_below HB.out (hd m (by omega))
      have hbl : b < wr.heap.size := below_of_cell c0
      have hm0 : (0 : Int) ≤ (m : Int) := by omega
      have hml : (m : Int) < (V.top.length : Int) := by omega
      have hcc : ∀ (d : Calm wr) (b o : Nat), b < wr.heap.size → d.to.cell? ⟨b, o, none⟩ = wr.cell? ⟨b, o, none⟩ := calmCell
      have HD := hideG (show ∀ x U, Below wr.heap.size wr U → Calls Tryz.prog 37 #[.slice ma V.modal.length mc, .int .i64 x] U (fun e w' => e = .returned (.bool (containsB V.modal x)) ∧ Below wr.heap.size wr w') from fun x U hU => by
        refine (refIn_any V.modal _ x U ((HM0.out.below HB.out).below hU) (by omega)).mono ?_
        rintro e w' ⟨rfl, rfl⟩
        exact ⟨rfl, hU⟩)
      have HSTEP := hideG (show highV V = if containsB V.modal (V.top.getD m 0) then V.top.getD m 0 else highF V.modal V.top m from HH.out)
      generalize V.top.getD m 0 = x at *
      have he := he3
      subst he
      clear hd hc he3 HH
      cases hcn : containsB V.modal x
      · have HN := hideG hcn
        have HQ := hideG (show highV V = highF V.modal V.top m by rw [HSTEP.out, hcn]; rfl)
        clear hcn
        go_wp2_with fail
        refine wp_region_calm (by kernel_rfl) (by kernel_rfl) ?_
        repeat (go_big_quiet_step (first | (go_at_call 37; refine Calls.mono (HD.out x _ (Calm.below _)) ?_; rintro ex wx ⟨rfl, hbx⟩; rw [HN.out]; exact ⟨rfl, ⟨wx, hbx⟩, rfl⟩)))
        refine wpQuiet_nil ?_
        intro _ hw'
        obtain ⟨dq, hw''⟩ := hw'
        subst hw''
        have HB9 := hideG (HB.out.trans (dq.below.mono HB.out.size))
        generalize dq.to = wd at *
        clear dq hcc c0 q1 q2 q3 q4 hwb
        go_wp2_with fail
        go_roundw
        case rel => exact ⟨m, by omega, by go_num, HQ.out, HB9.out⟩
        case measure => simp [intOf]
      · have HN := hideG hcn
        have HQ := hideG (show highV V = x by rw [HSTEP.out, hcn]; rfl)
        clear hcn
        go_wp2_with fail
        refine wp_region_calm (by kernel_rfl) (by kernel_rfl) ?_
        repeat (go_big_quiet_step (first | (go_at_call 37; refine Calls.mono (HD.out x _ (Calm.below _)) ?_; rintro ex wx ⟨rfl, hbx⟩; rw [HN.out]; exact ⟨rfl, ⟨wx, hbx⟩, rfl⟩)))
        refine wpQuiet_nil ?_
        intro _ hw'
        obtain ⟨dq, hw''⟩ := hw'
        subst hw''
        have HB9 := hideG (HB.out.trans (dq.below.mono HB.out.size))
        have d0 := cell_below dq.below c0
        have r4 := cell_below dq.below q4
        have hbl9 : b < dq.to.heap.size := below_of_cell d0
        have hwb9 : w.heap.size < dq.to.heap.size := below_of_cell r4
        generalize dq.to = wd at *
        clear dq hcc c0 q1 q2 q3 q4 hwb
        go_wp2_with fail
        go_ret
        exact ⟨ret_int HQ.out.symm, HB0.out.trans (HB9.out.mono HB0.out.size)⟩
end Go.Proofs.YtclhimodopgeoaaGreat

namespace Go.Proofs.YtclhimodopgeoaaGreat
open Go.RowKit

set_option maxRecDepth 100000 in
set_option maxHeartbeats 2000000 in
theorem growNil_any (n : Nat) (w : World) (hn : n ≤ 5000) :
    Calls Tryz.prog 116 #[.slice none 0 0, .int .i64 (n : Int)] w fun x w' => ∃ a c, x = .returned (.slice a 0 c) ∧ w'.ownsRow w.heap.size 3 1 (.slice a 0 c) 0 (intCells []) ∧ Below w.heap.size w w' := by
  obtain ⟨i3, hi3, hz30, hz31, hz32⟩ := info_parts infoT3
  by_cases h0 : n = 0
  · subst h0
    go_enter Tryz.func116, Tryz.ntmps116
    go_wp2_with fail
    go_ret
    exact ⟨none, 0, rfl, World.ownsRow_nil _ _ _ _, Below.refl _ _⟩
  · have hr := fun ty => Lib.run_append_nil_zeros (P := Tryz.prog) w 24 3 ty 3 i3 (.int .i64 0) .i64 .i64 Tryz.underlying24 Tryz.underlying3 hi3 hz30 n (by omega) (by omega) (by omega) (by rw [hz32]; omega)
    have HR := hideG hr
    have hge := grownCap_ge w n 0 3
    have hle := grownCap_le_maxLen w n 0 3 (by simp only [maxLen]; omega)
    have HGE := hideG hge
    have HLE := hideG hle
    have hn0 : (0 : Int) < (n : Int) := by omega
    obtain ⟨cp, hcp⟩ : ∃ cp, grownCap w n 0 3 = cp := ⟨_, rfl⟩
    rw [hcp] at HGE HLE hge
    have HCP := hideG hcp
    clear hr hle hcp
    go_enter Tryz.func116, Tryz.ntmps116
    go_wp2_with (at_builtin; refine Lib.wpList_append_run _ rfl (.tmp 20) (.tmp 21) 24 3 rfl _ _ rfl rfl _ _ (HR.out _) ?_)
    try rw [HCP.out]
    have HBN := hideG (show Below w.heap.size w (w.drew.alloc (.cells (Builtin.zeroCells (Value.int .i64 0).cells n ++ Builtin.zeroCells (Value.int .i64 0).cells (cp - n)) 3)) from (below_drew' (Below.refl _ w)).alloc (Nat.le_refl _) _)
    have HRW := hideG (show (w.drew.alloc (.cells (Builtin.zeroCells (Value.int .i64 0).cells n ++ Builtin.zeroCells (Value.int .i64 0).cells (cp - n)) 3)).ownsRow w.heap.size 3 1 (.slice (some ⟨w.heap.size, 0, none⟩) 0 cp) 0 (intCells []) from
      ⟨rfl, .inr ⟨w.heap.size, cp, (Builtin.zeroCells (Value.int .i64 0).cells n ++ Builtin.zeroCells (Value.int .i64 0).cells (cp - n)), rfl, Nat.le_refl _, World.alloc_heap_new w.drew _, Nat.zero_le _, HLE.out, by rw [Array.size_append, size_zeroCells, size_zeroCells]; have := HGE.out; simp [Value.cells]; omega, by simp [intCells]⟩⟩)
    go_wp2_with fail
    go_ret
    exact ⟨_, cp, rfl, HRW.out, HBN.out⟩
set_option maxRecDepth 100000 in
set_option maxHeartbeats 4000000 in
theorem concat2_any (l m : List Int) (v u : Value) (B : Nat) (w : World) (hL : IntsAt w v l) (hM : IntsAt w u m) (c0 : w.cell? ⟨B, 0, none⟩ = some v) (c1 : w.cell? ⟨B, 1, none⟩ = some u) (hll : l.length ≤ 2000) (hml : m.length ≤ 2000) :
    Calls Tryz.prog 74 #[.slice (some ⟨B, 0, none⟩) 2 2] w fun x w' => ∃ a c, x = .returned (.slice a (l ++ m).length c) ∧ w'.ownsRow w.heap.size 3 1 (.slice a (l ++ m).length c) (l ++ m).length (intCells (l ++ m)) ∧ Below w.heap.size w w' := by
  obtain ⟨i3, hi3, hz30, hz31, hz32⟩ := info_parts infoT3
  have HL := hideG hL
  have HM := hideG hM
  obtain ⟨la, lc, rfl⟩ := hL.shape
  obtain ⟨ma, mc, rfl⟩ := hM.shape
  have P0 := hideG c0
  have P1 := hideG c1
  have hg := growNil_any (l.length + m.length) w (by omega)
  rw [Int.natCast_add] at hg
  have HG := hideG hg
  have hl0 : (0 : Int) ≤ (l.length : Int) := by omega
  have hm0 : (0 : Int) ≤ (m.length : Int) := by omega
  clear hg hL hM
  go_enter Tryz.func74, Tryz.ntmps74
  go_wp2_with fail
  go_loop [3, 11] (fun s i => (i = .int .i64 0 ∧ s = .int .i64 0) ∨ (i = .int .i64 1 ∧ s = .int .i64 (l.length : Int)) ∨ (i = .int .i64 2 ∧ s = .int .i64 ((l.length : Int) + (m.length : Int)))) (fun _ i => (2 - intOf i).toNat)
  case atStart => exact .inl ⟨rfl, rfl⟩
  case round =>
    rcases hrel with ⟨rfl, rfl⟩ | ⟨rfl, rfl⟩ | ⟨rfl, rfl⟩
    · go_wp2_with fail
      go_round
      case rel => exact .inr (.inl ⟨rfl, by go_num⟩)
      case measure => simp [intOf]
    · go_wp2_with fail
      go_round
      case rel => exact .inr (.inr ⟨rfl, by go_num⟩)
      case measure => simp [intOf]
    · clear c0 c1
      go_wp2_with fail
      refine HG.out.mono ?_
      rintro ex w1 ⟨a1, k1, rfl, ho1, hb1⟩
      have HO1 := hideG ho1
      have HB1 := hideG hb1
      clear ho1 hb1
      go_wp2_with fail
      go_loopw [6, 27] (fun o i wr => ∃ (a : Option Addr) (c : Nat) (done : List Int), o = .slice a done.length c ∧ wr.ownsRow w.heap.size 3 1 (.slice a done.length c) done.length (intCells done) ∧ Below w.heap.size w wr ∧ ((i = .int .i64 0 ∧ done = []) ∨ (i = .int .i64 1 ∧ done = l) ∨ (i = .int .i64 2 ∧ done = l ++ m))) (fun _ i _ => (2 - intOf i).toNat)
      case atStart => exact ⟨a1, k1, [], rfl, HO1.out, HB1.out, .inl ⟨rfl, rfl⟩⟩
      case round =>
        obtain ⟨a, c, done, rfl, ho, hB, hcase⟩ := hrel
        have HO := hideG ho
        have HB := hideG hB
        have p0 := cell_below HB.out P0.out
        have p1 := cell_below HB.out P1.out
        clear ho hB
        rcases hcase with ⟨rfl, rfl⟩ | ⟨rfl, rfl⟩ | ⟨rfl, rfl⟩
        · skip
          have hqq : w.heap.size ≤ wr.heap.size := HB.out.size
          go_wp2_with (at_builtin; refine wpList_append_any rfl (.tmp 31) (.tmp 32) 24 rfl w.heap.size 3 i3 _ 1 8 Tryz.underlying24 hi3 hz30 hz31 hz32 rfl (by decide) _ ([] : List Int).length (intCells ([] : List Int)) rfl HO.out _ l.length (intCells l) rfl (ints_holds (HL.out.below HB.out)) (by simp [intCells]) (intCells_one _) ?h3 ?h4 ?h5 ?_)
          case h3 => first | (simp only [maxLen]; omega) | (simp only [maxLen]; simp; omega)
          case h4 => first | omega | (simp; omega)
          case h5 => exact HB.out.size
          intro v4 w4 ho4 hg4 hf4
          obtain ⟨a4, c4, rfl⟩ := ownsRow_shape ho4
          have HB4 := hideG (show Below w.heap.size w w4 from HB.out.grown hg4 HB.out.size (fun j e => (HO.out.lt j e).1))
          have e4 : intCells ([] : List Int) ++ intCells l = intCells (l) := by simp [intCells]
          have el : ([] : List Int).length + l.length = (l).length := by simp
          rw [e4] at ho4
          try rw [el] at ho4
          have HO4 := hideG ho4
          have HEL := hideG el
          clear ho4 hg4 hf4 e4 el p0 p1
          go_wp2_with fail
          go_roundw
          case rel => exact ⟨a4, c4, l, by first | rfl | rw [← HEL.out], HO4.out, HB4.out, .inr (.inl ⟨rfl, rfl⟩)⟩
          case measure => simp [intOf]
        · skip
          have hqq : w.heap.size ≤ wr.heap.size := HB.out.size
          go_wp2_with (at_builtin; refine wpList_append_any rfl (.tmp 31) (.tmp 32) 24 rfl w.heap.size 3 i3 _ 1 8 Tryz.underlying24 hi3 hz30 hz31 hz32 rfl (by decide) _ done.length (intCells done) rfl HO.out _ m.length (intCells m) rfl (ints_holds (HM.out.below HB.out)) (by simp [intCells]) (intCells_one _) ?h3 ?h4 ?h5 ?_)
          case h3 => first | (simp only [maxLen]; omega) | (simp only [maxLen]; simp; omega)
          case h4 => first | omega | (simp; omega)
          case h5 => exact HB.out.size
          intro v4 w4 ho4 hg4 hf4
          obtain ⟨a4, c4, rfl⟩ := ownsRow_shape ho4
          have HB4 := hideG (show Below w.heap.size w w4 from HB.out.grown hg4 HB.out.size (fun j e => (HO.out.lt j e).1))
          have e4 : intCells done ++ intCells m = intCells (done ++ m) := by simp [intCells]
          have el : done.length + m.length = (done ++ m).length := by simp
          rw [e4] at ho4
          try rw [el] at ho4
          have HO4 := hideG ho4
          have HEL := hideG el
          clear ho4 hg4 hf4 e4 el p0 p1
          go_wp2_with fail
          go_roundw
          case rel => exact ⟨a4, c4, done ++ m, by first | rfl | rw [← HEL.out], HO4.out, HB4.out, .inr (.inr ⟨rfl, rfl⟩)⟩
          case measure => simp [intOf]
        · clear p0 p1
          go_wp2_with fail
          go_ret
          exact ⟨a, c, rfl, HO.out, HB.out⟩
end Go.Proofs.YtclhimodopgeoaaGreat

namespace Go.Proofs.YtclhimodopgeoaaGreat
open Go.RowKit

/-- The view's box is as it was. -/
def SR (w W0 : World) (mv pv : Value) (U : World) : Prop := Below W0.heap.size W0 U ∧ U.cell? ⟨w.heap.size, 2, none⟩ = some mv ∧ U.cell? ⟨w.heap.size, 3, none⟩ = some pv
theorem sr_call {w W0 U w' : World} {mv pv : Value} (hb : Below U.heap.size U w') (h : SR w W0 mv pv U) : SR w W0 mv pv w' :=
  ⟨h.1.trans (hb.mono h.1.size), cell_below hb h.2.1, cell_below hb h.2.2⟩
theorem sr_alloc {w W0 U : World} {mv pv : Value} {o : Obj} (h : SR w W0 mv pv U) : SR w W0 mv pv (U.alloc o) := sr_call ((Below.refl _ _).alloc (Nat.le_refl _) o) h

set_option maxRecDepth 100000 in
set_option maxHeartbeats 8000000 in
theorem raised_any (tv ov mv pv qv : Value) (V : Vw) (w : World) (hV : ViewAt w tv ov mv pv qv V) (hl : V.modal.length ≤ 1000 ∧ V.pops.length ≤ 1000) :
    Calls Tryz.prog 71 #[.agg #[tv, ov, mv, pv, qv]] w fun x w' => ∃ a c, x = .returned (.slice a (raisedL V).length c) ∧ w'.ownsRow w.heap.size 3 1 (.slice a (raisedL V).length c) (raisedL V).length (intCells (raisedL V)) ∧ Below w.heap.size w w' := by
  obtain ⟨hT, hO, hM, hP, hQ⟩ := hV
  obtain ⟨W0, hW0⟩ : ∃ W0, w.alloc (.cells #[tv, ov, mv, pv, qv] 27) = W0 := ⟨_, rfl⟩
  have HB0 := hideG (show Below w.heap.size w W0 by rw [← hW0]; exact (Below.refl _ w).alloc (Nat.le_refl _) _)
  have P0 := hideG (show W0.cell? ⟨w.heap.size, 0, none⟩ = some tv by rw [← hW0]; simp)
  have P1 := hideG (show W0.cell? ⟨w.heap.size, 1, none⟩ = some ov by rw [← hW0]; simp)
  have P2 := hideG (show W0.cell? ⟨w.heap.size, 2, none⟩ = some mv by rw [← hW0]; simp)
  have P3 := hideG (show W0.cell? ⟨w.heap.size, 3, none⟩ = some pv by rw [← hW0]; simp)
  have P4 := hideG (show W0.cell? ⟨w.heap.size, 4, none⟩ = some qv by rw [← hW0]; simp)
  have HT0 := hideG (hT.below HB0.out)
  have HO0 := hideG (hO.below HB0.out)
  have HM0 := hideG (hM.below HB0.out)
  have HP0 := hideG (hP.below HB0.out)
  have HQ0 := hideG (hQ.below HB0.out)
  have HW0 := hideG hW0
  obtain ⟨ta, tc, rfl⟩ := hT.shape
  obtain ⟨oa, oc, rfl⟩ := hO.shape
  obtain ⟨ma, mc, rfl⟩ := hM.shape
  obtain ⟨pa, pc, rfl⟩ := hP.shape
  obtain ⟨qa, qc, rfl⟩ := hQ.shape
  clear hW0 hT hO hM hP hQ
  have hS0 : SR w W0 (.slice ma V.modal.length mc) (.slice pa V.pops.length pc) W0.drew := sr_call (below_drewS _) ⟨Below.refl _ _, P2.out, P3.out⟩
  have hwl : w.heap.size < W0.heap.size := below_of_cell P2.out
  have HND := hideG (show ∀ U, Below W0.heap.size W0 U → Calls Tryz.prog 75 #[.slice pa V.pops.length pc] U (fun x w' => ∃ a c, x = .returned (.slice a V.pops.length c) ∧ IntsAt w' (.slice a V.pops.length c) (nodesL' V.pops) ∧ Below U.heap.size U w' ∧ Below W0.heap.size W0 w') from fun U hU => by
    refine (nodes_any V.pops _ U (HP0.out.below hU) (by omega)).mono ?_
    rintro x w' ⟨a, c, rfl, ho, hb⟩
    have hln : (nodesL' V.pops).length = V.pops.length := by simp [nodesL']
    refine ⟨a, c, rfl, ?_, hb, hU.trans (hb.mono hU.size)⟩
    rw [← hln] at ho ⊢
    exact ownsRow_ints ho)
  have HCC := hideG (show ∀ U fa fc, Below W0.heap.size W0 U → IntsAt U (.slice fa V.pops.length fc) (nodesL' V.pops) → Calls Tryz.prog 74 #[.slice (some ⟨U.heap.size, 0, none⟩) 2 2] (U.alloc (.cells #[.slice ma V.modal.length mc, .slice fa V.pops.length fc] 24)) (fun x w' => ∃ a c, x = .returned (.slice a (raisedL V).length c) ∧ w'.ownsRow W0.heap.size 3 1 (.slice a (raisedL V).length c) (raisedL V).length (intCells (raisedL V)) ∧ Below (U.alloc (.cells #[.slice ma V.modal.length mc, .slice fa V.pops.length fc] 24)).heap.size (U.alloc (.cells #[.slice ma V.modal.length mc, .slice fa V.pops.length fc] 24)) w' ∧ Below W0.heap.size W0 w') from fun U fa fc hU hI => by
    have hbA : Below U.heap.size U (U.alloc (.cells #[.slice ma V.modal.length mc, .slice fa V.pops.length fc] 24)) := (Below.refl _ _).alloc (Nat.le_refl _) _
    refine (concat2_any V.modal (nodesL' V.pops) (.slice ma V.modal.length mc) (.slice fa V.pops.length fc) U.heap.size _ ((HM0.out.below hU).below hbA) (hI.below hbA) (by simp) (by simp) (by omega) (by simp [nodesL']; omega)).mono ?_
    rintro x w' ⟨a, c, rfl, ho, hb⟩
    exact ⟨a, c, rfl, ownsRow_base ho (by have := hU.size; simp; omega), hb, (hU.trans (hbA.mono hU.size)).trans (hb.mono (hU.trans (hbA.mono hU.size)).size)⟩)
  have h2l := hl.1
  have h3l := hl.2
  clear hl
  go_enter Tryz.func71, Tryz.ntmps71
  go_wp2_with fail
  rw [HW0.out]
  go_region_held3 (fun w' => Below W0.heap.size W0 w' ∧ w'.cell? ⟨w.heap.size, 2, none⟩ = some (.slice ma V.modal.length mc) ∧ w'.cell? ⟨w.heap.size, 3, none⟩ = some (.slice pa V.pops.length pc))
    (first | assumption | exact hS0 | exact sr_call hbU2 (by assumption) | exact sr_call hbU (by assumption) | exact sr_alloc (by assumption))
    (first | (go_at_call 75; refine Calls.mono (HND.out _ (by first | assumption | exact below_drew' (Below.refl _ _))) ?_; rintro ex w' ⟨fa, fc, rfl, hfi, hbU, hbV⟩) | (go_at_call 74; refine Calls.mono (HCC.out _ _ _ (by assumption) (by assumption)) ?_; rintro ex w' ⟨ra, rc, rfl, hro, hbU2, hbV2⟩))
  all_goals
    have hRO := hideG hro
    have hBV := hideG hbV2
    have hBB := hideG HB0.out
    clear hro hbV2 hbU2 hbU hbV hfi
    go_wp2_with fail
    go_ret
    exact ⟨ra, rc, rfl, ownsRow_base hRO.out hBB.out.size, hBB.out.trans (hBV.out.mono hBB.out.size)⟩
end Go.Proofs.YtclhimodopgeoaaGreat

namespace Go.Proofs.YtclhimodopgeoaaGreat
open Go.RowKit

/-- The view's box is as it was: all its cells. -/
def SO (w W0 : World) (tv ov mv pv qv : Value) (U : World) : Prop := Below W0.heap.size W0 U ∧ U.cell? ⟨w.heap.size, 0, none⟩ = some tv ∧ U.cell? ⟨w.heap.size, 1, none⟩ = some ov ∧ U.cell? ⟨w.heap.size, 2, none⟩ = some mv ∧ U.cell? ⟨w.heap.size, 3, none⟩ = some pv ∧ U.cell? ⟨w.heap.size, 4, none⟩ = some qv
theorem so_call {w W0 U w' : World} {tv ov mv pv qv : Value} (hb : Below U.heap.size U w') (h : SO w W0 tv ov mv pv qv U) : SO w W0 tv ov mv pv qv w' :=
  ⟨h.1.trans (hb.mono h.1.size), cell_below hb h.2.1, cell_below hb h.2.2.1, cell_below hb h.2.2.2.1, cell_below hb h.2.2.2.2.1, cell_below hb h.2.2.2.2.2⟩
theorem so_alloc {w W0 U : World} {tv ov mv pv qv : Value} {o : Obj} (h : SO w W0 tv ov mv pv qv U) : SO w W0 tv ov mv pv qv (U.alloc o) := so_call ((Below.refl _ _).alloc (Nat.le_refl _) o) h

set_option maxRecDepth 100000 in
set_option maxHeartbeats 8000000 in
theorem opened_any (tv ov mv pv qv : Value) (V : Vw) (w : World) (hV : ViewAt w tv ov mv pv qv V) (hl : V.op.length ≤ 1000 ∧ V.modal.length ≤ 1000 ∧ V.pops.length ≤ 1000) :
    Calls Tryz.prog 84 #[.agg #[tv, ov, mv, pv, qv]] w fun x w' => ∃ a c, x = .returned (.slice a (openedL V).length c) ∧ w'.ownsRow w.heap.size 3 1 (.slice a (openedL V).length c) (openedL V).length (intCells (openedL V)) ∧ Below w.heap.size w w' := by
  obtain ⟨hT, hO, hM, hP, hQ⟩ := hV
  obtain ⟨W0, hW0⟩ : ∃ W0, w.alloc (.cells #[tv, ov, mv, pv, qv] 27) = W0 := ⟨_, rfl⟩
  have HB0 := hideG (show Below w.heap.size w W0 by rw [← hW0]; exact (Below.refl _ w).alloc (Nat.le_refl _) _)
  have P0 := hideG (show W0.cell? ⟨w.heap.size, 0, none⟩ = some tv by rw [← hW0]; simp)
  have P1 := hideG (show W0.cell? ⟨w.heap.size, 1, none⟩ = some ov by rw [← hW0]; simp)
  have P2 := hideG (show W0.cell? ⟨w.heap.size, 2, none⟩ = some mv by rw [← hW0]; simp)
  have P3 := hideG (show W0.cell? ⟨w.heap.size, 3, none⟩ = some pv by rw [← hW0]; simp)
  have P4 := hideG (show W0.cell? ⟨w.heap.size, 4, none⟩ = some qv by rw [← hW0]; simp)
  have HT0 := hideG (hT.below HB0.out)
  have HO0 := hideG (hO.below HB0.out)
  have HM0 := hideG (hM.below HB0.out)
  have HP0 := hideG (hP.below HB0.out)
  have HQ0 := hideG (hQ.below HB0.out)
  have HW0 := hideG hW0
  obtain ⟨ta, tc, rfl⟩ := hT.shape
  obtain ⟨oa, oc, rfl⟩ := hO.shape
  obtain ⟨ma, mc, rfl⟩ := hM.shape
  obtain ⟨pa, pc, rfl⟩ := hP.shape
  obtain ⟨qa, qc, rfl⟩ := hQ.shape
  clear hW0 hT hO hM hP hQ
  have hS0 : SO w W0 (.slice ta V.tree.length tc) (.slice oa V.op.length oc) (.slice ma V.modal.length mc) (.slice pa V.pops.length pc) (.slice qa V.top.length qc) W0.drew := so_call (below_drewS _) ⟨Below.refl _ _, P0.out, P1.out, P2.out, P3.out, P4.out⟩
  have hwl : w.heap.size < W0.heap.size := below_of_cell P2.out
  have HND := hideG (show ∀ U, Below W0.heap.size W0 U → Calls Tryz.prog 71 #[.agg #[(.slice ta V.tree.length tc), (.slice oa V.op.length oc), (.slice ma V.modal.length mc), (.slice pa V.pops.length pc), (.slice qa V.top.length qc)]] U (fun x w' => ∃ a c, x = .returned (.slice a (raisedL V).length c) ∧ IntsAt w' (.slice a (raisedL V).length c) (raisedL V) ∧ Below U.heap.size U w' ∧ Below W0.heap.size W0 w') from fun U hU => by
    refine (raised_any _ _ _ _ _ V U ⟨HT0.out.below hU, HO0.out.below hU, HM0.out.below hU, HP0.out.below hU, HQ0.out.below hU⟩ hl.2).mono ?_
    rintro x w' ⟨a, c, rfl, ho, hb⟩
    exact ⟨a, c, rfl, ownsRow_ints ho, hb, hU.trans (hb.mono hU.size)⟩)
  have HCC := hideG (show ∀ U fa fc, Below W0.heap.size W0 U → IntsAt U (.slice fa (raisedL V).length fc) (raisedL V) → Calls Tryz.prog 74 #[.slice (some ⟨U.heap.size, 0, none⟩) 2 2] (U.alloc (.cells #[.slice oa V.op.length oc, .slice fa (raisedL V).length fc] 24)) (fun x w' => ∃ a c, x = .returned (.slice a (openedL V).length c) ∧ w'.ownsRow W0.heap.size 3 1 (.slice a (openedL V).length c) (openedL V).length (intCells (openedL V)) ∧ Below (U.alloc (.cells #[.slice oa V.op.length oc, .slice fa (raisedL V).length fc] 24)).heap.size (U.alloc (.cells #[.slice oa V.op.length oc, .slice fa (raisedL V).length fc] 24)) w' ∧ Below W0.heap.size W0 w') from fun U fa fc hU hI => by
    have hbA : Below U.heap.size U (U.alloc (.cells #[.slice oa V.op.length oc, .slice fa (raisedL V).length fc] 24)) := (Below.refl _ _).alloc (Nat.le_refl _) _
    refine (concat2_any V.op (raisedL V) (.slice oa V.op.length oc) (.slice fa (raisedL V).length fc) U.heap.size _ ((HO0.out.below hU).below hbA) (hI.below hbA) (by simp) (by simp) (by omega) (by simp [raisedL, nodesL']; omega)).mono ?_
    rintro x w' ⟨a, c, rfl, ho, hb⟩
    exact ⟨a, c, rfl, ownsRow_base ho (by have := hU.size; simp; omega), hb, (hU.trans (hbA.mono hU.size)).trans (hb.mono (hU.trans (hbA.mono hU.size)).size)⟩)
  clear hl
  go_enter Tryz.func84, Tryz.ntmps84
  go_wp2_with fail
  rw [HW0.out]
  go_region_held3 (fun w' => Below W0.heap.size W0 w' ∧ w'.cell? ⟨w.heap.size, 0, none⟩ = some (.slice ta V.tree.length tc) ∧ w'.cell? ⟨w.heap.size, 1, none⟩ = some (.slice oa V.op.length oc) ∧ w'.cell? ⟨w.heap.size, 2, none⟩ = some (.slice ma V.modal.length mc) ∧ w'.cell? ⟨w.heap.size, 3, none⟩ = some (.slice pa V.pops.length pc) ∧ w'.cell? ⟨w.heap.size, 4, none⟩ = some (.slice qa V.top.length qc))
    (first | assumption | exact hS0 | exact so_call hbU2 (by assumption) | exact so_call hbU (by assumption) | exact so_alloc (by assumption))
    (first | (go_at_call 71; refine Calls.mono (HND.out _ (by first | assumption | exact below_drew' (Below.refl _ _))) ?_; rintro ex w' ⟨fa, fc, rfl, hfi, hbU, hbV⟩) | (go_at_call 74; refine Calls.mono (HCC.out _ _ _ (by assumption) (by assumption)) ?_; rintro ex w' ⟨ra, rc, rfl, hro, hbU2, hbV2⟩))
  all_goals
    have hRO := hideG hro
    have hBV := hideG hbV2
    have hBB := hideG HB0.out
    clear hro hbV2 hbU2 hbU hbV hfi
    go_wp2_with fail
    go_ret
    exact ⟨ra, rc, rfl, ownsRow_base hRO.out hBB.out.size, hBB.out.trans (hBV.out.mono hBB.out.size)⟩
end Go.Proofs.YtclhimodopgeoaaGreat

namespace Go.Proofs.YtclhimodopgeoaaGreat
open Go.RowKit Go.Shelf

attribute [local go_sem] Oper.semAt_some

theorem backI0_in (a : Option Addr) (len cap : Nat) (m : Nat) (w : World) :
    CallsIn Fence.wide m Tryz.prog 79 #[.slice a len cap] w fun e w' => e = .returned (.func (.func 123) #[] #[.pointer (some ⟨w.heap.size, 0, none⟩)]) ∧ w' = w.alloc (.cells #[.slice a len cap] 24) := by
  refine callsIn_of_wp Tryz.func79 rfl trivial ?_ rfl
  simp only [Tryz.ntmps79, List.size_toArray, List.length_cons, List.length_nil, Nat.reduceAdd, Nat.reduceSub, Array.replicate_succ, Array.replicate_zero, List.push_toArray, List.append_toArray, List.nil_append, List.cons_append]
  gi_wp2
  go_ret
  exact ⟨rfl, rfl⟩

/-- What the iterator hands on at a place. -/
def backEI (p : List Int) (j : Nat) : Array Value := #[.int .i64 (j : Int), .int .i64 (p.getD j 0)]

set_option maxRecDepth 100000 in
set_option maxHeartbeats 2000000 in
theorem backI1_in (p : List Int) (hp : p.length ≤ 1000) (a : Option Addr) (c : Nat) (l Bs : Nat) (w2 : World) (R : World → World → Prop) (hRt : ∀ {A B C : World}, R A B → R B C → R A C) (hF : ∀ W, R w2 W → W.cell? ⟨Bs, 0, none⟩ = some (.slice a p.length c) ∧ IntsAt W (.slice a p.length c) p)
    (J Jx : List Nat → World → Prop)
    (hY : ∀ pre x W, J pre W → pre.length < p.length + 1 → YieldAt Fence.wide 4 Tryz.prog l (backEI p x) W fun e W' =>
      (e = .returned (.bool true) ∧ J (pre ++ [x]) W' ∧ R W W') ∨ (e = .returned (.bool false) ∧ Jx (pre ++ [x]) W'))
    (W : World) (hW : R w2 W) (h0 : J [] W) :
    CallsIn Fence.wide 5 Tryz.prog 123 #[.func (.yield l) #[] #[], .pointer (some ⟨Bs, 0, none⟩)] W fun e W' => (∃ v, e = .returned v) ∧
      ((∃ ys, ys = (List.range p.length).reverse ∧ J ys W') ∨ (∃ pre, pre <+: (List.range p.length).reverse ∧ Jx pre W')) := by
  have cB := (hF W hW).1
  have HF := hideG hF
  have HY := hideG hY
  have hw0 : IntKind.i64.wrap ((p.length : Int) - 1) = (p.length : Int) - 1 := by rw [IntKind.wrap_i64]; omega
  clear hF hY
  refine callsIn_of_wp Tryz.func123 rfl trivial ?_ rfl
  simp only [Tryz.ntmps123, List.size_toArray, List.length_cons, List.length_nil, Nat.reduceAdd, Nat.reduceSub, Array.replicate_succ, Array.replicate_zero, List.push_toArray, List.append_toArray, List.nil_append, List.cons_append]
  gi_wp2_with fail
  clear cB
  gi_loopw [3] (fun t wr => ∃ (pre : List Nat) (k : Nat), J pre wr ∧ R w2 wr ∧ k ≤ p.length ∧ t = .int .i64 ((k : Int) - 1) ∧ (List.range p.length).reverse = pre ++ (List.range k).reverse) (fun t _ => (intOf t + 1).toNat)
  case atStart => exact ⟨[], p.length, h0, hW, Nat.le_refl _, by first | rfl | simp, rfl⟩
  case round =>
    obtain ⟨pre, k, hJs, hB, hk, rfl, hpre⟩ := hrel
    have HP := hideG hpre
    clear hpre hw0
    cases k with
    | zero =>
      have e0 : ((0 : Nat) : Int) - 1 = -1 := rfl
      rw [e0]
      gi_wp2_with fail
      go_end0
      exact ⟨⟨_, rfl⟩, .inl ⟨pre, by rw [HP.out]; simp, hJs⟩⟩
    | succ k =>
      have e0 : ((k + 1 : Nat) : Int) - 1 = (k : Int) := by omega
      rw [e0]
      have hk0 : (0 : Int) ≤ (k : Int) := by omega
      have hk1 : (k : Int) < (p.length : Int) := by omega
      have hw1 : IntKind.i64.wrap ((k : Int) - 1) = (k : Int) - 1 := by rw [IntKind.wrap_i64]; omega
      have hlenp : pre.length < p.length + 1 := by
        have h1 := congrArg List.length HP.out
        simp only [List.length_reverse, List.length_range, List.length_append] at h1
        omega
      obtain ⟨cB, ⟨a', c', hav, hd⟩⟩ := HF.out _ hB
      simp only [Value.slice.injEq, true_and] at hav
      obtain ⟨rfl, rfl⟩ := hav
      obtain ⟨b, off, rfl, hd'⟩ := hd (by omega)
      have hH := hd' k (by omega)
      have g0 := hH
      have hYk := HY.out pre k _ hJs hlenp
      unfold backEI at hYk
      obtain ⟨fn, tmps, assign, body, hy, hR⟩ := hYk
      generalize p.getD k 0 = x at *
      clear hd hd' hH
      gi_wp2_with fail
      refine hR.mono ?_
      rintro e W3 (⟨rfl, hJ3, hk3⟩ | ⟨rfl, hJx3⟩)
      · have hB3 := hRt hB hk3
        clear cB g0
        gi_wp2_with fail
        go_roundw
        case rel => exact ⟨pre ++ [k], k, hJ3, hB3, by omega, rfl, by rw [HP.out, range_rev]; simp⟩
        case measure => simp [intOf]
      · gi_wp2_with fail
        refine bodyPost_ret (results_none rfl _ _ _) rfl ?_
        refine ⟨⟨_, rfl⟩, .inr ⟨pre ++ [k], ?_, hJx3⟩⟩
        rw [HP.out, range_rev]
        exact ⟨_, by simp; rfl⟩
theorem back_ints (p : List Int) (hp : p.length ≤ 1000) (a : Option Addr) (c : Nat) (Bs : Nat) (w2 : World) (R : World → World → Prop) (hRt : ∀ {A B C : World}, R A B → R B C → R A C) (hR0 : ∀ W, Below w2.heap.size w2 W → R w2 W) (hF : ∀ W, R w2 W → W.cell? ⟨Bs, 0, none⟩ = some (.slice a p.length c) ∧ IntsAt W (.slice a p.length c) p) :
    SeqStopsK Fence.wide 5 Tryz.prog 123 #[.pointer (some ⟨Bs, 0, none⟩)] (backEI p) R (fun ys => ys = (List.range p.length).reverse) (fun pre => pre <+: (List.range p.length).reverse) (p.length + 1) w2 :=
  fun l J Jx W hW _ _ hY h0 => backI1_in p hp a c l Bs w2 R hRt hF J Jx hY W (hR0 W hW) h0
end Go.Proofs.YtclhimodopgeoaaGreat

namespace Go.Proofs.YtclhimodopgeoaaGreat
open Go.RowKit Go.Shelf

attribute [local go_sem] Oper.semAt_some

theorem range_pre {k n : Nat} (h : k ≤ n) : List.range k <+: List.range n := by
  have h1 := List.take_prefix k (List.range n)
  rwa [List.take_range, Nat.min_eq_left h] at h1
theorem valI0_in (a : Option Addr) (len cap : Nat) (m : Nat) (w : World) :
    CallsIn Fence.wide m Tryz.prog 152 #[.slice a len cap] w fun e w' => e = .returned (.func (.func 174) #[] #[.pointer (some ⟨w.heap.size, 0, none⟩)]) ∧ w' = w.alloc (.cells #[.slice a len cap] 24) := by
  refine callsIn_of_wp Tryz.func152 rfl trivial ?_ rfl
  simp only [Tryz.ntmps152, List.size_toArray, List.length_cons, List.length_nil, Nat.reduceAdd, Nat.reduceSub, Array.replicate_succ, Array.replicate_zero, List.push_toArray, List.append_toArray, List.nil_append, List.cons_append]
  gi_wp2
  go_ret
  exact ⟨rfl, rfl⟩

/-- What the iterator of values hands on at a place. -/
def valEI (p : List Int) (j : Nat) : Array Value := #[.int .i64 (p.getD j 0)]

set_option maxRecDepth 100000 in
set_option maxHeartbeats 2000000 in
theorem valI1_in (p : List Int) (hp : p.length ≤ 1000) (a : Option Addr) (c : Nat) (l Bs : Nat) (w2 : World) (R : World → World → Prop) (hRt : ∀ {A B C : World}, R A B → R B C → R A C) (hF : ∀ W, R w2 W → W.cell? ⟨Bs, 0, none⟩ = some (.slice a p.length c) ∧ IntsAt W (.slice a p.length c) p)
    (J Jx : List Nat → World → Prop)
    (hY : ∀ pre x W, J pre W → pre.length < p.length + 1 → YieldAt Fence.wide 4 Tryz.prog l (valEI p x) W fun e W' =>
      (e = .returned (.bool true) ∧ J (pre ++ [x]) W' ∧ R W W') ∨ (e = .returned (.bool false) ∧ Jx (pre ++ [x]) W'))
    (W : World) (hW : R w2 W) (h0 : J [] W) :
    CallsIn Fence.wide 5 Tryz.prog 174 #[.func (.yield l) #[] #[], .pointer (some ⟨Bs, 0, none⟩)] W fun e W' => (∃ v, e = .returned v) ∧
      ((∃ ys, ys = List.range p.length ∧ J ys W') ∨ (∃ pre, pre <+: List.range p.length ∧ Jx pre W')) := by
  have cB := (hF W hW).1
  have HF := hideG hF
  have HY := hideG hY
  clear hF hY
  refine callsIn_of_wp Tryz.func174 rfl trivial ?_ rfl
  simp only [Tryz.ntmps174, List.size_toArray, List.length_cons, List.length_nil, Nat.reduceAdd, Nat.reduceSub, Array.replicate_succ, Array.replicate_zero, List.push_toArray, List.append_toArray, List.nil_append, List.cons_append]
  gi_wp2_with fail
  clear cB
  gi_loopw [7] (fun t wr => ∃ k : Nat, J (List.range k) wr ∧ R w2 wr ∧ k ≤ p.length ∧ t = .int .i64 (k : Int)) (fun t _ => p.length - (intOf t).toNat)
  case atStart => exact ⟨0, h0, hW, Nat.zero_le _, rfl⟩
  case round =>
    obtain ⟨k, hJs, hB, hk, rfl⟩ := hrel
    by_cases hkl : k < p.length
    · have hk0 : (0 : Int) ≤ (k : Int) := by omega
      have hk1 : (k : Int) < (p.length : Int) := by omega
      have hw1 : IntKind.i64.wrap ((k : Int) + 1) = (k : Int) + 1 := by rw [IntKind.wrap_i64]; omega
      have hlenp : (List.range k).length < p.length + 1 := by simp; omega
      obtain ⟨cB, ⟨a', c', hav, hd⟩⟩ := HF.out _ hB
      simp only [Value.slice.injEq, true_and] at hav
      obtain ⟨rfl, rfl⟩ := hav
      obtain ⟨b, off, rfl, hd'⟩ := hd (by omega)
      have g0 := hd' k hkl
      have hYk := HY.out (List.range k) k _ hJs hlenp
      unfold valEI at hYk
      obtain ⟨fn, tmps, assign, body, hy, hR⟩ := hYk
      generalize p.getD k 0 = x at *
      clear hd hd' cB
      gi_wp2_with fail
      refine hR.mono ?_
      rintro e W3 (⟨rfl, hJ3, hk3⟩ | ⟨rfl, hJx3⟩)
      · have hB3 := hRt hB hk3
        clear g0
        gi_wp2_with fail
        go_roundw
        case rel => exact ⟨k + 1, by rw [List.range_succ]; exact hJ3, hB3, hkl, by simp⟩
        case measure => simp [intOf]; omega
      · gi_wp2_with fail
        refine bodyPost_ret (results_none rfl _ _ _) rfl ?_
        refine ⟨⟨_, rfl⟩, .inr ⟨List.range k ++ [k], ?_, hJx3⟩⟩
        rw [← List.range_succ]
        exact range_pre hkl
    · have he : k = p.length := by omega
      subst he
      gi_wp2_with fail
      go_end0
      exact ⟨⟨_, rfl⟩, .inl ⟨_, rfl, hJs⟩⟩
theorem val_ints (p : List Int) (hp : p.length ≤ 1000) (a : Option Addr) (c : Nat) (Bs : Nat) (w2 : World) (R : World → World → Prop) (hRt : ∀ {A B C : World}, R A B → R B C → R A C) (hR0 : ∀ W, Below w2.heap.size w2 W → R w2 W) (hF : ∀ W, R w2 W → W.cell? ⟨Bs, 0, none⟩ = some (.slice a p.length c) ∧ IntsAt W (.slice a p.length c) p) :
    SeqStopsK Fence.wide 5 Tryz.prog 174 #[.pointer (some ⟨Bs, 0, none⟩)] (valEI p) R (fun ys => ys = List.range p.length) (fun pre => pre <+: List.range p.length) (p.length + 1) w2 :=
  fun l J Jx W hW _ _ hY h0 => valI1_in p hp a c l Bs w2 R hRt hF J Jx hY W (hR0 W hW) h0
end Go.Proofs.YtclhimodopgeoaaGreat

namespace Go.Proofs.YtclhimodopgeoaaGreat
open Go.RowKit Go.Shelf

attribute [local go_sem] Oper.semAt_some

theorem IntsAt.same {w w' : World} {v : Value} {l : List Int} (h : IntsAt w v l) (hc : ∀ b o u, w.cell? ⟨b, o, none⟩ = some u → w'.cell? ⟨b, o, none⟩ = some u) : IntsAt w' v l := by
  obtain ⟨a, cap, rfl, hd⟩ := h
  refine ⟨a, cap, rfl, fun h0 => ?_⟩
  obtain ⟨b, off, rfl, hd'⟩ := hd h0
  exact ⟨b, off, rfl, fun j hj => hc _ _ _ (hd' j hj)⟩
theorem range_get (p : List Int) : (List.range p.length).map (fun j => p.getD j 0) = p := by
  apply List.ext_getElem
  · simp
  · intro i h1 h2
    simp [List.getD_eq_getElem?_getD, List.getElem?_eq_getElem h2]
set_option maxRecDepth 100000 in
set_option maxHeartbeats 2000000 in
theorem appendVal_in (p : List Int) (hp : p.length ≤ 1000) (a0 : Option Addr) (c0 Bs : Nat) (w : World) (hI : IntsAt w (.slice a0 p.length c0) p) (hBs : w.cell? ⟨Bs, 0, none⟩ = some (.slice a0 p.length c0)) :
    CallsIn Fence.wide 6 Tryz.prog 154 #[.slice none 0 0, .func (.func 174) #[] #[.pointer (some ⟨Bs, 0, none⟩)]] w fun e W' => ∃ a c, e = .returned (.slice a p.length c) ∧ W'.ownsRow w.heap.size 3 1 (.slice a p.length c) p.length (intCells p) ∧ Below w.heap.size w W' := by
  obtain ⟨i3, hi3, hz30, hz31, hz32⟩ := info_parts infoT3
  have HI := hideG hI
  have HBS := hideG hBs
  have hbs : Bs < w.heap.size := below_of_cell hBs
  clear hI hBs
  refine callsIn_of_wp_marks Tryz.func154 rfl trivial ?_ rfl
  simp only [Tryz.ntmps154, List.size_toArray, List.length_cons, List.length_nil, Nat.reduceAdd, Nat.reduceSub, Array.replicate_succ, Array.replicate_zero, List.push_toArray, List.append_toArray, List.nil_append, List.cons_append]
  gi_wp2
  have d0 := cell_new_l w (.slice none 0 0) 24
  have hB0 : Below w.heap.size w (w.alloc (.cells #[.slice none 0 0] 24)) := (Below.refl _ w).alloc (Nat.le_refl _) _
  have hsz : (w.alloc (.cells #[.slice none 0 0] 24)).heap.size = w.heap.size + 1 := by simp
  have hF : ∀ W, But (w.alloc (.cells #[.slice none 0 0] 24)).heap.size w.heap.size (w.alloc (.cells #[.slice none 0 0] 24)) W → W.cell? ⟨Bs, 0, none⟩ = some (.slice a0 p.length c0) ∧ IntsAt W (.slice a0 p.length c0) p := fun W hW => ⟨(hW.cell (by omega) (by omega)).trans (cell_below hB0 HBS.out), HI.out.same (fun b o u hc => (hW.cell (by have := below_of_cell hc; simp at this; omega) (by have := below_of_cell hc; simp at this; omega)).trans (cell_below hB0 hc))⟩
  refine wpIn_rangeFunc_ownF rfl (by omega) (gf := 174) (lb := #[.pointer (some ⟨Bs, 0, none⟩)]) rfl trivial (enters_of Tryz.func174 (by kernel_rfl) rfl)
    (val_ints p hp a0 c0 Bs (w.alloc (.cells #[.slice none 0 0] 24)) (But (w.alloc (.cells #[.slice none 0 0] 24)).heap.size w.heap.size) But.trans (fun W hW => But.of_below hW (Nat.le_refl _)) hF) But.trans (but_b (Nat.le_refl _)) (Below.refl _ _) (fun _ => rfl)
    (fun pre W => (∃ v, W.cell? ⟨w.heap.size, 0, none⟩ = some v ∧ W.frozen? ⟨w.heap.size, 0, none⟩ = false ∧ W.ownsRow (w.heap.size + 1) 3 1 v (pre.map fun j => p.getD j 0).length (intCells (pre.map fun j => p.getD j 0))) ∧ Below w.heap.size w W)
    (fun _ _ _ => False)
    (OwnFrom.and (Own.from (fun s A B row hs hg hr => by
      obtain ⟨v, h1, h2, h3⟩ := hs
      exact ⟨v, cell_kept h1 hg hr, (frozen_kept h1 hg hr).trans h2, ownsRow_walk h3 hg hr⟩) _) (ownFrom_below (Nat.le_refl _) (by simp)))
    (fun c => fun s A B row hs _ _ => hs.elim)
    ⟨⟨.slice none 0 0, d0.1, d0.2, by exact World.ownsRow_nil _ _ _ _⟩, hB0⟩
    (fun x => { tmps := #[.slice none 0 0, .func (.func 174) #[] #[.pointer (some ⟨Bs, 0, none⟩)], .pointer (some ⟨w.heap.size, 0, none⟩), undef, .slice none 0 0, .int .i64 (p.getD x 0), .func (.func 174) #[] #[.pointer (some ⟨Bs, 0, none⟩)], .int .i64 (p.getD x 0), undef, undef, undef, undef, undef], defers := [] }) ?assign ?body ?done ?stop
  case assign =>
    intro l x W K hK
    simp only [valEI]
    generalize p.getD x 0 = y at *
    gi_wp2
    exact hK
  case body =>
    rintro l pre x W ⟨⟨v, hc, hf, hown⟩, hB⟩ hlen
    have hcl : (pre.map fun j => p.getD j 0).length ≤ 1001 := by rw [List.length_map]; omega
    have HE := hideG (show (pre ++ [x]).map (fun j => p.getD j 0) = pre.map (fun j => p.getD j 0) ++ [p.getD x 0] by simp)
    generalize pre.map (fun j => p.getD j 0) = cur at *
    generalize p.getD x 0 = y at *
    obtain ⟨va, vc, rfl⟩ := ownsRow_shape hown
    have HOW := hideG hown
    have HB := hideG hB
    have hs := hB.size
    have hlt : w.heap.size < W.heap.size := below_of_cell hc
    clear hown hB
    gi_wp2_with (gi_at_builtin; refine wpListIn_append_own _ rfl _ _ 24 rfl (w.heap.size + 1) 3 i3 _ 1 8 Tryz.underlying24 hi3 hz30 hz31 hz32 rfl (by decide) _ cur.length (intCells cur) rfl (HOW.out.alloc _) ⟨W.heap.size, 0, none⟩ 1 1 [.int .i64 y] rfl rfl ?h1 ?h2 ?h3 ?h4 ?h5 ?_)
    case h1 =>
      intro j u hj
      rw [addr_add, Nat.zero_add, World.cell?_alloc_at _ _ _ _ (by simp)]
      simpa using hj
    case h2 => intro u hu; simp at hu; subst hu; rfl
    case h3 => simp only [maxLen]; omega
    case h4 => omega
    case h5 => simp; omega
    intro v' w' hown' hg' _
    obtain ⟨a4, c4, rfl⟩ := ownsRow_shape hown'
    rw [intCells_snoc] at hown'
    have hne0 : some w.heap.size ≠ Value.ownBlock (.slice va cur.length vc) := fun e => by have := (HOW.out.lt _ e.symm).1; omega
    have hc' : w'.cell? ⟨w.heap.size, 0, none⟩ = some (.slice va cur.length vc) := (World.cell?_of_block (a := ⟨w.heap.size, 0, none⟩) (hg'.block w.heap.size (by simp; omega) hne0)).trans ((World.cell?_alloc_past _ _ _ hlt).trans hc)
    have hf' : w'.frozen? ⟨w.heap.size, 0, none⟩ = false := (World.frozen?_of_block (a := ⟨w.heap.size, 0, none⟩) (hg'.block w.heap.size (by simp; omega) hne0)).trans ((World.frozen?_alloc_past _ _ _ hlt).trans hf)
    have HO' := hideG hown'
    have HKO := hideG (show KeepsOthers W w' from (KeepsOthers.alloc W (.cells #[.int .i64 y] 3)).trans (KeepsOthers.of_grownBy hg' (fun j o e ho => by
      rcases (HOW.out.alloc (.cells #[.int .i64 y] 3)).2 with ⟨e0, _⟩ | ⟨g, cap, cur, e0, _, hcur, _⟩
      · rw [e0] at e; cases e
      · rw [e0] at e; cases e
        rw [hcur] at ho; cases ho; rfl)))
    have HB' := hideG ((HB.out.alloc hs (.cells #[.int .i64 y] 3)).grown hg' (by simp; omega) (fun j e => by have := (HOW.out.lt j e).1; omega))
    have HBut := hideG (show But (w.heap.size + 1) w.heap.size W w' from ⟨by have := hg'.size; simp at this; omega, fun j hj hx => (hg'.block j (by simp; omega) (fun e => by have := (HOW.out.lt j e.symm).1; omega)).trans ((Below.refl W.heap.size W).alloc (Nat.le_refl _) (.cells #[.int .i64 y] 3) |>.block j (by omega))⟩)
    clear hown' hg'
    gi_wp2
    refine ⟨HKO.out.trans (KeepsOthers.setCell _ _ _), ?_, ⟨.slice a4 (cur.length + 1) c4, World.cell?_setCell_same' _ _ _ (by rw [hc']; rfl), by rw [World.frozen?_setCell]; exact hf', ?_⟩, HB'.out.setCell (p := ⟨w.heap.size, 0, none⟩) (by simp) _⟩
    · rw [hsz]; exact HBut.out.setCell _
    · rw [HE.out]
      have hkept := ownsRow_kept_set (g := w.heap.size) (j := 0) (u := .slice a4 (cur.length + 1) c4) HO'.out (fun e => by have := (HO'.out.lt _ e).1; omega)
      simpa using hkept
  case done =>
    rintro D ys W hD rfl ⟨⟨v, hc, hf, hown⟩, hB⟩ hK
    rw [range_get] at hown
    obtain ⟨va, vc, rfl⟩ := ownsRow_shape hown
    have hxx := ownsRow_walk (B := W.putObj D (.deferred none)) hown (grownBy_putObj' W D (.deferred none)) (fun r e => by cases e; exact ⟨_, hK, rfl⟩)
    gi_wp2
    refine ⟨by simp, .inl ⟨_, _, rfl, run_takeDeferred hK, ?_⟩⟩
    refine ⟨.slice va p.length vc, ?_, va, vc, rfl, ownsRow_base hxx (by omega), hB.trans (belowK_b (w := w) (Nat.le_refl _) _ D _ _ (by simp at hD; omega) hK rfl rfl)⟩
    simp [results, Tryz.f154, go_sem]
  case stop =>
    rintro D c pre W hD hpre h hK
    exact h.elim

theorem collectVal_any (p : List Int) (hp : p.length ≤ 1000) (a0 : Option Addr) (c0 Bs : Nat) (w : World) (hI : IntsAt w (.slice a0 p.length c0) p) (hBs : w.cell? ⟨Bs, 0, none⟩ = some (.slice a0 p.length c0)) :
    Calls Tryz.prog 129 #[.func (.func 174) #[] #[.pointer (some ⟨Bs, 0, none⟩)]] w fun e W' => ∃ a c, e = .returned (.slice a p.length c) ∧ W'.ownsRow w.heap.size 3 1 (.slice a p.length c) p.length (intCells p) ∧ Below w.heap.size w W' := by
  have H := hideG (callsIn_wide.1 (appendVal_in p hp a0 c0 Bs w hI hBs))
  clear hI hBs
  go_enter Tryz.func129, Tryz.ntmps129
  go_wp2_with (go_at_call 154; refine H.out.mono ?_; rintro e w1 ⟨a, c, rfl, ho, hb⟩)
  go_ret
  exact ⟨a, c, rfl, ho, hb⟩

end Go.Proofs.YtclhimodopgeoaaGreat

namespace Go.Proofs.YtclhimodopgeoaaGreat
open Go.RowKit

def sortL (l : List Int) : List Int := l.mergeSort fun x y => decide (x ≤ y)
theorem sortL_len (l : List Int) : (sortL l).length = l.length := by simp [sortL]
theorem sortL_perm (l : List Int) : (sortL l).Perm l := List.mergeSort_perm l _
theorem sortL_eq {l m : List Int} : sortL l = sortL m ↔ l.Perm m := by
  constructor
  · intro h
    have h1 := sortL_perm l
    rw [h] at h1
    exact h1.symm.trans (sortL_perm m)
  · intro h
    have tr : ∀ a b c : Int, decide (a ≤ b) = true → decide (b ≤ c) = true → decide (a ≤ c) = true := fun a b c h1 h2 => by simp only [decide_eq_true_eq] at *; omega
    have to : ∀ a b : Int, (decide (a ≤ b) || decide (b ≤ a)) = true := fun a b => by simp only [Bool.or_eq_true, decide_eq_true_eq]; omega
    refine List.Perm.eq_of_pairwise (le := fun a b : Int => decide (a ≤ b) = true) (fun a b _ _ h1 h2 => ?_) (List.pairwise_mergeSort tr to l) (List.pairwise_mergeSort tr to m) (((sortL_perm l).trans h).trans (sortL_perm m).symm)
    simp only [decide_eq_true_eq] at h1 h2
    omega
/-- Have two lists the same, each as often? -/
def sameB (l m : List Int) : Bool := decide (sortL l = sortL m)
theorem sameB_iff {l m : List Int} : sameB l m = true ↔ l.Perm m := by rw [sameB, decide_eq_true_eq, sortL_eq]
theorem onceB_iff {l : List Int} : onceB l = true ↔ l.Nodup := by
  have hg : ∀ i, i < l.length → ∃ h : i < l.length, l.getD i 0 = l[i] := fun i h => ⟨h, by rw [List.getD_eq_getElem?_getD, List.getElem?_eq_getElem h]; rfl⟩
  rw [onceB, List.all_eq_true, List.Nodup, List.pairwise_iff_getElem]
  constructor
  · intro h i j hi hj hij e
    have h1 := h j (List.mem_range.mpr hj)
    obtain ⟨_, hgj⟩ := hg j hj
    rw [hgj, Bool.not_eq_true', containsB, decide_eq_false_iff_not] at h1
    exact h1 (by rw [← e, List.mem_take_iff_getElem]; exact ⟨i, by omega, rfl⟩)
  · intro h j hj
    have hj' := List.mem_range.mp hj
    obtain ⟨_, hgj⟩ := hg j hj'
    rw [hgj, Bool.not_eq_true', containsB, decide_eq_false_iff_not]
    intro hm
    obtain ⟨i, hi, e⟩ := List.mem_take_iff_getElem.mp hm
    exact h i j (by omega) hj' (by omega) e
theorem perm_of : ∀ {a b : List Int}, a.Nodup → (∀ x ∈ a, x ∈ b) → a.length = b.length → a.Perm b
  | [], b, _, _, hl => by rw [List.eq_nil_of_length_eq_zero hl.symm]
  | x :: a, b, ha, hs, hl => by
    have hx : x ∈ b := hs x (by simp)
    obtain ⟨hxa, ha'⟩ := List.nodup_cons.mp ha
    have h1 : a.Perm (b.erase x) := perm_of ha' (fun y hy => by
      have hne : y ≠ x := fun e => hxa (e ▸ hy)
      exact (List.mem_erase_of_ne hne).mpr (hs y (by simp [hy]))) (by rw [List.length_erase_of_mem hx]; simp at hl; omega)
    exact (h1.cons x).trans (List.perm_cons_erase hx).symm

/-- May a view be, as package top asks it? -/
def mayP (V : Vw) : Bool := V.op.all (dlgB V.tree) && (V.modal.all (dlgB V.tree) && ((V.pops.all fun x => popB V.tree x.node) && (V.pops.all (fitsB V.tree) && (onceB (openedL V) && sameB V.top (raisedL V)))))
theorem opened_at1 {V : Vw} {i : Nat} (h : i < V.op.length) : (openedL V).getD i 0 = V.op.getD i 0 := by
  unfold openedL
  rw [List.getD_eq_getElem?_getD, List.getD_eq_getElem?_getD, List.getElem?_append_left h]
theorem opened_at2 {V : Vw} {i : Nat} (h : i < V.modal.length) : (openedL V).getD (V.op.length + i) 0 = V.modal.getD i 0 := by
  unfold openedL raisedL
  rw [List.getD_eq_getElem?_getD, List.getD_eq_getElem?_getD, List.getElem?_append_right (by omega), List.getElem?_append_left (by omega)]
  congr 2
  omega
theorem opened_at3 {V : Vw} {i : Nat} : (openedL V).getD (V.op.length + V.modal.length + i) 0 = (nodesL' V.pops).getD i 0 := by
  unfold openedL raisedL
  rw [List.getD_eq_getElem?_getD, List.getD_eq_getElem?_getD, List.getElem?_append_right (by omega), List.getElem?_append_right (by omega)]
  congr 2
  omega
theorem opened_len (V : Vw) : (openedL V).length = V.op.length + V.modal.length + V.pops.length := by simp [openedL, raisedL, nodesL']; omega
theorem all_getD {α : Type} {l : List α} {p : α → Bool} (d : α) : l.all p = true ↔ ∀ i, i < l.length → p (l.getD i d) = true := by
  rw [List.all_eq_true]
  constructor
  · intro h i hi
    rw [List.getD_eq_getElem?_getD, List.getElem?_eq_getElem hi]
    exact h _ (List.getElem_mem hi)
  · intro h x hx
    obtain ⟨i, hi, rfl⟩ := List.getElem_of_mem hx
    have := h i hi
    rwa [List.getD_eq_getElem?_getD, List.getElem?_eq_getElem hi] at this
theorem good_iff (V : Vw) : (List.range (openedL V).length).all (goodAt V) = (V.op.all (dlgB V.tree) && (V.modal.all (dlgB V.tree) && (V.pops.all fun x => popB V.tree x.node))) := by
  have hn : ∀ i, i < V.pops.length → (nodesL' V.pops).getD i 0 = (V.pops.getD i shD).node := fun i hi => by
    unfold nodesL'
    rw [List.getD_eq_getElem?_getD, List.getD_eq_getElem?_getD, List.getElem?_map, List.getElem?_eq_getElem hi]; rfl
  rw [Bool.eq_iff_iff, Bool.and_eq_true, Bool.and_eq_true, all_getD (l := V.op) 0, all_getD (l := V.modal) 0, all_getD (l := V.pops) shD, List.all_eq_true]
  constructor
  · intro h
    refine ⟨fun i hi => ?_, fun i hi => ?_, fun i hi => ?_⟩
    · have := h i (List.mem_range.mpr (by rw [opened_len]; omega))
      rwa [goodAt, if_pos (by omega), opened_at1 hi] at this
    · have := h (V.op.length + i) (List.mem_range.mpr (by rw [opened_len]; omega))
      rwa [goodAt, if_pos (by omega), opened_at2 hi] at this
    · have := h (V.op.length + V.modal.length + i) (List.mem_range.mpr (by rw [opened_len]; omega))
      rwa [goodAt, if_neg (by omega), opened_at3, hn i hi] at this
  · rintro ⟨h1, h2, h3⟩ i hi
    have hi' := List.mem_range.mp hi
    rw [opened_len] at hi'
    unfold goodAt
    by_cases q1 : i < V.op.length
    · rw [if_pos (by omega), opened_at1 q1]; exact h1 i q1
    · by_cases q2 : i < V.op.length + V.modal.length
      · obtain ⟨j, rfl⟩ : ∃ j, i = V.op.length + j := ⟨i - V.op.length, by omega⟩
        rw [if_pos (by omega), opened_at2 (by omega)]; exact h2 j (by omega)
      · obtain ⟨j, rfl⟩ : ∃ j, i = V.op.length + V.modal.length + j := ⟨i - (V.op.length + V.modal.length), by omega⟩
        rw [if_neg (by omega), opened_at3, hn j (by omega)]; exact h3 j (by omega)
theorem mayP_eq (V : Vw) : mayP V = mayV V := by
  have hG := good_iff V
  have key : (onceB (openedL V) && sameB V.top (raisedL V)) = ((raisedL V).all (containsB V.top) && (onceB (openedL V) && (onceB V.top && (V.top.length == (raisedL V).length)))) := by
    rw [Bool.eq_iff_iff]
    simp only [Bool.and_eq_true, beq_iff_eq, onceB_iff, sameB_iff, List.all_eq_true, containsB, decide_eq_true_eq]
    constructor
    · rintro ⟨h1, h2⟩
      have hr : (raisedL V).Nodup := (List.nodup_append.mp h1).2.1
      exact ⟨fun x hx => h2.mem_iff.mpr hx, h1, h2.nodup_iff.mpr hr, h2.length_eq⟩
    · rintro ⟨h1, h2, h3, h4⟩
      have hr : (raisedL V).Nodup := (List.nodup_append.mp h2).2.1
      exact ⟨h2, (perm_of hr h1 h4.symm).symm⟩
  unfold mayP mayV
  rw [hG, key]
  simp only [Bool.and_assoc]
end Go.Proofs.YtclhimodopgeoaaGreat

