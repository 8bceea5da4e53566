/- listen.For, and the document's own May, one, place, Same, For. -/
import Derived.Test.YtpmacpbhdgigfaaGreatHear2
namespace Go.Proofs.YtpmacpbhdgigfaaGreat.L8
open Go.RowKit

def hearsP (n k : Int) (c : Bool) (h : Hr) : Bool := h.node == n && h.type == k && h.cap == c
def forL (l : List Hr) (n k : Int) (c : Bool) : List Hr := l.filter (hearsP n k c)
theorem filter_takeH {l : List Hr} {k : Nat} (h : k < l.length) (p : Hr → Bool) : (l.take (k + 1)).filter p = (l.take k).filter p ++ (if p (l.getD k hrD) then [l.getD k hrD] else []) := by
  rw [List.take_succ_eq_append_getElem h, List.filter_append, List.getD_eq_getElem?_getD, List.getElem?_eq_getElem h]
  cases e : p l[k] <;> simp [e]
theorem filter_takeH_le (l : List Hr) (k : Nat) (p : Hr → Bool) : ((l.take k).filter p).length ≤ l.length := by
  have h1 := List.length_filter_le p (l.take k)
  have h2 := List.length_take_le k l
  have h3 : (l.take k).length ≤ l.length := by rw [List.length_take]; omega
  omega

theorem row_newH2 (w : World) (o : Obj) (h : Hr) : Holds ((w.alloc o).alloc (.cells #[.int .i64 h.node, .int .i64 h.type, .bool h.cap, .bool h.once, .int .i64 h.prog] 35)) (.slice (some ⟨w.heap.size + 1, 0, none⟩) 1 1) 1 [.int .i64 h.node, .int .i64 h.type, .bool h.cap, .bool h.once, .int .i64 h.prog] := by
  have := row_newH (w.alloc o) h
  rw [World.size_alloc] at this
  exact this

set_option maxRecDepth 100000 in
set_option maxHeartbeats 4000000 in
theorem for_any (l : List Hr) (n kd : Int) (cp : Bool) (v : Value) (w : World) (hL : HearsAt w v l) (hl : l.length ≤ 1000000) :
    Calls Tryz.prog 170 #[v, .int .i64 n, .int .i64 kd, .bool cp] w fun x w' => ∃ a c, x = .returned (.slice a (forL l n kd cp).length c) ∧ w'.ownsRow w.heap.size 35 5 (.slice a (forL l n kd cp).length c) (forL l n kd cp).length (hearCells (forL l n kd cp)) ∧ Below w.heap.size w w' := by
  obtain ⟨i0, hi0, hz0, hz1, hz2⟩ := info_parts infoT24
  obtain ⟨a, cap, rfl, hc⟩ := hL
  have HC := hideG hc.2
  clear hc
  go_enter Tryz.func170, Tryz.ntmps170
  go_wp2_with fail
  go_loopw [9, 14] (fun o i wr => ∃ (k : Nat) (oa : Option Addr) (oc : Nat), k ≤ l.length ∧ i = .int .i64 k ∧ o = .slice oa ((l.take k).filter (hearsP n kd cp)).length oc ∧ wr.ownsRow w.heap.size 35 5 (.slice oa ((l.take k).filter (hearsP n kd cp)).length oc) ((l.take k).filter (hearsP n kd cp)).length (hearCells ((l.take k).filter (hearsP n kd cp))) ∧ Below w.heap.size w wr) (fun _ i _ => l.length - (intOf i).toNat)
  case atStart => exact ⟨0, none, 0, Nat.zero_le _, rfl, by simp, World.ownsRow_nil _ _ _ _, Below.refl _ _⟩
  case round =>
    obtain ⟨k, oa, oc, hk, rfl, rfl, hown, hB⟩ := hrel
    have HOW := hideG hown
    have HB := hideG hB
    clear hown hB
    by_cases hlt : k < l.length
    · obtain ⟨b, off, rfl, hd⟩ := HC.out (by omega)
      have hH := (hd k hlt).below HB.out
      have HT := hideG (filter_takeH hlt (hearsP n kd cp))
      have hfl := filter_takeH_le l k (hearsP n kd cp)
      generalize l.getD k hrD = x at *
      have c0 := hH.node
      have c1 := hH.type
      have c2 := hH.cap
      have c3 := hH.once
      have c4 := hH.prog
      have hbl : b < wr.heap.size := below_of_cell c0
      have hk0 : (0 : Int) ≤ (k : Int) := by omega
      clear hd hH
      cases h1 : (x.node == n)
      · have HBx := hideG (HB.out.alloc HB.out.size (.cells #[.int .i64 x.node, .int .i64 x.type, .bool x.cap, .bool x.once, .int .i64 x.prog] 35))
        have HE := hideG (show (l.take (k + 1)).filter (hearsP n kd cp) = (l.take k).filter (hearsP n kd cp) by rw [HT.out, show hearsP n kd cp x = false by simp [hearsP, h1]]; simp)
        go_wp2_with fail
        go_roundw
        case rel => exact ⟨k + 1, oa, oc, by omega, by go_num, by rw [HE.out], by rw [HE.out]; exact ownsRow_below HOW.out ((Below.refl _ wr).alloc (Nat.le_refl _) _) (fun j e => (HOW.out.lt j e).2), HBx.out⟩
        case measure => simp [intOf]; omega
      · cases h2 : (x.type == kd)
        · have HBx := hideG (HB.out.alloc HB.out.size (.cells #[.int .i64 x.node, .int .i64 x.type, .bool x.cap, .bool x.once, .int .i64 x.prog] 35))
          have HE := hideG (show (l.take (k + 1)).filter (hearsP n kd cp) = (l.take k).filter (hearsP n kd cp) by rw [HT.out, show hearsP n kd cp x = false by simp [hearsP, h2]]; simp)
          go_wp2_with fail
          go_roundw
          case rel => exact ⟨k + 1, oa, oc, by omega, by go_num, by rw [HE.out], by rw [HE.out]; exact ownsRow_below HOW.out ((Below.refl _ wr).alloc (Nat.le_refl _) _) (fun j e => (HOW.out.lt j e).2), HBx.out⟩
          case measure => simp [intOf]; omega
        · cases h3 : (x.cap == cp)
          · have HBx := hideG (HB.out.alloc HB.out.size (.cells #[.int .i64 x.node, .int .i64 x.type, .bool x.cap, .bool x.once, .int .i64 x.prog] 35))
            have HE := hideG (show (l.take (k + 1)).filter (hearsP n kd cp) = (l.take k).filter (hearsP n kd cp) by rw [HT.out, show hearsP n kd cp x = false by simp [hearsP, h3]]; simp)
            go_wp2_with fail
            go_roundw
            case rel => exact ⟨k + 1, oa, oc, by omega, by go_num, by rw [HE.out], by rw [HE.out]; exact ownsRow_below HOW.out ((Below.refl _ wr).alloc (Nat.le_refl _) _) (fun j e => (HOW.out.lt j e).2), HBx.out⟩
            case measure => simp [intOf]; omega
          · have HBx := hideG (HB.out.alloc HB.out.size (.cells #[.int .i64 x.node, .int .i64 x.type, .bool x.cap, .bool x.once, .int .i64 x.prog] 35))
            have HE := hideG (show (l.take (k + 1)).filter (hearsP n kd cp) = (l.take k).filter (hearsP n kd cp) ++ [x] by rw [HT.out, show hearsP n kd cp x = true by simp [hearsP, h1, h2, h3]]; simp)
            generalize (l.take k).filter (hearsP n kd cp) = cur at *
            go_wp2_with (at_builtin; refine wpList_append_any rfl (.tmp 34) (.tmp 36) 26 rfl w.heap.size 35 i0 _ 5 32 Tryz.underlying26 hi0 hz0 hz1 hz2 rfl (by decide) _ cur.length (hearCells cur) rfl ((HOW.out.alloc _).alloc _) _ 1 [.int .i64 x.node, .int .i64 x.type, .bool x.cap, .bool x.once, .int .i64 x.prog] rfl (row_newH2 _ _ x) rfl ?h2 ?h3 ?h4 ?h5 ?_)
            case h2 => intro y hy; simp at hy; rcases hy with rfl | rfl | rfl | rfl | rfl <;> rfl
            case h3 => simp only [maxLen]; omega
            case h4 => omega
            case h5 => have := HB.out.size; simp; omega
            intro v4 w4 ho4 hg4 hf4
            obtain ⟨a4, c4, rfl⟩ := ownsRow_shape ho4
            have ec : hearCells cur ++ [.int .i64 x.node, .int .i64 x.type, .bool x.cap, .bool x.once, .int .i64 x.prog] = hearCells (cur ++ [x]) := by rw [hearCells_append]; rfl
            rw [ec] at ho4
            have HB4 := hideG ((HBx.out.alloc HBx.out.size (.cells #[.int .i64 x.node, .int .i64 x.type, .bool x.cap, .bool x.once, .int .i64 x.prog] 35)).grown hg4 (by have := HBx.out.size; simp at this ⊢; omega) (fun j e => (HOW.out.lt j e).1))
            have hl4 : ((l.take (k + 1)).filter (hearsP n kd cp)).length = cur.length + 1 := by rw [HE.out]; simp
            have HL4 := hideG hl4
            have HO4 := hideG ho4
            clear ho4 hg4 hf4 hl4 ec
            go_wp2_with fail
            go_roundw
            case rel => exact ⟨k + 1, a4, c4, by omega, by go_num, by rw [HL4.out], by rw [HL4.out, HE.out]; exact HO4.out, HB4.out⟩
            case measure => simp [intOf]; omega
    · have hke : l.take k = l := List.take_of_length_le (by omega)
      rw [hke] at HOW ⊢
      go_wp2_with fail
      go_ret
      exact ⟨oa, oc, rfl, HOW.out, HB.out⟩


theorem mayH_le (h : Hr) : mayH h = (decide (0 ≤ h.node) && decide (h.node ≤ 63) && decide (0 ≤ h.type) && decide (h.type ≤ 8) && decide (0 ≤ h.prog) && decide (h.prog ≤ 63)) := by
  have e1 : decide (h.node < 64) = decide (h.node ≤ 63) := by congr 1; exact propext ⟨fun _ => by omega, fun _ => by omega⟩
  have e2 : decide (h.type < 9) = decide (h.type ≤ 8) := by congr 1; exact propext ⟨fun _ => by omega, fun _ => by omega⟩
  have e3 : decide (h.prog < 64) = decide (h.prog ≤ 63) := by congr 1; exact propext ⟨fun _ => by omega, fun _ => by omega⟩
  unfold mayH belowB
  rw [e1, e2, e3]
  simp [Bool.and_assoc]

set_option maxRecDepth 100000 in
set_option maxHeartbeats 2000000 in
theorem refMay_any (h : Hr) (w : World) :
    Calls Tryz.prog 135 #[.agg #[.int .i64 h.node, .int .i64 h.type, .bool h.cap, .bool h.once, .int .i64 h.prog]] w fun x w' => x = .returned (.bool (mayH h)) ∧ Below w.heap.size w w' := by
  cases h1 : decide (0 ≤ h.node)
  · have HQ := hideG (show mayH h = false by simp [mayH, belowB, h1])
    go_enter Tryz.func135, Tryz.ntmps135
    go_wp2_with fail
    go_ret
    exact ⟨ret_bool HQ.out.symm, (Below.refl _ w).alloc (Nat.le_refl _) _⟩
  · cases h2 : decide (h.node ≤ 63)
    · have HQ := hideG (show mayH h = false by rw [mayH_le]; simp [h2])
      go_enter Tryz.func135, Tryz.ntmps135
      go_wp2_with fail
      go_ret
      exact ⟨ret_bool HQ.out.symm, (Below.refl _ w).alloc (Nat.le_refl _) _⟩
    · cases h3 : decide (0 ≤ h.type)
      · have HQ := hideG (show mayH h = false by simp [mayH, belowB, h3])
        go_enter Tryz.func135, Tryz.ntmps135
        go_wp2_with fail
        go_ret
        exact ⟨ret_bool HQ.out.symm, (Below.refl _ w).alloc (Nat.le_refl _) _⟩
      · cases h4 : decide (h.type ≤ 8)
        · have HQ := hideG (show mayH h = false by rw [mayH_le]; simp [h4])
          go_enter Tryz.func135, Tryz.ntmps135
          go_wp2_with fail
          go_ret
          exact ⟨ret_bool HQ.out.symm, (Below.refl _ w).alloc (Nat.le_refl _) _⟩
        · cases h5 : decide (0 ≤ h.prog)
          · have HQ := hideG (show mayH h = false by simp [mayH, belowB, h5])
            go_enter Tryz.func135, Tryz.ntmps135
            go_wp2_with fail
            go_ret
            exact ⟨ret_bool HQ.out.symm, (Below.refl _ w).alloc (Nat.le_refl _) _⟩
          · have HQ := hideG (show mayH h = decide (h.prog ≤ 63) by rw [mayH_le]; simp [h1, h2, h3, h4, h5])
            go_enter Tryz.func135, Tryz.ntmps135
            go_wp2_with fail
            go_ret
            exact ⟨ret_bool HQ.out.symm, (Below.refl _ w).alloc (Nat.le_refl _) _⟩

set_option maxRecDepth 100000 in
set_option maxHeartbeats 2000000 in
theorem refOne_any (a b : Hr) (w : World) :
    Calls Tryz.prog 174 #[.agg #[.int .i64 a.node, .int .i64 a.type, .bool a.cap, .bool a.once, .int .i64 a.prog], .agg #[.int .i64 b.node, .int .i64 b.type, .bool b.cap, .bool b.once, .int .i64 b.prog]] w fun x w' => x = .returned (.bool (oneH a b)) ∧ Below w.heap.size w w' := by
  cases h1 : (a.node == b.node)
  · have HQ := hideG (show oneH a b = false by simp [oneH, h1])
    go_enter Tryz.func174, Tryz.ntmps174
    go_wp2_with fail
    go_ret
    exact ⟨ret_bool HQ.out.symm, ((Below.refl _ w).alloc (Nat.le_refl _) _).alloc (by simp) _⟩
  · cases h2 : (a.type == b.type)
    · have HQ := hideG (show oneH a b = false by simp [oneH, h2])
      go_enter Tryz.func174, Tryz.ntmps174
      go_wp2_with fail
      go_ret
      exact ⟨ret_bool HQ.out.symm, ((Below.refl _ w).alloc (Nat.le_refl _) _).alloc (by simp) _⟩
    · cases h3 : (a.cap == b.cap)
      · have HQ := hideG (show oneH a b = false by simp [oneH, h3])
        go_enter Tryz.func174, Tryz.ntmps174
        go_wp2_with fail
        go_ret
        exact ⟨ret_bool HQ.out.symm, ((Below.refl _ w).alloc (Nat.le_refl _) _).alloc (by simp) _⟩
      · have HQ := hideG (show oneH a b = (a.prog == b.prog) by simp [oneH, h1, h2, h3])
        go_enter Tryz.func174, Tryz.ntmps174
        go_wp2_with fail
        go_ret
        exact ⟨ret_bool HQ.out.symm, ((Below.refl _ w).alloc (Nat.le_refl _) _).alloc (by simp) _⟩

set_option maxRecDepth 100000 in
set_option maxHeartbeats 2000000 in
theorem refPlace_any (l : List Hr) (h : Hr) (v : Value) (w : World) (hL : HearsAt w v l) (hl : l.length ≤ 1000000) :
    Calls Tryz.prog 136 #[v, .agg #[.int .i64 h.node, .int .i64 h.type, .bool h.cap, .bool h.once, .int .i64 h.prog]] w fun x w' => x = .returned (.int .i64 (findI l h)) ∧ Below w.heap.size w w' := by
  obtain ⟨a, cap, rfl, hc⟩ := hL
  have HC := hideG hc.2
  have HH : Hid (HearAt (w.alloc (.cells #[.int .i64 h.node, .int .i64 h.type, .bool h.cap, .bool h.once, .int .i64 h.prog] 35)) w.heap.size 0 h) := ⟨by simp, by simp, by simp, by simp, by simp⟩
  have HB0 := hideG ((Below.refl _ w).alloc (Nat.le_refl _) (.cells #[.int .i64 h.node, .int .i64 h.type, .bool h.cap, .bool h.once, .int .i64 h.prog] 35))
  clear hc
  go_enter Tryz.func136, Tryz.ntmps136
  go_wp2_with fail
  obtain ⟨W0, hW0⟩ : ∃ W0, w.alloc (.cells #[.int .i64 h.node, .int .i64 h.type, .bool h.cap, .bool h.once, .int .i64 h.prog] 35) = W0 := ⟨_, rfl⟩
  rw [hW0] at HH HB0 ⊢
  clear hW0
  go_loopw [5] (fun i wr => ∃ k : Nat, k ≤ l.length ∧ i = .int .i64 k ∧ (∀ j, j < k → oneH (l.getD j hrD) h = false) ∧ Below W0.heap.size W0 wr) (fun i _ => l.length - (intOf i).toNat)
  case atStart => exact ⟨0, Nat.zero_le _, rfl, fun j hj => by omega, Below.refl _ _⟩
  case round =>
    obtain ⟨k, hk, rfl, hno, hB⟩ := hrel
    have HNO := hideG hno
    have HB := hideG hB
    have HBW := hideG (HB0.out.trans (hB.mono HB0.out.size))
    clear hno hB
    by_cases hlt : k < l.length
    · obtain ⟨b, off, rfl, hd⟩ := HC.out (by omega)
      have hH := (hd k hlt).below HBW.out
      have hG := HH.out.below HB.out
      generalize hx : l.getD k hrD = x at *
      have c0 := hH.node
      have c1 := hH.type
      have c2 := hH.cap
      have c3 := hH.once
      have c4 := hH.prog
      have e0 := hG.node
      have e1 := hG.type
      have e2 := hG.cap
      have e3 := hG.once
      have e4 := hG.prog
      have hk0 : (0 : Int) ≤ (k : Int) := by omega
      have HX := hideG hx
      have hbb : b < wr.heap.size := below_of_cell c0
      have hbw : w.heap.size < wr.heap.size := below_of_cell e0
      clear hd hH hG hx
      cases ho : oneH x h
      · have HO := hideG ho
        clear ho
        have H1 := hideG (show ∀ U, Below wr.heap.size wr U → Calls Tryz.prog 174 #[.agg #[.int .i64 x.node, .int .i64 x.type, .bool x.cap, .bool x.once, .int .i64 x.prog], .agg #[.int .i64 h.node, .int .i64 h.type, .bool h.cap, .bool h.once, .int .i64 h.prog]] U (fun e w' => e = .returned (.bool false) ∧ Below wr.heap.size wr w') from fun U hU => by
          refine (refOne_any x h U).mono ?_
          rintro e w' ⟨rfl, hb⟩
          exact ⟨by rw [HO.out], hU.trans (hb.mono hU.size)⟩)
        have hcc : ∀ (d : Calm wr) (b o : Nat), b < wr.heap.size → d.to.cell? ⟨b, o, none⟩ = wr.cell? ⟨b, o, none⟩ := calmCell
        go_wp2_with fail
        refine wp_region_calm (by kernel_rfl) (by kernel_rfl) ?_
        repeat (go_big_quiet_step (first | (go_at_call 174; refine Calls.mono (H1.out _ (Calm.below _)) ?_; rintro e w1 ⟨rfl, hb⟩; exact ⟨rfl, ⟨w1, hb⟩, rfl⟩)))
        refine wpQuiet_nil ?_
        intro _ hw'
        obtain ⟨dq, hw''⟩ := hw'
        subst hw''
        have HB1 := hideG (HB.out.trans (dq.below.mono HB.out.size))
        generalize dq.to = wd at *
        clear dq hcc c0 c1 c2 c3 c4 e0 e1 e2 e3 e4
        go_wp2_with fail
        go_roundw
        case rel => exact ⟨k + 1, by omega, by go_num, fun j hj => by
          by_cases e : j = k
          · subst e; rw [HX.out]; exact HO.out
          · exact HNO.out j (by omega), HB1.out⟩
        case measure => simp [intOf]; omega
      · have HQ := hideG (show findI l h = (k : Int) by
          have := find_hit hlt (by rw [HX.out]; exact ho) HNO.out
          unfold findI; rw [this, if_pos hlt])
        have HO := hideG ho
        clear ho
        have H1 := hideG (show ∀ U, Below wr.heap.size wr U → Calls Tryz.prog 174 #[.agg #[.int .i64 x.node, .int .i64 x.type, .bool x.cap, .bool x.once, .int .i64 x.prog], .agg #[.int .i64 h.node, .int .i64 h.type, .bool h.cap, .bool h.once, .int .i64 h.prog]] U (fun e w' => e = .returned (.bool true) ∧ Below wr.heap.size wr w') from fun U hU => by
          refine (refOne_any x h U).mono ?_
          rintro e w' ⟨rfl, hb⟩
          exact ⟨by rw [HO.out], hU.trans (hb.mono hU.size)⟩)
        have hcc : ∀ (d : Calm wr) (b o : Nat), b < wr.heap.size → d.to.cell? ⟨b, o, none⟩ = wr.cell? ⟨b, o, none⟩ := calmCell
        go_wp2_with fail
        refine wp_region_calm (by kernel_rfl) (by kernel_rfl) ?_
        repeat (go_big_quiet_step (first | (go_at_call 174; refine Calls.mono (H1.out _ (Calm.below _)) ?_; rintro e w1 ⟨rfl, hb⟩; exact ⟨rfl, ⟨w1, hb⟩, rfl⟩)))
        refine wpQuiet_nil ?_
        intro _ hw'
        obtain ⟨dq, hw''⟩ := hw'
        subst hw''
        have HB1 := hideG (HBW.out.trans (dq.below.mono HBW.out.size))
        generalize dq.to = wd at *
        clear dq hcc c0 c1 c2 c3 c4 e0 e1 e2 e3 e4
        go_wp2_with fail
        go_ret
        exact ⟨ret_int HQ.out.symm, HB1.out⟩
    · have HQ := hideG (show findI l h = -1 by
        have := find_miss (fun j hj => HNO.out j (by omega) : ∀ j, j < l.length → oneH (l.getD j hrD) h = false)
        unfold findI; rw [this]; simp)
      go_wp2_with fail
      go_ret
      exact ⟨ret_int HQ.out.symm, HBW.out⟩

theorem eqC_hr (a b : Hr) : eqC a.node a.type a.cap a.once a.prog b.node b.type b.cap b.once b.prog = decide (a = b) := by
  obtain ⟨n, t, c, o, p⟩ := a
  obtain ⟨n', t', c', o', p'⟩ := b
  unfold eqC
  rw [Bool.eq_iff_iff]
  simp
theorem list_extH {l m : List Hr} (hl : l.length = m.length) (h : ∀ j, j < l.length → l.getD j hrD = m.getD j hrD) : l = m := by
  apply List.ext_getElem hl
  intro j h1 h2
  have := h j h1
  rwa [List.getD_eq_getElem?_getD, List.getD_eq_getElem?_getD, List.getElem?_eq_getElem h1, List.getElem?_eq_getElem h2] at this

end Go.Proofs.YtpmacpbhdgigfaaGreat.L8
