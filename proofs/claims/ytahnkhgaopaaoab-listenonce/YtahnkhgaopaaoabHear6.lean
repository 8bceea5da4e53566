/- listen.Check. -/
import Derived.Test.YtahnkhgaopaaoabHear5
namespace Go.Proofs.Ytahnkhgaopaaoab
open Go.RowKit

def badH (l : List Hr) (j : Nat) : Bool := !mayH (l.getD j hrD) || hasB (l.take j) (l.getD j hrD)
def farH (nodes : Int) (h : Hr) : Bool := decide (nodes ≤ h.node)
def checkE (l : List Hr) (nodes : Int) : Int := if 64 < l.length then 1 else if (List.range l.length).any (badH l) then 1 else if (List.range l.length).any (fun j => farH nodes (l.getD j hrD)) then 2 else 0
theorem hears_take {w : World} {b off cap k : Nat} {l : List Hr} {n : Nat} (h : HearsAt w (.slice (some ⟨b, off, none⟩) n cap) l) (hk : k ≤ l.length) : HearsAt w (.slice (some ⟨b, off, none⟩) k cap) (l.take k) := by
  obtain ⟨a, c, e, hc, hd⟩ := h
  simp only [Value.slice.injEq] at e
  obtain ⟨rfl, rfl, rfl⟩ := e
  have hlen : (l.take k).length = k := by rw [List.length_take]; omega
  refine ⟨some ⟨b, off, none⟩, cap, by rw [hlen], by omega, fun h0 => ?_⟩
  obtain ⟨b', off', e', hd'⟩ := hd (by omega)
  refine ⟨b', off', e', fun j hj => ?_⟩
  have hjk : j < k := by omega
  have : (l.take k).getD j hrD = l.getD j hrD := by
    rw [List.getD_eq_getElem?_getD, List.getD_eq_getElem?_getD, List.getElem?_take_of_lt hjk]
  rw [this]
  exact hd' j (by omega)
theorem any_range {n : Nat} {p : Nat → Bool} {k : Nat} (hk : k < n) (h : p k = true) : (List.range n).any p = true := List.any_eq_true.mpr ⟨k, List.mem_range.mpr hk, h⟩
theorem any_range_no {n : Nat} {p : Nat → Bool} (h : ∀ j, j < n → p j = false) : (List.range n).any p = false := by
  rw [List.any_eq_false]
  intro x hx
  rw [h x (List.mem_range.mp hx)]; simp

set_option maxRecDepth 100000 in
set_option maxHeartbeats 8000000 in
theorem check_any (l : List Hr) (nodes : Int) (v : Value) (w : World) (hL : HearsAt w v l) (hl : l.length ≤ 100000) :
    Calls Try.prog 13 #[v, .int .i64 nodes] w fun x w' => x = .returned (.int .i64 (checkE l nodes)) ∧ Below w.heap.size w w' := by
  by_cases h64 : (64 : Int) < (l.length : Int)
  · obtain ⟨a, cap, rfl⟩ := hL.shape
    have HQ := hideG (show checkE l nodes = 1 by unfold checkE; rw [if_pos (by omega)])
    clear hL
    go_enter Try.func13, Try.ntmps13
    go_wp2_with fail
    go_ret
    exact ⟨ret_int HQ.out.symm, Below.refl _ _⟩
  · have HLL0 := hideG hL
    obtain ⟨a, cap, rfl, hcap, hc⟩ := hL
    have HC := hideG hc
    have E0 := hideG (show checkE l nodes = if (List.range l.length).any (badH l) then 1 else if (List.range l.length).any (fun j => farH nodes (l.getD j hrD)) then 2 else 0 by unfold checkE; rw [if_neg (by omega)])
    clear hc
    go_enter Try.func13, Try.ntmps13
    go_wp2_with fail
    go_loopw [14] (fun i wr => ∃ k : Nat, k ≤ l.length ∧ i = .int .i64 k ∧ (∀ j, j < k → badH l j = false) ∧ Below w.heap.size w wr) (fun i _ => l.length - (intOf i).toNat)
    case atStart => exact ⟨0, Nat.zero_le _, rfl, fun j hj => by omega, Below.refl _ _⟩
    case round =>
      obtain ⟨k, hk, rfl, hno, hB⟩ := hrel
      have HNO := hideG hno
      have HB := hideG hB
      clear hno hB
      by_cases hlt : k < l.length
      · obtain ⟨b, off, rfl, hd⟩ := HC.out (by omega)
        have HLL := HLL0
        have hH := (hd k hlt).below HB.out
        generalize hx : l.getD k hrD = x at *
        have c0 := hH.node
        have c1 := hH.type
        have c2 := hH.cap
        have c3 := hH.once
        have c4 := hH.prog
        have hk0 : (0 : Int) ≤ (k : Int) := by omega
        have hkc : (k : Int) ≤ (cap : Int) := by omega
        have HX := hideG hx
        clear hd hH hx
        cases hm : mayH x
        · have HQ := hideG (show checkE l nodes = 1 by
            rw [E0.out, any_range hlt (show badH l k = true by unfold badH; rw [HX.out, hm]; rfl)]; rfl)
          have HM := hideG hm
          clear hm
          go_wp2_with fail
          have hBV := (Below.refl wr.heap.size wr).alloc (Nat.le_refl _) (.cells #[.int .i64 x.node, .int .i64 x.type, .bool x.cap, .bool x.once, .int .i64 x.prog] 24)
          have hV : HearAt (wr.alloc (.cells #[.int .i64 x.node, .int .i64 x.type, .bool x.cap, .bool x.once, .int .i64 x.prog] 24)) wr.heap.size 0 x := ⟨by simp, by simp, by simp, by simp, by simp⟩
          obtain ⟨V, hVe⟩ : ∃ V, wr.alloc (.cells #[.int .i64 x.node, .int .i64 x.type, .bool x.cap, .bool x.once, .int .i64 x.prog] 24) = V := ⟨_, rfl⟩
          rw [hVe] at hBV hV ⊢
          clear hVe c0 c1 c2 c3 c4
          have d0 := hV.node
          have d1 := hV.type
          have d2 := hV.cap
          have d3 := hV.once
          have d4 := hV.prog
          have hb1 : wr.heap.size < V.heap.size := below_of_cell d0
          have HBV := hideG (HB.out.trans (hBV.mono HB.out.size))
          clear hV hBV
          have HMC := hideG (show ∀ U, Below V.heap.size V U → Calls Try.prog 18 #[.agg #[.int .i64 x.node, .int .i64 x.type, .bool x.cap, .bool x.once, .int .i64 x.prog]] U (fun e w' => e = .returned (.bool false) ∧ Below V.heap.size V w') from fun U hU => by
            refine (mayBe_any x U).mono ?_
            rintro e w' ⟨rfl, hb⟩
            exact ⟨by rw [HM.out], hU.trans (hb.mono hU.size)⟩)
          have hcc : ∀ (d : Calm V) (b o : Nat), b < V.heap.size → d.to.cell? ⟨b, o, none⟩ = V.cell? ⟨b, o, none⟩ := calmCell
          refine wp_region_calm (by kernel_rfl) (by kernel_rfl) ?_
          repeat (go_big_quiet_step (first | (go_at_call 18; refine Calls.mono (HMC.out _ (Calm.below _)) ?_; rintro e w1 ⟨rfl, hb⟩; exact ⟨rfl, ⟨w1, hb⟩, rfl⟩)))
          refine wpQuiet_nil ?_
          intro _ hw'
          obtain ⟨dq, hw''⟩ := hw'
          subst hw''
          have HB1 := hideG (HBV.out.trans (dq.below.mono HBV.out.size))
          generalize dq.to = wd at *
          clear dq hcc d0 d1 d2 d3 d4
          go_wp2_with fail
          go_ret
          exact ⟨ret_int HQ.out.symm, HB1.out⟩
        · have HM := hideG hm
          clear hm
          cases hh : hasB (l.take k) x
          · have HHB := hideG hh
            clear hh
            go_wp2_with fail
            have hBV := (Below.refl wr.heap.size wr).alloc (Nat.le_refl _) (.cells #[.int .i64 x.node, .int .i64 x.type, .bool x.cap, .bool x.once, .int .i64 x.prog] 24)
            have hV : HearAt (wr.alloc (.cells #[.int .i64 x.node, .int .i64 x.type, .bool x.cap, .bool x.once, .int .i64 x.prog] 24)) wr.heap.size 0 x := ⟨by simp, by simp, by simp, by simp, by simp⟩
            obtain ⟨V, hVe⟩ : ∃ V, wr.alloc (.cells #[.int .i64 x.node, .int .i64 x.type, .bool x.cap, .bool x.once, .int .i64 x.prog] 24) = V := ⟨_, rfl⟩
            rw [hVe] at hBV hV ⊢
            clear hVe c0 c1 c2 c3 c4
            have d0 := hV.node
            have d1 := hV.type
            have d2 := hV.cap
            have d3 := hV.once
            have d4 := hV.prog
            have hb1 : wr.heap.size < V.heap.size := below_of_cell d0
            have HBV := hideG (HB.out.trans (hBV.mono HB.out.size))
            clear hV hBV
            have HMC := hideG (show ∀ U, Below V.heap.size V U → Calls Try.prog 18 #[.agg #[.int .i64 x.node, .int .i64 x.type, .bool x.cap, .bool x.once, .int .i64 x.prog]] U (fun e w' => e = .returned (.bool true) ∧ Below V.heap.size V w') from fun U hU => by
              refine (mayBe_any x U).mono ?_
              rintro e w' ⟨rfl, hb⟩
              exact ⟨by rw [HM.out], hU.trans (hb.mono hU.size)⟩)
            have HHC := hideG (show ∀ U, Below V.heap.size V U → Calls Try.prog 19 #[.slice (some ⟨b, off, none⟩) k cap, .agg #[.int .i64 x.node, .int .i64 x.type, .bool x.cap, .bool x.once, .int .i64 x.prog]] U (fun e w' => e = .returned (.bool false) ∧ Below V.heap.size V w') from fun U hU => by
              have hTk : HearsAt U (.slice (some ⟨b, off, none⟩) k cap) (l.take k) := (hears_take HLL.out (by omega)).below (HBV.out.trans (hU.mono HBV.out.size))
              refine (has_any (l.take k) x _ U hTk (by rw [List.length_take]; omega)).mono ?_
              rintro e w' ⟨rfl, hb⟩
              exact ⟨by rw [HHB.out], hU.trans (hb.mono hU.size)⟩)
            have hcc : ∀ (d : Calm V) (b o : Nat), b < V.heap.size → d.to.cell? ⟨b, o, none⟩ = V.cell? ⟨b, o, none⟩ := calmCell
            refine wp_region_calm (by kernel_rfl) (by kernel_rfl) ?_
            repeat (go_big_quiet_step (first | (go_at_call 18; refine Calls.mono (HMC.out _ (Calm.below _)) ?_; rintro e w1 ⟨rfl, hb⟩; exact ⟨rfl, ⟨w1, hb⟩, rfl⟩) | (go_at_call 19; refine Calls.mono (HHC.out _ (Calm.below _)) ?_; rintro e w1 ⟨rfl, hb⟩; exact ⟨rfl, ⟨w1, hb⟩, rfl⟩)))
            refine wpQuiet_nil ?_
            intro _ hw'
            obtain ⟨dq, hw''⟩ := hw'
            subst hw''
            have HB1 := hideG (HBV.out.trans (dq.below.mono HBV.out.size))
            generalize dq.to = wd at *
            clear dq hcc d0 d1 d2 d3 d4
            go_wp2_with fail
            go_roundw
            case rel => exact ⟨k + 1, by omega, by go_num, fun j hj => by
              by_cases e : j = k
              · subst e; unfold badH; rw [HX.out, HM.out, HHB.out]; rfl
              · exact HNO.out j (by omega), HB1.out⟩
            case measure => simp [intOf]; omega
          · have HQ := hideG (show checkE l nodes = 1 by
              rw [E0.out, any_range hlt (show badH l k = true by unfold badH; rw [HX.out, hh, Bool.or_true])]; rfl)
            have HHB := hideG hh
            clear hh
            go_wp2_with fail
            have hBV := (Below.refl wr.heap.size wr).alloc (Nat.le_refl _) (.cells #[.int .i64 x.node, .int .i64 x.type, .bool x.cap, .bool x.once, .int .i64 x.prog] 24)
            have hV : HearAt (wr.alloc (.cells #[.int .i64 x.node, .int .i64 x.type, .bool x.cap, .bool x.once, .int .i64 x.prog] 24)) wr.heap.size 0 x := ⟨by simp, by simp, by simp, by simp, by simp⟩
            obtain ⟨V, hVe⟩ : ∃ V, wr.alloc (.cells #[.int .i64 x.node, .int .i64 x.type, .bool x.cap, .bool x.once, .int .i64 x.prog] 24) = V := ⟨_, rfl⟩
            rw [hVe] at hBV hV ⊢
            clear hVe c0 c1 c2 c3 c4
            have d0 := hV.node
            have d1 := hV.type
            have d2 := hV.cap
            have d3 := hV.once
            have d4 := hV.prog
            have hb1 : wr.heap.size < V.heap.size := below_of_cell d0
            have HBV := hideG (HB.out.trans (hBV.mono HB.out.size))
            clear hV hBV
            have HMC := hideG (show ∀ U, Below V.heap.size V U → Calls Try.prog 18 #[.agg #[.int .i64 x.node, .int .i64 x.type, .bool x.cap, .bool x.once, .int .i64 x.prog]] U (fun e w' => e = .returned (.bool true) ∧ Below V.heap.size V w') from fun U hU => by
              refine (mayBe_any x U).mono ?_
              rintro e w' ⟨rfl, hb⟩
              exact ⟨by rw [HM.out], hU.trans (hb.mono hU.size)⟩)
            have HHC := hideG (show ∀ U, Below V.heap.size V U → Calls Try.prog 19 #[.slice (some ⟨b, off, none⟩) k cap, .agg #[.int .i64 x.node, .int .i64 x.type, .bool x.cap, .bool x.once, .int .i64 x.prog]] U (fun e w' => e = .returned (.bool true) ∧ Below V.heap.size V w') from fun U hU => by
              have hTk : HearsAt U (.slice (some ⟨b, off, none⟩) k cap) (l.take k) := (hears_take HLL.out (by omega)).below (HBV.out.trans (hU.mono HBV.out.size))
              refine (has_any (l.take k) x _ U hTk (by rw [List.length_take]; omega)).mono ?_
              rintro e w' ⟨rfl, hb⟩
              exact ⟨by rw [HHB.out], hU.trans (hb.mono hU.size)⟩)
            have hcc : ∀ (d : Calm V) (b o : Nat), b < V.heap.size → d.to.cell? ⟨b, o, none⟩ = V.cell? ⟨b, o, none⟩ := calmCell
            refine wp_region_calm (by kernel_rfl) (by kernel_rfl) ?_
            repeat (go_big_quiet_step (first | (go_at_call 18; refine Calls.mono (HMC.out _ (Calm.below _)) ?_; rintro e w1 ⟨rfl, hb⟩; exact ⟨rfl, ⟨w1, hb⟩, rfl⟩) | (go_at_call 19; refine Calls.mono (HHC.out _ (Calm.below _)) ?_; rintro e w1 ⟨rfl, hb⟩; exact ⟨rfl, ⟨w1, hb⟩, rfl⟩)))
            refine wpQuiet_nil ?_
            intro _ hw'
            obtain ⟨dq, hw''⟩ := hw'
            subst hw''
            have HB1 := hideG (HBV.out.trans (dq.below.mono HBV.out.size))
            generalize dq.to = wd at *
            clear dq hcc d0 d1 d2 d3 d4
            go_wp2_with fail
            go_ret
            exact ⟨ret_int HQ.out.symm, HB1.out⟩
      · have hall : ∀ j, j < l.length → badH l j = false := fun j hj => HNO.out j (by omega)
        have E1 := hideG (show checkE l nodes = if (List.range l.length).any (fun j => farH nodes (l.getD j hrD)) then 2 else 0 by rw [E0.out, any_range_no hall]; rfl)
        clear hall
        go_wp2_with fail
        go_loopw [32] (fun i wr => ∃ k : Nat, k ≤ l.length ∧ i = .int .i64 k ∧ (∀ j, j < k → farH nodes (l.getD j hrD) = false) ∧ Below w.heap.size w wr) (fun i _ => l.length - (intOf i).toNat)
        case atStart => exact ⟨0, Nat.zero_le _, rfl, fun j hj => by omega, HB.out⟩
        case round =>
          obtain ⟨q, hq, rfl, hnf, hBq⟩ := hrel
          have HNF := hideG hnf
          have HBq := hideG hBq
          clear hnf hBq
          by_cases hltq : q < l.length
          · obtain ⟨b, off, rfl, hd⟩ := HC.out (by omega)
            have hH := (hd q hltq).below HBq.out
            generalize hx : l.getD q hrD = x at *
            have c0 := hH.node
            have c1 := hH.type
            have c2 := hH.cap
            have c3 := hH.once
            have c4 := hH.prog
            have hq0 : (0 : Int) ≤ (q : Int) := by omega
            have HX := hideG hx
            have HBx := hideG (HBq.out.alloc HBq.out.size (.cells #[.int .i64 x.node, .int .i64 x.type, .bool x.cap, .bool x.once, .int .i64 x.prog] 24))
            clear hd hH hx
            cases hf : decide (nodes ≤ x.node)
            · have HF := hideG hf
              go_wp2_with fail
              go_roundw
              case rel => exact ⟨q + 1, by omega, by go_num, fun j hj => by
                by_cases e : j = q
                · subst e; unfold farH; rw [HX.out]; exact HF.out
                · exact HNF.out j (by omega), HBx.out⟩
              case measure => simp [intOf]; omega
            · have HQ := hideG (show checkE l nodes = 2 by
                rw [E1.out, any_range hltq (show farH nodes (l.getD q hrD) = true by unfold farH; rw [HX.out]; exact hf)]; rfl)
              go_wp2_with fail
              go_ret
              exact ⟨ret_int HQ.out.symm, HBx.out⟩
          · have HQ := hideG (show checkE l nodes = 0 by
              rw [E1.out, any_range_no (fun j hj => HNF.out j (by omega))]; rfl)
            go_wp2_with fail
            go_ret
            exact ⟨ret_int HQ.out.symm, HBq.out⟩
end Go.Proofs.Ytahnkhgaopaaoab
