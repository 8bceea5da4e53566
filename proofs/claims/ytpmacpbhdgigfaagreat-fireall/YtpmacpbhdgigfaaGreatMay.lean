/- mayBe and Check of package tree: each returns what its Lean twin says of a tree in memory. -/
import Derived.Test.YtpmacpbhdgigfaaGreatUp2
import Derived.Test.YtpmacpbhdgigfaaGreatBase
namespace Go.Proofs.YtpmacpbhdgigfaaGreat
open Go.RowKit

def nodeBad (T : List Nd) (n : Nat) : Bool := !kindFitsB (nd T n) n || !hostFitsB T n || !rootFitsB T n || !attrsFrom (nd T n).kind (-1) (nd T n).attrs
def mayB (T : List Nd) : Bool := decide (1 ≤ T.length) && (decide (T.length ≤ 64) && (allB T.length (fun n => !nodeBad T n) && (kidsFitB T && !hasLoopB T)))
/-- No list of a tree is long. -/
def Sane (T : List Nd) : Prop := ∀ n, n < T.length → (nd T n).kids.length ≤ 1000000 ∧ (nd T n).attrs.length ≤ 1000000

theorem kidsRun_placed {T : List Nd} {p : Nat} : ∀ {l : List Int} {P P' : Nat → Bool}, kidsRun T p l P = some P' → ∀ j, P' j = true → P j = true ∨ (nd T j).parent = (p : Int)
  | [], P, P', h, j, hj => by simp only [kidsRun, Option.some.injEq] at h; subst h; exact .inl hj
  | k :: l, P, P', h, j, hj => by
    simp only [kidsRun] at h
    split at h
    · cases h
    · rename_i hb
      rcases kidsRun_placed h j hj with hs | hs
      · simp only [setP, Bool.or_eq_true, beq_iff_eq] at hs
        rcases hs with hs | hs
        · exact .inl hs
        · subst hs
          right
          simp only [kidBad, Bool.or_eq_true, not_or, Bool.not_eq_true, bne_eq_false_iff_eq] at hb
          exact hb.1.2
      · exact .inr hs
theorem nodesFrom_placed {T : List Nd} : ∀ {m n : Nat} {P P' : Nat → Bool}, nodesFrom T m n P = some P' → ∀ j, P' j = true → P j = true ∨ ∃ p, p < n + m ∧ (nd T j).parent = (p : Int)
  | 0, n, P, P', h, j, hj => by simp only [nodesFrom, Option.some.injEq] at h; subst h; exact .inl hj
  | m + 1, n, P, P', h, j, hj => by
    simp only [nodesFrom] at h
    split at h
    · rename_i P1 h1
      rcases nodesFrom_placed h j hj with hs | ⟨p, hp, hs⟩
      · unfold nodeRun at h1
        split at h1
        · cases h1
        · rcases kidsRun_placed h1 j hs with ht | ht
          · exact .inl ht
          · exact .inr ⟨n, by omega, ht⟩
      · exact .inr ⟨p, by omega, hs⟩
    · cases h

theorem upOk_of {T : List Nd} (h1 : allB T.length (fun n => !nodeBad T n) = true) (h2 : kidsFitB T = true) : UpOk T := by
  intro n hn
  have hb := allB_true.1 h1 n hn
  simp only [nodeBad, Bool.not_eq_true', Bool.or_eq_false_iff, Bool.not_eq_false'] at hb
  obtain ⟨⟨⟨_, hh⟩, _⟩, _⟩ := hb
  unfold overI
  cases hk : ((nd T n).kind == 3)
  · simp only [Bool.false_eq_true, if_false]
    unfold kidsFitB at h2
    split at h2
    · cases h2
    · rename_i P hP
      have hl := allB_true.1 h2 n hn
      simp only [looseB, Bool.not_eq_true', Bool.and_eq_false_iff, Bool.not_eq_false', bne_eq_false_iff_eq] at hl
      rcases hl with hl | hl
      · rcases nodesFrom_placed hP n hl with h | ⟨p, hp, h⟩
        · cases h
        · right
          rw [h]
          simp only [isNodeB, Bool.and_eq_true, decide_eq_true_eq]
          omega
      · left
        simpa using hl
  · simp only [if_true]
    unfold hostFitsB at hh
    have hk' : ((nd T n).kind != 3) = false := by simp only [bne, hk, Bool.not_true]
    simp only [hk', Bool.false_eq_true, if_false, Bool.and_eq_true] at hh
    exact .inr hh.1.1

set_option maxRecDepth 100000 in
set_option maxHeartbeats 2000000 in
theorem mayBe_any (T : List Nd) (hS : Sane T) (v : Value) (w : World) (hT : TreeAt w v T) :
    Calls Tryz.prog 137 #[v] w fun e W' => e = .returned (.bool (mayB T)) ∧ Below w.heap.size w W' := by
  have HT : Hid (TreeAt w v T) := hT
  have HS : Hid (Sane T) := hS
  obtain ⟨a, cap, rfl, _⟩ := hT
  clear hS
  by_cases h1 : 1 ≤ T.length
  · by_cases h64 : T.length ≤ 64
    · go_enter Tryz.func137, Tryz.ntmps137
      go_wp2_with fail
      go_loopw [14] (fun i wr => ∃ n : Nat, n ≤ T.length ∧ i = .int .i64 n ∧ allB n (fun n => !nodeBad T n) = true ∧ Below w.heap.size w wr) (fun i _ => T.length - (intOf i).toNat)
      case atStart => exact ⟨0, Nat.zero_le _, rfl, rfl, Below.refl _ _⟩
      case round =>
        obtain ⟨n, hn, rfl, hall, hB⟩ := hrel
        have HA : Hid (allB n (fun n => !nodeBad T n) = true) := hall
        have HTr : Hid (TreeAt wr (.slice a T.length cap) T) := HT.out.below hB
        clear hall
        by_cases hlt : n < T.length
        · have hfail : nodeBad T n = true → mayB T = false := fun hb => by
            unfold mayB
            rw [allB_false hlt (by simp only [hb, Bool.not_true])]
            simp
          have HF : Hid (nodeBad T n = true → mayB T = false) := hfail
          clear hfail
          cases hk : kindFitsB (nd T n) n
          · go_wp2_with (go_at_call 175; refine (kindFits_any T _ n _ HTr.out hlt).mono ?_; rintro e w1 ⟨rfl, rfl⟩)
            go_ret
            exact ⟨ret_bool (HF.out (by simp only [nodeBad, hk, Bool.not_false, Bool.true_or])).symm, hB⟩
          · cases hh : hostFitsB T n
            · go_wp2_with (first | (go_at_call 175; refine (kindFits_any T _ n _ HTr.out hlt).mono ?_; rintro e w1 ⟨rfl, rfl⟩) | (go_at_call 176; refine (hostFits_any T _ n _ HTr.out hlt).mono ?_; rintro e w1 ⟨rfl, rfl⟩) | (go_at_call 177; refine (rootFits_any T _ n _ HTr.out hlt).mono ?_; rintro e w1 ⟨rfl, rfl⟩) | (go_at_call 178; refine (attrsFit_any (nd T n) _ _ _ hAt hal).mono ?_; rintro e w1 ⟨rfl, hb1⟩))
              go_ret
              exact ⟨ret_bool (HF.out (by simp only [nodeBad, hh, Bool.not_false, Bool.true_or, Bool.or_true])).symm, hB⟩
            · cases hr : rootFitsB T n
              · go_wp2_with (first | (go_at_call 175; refine (kindFits_any T _ n _ HTr.out hlt).mono ?_; rintro e w1 ⟨rfl, rfl⟩) | (go_at_call 176; refine (hostFits_any T _ n _ HTr.out hlt).mono ?_; rintro e w1 ⟨rfl, rfl⟩) | (go_at_call 177; refine (rootFits_any T _ n _ HTr.out hlt).mono ?_; rintro e w1 ⟨rfl, rfl⟩) | (go_at_call 178; refine (attrsFit_any (nd T n) _ _ _ hAt hal).mono ?_; rintro e w1 ⟨rfl, hb1⟩))
                go_ret
                exact ⟨ret_bool (HF.out (by simp only [nodeBad, hr, Bool.not_false, Bool.true_or, Bool.or_true])).symm, hB⟩
              · obtain ⟨b, off, cap', hv, hc⟩ := HTr.out.at (by omega)
                simp only [Value.slice.injEq, true_and] at hv
                obtain ⟨rfl, rfl⟩ := hv
                obtain ⟨kv, av, hN⟩ := hc n hlt
                have g0 := hN.kind
                have g1 := hN.tag
                have g2 := hN.parent
                have g3 := hN.kidsc
                have g4 := hN.host
                have g5 := hN.root
                have g6 := hN.attrsc
                have hAt := hN.attrs
                have hal := (HS.out n hlt).2
                clear hN hc
                cases ha : attrsFrom (nd T n).kind (-1) (nd T n).attrs
                · go_wp2_with (first | (go_at_call 175; refine (kindFits_any T _ n _ HTr.out hlt).mono ?_; rintro e w1 ⟨rfl, rfl⟩) | (go_at_call 176; refine (hostFits_any T _ n _ HTr.out hlt).mono ?_; rintro e w1 ⟨rfl, rfl⟩) | (go_at_call 177; refine (rootFits_any T _ n _ HTr.out hlt).mono ?_; rintro e w1 ⟨rfl, rfl⟩) | (go_at_call 178; refine (attrsFit_any (nd T n) _ _ _ hAt hal).mono ?_; rintro e w1 ⟨rfl, hb1⟩))
                  go_ret
                  exact ⟨ret_bool (HF.out (by simp only [nodeBad, ha, Bool.not_false, Bool.or_true])).symm, hB.trans (hb1.mono hB.size)⟩
                · go_wp2_with (first | (go_at_call 175; refine (kindFits_any T _ n _ HTr.out hlt).mono ?_; rintro e w1 ⟨rfl, rfl⟩) | (go_at_call 176; refine (hostFits_any T _ n _ HTr.out hlt).mono ?_; rintro e w1 ⟨rfl, rfl⟩) | (go_at_call 177; refine (rootFits_any T _ n _ HTr.out hlt).mono ?_; rintro e w1 ⟨rfl, rfl⟩) | (go_at_call 178; refine (attrsFit_any (nd T n) _ _ _ hAt hal).mono ?_; rintro e w1 ⟨rfl, hb1⟩))
                  go_roundw
                  case rel => exact ⟨n + 1, by omega, by go_num, by rw [allB_succ, HA.out]; simp only [nodeBad, hk, hh, hr, ha, Bool.not_true, Bool.or_self, Bool.not_false, Bool.and_self], hB.trans (hb1.mono hB.size)⟩
                  case measure => simp [intOf]; omega
        · have hne : n = T.length := by omega
          subst hne
          have HM : Hid (mayB T = (kidsFitB T && !hasLoopB T)) := by
            show _ = _
            unfold mayB
            rw [decide_eq_true h1, decide_eq_true h64, HA.out]
            simp
          have hl : ∀ n, n < T.length → (nd T n).kids.length ≤ 1000000 := fun n hn => (HS.out n hn).1
          have HL : Hid (∀ n, n < T.length → (nd T n).kids.length ≤ 1000000) := hl
          clear hl
          cases hkf : kidsFitB T
          · go_wp2_with (go_at_call 179; refine (kidsFit_any T _ _ HTr.out h1 h64 HL.out).mono ?_; rintro e w1 ⟨rfl, hb1⟩)
            go_ret
            exact ⟨ret_bool (by rw [HM.out, hkf]; rfl), hB.trans (hb1.mono hB.size)⟩
          · have HU : Hid (UpOk T) := upOk_of HA.out hkf
            go_wp2_with (first | (go_at_call 179; refine (kidsFit_any T _ _ HTr.out h1 h64 HL.out).mono ?_; rintro e w1 ⟨rfl, hb1⟩; have HT1 : Hid (TreeAt w1 (.slice a T.length cap) T) := HTr.out.below hb1) | (go_at_call 180; refine (hasLoop_any T HU.out h1 h64 _ _ HT1.out).mono ?_; rintro e w2 ⟨rfl, hb2⟩))
            go_ret
            exact ⟨ret_bool (by rw [HM.out, hkf, Bool.true_and]), (hB.trans (hb1.mono hB.size)).trans (hb2.mono (Nat.le_trans hB.size hb1.size))⟩
    · go_enter Tryz.func137, Tryz.ntmps137
      go_wp2_with fail
      go_ret
      exact ⟨ret_bool (by unfold mayB; rw [decide_eq_false h64]; simp), Below.refl _ _⟩
  · go_enter Tryz.func137, Tryz.ntmps137
    go_wp2_with fail
    go_ret
    exact ⟨ret_bool (by unfold mayB; rw [decide_eq_false h1]; rfl), Below.refl _ _⟩

def checkE (T : List Nd) : Int := if mayB T then 0 else 1

set_option maxHeartbeats 400000 in
theorem check_any (T : List Nd) (hS : Sane T) (v : Value) (w : World) (hT : TreeAt w v T) :
    Calls Tryz.prog 77 #[v] w fun e W' => e = .returned (.int .i64 (checkE T)) ∧ Below w.heap.size w W' := by
  have HT : Hid (TreeAt w v T) := hT
  have HS : Hid (Sane T) := hS
  obtain ⟨a, cap, rfl, _⟩ := hT
  clear hS
  cases hm : mayB T
  all_goals
    go_enter Tryz.func77, Tryz.ntmps77
    go_wp2_with (go_at_call 137; refine (mayBe_any T HS.out _ _ HT.out).mono ?_; rintro e w1 ⟨rfl, hb1⟩)
    go_ret
    exact ⟨ret_int (by simp only [checkE, hm, Bool.false_eq_true, if_false, if_true]), hb1⟩
end Go.Proofs.YtpmacpbhdgigfaaGreat
