/- May of limelightref01. -/
import Derived.Test.YtnbnijhdmnoelaaRefB
import Derived.Test.YtnbnijhdmnoelaaRefD
namespace Go.Proofs.Ytnbnijhdmnoelaa
open Go.RowKit

def refNodeB (T : List Nd) (n : Nat) : Bool := kindFitsB (nd T n) n && attrsFrom (nd T n).kind (-1) (nd T n).attrs && refKidsB T n && shadowB T n
def refMayB (T : List Nd) : Bool := decide (1 ≤ T.length) && (decide (T.length ≤ 64) && (allB T.length (refNodeB T) && allB T.length (fun n => endsF T (T.length + 1) n)))

theorem refNode_upOk {T : List Nd} (h : ∀ n, n < T.length → refNodeB T n = true) : UpOk T := by
  intro n hn
  have hx := h n hn
  simp only [refNodeB, Bool.and_eq_true] at hx
  obtain ⟨⟨⟨_, _⟩, hk⟩, hs⟩ := hx
  rw [overI]
  cases h3 : ((nd T n).kind == 3)
  · rw [if_neg (by simp)]
    simp only [refKidsB, Bool.and_eq_true, Bool.or_eq_true] at hk
    rcases hk.2 with h | h
    · exact Or.inl h
    · exact Or.inr h.1
  · rw [if_pos rfl]
    simp only [shadowB, h3, if_true, Bool.and_eq_true] at hs
    exact Or.inr hs.1.1.2

set_option maxRecDepth 100000 in
set_option maxHeartbeats 4000000 in
theorem refMay_any (T : List Nd) (hS : Sane T) (v : Value) (w : World) (hT : TreeAt w v T) :
    Calls Try.prog 63 #[v] w fun e w' => e = .returned (.bool (refMayB T)) ∧ Below w.heap.size w w' := by
  have HT : Hid (TreeAt w v T) := hT
  have HS : Hid (Sane T) := hS
  obtain ⟨a, cap, rfl, _⟩ := hT
  clear hS
  by_cases h1 : 1 ≤ T.length
  · by_cases h64 : T.length ≤ 64
    · have HM : Hid (refMayB T = (allB T.length (refNodeB T) && allB T.length (fun n => endsF T (T.length + 1) n))) := by
        show _ = _
        rw [refMayB, decide_eq_true h1, decide_eq_true h64]; rfl
      go_enter Try.func63, Try.ntmps63
      go_wp2_with fail
      go_loopw [3] (fun i wr => ∃ k : Nat, k ≤ T.length ∧ i = .int .i64 k ∧ Below w.heap.size w wr ∧ (∀ j, j < k → refNodeB T j = true)) (fun i _ => T.length - (intOf i).toNat)
      case atStart => exact ⟨0, Nat.zero_le _, rfl, Below.refl _ _, fun j h => by omega⟩
      case round =>
        obtain ⟨k, hk, rfl, hB, hok⟩ := hrel
        have HO : Hid (∀ j, j < k → refNodeB T j = true) := hok
        clear hok
        by_cases hlt : k < T.length
        · obtain ⟨b, off, cap2, hv, hc⟩ := HT.out.at (by omega)
          obtain ⟨rfl, rfl⟩ : a = some ⟨b, off, none⟩ ∧ cap = cap2 := by simpa using hv
          obtain ⟨kv, av, hN⟩ := hc k hlt
          have HF : Hid (refNodeB T k = false → refMayB T = false) := fun h => by rw [HM.out, allB_false hlt h]; rfl
          have HK : Hid (∀ w2, Below w.heap.size w w2 → Calls Try.prog 96 #[.agg #[.int .i64 (nd T k).kind, .int .i64 (nd T k).tag, .int .i64 (nd T k).parent, kv, .int .i64 (nd T k).host, .int .i64 (nd T k).root, av], .int .i64 k] w2 fun e w' => e = .returned (.bool (kindFitsB (nd T k) k)) ∧ Below w.heap.size w w' ∧ NodeAt w' b (off + k * 7) (nd T k) kv av) := fun w2 h2 => by
            refine (refKind_any _ _ _ _ _).mono ?_
            rintro e w' ⟨rfl, hb⟩
            have hb' := h2.trans (hb.mono h2.size)
            exact ⟨rfl, hb', hN.below hb'⟩
          have HA : Hid (∀ w2, Below w.heap.size w w2 → Calls Try.prog 97 #[.agg #[.int .i64 (nd T k).kind, .int .i64 (nd T k).tag, .int .i64 (nd T k).parent, kv, .int .i64 (nd T k).host, .int .i64 (nd T k).root, av]] w2 fun e w' => e = .returned (.bool (attrsFrom (nd T k).kind (-1) (nd T k).attrs)) ∧ Below w.heap.size w w') := fun w2 h2 => by
            refine (refAttrs_any _ _ _ _ (hN.attrs.below h2) (HS.out k hlt).2).mono ?_
            rintro e w' ⟨rfl, hb⟩
            exact ⟨rfl, h2.trans (hb.mono h2.size)⟩
          have HD : Hid (∀ w2, Below w.heap.size w w2 → Calls Try.prog 98 #[.slice (some ⟨b, off, none⟩) T.length cap, .int .i64 k] w2 fun e w' => e = .returned (.bool (refKidsB T k)) ∧ Below w.heap.size w w') := fun w2 h2 => by
            refine (refKids_any T HS.out _ k w2 (HT.out.below h2) hlt h64).mono ?_
            rintro e w' ⟨rfl, hb⟩
            exact ⟨rfl, h2.trans (hb.mono h2.size)⟩
          have HH : Hid (∀ w2, Below w.heap.size w w2 → Calls Try.prog 99 #[.slice (some ⟨b, off, none⟩) T.length cap, .int .i64 k] w2 fun e w' => e = .returned (.bool (shadowB T k)) ∧ Below w.heap.size w w') := fun w2 h2 => by
            refine (refShadow_any T _ k w2 (HT.out.below h2) hlt h64).mono ?_
            rintro e w' ⟨rfl, hb⟩
            exact ⟨rfl, h2.trans (hb.mono h2.size)⟩
          replace hN := hN.below hB
          obtain ⟨n0, n1, n2, n3, n4, n5, n6, _, _⟩ := hN
          clear hc hv
          cases g1 : kindFitsB (nd T k) k
          · rw [g1] at HK
            go_wp2_with (go_at_call 96; refine (HK.out _ hB).mono ?_; rintro e w1 ⟨rfl, hb1, hN1⟩)
            go_ret
            exact ⟨ret_bool (by rw [HF.out (by rw [refNodeB, g1]; rfl)]), hb1⟩
          · rw [g1] at HK
            cases g2 : attrsFrom (nd T k).kind (-1) (nd T k).attrs
            · rw [g2] at HA
              go_wp2_with (first | (go_at_call 96; refine (HK.out _ hB).mono ?_; rintro e w1 ⟨rfl, hb1, ⟨q0, q1, q2, q3, q4, q5, q6, _, _⟩⟩) | (go_at_call 97; refine (HA.out _ hb1).mono ?_; rintro e w2 ⟨rfl, hb2⟩))
              go_ret
              exact ⟨ret_bool (by rw [HF.out (by rw [refNodeB, g1, g2]; rfl)]), hb2⟩
            · rw [g2] at HA
              cases g3 : refKidsB T k
              · rw [g3] at HD
                go_wp2_with (first | (go_at_call 96; refine (HK.out _ hB).mono ?_; rintro e w1 ⟨rfl, hb1, ⟨q0, q1, q2, q3, q4, q5, q6, _, _⟩⟩) | (go_at_call 97; refine (HA.out _ hb1).mono ?_; rintro e w2 ⟨rfl, hb2⟩) | (go_at_call 98; refine (HD.out _ hb2).mono ?_; rintro e w3 ⟨rfl, hb3⟩))
                go_ret
                exact ⟨ret_bool (by rw [HF.out (by rw [refNodeB, g1, g2, g3]; rfl)]), hb3⟩
              · rw [g3] at HD
                cases g4 : shadowB T k
                · rw [g4] at HH
                  go_wp2_with (first | (go_at_call 96; refine (HK.out _ hB).mono ?_; rintro e w1 ⟨rfl, hb1, ⟨q0, q1, q2, q3, q4, q5, q6, _, _⟩⟩) | (go_at_call 97; refine (HA.out _ hb1).mono ?_; rintro e w2 ⟨rfl, hb2⟩) | (go_at_call 98; refine (HD.out _ hb2).mono ?_; rintro e w3 ⟨rfl, hb3⟩) | (go_at_call 99; refine (HH.out _ hb3).mono ?_; rintro e w4 ⟨rfl, hb4⟩))
                  go_ret
                  exact ⟨ret_bool (by rw [HF.out (by rw [refNodeB, g1, g2, g3, g4]; rfl)]), hb4⟩
                · rw [g4] at HH
                  go_wp2_with (first | (go_at_call 96; refine (HK.out _ hB).mono ?_; rintro e w1 ⟨rfl, hb1, ⟨q0, q1, q2, q3, q4, q5, q6, _, _⟩⟩) | (go_at_call 97; refine (HA.out _ hb1).mono ?_; rintro e w2 ⟨rfl, hb2⟩) | (go_at_call 98; refine (HD.out _ hb2).mono ?_; rintro e w3 ⟨rfl, hb3⟩) | (go_at_call 99; refine (HH.out _ hb3).mono ?_; rintro e w4 ⟨rfl, hb4⟩))
                  go_roundw
                  case rel =>
                    refine ⟨k + 1, by omega, by go_num, hb4, fun j hj => ?_⟩
                    by_cases h : j = k
                    · subst h; rw [refNodeB, g1, g2, g3, g4]; rfl
                    · exact HO.out j (by omega)
                  case measure => simp [intOf]; omega
        · have hall : ∀ j, j < T.length → refNodeB T j = true := fun j hj => HO.out j (by omega)
          have HUP : Hid (UpOk T) := refNode_upOk hall
          have HM2 : Hid (refMayB T = allB T.length (fun n => endsF T (T.length + 1) n)) := by
            show _ = _
            rw [HM.out, allB_true.mpr hall]; rfl
          clear hall
          go_wp2_with fail
          go_loopw [4] (fun i ws => ∃ m : Nat, m ≤ T.length ∧ i = .int .i64 m ∧ Below w.heap.size w ws ∧ (∀ j, j < m → endsF T (T.length + 1) j = true)) (fun i _ => T.length - (intOf i).toNat)
          case atStart => exact ⟨0, Nat.zero_le _, rfl, hB, fun j h => by omega⟩
          case round =>
            obtain ⟨m, hm, rfl, hBs, hok2⟩ := hrel
            have HO2 : Hid (∀ j, j < m → endsF T (T.length + 1) j = true) := hok2
            clear hok2
            by_cases hlm : m < T.length
            · cases g : endsF T (T.length + 1) m
              · have HF2 : Hid (refMayB T = false) := by
                  show _ = _
                  rw [HM2.out]; exact allB_false (p := fun n : Nat => endsF T (T.length + 1) n) hlm g
                go_wp2_with (go_at_call 100; refine (refEnds_any T HUP.out h64 _ m hlm _ (HT.out.below hBs)).mono ?_; rw [g]; rintro e w5 ⟨rfl, rfl⟩)
                go_ret
                exact ⟨ret_bool (by rw [HF2.out]), hBs⟩
              · go_wp2_with (go_at_call 100; refine (refEnds_any T HUP.out h64 _ m hlm _ (HT.out.below hBs)).mono ?_; rw [g]; rintro e w5 ⟨rfl, rfl⟩)
                go_roundw
                case rel =>
                  refine ⟨m + 1, by omega, by go_num, hBs, fun j hj => ?_⟩
                  by_cases h : j = m
                  · subst h; exact g
                  · exact HO2.out j (by omega)
                case measure => simp [intOf]; omega
            · have HF3 : Hid (refMayB T = true) := by
                show _ = _
                rw [HM2.out]; exact allB_true.mpr (fun j hj => HO2.out j (by omega))
              go_wp2_with fail
              go_ret
              exact ⟨ret_bool (by rw [HF3.out]), hBs⟩
    · go_enter Try.func63, Try.ntmps63
      go_wp2_with fail
      go_ret
      exact ⟨ret_bool (by unfold refMayB; rw [decide_eq_false h64]; simp), Below.refl _ _⟩
  · go_enter Try.func63, Try.ntmps63
    go_wp2_with fail
    go_ret
    exact ⟨ret_bool (by unfold refMayB; rw [decide_eq_false h1]; rfl), Below.refl _ _⟩
end Go.Proofs.Ytnbnijhdmnoelaa
