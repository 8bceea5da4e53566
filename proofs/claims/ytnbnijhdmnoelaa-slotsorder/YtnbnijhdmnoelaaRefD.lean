/- kids of limelightref01. -/
import Derived.Test.YtnbnijhdmnoelaaRefC
namespace Go.Proofs.Ytnbnijhdmnoelaa
open Go.RowKit

theorem hideR {p : Prop} (h : p) : Hid p := h

def kidOkB (T : List Nd) (n : Nat) (k : Int) : Bool :=
  isNodeB T.length k && (countN (nd T n).kids k : Int) == 1 && (nd T k.toNat).parent == (n : Int) && ((nd T k.toNat).kind == 1 || (nd T k.toNat).kind == 2)
def refKidsB (T : List Nd) (n : Nat) : Bool :=
  (nd T n).kids.all (kidOkB T n) && !((nd T n).kind == 2 && decide (0 < ((nd T n).kids.length : Int))) && ((nd T n).parent == -1 || (isNodeB T.length (nd T n).parent && (countN (nd T (nd T n).parent.toNat).kids (n : Int) : Int) == 1))

theorem all_false_at {l : List Int} {p : Int → Bool} {k : Nat} (hk : k < l.length) (h : p (l.getD k 0) = false) : l.all p = false := by
  rw [List.all_eq_false]
  refine ⟨l[k], List.getElem_mem hk, ?_⟩
  rw [List.getD_eq_getElem?_getD, List.getElem?_eq_getElem hk, Option.getD_some] at h
  rw [h]; exact Bool.false_ne_true
theorem all_true_of {l : List Int} {p : Int → Bool} (h : ∀ j, j < l.length → p (l.getD j 0) = true) : l.all p = true := by
  rw [List.all_eq_true]
  intro x hx
  obtain ⟨j, hj, rfl⟩ := List.mem_iff_getElem.mp hx
  have := h j hj
  rwa [List.getD_eq_getElem?_getD, List.getElem?_eq_getElem hj, Option.getD_some] at this

set_option maxRecDepth 100000 in
set_option maxHeartbeats 4000000 in
theorem refKids_any (T : List Nd) (hS : Sane T) (v : Value) (n : Nat) (w : World) (hT : TreeAt w v T) (hn : n < T.length) (h64 : T.length ≤ 64) :
    Calls Try.prog 98 #[v, .int .i64 n] w fun e w' => e = .returned (.bool (refKidsB T n)) ∧ Below w.heap.size w w' := by
  obtain ⟨b, off, cap, rfl, hc⟩ := hT.at (by omega)
  have HC : Hid (∀ m, m < T.length → ∃ kv av, NodeAt w b (off + m * 7) (nd T m) kv av) := hc
  obtain ⟨kv, av, hN⟩ := hc n hn
  clear hc hT
  obtain ⟨n0, n1, n2, n3, n4, n5, n6, hk, ha⟩ := hN
  have hbz : b < w.heap.size := below_of_cell n0
  have hlen := (hS n hn).1
  have HS : Hid (Sane T) := hS
  clear hS
  have hB : ∀ o, Below w.heap.size w (w.alloc o) := fun o => (Below.refl _ w).alloc (Nat.le_refl _) o
  have HI : Hid (IntsAt w kv (nd T n).kids) := hk
  obtain ⟨ka, kc, rfl, hkc⟩ := hk
  have HK : Hid (0 < (nd T n).kids.length → ∃ b off, ka = some ⟨b, off, none⟩ ∧ ∀ j, j < (nd T n).kids.length → w.cell? ⟨b, off + j, none⟩ = some (.int .i64 ((nd T n).kids.getD j 0))) := hkc
  obtain ⟨aa, ac, rfl, _⟩ := ha
  clear hkc
  -- the end of the function, once all kids are well
  go_enter Try.func98, Try.ntmps98
  go_wp2_with fail
  go_loopw [6, 7] (fun i _ wr => ∃ k : Nat, k ≤ (nd T n).kids.length ∧ i = .int .i64 k ∧
      wr = w.alloc (.cells #[.int .i64 (nd T n).kind, .int .i64 (nd T n).tag, .int .i64 (nd T n).parent, .slice ka (nd T n).kids.length kc, .int .i64 (nd T n).host, .int .i64 (nd T n).root, .slice aa (nd T n).attrs.length ac] 38) ∧
      (∀ j, j < k → kidOkB T n ((nd T n).kids.getD j 0) = true)) (fun i _ _ => (nd T n).kids.length - (intOf i).toNat)
  case atStart => exact ⟨0, Nat.zero_le _, rfl, rfl, fun j h => by omega⟩
  case round =>
    obtain ⟨k, hk, rfl, rfl, hok⟩ := hrel
    have HO : Hid (∀ j, j < k → kidOkB T n ((nd T n).kids.getD j 0) = true) := hok
    clear hok
    by_cases hlt : k < (nd T n).kids.length
    · obtain ⟨kb, koff, rfl, hd⟩ := HK.out (by omega)
      have c := hd k hlt
      have hkb : kb < w.heap.size := below_of_cell c
      clear hd
      have HF : Hid (kidOkB T n ((nd T n).kids.getD k 0) = false → refKidsB T n = false) := fun h => by rw [refKidsB, all_false_at hlt h]; rfl
      generalize hA : (nd T n).kids.getD k 0 = y at *
      have HA : Hid ((nd T n).kids.getD k 0 = y) := hA
      clear hA
      cases hi : isNodeB T.length y
      · go_wp2_with (first | (go_at_call 78; refine (refIs_any _ _ _ _ _).mono ?_; rintro e w1 ⟨rfl, rfl⟩) | (go_at_call 119; refine (refCount_any _ _ _ _ (HI.out.below (hB _)) hlen).mono ?_; rintro e w1 ⟨rfl, rfl⟩))
        go_ret
        exact ⟨ret_bool (by rw [HF.out (by simp only [kidOkB, hi, Bool.false_and])]), hB _⟩
      · obtain ⟨m, rfl, hml⟩ := isNodeB_true hi
        obtain ⟨kv2, av2, hM⟩ := HC.out m hml
        have m0 := hM.kind
        have m2 := hM.parent
        clear hM
        have HY : Hid (kidOkB T n (m : Int) = ((countN (nd T n).kids m : Int) == 1 && (nd T m).parent == (n : Int) && ((nd T m).kind == 1 || (nd T m).kind == 2))) := by
          show _ = _
          rw [kidOkB, hi, Int.toNat_natCast, Bool.true_and]
        generalize hcn : countN (nd T n).kids m = cn at *
        have HCN : Hid (countN (nd T n).kids m = cn) := hcn
        clear hcn
        cases h1 : ((cn : Int) == 1)
        · have h1' : ((cn : Int) != 1) = true := by rw [bne, h1]; rfl
          go_wp2_with (first | (go_at_call 78; refine (refIs_any _ _ _ _ _).mono ?_; rintro e w1 ⟨rfl, rfl⟩) | (go_at_call 119; refine (refCount_any _ _ _ _ (HI.out.below (hB _)) hlen).mono ?_; rw [HCN.out]; rintro e w1 ⟨rfl, rfl⟩))
          go_ret
          exact ⟨ret_bool (by rw [HF.out (by rw [HY.out, h1]; simp)]), hB _⟩
        · have h1' : ((cn : Int) != 1) = false := by rw [bne, h1]; rfl
          cases h2 : ((nd T m).parent == (n : Int))
          · have h2' : ((nd T m).parent != (n : Int)) = true := by rw [bne, h2]; rfl
            go_wp2_with (first | (go_at_call 78; refine (refIs_any _ _ _ _ _).mono ?_; rintro e w1 ⟨rfl, rfl⟩) | (go_at_call 119; refine (refCount_any _ _ _ _ (HI.out.below (hB _)) hlen).mono ?_; rw [HCN.out]; rintro e w1 ⟨rfl, rfl⟩))
            go_ret
            exact ⟨ret_bool (by rw [HF.out (by rw [HY.out, h2]; simp)]), hB _⟩
          · have h2' : ((nd T m).parent != (n : Int)) = false := by rw [bne, h2]; rfl
            cases h3 : ((nd T m).kind == 1)
            · have h3' : ((nd T m).kind != 1) = true := by rw [bne, h3]; rfl
              cases h4 : ((nd T m).kind == 2)
              · have h4' : ((nd T m).kind != 2) = true := by rw [bne, h4]; rfl
                go_wp2_with (first | (go_at_call 78; refine (refIs_any _ _ _ _ _).mono ?_; rintro e w1 ⟨rfl, rfl⟩) | (go_at_call 119; refine (refCount_any _ _ _ _ (HI.out.below (hB _)) hlen).mono ?_; rw [HCN.out]; rintro e w1 ⟨rfl, rfl⟩))
                go_ret
                exact ⟨ret_bool (by rw [HF.out (by rw [HY.out, h3, h4]; simp)]), hB _⟩
              · have h4' : ((nd T m).kind != 2) = false := by rw [bne, h4]; rfl
                go_wp2_with (first | (go_at_call 78; refine (refIs_any _ _ _ _ _).mono ?_; rintro e w1 ⟨rfl, rfl⟩) | (go_at_call 119; refine (refCount_any _ _ _ _ (HI.out.below (hB _)) hlen).mono ?_; rw [HCN.out]; rintro e w1 ⟨rfl, rfl⟩))
                go_roundw
                case rel =>
                  refine ⟨k + 1, by omega, by go_num, trivial, fun j hj => ?_⟩
                  by_cases h : j = k
                  · subst h; rw [HA.out, HY.out, h1, h2, h4]; simp
                  · exact HO.out j (by omega)
                case measure => simp [intOf]; omega
            · have h3' : ((nd T m).kind != 1) = false := by rw [bne, h3]; rfl
              go_wp2_with (first | (go_at_call 78; refine (refIs_any _ _ _ _ _).mono ?_; rintro e w1 ⟨rfl, rfl⟩) | (go_at_call 119; refine (refCount_any _ _ _ _ (HI.out.below (hB _)) hlen).mono ?_; rw [HCN.out]; rintro e w1 ⟨rfl, rfl⟩))
              go_roundw
              case rel =>
                refine ⟨k + 1, by omega, by go_num, trivial, fun j hj => ?_⟩
                by_cases h : j = k
                · subst h; rw [HA.out, HY.out, h1, h2, h3]; simp
                · exact HO.out j (by omega)
              case measure => simp [intOf]; omega
    · have HR : Hid (refKidsB T n = (!((nd T n).kind == 2 && decide (0 < ((nd T n).kids.length : Int))) && ((nd T n).parent == -1 || (isNodeB T.length (nd T n).parent && (countN (nd T (nd T n).parent.toNat).kids (n : Int) : Int) == 1)))) := by
        show _ = _
        rw [refKidsB, all_true_of (fun j hj => HO.out j (by omega)), Bool.true_and]
      by_cases ht : ((nd T n).kind == 2) = true ∧ 0 < (nd T n).kids.length
      · obtain ⟨ht1, ht2⟩ := ht
        go_wp2_with fail
        go_ret
        exact ⟨ret_bool (by rw [HR.out, ht1, decide_eq_true (by omega)]; rfl), hB _⟩
      · have HT2 : Hid (((nd T n).kind == 2 && decide (0 < ((nd T n).kids.length : Int))) = false) := by
          show _ = _
          cases hk2 : ((nd T n).kind == 2)
          · rfl
          · have : ¬ 0 < (nd T n).kids.length := fun h => ht ⟨hk2, h⟩
            rw [decide_eq_false (by omega)]; rfl
        have HR2 : Hid (refKidsB T n = ((nd T n).parent == -1 || (isNodeB T.length (nd T n).parent && (countN (nd T (nd T n).parent.toNat).kids (n : Int) : Int) == 1))) := by
          show _ = _
          rw [HR.out, HT2.out]; rfl
        clear HR HT2
        -- the two ways past the test of a text's kids
        have hways : ((nd T n).kind == 2) = false ∨ (((nd T n).kind == 2) = true ∧ (nd T n).kids.length = 0) := by
          cases hk2 : ((nd T n).kind == 2)
          · exact Or.inl rfl
          · have : ¬ 0 < (nd T n).kids.length := fun h => ht ⟨hk2, h⟩
            exact Or.inr ⟨rfl, by omega⟩
        clear ht
        cases hp : ((nd T n).parent == -1)
        · cases hi : isNodeB T.length (nd T n).parent
          · have HR3 : Hid (refKidsB T n = false) := by
              show _ = _
              rw [HR2.out, hp, hi]; rfl
            rcases hways with hk2 | ⟨hk2, hk0⟩
            · go_wp2_with (go_at_call 78; refine (refIs_any _ _ _ _ _).mono ?_; rintro e w1 ⟨rfl, rfl⟩)
              go_ret
              exact ⟨ret_bool (by rw [HR3.out]), hB _⟩
            · have hd0 : decide (0 < ((nd T n).kids.length : Int)) = false := decide_eq_false (by omega)
              go_wp2_with (go_at_call 78; refine (refIs_any _ _ _ _ _).mono ?_; rintro e w1 ⟨rfl, rfl⟩)
              go_ret
              exact ⟨ret_bool (by rw [HR3.out]), hB _⟩
          · obtain ⟨m, hm, hml⟩ := isNodeB_true hi
            obtain ⟨kv2, av2, hM⟩ := HC.out m hml
            have m3 := hM.kidsc
            have HCT := refCount_any (nd T m).kids kv2 n _ (hM.kids.below (hB (.cells #[.int .i64 (nd T n).kind, .int .i64 (nd T n).tag, .int .i64 (nd T n).parent, .slice ka (nd T n).kids.length kc, .int .i64 (nd T n).host, .int .i64 (nd T n).root, .slice aa (nd T n).attrs.length ac] 38))) (HS.out m hml).1
            have HR3 : Hid (refKidsB T n = ((countN (nd T m).kids (n : Int) : Int) == 1)) := by
              show _ = _
              rw [HR2.out, hp, hi, hm, Int.toNat_natCast]; rfl
            obtain ⟨ka2, kc2, rfl, _⟩ := hM.kids
            clear hM
            clear HR2
            generalize (nd T n).parent = pp at *
            subst hm
            have HCT := hideR HCT
            rcases hways with hk2 | ⟨hk2, hk0⟩
            · go_wp2_with (first | (go_at_call 78; refine (refIs_any _ _ _ _ _).mono ?_; rintro e w1 ⟨rfl, rfl⟩) | (go_at_call 119; refine HCT.out.mono ?_; rintro e w1 ⟨rfl, rfl⟩))
              go_ret
              exact ⟨ret_bool (by rw [HR3.out]), hB _⟩
            · have hd0 : decide (0 < ((nd T n).kids.length : Int)) = false := decide_eq_false (by omega)
              rw [hk0] at HCT
              go_wp2_with (first | (go_at_call 78; refine (refIs_any _ _ _ _ _).mono ?_; rintro e w1 ⟨rfl, rfl⟩) | (go_at_call 119; refine HCT.out.mono ?_; rintro e w1 ⟨rfl, rfl⟩))
              go_ret
              exact ⟨ret_bool (by rw [HR3.out]), hB _⟩
        · have HR3 : Hid (refKidsB T n = true) := by
            show _ = _
            rw [HR2.out, hp]; rfl
          rcases hways with hk2 | ⟨hk2, hk0⟩
          · go_wp2_with fail
            go_ret
            exact ⟨ret_bool (by rw [HR3.out]), hB _⟩
          · have hd0 : decide (0 < ((nd T n).kids.length : Int)) = false := decide_eq_false (by omega)
            go_wp2_with fail
            go_ret
            exact ⟨ret_bool (by rw [HR3.out]), hB _⟩
end Go.Proofs.Ytnbnijhdmnoelaa
