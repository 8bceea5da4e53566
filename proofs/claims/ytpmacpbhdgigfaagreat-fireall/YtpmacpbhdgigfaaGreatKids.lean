/- kidsFit of package tree: it returns whether the kids of a tree may be. -/
import Derived.Test.YtpmacpbhdgigfaaGreatBase
namespace Go.Proofs.YtpmacpbhdgigfaaGreat
open Go.RowKit

theorem isNodeB_true' {len : Nat} {n : Int} (h : isNodeB len n = true) : ∃ m : Nat, n = m ∧ m < len := by
  simp only [isNodeB, Bool.and_eq_true, decide_eq_true_eq] at h
  exact ⟨n.toNat, by omega, by omega⟩

def kidBad (T : List Nd) (p : Nat) (P : Nat → Bool) (k : Int) : Bool :=
  !isNodeB T.length k || !canBeKidB (nd T k.toNat).kind || (nd T k.toNat).parent != (p : Int) || P k.toNat
def setP (P : Nat → Bool) (k : Nat) : Nat → Bool := fun j => P j || j == k
def kidsRun (T : List Nd) (p : Nat) : List Int → (Nat → Bool) → Option (Nat → Bool)
  | [], P => some P
  | k :: l, P => if kidBad T p P k then none else kidsRun T p l (setP P k.toNat)
def nodeRun (T : List Nd) (n : Nat) (P : Nat → Bool) : Option (Nat → Bool) :=
  if (nd T n).kind == 2 && decide (0 < (nd T n).kids.length) then none else kidsRun T n (nd T n).kids P
def nodesFrom (T : List Nd) : Nat → Nat → (Nat → Bool) → Option (Nat → Bool)
  | 0, _, P => some P
  | m + 1, n, P => match nodeRun T n P with | some P' => nodesFrom T m (n + 1) P' | none => none
def allB (k : Nat) (p : Nat → Bool) : Bool := (List.range k).all p
theorem allB_succ (k : Nat) (p : Nat → Bool) : allB (k + 1) p = (allB k p && p k) := by simp [allB, List.range_succ]
theorem allB_false {k : Nat} {p : Nat → Bool} {j : Nat} (hj : j < k) (h : p j = false) : allB k p = false := by
  simp only [allB, List.all_eq_false, List.mem_range]
  exact ⟨j, hj, by simp [h]⟩
theorem allB_true {k : Nat} {p : Nat → Bool} : allB k p = true ↔ ∀ j, j < k → p j = true := by simp [allB]
def looseB (T : List Nd) (P : Nat → Bool) (n : Nat) : Bool := !(!P n && (nd T n).parent != -1)
def kidsFitB (T : List Nd) : Bool :=
  match nodesFrom T T.length 0 (fun _ => false) with
  | none => false
  | some P => allB T.length (looseB T P)

theorem kids_drop {T : List Nd} {p : Nat} {l : List Int} {m : Nat} (h : m < l.length) (P : Nat → Bool) :
    kidsRun T p (l.drop m) P = if kidBad T p P (l.getD m 0) then none else kidsRun T p (l.drop (m + 1)) (setP P (l.getD m 0).toNat) := by
  rw [List.drop_eq_getElem_cons h, kidsRun, List.getD_eq_getElem?_getD, List.getElem?_eq_getElem h, Option.getD_some]

/-- The array of what has been placed. -/
def Placed (w : World) (B : Nat) (P : Nat → Bool) : Prop := ∀ j, j < 64 → w.cell? ⟨B, j, none⟩ = some (.bool (P j)) ∧ w.frozen? ⟨B, j, none⟩ = false

theorem Placed.below {w w' : World} {B : Nat} {P : Nat → Bool} (h : Placed w B P) {K : Nat} (hb : Below K w w') (hB : B < K) : Placed w' B P :=
  fun j hj => ⟨(hb.cell (p := ⟨B, j, none⟩) hB).trans (h j hj).1, (hb.frozen (p := ⟨B, j, none⟩) hB).trans (h j hj).2⟩

theorem nodesFrom_step {T : List Nd} {k : Nat} (h : k < T.length) (P : Nat → Bool) :
    nodesFrom T (T.length - k) k P = match nodeRun T k P with | some P' => nodesFrom T (T.length - (k + 1)) (k + 1) P' | none => none := by
  rw [show T.length - k = (T.length - (k + 1)) + 1 by omega, nodesFrom]
theorem kidsFit_none {T : List Nd} {k : Nat} {P : Nat → Bool} (h : k < T.length) (hr : nodesFrom T (T.length - k) k P = nodesFrom T T.length 0 (fun _ => false)) (hn : nodeRun T k P = none) : kidsFitB T = false := by
  rw [nodesFrom_step h, hn] at hr
  simp only [kidsFitB, ← hr]
theorem kidsFit_some {T : List Nd} {P : Nat → Bool} (hr : nodesFrom T (T.length - T.length) T.length P = nodesFrom T T.length 0 (fun _ => false)) : kidsFitB T = allB T.length (looseB T P) := by
  rw [Nat.sub_self, nodesFrom] at hr
  simp only [kidsFitB, ← hr]
theorem nodes_next {T : List Nd} {k : Nat} {P P' : Nat → Bool} {z : Option (Nat → Bool)} (h : k < T.length) (hr : nodesFrom T (T.length - k) k P = z) (hn : nodeRun T k P = some P') :
    nodesFrom T (T.length - (k + 1)) (k + 1) P' = z := by
  rw [nodesFrom_step h, hn] at hr
  exact hr
theorem kids_none {T : List Nd} {p m : Nat} {l : List Int} {P : Nat → Bool} {z : Option (Nat → Bool)} (h : m < l.length) (hr : kidsRun T p (l.drop m) P = z) (hb : kidBad T p P (l.getD m 0) = true) : z = none := by
  rw [kids_drop h, if_pos hb] at hr
  exact hr.symm
theorem kids_next {T : List Nd} {p m : Nat} {l : List Int} {P : Nat → Bool} {z : Option (Nat → Bool)} (h : m < l.length) (hr : kidsRun T p (l.drop m) P = z) (hb : kidBad T p P (l.getD m 0) = false) :
    kidsRun T p (l.drop (m + 1)) (setP P (l.getD m 0).toNat) = z := by
  rw [kids_drop h, hb] at hr
  simpa using hr
theorem Placed.set {w : World} {B : Nat} {P : Nat → Bool} (h : Placed w B P) {k : Nat} (_hk : k < 64) : Placed (w.setCell ⟨B, k, none⟩ (.bool true)) B (setP P k) := by
  intro j hj
  obtain ⟨h1, h2⟩ := h j hj
  refine ⟨?_, by rw [World.frozen?_setCell]; exact h2⟩
  by_cases e : j = k
  · subst e
    rw [World.cell?_setCell_same' _ _ _ (by rw [h1]; rfl)]
    simp [setP]
  · have hne : (⟨B, k, none⟩ : Addr) ≠ ⟨B, j, none⟩ := by intro h; injection h with _ h2; exact e h2.symm
    rw [show (w.setCell ⟨B, k, none⟩ (.bool true)).cell? ⟨B, j, none⟩ = w.cell? ⟨B, j, none⟩ from World.cell?_setCell_other _ _ _ _ hne, h1]
    simp [setP, e]

set_option maxRecDepth 100000 in
set_option maxHeartbeats 4000000 in
theorem kidsFit_any (T : List Nd) (v : Value) (w : World) (hT : TreeAt w v T) (h1 : 1 ≤ T.length) (h64 : T.length ≤ 64) (hl : ∀ n, n < T.length → (nd T n).kids.length ≤ 1000000) :
    Calls Tryz.prog 179 #[v] w fun e w' => e = .returned (.bool (kidsFitB T)) ∧ Below w.heap.size w w' := by
  obtain ⟨b, off, cap, rfl, hc⟩ := hT.at (by omega)
  have HC : Hid (∀ n, n < T.length → ∃ kv av, NodeAt w b (off + n * 7) (nd T n) kv av) := hc
  have HL : Hid (∀ n, n < T.length → (nd T n).kids.length ≤ 1000000) := hl
  clear hc hT hl
  go_enter Tryz.func179, Tryz.ntmps179
  go_wp2_with fail
  go_loopw [11] (fun i wr => ∃ (k : Nat) (P : Nat → Bool), k ≤ T.length ∧ i = .int .i64 k ∧ nodesFrom T (T.length - k) k P = nodesFrom T T.length 0 (fun _ => false) ∧
      Below w.heap.size w wr ∧ w.heap.size < wr.heap.size ∧ Placed wr w.heap.size P) (fun i _ => T.length - (intOf i).toNat)
  case atStart =>
    refine ⟨0, fun _ => false, Nat.zero_le _, rfl, rfl, (Below.refl _ w).alloc (Nat.le_refl _) _, by simp, ?_⟩
    intro j hj
    refine ⟨?_, ?_⟩
    · rw [World.cell?_alloc_new]
      show (Array.replicate 64 (Value.bool false))[j]? = _
      rw [Array.getElem?_replicate, if_pos hj]
    · simp
  case round =>
    obtain ⟨k, P, hk, rfl, hrec, hB, hz, hP⟩ := hrel
    have HR : Hid (nodesFrom T (T.length - k) k P = nodesFrom T T.length 0 (fun _ => false)) := hrec
    clear hrec
    by_cases hlt : k < T.length
    · obtain ⟨kv, av, hN⟩ := HC.out k hlt
      obtain ⟨ka, kcap, rfl, hkids⟩ := hN.kids
      obtain ⟨aa, acap, rfl, _⟩ := hN.attrs
      have hbz : b < w.heap.size := below_of_cell hN.kind
      have hbz' : b < wr.heap.size := by omega
      have g0 := (hB.cell (p := ⟨b, off + k * 7, none⟩) hbz).trans hN.kind
      have g1 := (hB.cell (p := ⟨b, off + k * 7 + 1, none⟩) hbz).trans hN.tag
      have g2 := (hB.cell (p := ⟨b, off + k * 7 + 2, none⟩) hbz).trans hN.parent
      have g3 := (hB.cell (p := ⟨b, off + k * 7 + 3, none⟩) hbz).trans hN.kidsc
      have g4 := (hB.cell (p := ⟨b, off + k * 7 + 4, none⟩) hbz).trans hN.host
      have g5 := (hB.cell (p := ⟨b, off + k * 7 + 5, none⟩) hbz).trans hN.root
      have g6 := (hB.cell (p := ⟨b, off + k * 7 + 6, none⟩) hbz).trans hN.attrsc
      have hkl := HL.out k hlt
      have HK : Hid (0 < (nd T k).kids.length → ∃ b off, ka = some ⟨b, off, none⟩ ∧ ∀ j, j < (nd T k).kids.length → w.cell? ⟨b, off + j, none⟩ = some (.int .i64 ((nd T k).kids.getD j 0))) := hkids
      clear hN hkids
      by_cases hbad : ((nd T k).kind == 2) = true ∧ 0 < (nd T k).kids.length
      · obtain ⟨hx, hy⟩ := hbad
        go_wp2_with fail
        go_ret
        exact ⟨ret_bool (kidsFit_none hlt HR.out (by simp only [nodeRun, hx, Bool.true_and]; rw [if_pos (by simpa using hy)])).symm, hB.alloc hB.size _⟩
      · have HN : Hid (nodeRun T k P = kidsRun T k (nd T k).kids P) := by
          show _ = _
          unfold nodeRun
          rw [if_neg (by simpa using hbad)]
        have hor : ((nd T k).kind == 2) = false ∨ (((nd T k).kind == 2) = true ∧ ¬ 0 < (nd T k).kids.length) := by
          cases hx : ((nd T k).kind == 2)
          · exact .inl rfl
          · exact .inr ⟨rfl, fun h => hbad ⟨hx, h⟩⟩
        clear hbad
        rcases hor with hx | ⟨hx, hy⟩
        all_goals
          go_wp2_with fail
          try clear hy
          go_loopw [28] (fun i w2 => ∃ (m : Nat) (P' : Nat → Bool), m ≤ (nd T k).kids.length ∧ i = .int .i64 m ∧ kidsRun T k ((nd T k).kids.drop m) P' = kidsRun T k (nd T k).kids P ∧
            Below w.heap.size w w2 ∧ w.heap.size < w2.heap.size ∧ Placed w2 w.heap.size P') (fun i _ => (nd T k).kids.length - (intOf i).toNat)
          case atStart => exact ⟨0, P, Nat.zero_le _, rfl, rfl, hB.alloc hB.size _, by simp; omega, hP.below (K := wr.heap.size) ((Below.refl _ wr).alloc (Nat.le_refl _) _) hz⟩
          case round =>
            obtain ⟨m, P', hm, rfl, hrec2, hB2, hz2, hP2⟩ := hrel
            have HI : Hid (kidsRun T k ((nd T k).kids.drop m) P' = kidsRun T k (nd T k).kids P) := hrec2
            clear hrec2 g0 g1 g2 g3 g4 g5 g6 hB hz hP hbz'
            by_cases hm2 : m < (nd T k).kids.length
            · obtain ⟨kb, koff, rfl, hkc⟩ := HK.out (by omega)
              have c0 := hkc m hm2
              have q0 := (hB2.cell (p := ⟨kb, koff + m, none⟩) (below_of_cell c0)).trans c0
              generalize hq : (nd T k).kids.getD m 0 = q at q0
              have HQ : Hid ((nd T k).kids.getD m 0 = q) := hq
              clear hkc c0 hq HK
              cases hi : isNodeB T.length q
              · go_wp2_with (first | (go_at_call 205; refine (isNode_any _ _ _ _ _).mono ?_; rintro e w1 ⟨rfl, rfl⟩) | (go_at_call 204; refine (canBeKid_any _ _).mono ?_; rintro e w1 ⟨rfl, rfl⟩))
                go_ret
                exact ⟨ret_bool (kidsFit_none hlt HR.out (HN.out.trans (kids_none hm2 HI.out (by rw [HQ.out]; simp only [kidBad, hi, Bool.not_false, Bool.true_or])))).symm, hB2⟩
              · obtain ⟨j, rfl, hj⟩ := isNodeB_true' hi
                obtain ⟨kv', av', hM⟩ := HC.out j hj
                have m0 := (hB2.cell (p := ⟨b, off + j * 7, none⟩) hbz).trans hM.kind
                have m2 := (hB2.cell (p := ⟨b, off + j * 7 + 2, none⟩) hbz).trans hM.parent
                obtain ⟨p1, p2⟩ := hP2 j (by omega)
                clear hM
                cases hcb : canBeKidB (nd T j).kind
                · go_wp2_with (first | (go_at_call 205; refine (isNode_any _ _ _ _ _).mono ?_; rintro e w1 ⟨rfl, rfl⟩) | (go_at_call 204; refine (canBeKid_any _ _).mono ?_; rintro e w1 ⟨rfl, rfl⟩))
                  go_ret
                  exact ⟨ret_bool (kidsFit_none hlt HR.out (HN.out.trans (kids_none hm2 HI.out (by rw [HQ.out]; simp only [kidBad, Int.toNat_natCast, hcb, Bool.not_false, Bool.true_or, Bool.or_true])))).symm, hB2⟩
                · cases hpa : ((nd T j).parent != (k : Int))
                  · cases hpl : P' j
                    · rw [hpl] at p1
                      go_wp2_with (first | (go_at_call 205; refine (isNode_any _ _ _ _ _).mono ?_; rintro e w1 ⟨rfl, rfl⟩) | (go_at_call 204; refine (canBeKid_any _ _).mono ?_; rintro e w1 ⟨rfl, rfl⟩))
                      go_roundw
                      case rel =>
                        refine ⟨m + 1, setP P' j, by omega, by go_num, ?_, hB2.setCell (p := ⟨w.heap.size, j, none⟩) (Nat.le_refl _) _, by simpa using hz2, hP2.set (by omega)⟩
                        have e := kids_next hm2 HI.out (by rw [HQ.out]; simp only [kidBad, Int.toNat_natCast, hi, hcb, hpa, hpl, Bool.not_true, Bool.or_self])
                        rw [HQ.out, Int.toNat_natCast] at e
                        exact e
                      case measure => simp [intOf]; omega
                    · rw [hpl] at p1
                      go_wp2_with (first | (go_at_call 205; refine (isNode_any _ _ _ _ _).mono ?_; rintro e w1 ⟨rfl, rfl⟩) | (go_at_call 204; refine (canBeKid_any _ _).mono ?_; rintro e w1 ⟨rfl, rfl⟩))
                      go_ret
                      exact ⟨ret_bool (kidsFit_none hlt HR.out (HN.out.trans (kids_none hm2 HI.out (by rw [HQ.out]; simp only [kidBad, Int.toNat_natCast, hpl, Bool.or_true])))).symm, hB2⟩
                  · go_wp2_with (first | (go_at_call 205; refine (isNode_any _ _ _ _ _).mono ?_; rintro e w1 ⟨rfl, rfl⟩) | (go_at_call 204; refine (canBeKid_any _ _).mono ?_; rintro e w1 ⟨rfl, rfl⟩))
                    go_ret
                    exact ⟨ret_bool (kidsFit_none hlt HR.out (HN.out.trans (kids_none hm2 HI.out (by rw [HQ.out]; simp only [kidBad, Int.toNat_natCast, hpa, Bool.true_or, Bool.or_true])))).symm, hB2⟩
            · have HE : Hid (nodeRun T k P = some P') := by
                have e := HI.out
                rw [List.drop_eq_nil_of_le (by omega), kidsRun] at e
                exact HN.out.trans e.symm
              go_wp2_with fail
              go_roundw
              case rel => exact ⟨k + 1, P', by omega, by go_num, nodes_next hlt HR.out HE.out, hB2, hz2, hP2⟩
              case measure => simp [intOf]; omega
    · have hke : k = T.length := by omega
      subst hke
      have HF : Hid (kidsFitB T = allB T.length (looseB T P)) := kidsFit_some HR.out
      clear HR
      go_wp2_with fail
      go_loop [65] (fun i => ∃ n : Nat, n ≤ T.length ∧ i = .int .i64 n ∧ allB n (looseB T P) = true) (fun i => T.length - (intOf i).toNat)
      case atStart => exact ⟨0, Nat.zero_le _, rfl, rfl⟩
      case round =>
        obtain ⟨n, hn, rfl, hall⟩ := hrel
        have HA : Hid (allB n (looseB T P) = true) := hall
        clear hall
        by_cases hlt : n < T.length
        · obtain ⟨kv, av, hN⟩ := HC.out n hlt
          have hbz : b < w.heap.size := below_of_cell hN.kind
          have g2 := (hB.cell (p := ⟨b, off + n * 7 + 2, none⟩) hbz).trans hN.parent
          obtain ⟨p1, p2⟩ := hP n (by omega)
          clear hN
          cases hpl : P n
          · rw [hpl] at p1
            cases hpa : ((nd T n).parent != -1)
            · go_wp2_with fail
              go_round
              case rel => exact ⟨n + 1, by omega, by go_num, by rw [allB_succ, HA.out]; simp only [looseB, hpl, hpa, Bool.not_false, Bool.and_false, Bool.and_self]⟩
              case measure => simp [intOf]; omega
            · go_wp2_with fail
              go_ret
              exact ⟨ret_bool (HF.out.trans (allB_false hlt (by simp only [looseB, hpl, hpa, Bool.not_false, Bool.and_self, Bool.not_true]))).symm, hB⟩
          · rw [hpl] at p1
            go_wp2_with fail
            go_round
            case rel => exact ⟨n + 1, by omega, by go_num, by rw [allB_succ, HA.out]; simp only [looseB, hpl, Bool.not_true, Bool.false_and, Bool.not_false, Bool.and_self]⟩
            case measure => simp [intOf]; omega
        · have hne : n = T.length := by omega
          subst hne
          go_wp2_with fail
          go_ret
          exact ⟨ret_bool (HF.out.trans HA.out).symm, hB⟩
end Go.Proofs.YtpmacpbhdgigfaaGreat
