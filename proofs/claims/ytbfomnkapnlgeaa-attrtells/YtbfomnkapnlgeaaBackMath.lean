/- What is set is got, and nothing else is another; what is dropped is gone; a tree that may be stays one. -/
import Derived.Test.YtbfomnkapnlgeaaMayEq
import Derived.Test.YtbfomnkapnlgeaaDrop
namespace Go.Proofs.Ytbfomnkapnlgeaa
open Go.RowKit

def lookL (l : List (Int × Int)) (nm : Int) : Int × Bool :=
  if (searchL nm l).2 then ((l.getD (searchL nm l).1 (0, 0)).2, true) else (0, false)
def lostL (l : List (Int × Int)) (nm : Int) : List (Int × Int) := dropL l (searchL nm l).1

theorem lookL_nil (nm : Int) : lookL [] nm = (0, false) := rfl
theorem lookL_cons (a : Int × Int) (l : List (Int × Int)) (nm : Int) : lookL (a :: l) nm = if nm ≤ a.1 then (if a.1 == nm then (a.2, true) else (0, false)) else lookL l nm := by
  rw [lookL, searchL]
  by_cases h : nm ≤ a.1
  · rw [if_pos h, if_pos h]; rfl
  · rw [if_neg h, if_neg h, lookL]; simp
theorem putL_nil (x : Int × Int) : putL [] x = [x] := rfl
theorem putL_cons (a : Int × Int) (l : List (Int × Int)) (x : Int × Int) : putL (a :: l) x = if x.1 ≤ a.1 then (if a.1 == x.1 then x :: l else x :: a :: l) else a :: putL l x := by
  rw [putL, searchL]
  by_cases h : x.1 ≤ a.1
  · rw [if_pos h, if_pos h]; simp
  · rw [if_neg h, if_neg h, putL]
    cases (searchL x.1 l).2 <;> simp
theorem lostL_cons (a : Int × Int) (l : List (Int × Int)) (nm : Int) : lostL (a :: l) nm = if nm ≤ a.1 then l else a :: lostL l nm := by
  rw [lostL, searchL]
  by_cases h : nm ≤ a.1
  · rw [if_pos h, if_pos h]; simp [dropL]
  · rw [if_neg h, if_neg h, lostL]; simp [dropL]

theorem look_put (x : Int × Int) : ∀ l, lookL (putL l x) x.1 = (x.2, true)
  | [] => by rw [putL_nil, lookL_cons, if_pos (Int.le_refl _)]; simp
  | a :: l => by
    rw [putL_cons]
    by_cases h : x.1 ≤ a.1
    · rw [if_pos h]
      split
      · rw [lookL_cons, if_pos (Int.le_refl _)]; simp
      · rw [lookL_cons, if_pos (Int.le_refl _)]; simp
    · rw [if_neg h, lookL_cons, if_neg h, look_put x l]
theorem look_put_ne (x : Int × Int) {nm : Int} (hne : nm ≠ x.1) : ∀ l, lookL (putL l x) nm = lookL l nm
  | [] => by
    have : ¬ x.1 = nm := fun e => hne e.symm
    rw [putL_nil, lookL_cons, lookL_nil]
    split
    · rw [if_neg (by simpa using this)]
    · rfl
  | a :: l => by
    have hx : ¬ x.1 = nm := fun e => hne e.symm
    rw [putL_cons]
    by_cases h : x.1 ≤ a.1
    · rw [if_pos h]
      by_cases e : a.1 = x.1
      · rw [if_pos (by simpa using e), lookL_cons, lookL_cons, e]; simp [hx]
      · rw [if_neg (by simpa using e), lookL_cons]
        by_cases hn : nm ≤ x.1
        · have ha : ¬ a.1 = nm := by omega
          rw [if_pos hn, if_neg (by simpa using hx), lookL_cons, if_pos (by omega), if_neg (by simpa using ha)]
        · rw [if_neg hn]
    · rw [if_neg h, lookL_cons, lookL_cons, look_put_ne x hne l]

theorem attrsFrom_weaken {k last last' : Int} (h : last ≤ last') : ∀ {l : List (Int × Int)}, attrsFrom k last' l = true → attrsFrom k last l = true
  | [], _ => rfl
  | a :: l, hl => by
    rw [attrsFrom, Bool.and_eq_true, Bool.not_eq_true', Bool.or_eq_false_iff, decide_eq_false_iff_not] at hl ⊢
    exact ⟨⟨by omega, hl.1.2⟩, hl.2⟩
theorem look_gone {k last nm : Int} (h : nm ≤ last) : ∀ {l : List (Int × Int)}, attrsFrom k last l = true → lookL l nm = (0, false)
  | [], _ => rfl
  | a :: l, hl => by
    rw [attrsFrom, Bool.and_eq_true, Bool.not_eq_true', Bool.or_eq_false_iff, decide_eq_false_iff_not] at hl
    have : ¬ a.1 = nm := by omega
    rw [lookL_cons, if_pos (by omega), if_neg (by simpa using this)]
theorem look_lost {k nm : Int} : ∀ {l : List (Int × Int)} {last : Int}, attrsFrom k last l = true → (lookL l nm).2 = true → lookL (lostL l nm) nm = (0, false)
  | [], _, _, h => by simp [lookL_nil] at h
  | a :: l, last, hl, h => by
    rw [attrsFrom, Bool.and_eq_true] at hl
    rw [lookL_cons] at h
    rw [lostL_cons]
    by_cases hn : nm ≤ a.1
    · rw [if_pos hn] at h ⊢
      exact look_gone hn hl.2
    · rw [if_neg hn] at h ⊢
      rw [lookL_cons, if_neg hn]
      exact look_lost hl.2 h
theorem attrsFrom_lost {k nm : Int} : ∀ {l : List (Int × Int)} {last : Int}, attrsFrom k last l = true → attrsFrom k last (lostL l nm) = true
  | [], _, _ => rfl
  | a :: l, last, hl => by
    have hl' := hl
    rw [attrsFrom, Bool.and_eq_true, Bool.not_eq_true', Bool.or_eq_false_iff, decide_eq_false_iff_not] at hl
    rw [lostL_cons]
    split
    · exact attrsFrom_weaken (by omega) hl.2
    · rw [attrsFrom, Bool.and_eq_true, Bool.not_eq_true', Bool.or_eq_false_iff, decide_eq_false_iff_not]
      exact ⟨hl.1, attrsFrom_lost hl.2⟩

/-! Whether a tree may be: attributes count for themselves alone. -/
structure AgreeT (T U : List Nd) : Prop where
  len : T.length = U.length
  kind : ∀ m, (nd U m).kind = (nd T m).kind
  tag : ∀ m, (nd U m).tag = (nd T m).tag
  parent : ∀ m, (nd U m).parent = (nd T m).parent
  kids : ∀ m, (nd U m).kids = (nd T m).kids
  host : ∀ m, (nd U m).host = (nd T m).host
  root : ∀ m, (nd U m).root = (nd T m).root

theorem agree_withAttrs (T : List Nd) (n : Nat) (l : List (Int × Int)) (hn : n < T.length) : AgreeT T (withAttrs T n l) := by
  refine ⟨(withAttrs_length T n l).symm, ?_, ?_, ?_, ?_, ?_, ?_⟩
  all_goals
    intro m
    rw [nd_withAttrs T n l hn]
    by_cases e : m = n
    · subst e; rw [if_pos rfl]
    · rw [if_neg e]

theorem AgreeT.kidsRun {T U : List Nd} (h : AgreeT T U) (p : Nat) : ∀ l P, kidsRun U p l P = kidsRun T p l P
  | [], P => rfl
  | k :: l, P => by
    have e : kidBad U p P k = kidBad T p P k := by rw [kidBad, kidBad, ← h.len, h.kind, h.parent]
    rw [Ytbfomnkapnlgeaa.kidsRun, Ytbfomnkapnlgeaa.kidsRun, e, h.kidsRun p l]
theorem AgreeT.nodesFrom {T U : List Nd} (h : AgreeT T U) : ∀ m n P, nodesFrom U m n P = nodesFrom T m n P
  | 0, _, _ => rfl
  | m + 1, n, P => by
    have e : nodeRun U n P = nodeRun T n P := by rw [nodeRun, nodeRun, h.kind, h.kids, h.kidsRun]
    rw [Ytbfomnkapnlgeaa.nodesFrom, Ytbfomnkapnlgeaa.nodesFrom, e]
    cases nodeRun T n P with
    | none => rfl
    | some Q => exact h.nodesFrom m (n + 1) Q
theorem AgreeT.kidsFit {T U : List Nd} (h : AgreeT T U) : kidsFitB U = kidsFitB T := by
  have e : looseB U = looseB T := by funext P n; rw [looseB, looseB, h.parent]
  rw [kidsFitB, kidsFitB, ← h.len, h.nodesFrom, e]
theorem AgreeT.over {T U : List Nd} (h : AgreeT T U) (m : Nat) : overI (nd U m) = overI (nd T m) := by rw [overI, overI, h.kind, h.host, h.parent]
theorem AgreeT.ups {T U : List Nd} (h : AgreeT T U) : ∀ m n, ups U m n = ups T m n
  | 0, _ => rfl
  | m + 1, n => by rw [Ytbfomnkapnlgeaa.ups, Ytbfomnkapnlgeaa.ups, h.over, h.ups]
theorem AgreeT.hasLoop {T U : List Nd} (h : AgreeT T U) : hasLoopB U = hasLoopB T := by
  have e : isAncB U = isAncB T := by funext a n; rw [isAncB, isAncB, ← h.len, h.ups]
  rw [hasLoopB, hasLoopB, ← h.len, e]
theorem AgreeT.may {T U : List Nd} (h : AgreeT T U) (ha : ∀ m, m < T.length → attrsFrom (nd U m).kind (-1) (nd U m).attrs = true) (hm : mayB T = true) : mayB U = true := by
  rw [mayB] at hm ⊢
  simp only [Bool.and_eq_true] at hm
  obtain ⟨h1, h64, hn, hk, hl⟩ := hm
  rw [← h.len, h1, h64, h.kidsFit, hk, h.hasLoop, hl]
  simp only [Bool.true_and, Bool.and_true]
  refine allB_true.mpr fun m hlt => ?_
  have hb := allB_true.mp hn m hlt
  simp only [nodeBad, Bool.not_eq_true', Bool.or_eq_false_iff, Bool.not_eq_false'] at hb ⊢
  obtain ⟨⟨⟨hkf, hhf⟩, hrf⟩, haf⟩ := hb
  refine ⟨⟨⟨?_, ?_⟩, ?_⟩, ha m hlt⟩
  · rw [kindFitsB] at hkf ⊢; rw [h.kind, h.tag]; exact hkf
  · rw [hostFitsB] at hhf ⊢; rw [← h.len, h.kind, h.host, h.kind, h.root]; exact hhf
  · rw [rootFitsB] at hrf ⊢; rw [← h.len, h.kind, h.root, h.kind, h.host]; exact hrf

theorem may_attrs {T : List Nd} (hm : mayB T = true) {m : Nat} (hlt : m < T.length) : attrsFrom (nd T m).kind (-1) (nd T m).attrs = true := by
  rw [mayB] at hm
  simp only [Bool.and_eq_true] at hm
  obtain ⟨_, _, hn, _, _⟩ := hm
  have hb := allB_true.mp hn m hlt
  simp only [nodeBad, Bool.not_eq_true', Bool.or_eq_false_iff, Bool.not_eq_false'] at hb
  exact hb.2

theorem may_withAttrs {T : List Nd} (hm : mayB T = true) {n : Nat} (hn : n < T.length) {l : List (Int × Int)} (hl : attrsFrom (nd T n).kind (-1) l = true) : mayB (withAttrs T n l) = true := by
  refine (agree_withAttrs T n l hn).may (fun m hlt => ?_) hm
  rw [nd_withAttrs T n l hn]
  by_cases e : m = n
  · subst e; rw [if_pos rfl]; exact hl
  · rw [if_neg e]; exact may_attrs hm hlt

theorem getL_ok {T : List Nd} {n : Nat} (hm : mayB T = true) (hn : n < T.length) (nm : Int) : getL T n nm = lookL (nd T n).attrs nm := by
  have hi : isNodeB T.length (n : Int) = true := by simp [isNodeB]; omega
  rw [getL, faultE, hm, hi, lookL, Int.toNat_natCast]
  rfl

/-- All that AttrBack asks of the answers, where one was set. -/
theorem back_math {T : List Nd} {n nm vl : Int} (h : setE T n (nm, vl) = 0) : ∃ (U W : List Nd),
    setR T n (nm, vl) = U ∧ dropR U n nm = W ∧ dropE U n nm = 0 ∧ getL U n nm = (vl, true) ∧ (∀ x, x ≠ nm → getL U n x = getL T n x) ∧ mayB U = true ∧ mayB W = true ∧ (getL W n nm).2 = false ∧ U.length = T.length ∧
    mayB T = true ∧ ∃ k : Nat, n = k ∧ k < T.length ∧ U = withAttrs T k (putL (nd T k).attrs (nm, vl)) ∧ W = withAttrs U k (lostL (putL (nd T k).attrs (nm, vl)) nm) := by
  have h0 := h
  rw [setE] at h
  have hT : mayB T = true := by
    cases hm : mayB T
    · simp [faultE, hm] at h
    · rfl
  have hi : isNodeB T.length n = true := by
    cases hi : isNodeB T.length n
    · simp [faultE, hT, hi] at h
    · rfl
  obtain ⟨k, rfl, hk⟩ := isNodeB_true hi
  have hU : mayB (withAttrs T k (putL (nd T k).attrs (nm, vl))) = true := by
    cases hm : mayB (withAttrs T k (putL (nd T k).attrs (nm, vl)))
    · rw [faultE, hT, hi, Int.toNat_natCast, hm] at h
      simp only [if_true] at h
      split at h
      · rename_i h9; exact absurd h9 (by decide)
      · split at h
        · cases h
        · cases h
    · rfl
  have hR : setR T (k : Int) (nm, vl) = withAttrs T k (putL (nd T k).attrs (nm, vl)) := by rw [setR, h0, Int.toNat_natCast]; rfl
  have hUk : k < (withAttrs T k (putL (nd T k).attrs (nm, vl))).length := by rw [withAttrs_length]; exact hk
  have hUi : isNodeB (withAttrs T k (putL (nd T k).attrs (nm, vl))).length (k : Int) = true := by rw [withAttrs_length]; exact hi
  have hUa : (nd (withAttrs T k (putL (nd T k).attrs (nm, vl))) k).attrs = putL (nd T k).attrs (nm, vl) := by rw [nd_withAttrs _ _ _ hk, if_pos rfl]
  have hUkind : (nd (withAttrs T k (putL (nd T k).attrs (nm, vl))) k).kind = (nd T k).kind := by rw [nd_withAttrs _ _ _ hk, if_pos rfl]
  have hUs := may_attrs hU hUk
  rw [hUa] at hUs
  have hlk := look_put (nm, vl) (nd T k).attrs
  have hfound : (searchL nm (putL (nd T k).attrs (nm, vl))).2 = true := by
    cases hf : (searchL nm (putL (nd T k).attrs (nm, vl))).2
    · rw [lookL, hf] at hlk; simp at hlk
    · rfl
  generalize hUe : withAttrs T k (putL (nd T k).attrs (nm, vl)) = U at *
  have hdE : dropE U (k : Int) nm = 0 := by
    rw [dropE, faultE, hU, hUi, Int.toNat_natCast, hUa, hfound]; rfl
  have hdR : dropR U (k : Int) nm = withAttrs U k (lostL (putL (nd T k).attrs (nm, vl)) nm) := by
    rw [dropR, hdE, Int.toNat_natCast, hUa]; rfl
  have hW : mayB (withAttrs U k (lostL (putL (nd T k).attrs (nm, vl)) nm)) = true := may_withAttrs hU hUk (attrsFrom_lost hUs)
  refine ⟨U, _, hR, hdR, hdE, ?_, fun x hx => ?_, hU, hW, ?_, by rw [← hUe, withAttrs_length], hT, k, rfl, hk, hUe.symm, rfl⟩
  · rw [getL_ok hU hUk, hUa]; exact hlk
  · rw [getL_ok hU hUk, hUa, getL_ok hT hk]; exact look_put_ne (nm, vl) hx _
  · rw [getL_ok hW (by rw [withAttrs_length]; exact hUk), nd_withAttrs _ _ _ hUk, if_pos rfl]
    rw [look_lost hUs (by rw [hlk])]

/-- .. and where none was. -/
theorem back_fault {T : List Nd} {n : Int} {a : Int × Int} (h : setE T n a ≠ 0) : decide (setR T n a = T) = ((setE T n a != 1) || decide ((T.length : Int) = 0)) := by
  rw [setR]
  by_cases h1 : setE T n a = 1
  · rw [h1]
    simp only [BEq.rfl, if_true, bne_self_eq_false, Bool.false_or]
    refine decide_eq_decide.mpr ⟨fun h => by rw [← h]; rfl, fun h => ?_⟩
    exact (List.length_eq_zero_iff.mp (by omega)).symm
  · have e1 : (setE T n a == 1) = false := by simpa using h1
    have e0 : (setE T n a == 0) = false := by simpa using h
    rw [e1, e0]
    have e2 : (setE T n a != 1) = true := by rw [bne, e1]; rfl
    rw [e2]
    simp
end Go.Proofs.Ytbfomnkapnlgeaa
