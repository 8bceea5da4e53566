/- Dialog, Popup and Close of package top, of any small view: which error, and which view. -/
import Derived.Test.YtclhimodopgeoaaGreatTB8
import Derived.Test.YtclhimodopgeoaaGreatTB10
import Derived.Test.YtclhimodopgeoaaGreatTB11
namespace Go.Proofs.YtclhimodopgeoaaGreat
open Go.RowKit

def dlgE (V : Vw) (n : Int) : Int := if checkV V = 0 then (if isNodeB V.tree.length n then (if dlgB V.tree n then (if containsB (openedL V) n then 9 else 0) else 3) else 2) else checkV V
def dlgW (V : Vw) (n : Int) (m : Bool) : Vw := if checkV V = 0 then (if dlgE V n = 0 then (if m then { V with modal := V.modal ++ [n], top := V.top ++ [n] } else { V with op := V.op ++ [n] }) else V) else emptyV
def popE (V : Vw) (x : Sh) : Int := if checkV V = 0 then (if isNodeB V.tree.length x.node && fitsB V.tree x then (if popB V.tree x.node then (if containsB (openedL V) x.node then 9 else 0) else 3) else 2) else checkV V
def popW (V : Vw) (x : Sh) : Vw := if checkV V = 0 then (if popE V x = 0 then { V with pops := V.pops ++ [x], top := V.top ++ [x.node] } else V) else emptyV
def closeE (V : Vw) (n : Int) : Int := if checkV V = 0 then (if isNodeB V.tree.length n then (if containsB (openedL V) n then 0 else 9) else 2) else checkV V
def closeW (V : Vw) (n : Int) : Vw := if checkV V = 0 then (if closeE V n = 0 then closeL V n else V) else emptyV
theorem dlg_any (tv ov mv pv qv : Value) (V : Vw) (w : World) (hV : ViewAt w tv ov mv pv qv V) (hS : Sane V.tree) (hl : smallL V) (htl : V.tree.length ≤ 1000) (n : Int) (m : Bool) :
    Calls Tryz.prog 29 #[.agg #[tv, ov, mv, pv, qv], .int .i64 n, .bool m] w fun x w' => ∃ t o m' p q, x = .returned (.tuple #[.agg #[t, o, m', p, q], .int .i64 (dlgE V n)]) ∧ ViewAt w' t o m' p q (dlgW V n m) ∧ Below w.heap.size w w' := by
  by_cases hck : checkV V = 0
  · cases hn : isNodeB V.tree.length n
    · have e : dlgE V n = 2 := by simp [dlgE, hck, hn]
      have v : dlgW V n m = V := by simp [dlgW, hck, e]
      rw [e, v]; exact dlgNode tv ov mv pv qv V w hV hS hl n m hck hn
    · cases hd : dlgB V.tree n
      · have e : dlgE V n = 3 := by simp [dlgE, hck, hn, hd]
        have v : dlgW V n m = V := by simp [dlgW, hck, e]
        rw [e, v]; exact dlgKind tv ov mv pv qv V w hV hS hl n m hck hn hd
      · cases ho : containsB (openedL V) n
        · have e : dlgE V n = 0 := by simp [dlgE, hck, hn, hd, ho]
          cases m
          · have v : dlgW V n false = { V with op := V.op ++ [n] } := by simp [dlgW, hck, e]
            rw [e, v]; exact dlgOpen tv ov mv pv qv V w hV hS hl n false rfl htl hck hn hd ho
          · have v : dlgW V n true = { V with modal := V.modal ++ [n], top := V.top ++ [n] } := by simp [dlgW, hck, e]
            rw [e, v]; exact dlgModal tv ov mv pv qv V w hV hS hl n true rfl htl hck hn hd ho
        · have e : dlgE V n = 9 := by simp [dlgE, hck, hn, hd, ho]
          have v : dlgW V n m = V := by simp [dlgW, hck, e]
          rw [e, v]; exact dlgState tv ov mv pv qv V w hV hS hl n m hck hn hd ho
  · have e : dlgE V n = checkV V := by simp [dlgE, hck]
    have v : dlgW V n m = emptyV := by simp [dlgW, hck]
    rw [e, v]; exact dlgBad tv ov mv pv qv V w hV hS hl n m hck
theorem pop_any (tv ov mv pv qv : Value) (V : Vw) (w : World) (hV : ViewAt w tv ov mv pv qv V) (hS : Sane V.tree) (hl : smallL V) (htl : V.tree.length ≤ 1000) (x : Sh) :
    Calls Tryz.prog 31 #[.agg #[tv, ov, mv, pv, qv], .agg #[.int .i64 x.node, .int .i64 x.inv]] w fun r w' => ∃ t o m p q, r = .returned (.tuple #[.agg #[t, o, m, p, q], .int .i64 (popE V x)]) ∧ ViewAt w' t o m p q (popW V x) ∧ Below w.heap.size w w' := by
  by_cases hck : checkV V = 0
  · cases hn : isNodeB V.tree.length x.node
    · have e : popE V x = 2 := by simp [popE, hck, hn]
      have v : popW V x = V := by simp [popW, hck, e]
      rw [e, v]; exact popNodeA tv ov mv pv qv V w hV hS hl x hck hn
    · cases hf : fitsB V.tree x
      · have e : popE V x = 2 := by simp [popE, hck, hn, hf]
        have v : popW V x = V := by simp [popW, hck, e]
        rw [e, v]; exact popNodeB tv ov mv pv qv V w hV hS hl x hck hn hf
      · cases hd : popB V.tree x.node
        · have e : popE V x = 3 := by simp [popE, hck, hn, hd, hf]
          have v : popW V x = V := by simp [popW, hck, e]
          rw [e, v]; exact popKind tv ov mv pv qv V w hV hS hl x hck hn hf hd
        · cases ho : containsB (openedL V) x.node
          · have e : popE V x = 0 := by simp [popE, hck, hn, hd, ho, hf]
            have v : popW V x = { V with pops := V.pops ++ [x], top := V.top ++ [x.node] } := by simp [popW, hck, e]
            rw [e, v]; exact popOpen tv ov mv pv qv V w hV hS hl x htl hck hn hf hd ho
          · have e : popE V x = 9 := by simp [popE, hck, hn, hd, ho, hf]
            have v : popW V x = V := by simp [popW, hck, e]
            rw [e, v]; exact popState tv ov mv pv qv V w hV hS hl x hck hn hf hd ho
  · have e : popE V x = checkV V := by simp [popE, hck]
    have v : popW V x = emptyV := by simp [popW, hck]
    rw [e, v]; exact popBad tv ov mv pv qv V w hV hS hl x hck
theorem close_any (tv ov mv pv qv : Value) (V : Vw) (w : World) (hV : ViewAt w tv ov mv pv qv V) (hS : Sane V.tree) (hl : smallL V) (htl : V.tree.length ≤ 1000) (n : Int) :
    Calls Tryz.prog 33 #[.agg #[tv, ov, mv, pv, qv], .int .i64 n] w fun x w' => ∃ t o m p q, x = .returned (.tuple #[.agg #[t, o, m, p, q], .int .i64 (closeE V n)]) ∧ ViewAt w' t o m p q (closeW V n) ∧ Below w.heap.size w w' := by
  by_cases hck : checkV V = 0
  · cases hn : isNodeB V.tree.length n
    · have e : closeE V n = 2 := by simp [closeE, hck, hn]
      have v : closeW V n = V := by simp [closeW, hck, e]
      rw [e, v]; exact closeNode tv ov mv pv qv V w hV hS hl n hck hn
    · cases ho : containsB (openedL V) n
      · have e : closeE V n = 9 := by simp [closeE, hck, hn, ho]
        have v : closeW V n = V := by simp [closeW, hck, e]
        rw [e, v]; exact closeState tv ov mv pv qv V w hV hS hl n hck hn ho
      · have e : closeE V n = 0 := by simp [closeE, hck, hn, ho]
        have v : closeW V n = closeL V n := by simp [closeW, hck, e]
        rw [e, v]; exact closeOk tv ov mv pv qv V w hV hS hl n htl hck hn ho
  · have e : closeE V n = checkV V := by simp [closeE, hck]
    have v : closeW V n = emptyV := by simp [closeW, hck]
    rw [e, v]; exact closeBad tv ov mv pv qv V w hV hS hl n hck
theorem dlgE_zero {V : Vw} {n : Int} (hck : checkV V = 0) (h : dlgE V n = 0) : dlgB V.tree n = true ∧ n ∉ openedL V := by
  simp only [dlgE, if_pos hck] at h
  by_cases hn : isNodeB V.tree.length n = true
  · by_cases hd : dlgB V.tree n = true
    · by_cases ho : containsB (openedL V) n = true
      · rw [if_pos hn, if_pos hd, if_pos ho] at h; cases h
      · exact ⟨hd, contains_no.mp (by simpa using ho)⟩
    · rw [if_pos hn, if_neg hd] at h; cases h
  · rw [if_neg hn] at h; cases h
theorem popE_zero {V : Vw} {x : Sh} (hck : checkV V = 0) (h : popE V x = 0) : popB V.tree x.node = true ∧ fitsB V.tree x = true ∧ x.node ∉ openedL V := by
  simp only [popE, if_pos hck] at h
  by_cases hn : (isNodeB V.tree.length x.node && fitsB V.tree x) = true
  · by_cases hd : popB V.tree x.node = true
    · by_cases ho : containsB (openedL V) x.node = true
      · rw [if_pos hn, if_pos hd, if_pos ho] at h; cases h
      · exact ⟨hd, (Bool.and_eq_true_iff.mp hn).2, contains_no.mp (by simpa using ho)⟩
    · rw [if_pos hn, if_neg hd] at h; cases h
  · rw [if_neg hn] at h; cases h
theorem dlg_may {V : Vw} {n : Int} {m : Bool} (hck : checkV V = 0) (h : dlgE V n = 0) : checkV (dlgW V n m) = 0 ∧ closeE (dlgW V n m) n = 0 ∧ closeW (dlgW V n m) n = V := by
  obtain ⟨hd, ho⟩ := dlgE_zero hck h
  obtain ⟨hm, hM⟩ := check_iff.mp hck
  have ht : n ∉ V.top := fun hx => ho (top_opened hM hx)
  have hnode : isNodeB V.tree.length n = true := by
    unfold dlgB at hd
    simp only [Bool.and_eq_true] at hd
    exact hd.1
  cases m
  · have e : dlgW V n false = { V with op := V.op ++ [n] } := by simp [dlgW, hck, h]
    have hc : checkV (dlgW V n false) = 0 := by rw [e]; exact check_iff.mpr ⟨hm, may_open hM hd ho⟩
    have hce : closeE (dlgW V n false) n = 0 := by
      have : containsB (openedL (dlgW V n false)) n = true := by rw [contains_yes, mem_opened, e]; exact .inl (by simp)
      have h2 : isNodeB (dlgW V n false).tree.length n = true := by rw [e]; exact hnode
      simp [closeE, hc, this, h2]
    refine ⟨hc, hce, ?_⟩
    rw [closeW, if_pos hc, if_pos hce, e]
    exact close_open ho ht
  · have e : dlgW V n true = { V with modal := V.modal ++ [n], top := V.top ++ [n] } := by simp [dlgW, hck, h]
    have hc : checkV (dlgW V n true) = 0 := by rw [e]; exact check_iff.mpr ⟨hm, may_modal hM hd ho⟩
    have hce : closeE (dlgW V n true) n = 0 := by
      have : containsB (openedL (dlgW V n true)) n = true := by rw [contains_yes, mem_opened, e]; exact .inr (.inl (by simp))
      have h2 : isNodeB (dlgW V n true).tree.length n = true := by rw [e]; exact hnode
      simp [closeE, hc, this, h2]
    refine ⟨hc, hce, ?_⟩
    rw [closeW, if_pos hc, if_pos hce, e]
    exact close_modal ho ht
theorem dlg_tree {V : Vw} {n : Int} {m : Bool} (hck : checkV V = 0) : (dlgW V n m).tree = V.tree := by
  unfold dlgW
  rw [if_pos hck]
  split
  · cases m <;> rfl
  · rfl
theorem pop_tree {V : Vw} {x : Sh} (hck : checkV V = 0) : (popW V x).tree = V.tree := by
  unfold popW
  rw [if_pos hck]
  split <;> rfl
theorem close_tree {V : Vw} {n : Int} (hck : checkV V = 0) : (closeW V n).tree = V.tree := by
  unfold closeW
  rw [if_pos hck]
  split <;> rfl
theorem pop_may {V : Vw} {x : Sh} (hck : checkV V = 0) (h : popE V x = 0) : popW V x = { V with pops := V.pops ++ [x], top := V.top ++ [x.node] } ∧ checkV (popW V x) = 0 ∧ closeE (popW V x) x.node = 0 ∧ closeW (popW V x) x.node = V ∧ highV (popW V x) = highV V := by
  obtain ⟨hd, hf, ho⟩ := popE_zero hck h
  obtain ⟨hm, hM⟩ := check_iff.mp hck
  have ht : x.node ∉ V.top := fun hx => ho (top_opened hM hx)
  have hnode : isNodeB V.tree.length x.node = true := by
    unfold popB at hd
    simp only [Bool.and_eq_true] at hd
    exact hd.1
  have e : popW V x = { V with pops := V.pops ++ [x], top := V.top ++ [x.node] } := by simp [popW, hck, h]
  have hc : checkV (popW V x) = 0 := by rw [e]; exact check_iff.mpr ⟨hm, may_popup hM hf hd ho⟩
  have hce : closeE (popW V x) x.node = 0 := by
    have : containsB (openedL (popW V x)) x.node = true := by rw [contains_yes, mem_opened, e]; exact .inr (.inr (by simp [nodesL']))
    have h2 : isNodeB (popW V x).tree.length x.node = true := by rw [e]; exact hnode
    simp [closeE, hc, this, h2]
  refine ⟨e, hc, hce, ?_, ?_⟩
  · rw [closeW, if_pos hc, if_pos hce, e]
    exact close_popup ho ht
  · rw [e]
    exact high_popup V x (fun hx => ho (mem_opened.mpr (.inr (.inl hx))))
theorem close_may {V : Vw} {n : Int} (hck : checkV V = 0) (h : closeE V n = 0) : closeW V n = closeL V n ∧ checkV (closeW V n) = 0 ∧ containsB (openedL (closeW V n)) n = false ∧ containsB (closeW V n).top n = false := by
  obtain ⟨hm, hM⟩ := check_iff.mp hck
  have e : closeW V n = closeL V n := by simp [closeW, hck, h]
  refine ⟨e, ?_, ?_, ?_⟩
  · rw [e]; exact check_iff.mpr ⟨hm, may_close hM⟩
  · rw [e]; exact contains_no.mpr close_gone
  · rw [e]; exact contains_no.mpr close_gone_top
end Go.Proofs.YtclhimodopgeoaaGreat

