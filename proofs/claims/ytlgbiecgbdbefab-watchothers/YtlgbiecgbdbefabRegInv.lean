/- A region that draws its order, walked by an invariant: whatever has come up, each operation that may come up keeps it. -/
import Derived.Test.YtlgbiecgbdbefabW0
import Derived.Deep.RegionHeld3
namespace Go.Proofs.Ytlgbiecgbdbefab
open Go.RowKit

section
variable {P : Program} {ops : Array Oper} {Q : Exit → Act → World → Prop} {md : Region.Mode}

def unlisted (l : Array Bool) : Nat := (List.range l.size).countP fun i => !l.getD i true
theorem unlisted_set {l : Array Bool} {i : Nat} (hi : i < l.size) (h : l.getD i true = false) : unlisted (l.setIfInBounds i true) + 1 = unlisted l := by
  have key : ∀ n, i < n → n ≤ l.size → ((List.range n).countP fun j => !(l.setIfInBounds i true).getD j true) + 1 = (List.range n).countP fun j => !l.getD j true := by
    intro n
    induction n with
    | zero => intro h; omega
    | succ n ih =>
      intro h1 h2
      rw [List.range_succ, List.countP_append, List.countP_append]
      by_cases q : i = n
      · subst q
        have e1 : ((List.range i).countP fun j => !(l.setIfInBounds i true).getD j true) = (List.range i).countP fun j => !l.getD j true := by
          apply List.countP_congr
          intro j hj
          have hj' := List.mem_range.mp hj
          have : (l.setIfInBounds i true).getD j true = l.getD j true := by
            simp only [Array.getD_eq_getD_getElem?]
            rw [Array.getElem?_setIfInBounds_ne (by omega)]
          rw [this]
        have e2 : (l.setIfInBounds i true).getD i true = true := by
          simp only [Array.getD_eq_getD_getElem?]
          rw [Array.getElem?_setIfInBounds_self_of_lt hi]; rfl
        rw [e1]
        have h' : l[i]?.getD true = false := by rw [← Array.getD_eq_getD_getElem?]; exact h
        simp [h']
      · have := ih (by omega) (by omega)
        have e3 : (l.setIfInBounds i true).getD n true = l.getD n true := by
          simp only [Array.getD_eq_getD_getElem?]
          rw [Array.getElem?_setIfInBounds_ne q]
        simp only [List.countP_cons, List.countP_nil, e3]
        omega
  have hs : (l.setIfInBounds i true).size = l.size := by simp
  unfold unlisted
  rw [hs]
  exact key l.size hi (Nat.le_refl _)
theorem unlisted_zero {l : Array Bool} (h : unlisted l = 0) {i : Nat} (hi : i < l.size) : l.getD i true = true := by
  unfold unlisted at h
  rw [List.countP_eq_zero] at h
  have := h i (List.mem_range.mpr hi)
  simpa using this

/-- Each operation waits only for such as stand ahead of it. -/
def aheadB (md : Region.Mode) (ops : Array Oper) : Bool := (List.range ops.size).all fun i => ((ops[i]?).map (·.after.all fun e => !Region.binds md e || decide (e.on < i))).getD true
theorem all_listed (hA : aheadB md ops = true) {l : Array Bool} (hl : l.size = ops.size) (hr : Region.ready md ops l = []) : ∀ i, i < ops.size → l.getD i true = true := by
  intro i
  induction i using Nat.strongRecOn with
  | _ i ih =>
    intro hi
    cases hli : l.getD i true with
    | true => rfl
    | false =>
      exfalso
      have hmem : i ∈ Region.ready md ops l := by
        rw [mem_ready]
        refine ⟨hli, ops[i], by rw [Array.getElem?_eq_getElem hi], fun e he hb => ?_⟩
        have h1 := (List.all_eq_true.mp hA) i (List.mem_range.mpr hi)
        rw [Array.getElem?_eq_getElem hi] at h1
        simp only [Option.map_some, Option.getD_some] at h1
        have h2 := (Array.all_eq_true_iff_forall_mem.mp h1) e he
        rw [hb] at h2
        simp at h2
        have h3 := ih e.on h2 (by omega)
        rw [Array.getD_eq_getD_getElem?] at h3 ⊢
        rw [Array.getElem?_eq_getElem (by omega)] at h3 ⊢
        exact h3
      rw [hr] at hmem
      cases hmem

theorem wpAny_inv (Inv : Array Bool → Act → World → Prop) (hA : aheadB md ops = true)
    (hstep : ∀ i l a w, i ∈ Region.ready md ops l → Inv l a w → wpOp P ops Q i (fun a' w' => Inv (l.setIfInBounds i true) a' w') a w)
    (hend : ∀ l a w, (∀ i, i < ops.size → l.getD i true = true) → Inv l a w → Q .normal a w) :
    ∀ fuel (l : Array Bool) a w, l.size = ops.size → unlisted l ≤ fuel → Inv l a w → wpAny P md ops Q fuel l a w
  | 0, l, a, w, hl, hf, hI => by
    have hz : ∀ i, i < ops.size → l.getD i true = true := fun i hi => unlisted_zero (by omega) (by omega)
    refine ⟨?_, hend l a w hz hI⟩
    rw [List.eq_nil_iff_forall_not_mem]
    intro i hi
    obtain ⟨h1, o, ho, _⟩ := mem_ready.mp hi
    have hi' : i < ops.size := (Array.getElem?_eq_some_iff.mp ho).1
    rw [hz i hi'] at h1
    cases h1
  | fuel + 1, l, a, w, hl, hf, hI => by
    refine ⟨fun hr => hend l a w (all_listed hA hl hr) hI, fun i hi => ?_⟩
    refine wpOp_mono (fun a' w' hI' => wpAny_inv Inv hA hstep hend fuel _ a' w' (by simpa using hl) ?_ hI') (hstep i l a w hi hI)
    obtain ⟨h1, o, ho, _⟩ := mem_ready.mp hi
    have hi' : i < ops.size := (Array.getElem?_eq_some_iff.mp ho).1
    have := unlisted_set (by omega) h1
    omega

/-- **A region that draws its order, by an invariant.** -/
theorem wp_region_inv {id : Nat} {a : Act} {w : World} (Inv : Array Bool → Act → World → Prop) (hm : P.follows .mixedOrders = true) (hA : aheadB .any ops = true)
    (h0 : Inv (Array.replicate ops.size false) a w.drew)
    (hstep : ∀ i l a w, i ∈ Region.ready .any ops l → Inv l a w → wpOp P ops Q i (fun a' w' => Inv (l.setIfInBounds i true) a' w') a w)
    (hend : ∀ l a w, (∀ i, i < ops.size → l.getD i true = true) → Inv l a w → Q .normal a w) : (Code.region id ops true).wp P Q a w :=
  wp_region_any hm (wpAny_inv Inv hA hstep hend _ _ _ _ (by simp) (by
    unfold unlisted
    refine Nat.le_trans List.countP_le_length ?_
    simp) h0)
theorem set_getD {l : Array Bool} {i j : Nat} (hne : i ≠ j) (h : (l.setIfInBounds i true).getD j true = true) : l.getD j true = true := by
  rw [Array.getD_eq_getD_getElem?] at h ⊢
  rwa [Array.getElem?_setIfInBounds_ne hne] at h
/-- Does operation i wait for operation d? -/
def depB (md : Region.Mode) (ops : Array Oper) (i d : Nat) : Bool := ((ops[i]?).map (·.after.any fun e => Region.binds md e && e.on == d)).getD false
theorem dep_of {l : Array Bool} {i d : Nat} (h : i ∈ Region.ready md ops l) (hd : depB md ops i d = true) : l.getD d true = true := by
  obtain ⟨_, o, ho, hall⟩ := mem_ready.mp h
  rw [depB, ho] at hd
  simp only [Option.map_some, Option.getD_some] at hd
  obtain ⟨k, hk, hx⟩ := Array.any_eq_true.mp hd
  rw [Bool.and_eq_true, beq_iff_eq] at hx
  have := hall o.after[k] (Array.getElem_mem hk) hx.1
  rw [hx.2] at this
  rw [Array.getD_eq_getD_getElem?] at this ⊢
  cases hl : l[d]? with
  | none => rfl
  | some b => rw [hl] at this; exact this
theorem inv_step {Inv : Act → World → Prop} {i : Nat} {o : Oper} {a : Act} {w : World} (ho : ops[i]? = some o)
    (h : ∀ K' : Act → World → Prop, Shut (∀ a w, Inv a w → K' a w) → if Region.wanted o (yielded ops a.tmps) = true then Oper.wp P o a w K' Q else K' (a.put o.dst undef) w) : wpOp P ops Q i Inv a w :=
  wpOp_step ho h
theorem inv_skip {Inv : Act → World → Prop} {i : Nat} {o : Oper} {a : Act} {w : World} (ho : ops[i]? = some o) (hw : Region.wanted o (yielded ops a.tmps) = false) (h : Inv (a.put o.dst undef) w) : wpOp P ops Q i Inv a w := by
  unfold wpOp
  simp only [ho, hw, Bool.false_eq_true, if_false]
  exact h
end
end Go.Proofs.Ytlgbiecgbdbefab
