/- Dialog and Popup of package top: a view that opens is of its own. -/
import Derived.Test.YtclhimodopgeoaaGreatXTopAny
import Derived.Test.YtclhimodopgeoaaGreatXTopPop2O
import Derived.Test.YtclhimodopgeoaaGreatXTopBoxO
namespace Go.Proofs.YtclhimodopgeoaaGreat
open Go.RowKit

theorem OwnV.stays {w W : World} {base : Nat} {f : Nat → Nat × Nat} {tv ov mv pv qv : Value} {V : Vw} (h : OwnV w base f tv ov mv pv qv V) (hW : ∀ j, base ≤ j → j < w.heap.size → W.heap[j]? = w.heap[j]?) : ViewAt W tv ov mv pv qv V := by
  have hk : ∀ i, i < 5 → ∀ j, (f i).1 ≤ j → j < (f i).2 → W.heap[j]? = w.heap[j]? := fun i hi j h1 h2 => by
    have := h.parts.le i hi
    exact hW j (by omega) (by omega)
  exact ⟨(h.tree.keep (hk 0 (by omega))).at, rowInts (h.op.keep (hk 1 (by omega))), rowInts (h.modal.keep (hk 2 (by omega))), rowShs (h.pops.keep (hk 3 (by omega))), rowInts (h.top.keep (hk 4 (by omega)))⟩
/-- The view lies in what was laid since. -/
def Fresh (w w' : World) (t o m p q : Value) (V : Vw) : Prop := ∀ W : World, (∀ j, w.heap.size ≤ j → j < w'.heap.size → W.heap[j]? = w'.heap[j]?) → ViewAt W t o m p q V
theorem dlg_anyO (tv ov mv pv qv : Value) (V : Vw) (w : World) (hV : ViewAt w tv ov mv pv qv V) (hS : Sane V.tree) (hl : smallL V) (htl : V.tree.length ≤ 1000) (hck : checkV V = 0) (n : Int) (m : Bool) :
    Calls Tryz.prog 29 #[.agg #[tv, ov, mv, pv, qv], .int .i64 n, .bool m] w fun x w' => ∃ t o m' p q, x = .returned (.tuple #[.agg #[t, o, m', p, q], .int .i64 (dlgE V n)]) ∧ ViewAt w' t o m' p q (dlgW V n m) ∧ Below w.heap.size w w' ∧ (dlgE V n = 0 → Fresh w w' t o m' p q (dlgW V n m)) := by
  by_cases he : dlgE V n = 0
  · obtain ⟨hd, ho⟩ := dlgE_zero hck he
    have hn : isNodeB V.tree.length n = true := by
      unfold dlgB at hd
      simp only [Bool.and_eq_true] at hd
      exact hd.1
    rw [he]
    cases m
    · have v : dlgW V n false = { V with op := V.op ++ [n] } := by simp [dlgW, hck, he]
      rw [v]
      refine (dlgOpenO tv ov mv pv qv V w hV hS hl n false rfl htl hck hn hd (contains_no.mpr ho)).mono ?_
      rintro x w' ⟨f, t, o, m, p, q, rfl, hv, hb⟩
      exact ⟨t, o, m, p, q, rfl, hv.at, hb, fun _ W hW => hv.stays hW⟩
    · have v : dlgW V n true = { V with modal := V.modal ++ [n], top := V.top ++ [n] } := by simp [dlgW, hck, he]
      rw [v]
      refine (dlgModalO tv ov mv pv qv V w hV hS hl n true rfl htl hck hn hd (contains_no.mpr ho)).mono ?_
      rintro x w' ⟨f, t, o, m, p, q, rfl, hv, hb⟩
      exact ⟨t, o, m, p, q, rfl, hv.at, hb, fun _ W hW => hv.stays hW⟩
  · refine (dlg_any tv ov mv pv qv V w hV hS hl htl n m).mono ?_
    rintro x w' ⟨t, o, m', p, q, rfl, hv, hb⟩
    exact ⟨t, o, m', p, q, rfl, hv, hb, fun h => absurd h he⟩
theorem pop_anyO (tv ov mv pv qv : Value) (V : Vw) (w : World) (hV : ViewAt w tv ov mv pv qv V) (hS : Sane V.tree) (hl : smallL V) (htl : V.tree.length ≤ 1000) (hck : checkV V = 0) (x : Sh) :
    Calls Tryz.prog 31 #[.agg #[tv, ov, mv, pv, qv], .agg #[.int .i64 x.node, .int .i64 x.inv]] w fun r w' => ∃ t o m' p q, r = .returned (.tuple #[.agg #[t, o, m', p, q], .int .i64 (popE V x)]) ∧ ViewAt w' t o m' p q (popW V x) ∧ Below w.heap.size w w' ∧ (popE V x = 0 → Fresh w w' t o m' p q (popW V x)) := by
  by_cases he : popE V x = 0
  · obtain ⟨hd, hf, ho⟩ := popE_zero hck he
    have hn : isNodeB V.tree.length x.node = true := by
      unfold popB at hd
      simp only [Bool.and_eq_true] at hd
      exact hd.1
    rw [he, (pop_may hck he).1]
    refine (popOpenO tv ov mv pv qv V w hV hS hl x htl hck hn hf hd (contains_no.mpr ho)).mono ?_
    rintro r w' ⟨f, t, o, m, p, q, rfl, hv, hb⟩
    exact ⟨t, o, m, p, q, rfl, hv.at, hb, fun _ W hW => hv.stays hW⟩
  · refine (pop_any tv ov mv pv qv V w hV hS hl htl x).mono ?_
    rintro r w' ⟨t, o, m', p, q, rfl, hv, hb⟩
    exact ⟨t, o, m', p, q, rfl, hv, hb, fun h => absurd h he⟩
theorem shapedO {f : Nat} {args : Array Value} {w : World} {er : Int} {V : Vw} {Z : Prop} (h : Calls Tryz.prog f args w fun x w' => ∃ t o m p q, x = .returned (.tuple #[.agg #[t, o, m, p, q], .int .i64 er]) ∧ ViewAt w' t o m p q V ∧ Below w.heap.size w w' ∧ (Z → Fresh w w' t o m p q V))
    (n0 n1 n2 n3 n4 : Nat) (h0 : V.tree.length = n0) (h1 : V.op.length = n1) (h2 : V.modal.length = n2) (h3 : V.pops.length = n3) (h4 : V.top.length = n4) :
    Calls Tryz.prog f args w fun x w' => ∃ a0 c0 a1 c1 a2 c2 a3 c3 a4 c4, x = .returned (.tuple #[.agg #[.slice a0 n0 c0, .slice a1 n1 c1, .slice a2 n2 c2, .slice a3 n3 c3, .slice a4 n4 c4], .int .i64 er]) ∧ (Z → Fresh w w' (.slice a0 n0 c0) (.slice a1 n1 c1) (.slice a2 n2 c2) (.slice a3 n3 c3) (.slice a4 n4 c4) V) ∧ Below w.heap.size w w' := by
  refine h.mono ?_
  rintro x w' ⟨t, o, m, p, q, rfl, hv, hb, hz⟩
  obtain ⟨a0, c0, rfl⟩ := hv.tree.shape
  obtain ⟨a1, c1, rfl⟩ := hv.op.shape
  obtain ⟨a2, c2, rfl⟩ := hv.modal.shape
  obtain ⟨a3, c3, rfl⟩ := hv.pops.shape
  obtain ⟨a4, c4, rfl⟩ := hv.top.shape
  subst h0 h1 h2 h3 h4
  exact ⟨_, _, _, _, _, _, _, _, _, _, rfl, hz, hb⟩
section
variable {U W : World}
theorem cell_on (hk : ∀ j, j < U.heap.size → W.heap[j]? = U.heap[j]?) {g off : Nat} {u : Value} (hc : U.cell? ⟨g, off, none⟩ = some u) : W.cell? ⟨g, off, none⟩ = some u :=
  (World.cell?_of_block (a := ⟨g, off, none⟩) (hk g (below_of_cell hc))).trans hc
theorem IntsAt.on (hk : ∀ j, j < U.heap.size → W.heap[j]? = U.heap[j]?) {v : Value} {l : List Int} (hl : IntsAt U v l) : IntsAt W v l := by
  obtain ⟨a, cap, rfl, hc⟩ := hl
  refine ⟨a, cap, rfl, fun h0 => ?_⟩
  obtain ⟨g, off, rfl, hd⟩ := hc h0
  exact ⟨g, off, rfl, fun j hj => cell_on hk (hd j hj)⟩
theorem AttrsAt.on (hk : ∀ j, j < U.heap.size → W.heap[j]? = U.heap[j]?) {v : Value} {l : List (Int × Int)} (hl : AttrsAt U v l) : AttrsAt W v l := by
  obtain ⟨a, cap, rfl, hc⟩ := hl
  refine ⟨a, cap, rfl, fun h0 => ?_⟩
  obtain ⟨g, off, rfl, hd⟩ := hc h0
  exact ⟨g, off, rfl, fun j hj => ⟨cell_on hk (hd j hj).1, cell_on hk (hd j hj).2⟩⟩
theorem TreeAt.on (hk : ∀ j, j < U.heap.size → W.heap[j]? = U.heap[j]?) {v : Value} {T : List Nd} (hT : TreeAt U v T) : TreeAt W v T := by
  obtain ⟨a, cap, rfl, hc⟩ := hT
  refine ⟨a, cap, rfl, fun h0 => ?_⟩
  obtain ⟨g, off, rfl, hd⟩ := hc h0
  refine ⟨g, off, rfl, fun j hj => ?_⟩
  obtain ⟨kv, av, h0, h1, h2, h3, h4, h5, h6, hi, ha⟩ := hd j hj
  exact ⟨kv, av, cell_on hk h0, cell_on hk h1, cell_on hk h2, cell_on hk h3, cell_on hk h4, cell_on hk h5, cell_on hk h6, hi.on hk, ha.on hk⟩
end
theorem row_ne {U : World} {base b : Nat} {t o m p q v : Value} {n : Nat} {xs : List Value} (hr : U.ownsRow base 3 1 v n xs) (h : BoxO U b t o m p q) : v.ownBlock ≠ some b := by
  rcases hr.2 with ⟨rfl, _⟩ | ⟨g, cap, cur, rfl, hb, hgg, rest⟩
  · intro e; simp [Value.ownBlock] at e
  · intro e
    simp only [Value.ownBlock, Option.some.injEq] at e
    subst e
    unfold BoxO at h
    rw [h] at hgg
    cases hgg
end Go.Proofs.YtclhimodopgeoaaGreat

