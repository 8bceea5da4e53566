/- Part 9 of what the laws of layer 10 lean on. -/
import Derived.Laws.EntriesVeiled
import Derived.Test.YtclhimodopgeoaaGreatTE3
import Derived.Test.YtclhimodopgeoaaGreatTE6
import Derived.Test.YtclhimodopgeoaaGreatTE8
namespace Go.Proofs.YtclhimodopgeoaaGreat
open Go.RowKit
structure PopS (W0 : World) (B X : Nat) (tv ov mv pv qv : Value) (x : Sh) (U : World) : Prop where
  bel : Below W0.heap.size W0 U
  c0 : U.cell? ⟨B, 0, none⟩ = some tv
  c1 : U.cell? ⟨B, 1, none⟩ = some ov
  c2 : U.cell? ⟨B, 2, none⟩ = some mv
  c3 : U.cell? ⟨B, 3, none⟩ = some pv
  c4 : U.cell? ⟨B, 4, none⟩ = some qv
  x0 : U.cell? ⟨X, 0, none⟩ = some (.int .i64 x.node)
  x1 : U.cell? ⟨X, 1, none⟩ = some (.int .i64 x.inv)
theorem PopS.below {W0 U U' : World} {B X : Nat} {tv ov mv pv qv : Value} {x : Sh} (h : PopS W0 B X tv ov mv pv qv x U) (hb : Below U.heap.size U U') : PopS W0 B X tv ov mv pv qv x U' :=
  ⟨h.bel.trans (hb.mono h.bel.size), cell_below hb h.c0, cell_below hb h.c1, cell_below hb h.c2, cell_below hb h.c3, cell_below hb h.c4, cell_below hb h.x0, cell_below hb h.x1⟩
theorem PopS.start {W0 : World} {B X : Nat} {tv ov mv pv qv : Value} {x : Sh} (h0 : W0.cell? ⟨B, 0, none⟩ = some tv) (h1 : W0.cell? ⟨B, 1, none⟩ = some ov) (h2 : W0.cell? ⟨B, 2, none⟩ = some mv) (h3 : W0.cell? ⟨B, 3, none⟩ = some pv) (h4 : W0.cell? ⟨B, 4, none⟩ = some qv) (h5 : W0.cell? ⟨X, 0, none⟩ = some (.int .i64 x.node)) (h6 : W0.cell? ⟨X, 1, none⟩ = some (.int .i64 x.inv)) : PopS W0 B X tv ov mv pv qv x W0.drew :=
  ⟨below_drewS _, h0, h1, h2, h3, h4, h5, h6⟩
structure NumS (W0 : World) (B X : Nat) (tv ov mv pv qv : Value) (n : Int) (U : World) : Prop where
  bel : Below W0.heap.size W0 U
  c0 : U.cell? ⟨B, 0, none⟩ = some tv
  c1 : U.cell? ⟨B, 1, none⟩ = some ov
  c2 : U.cell? ⟨B, 2, none⟩ = some mv
  c3 : U.cell? ⟨B, 3, none⟩ = some pv
  c4 : U.cell? ⟨B, 4, none⟩ = some qv
  x0 : U.cell? ⟨X, 0, none⟩ = some (.int .i64 n)
theorem NumS.below {W0 U U' : World} {B X : Nat} {tv ov mv pv qv : Value} {n : Int} (h : NumS W0 B X tv ov mv pv qv n U) (hb : Below U.heap.size U U') : NumS W0 B X tv ov mv pv qv n U' :=
  ⟨h.bel.trans (hb.mono h.bel.size), cell_below hb h.c0, cell_below hb h.c1, cell_below hb h.c2, cell_below hb h.c3, cell_below hb h.c4, cell_below hb h.x0⟩
theorem NumS.start {W0 : World} {B X : Nat} {tv ov mv pv qv : Value} {n : Int} (h0 : W0.cell? ⟨B, 0, none⟩ = some tv) (h1 : W0.cell? ⟨B, 1, none⟩ = some ov) (h2 : W0.cell? ⟨B, 2, none⟩ = some mv) (h3 : W0.cell? ⟨B, 3, none⟩ = some pv) (h4 : W0.cell? ⟨B, 4, none⟩ = some qv) (h5 : W0.cell? ⟨X, 0, none⟩ = some (.int .i64 n)) : NumS W0 B X tv ov mv pv qv n W0.drew :=
  ⟨below_drewS _, h0, h1, h2, h3, h4, h5⟩
def ConnAt (U : World) (s tv : Value) (T : List Nd) : Prop := ∃ ca cc, s = .agg #[tv, .slice ca (slI T 0).length cc] ∧ IntsAt U (.slice ca (slI T 0).length cc) (slI T 0)
theorem ConnAt.below {U U' : World} {s tv : Value} {T : List Nd} (h : ConnAt U s tv T) (hb : Below U.heap.size U U') : ConnAt U' s tv T := by
  obtain ⟨ca, cc, e, h⟩ := h
  exact ⟨ca, cc, e, h.below hb⟩
/-- All but some blocks lie as they lay. -/
structure Sb (Bad : Nat → Prop) (A B : World) : Prop where
  size : A.heap.size ≤ B.heap.size
  old : ∀ j, j < A.heap.size → ¬ Bad j → B.heap[j]? = A.heap[j]?
theorem Sb.of_below {Bad : Nat → Prop} {A B : World} (h : Below A.heap.size A B) : Sb Bad A B := ⟨h.size, fun j hj _ => h.block j hj⟩
theorem Sb.trans {Bad : Nat → Prop} {A B C : World} (h : Sb Bad A B) (h2 : Sb Bad B C) : Sb Bad A C := ⟨Nat.le_trans h.size h2.size, fun j hj hb => (h2.old j (by have := h.size; omega) hb).trans (h.old j hj hb)⟩
theorem Sb.set {Bad : Nat → Prop} {A : World} {b o : Nat} {v : Value} (hb : Bad b) : Sb Bad A (A.setCell ⟨b, o, none⟩ v) := ⟨by simp, fun j _ hn => setc_block (fun e => hn (e ▸ hb))⟩
theorem Sb.set5 {Bad : Nat → Prop} {A : World} {b : Nat} {v0 v1 v2 v3 v4 : Value} (hb : Bad b) : Sb Bad A (set5 A b v0 v1 v2 v3 v4) := ⟨by rw [set5_size]; exact Nat.le_refl _, fun j _ hn => set5_block (fun e => hn (e ▸ hb))⟩
theorem RowIn.sb {Bad : Nat → Prop} {A B : World} {I : Nat × Nat} {e : TypeId} {sz : Nat} {v : Value} {n : Nat} {xs : List Value} (h : RowIn A I e sz v n xs) (hI : I.2 ≤ A.heap.size) (hoff : ∀ j, I.1 ≤ j → j < I.2 → ¬ Bad j) (hs : Sb Bad A B) : RowIn B I e sz v n xs :=
  h.keep (fun j h1 h2 => hs.old j (by omega) (hoff j h1 h2))
theorem TreeIn.sb {Bad : Nat → Prop} {A B : World} {I : Nat × Nat} {v : Value} {T : List Nd} (h : TreeIn A I v T) (hI : I.2 ≤ A.heap.size) (hoff : ∀ j, I.1 ≤ j → j < I.2 → ¬ Bad j) (hs : Sb Bad A B) : TreeIn B I v T :=
  h.keep (fun j h1 h2 => hs.old j (by omega) (hoff j h1 h2))
end Go.Proofs.YtclhimodopgeoaaGreat

namespace Go.Proofs.YtclhimodopgeoaaGreat
open Go.RowKit

def closeL (V : Vw) (n : Int) : Vw := { tree := V.tree, op := V.op.filter (fun x => x != n), modal := V.modal.filter (fun x => x != n), pops := V.pops.filter (fun x => x.node != n), top := V.top.filter (fun x => x != n) }

end Go.Proofs.YtclhimodopgeoaaGreat

namespace Go.Proofs.YtclhimodopgeoaaGreat
open Go.RowKit

structure MayS (V : Vw) : Prop where
  op : ∀ x ∈ V.op, dlgB V.tree x = true
  modal : ∀ x ∈ V.modal, dlgB V.tree x = true
  pops : ∀ x ∈ V.pops, popB V.tree x.node = true
  fits : ∀ x ∈ V.pops, fitsB V.tree x = true
  nodup : (openedL V).Nodup
  perm : V.top.Perm (raisedL V)
theorem may_iff {V : Vw} : mayV V = true ↔ MayS V := by
  rw [← mayP_eq]
  unfold mayP
  simp only [Bool.and_eq_true, List.all_eq_true, onceB_iff, sameB_iff]
  exact ⟨fun ⟨a, b, c, d, e, f⟩ => ⟨a, b, c, d, e, f⟩, fun ⟨a, b, c, d, e, f⟩ => ⟨a, b, c, d, e, f⟩⟩
theorem check_iff {V : Vw} : checkV V = 0 ↔ mayB V.tree = true ∧ MayS V := by
  rw [← may_iff]
  unfold checkV
  cases mayB V.tree <;> cases mayV V <;> simp
theorem contains_no {l : List Int} {x : Int} : containsB l x = false ↔ x ∉ l := by simp [containsB]
theorem contains_yes {l : List Int} {x : Int} : containsB l x = true ↔ x ∈ l := by simp [containsB]
theorem mem_opened {V : Vw} {x : Int} : x ∈ openedL V ↔ x ∈ V.op ∨ x ∈ V.modal ∨ x ∈ nodesL' V.pops := by simp [openedL, raisedL]
section
variable {V : Vw} {n : Int}
theorem may_modal (h : MayS V) (hd : dlgB V.tree n = true) (ho : n ∉ openedL V) : MayS { V with modal := V.modal ++ [n], top := V.top ++ [n] } := by
  refine ⟨h.op, fun x hx => ?_, h.pops, h.fits, ?_, ?_⟩
  · rcases List.mem_append.mp hx with h1 | h1
    · exact h.modal x h1
    · rw [List.mem_singleton.mp h1]; exact hd
  · show (V.op ++ ((V.modal ++ [n]) ++ nodesL' V.pops)).Nodup
    have hp : (V.op ++ ((V.modal ++ [n]) ++ nodesL' V.pops)).Perm (n :: openedL V) := by
      unfold openedL raisedL
      rw [List.append_assoc, List.singleton_append]
      exact (List.Perm.append_left V.op List.perm_middle).trans List.perm_middle
    exact hp.nodup_iff.mpr (List.nodup_cons.mpr ⟨ho, h.nodup⟩)
  · show (V.top ++ [n]).Perm ((V.modal ++ [n]) ++ nodesL' V.pops)
    have h1 : (V.top ++ [n]).Perm (raisedL V ++ [n]) := h.perm.append_right [n]
    have h3 : ((V.modal ++ [n]) ++ nodesL' V.pops).Perm (n :: raisedL V) := by
      rw [List.append_assoc, List.singleton_append]
      exact List.perm_middle
    exact h1.trans ((List.perm_append_singleton n _).trans h3.symm)
theorem may_open (h : MayS V) (hd : dlgB V.tree n = true) (ho : n ∉ openedL V) : MayS { V with op := V.op ++ [n] } := by
  refine ⟨fun x hx => ?_, h.modal, h.pops, h.fits, ?_, h.perm⟩
  · rcases List.mem_append.mp hx with h1 | h1
    · exact h.op x h1
    · rw [List.mem_singleton.mp h1]; exact hd
  · show ((V.op ++ [n]) ++ raisedL V).Nodup
    have hp : ((V.op ++ [n]) ++ raisedL V).Perm (n :: openedL V) := by
      unfold openedL
      rw [List.append_assoc, List.singleton_append]
      exact List.perm_middle
    exact hp.nodup_iff.mpr (List.nodup_cons.mpr ⟨ho, h.nodup⟩)
theorem top_opened (h : MayS V) {x : Int} (hx : x ∈ V.top) : x ∈ openedL V := List.mem_append_right _ (h.perm.mem_iff.mp hx)
theorem fne {l : List Int} (h : n ∉ l) : l.filter (fun x => x != n) = l := List.filter_eq_self.mpr (fun x hx => by
  rw [bne_iff_ne]
  rintro rfl
  exact h hx)
theorem fneS {l : List Sh} (h : n ∉ nodesL' l) : l.filter (fun x => x.node != n) = l := List.filter_eq_self.mpr (fun x hx => by
  rw [bne_iff_ne]
  rintro rfl
  exact h (List.mem_map_of_mem hx))
theorem fne_snoc {l : List Int} (h : n ∉ l) : (l ++ [n]).filter (fun x => x != n) = l := by
  rw [List.filter_append, fne h]
  simp
theorem close_modal (ho : n ∉ openedL V) (ht : n ∉ V.top) : closeL { V with modal := V.modal ++ [n], top := V.top ++ [n] } n = V := by
  rw [mem_opened, not_or, not_or] at ho
  obtain ⟨t, o, m, p, q⟩ := V
  simp only [closeL, fne ho.1, fne_snoc ho.2.1, fneS ho.2.2, fne_snoc ht]
theorem close_open (ho : n ∉ openedL V) (ht : n ∉ V.top) : closeL { V with op := V.op ++ [n] } n = V := by
  rw [mem_opened, not_or, not_or] at ho
  obtain ⟨t, o, m, p, q⟩ := V
  simp only [closeL, fne_snoc ho.1, fne ho.2.1, fneS ho.2.2, fne ht]
end
section
variable {M T : List Int}
theorem getD_snoc {l : List Int} {x : Int} : (l ++ [x]).getD l.length 0 = x := by
  rw [List.getD_eq_getElem?_getD, List.getElem?_append_right (Nat.le_refl _), Nat.sub_self]
  rfl
theorem high_modal (V : Vw) (n : Int) : highV { V with modal := V.modal ++ [n], top := V.top ++ [n] } = n := by
  show highF (V.modal ++ [n]) (V.top ++ [n]) (V.top ++ [n]).length = n
  rw [List.length_append, List.length_singleton, highF, getD_snoc, if_pos (by simp [containsB])]
theorem high_at : ∀ {n : Nat}, highF M T n ≠ -1 → ∃ j, j < n ∧ T.getD j 0 = highF M T n ∧ containsB M (highF M T n) = true ∧ ∀ i, j < i → i < n → containsB M (T.getD i 0) = false
  | 0, h => absurd rfl h
  | n + 1, h => by
    cases c : containsB M (T.getD n 0)
    · have e : highF M T (n + 1) = highF M T n := by rw [highF, c]; rfl
      rw [e] at h ⊢
      obtain ⟨j, h1, h2, h3, h4⟩ := high_at h
      refine ⟨j, by omega, h2, h3, fun i hi hn => ?_⟩
      by_cases q : i = n
      · subst q; exact c
      · exact h4 i hi (by omega)
    · have e : highF M T (n + 1) = T.getD n 0 := by rw [highF, c]; rfl
      rw [e]
      exact ⟨n, by omega, rfl, c, fun i hi hn => by omega⟩
end
theorem top_nodup {V : Vw} (h : MayS V) : V.top.Nodup := h.perm.nodup_iff.mpr (List.nodup_append.mp h.nodup).2.1
theorem highest_at {V : Vw} (h : MayS V) (hn : highV V ≠ -1) : ∃ j, j < V.top.length ∧ indexI V.top (highV V) = (j : Int) ∧ containsB V.modal (highV V) = true ∧ ∀ i, j < i → i < V.top.length → containsB V.modal (V.top.getD i 0) = false := by
  obtain ⟨j, h1, h2, h3, h4⟩ := high_at hn
  refine ⟨j, h1, ?_, h3, h4⟩
  have ho := onceB_iff.mpr (top_nodup h)
  have h5 := (List.all_eq_true.mp (by rw [onceB] at ho; exact ho)) j (List.mem_range.mpr h1)
  have h6 := idx_take h1
  rw [h5, beq_iff_eq] at h6
  rw [← h6]
  congr 1
  exact h2.symm

section
variable {V : Vw}
end
end Go.Proofs.YtclhimodopgeoaaGreat

namespace Go.Proofs.YtclhimodopgeoaaGreat
open Go.RowKit

/-- A view that lies in a box. -/
structure BoxV (w : World) (b : Nat) (t o m p q : Value) : Prop where
  c0 : w.cell? ⟨b, 0, none⟩ = some t
  c1 : w.cell? ⟨b, 1, none⟩ = some o
  c2 : w.cell? ⟨b, 2, none⟩ = some m
  c3 : w.cell? ⟨b, 3, none⟩ = some p
  c4 : w.cell? ⟨b, 4, none⟩ = some q
theorem BoxV.below {w w' : World} {b : Nat} {t o m p q : Value} (h : BoxV w b t o m p q) (hb : Below w.heap.size w w') : BoxV w' b t o m p q :=
  ⟨cell_below hb h.c0, cell_below hb h.c1, cell_below hb h.c2, cell_below hb h.c3, cell_below hb h.c4⟩
theorem BoxV.new (w : World) (t o m p q : Value) (ty : TypeId) : BoxV (w.alloc (.cells #[t, o, m, p, q] ty)) w.heap.size t o m p q := by
  constructor <;> simp
theorem alB (w : World) (o : Obj) : Below w.heap.size w (w.alloc o) := (Below.refl _ w).alloc (Nat.le_refl _) o
theorem BoxV.lt {w : World} {b : Nat} {t o m p q : Value} (h : BoxV w b t o m p q) : b < w.heap.size := below_of_cell h.c0

theorem shaped {f : Nat} {args : Array Value} {w : World} {er : Int} {V : Vw} (h : Calls Tryz.prog f args w fun x w' => ∃ t o m p q, x = .returned (.tuple #[.agg #[t, o, m, p, q], .int .i64 er]) ∧ ViewAt w' t o m p q V ∧ Below w.heap.size w w')
    (n0 n1 n2 n3 n4 : Nat) (h0 : V.tree.length = n0) (h1 : V.op.length = n1) (h2 : V.modal.length = n2) (h3 : V.pops.length = n3) (h4 : V.top.length = n4) :
    Calls Tryz.prog f args w fun x w' => ∃ a0 c0 a1 c1 a2 c2 a3 c3 a4 c4, x = .returned (.tuple #[.agg #[.slice a0 n0 c0, .slice a1 n1 c1, .slice a2 n2 c2, .slice a3 n3 c3, .slice a4 n4 c4], .int .i64 er]) ∧ ViewAt w' (.slice a0 n0 c0) (.slice a1 n1 c1) (.slice a2 n2 c2) (.slice a3 n3 c3) (.slice a4 n4 c4) V ∧ Below w.heap.size w w' := by
  refine h.mono ?_
  rintro x w' ⟨t, o, m, p, q, rfl, hv, hb⟩
  obtain ⟨a0, c0, rfl⟩ := hv.tree.shape
  obtain ⟨a1, c1, rfl⟩ := hv.op.shape
  obtain ⟨a2, c2, rfl⟩ := hv.modal.shape
  obtain ⟨a3, c3, rfl⟩ := hv.pops.shape
  obtain ⟨a4, c4, rfl⟩ := hv.top.shape
  subst h0 h1 h2 h3 h4
  exact ⟨_, _, _, _, _, _, _, _, _, _, rfl, hv, hb⟩
end Go.Proofs.YtclhimodopgeoaaGreat

namespace Go.Proofs.YtclhimodopgeoaaGreat
open Go.RowKit Go.Shelf

attribute [local go_sem] Oper.semAt_some

theorem high_none {modal top : List Int} : ∀ {n : Nat}, (∀ j, j < n → containsB modal (top.getD j 0) = false) → highF modal top n = -1
  | 0, _ => rfl
  | n + 1, h => by rw [highF, h n (by omega)]; exact high_none (fun j hj => h j (by omega))
theorem high_first {modal top : List Int} : ∀ {n : Nat} {pre : List Nat} {x : Nat}, pre ++ [x] <+: (List.range n).reverse → (∀ j ∈ pre, containsB modal (top.getD j 0) = false) → containsB modal (top.getD x 0) = true → highF modal top n = top.getD x 0
  | 0, pre, x, h, _, _ => by have := h.length_le; simp at this
  | n + 1, pre, x, h, h1, h2 => by
    rw [List.range_succ, List.reverse_append] at h
    simp only [List.reverse_cons, List.reverse_nil, List.nil_append, List.cons_append] at h
    cases pre with
    | nil =>
      have e : x = n := by
        have := List.cons_prefix_cons.mp h
        exact this.1
      subst e
      rw [highF, h2]; rfl
    | cons y pre =>
      obtain ⟨e, h'⟩ := List.cons_prefix_cons.mp h
      subst e
      rw [highF, h1 y (by simp)]
      exact high_first h' (fun j hj => h1 j (by simp [hj])) h2

set_option maxRecDepth 100000 in
set_option maxHeartbeats 4000000 in
theorem highOk_in (tv ov mv pv qv : Value) (V : Vw) (w : World) (hV : ViewAt w tv ov mv pv qv V) (hS : Sane V.tree) (hl : smallL V) (hck : checkV V = 0) :
    CallsIn Fence.wide 6 Tryz.prog 25 #[.agg #[tv, ov, mv, pv, qv]] w fun x w' => x = .returned (.int .i64 (highV V)) ∧ Below w.heap.size w w' := by
  obtain ⟨hT, hO, hM, hP, hQ⟩ := hV
  obtain ⟨ta, tc, rfl⟩ := hT.shape
  obtain ⟨oa, oc, rfl⟩ := hO.shape
  obtain ⟨ma, mc, rfl⟩ := hM.shape
  obtain ⟨pa, pc, rfl⟩ := hP.shape
  obtain ⟨qa, qc, rfl⟩ := hQ.shape
  obtain ⟨W0, hW0⟩ : ∃ W0, (w.alloc (.cells #[.slice ta V.tree.length tc, .slice oa V.op.length oc, .slice ma V.modal.length mc, .slice pa V.pops.length pc, .slice qa V.top.length qc] 27)).alloc (.cells #[.int .i64 0] 3) = W0 := ⟨_, rfl⟩
  have hbw : Below w.heap.size w W0 := by rw [← hW0]; exact ((Below.refl _ w).alloc (Nat.le_refl _) _).alloc (by simp) _
  have HB0 := hideG hbw
  have P0 := hideG (show W0.cell? ⟨w.heap.size, 0, none⟩ = some (.slice ta V.tree.length tc) by rw [← hW0]; exact cell_alloc_l _ (by simp))
  have P1 := hideG (show W0.cell? ⟨w.heap.size, 1, none⟩ = some (.slice oa V.op.length oc) by rw [← hW0]; exact cell_alloc_l _ (by simp))
  have P2 := hideG (show W0.cell? ⟨w.heap.size, 2, none⟩ = some (.slice ma V.modal.length mc) by rw [← hW0]; exact cell_alloc_l _ (by simp))
  have P3 := hideG (show W0.cell? ⟨w.heap.size, 3, none⟩ = some (.slice pa V.pops.length pc) by rw [← hW0]; exact cell_alloc_l _ (by simp))
  have P4 := hideG (show W0.cell? ⟨w.heap.size, 4, none⟩ = some (.slice qa V.top.length qc) by rw [← hW0]; exact cell_alloc_l _ (by simp))
  have PR := hideG (show W0.cell? ⟨w.heap.size + 1, 0, none⟩ = some (.int .i64 0) ∧ W0.frozen? ⟨w.heap.size + 1, 0, none⟩ = false by
    rw [← hW0]
    have := cell_new_l (w.alloc (.cells #[.slice ta V.tree.length tc, .slice oa V.op.length oc, .slice ma V.modal.length mc, .slice pa V.pops.length pc, .slice qa V.top.length qc] 27)) (.int .i64 0) 3
    rw [World.size_alloc] at this
    exact this)
  have HV := hideG (show ViewAt w _ _ _ _ _ V from ⟨hT, hO, hM, hP, hQ⟩)
  have HC := hideG (checkV_any _ _ _ _ _ V W0 (HV.out.below hbw) hS hl)
  have HW0 := hideG hW0
  have h4l : V.top.length ≤ 1000 := hl.2.2.2
  have h2l : V.modal.length ≤ 500 := hl.2.1
  have p0 := P0.out
  have p1 := P1.out
  have p2 := P2.out
  have p3 := P3.out
  have p4 := P4.out
  clear hW0 hT hO hM hP hQ hS hl hbw
  refine callsIn_of_wp_marks Tryz.func25 rfl trivial ?_ rfl
  simp only [Tryz.ntmps25, List.size_toArray, List.length_cons, List.length_nil, Nat.reduceAdd, Nat.reduceSub, Array.replicate_succ, Array.replicate_zero, List.push_toArray, List.append_toArray, List.nil_append, List.cons_append]
  gi_wp2_with fail
  refine ⟨trivial, ?_⟩
  gi_at_call 24
  rw [HW0.out]
  refine CallsIn.mono (callsIn_wide.2 (by have := HC.out; rw [hck] at this; exact this)) ?_
  rintro ex w1 ⟨rfl, hb1⟩
  have HB1 := hideG (HB0.out.trans (hb1.mono HB0.out.size))
  have HX1 := hideG hb1
  have hs1 := hb1.size
  have hs0 : W0.heap.size = w.heap.size + 2 := by rw [← HW0.out]; simp
  have p0 := cell_below hb1 P0.out
  have p1 := cell_below hb1 P1.out
  have p2 := cell_below hb1 P2.out
  have p3 := cell_below hb1 P3.out
  have p4 := cell_below hb1 P4.out
  have r0 := cell_below hb1 PR.out.1
  have r1 := frozen_below hb1 PR.out.1 PR.out.2
  have P2' := hideG p2
  have R0 := hideG r0
  have R1 := hideG r1
  clear hb1
  gi_wp2_with fail
  refine ⟨trivial, ?_⟩
  gi_at_call 79
  refine (backI0_in _ _ _ _ _).mono ?_
  rintro ex wz ⟨rfl, hwz⟩
  obtain rfl : _ = wz := hwz.symm
  clear p0 p1 p2 p3 p4 r0 r1
  gi_wp2_with fail
  obtain ⟨W2, hW2⟩ : ∃ W2, w1.alloc (.cells #[.slice qa V.top.length qc] 24) = W2 := ⟨_, rfl⟩
  have c2 := cell_new_l w1 (.slice qa V.top.length qc) 24
  rw [hW2] at c2
  have hb2 : Below w1.heap.size w1 W2 := by rw [← hW2]; exact (Below.refl _ w1).alloc (Nat.le_refl _) _
  have HB2 := HB1.out.trans (hb2.mono HB1.out.size)
  rw [hW2]
  refine wpIn_rangeFunc_ownF rfl (by omega) (gf := 123) (lb := #[.pointer (some ⟨w1.heap.size, 0, none⟩)]) rfl trivial (enters_of Tryz.func123 (by kernel_rfl) rfl)
    (back_ints V.top (by omega) qa qc w1.heap.size W2 (Below W2.heap.size) (fun h1 h2 => h1.trans h2) (fun _ h => h) (fun W hW => ⟨cell_below hW c2.1, (HV.out.top.below HB2).below hW⟩)) (fun h1 h2 => h1.trans h2) (belowK_b (Nat.le_refl _)) (Below.refl _ _) (fun _ => rfl)
    (fun pre W => ((∀ y ∈ pre, containsB V.modal (V.top.getD y 0) = false) ∧ W.cell? ⟨w.heap.size, 2, none⟩ = some (.slice ma V.modal.length mc) ∧ W.cell? ⟨w.heap.size + 1, 0, none⟩ = some (.int .i64 0) ∧ W.frozen? ⟨w.heap.size + 1, 0, none⟩ = false) ∧ Below w.heap.size w W)
    (fun c pre W => (c = .ret ∧ (∃ pre' x, pre = pre' ++ [x] ∧ (∀ y ∈ pre', containsB V.modal (V.top.getD y 0) = false) ∧ containsB V.modal (V.top.getD x 0) = true ∧ W.cell? ⟨w.heap.size + 1, 0, none⟩ = some (.int .i64 (V.top.getD x 0)))) ∧ Below w.heap.size w W)
    (OwnFrom.and (Own.from (fun s A B row hs hg hr => ⟨hs.1, cell_kept hs.2.1 hg hr, cell_kept hs.2.2.1 hg hr, (frozen_kept hs.2.2.1 hg hr).trans hs.2.2.2⟩) _) (ownFrom_below (Nat.le_refl _) HB2.size))
    (fun c => OwnFrom.and (Own.from (fun s A B row hs hg hr => by
      obtain ⟨h1, pre', x, h2, h3, h4, h5⟩ := hs
      exact ⟨h1, pre', x, h2, h3, h4, cell_kept h5 hg hr⟩) _) (ownFrom_below (Nat.le_refl _) HB2.size))
    ⟨⟨by simp, cell_below hb2 P2'.out, cell_below hb2 R0.out, frozen_below hb2 R0.out R1.out⟩, HB2⟩
    (fun x => { tmps := #[.agg #[.slice ta V.tree.length tc, .slice oa V.op.length oc, .slice ma V.modal.length mc, .slice pa V.pops.length pc, .slice qa V.top.length qc], .pointer (some ⟨w.heap.size, 0, none⟩), .pointer (some ⟨w.heap.size + 1, 0, none⟩), undef, .int .i64 (V.top.getD x 0), .agg #[.slice ta V.tree.length tc, .slice oa V.op.length oc, .slice ma V.modal.length mc, .slice pa V.pops.length pc, .slice qa V.top.length qc], .int .i64 0, .bool false, .pointer (some ⟨w.heap.size, 4, none⟩), .slice qa V.top.length qc, .func (.func 123) #[] #[.pointer (some ⟨w1.heap.size, 0, none⟩)], .int .i64 (x : Int), .int .i64 (V.top.getD x 0), undef, undef, undef, undef, undef], defers := [] }) ?assign ?body ?done ?stop
  case assign =>
    intro l x W K hK
    simp only [backEI]
    generalize V.top.getD x 0 = y at *
    gi_wp2
    exact hK
  case body =>
    rintro l pre x W ⟨⟨hp, hcm, hcr, hfr⟩, hB⟩ _
    have HP := hideG hp
    have HBB := hideG hB
    have HCT := hideG (contains_any V.modal _ (V.top.getD x 0) W (HV.out.modal.below hB) (by omega))
    clear hp hB
    cases hcn : containsB V.modal (V.top.getD x 0)
    · rw [hcn] at HCT
      have HN := hideG hcn
      clear hcn
      have HGEN := hideG (show ∀ y ∈ pre ++ [x], containsB V.modal (V.top.getD y 0) = false from fun y hy => (List.mem_append.1 hy).elim (HP.out y) (fun e => by simp at e; subst e; exact HN.out))
      generalize hy : V.top.getD x 0 = y at HCT HN ⊢
      clear hy
      gi_wp2_with fail
      refine ⟨trivial, ?_⟩
      gi_at_call 73
      refine CallsIn.mono (CallsIn.inRound l (callsIn_wide.2 HCT.out)) ?_
      rintro ex w3 ⟨rfl, hw3⟩
      obtain rfl : _ = w3 := hw3.symm
      gi_wp2_with fail
      exact ⟨KeepsOthers.refl _, Below.refl _ _, ⟨HGEN.out, hcm, hcr, hfr⟩, HBB.out⟩
    · rw [hcn] at HCT
      have HN := hideG hcn
      clear hcn
      have HY := hideG (show ∃ y, y = V.top.getD x 0 from ⟨_, rfl⟩)
      obtain ⟨y, hy⟩ := HY.out
      rw [← hy] at HCT ⊢
      have HYY := hideG hy
      clear hy HY
      gi_wp2_with fail
      refine ⟨trivial, ?_⟩
      gi_at_call 73
      refine CallsIn.mono (CallsIn.inRound l (callsIn_wide.2 HCT.out)) ?_
      rintro ex w3 ⟨rfl, hw3⟩
      obtain rfl : _ = w3 := hw3.symm
      gi_wp2_with fail
      exact ⟨KeepsOthers.setCell _ _ _, ⟨rfl, pre, x, rfl, HP.out, HN.out, by rw [← HYY.out]; exact World.cell?_setCell_same' _ _ _ (by rw [hcr]; rfl)⟩, HBB.out.setCell (p := ⟨w.heap.size + 1, 0, none⟩) (by simp) _⟩
  case done =>
    rintro D ys W hD rfl ⟨⟨hne, _, hcr, hfr⟩, hB⟩ hK
    have HQ := hideG (show highV V = -1 from high_none (fun j hj => hne j (by simpa using hj)))
    clear hne
    gi_wp2
    have hK' := (KeepsOthers.setCell W ⟨w.heap.size + 1, 0, none⟩ (.int .i64 (-1))).same D _ hK rfl
    refine ⟨by simp, .inl ⟨_, _, rfl, run_takeDeferred hK', ?_⟩⟩
    have hc5 := cell_kept (World.cell?_setCell_same' W ⟨w.heap.size + 1, 0, none⟩ (.int .i64 (-1)) (by rw [hcr]; rfl)) (grownBy_putObj' _ D (.deferred none)) (fun r e => by cases e; exact ⟨_, hK', rfl⟩)
    refine ⟨.int .i64 (-1), ?_, by rw [HQ.out], (hB.setCell (p := ⟨w.heap.size + 1, 0, none⟩) (by simp) _).trans (belowK_b (w := w) (Nat.le_refl _) _ D _ _ (by have := HB2.size; (try simp at hD); omega) hK' rfl rfl)⟩
    simp [results, Tryz.f25, go_sem, hc5]
  case stop =>
    rintro D c pre W hD hpre ⟨⟨rfl, pre', x, rfl, hno, hyes, hcr⟩, hB⟩ hK
    have HQ := hideG (show highV V = V.top.getD x 0 from high_first hpre hno hyes)
    clear hno hyes
    gi_wp2
    refine ⟨by simp, .inl ⟨_, _, rfl, run_takeDeferred hK, ?_⟩⟩
    have hc5 := cell_kept hcr (grownBy_putObj' _ D (.deferred none)) (fun r e => by cases e; exact ⟨_, hK, rfl⟩)
    refine ⟨.int .i64 (V.top.getD x 0), ?_, by rw [HQ.out], hB.trans (belowK_b (w := w) (Nat.le_refl _) W D _ _ (by have := HB2.size; (try simp at hD); omega) hK rfl rfl)⟩
    simp [results, Tryz.f25, go_sem, hc5]
end Go.Proofs.YtclhimodopgeoaaGreat

