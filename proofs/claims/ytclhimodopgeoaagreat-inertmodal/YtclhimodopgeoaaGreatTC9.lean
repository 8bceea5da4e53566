/- Part 9 of what the laws of layer 10 lean on. -/
import Derived.Test.YtclhimodopgeoaaGreatTC3
import Derived.Test.YtclhimodopgeoaaGreatTC8
namespace Go.Proofs.YtclhimodopgeoaaGreat
open Go.RowKit

structure MayS (V : Vw) : Prop where
  op : ∀ x ∈ V.op, dlgB V.tree x = true
  modal : ∀ x ∈ V.modal, dlgB V.tree x = true
  pops : ∀ x ∈ V.pops, popB V.tree x.node = true
  fits : ∀ x ∈ V.pops, fitsB V.tree x = true
  nodup : (openedL V).Nodup
  perm : V.top.Perm (raisedL V)
theorem may_iff {V : Vw} : mayV V = true ↔ MayS V := by
  rw [← mayP_eq]
  unfold mayP
  simp only [Bool.and_eq_true, List.all_eq_true, onceB_iff, sameB_iff]
  exact ⟨fun ⟨a, b, c, d, e, f⟩ => ⟨a, b, c, d, e, f⟩, fun ⟨a, b, c, d, e, f⟩ => ⟨a, b, c, d, e, f⟩⟩
theorem check_iff {V : Vw} : checkV V = 0 ↔ mayB V.tree = true ∧ MayS V := by
  rw [← may_iff]
  unfold checkV
  cases mayB V.tree <;> cases mayV V <;> simp
theorem contains_no {l : List Int} {x : Int} : containsB l x = false ↔ x ∉ l := by simp [containsB]
theorem contains_yes {l : List Int} {x : Int} : containsB l x = true ↔ x ∈ l := by simp [containsB]
theorem mem_opened {V : Vw} {x : Int} : x ∈ openedL V ↔ x ∈ V.op ∨ x ∈ V.modal ∨ x ∈ nodesL' V.pops := by simp [openedL, raisedL]
theorem mem_raised {V : Vw} {x : Int} : x ∈ raisedL V ↔ x ∈ V.modal ∨ x ∈ nodesL' V.pops := by simp [raisedL]
theorem nodes_snoc (l : List Sh) (x : Sh) : nodesL' (l ++ [x]) = nodesL' l ++ [x.node] := by simp [nodesL']
section
variable {V : Vw} {n : Int}
theorem may_modal (h : MayS V) (hd : dlgB V.tree n = true) (ho : n ∉ openedL V) : MayS { V with modal := V.modal ++ [n], top := V.top ++ [n] } := by
  refine ⟨h.op, fun x hx => ?_, h.pops, h.fits, ?_, ?_⟩
  · rcases List.mem_append.mp hx with h1 | h1
    · exact h.modal x h1
    · rw [List.mem_singleton.mp h1]; exact hd
  · show (V.op ++ ((V.modal ++ [n]) ++ nodesL' V.pops)).Nodup
    have hp : (V.op ++ ((V.modal ++ [n]) ++ nodesL' V.pops)).Perm (n :: openedL V) := by
      unfold openedL raisedL
      rw [List.append_assoc, List.singleton_append]
      exact (List.Perm.append_left V.op List.perm_middle).trans List.perm_middle
    exact hp.nodup_iff.mpr (List.nodup_cons.mpr ⟨ho, h.nodup⟩)
  · show (V.top ++ [n]).Perm ((V.modal ++ [n]) ++ nodesL' V.pops)
    have h1 : (V.top ++ [n]).Perm (raisedL V ++ [n]) := h.perm.append_right [n]
    have h3 : ((V.modal ++ [n]) ++ nodesL' V.pops).Perm (n :: raisedL V) := by
      rw [List.append_assoc, List.singleton_append]
      exact List.perm_middle
    exact h1.trans ((List.perm_append_singleton n _).trans h3.symm)
theorem may_open (h : MayS V) (hd : dlgB V.tree n = true) (ho : n ∉ openedL V) : MayS { V with op := V.op ++ [n] } := by
  refine ⟨fun x hx => ?_, h.modal, h.pops, h.fits, ?_, h.perm⟩
  · rcases List.mem_append.mp hx with h1 | h1
    · exact h.op x h1
    · rw [List.mem_singleton.mp h1]; exact hd
  · show ((V.op ++ [n]) ++ raisedL V).Nodup
    have hp : ((V.op ++ [n]) ++ raisedL V).Perm (n :: openedL V) := by
      unfold openedL
      rw [List.append_assoc, List.singleton_append]
      exact List.perm_middle
    exact hp.nodup_iff.mpr (List.nodup_cons.mpr ⟨ho, h.nodup⟩)
theorem may_popup {x : Sh} (h : MayS V) (hf : fitsB V.tree x = true) (hd : popB V.tree x.node = true) (ho : x.node ∉ openedL V) : MayS { V with pops := V.pops ++ [x], top := V.top ++ [x.node] } := by
  have e : raisedL { V with pops := V.pops ++ [x], top := V.top ++ [x.node] } = raisedL V ++ [x.node] := by
    show V.modal ++ nodesL' (V.pops ++ [x]) = (V.modal ++ nodesL' V.pops) ++ [x.node]
    rw [nodes_snoc, List.append_assoc]
  refine ⟨h.op, h.modal, fun y hy => ?_, fun y hy => ?_, ?_, ?_⟩
  · rcases List.mem_append.mp hy with h1 | h1
    · exact h.pops y h1
    · rw [List.mem_singleton.mp h1]; exact hd
  · rcases List.mem_append.mp hy with h1 | h1
    · exact h.fits y h1
    · rw [List.mem_singleton.mp h1]; exact hf
  · show (V.op ++ raisedL { V with pops := V.pops ++ [x], top := V.top ++ [x.node] }).Nodup
    rw [e, ← List.append_assoc]
    exact (List.perm_append_singleton x.node (openedL V)).nodup_iff.mpr (List.nodup_cons.mpr ⟨ho, h.nodup⟩)
  · rw [e]
    exact h.perm.append_right _
theorem top_opened (h : MayS V) {x : Int} (hx : x ∈ V.top) : x ∈ openedL V := List.mem_append_right _ (h.perm.mem_iff.mp hx)
theorem fne {l : List Int} (h : n ∉ l) : l.filter (fun x => x != n) = l := List.filter_eq_self.mpr (fun x hx => by
  rw [bne_iff_ne]
  rintro rfl
  exact h hx)
theorem fneS {l : List Sh} (h : n ∉ nodesL' l) : l.filter (fun x => x.node != n) = l := List.filter_eq_self.mpr (fun x hx => by
  rw [bne_iff_ne]
  rintro rfl
  exact h (List.mem_map_of_mem hx))
theorem fne_snoc {l : List Int} (h : n ∉ l) : (l ++ [n]).filter (fun x => x != n) = l := by
  rw [List.filter_append, fne h]
  simp
theorem close_modal (ho : n ∉ openedL V) (ht : n ∉ V.top) : closeL { V with modal := V.modal ++ [n], top := V.top ++ [n] } n = V := by
  rw [mem_opened, not_or, not_or] at ho
  obtain ⟨t, o, m, p, q⟩ := V
  simp only [closeL, fne ho.1, fne_snoc ho.2.1, fneS ho.2.2, fne_snoc ht]
theorem close_open (ho : n ∉ openedL V) (ht : n ∉ V.top) : closeL { V with op := V.op ++ [n] } n = V := by
  rw [mem_opened, not_or, not_or] at ho
  obtain ⟨t, o, m, p, q⟩ := V
  simp only [closeL, fne_snoc ho.1, fne ho.2.1, fneS ho.2.2, fne ht]
theorem close_popup {x : Sh} (ho : x.node ∉ openedL V) (ht : x.node ∉ V.top) : closeL { V with pops := V.pops ++ [x], top := V.top ++ [x.node] } x.node = V := by
  rw [mem_opened, not_or, not_or] at ho
  obtain ⟨t, o, m, p, q⟩ := V
  have e : (p ++ [x]).filter (fun y => y.node != x.node) = p := by
    rw [List.filter_append, fneS ho.2.2]
    simp
  simp only [closeL, fne ho.1, fne ho.2.1, e, fne_snoc ht]
theorem close_nodes (l : List Sh) : nodesL' (l.filter (fun x => x.node != n)) = (nodesL' l).filter (fun x => x != n) := by
  unfold nodesL'
  rw [List.filter_map]
  rfl
theorem close_raised : raisedL (closeL V n) = (raisedL V).filter (fun x => x != n) := by
  show V.modal.filter _ ++ nodesL' (V.pops.filter _) = _
  rw [close_nodes, raisedL, List.filter_append]
theorem close_opened : openedL (closeL V n) = (openedL V).filter (fun x => x != n) := by
  rw [openedL, close_raised, openedL, List.filter_append]
  rfl
theorem may_close (h : MayS V) : MayS (closeL V n) := by
  refine ⟨fun x hx => h.op x (List.mem_filter.mp hx).1, fun x hx => h.modal x (List.mem_filter.mp hx).1, fun x hx => h.pops x (List.mem_filter.mp hx).1, fun x hx => h.fits x (List.mem_filter.mp hx).1, ?_, ?_⟩
  · rw [close_opened]
    exact h.nodup.filter _
  · rw [close_raised]
    exact h.perm.filter _
theorem close_gone : n ∉ openedL (closeL V n) := by
  rw [close_opened, List.mem_filter]
  simp
theorem close_gone_top : n ∉ (closeL V n).top := by
  show n ∉ V.top.filter _
  rw [List.mem_filter]
  simp
end
section
variable {M T : List Int}
theorem getD_snoc {l : List Int} {x : Int} : (l ++ [x]).getD l.length 0 = x := by
  rw [List.getD_eq_getElem?_getD, List.getElem?_append_right (Nat.le_refl _), Nat.sub_self]
  rfl
theorem getD_left {l : List Int} {x : Int} {j : Nat} (h : j < l.length) : (l ++ [x]).getD j 0 = l.getD j 0 := by
  rw [List.getD_eq_getElem?_getD, List.getElem?_append_left h, List.getD_eq_getElem?_getD]
theorem highF_left {x : Int} : ∀ {k : Nat}, k ≤ T.length → highF M (T ++ [x]) k = highF M T k
  | 0, _ => rfl
  | k + 1, h => by rw [highF, highF, getD_left (by omega), highF_left (by omega)]
theorem high_modal (V : Vw) (n : Int) : highV { V with modal := V.modal ++ [n], top := V.top ++ [n] } = n := by
  show highF (V.modal ++ [n]) (V.top ++ [n]) (V.top ++ [n]).length = n
  rw [List.length_append, List.length_singleton, highF, getD_snoc, if_pos (by simp [containsB])]
theorem high_popup (V : Vw) (x : Sh) (h : x.node ∉ V.modal) : highV { V with pops := V.pops ++ [x], top := V.top ++ [x.node] } = highV V := by
  show highF V.modal (V.top ++ [x.node]) (V.top ++ [x.node]).length = highF V.modal V.top V.top.length
  rw [List.length_append, List.length_singleton, highF, getD_snoc, if_neg (by rw [contains_no.mpr h]; decide), highF_left (Nat.le_refl _)]
theorem high_no (hM : ∀ x ∈ M, (0 : Int) ≤ x) : ∀ {n : Nat}, highF M T n = -1 → ∀ j, j < n → containsB M (T.getD j 0) = false
  | 0, _, j, hj => by omega
  | n + 1, h, j, hj => by
    cases c : containsB M (T.getD n 0)
    · rw [highF, c] at h
      by_cases e : j = n
      · subst e; exact c
      · exact high_no hM h j (by omega)
    · rw [highF, c] at h
      have := hM _ (contains_yes.mp c)
      simp only [if_true] at h
      omega
theorem high_at : ∀ {n : Nat}, highF M T n ≠ -1 → ∃ j, j < n ∧ T.getD j 0 = highF M T n ∧ containsB M (highF M T n) = true ∧ ∀ i, j < i → i < n → containsB M (T.getD i 0) = false
  | 0, h => absurd rfl h
  | n + 1, h => by
    cases c : containsB M (T.getD n 0)
    · have e : highF M T (n + 1) = highF M T n := by rw [highF, c]; rfl
      rw [e] at h ⊢
      obtain ⟨j, h1, h2, h3, h4⟩ := high_at h
      refine ⟨j, by omega, h2, h3, fun i hi hn => ?_⟩
      by_cases q : i = n
      · subst q; exact c
      · exact h4 i hi (by omega)
    · have e : highF M T (n + 1) = T.getD n 0 := by rw [highF, c]; rfl
      rw [e]
      exact ⟨n, by omega, rfl, c, fun i hi hn => by omega⟩
end
theorem dlg_ge {T : List Nd} {x : Int} (h : dlgB T x = true) : 0 ≤ x := by
  unfold dlgB isNodeB at h
  simp only [Bool.and_eq_true, decide_eq_true_eq] at h
  exact h.1.1
theorem mem_getD {l : List Int} {x : Int} (h : x ∈ l) : ∃ j, j < l.length ∧ l.getD j 0 = x := by
  obtain ⟨j, hj, e⟩ := List.mem_iff_getElem.mp h
  exact ⟨j, hj, by rw [List.getD_eq_getElem?_getD, List.getElem?_eq_getElem hj]; exact e⟩
theorem highest_none {V : Vw} (h : MayS V) (hn : highV V = -1) : V.modal.length = 0 := by
  cases e : V.modal with
  | nil => rfl
  | cons x l =>
    exfalso
    have hx : x ∈ V.modal := by rw [e]; exact List.mem_cons_self
    have ht : x ∈ V.top := h.perm.mem_iff.mpr (List.mem_append_left _ hx)
    obtain ⟨j, hj, rfl⟩ := mem_getD ht
    have := high_no (fun y hy => dlg_ge (h.modal y hy)) hn j hj
    rw [contains_yes.mpr hx] at this
    cases this
theorem top_nodup {V : Vw} (h : MayS V) : V.top.Nodup := h.perm.nodup_iff.mpr (List.nodup_append.mp h.nodup).2.1
theorem highest_at {V : Vw} (h : MayS V) (hn : highV V ≠ -1) : ∃ j, j < V.top.length ∧ indexI V.top (highV V) = (j : Int) ∧ containsB V.modal (highV V) = true ∧ ∀ i, j < i → i < V.top.length → containsB V.modal (V.top.getD i 0) = false := by
  obtain ⟨j, h1, h2, h3, h4⟩ := high_at hn
  refine ⟨j, h1, ?_, h3, h4⟩
  have ho := onceB_iff.mpr (top_nodup h)
  have h5 := (List.all_eq_true.mp (by rw [onceB] at ho; exact ho)) j (List.mem_range.mpr h1)
  have h6 := idx_take h1
  rw [h5, beq_iff_eq] at h6
  rw [← h6]
  congr 1
  exact h2.symm

section
variable {V : Vw}
theorem notB_filter {α : Type} (p : α → Bool) (l : List α) : (l.filter p).filter (notB p) = [] := by
  rw [List.filter_filter, List.filter_eq_nil_iff]
  intro x _
  simp [notB]
theorem filter_len {α : Type} (p : α → Bool) : ∀ l : List α, (l.filter p).length + (l.filter (notB p)).length = l.length
  | [] => rfl
  | x :: l => by
    have := filter_len p l
    cases e : p x <;> simp [notB, e] at this ⊢ <;> omega
theorem fixS_node (T : List Nd) (x : Sh) : (fixS T x).node = x.node := by
  unfold fixS
  split <;> rfl
theorem fixS_fits (T : List Nd) (x : Sh) : fitsB T (fixS T x) = true := by
  unfold fixS
  split
  · assumption
  · rfl
theorem fix_nodes : nodesL' (fixPs V) = nodesL' (fixSt V) := by
  unfold nodesL' fixPs
  rw [List.map_map]
  exact List.map_congr_left (fun x _ => fixS_node _ x)
theorem fix_nodes_sub : (nodesL' (fixPs V)).Sublist (nodesL' V.pops) := by
  rw [fix_nodes]
  exact List.Sublist.map _ List.filter_sublist
theorem fix_raised_sub : (raisedL (fixV1 V)).Sublist (raisedL V) := List.Sublist.append List.filter_sublist fix_nodes_sub
theorem fix_opened_sub : (openedL (fixL V)).Sublist (openedL V) := List.Sublist.append List.filter_sublist fix_raised_sub
theorem nodup_sub {α : Type} [BEq α] [LawfulBEq α] {a b : List α} (hs : a.Sublist b) (hb : b.Nodup) : b.filter (fun x => a.contains x) = a := by
  induction hs with
  | slnil => rfl
  | cons x hs ih =>
    rename_i l1 l2
    have hx := (List.nodup_cons.mp hb)
    have hn : x ∉ l1 := fun h => hx.1 (hs.subset h)
    rw [List.filter_cons_of_neg (by simpa using hn)]
    exact ih hx.2
  | cons_cons x hs ih =>
    rename_i l1 l2
    have hx := (List.nodup_cons.mp hb)
    have key : l2.filter (fun y => (x :: l1).contains y) = l2.filter (fun y => l1.contains y) := List.filter_congr (fun y hy => by
      have hne : y ≠ x := fun e => hx.1 (e ▸ hy)
      simp [hne])
    rw [List.filter_cons_of_pos (by simp), key, ih hx.2]
theorem fix_may (hn : (openedL V).Nodup) (ht : V.top.Perm (raisedL V)) : MayS (fixL V) := by
  have hp : ∀ x ∈ fixPs V, ∃ y, y ∈ fixSt V ∧ fixS V.tree y = x := fun x hx => List.mem_map.mp hx
  refine ⟨fun x hx => (List.mem_filter.mp hx).2, fun x hx => (List.mem_filter.mp hx).2, fun x hx => ?_, fun x hx => ?_, fix_opened_sub.nodup hn, ?_⟩
  · obtain ⟨y, hy, rfl⟩ := hp x hx
    have := (List.mem_filter.mp hy).2
    show popB V.tree (fixS V.tree y).node = true
    rw [fixS_node]
    exact this
  · obtain ⟨y, hy, rfl⟩ := hp x hx
    exact fixS_fits _ _
  · show (V.top.filter (containsB (raisedL (fixV1 V)))).Perm (raisedL (fixV1 V))
    have h1 := ht.filter (containsB (raisedL (fixV1 V)))
    have h2 : (raisedL V).filter (containsB (raisedL (fixV1 V))) = raisedL (fixV1 V) := by
      have h3 := nodup_sub (fix_raised_sub (V := V)) (List.nodup_append.mp hn).2.1
      rw [← h3]
      refine List.filter_congr (fun y _ => ?_)
      rw [h3, containsB, List.contains_eq_mem]
    rw [h2] at h1
    exact h1
theorem fix_gone : fixG (fixL V) = [] := by
  have h3 : fixGo (fixL V) = [] := by
    show (fixPs V).filter (notB (fun x => popB V.tree x.node)) = []
    rw [List.filter_eq_nil_iff]
    intro x hx
    obtain ⟨y, hy, rfl⟩ := List.mem_map.mp hx
    have := (List.mem_filter.mp hy).2
    simp only [notB, fixS_node, this]
    decide
  have h1 : fixNo (fixL V) = [] := notB_filter _ _
  have h2 : fixNm (fixL V) = [] := notB_filter _ _
  rw [fixG, h1, h2, h3]
  rfl
theorem filter_idem {α : Type} (p : α → Bool) (l : List α) : (l.filter p).filter p = l.filter p := by
  rw [List.filter_filter]
  exact List.filter_congr (fun x _ => by cases p x <;> rfl)
theorem fix_fix : fixL (fixL V) = fixL V := by
  have h1 : fixOp (fixL V) = fixOp V := filter_idem _ _
  have h2 : fixMd (fixL V) = fixMd V := filter_idem _ _
  have h3 : fixPs (fixL V) = fixPs V := by
    show ((fixPs V).filter (fun x => popB V.tree x.node)).map (fixS V.tree) = fixPs V
    have e : (fixPs V).filter (fun x => popB V.tree x.node) = fixPs V := by
      rw [List.filter_eq_self]
      intro x hx
      obtain ⟨y, hy, rfl⟩ := List.mem_map.mp hx
      rw [fixS_node]
      exact (List.mem_filter.mp hy).2
    rw [e]
    refine (List.map_congr_left (fun x hx => ?_)).trans (List.map_id _)
    obtain ⟨y, hy, rfl⟩ := List.mem_map.mp hx
    rw [fixS, if_pos (fixS_fits _ _)]
    rfl
  have hv : fixV1 (fixL V) = fixV1 V := by
    show ({ tree := V.tree, op := fixOp (fixL V), modal := fixMd (fixL V), pops := fixPs (fixL V), top := [] } : Vw) = _
    rw [h1, h2, h3]
    rfl
  have h4 : fixTp (fixL V) = fixTp V := by
    show (fixTp V).filter (containsB (raisedL (fixV1 (fixL V)))) = fixTp V
    rw [hv]
    exact filter_idem _ _
  show ({ tree := V.tree, op := fixOp (fixL V), modal := fixMd (fixL V), pops := fixPs (fixL V), top := fixTp (fixL V) } : Vw) = _
  rw [h1, h2, h3, h4]
  rfl
theorem fix_len : (fixG V).length + (fixOp V).length + (fixMd V).length + (fixPs V).length = V.op.length + V.modal.length + V.pops.length := by
  have h1 := filter_len (dlgB V.tree) V.op
  have h2 := filter_len (dlgB V.tree) V.modal
  have h3 := filter_len (fun x : Sh => popB V.tree x.node) V.pops
  rw [fixPs_len]
  show (V.op.filter _ ++ V.modal.filter _ ++ nodesL' (V.pops.filter _)).length + (V.op.filter _).length + (V.modal.filter _).length + (V.pops.filter _).length = _
  rw [List.length_append, List.length_append, nodesL'_len]
  omega
end
end Go.Proofs.YtclhimodopgeoaaGreat

namespace Go.Proofs.YtclhimodopgeoaaGreat
open Go.RowKit

/-- A view that lies in a box. -/
structure BoxV (w : World) (b : Nat) (t o m p q : Value) : Prop where
  c0 : w.cell? ⟨b, 0, none⟩ = some t
  c1 : w.cell? ⟨b, 1, none⟩ = some o
  c2 : w.cell? ⟨b, 2, none⟩ = some m
  c3 : w.cell? ⟨b, 3, none⟩ = some p
  c4 : w.cell? ⟨b, 4, none⟩ = some q
theorem BoxV.below {w w' : World} {b : Nat} {t o m p q : Value} (h : BoxV w b t o m p q) (hb : Below w.heap.size w w') : BoxV w' b t o m p q :=
  ⟨cell_below hb h.c0, cell_below hb h.c1, cell_below hb h.c2, cell_below hb h.c3, cell_below hb h.c4⟩
theorem BoxV.new (w : World) (t o m p q : Value) (ty : TypeId) : BoxV (w.alloc (.cells #[t, o, m, p, q] ty)) w.heap.size t o m p q := by
  constructor <;> simp
theorem alB (w : World) (o : Obj) : Below w.heap.size w (w.alloc o) := (Below.refl _ w).alloc (Nat.le_refl _) o
theorem BoxV.lt {w : World} {b : Nat} {t o m p q : Value} (h : BoxV w b t o m p q) : b < w.heap.size := below_of_cell h.c0

theorem shaped {f : Nat} {args : Array Value} {w : World} {er : Int} {V : Vw} (h : Calls Tryz.prog f args w fun x w' => ∃ t o m p q, x = .returned (.tuple #[.agg #[t, o, m, p, q], .int .i64 er]) ∧ ViewAt w' t o m p q V ∧ Below w.heap.size w w')
    (n0 n1 n2 n3 n4 : Nat) (h0 : V.tree.length = n0) (h1 : V.op.length = n1) (h2 : V.modal.length = n2) (h3 : V.pops.length = n3) (h4 : V.top.length = n4) :
    Calls Tryz.prog f args w fun x w' => ∃ a0 c0 a1 c1 a2 c2 a3 c3 a4 c4, x = .returned (.tuple #[.agg #[.slice a0 n0 c0, .slice a1 n1 c1, .slice a2 n2 c2, .slice a3 n3 c3, .slice a4 n4 c4], .int .i64 er]) ∧ ViewAt w' (.slice a0 n0 c0) (.slice a1 n1 c1) (.slice a2 n2 c2) (.slice a3 n3 c3) (.slice a4 n4 c4) V ∧ Below w.heap.size w w' := by
  refine h.mono ?_
  rintro x w' ⟨t, o, m, p, q, rfl, hv, hb⟩
  obtain ⟨a0, c0, rfl⟩ := hv.tree.shape
  obtain ⟨a1, c1, rfl⟩ := hv.op.shape
  obtain ⟨a2, c2, rfl⟩ := hv.modal.shape
  obtain ⟨a3, c3, rfl⟩ := hv.pops.shape
  obtain ⟨a4, c4, rfl⟩ := hv.top.shape
  subst h0 h1 h2 h3 h4
  exact ⟨_, _, _, _, _, _, _, _, _, _, rfl, hv, hb⟩
theorem shapedF {args : Array Value} {w : World} {V : Vw} {G : List Int} (h : Calls Tryz.prog 22 args w fun x w' => ∃ t o m p q a c, x = .returned (.tuple #[.agg #[t, o, m, p, q], .slice a G.length c, .int .i64 0]) ∧ ViewAt w' t o m p q V ∧ IntsAt w' (.slice a G.length c) G ∧ Below w.heap.size w w')
    (n0 n1 n2 n3 n4 n5 : Nat) (h0 : V.tree.length = n0) (h1 : V.op.length = n1) (h2 : V.modal.length = n2) (h3 : V.pops.length = n3) (h4 : V.top.length = n4) (h5 : G.length = n5) :
    Calls Tryz.prog 22 args w fun x w' => ∃ a0 c0 a1 c1 a2 c2 a3 c3 a4 c4 a5 c5, x = .returned (.tuple #[.agg #[.slice a0 n0 c0, .slice a1 n1 c1, .slice a2 n2 c2, .slice a3 n3 c3, .slice a4 n4 c4], .slice a5 n5 c5, .int .i64 0]) ∧ ViewAt w' (.slice a0 n0 c0) (.slice a1 n1 c1) (.slice a2 n2 c2) (.slice a3 n3 c3) (.slice a4 n4 c4) V ∧ IntsAt w' (.slice a5 n5 c5) G ∧ Below w.heap.size w w' := by
  refine h.mono ?_
  rintro x w' ⟨t, o, m, p, q, a5, c5, rfl, hv, hg, hb⟩
  obtain ⟨a0, c0, rfl⟩ := hv.tree.shape
  obtain ⟨a1, c1, rfl⟩ := hv.op.shape
  obtain ⟨a2, c2, rfl⟩ := hv.modal.shape
  obtain ⟨a3, c3, rfl⟩ := hv.pops.shape
  obtain ⟨a4, c4, rfl⟩ := hv.top.shape
  subst h0 h1 h2 h3 h4 h5
  exact ⟨_, _, _, _, _, _, _, _, _, _, _, _, rfl, hv, hg, hb⟩
end Go.Proofs.YtclhimodopgeoaaGreat

namespace Go.Proofs.YtclhimodopgeoaaGreat
open Go.RowKit
set_option maxRecDepth 100000 in
set_option maxHeartbeats 8000000 in
theorem fixOk (tv ov mv pv qv : Value) (V : Vw) (w : World) (hV : ViewAt w tv ov mv pv qv V) (hS : Sane V.tree) (hl : smallL V) (hm : mayB V.tree = true) (htl : V.tree.length ≤ 1000) :
    Calls Tryz.prog 22 #[.agg #[tv, ov, mv, pv, qv]] w fun x w' => ∃ t o m p q a c, x = .returned (.tuple #[.agg #[t, o, m, p, q], .slice a (fixG V).length c, .int .i64 0]) ∧ ViewAt w' t o m p q (fixL V) ∧ IntsAt w' (.slice a (fixG V).length c) (fixG V) ∧ Below w.heap.size w w' := by
  obtain ⟨hT, hO, hM, hP, hQ⟩ := hV
  obtain ⟨ta, tc, rfl⟩ := hT.shape
  obtain ⟨oa, oc, rfl⟩ := hO.shape
  obtain ⟨ma, mc, rfl⟩ := hM.shape
  obtain ⟨pa, pc, rfl⟩ := hP.shape
  obtain ⟨qa, qc, rfl⟩ := hQ.shape
  obtain ⟨W0, hW0⟩ : ∃ W0, (w.alloc (.cells #[.slice ta V.tree.length tc, .slice oa V.op.length oc, .slice ma V.modal.length mc, .slice pa V.pops.length pc, .slice qa V.top.length qc] 27)).alloc (.cells #[.slice none 0 0, .slice none 0 0, .slice none 0 0, .slice none 0 0, .slice none 0 0] 27) = W0 := ⟨_, rfl⟩
  have hbw : Below w.heap.size w W0 := by rw [← hW0]; exact ((Below.refl _ w).alloc (Nat.le_refl _) _).alloc (by simp) _
  have HB0 := hideG hbw
  have P0 := hideG (show W0.cell? ⟨w.heap.size, 0, none⟩ = some (.slice ta V.tree.length tc) by rw [← hW0]; exact cell_alloc_l _ (by simp))
  have P1 := hideG (show W0.cell? ⟨w.heap.size, 1, none⟩ = some (.slice oa V.op.length oc) by rw [← hW0]; exact cell_alloc_l _ (by simp))
  have P2 := hideG (show W0.cell? ⟨w.heap.size, 2, none⟩ = some (.slice ma V.modal.length mc) by rw [← hW0]; exact cell_alloc_l _ (by simp))
  have P3 := hideG (show W0.cell? ⟨w.heap.size, 3, none⟩ = some (.slice pa V.pops.length pc) by rw [← hW0]; exact cell_alloc_l _ (by simp))
  have P4 := hideG (show W0.cell? ⟨w.heap.size, 4, none⟩ = some (.slice qa V.top.length qc) by rw [← hW0]; exact cell_alloc_l _ (by simp))
  have HR := hideG (show ∀ j, j < 5 → ∃ u, W0.cell? ⟨w.heap.size + 1, j, none⟩ = some u ∧ W0.frozen? ⟨w.heap.size + 1, j, none⟩ = false from by
    have h1 := World.alloc_heap_new (w.alloc (.cells #[.slice ta V.tree.length tc, .slice oa V.op.length oc, .slice ma V.modal.length mc, .slice pa V.pops.length pc, .slice qa V.top.length qc] 27)) (.cells #[.slice none 0 0, .slice none 0 0, .slice none 0 0, .slice none 0 0, .slice none 0 0] 27)
    rw [World.size_alloc, hW0] at h1
    intro j hj
    obtain rfl | rfl | rfl | rfl | rfl : j = 0 ∨ j = 1 ∨ j = 2 ∨ j = 3 ∨ j = 4 := by omega
    all_goals exact ⟨.slice none 0 0, by simp [World.cell?, h1], by simp [World.frozen?, h1]⟩)
  have hs0 : W0.heap.size = w.heap.size + 2 := by rw [← hW0]; simp
  have HS0 := hideG hs0
  have HV := hideG (show ViewAt w _ _ _ _ _ V from ⟨hT, hO, hM, hP, hQ⟩)
  have HV0 := hideG (HV.out.below hbw)
  have HW0 := hideG hW0
  have HS := hideG hS
  have HL := hideG hl
  have HC := hideG (check_any V.tree HS.out _ W0 HV0.out.tree)
  have HE := hideG (show checkE V.tree = 0 by simp [checkE, hm])
  rw [HE.out] at HC
  have HM := hideG hm
  have h1l : V.op.length ≤ 500 := hl.1
  have h2l : V.modal.length ≤ 500 := hl.2.1
  have h3l : V.pops.length ≤ 500 := hl.2.2.1
  have h4l : V.top.length ≤ 1000 := hl.2.2.2
  have HTL := hideG htl
  have p0 := P0.out
  clear hW0 hT hO hM hP hQ hS hl hbw hs0 hm HE htl
  go_enter Tryz.func22, Tryz.ntmps22
  go_wp2_with fail
  rw [HW0.out]
  refine HC.out.mono ?_
  rintro ex w1 ⟨rfl, hb1⟩
  have HX1 := hideG hb1
  clear hb1 p0
  have p0 := cell_below HX1.out P0.out
  go_wp2_with fail
  clear p0
  refine (judgeOf_any V.tree HS.out _ w1 (HV0.out.tree.below HX1.out)).mono ?_
  rintro ex w2 ⟨ca, cc, rfl, hI2, hb2⟩
  have HX2 := hideG (HX1.out.trans (hb2.mono HX1.out.size))
  have hs2 : w.heap.size + 2 ≤ w2.heap.size := by have := HX2.out.size; have := HS0.out; omega
  obtain ⟨W3, hW3⟩ : ∃ W3, w2.alloc (.cells #[.slice ta V.tree.length tc, .slice ca (slI V.tree 0).length cc] 65) = W3 := ⟨_, rfl⟩
  have hb3 : Below w2.heap.size w2 W3 := by rw [← hW3]; exact (Below.refl _ w2).alloc (Nat.le_refl _) _
  have hs3 : W3.heap.size = w2.heap.size + 1 := by rw [← hW3]; simp
  have J0 := hideG (show W3.cell? ⟨w2.heap.size, 0, none⟩ = some (.slice ta V.tree.length tc) by rw [← hW3]; simp)
  have J1 := hideG (show W3.cell? ⟨w2.heap.size, 1, none⟩ = some (.slice ca (slI V.tree 0).length cc) by rw [← hW3]; simp)
  have HI3 := hideG (hI2.below hb3)
  have HX3 := hideG (HX2.out.trans (hb3.mono HX2.out.size))
  have HW3 := hideG hW3
  have pz1 := cell_below HX2.out P1.out
  have hwb2 : w.heap.size < w2.heap.size := by omega
  clear hb2 hb3 hI2 hW3
  have HDH := hideG (fun (X : World) (hX : Below W3.heap.size W3 X) => hideG (show ∀ (x : Int) U, Below X.heap.size X U → Calls Tryz.prog 66 #[.agg #[.slice ta V.tree.length tc, .slice ca (slI V.tree 0).length cc], .int .i64 x] U (fun e w' => e = .returned (.bool (dlgB V.tree x)) ∧ Below U.heap.size U w') from fun x U hU => by
    have hbU := hX.trans (hU.mono hX.size)
    exact dialog_any V.tree HM.out _ _ x U ((HV0.out.tree.below HX3.out).below hbU) (HI3.out.below hbU)))
  have HDPH := hideG (fun (X : World) (hX : Below W3.heap.size W3 X) => hideG (show ∀ (x : Sh) U, Below X.heap.size X U → Calls Tryz.prog 68 #[.agg #[.slice ta V.tree.length tc, .slice ca (slI V.tree 0).length cc], .agg #[.int .i64 x.node, .int .i64 x.inv]] U (fun e w' => e = .returned (.bool (popB V.tree x.node)) ∧ Below U.heap.size U w') from fun x U hU => by
    have hbU := hX.trans (hU.mono hX.size)
    exact popup_any V.tree HS.out HM.out _ _ x U ((HV0.out.tree.below HX3.out).below hbU) (HI3.out.below hbU)))
  go_wp2_with fail
  rw [HW3.out]
  clear pz1 hwb2
  refine (part66n (dlgB V.tree) (.agg #[.slice ta V.tree.length tc, .slice ca (slI V.tree 0).length cc]) V.op (fixOp V) (fixNo V) rfl rfl _ W3 (HDH.out W3 (Below.refl _ _)) (HV0.out.op.below HX3.out) (by omega)).mono ?_
  rintro ex w4 ⟨o1, oc1, o2, oc2, rfl, ho1, ho2, _, hb4⟩
  have O1 := hideG (rowInts (rowIn_of ho1))
  have O1R := hideG (rowIn_of ho1)
  have O2R := hideG (rowIn_of ho2)
  have hsz4 := hb4.size
  have HX34 := hideG hb4
  have HX4 := hideG (HX3.out.trans (hb4.mono HX3.out.size))
  have p2 := cell_below HX4.out P2.out
  have j0 := cell_below hb4 J0.out
  have j1 := cell_below hb4 J1.out
  have hwb : w.heap.size < w4.heap.size := below_of_cell p2
  clear ho1 ho2 hb4
  go_wp2_with fail
  clear p2 j0 j1 hwb
  refine (part66n (dlgB V.tree) (.agg #[.slice ta V.tree.length tc, .slice ca (slI V.tree 0).length cc]) V.modal (fixMd V) (fixNm V) rfl rfl _ w4 (HDH.out w4 HX34.out) (HV0.out.modal.below HX4.out) (by omega)).mono ?_
  rintro ex w5 ⟨m1, mc1, m2, mc2, rfl, hm1, hm2, _, hb5⟩
  have M1 := hideG (rowInts (rowIn_of hm1))
  have M1R := hideG (rowIn_of hm1)
  have M2R := hideG (rowIn_of hm2)
  have H45 := hideG hb5
  have hsz5 := hb5.size
  have HO5 := hideG (O1.out.below hb5)
  have HX35 := hideG (HX34.out.trans (hb5.mono HX34.out.size))
  have HX5 := hideG (HX4.out.trans (hb5.mono HX4.out.size))
  have p3 := cell_below HX5.out P3.out
  have j0 := cell_below HX35.out J0.out
  have j1 := cell_below HX35.out J1.out
  have hwb : w.heap.size < w5.heap.size := below_of_cell p3
  clear hm1 hm2 hb5
  go_wp2_with fail
  clear p3 j0 j1 hwb
  refine (part68n (fun x => popB V.tree x.node) (.agg #[.slice ta V.tree.length tc, .slice ca (slI V.tree 0).length cc]) V.pops (fixSt V) (fixGo V) rfl rfl _ w5 (HDPH.out w5 HX35.out) (HV0.out.pops.below HX5.out) (by omega)).mono ?_
  rintro ex v6 ⟨p1, pc1, p2, pc2, rfl, hp1, hp2, hap, hb6⟩
  have HP1 := hideG hp1
  have HP2 := hideG hp2
  have HAP := hideG hap
  have HB6 := hideG hb6
  have hsz6 := hb6.size
  have hST : (fixSt V).length ≤ 500 := Nat.le_trans (List.length_filter_le _ _) h3l
  have HGOL := hideG (show (fixGo V).length ≤ 500 from Nat.le_trans (List.length_filter_le _ _) h3l)
  have p0 := cell_below HB6.out (cell_below HX5.out P0.out)
  clear hp1 hp2 hap hb6
  go_wp2_with fail
  clear p0
  go_loopw [53] (fun i wr => ∃ k : Nat, k ≤ (fixSt V).length ∧ i = .int .i64 (k : Int) ∧ wr.ownsRow w5.heap.size 39 2 (.slice p1 (fixSt V).length pc1) (fixSt V).length (shCells (fixTo V.tree (fixSt V) k)) ∧ wr.ownsRow w5.heap.size 39 2 (.slice p2 (fixGo V).length pc2) (fixGo V).length (shCells (fixGo V)) ∧ Below w5.heap.size w5 wr ∧ v6.heap.size ≤ wr.heap.size) (fun i _ => (fixSt V).length - (intOf i).toNat)
  case atStart => exact ⟨0, Nat.zero_le _, rfl, by rw [fixTo_zero]; exact HP1.out, HP2.out, HB6.out, Nat.le_refl _⟩
  case round =>
    obtain ⟨k, hk, rfl, hr1, hr2, hbw, hsw⟩ := hrel
    have HR1 := hideG hr1
    have HR2 := hideG hr2
    have HBW := hideG hbw
    have HSW := hideG hsw
    have hHX := HX5.out.trans (hbw.mono HX5.out.size)
    have p0 := cell_below hHX P0.out
    have HXW := hideG hHX
    clear hr1 hr2 hbw hsw hHX
    by_cases hlt : k < (fixSt V).length
    · obtain ⟨g, hg⟩ : ∃ g, p1 = some ⟨g, 0, none⟩ := by
        rcases HR1.out.2 with ⟨_, h0⟩ | ⟨g, cap, cur, e, _⟩
        · omega
        · simp only [Value.slice.injEq] at e
          exact ⟨g, e.1⟩
      obtain ⟨off, hoff⟩ : ∃ off : Nat, off = 0 := ⟨_, rfl⟩
      have hg' : p1 = some ⟨g, off, none⟩ := by rw [hoff]; exact hg
      have HR1z := hideG (show wr.ownsRow w5.heap.size 39 2 (.slice (some ⟨g, 0, none⟩) (fixSt V).length pc1) (fixSt V).length (shCells (fixTo V.tree (fixSt V) k)) by rw [← hg]; exact HR1.out)
      have HAPz := hideG (show Apart (.slice p2 (fixGo V).length pc2) (.slice (some ⟨g, 0, none⟩) (fixSt V).length pc1) by rw [← hg]; exact HAP.out.symm)
      have hkl : k < (fixTo V.tree (fixSt V) k).length := by rw [fixTo_len]; exact hlt
      have e01 := shCells_at hkl
      rw [fixTo_get hlt] at e01
      have HG0 := hideG (show w5.heap.size ≤ g from (HR1z.out.lt g rfl).1)
      have HOFF := hideG hoff
      have HPE := hideG hg
      have c0 : wr.cell? ⟨g, off + k * 2, none⟩ = some (.int .i64 ((fixSt V).getD k shD).node) := by rw [hoff, Nat.zero_add, HR1z.out.cellAt _ (by omega)]; exact e01.1
      have c1 : wr.cell? ⟨g, off + k * 2 + 1, none⟩ = some (.int .i64 ((fixSt V).getD k shD).inv) := by rw [hoff, Nat.zero_add, HR1z.out.cellAt _ (by omega)]; exact e01.2
      have f1 : wr.frozen? ⟨g, off + k * 2 + 1, none⟩ = false := HR1z.out.frozenAt _
      have HGET := hideG (fixTo_get (T := V.tree) hlt)
      have HK1 := hideG (fun h => fixTo_keep (T := V.tree) hlt h)
      have HK2 := hideG (fun h => fixTo_set (T := V.tree) hlt h)
      have hgb : g < wr.heap.size := below_of_cell c0
      have hgw : w.heap.size ≠ g := by have := HG0.out; omega
      have hk0 : (0 : Int) ≤ (k : Int) := by omega
      clear hg hoff e01 hkl HR1
      subst hg'
      generalize (fixSt V).getD k shD = x at *
      have hlt0 : w.heap.size < wr.heap.size := below_of_cell p0
      have hAL := ((Below.refl _ wr).alloc (Nat.le_refl _) (.cells #[.int .i64 x.node, .int .i64 x.inv] 39))
      have HAL := hideG hAL
      clear hAL
      cases hf : fitsB V.tree x
      · have HF := hideG hf
        have HFE := hideG (HK2.out hf)
        clear hf
        go_wp2_with fail
        refine (fits_any V.tree ta tc x _).mono ?_
        rintro ex w1 ⟨rfl, hb1⟩
        rw [HF.out]
        have hb1' := HAL.out.trans (hb1.mono HAL.out.size)
        have hc0 := cell_below hb1' c0
        have hc1 := cell_below hb1' c1
        have hf1 := frozen_below hb1' c1 f1
        have HB1 := hideG hb1'
        have HRW := hideG (ownsRow_below HR1z.out HB1.out (fun j e => (HR1z.out.lt j e).2))
        have HR2W := hideG (ownsRow_below HR2.out HB1.out (fun j e => (HR2.out.lt j e).2))
        have HST1 := hideG (HRW.out.stored (k * 2 + 1) (.int .i64 (-1)))
        have hgb1 : g < w1.heap.size := below_of_cell hc0
        have HEA := hideG (show (⟨g, off + k * 2 + 1, none⟩ : Addr) = ⟨g, k * 2 + 1, none⟩ by rw [HOFF.out, Nat.zero_add])
        have HSET := hideG (show (shCells (fixTo V.tree (fixSt V) k)).set (k * 2 + 1) (.int .i64 (-1)) = shCells (fixTo V.tree (fixSt V) (k + 1)) by rw [HFE.out, shCells_set _ _ _ (by rw [fixTo_len]; exact hlt), HGET.out])
        clear c0 c1 f1 p0 hb1 hb1' hlt0
        go_wp2_with fail
        go_roundw
        case rel => exact ⟨k + 1, by omega, by go_num, by rw [HEA.out, ← HSET.out]; rw [HOFF.out]; exact HST1.out.1, by rw [HEA.out]; exact HR2W.out.kept HST1.out.2 (Apart.hne HAPz.out), by rw [HEA.out]; exact (HBW.out.trans (HB1.out.mono HBW.out.size)).setCell (p := ⟨g, k * 2 + 1, none⟩) HG0.out _, by rw [World.size_setCell]; exact Nat.le_trans HSW.out HB1.out.size⟩
        case measure => simp [intOf]; omega
      · have HF := hideG hf
        have HFE := hideG (HK1.out hf)
        clear hf
        go_wp2_with fail
        refine (fits_any V.tree ta tc x _).mono ?_
        rintro ex w1 ⟨rfl, hb1⟩
        rw [HF.out]
        have HB1 := hideG (HAL.out.trans (hb1.mono HAL.out.size))
        clear c0 c1 f1 p0 hb1 hlt0
        go_wp2_with fail
        go_roundw
        case rel => exact ⟨k + 1, by omega, by go_num, by rw [HFE.out]; rw [HOFF.out]; exact ownsRow_below HR1z.out HB1.out (fun j e => (HR1z.out.lt j e).2), ownsRow_below HR2.out HB1.out (fun j e => (HR2.out.lt j e).2), HBW.out.trans (HB1.out.mono HBW.out.size), Nat.le_trans HSW.out HB1.out.size⟩
        case measure => simp [intOf]; omega
    · have hke : k = (fixSt V).length := by omega
      subst hke
      rw [fixTo_all] at HR1
      have HB6 := hideG HBW.out
      have P1R := hideG (show RowIn wr (w5.heap.size, wr.heap.size) 39 2 (.slice p1 (fixSt V).length pc1) (fixSt V).length (shCells (fixPs V)) from ⟨HR1.out, fun k hk => (HR1.out.lt k hk).2⟩)
      have P2R := hideG (show RowIn wr (w5.heap.size, wr.heap.size) 39 2 (.slice p2 (fixGo V).length pc2) (fixGo V).length (shCells (fixGo V)) from ⟨HR2.out, fun k hk => (HR2.out.lt k hk).2⟩)
      have H56 := hideG HBW.out
      have hsz6 := H56.out.size
      have PP1 := hideG (show ShsAt wr (.slice p1 (fixSt V).length pc1) (fixPs V) from rowShs' (fixPs_len V) P1R.out)
      have HO6 := hideG (HO5.out.below H56.out)
      have HM6 := hideG (M1.out.below H56.out)
      have HX6 := hideG HXW.out
      have HX36 := HX35.out.trans (H56.out.mono HX35.out.size)
      have hs6 : w2.heap.size + 1 ≤ wr.heap.size := by have := HX36.size; omega
      clear HR1 HR2 HBW HSW HXW HB6
      go_wp2_with fail
      clear p0
      refine (treeCopy_any V.tree HS.out _ wr (HV0.out.tree.below HX6.out) HTL.out).mono ?_
      rintro ex w7 ⟨tv', rfl, hti, hb7⟩
      obtain ⟨a5, k5, rfl⟩ := hti.at.shape
      have HTI := hideG hti
      obtain ⟨W8, hW8⟩ : ∃ W8, w7.alloc (.cells #[.slice a5 V.tree.length k5, .slice o1 (fixOp V).length oc1, .slice m1 (fixMd V).length mc1, .slice p1 (fixSt V).length pc1, .slice none 0 0] 27) = W8 := ⟨_, rfl⟩
      have hnew := World.alloc_heap_new w7 (.cells #[.slice a5 V.tree.length k5, .slice o1 (fixOp V).length oc1, .slice m1 (fixMd V).length mc1, .slice p1 (fixSt V).length pc1, .slice none 0 0] 27)
      rw [hW8] at hnew
      have hb8 : Below w7.heap.size w7 W8 := by rw [← hW8]; exact (Below.refl _ w7).alloc (Nat.le_refl _) _
      have hs8 : W8.heap.size = w7.heap.size + 1 := by rw [← hW8]; simp
      have hs7 := hb7.size
      have hb68 := hb7.trans (hb8.mono hb7.size)
      have H68 := hideG hb68
      have HX8 := hideG (HX6.out.trans (hb68.mono HX6.out.size))
      have HO8 := hideG (HO6.out.below hb68)
      have HM8 := hideG (HM6.out.below hb68)
      have PP8 := hideG (PP1.out.below hb68)
      have HT8 := hideG (hti.at.below hb8)
      have HV8 := hideG (show ViewAt W8 (.slice a5 V.tree.length k5) (.slice o1 (fixOp V).length oc1) (.slice m1 (fixMd V).length mc1) (.slice p1 (fixSt V).length pc1) (.slice none 0 0) (fixV1 V) from ⟨HT8.out, HO8.out, HM8.out, PP8.out, ints_none _⟩)
      have HSB8 := hideG (show Sb (fun j => j = w7.heap.size ∨ j = w.heap.size + 1) w7 W8 from Sb.of_below hb8)
      have D0 := hideG (show W8.cell? ⟨w7.heap.size, 0, none⟩ = some (.slice a5 V.tree.length k5) ∧ W8.frozen? ⟨w7.heap.size, 0, none⟩ = false from ⟨by simp [World.cell?, hnew], by simp [World.frozen?, hnew]⟩)
      have D1 := hideG (show W8.cell? ⟨w7.heap.size, 1, none⟩ = some (.slice o1 (fixOp V).length oc1) ∧ W8.frozen? ⟨w7.heap.size, 1, none⟩ = false from ⟨by simp [World.cell?, hnew], by simp [World.frozen?, hnew]⟩)
      have D2 := hideG (show W8.cell? ⟨w7.heap.size, 2, none⟩ = some (.slice m1 (fixMd V).length mc1) ∧ W8.frozen? ⟨w7.heap.size, 2, none⟩ = false from ⟨by simp [World.cell?, hnew], by simp [World.frozen?, hnew]⟩)
      have D3 := hideG (show W8.cell? ⟨w7.heap.size, 3, none⟩ = some (.slice p1 (fixSt V).length pc1) ∧ W8.frozen? ⟨w7.heap.size, 3, none⟩ = false from ⟨by simp [World.cell?, hnew], by simp [World.frozen?, hnew]⟩)
      have D4 := hideG (show W8.cell? ⟨w7.heap.size, 4, none⟩ = some (.slice none 0 0) ∧ W8.frozen? ⟨w7.heap.size, 4, none⟩ = false from ⟨by simp [World.cell?, hnew], by simp [World.frozen?, hnew]⟩)
      have HW8 := hideG hW8
      have HMDL := hideG (show (fixMd V).length ≤ 500 from Nat.le_trans (List.length_filter_le _ _) h2l)
      have HPSL := hideG (show (fixPs V).length ≤ 500 from (by rw [fixPs_len]; exact hST))
      have HRS := hideG (show (raisedL (fixV1 V)).length ≤ 1000 by have h1 := HMDL.out; have h2 := HPSL.out; show ((fixMd V) ++ nodesL' (fixPs V)).length ≤ 1000; rw [List.length_append, nodesL'_len]; omega)
      clear hti hb7 hb8 hb68 hW8 hnew
      go_wp2_with fail
      rw [HW8.out]
      refine (raised_any _ _ _ _ _ (fixV1 V) W8 HV8.out ⟨by have := HMDL.out; show (fixMd V).length ≤ 1000; omega, by have := HPSL.out; show (fixPs V).length ≤ 1000; omega⟩).mono ?_
      rintro ex w9 ⟨ra, rc, rfl, hr9, hb9⟩
      have HR9 := hideG (ownsRow_ints hr9)
      have hs9 := hb9.size
      obtain ⟨W10, hW10⟩ : ∃ W10, w9.alloc (.cells #[.slice ra (raisedL (fixV1 V)).length rc] 24) = W10 := ⟨_, rfl⟩
      have hb10 : Below w9.heap.size w9 W10 := by rw [← hW10]; exact (Below.refl _ w9).alloc (Nat.le_refl _) _
      have hs10 : W10.heap.size = w9.heap.size + 1 := by rw [← hW10]; simp
      have G0 := hideG (show W10.cell? ⟨w9.heap.size, 0, none⟩ = some (.slice ra (raisedL (fixV1 V)).length rc) by rw [← hW10]; simp)
      have HR10 := hideG (HR9.out.below hb10)
      have hb810 := hb9.trans (hb10.mono hb9.size)
      have HX10 := hideG (HX8.out.trans (hb810.mono HX8.out.size))
      have HX810 := hideG hb810
      have HW10 := hideG hW10
      have pw4 := cell_below (HX8.out.trans (hb9.mono HX8.out.size)) P4.out
      have hwb9 : w.heap.size < w9.heap.size := by omega
      clear hr9 hb9 hb10 hb810 hW10
      go_wp2_with fail
      rw [HW10.out]
      clear pw4 hwb9
      refine (part72n (containsB (raisedL (fixV1 V))) (.pointer (some ⟨w9.heap.size, 0, none⟩)) V.top (fixTp V) _ rfl rfl _ W10 (hideG (fun x U hU => fix1_any (raisedL (fixV1 V)) _ x (w9.heap.size) U (cell_below hU G0.out) (HR10.out.below hU) (by have := HRS.out; omega))) (HV0.out.top.below HX10.out) (by omega)).mono ?_
      rintro ex w11 ⟨t1, tc1, t2, tc2, rfl, ht1, _, _, hb11⟩
      have HTP := hideG (rowIn_of ht1)
      have hs11 := hb11.size
      have HX8w := hideG (HX810.out.trans (hb11.mono HX810.out.size))
      have HXw := hideG (HX10.out.trans (hb11.mono HX10.out.size))
      have HR11 := hideG (show ∀ j, j < 5 → ∃ u, w11.cell? ⟨w.heap.size + 1, j, none⟩ = some u ∧ w11.frozen? ⟨w.heap.size + 1, j, none⟩ = false from fun j hj => let ⟨u, h1, h2⟩ := HR.out j hj; ⟨u, cell_below HXw.out h1, frozen_below HXw.out h1 h2⟩)
      have d0 := cell_below HX8w.out D0.out.1
      have df0 := frozen_below HX8w.out D0.out.1 D0.out.2
      have d1 := cell_below HX8w.out D1.out.1
      have df1 := frozen_below HX8w.out D1.out.1 D1.out.2
      have d2 := cell_below HX8w.out D2.out.1
      have df2 := frozen_below HX8w.out D2.out.1 D2.out.2
      have d3 := cell_below HX8w.out D3.out.1
      have df3 := frozen_below HX8w.out D3.out.1 D3.out.2
      have d4 := cell_below HX8w.out D4.out.1
      have df4 := frozen_below HX8w.out D4.out.1 D4.out.2
      obtain ⟨W12, hW12⟩ : ∃ W12, w11.setCell ⟨w7.heap.size, 4, none⟩ (.slice t1 (fixTp V).length tc1) = W12 := ⟨_, rfl⟩
      have hs12 : W12.heap.size = w11.heap.size := by rw [← hW12]; simp
      have hs8' : w7.heap.size + 1 ≤ w11.heap.size := by have := HX8w.out.size; omega
      have E0 := hideG (show W12.cell? ⟨w7.heap.size, 0, none⟩ = some (.slice a5 V.tree.length k5) by rw [← hW12]; exact set_other d0 (by decide))
      have E1 := hideG (show W12.cell? ⟨w7.heap.size, 1, none⟩ = some (.slice o1 (fixOp V).length oc1) by rw [← hW12]; exact set_other d1 (by decide))
      have E2 := hideG (show W12.cell? ⟨w7.heap.size, 2, none⟩ = some (.slice m1 (fixMd V).length mc1) by rw [← hW12]; exact set_other d2 (by decide))
      have E3 := hideG (show W12.cell? ⟨w7.heap.size, 3, none⟩ = some (.slice p1 (fixSt V).length pc1) by rw [← hW12]; exact set_other d3 (by decide))
      have E4 := hideG (show W12.cell? ⟨w7.heap.size, 4, none⟩ = some (.slice t1 (fixTp V).length tc1) by rw [← hW12]; exact set_same d4)
      have hbr : w.heap.size + 1 < w7.heap.size := by omega
      have HR12 := hideG (show ∀ j, j < 5 → ∃ u, W12.cell? ⟨w.heap.size + 1, j, none⟩ = some u ∧ W12.frozen? ⟨w.heap.size + 1, j, none⟩ = false from fun j hj => by
        obtain ⟨u, h1, h2⟩ := HR11.out j hj
        rw [← hW12]
        exact ⟨u, set_otherB h1 (by omega), by rw [World.frozen?_setCell]; exact h2⟩)
      have HB12 := hideG (show Below w.heap.size w W12 by
        rw [← hW12]
        exact (HB0.out.trans (HXw.out.mono HB0.out.size)).setCell (p := ⟨w7.heap.size, 4, none⟩) (by show w.heap.size ≤ w7.heap.size; omega) _)
      have hSB12 : Sb (fun j => j = w7.heap.size ∨ j = w.heap.size + 1) w11 W12 := by rw [← hW12]; exact Sb.set (.inl rfl)
      have HS12 := hideG hSB12
      have HW12 := hideG hW12
      clear hW12 hSB12 hb11 ht1
      go_wp2_with fail
      rw [HW12.out]
      have SA := ((((Sb.of_below (Bad := fun j => j = w7.heap.size ∨ j = w.heap.size + 1) H45.out).trans (Sb.of_below H56.out)).trans (Sb.of_below H68.out)).trans (Sb.of_below HX8w.out)).trans HS12.out
      have SM := ((((Sb.of_below (Bad := fun j => j = w7.heap.size ∨ j = w.heap.size + 1) H56.out)).trans (Sb.of_below H68.out)).trans (Sb.of_below HX8w.out)).trans HS12.out
      have SP := (((Sb.of_below (Bad := fun j => j = w7.heap.size ∨ j = w.heap.size + 1) H68.out)).trans (Sb.of_below HX8w.out)).trans HS12.out
      have hoff : ∀ lo hi, W3.heap.size ≤ lo → hi ≤ w7.heap.size → ∀ j, lo ≤ j → j < hi → ¬ (j = w7.heap.size ∨ j = w.heap.size + 1) := fun lo hi h1 h2 j h3 h4 => by omega
      have OR1 := hideG (O1R.out.sb (Nat.le_refl _) (hoff _ _ (Nat.le_refl _) (by show w4.heap.size ≤ w7.heap.size; omega)) SA)
      have OR2 := hideG (O2R.out.sb (Nat.le_refl _) (hoff _ _ (Nat.le_refl _) (by show w4.heap.size ≤ w7.heap.size; omega)) SA)
      have MR1 := hideG (M1R.out.sb (Nat.le_refl _) (hoff _ _ (by show W3.heap.size ≤ w4.heap.size; omega) (by show w5.heap.size ≤ w7.heap.size; omega)) SM)
      have MR2 := hideG (M2R.out.sb (Nat.le_refl _) (hoff _ _ (by show W3.heap.size ≤ w4.heap.size; omega) (by show w5.heap.size ≤ w7.heap.size; omega)) SM)
      have PR := hideG (P1R.out.sb (Nat.le_refl _) (hoff _ _ (by show W3.heap.size ≤ w5.heap.size; omega) (by show wr.heap.size ≤ w7.heap.size; omega)) SP)
      have PG := hideG (P2R.out.sb (Nat.le_refl _) (hoff _ _ (by show W3.heap.size ≤ w5.heap.size; omega) (by show wr.heap.size ≤ w7.heap.size; omega)) SP)
      have TR := hideG (HTP.out.sb (Nat.le_refl _) (fun j h1 h2 => by show ¬ (j = w7.heap.size ∨ j = w.heap.size + 1); have h1' : W10.heap.size ≤ j := h1; omega) HS12.out)
      have OF2 := hideG (show ∀ j, W3.heap.size ≤ j → j < w4.heap.size → j < W12.heap.size ∧ j ≠ w.heap.size + 1 from fun j h1 h2 => by omega)
      have MF2 := hideG (show ∀ j, w4.heap.size ≤ j → j < w5.heap.size → j < W12.heap.size ∧ j ≠ w.heap.size + 1 from fun j h1 h2 => by omega)
      have PF2 := hideG (show ∀ j, w5.heap.size ≤ j → j < wr.heap.size → j < W12.heap.size ∧ j ≠ w.heap.size + 1 from fun j h1 h2 => by omega)
      have TF2 := hideG (show ∀ j, W10.heap.size ≤ j → j < w11.heap.size → j < W12.heap.size ∧ j ≠ w.heap.size + 1 from fun j h1 h2 => by omega)
      have HNOL := hideG (show (fixNo V).length ≤ 500 from Nat.le_trans (List.length_filter_le _ _) h1l)
      have HNML := hideG (show (fixNm V).length ≤ 500 from Nat.le_trans (List.length_filter_le _ _) h2l)
      have hR12 : w.heap.size + 1 < W12.heap.size := by omega
      have hS0 : CpS w W12 (w.heap.size + 1) W12.drew := ⟨below_drew' HB12.out, Nat.le_refl _, fun _ _ _ => rfl, HR12.out⟩
      have TIW := hideG (HTI.out.sb (Nat.le_refl _) (fun j h1 h2 => by show ¬ (j = w7.heap.size ∨ j = w.heap.size + 1); have h1' : wr.heap.size ≤ j := h1; have h2' : j < w7.heap.size := h2; omega) ((HSB8.out.trans (Sb.of_below HX8w.out)).trans HS12.out))
      have TO2 := hideG (show ∀ j, wr.heap.size ≤ j → j < w7.heap.size → j < W12.heap.size ∧ j ≠ w.heap.size + 1 from fun j h1 h2 => by omega)
      have hR0 : w.heap.size ≤ w.heap.size + 1 := by omega
      clear SA SM SP hoff
      try clear hoff
      try clear SP
      try clear SM
      try clear SA
      try clear HW12
      try clear HS12
      try clear hSB12
      try clear HB12
      try clear HR12
      try clear hs12
      try clear df4
      try clear d4
      try clear df3
      try clear d3
      try clear df2
      try clear d2
      try clear df1
      try clear d1
      try clear df0
      try clear d0
      try clear HR11
      try clear HXw
      try clear HX8w
      try clear hs11
      try clear HTP
      try clear hwb9
      try clear pw4
      try clear HW10
      try clear HX810
      try clear HX10
      try clear hb810
      try clear HR10
      try clear G0
      try clear hs10
      try clear hb10
      try clear hs9
      try clear HR9
      try clear h2
      try clear HRS
      try clear HPSL
      try clear HMDL
      try clear HW8
      try clear D4
      try clear D3
      try clear D2
      try clear D1
      try clear D0
      try clear HSB8
      try clear HV8
      try clear HT8
      try clear PP8
      try clear HM8
      try clear HO8
      try clear HX8
      try clear H68
      try clear hb68
      try clear hs7
      try clear hs8
      try clear hb8
      try clear hnew
      try clear HTI
      try clear hs6
      try clear HX36
      try clear HX6
      try clear HM6
      try clear HO6
      try clear PP1
      try clear H56
      try clear P2R
      try clear P1R
      try clear hke
      try clear HSET
      try clear HEA
      try clear hgb1
      try clear HST1
      try clear HR2W
      try clear HRW
      try clear HB1
      try clear hf1
      try clear hc1
      try clear hc0
      try clear hb1
      try clear HFE
      try clear HF
      try clear HAL
      try clear hAL
      try clear hlt0
      try clear hk0
      try clear hgw
      try clear hgb
      try clear HK2
      try clear HK1
      try clear HGET
      try clear f1
      try clear c1
      try clear c0
      try clear HPE
      try clear HOFF
      try clear HG0
      try clear e01
      try clear hkl
      try clear HAPz
      try clear HR1z
      try clear hg
      try clear HXW
      try clear hHX
      try clear HSW
      try clear HBW
      try clear HR2
      try clear HR1
      try clear hST
      try clear hsz6
      try clear HB6
      try clear HAP
      try clear HP2
      try clear HP1
      try clear p3
      try clear HX5
      try clear HX35
      try clear HO5
      try clear hsz5
      try clear H45
      try clear M2R
      try clear M1R
      try clear M1
      try clear hwb
      try clear j1
      try clear j0
      try clear p2
      try clear HX4
      try clear HX34
      try clear hsz4
      try clear O2R
      try clear O1R
      try clear O1
      try clear HDPH
      try clear hbU
      try clear HDH
      try clear hwb2
      try clear pz1
      try clear HW3
      try clear HX3
      try clear HI3
      try clear J1
      try clear J0
      try clear hs3
      try clear hb3
      try clear hs2
      try clear HX2
      try clear HX1
      try clear p0
      try clear HTL
      try clear h4l
      try clear h3l
      try clear h2l
      try clear h1l
      try clear HM
      try clear HE
      try clear HC
      try clear HL
      try clear HS
      try clear HW0
      try clear HV0
      try clear HV
      try clear HS0
      try clear hs0
      try clear h1
      try clear HR
      try clear P4
      try clear P3
      try clear P2
      try clear P1
      try clear P0
      try clear HB0
      try clear hbw
      refine wp_slots (fun z => { tmps := #[z 0, z 1, .pointer (some ⟨w.heap.size + 1, 0, none⟩), z 3, z 4, z 5, z 6, z 7, .slice o2 (fixNo V).length oc2, z 9, .slice m2 (fixNm V).length mc2, z 11, .slice p2 (fixGo V).length pc2, z 13, z 14, .pointer (some ⟨w7.heap.size, 0, none⟩), z 16, z 17, z 18, z 19, z 20, z 21, z 22, z 23, z 24, z 25, z 26, z 27, z 28, z 29, z 30, z 31, z 32, z 33, z 34, z 35, z 36, z 37, z 38, z 39, z 40, z 41, z 42, z 43, z 44, z 45, z 46, z 47, z 48, z 49, z 50, z 51, z 52, z 53, z 54, z 55, z 56, z 57, z 58, z 59, z 60, z 61, z 62, z 63, z 64, z 65, z 66, z 67, z 68, z 69, z 70, z 71, z 72, z 73, z 74, z 75, z 76, z 77, z 78, z 79, z 80, z 81, z 82, z 83, z 84, z 85, z 86, z 87, z 88, z 89, z 90, z 91], defers := [] }) (by rfl) (fun z => ?_)
      refine wp_region_inv (fun l a U => ∃ (f : Nat → Nat × Nat) (s85 s86 s87 s88 s89 s90 s91 s3 s4 : Value), a = { tmps := #[z 0, z 1, .pointer (some ⟨w.heap.size + 1, 0, none⟩), s3, s4, z 5, z 6, z 7, .slice o2 (fixNo V).length oc2, z 9, .slice m2 (fixNm V).length mc2, z 11, .slice p2 (fixGo V).length pc2, z 13, z 14, .pointer (some ⟨w7.heap.size, 0, none⟩), z 16, z 17, z 18, z 19, z 20, z 21, z 22, z 23, z 24, z 25, z 26, z 27, z 28, z 29, z 30, z 31, z 32, z 33, z 34, z 35, z 36, z 37, z 38, z 39, z 40, z 41, z 42, z 43, z 44, z 45, z 46, z 47, z 48, z 49, z 50, z 51, z 52, z 53, z 54, z 55, z 56, z 57, z 58, z 59, z 60, z 61, z 62, z 63, z 64, z 65, z 66, z 67, z 68, z 69, z 70, z 71, z 72, z 73, z 74, z 75, z 76, z 77, z 78, z 79, z 80, z 81, z 82, z 83, z 84, s85, s86, s87, s88, s89, s90, s91], defers := [] } ∧ CpS w W12 (w.heap.size + 1) U ∧ IvL l f 10 W12.heap.size U.heap.size ∧ Hid (l.getD 0 true = true → s85 = .agg #[.slice a5 V.tree.length k5, .slice o1 (fixOp V).length oc1, .slice m1 (fixMd V).length mc1, .slice p1 (fixSt V).length pc1, .slice t1 (fixTp V).length tc1]) ∧ Hid (l.getD 1 true = true → s86 = .slice o2 (fixNo V).length oc2) ∧ Hid (l.getD 2 true = true → s87 = .slice m2 (fixNm V).length mc2) ∧ Hid (l.getD 3 true = true → s88 = .slice p2 (fixGo V).length pc2) ∧ Hid (l.getD 4 true = true → RowIn U (f 4) 3 1 s89 (fixGo V).length (intCells (nodesL' (fixGo V)))) ∧ Hid (l.getD 5 true = true → BuiltIn U W12.heap.size s90 (.slice o2 (fixNo V).length oc2) (.slice m2 (fixNm V).length mc2) (fixGo V).length (intCells (nodesL' (fixGo V)))) ∧ Hid (l.getD 6 true = true → RowIn U (f 6) 3 1 s91 (fixG V).length (intCells (fixG V))) ∧ Hid (l.getD 7 true = true → U.cell? ⟨w.heap.size + 1, 0, none⟩ = some (.slice a5 V.tree.length k5) ∧ U.cell? ⟨w.heap.size + 1, 1, none⟩ = some (.slice o1 (fixOp V).length oc1) ∧ U.cell? ⟨w.heap.size + 1, 2, none⟩ = some (.slice m1 (fixMd V).length mc1) ∧ U.cell? ⟨w.heap.size + 1, 3, none⟩ = some (.slice p1 (fixSt V).length pc1) ∧ U.cell? ⟨w.heap.size + 1, 4, none⟩ = some (.slice t1 (fixTp V).length tc1)) ∧ Hid (l.getD 8 true = true → l.getD 6 true = true ∧ s3 = s91) ∧ Hid (l.getD 9 true = true → s4 = .int .i64 0)) (by kernel_rfl) (by kernel_rfl) ?_ ?_ ?_
      · exact ⟨fun _ => (0, 0), _, _, _, _, _, _, _, _, _, rfl, hS0, IvL.start 10 _ _ _, fun h => by simp at h, fun h => by simp at h, fun h => by simp at h, fun h => by simp at h, fun h => by simp at h, fun h => by simp at h, fun h => by simp at h, fun h => by simp at h, fun h => by simp at h, fun h => by simp at h⟩
      · intro i l a U hi hInv
        revert hInv
        refine ex_imp fun f => ?_
        refine ex_imp fun s85 => ?_
        refine ex_imp fun s86 => ?_
        refine ex_imp fun s87 => ?_
        refine ex_imp fun s88 => ?_
        refine ex_imp fun s89 => ?_
        refine ex_imp fun s90 => ?_
        refine ex_imp fun s91 => ?_
        refine ex_imp fun s3 => ?_
        refine ex_imp fun s4 => ?_
        intro hInv
        have ha := hInv.1
        have hS := hInv.2.1
        have hIv := hInv.2.2.1
        have h0 := hInv.2.2.2.1
        have h1 := hInv.2.2.2.2.1
        have h2 := hInv.2.2.2.2.2.1
        have h3 := hInv.2.2.2.2.2.2.1
        have h4 := hInv.2.2.2.2.2.2.2.1
        have h5 := hInv.2.2.2.2.2.2.2.2.1
        have h6 := hInv.2.2.2.2.2.2.2.2.2.1
        have h7 := hInv.2.2.2.2.2.2.2.2.2.2.1
        have h8 := hInv.2.2.2.2.2.2.2.2.2.2.2.1
        have h9 := hInv.2.2.2.2.2.2.2.2.2.2.2.2
        clear hInv
        subst ha
        obtain ⟨hun, o, ho, _⟩ := mem_ready.mp hi
        have hlt := (Array.getElem?_eq_some_iff.mp ho).1
        clear ho
        simp only [List.size_toArray, List.length_cons, List.length_nil, Nat.reduceAdd] at hlt
        obtain rfl | rfl | rfl | rfl | rfl | rfl | rfl | rfl | rfl | rfl : i = 0 ∨ i = 1 ∨ i = 2 ∨ i = 3 ∨ i = 4 ∨ i = 5 ∨ i = 6 ∨ i = 7 ∨ i = 8 ∨ i = 9 := by omega
        · have pz0 := hS.cell E0.out (by omega)
          have pz1 := hS.cell E1.out (by omega)
          have pz2 := hS.cell E2.out (by omega)
          have pz3 := hS.cell E3.out (by omega)
          have pz4 := hS.cell E4.out (by omega)
          refine inv_step (by rfl) (fun K hK => ?_)
          go_simp
          exact hK.out _ _ ⟨upPart f 0 (U.heap.size, _), _, _, _, _, _, _, _, _, _, rfl, hS, hIv.step (i := 0) hun (by decide) (Nat.le_refl _), fun _ => rfl, fun h => h1 (set_getD (i := 0) (by decide) h), fun h => h2 (set_getD (i := 0) (by decide) h), fun h => h3 (set_getD (i := 0) (by decide) h), fun h => h4 (set_getD (i := 0) (by decide) h), fun h => h5 (set_getD (i := 0) (by decide) h), fun h => h6 (set_getD (i := 0) (by decide) h), fun h => h7 (set_getD (i := 0) (by decide) h), fun h => (by obtain ⟨x6, x⟩ := h8 (set_getD (i := 0) (by decide) h); exact ⟨set_getD' x6, x⟩), fun h => h9 (set_getD (i := 0) (by decide) h)⟩
        · refine inv_step (by rfl) (fun K hK => ?_)
          go_simp
          exact hK.out _ _ ⟨upPart f 1 (U.heap.size, _), _, _, _, _, _, _, _, _, _, rfl, hS, hIv.step (i := 1) hun (by decide) (Nat.le_refl _), fun h => h0 (set_getD (i := 1) (by decide) h), fun _ => rfl, fun h => h2 (set_getD (i := 1) (by decide) h), fun h => h3 (set_getD (i := 1) (by decide) h), fun h => h4 (set_getD (i := 1) (by decide) h), fun h => h5 (set_getD (i := 1) (by decide) h), fun h => h6 (set_getD (i := 1) (by decide) h), fun h => h7 (set_getD (i := 1) (by decide) h), fun h => (by obtain ⟨x6, x⟩ := h8 (set_getD (i := 1) (by decide) h); exact ⟨set_getD' x6, x⟩), fun h => h9 (set_getD (i := 1) (by decide) h)⟩
        · refine inv_step (by rfl) (fun K hK => ?_)
          go_simp
          exact hK.out _ _ ⟨upPart f 2 (U.heap.size, _), _, _, _, _, _, _, _, _, _, rfl, hS, hIv.step (i := 2) hun (by decide) (Nat.le_refl _), fun h => h0 (set_getD (i := 2) (by decide) h), fun h => h1 (set_getD (i := 2) (by decide) h), fun _ => rfl, fun h => h3 (set_getD (i := 2) (by decide) h), fun h => h4 (set_getD (i := 2) (by decide) h), fun h => h5 (set_getD (i := 2) (by decide) h), fun h => h6 (set_getD (i := 2) (by decide) h), fun h => h7 (set_getD (i := 2) (by decide) h), fun h => (by obtain ⟨x6, x⟩ := h8 (set_getD (i := 2) (by decide) h); exact ⟨set_getD' x6, x⟩), fun h => h9 (set_getD (i := 2) (by decide) h)⟩
        · refine inv_step (by rfl) (fun K hK => ?_)
          go_simp
          exact hK.out _ _ ⟨upPart f 3 (U.heap.size, _), _, _, _, _, _, _, _, _, _, rfl, hS, hIv.step (i := 3) hun (by decide) (Nat.le_refl _), fun h => h0 (set_getD (i := 3) (by decide) h), fun h => h1 (set_getD (i := 3) (by decide) h), fun h => h2 (set_getD (i := 3) (by decide) h), fun _ => rfl, fun h => h4 (set_getD (i := 3) (by decide) h), fun h => h5 (set_getD (i := 3) (by decide) h), fun h => h6 (set_getD (i := 3) (by decide) h), fun h => h7 (set_getD (i := 3) (by decide) h), fun h => (by obtain ⟨x6, x⟩ := h8 (set_getD (i := 3) (by decide) h); exact ⟨set_getD' x6, x⟩), fun h => h9 (set_getD (i := 3) (by decide) h)⟩
        · have e3 := h3 (dep_of hi (d := 3) (by kernel_rfl))
          subst e3
          refine inv_step (by rfl) (fun K hK => ?_)
          go_simp
          (go_at_call 75; refine Calls.mono (nodes_any (fixGo V) _ U (rowShs (PG.out.keep (fun j j1 j2 => hS.old j (PF2.out j j1 j2).1 (PF2.out j j1 j2).2))) (by have := HGOL.out; omega)) ?_; rintro e w1' ⟨va, vc, rfl, hgot, hb⟩)
          have hk : ∀ m, W12.heap.size ≤ m → m < U.heap.size → w1'.heap[m]? = U.heap[m]? := fun m _ h2 => hb.block m h2
          have hsz := hb.size
          exact hK.out _ _ ⟨upPart f 4 (U.heap.size, _), _, _, _, _, _, _, _, _, _, rfl, hS.below hb, hIv.step (i := 4) hun (by decide) hb.size, fun h => h0 (set_getD (i := 4) (by decide) h), fun h => h1 (set_getD (i := 4) (by decide) h), fun h => h2 (set_getD (i := 4) (by decide) h), fun _ => rfl, fun _ => rowIn_of hgot, fun h => (h5 (set_getD (i := 4) (by decide) h)).keepB hk hsz, fun h => (h6 (set_getD (i := 4) (by decide) h)).keep (hIv.old (set_getD (i := 4) (by decide) h) (by decide) hk), fun h => (fun ⟨x0, x1, x2, x3, x4⟩ => ⟨cell_below hb x0, cell_below hb x1, cell_below hb x2, cell_below hb x3, cell_below hb x4⟩) (h7 (set_getD (i := 4) (by decide) h)), fun h => (by obtain ⟨x6, x⟩ := h8 (set_getD (i := 4) (by decide) h); exact ⟨set_getD' x6, x⟩), fun h => h9 (set_getD (i := 4) (by decide) h)⟩
        · have e1 := h1 (dep_of hi (d := 1) (by kernel_rfl))
          subst e1
          have e2 := h2 (dep_of hi (d := 2) (by kernel_rfl))
          subst e2
          have q4 := dep_of hi (d := 4) (by kernel_rfl)
          have hbU := hIv.base
          obtain ⟨jl1, jl2, jl3⟩ := hIv.le 4 q4 (by decide)
          obtain ⟨a9, c9, rfl⟩ := ownsRow_shape (h4 q4).1
          refine inv_step (by rfl) (fun K hK => ?_)
          go_simp
          have hb : Below U.heap.size U (U.alloc (.cells #[.slice o2 (fixNo V).length oc2, .slice m2 (fixNm V).length mc2, .slice a9 (fixGo V).length c9] 24)) := (Below.refl _ _).alloc (Nat.le_refl _) _
          have hk : ∀ m, W12.heap.size ≤ m → m < U.heap.size → (U.alloc (.cells #[.slice o2 (fixNo V).length oc2, .slice m2 (fixNm V).length mc2, .slice a9 (fixGo V).length c9] 24)).heap[m]? = U.heap[m]? := fun m _ h2 => hb.block m h2
          have hsz := hb.size
          exact hK.out _ _ ⟨upPart f 5 (U.heap.size, _), _, _, _, _, _, _, _, _, _, rfl, hS.below hb, hIv.step (i := 5) hun (by decide) hb.size, fun h => h0 (set_getD (i := 5) (by decide) h), fun _ => rfl, fun _ => rfl, fun h => h3 (set_getD (i := 5) (by decide) h), fun h => (h4 (set_getD (i := 5) (by decide) h)).keep (hIv.old (set_getD (i := 5) (by decide) h) (by decide) hk), fun _ => built_new _ _ _ 24 hbU jl1 jl3 (h4 q4), fun h => (h6 (set_getD (i := 5) (by decide) h)).keep (hIv.old (set_getD (i := 5) (by decide) h) (by decide) hk), fun h => (fun ⟨x0, x1, x2, x3, x4⟩ => ⟨cell_below hb x0, cell_below hb x1, cell_below hb x2, cell_below hb x3, cell_below hb x4⟩) (h7 (set_getD (i := 5) (by decide) h)), fun h => (by obtain ⟨x6, x⟩ := h8 (set_getD (i := 5) (by decide) h); exact ⟨set_getD' x6, x⟩), fun h => h9 (set_getD (i := 5) (by decide) h)⟩
        · have q5 := dep_of hi (d := 5) (by kernel_rfl)
          obtain ⟨bb, v9, J9, hb1, hb2, rfl, hc0, hc1, hc2, _, _, hr9⟩ := h5 q5
          obtain ⟨a9, c9, rfl⟩ := ownsRow_shape hr9.1
          have HN9 := hideG (show IntsAt U (.slice a9 (fixGo V).length c9) (nodesL' (fixGo V)) from rowInts' (nodesL'_len _) hr9)
          have HC0 := hideG hc0
          have HC1 := hideG hc1
          have HC2 := hideG hc2
          clear hc0 hc1 hc2 hr9
          have ON := hideG (rowInts (OR2.out.keep (fun j j1 j2 => hS.old j (OF2.out j j1 j2).1 (OF2.out j j1 j2).2)))
          have MN := hideG (rowInts (MR2.out.keep (fun j j1 j2 => hS.old j (MF2.out j j1 j2).1 (MF2.out j j1 j2).2)))
          refine inv_step (by rfl) (fun K hK => ?_)
          go_simp
          (go_at_call 74; refine Calls.mono (concat3_any (fixNo V) (fixNm V) (nodesL' (fixGo V)) _ _ _ bb U ON.out MN.out HN9.out HC0.out HC1.out HC2.out (by have := HNOL.out; omega) (by have := HNML.out; omega) (by have := HGOL.out; rw [nodesL'_len]; omega)) ?_; rintro e w1' ⟨va, vc, rfl, hgot, hb⟩)
          have hk : ∀ m, W12.heap.size ≤ m → m < U.heap.size → w1'.heap[m]? = U.heap[m]? := fun m _ h2 => hb.block m h2
          have hsz := hb.size
          exact hK.out _ _ ⟨upPart f 6 (U.heap.size, _), _, _, _, _, _, _, _, _, _, rfl, hS.below hb, hIv.step (i := 6) hun (by decide) hb.size, fun h => h0 (set_getD (i := 6) (by decide) h), fun h => h1 (set_getD (i := 6) (by decide) h), fun h => h2 (set_getD (i := 6) (by decide) h), fun h => h3 (set_getD (i := 6) (by decide) h), fun h => (h4 (set_getD (i := 6) (by decide) h)).keep (hIv.old (set_getD (i := 6) (by decide) h) (by decide) hk), fun h => (h5 (set_getD (i := 6) (by decide) h)).keepB hk hsz, fun _ => rowIn_of hgot, fun h => (fun ⟨x0, x1, x2, x3, x4⟩ => ⟨cell_below hb x0, cell_below hb x1, cell_below hb x2, cell_below hb x3, cell_below hb x4⟩) (h7 (set_getD (i := 6) (by decide) h)), fun h => absurd ((h8 (set_getD (i := 6) (by decide) h)).1) (by rw [hun]; decide), fun h => h9 (set_getD (i := 6) (by decide) h)⟩
        · have e0 := h0 (dep_of hi (d := 0) (by kernel_rfl))
          subst e0
          obtain ⟨u0x, pz0, pf0⟩ := hS.c 0 (by decide)
          obtain ⟨u1x, pz1, pf1⟩ := hS.c 1 (by decide)
          obtain ⟨u2x, pz2, pf2⟩ := hS.c 2 (by decide)
          obtain ⟨u3x, pz3, pf3⟩ := hS.c 3 (by decide)
          obtain ⟨u4x, pz4, pf4⟩ := hS.c 4 (by decide)
          refine inv_step (by rfl) (fun K hK => ?_)
          go_simp
          have hk : ∀ m, W12.heap.size ≤ m → m < U.heap.size → (set5 U (w.heap.size + 1) (.slice a5 V.tree.length k5) (.slice o1 (fixOp V).length oc1) (.slice m1 (fixMd V).length mc1) (.slice p1 (fixSt V).length pc1) (.slice t1 (fixTp V).length tc1)).heap[m]? = U.heap[m]? := fun m h1 _ => set5_block (by omega)
          have hsz : U.heap.size ≤ (set5 U (w.heap.size + 1) (.slice a5 V.tree.length k5) (.slice o1 (fixOp V).length oc1) (.slice m1 (fixMd V).length mc1) (.slice p1 (fixSt V).length pc1) (.slice t1 (fixTp V).length tc1)).heap.size := Nat.le_of_eq (set5_size _ _ _ _ _ _ _).symm
          exact hK.out _ _ ⟨upPart f 7 (U.heap.size, _), _, _, _, _, _, _, _, _, _, rfl, hS.set (by omega) _ _ _ _ _, hIv.step (i := 7) hun (by decide) (Nat.le_of_eq (set5_size _ _ _ _ _ _ _).symm), fun _ => rfl, fun h => h1 (set_getD (i := 7) (by decide) h), fun h => h2 (set_getD (i := 7) (by decide) h), fun h => h3 (set_getD (i := 7) (by decide) h), fun h => (h4 (set_getD (i := 7) (by decide) h)).keep (hIv.old (set_getD (i := 7) (by decide) h) (by decide) hk), fun h => (h5 (set_getD (i := 7) (by decide) h)).keepB hk hsz, fun h => (h6 (set_getD (i := 7) (by decide) h)).keep (hIv.old (set_getD (i := 7) (by decide) h) (by decide) hk), fun _ => set5_at hS.c, fun h => (by obtain ⟨x6, x⟩ := h8 (set_getD (i := 7) (by decide) h); exact ⟨set_getD' x6, x⟩), fun h => h9 (set_getD (i := 7) (by decide) h)⟩
        · have q6 := dep_of hi (d := 6) (by kernel_rfl)
          refine inv_step (by rfl) (fun K hK => ?_)
          go_simp
          exact hK.out _ _ ⟨upPart f 8 (U.heap.size, _), _, _, _, _, _, _, _, _, _, rfl, hS, hIv.step (i := 8) hun (by decide) (Nat.le_refl _), fun h => h0 (set_getD (i := 8) (by decide) h), fun h => h1 (set_getD (i := 8) (by decide) h), fun h => h2 (set_getD (i := 8) (by decide) h), fun h => h3 (set_getD (i := 8) (by decide) h), fun h => h4 (set_getD (i := 8) (by decide) h), fun h => h5 (set_getD (i := 8) (by decide) h), fun h => h6 (set_getD (i := 8) (by decide) h), fun h => h7 (set_getD (i := 8) (by decide) h), fun _ => ⟨set_getD' q6, rfl⟩, fun h => h9 (set_getD (i := 8) (by decide) h)⟩
        · refine inv_step (by rfl) (fun K hK => ?_)
          go_simp
          exact hK.out _ _ ⟨upPart f 9 (U.heap.size, _), _, _, _, _, _, _, _, _, _, rfl, hS, hIv.step (i := 9) hun (by decide) (Nat.le_refl _), fun h => h0 (set_getD (i := 9) (by decide) h), fun h => h1 (set_getD (i := 9) (by decide) h), fun h => h2 (set_getD (i := 9) (by decide) h), fun h => h3 (set_getD (i := 9) (by decide) h), fun h => h4 (set_getD (i := 9) (by decide) h), fun h => h5 (set_getD (i := 9) (by decide) h), fun h => h6 (set_getD (i := 9) (by decide) h), fun h => h7 (set_getD (i := 9) (by decide) h), fun h => (by obtain ⟨x6, x⟩ := h8 (set_getD (i := 9) (by decide) h); exact ⟨set_getD' x6, x⟩), fun _ => rfl⟩
      · intro l a U hall hInv
        revert hInv
        refine ex_imp fun f => ?_
        refine ex_imp fun s85 => ?_
        refine ex_imp fun s86 => ?_
        refine ex_imp fun s87 => ?_
        refine ex_imp fun s88 => ?_
        refine ex_imp fun s89 => ?_
        refine ex_imp fun s90 => ?_
        refine ex_imp fun s91 => ?_
        refine ex_imp fun s3 => ?_
        refine ex_imp fun s4 => ?_
        intro hInv
        have ha := hInv.1
        have hS := hInv.2.1
        have hIv := hInv.2.2.1
        have h0 := hInv.2.2.2.1
        have h1 := hInv.2.2.2.2.1
        have h2 := hInv.2.2.2.2.2.1
        have h3 := hInv.2.2.2.2.2.2.1
        have h4 := hInv.2.2.2.2.2.2.2.1
        have h5 := hInv.2.2.2.2.2.2.2.2.1
        have h6 := hInv.2.2.2.2.2.2.2.2.2.1
        have h7 := hInv.2.2.2.2.2.2.2.2.2.2.1
        have h8 := hInv.2.2.2.2.2.2.2.2.2.2.2.1
        have h9 := hInv.2.2.2.2.2.2.2.2.2.2.2.2
        clear hInv
        subst ha
        have e0 := h0 (hall 0 (by decide))
        have e1 := h1 (hall 1 (by decide))
        have e2 := h2 (hall 2 (by decide))
        have e3 := h3 (hall 3 (by decide))
        have e4 := h4 (hall 4 (by decide))
        have e5 := h5 (hall 5 (by decide))
        have e6 := h6 (hall 6 (by decide))
        have e7 := h7 (hall 7 (by decide))
        have e8 := h8 (hall 8 (by decide))
        have e9 := h9 (hall 9 (by decide))
        have HIV := hideG (hIv.all hall)
        clear hIv hall h0 h1 h2 h3 h4 h5 h6 h7 h8 h9
        subst e0
        subst e1
        subst e2
        subst e3
        have e7 := e7
        have e8 := e8.2
        subst e8
        subst e9
        obtain ⟨ga, gc, rfl⟩ := ownsRow_shape e6.1
        have HG := hideG e6
        have HSU := hideG hS
        obtain ⟨r0, r1, r2, r3, r4⟩ := e7
        have hto : ∀ j, W12.heap.size > j → j ≠ w.heap.size + 1 → U.heap[j]? = W12.heap[j]? := fun j h1 h2 => hS.old j h1 h2
        have hvt := TIW.out.keep (W := U) (fun j h1 h2 => hto j (TO2.out j h1 h2).1 (TO2.out j h1 h2).2)
        have hv0 := rowInts (OR1.out.keep (fun j j1 j2 => hS.old j (OF2.out j j1 j2).1 (OF2.out j j1 j2).2))
        have hv1 := rowInts (MR1.out.keep (fun j j1 j2 => hS.old j (MF2.out j j1 j2).1 (MF2.out j j1 j2).2))
        have hv2 := rowShs' (fixPs_len V) (PR.out.keep (fun j j1 j2 => hS.old j (PF2.out j j1 j2).1 (PF2.out j j1 j2).2))
        have hv3 := rowInts (TR.out.keep (fun j j1 j2 => hS.old j (TF2.out j j1 j2).1 (TF2.out j j1 j2).2))
        have hvg := rowInts e6
        have hbF := hS.bel
        clear e4 e5 e6 hS HIV
        go_wp2_with fail
        refine bodyPost_ret (v := .tuple #[.agg #[.slice a5 V.tree.length k5, .slice o1 (fixOp V).length oc1, .slice m1 (fixMd V).length mc1, .slice p1 (fixSt V).length pc1, .slice t1 (fixTp V).length tc1], .slice ga (fixG V).length gc, .int .i64 0]) (by simp [results, Tryz.f22, go_sem, r0, r1, r2, r3, r4]) rfl ?_
        exact ⟨_, _, _, _, _, _, _, rfl, ⟨hvt.at, hv0, hv1, hv2, hv3⟩, hvg, hbF⟩
end Go.Proofs.YtclhimodopgeoaaGreat

namespace Go.Proofs.YtclhimodopgeoaaGreat
open Go.RowKit

set_option maxRecDepth 100000 in
set_option maxHeartbeats 4000000 in
theorem dlgModal (tv ov mv pv qv : Value) (V : Vw) (w : World) (hV : ViewAt w tv ov mv pv qv V) (hS : Sane V.tree) (hl : smallL V) (n : Int) (m : Bool) (hmd : m = true) (htl : V.tree.length ≤ 1000) (hck : checkV V = 0) (hn : isNodeB V.tree.length n = true) (hd : dlgB V.tree n = true) (ho : containsB (openedL V) n = false) :
    Calls Tryz.prog 29 #[.agg #[tv, ov, mv, pv, qv], .int .i64 n, .bool m] w fun x w' => ∃ t o m p q, x = .returned (.tuple #[.agg #[t, o, m, p, q], .int .i64 (0)]) ∧ ViewAt w' t o m p q { V with modal := V.modal ++ [n], top := V.top ++ [n] } ∧ Below w.heap.size w w' := by
  subst hmd
  have hmd : True := trivial
  have HMD := hideG hmd
  clear hmd
  obtain ⟨i3, hi3, hz30, hz31, hz32⟩ := info_parts infoT3
  have HTL := hideG htl
  clear htl
  obtain ⟨hT, hO, hM, hP, hQ⟩ := hV
  obtain ⟨ta, tc, rfl⟩ := hT.shape
  obtain ⟨oa, oc, rfl⟩ := hO.shape
  obtain ⟨ma, mc, rfl⟩ := hM.shape
  obtain ⟨pa, pc, rfl⟩ := hP.shape
  obtain ⟨qa, qc, rfl⟩ := hQ.shape
  obtain ⟨W0, hW0⟩ : ∃ W0, (w.alloc (.cells #[.slice ta V.tree.length tc, .slice oa V.op.length oc, .slice ma V.modal.length mc, .slice pa V.pops.length pc, .slice qa V.top.length qc] 27)).alloc (.cells #[.slice none 0 0, .slice none 0 0, .slice none 0 0, .slice none 0 0, .slice none 0 0] 27) = W0 := ⟨_, rfl⟩
  have hbw : Below w.heap.size w W0 := by rw [← hW0]; exact ((Below.refl _ w).alloc (Nat.le_refl _) _).alloc (by simp) _
  have HB0 := hideG hbw
  have P0 := hideG (show W0.cell? ⟨w.heap.size, 0, none⟩ = some (.slice ta V.tree.length tc) by rw [← hW0]; exact cell_alloc_l _ (by simp))
  have P1 := hideG (show W0.cell? ⟨w.heap.size, 1, none⟩ = some (.slice oa V.op.length oc) by rw [← hW0]; exact cell_alloc_l _ (by simp))
  have P2 := hideG (show W0.cell? ⟨w.heap.size, 2, none⟩ = some (.slice ma V.modal.length mc) by rw [← hW0]; exact cell_alloc_l _ (by simp))
  have P3 := hideG (show W0.cell? ⟨w.heap.size, 3, none⟩ = some (.slice pa V.pops.length pc) by rw [← hW0]; exact cell_alloc_l _ (by simp))
  have P4 := hideG (show W0.cell? ⟨w.heap.size, 4, none⟩ = some (.slice qa V.top.length qc) by rw [← hW0]; exact cell_alloc_l _ (by simp))
  have HR := hideG (show ∀ j, j < 5 → ∃ u, W0.cell? ⟨w.heap.size + 1, j, none⟩ = some u ∧ W0.frozen? ⟨w.heap.size + 1, j, none⟩ = false from by
    have h1 := World.alloc_heap_new (w.alloc (.cells #[.slice ta V.tree.length tc, .slice oa V.op.length oc, .slice ma V.modal.length mc, .slice pa V.pops.length pc, .slice qa V.top.length qc] 27)) (.cells #[.slice none 0 0, .slice none 0 0, .slice none 0 0, .slice none 0 0, .slice none 0 0] 27)
    rw [World.size_alloc, hW0] at h1
    intro j hj
    obtain rfl | rfl | rfl | rfl | rfl : j = 0 ∨ j = 1 ∨ j = 2 ∨ j = 3 ∨ j = 4 := by omega
    all_goals exact ⟨.slice none 0 0, by simp [World.cell?, h1], by simp [World.frozen?, h1]⟩)
  have hs0 : W0.heap.size = w.heap.size + 2 := by rw [← hW0]; simp
  have HS0 := hideG hs0
  have HV := hideG (show ViewAt w _ _ _ _ _ V from ⟨hT, hO, hM, hP, hQ⟩)
  have HV0 := hideG (HV.out.below hbw)
  have HW0 := hideG hW0
  have HS := hideG hS
  have HL := hideG hl
  have HC := hideG (checkV_any _ _ _ _ _ V W0 HV0.out HS.out HL.out)
  have h1l : V.op.length ≤ 500 := hl.1
  have h2l : V.modal.length ≤ 500 := hl.2.1
  have h3l : V.pops.length ≤ 500 := hl.2.2.1
  have h4l : V.top.length ≤ 1000 := hl.2.2.2
  have p0 := P0.out
  have p1 := P1.out
  have p2 := P2.out
  have p3 := P3.out
  have p4 := P4.out
  have HM := hideG (show mayB V.tree = true from check_may hck)
  rw [hck] at HC
  clear hW0 hT hO hM hP hQ hS hl hbw hs0 hck
  have HN := hideG hn
  have HD := hideG hd
  have HO := hideG ho
  clear ho
  clear hn hd
  go_enter Tryz.func29, Tryz.ntmps29
  go_wp2_with fail
  rw [HW0.out]
  refine HC.out.mono ?_
  rintro ex w1 ⟨rfl, hb1⟩
  have HX1 := hideG hb1
  clear hb1 p0 p1 p2 p3 p4
  have p0 := cell_below HX1.out P0.out
  have p1 := cell_below HX1.out P1.out
  have p2 := cell_below HX1.out P2.out
  have p3 := cell_below HX1.out P3.out
  have p4 := cell_below HX1.out P4.out
  have hwb : w.heap.size < w1.heap.size := below_of_cell p0
  have HRk := hideG (show ∀ j, j < 5 → ∃ u, w1.cell? ⟨w.heap.size + 1, j, none⟩ = some u ∧ w1.frozen? ⟨w.heap.size + 1, j, none⟩ = false from fun j hj => let ⟨u, h1, h2⟩ := HR.out j hj; ⟨u, cell_below HX1.out h1, frozen_below HX1.out h1 h2⟩)
  obtain ⟨u0, rc0, rf0⟩ := HRk.out 0 (by decide)
  obtain ⟨u1, rc1, rf1⟩ := HRk.out 1 (by decide)
  obtain ⟨u2, rc2, rf2⟩ := HRk.out 2 (by decide)
  obtain ⟨u3, rc3, rf3⟩ := HRk.out 3 (by decide)
  obtain ⟨u4, rc4, rf4⟩ := HRk.out 4 (by decide)
  go_wp2_with (go_at_call 83; refine (isNode10_any _ _ _ _ _).mono ?_; rintro e wz ⟨rfl, hwz⟩; obtain rfl : _ = wz := hwz.symm; rw [HN.out])
  clear p0 p1 p2 p3 p4 hwb rc0 rc1 rc2 rc3 rc4 rf0 rf1 rf2 rf3 rf4 HRk
  refine (judgeOf_any V.tree HS.out _ w1 (HV0.out.tree.below HX1.out)).mono ?_
  rintro ex w2 ⟨ca, cc, rfl, hI2, hb2⟩
  have HI2 := hideG hI2
  clear hI2
  have HX2 := hideG (HX1.out.trans (hb2.mono HX1.out.size))
  clear hb2
  have p0 := cell_below HX2.out P0.out
  have p1 := cell_below HX2.out P1.out
  have p2 := cell_below HX2.out P2.out
  have p3 := cell_below HX2.out P3.out
  have p4 := cell_below HX2.out P4.out
  have hwb : w.heap.size < w2.heap.size := below_of_cell p0
  have HRk := hideG (show ∀ j, j < 5 → ∃ u, w2.cell? ⟨w.heap.size + 1, j, none⟩ = some u ∧ w2.frozen? ⟨w.heap.size + 1, j, none⟩ = false from fun j hj => let ⟨u, h1, h2⟩ := HR.out j hj; ⟨u, cell_below HX2.out h1, frozen_below HX2.out h1 h2⟩)
  obtain ⟨u0, rc0, rf0⟩ := HRk.out 0 (by decide)
  obtain ⟨u1, rc1, rf1⟩ := HRk.out 1 (by decide)
  obtain ⟨u2, rc2, rf2⟩ := HRk.out 2 (by decide)
  obtain ⟨u3, rc3, rf3⟩ := HRk.out 3 (by decide)
  obtain ⟨u4, rc4, rf4⟩ := HRk.out 4 (by decide)
  go_wp2_with fail
  clear p0 p1 p2 p3 p4 hwb rc0 rc1 rc2 rc3 rc4 rf0 rf1 rf2 rf3 rf4 HRk
  refine (dialog_any V.tree HM.out _ _ n w2 (HV0.out.tree.below HX2.out) HI2.out).mono ?_
  rintro ex w3 ⟨rfl, hb3⟩
  rw [HD.out]
  have HX3 := hideG (HX2.out.trans (hb3.mono HX2.out.size))
  clear hb3
  have p0 := cell_below HX3.out P0.out
  have p1 := cell_below HX3.out P1.out
  have p2 := cell_below HX3.out P2.out
  have p3 := cell_below HX3.out P3.out
  have p4 := cell_below HX3.out P4.out
  have hwb : w.heap.size < w3.heap.size := below_of_cell p0
  have HRk := hideG (show ∀ j, j < 5 → ∃ u, w3.cell? ⟨w.heap.size + 1, j, none⟩ = some u ∧ w3.frozen? ⟨w.heap.size + 1, j, none⟩ = false from fun j hj => let ⟨u, h1, h2⟩ := HR.out j hj; ⟨u, cell_below HX3.out h1, frozen_below HX3.out h1 h2⟩)
  obtain ⟨u0, rc0, rf0⟩ := HRk.out 0 (by decide)
  obtain ⟨u1, rc1, rf1⟩ := HRk.out 1 (by decide)
  obtain ⟨u2, rc2, rf2⟩ := HRk.out 2 (by decide)
  obtain ⟨u3, rc3, rf3⟩ := HRk.out 3 (by decide)
  obtain ⟨u4, rc4, rf4⟩ := HRk.out 4 (by decide)
  go_wp2_with fail
  clear p0 p1 p2 p3 p4 hwb rc0 rc1 rc2 rc3 rc4 rf0 rf1 rf2 rf3 rf4 HRk
  refine (opened_any _ _ _ _ _ V w3 (HV0.out.below HX3.out) ⟨by omega, by omega, by omega⟩).mono ?_
  rintro ex w4 ⟨oa', oc', rfl, ho4, hb4⟩
  have HI4 := hideG (ownsRow_ints ho4)
  clear ho4
  have HX4 := hideG (HX3.out.trans (hb4.mono HX3.out.size))
  clear hb4
  have p0 := cell_below HX4.out P0.out
  have p1 := cell_below HX4.out P1.out
  have p2 := cell_below HX4.out P2.out
  have p3 := cell_below HX4.out P3.out
  have p4 := cell_below HX4.out P4.out
  have hwb : w.heap.size < w4.heap.size := below_of_cell p0
  have HRk := hideG (show ∀ j, j < 5 → ∃ u, w4.cell? ⟨w.heap.size + 1, j, none⟩ = some u ∧ w4.frozen? ⟨w.heap.size + 1, j, none⟩ = false from fun j hj => let ⟨u, h1, h2⟩ := HR.out j hj; ⟨u, cell_below HX4.out h1, frozen_below HX4.out h1 h2⟩)
  obtain ⟨u0, rc0, rf0⟩ := HRk.out 0 (by decide)
  obtain ⟨u1, rc1, rf1⟩ := HRk.out 1 (by decide)
  obtain ⟨u2, rc2, rf2⟩ := HRk.out 2 (by decide)
  obtain ⟨u3, rc3, rf3⟩ := HRk.out 3 (by decide)
  obtain ⟨u4, rc4, rf4⟩ := HRk.out 4 (by decide)
  have HOL := hideG (opened_len V)
  go_wp2_with (go_at_call 73; refine (contains_any (openedL V) _ n w4 HI4.out (by have := HOL.out; omega)).mono ?_; rintro e wz ⟨rfl, hwz⟩; obtain rfl : _ = wz := hwz.symm; rw [HO.out])
  clear p0 p1 p2 p3 p4 hwb rc0 rc1 rc2 rc3 rc4 rf0 rf1 rf2 rf3 rf4 HRk
  refine (copyV_any _ _ _ _ _ V w4 (HV0.out.below HX4.out) HS.out ⟨HTL.out, by omega, by omega, by omega, by omega⟩).mono ?_
  rintro ex w5 ⟨f, tv', ov', mv', pv', qv', rfl, hov, hb5⟩
  obtain ⟨a5, k5, rfl⟩ := hov.at.tree.shape
  obtain ⟨a8, k8, rfl⟩ := hov.at.op.shape
  obtain ⟨a11, k11, rfl⟩ := hov.at.modal.shape
  obtain ⟨a14, k14, rfl⟩ := hov.at.pops.shape
  obtain ⟨a17, k17, rfl⟩ := hov.at.top.shape
  have hs45 := hb5.size
  have hs4 := HX4.out.size
  have HX5 := hideG (HX4.out.trans (hb5.mono HX4.out.size))
  obtain ⟨W6, hW6⟩ : ∃ W6, w5.alloc (.cells #[.slice a5 V.tree.length k5, .slice a8 V.op.length k8, .slice a11 V.modal.length k11, .slice a14 V.pops.length k14, .slice a17 V.top.length k17] 27) = W6 := ⟨_, rfl⟩
  have hb6 : Below w5.heap.size w5 W6 := by rw [← hW6]; exact (Below.refl _ w5).alloc (Nat.le_refl _) _
  have hnew := World.alloc_heap_new w5 (.cells #[.slice a5 V.tree.length k5, .slice a8 V.op.length k8, .slice a11 V.modal.length k11, .slice a14 V.pops.length k14, .slice a17 V.top.length k17] 27)
  rw [hW6] at hnew
  have hs6 : W6.heap.size = w5.heap.size + 1 := by rw [← hW6]; simp
  have HOB := hideG (show OwnB W6 w4.heap.size (fun j => j = w.heap.size + 1 ∨ j = w5.heap.size) f _ _ _ _ _ V from hov.offB hb6 (fun j hj => by
    have h0 := HS0.out
    rcases hj with rfl | rfl
    · exact ⟨by omega, .inl (by omega)⟩
    · exact ⟨by omega, .inr (Nat.le_refl _)⟩))
  have HX6 := hideG (HX5.out.trans (hb6.mono HX5.out.size))
  have D0 := hideG (show W6.cell? ⟨w5.heap.size, 0, none⟩ = some (.slice a5 V.tree.length k5) ∧ W6.frozen? ⟨w5.heap.size, 0, none⟩ = false from ⟨by simp [World.cell?, hnew], by simp [World.frozen?, hnew]⟩)
  have D1 := hideG (show W6.cell? ⟨w5.heap.size, 1, none⟩ = some (.slice a8 V.op.length k8) ∧ W6.frozen? ⟨w5.heap.size, 1, none⟩ = false from ⟨by simp [World.cell?, hnew], by simp [World.frozen?, hnew]⟩)
  have D2 := hideG (show W6.cell? ⟨w5.heap.size, 2, none⟩ = some (.slice a11 V.modal.length k11) ∧ W6.frozen? ⟨w5.heap.size, 2, none⟩ = false from ⟨by simp [World.cell?, hnew], by simp [World.frozen?, hnew]⟩)
  have D3 := hideG (show W6.cell? ⟨w5.heap.size, 3, none⟩ = some (.slice a14 V.pops.length k14) ∧ W6.frozen? ⟨w5.heap.size, 3, none⟩ = false from ⟨by simp [World.cell?, hnew], by simp [World.frozen?, hnew]⟩)
  have D4 := hideG (show W6.cell? ⟨w5.heap.size, 4, none⟩ = some (.slice a17 V.top.length k17) ∧ W6.frozen? ⟨w5.heap.size, 4, none⟩ = false from ⟨by simp [World.cell?, hnew], by simp [World.frozen?, hnew]⟩)
  have hwb5 : w.heap.size + 1 < w5.heap.size := by have := HS0.out; omega
  have HW6 := hideG hW6
  have HS6 := hideG hs6
  have HZ := hideG (show w.heap.size + 2 ≤ w4.heap.size by have := HS0.out; omega)
  clear hov hb5 hb6 hW6 hnew hs45 hs4 hs6
  have HRX := hideG (show ∀ j, j < 5 → ∃ u, W6.cell? ⟨w.heap.size + 1, j, none⟩ = some u ∧ W6.frozen? ⟨w.heap.size + 1, j, none⟩ = false from fun j hj => let ⟨u, h1, h2⟩ := HR.out j hj; ⟨u, cell_below HX6.out h1, frozen_below HX6.out h1 h2⟩)
  have HBX := hideG (HB0.out.trans (HX6.out.mono HB0.out.size))
  have hz4 : w.heap.size + 2 ≤ w4.heap.size := HZ.out
  have hz5 : w.heap.size ≤ w5.heap.size := by omega
  have HROW7 := hideG (show Holds (W6.alloc (.cells #[.int .i64 n] 3)) (.slice (some ⟨w5.heap.size + 1, 0, none⟩) 1 1) 1 [.int .i64 n] from by have := row_new1 W6 n; rw [HS6.out] at this; exact this)
  have hpl := HOB.out.own.parts.le 2 (by omega)
  have hbt7 : Below W6.heap.size W6 (W6.alloc (.cells #[.int .i64 n] 3)) := (Below.refl _ _).alloc (Nat.le_refl _) _
  go_wp2_with (at_builtin; rw [HW6.out]; refine wpList_append_any rfl (.tmp 49) (.tmp 51) 24 rfl (f 2).1 3 i3 _ 1 8 Tryz.underlying24 hi3 hz30 hz31 hz32 rfl (by decide) _ (V).modal.length (intCells (V).modal) rfl (HOB.out.own.modal.1.alloc _) _ 1 [.int .i64 n] rfl HROW7.out rfl ?h2 ?h3 ?h4 ?h5 ?_)
  case h2 => intro y hy; simp at hy; subst hy; rfl
  case h3 => simp only [maxLen]; omega
  case h4 => omega
  case h5 => simp; omega
  intro v7 w7 ho7 hg7 hf7
  obtain ⟨a7, c7, rfl⟩ := ownsRow_shape ho7
  rw [intCells_snoc] at ho7
  obtain ⟨g7, hob7⟩ := HOB.out.appModal (w1 := (W6.alloc (.cells #[.int .i64 n] 3))) hbt7 ho7 hg7 (fun k hk => (hf7 k hk).imp id (fun h => by have h0 := HS6.out; rw [World.size_alloc]; (try simp only [World.size_alloc] at h); omega))
  have e70 := HOB.out.badCell (i := 2) (by omega) HOB.out.own.modal hbt7 hg7 (.inr rfl) D0.out.1
  have ef70 := HOB.out.badFrozen (i := 2) (by omega) HOB.out.own.modal hbt7 hg7 (.inr rfl) D0.out.1 D0.out.2
  have e71 := HOB.out.badCell (i := 2) (by omega) HOB.out.own.modal hbt7 hg7 (.inr rfl) D1.out.1
  have ef71 := HOB.out.badFrozen (i := 2) (by omega) HOB.out.own.modal hbt7 hg7 (.inr rfl) D1.out.1 D1.out.2
  have e72 := HOB.out.badCell (i := 2) (by omega) HOB.out.own.modal hbt7 hg7 (.inr rfl) D2.out.1
  have ef72 := HOB.out.badFrozen (i := 2) (by omega) HOB.out.own.modal hbt7 hg7 (.inr rfl) D2.out.1 D2.out.2
  have e73 := HOB.out.badCell (i := 2) (by omega) HOB.out.own.modal hbt7 hg7 (.inr rfl) D3.out.1
  have ef73 := HOB.out.badFrozen (i := 2) (by omega) HOB.out.own.modal hbt7 hg7 (.inr rfl) D3.out.1 D3.out.2
  have e74 := HOB.out.badCell (i := 2) (by omega) HOB.out.own.modal hbt7 hg7 (.inr rfl) D4.out.1
  have ef74 := HOB.out.badFrozen (i := 2) (by omega) HOB.out.own.modal hbt7 hg7 (.inr rfl) D4.out.1 D4.out.2
  have HR7 := hideG (show ∀ j, j < 5 → ∃ u, w7.cell? ⟨w.heap.size + 1, j, none⟩ = some u ∧ w7.frozen? ⟨w.heap.size + 1, j, none⟩ = false from fun j hj => let ⟨u, h1, h2⟩ := HRX.out j hj; ⟨u, HOB.out.badCell (i := 2) (by omega) HOB.out.own.modal hbt7 hg7 (.inl rfl) h1, HOB.out.badFrozen (i := 2) (by omega) HOB.out.own.modal hbt7 hg7 (.inl rfl) h1 h2⟩)
  have HRY := hideG (show ∀ j, j < 5 → ∃ u, (w7.setCell ⟨w5.heap.size, 2, none⟩ (.slice a7 ((V).modal.length + 1) c7)).cell? ⟨w.heap.size + 1, j, none⟩ = some u ∧ (w7.setCell ⟨w5.heap.size, 2, none⟩ (.slice a7 ((V).modal.length + 1) c7)).frozen? ⟨w.heap.size + 1, j, none⟩ = false from fun j hj => let ⟨u, h1, h2⟩ := HR7.out j hj; ⟨u, set_otherB h1 (by omega), by rw [World.frozen?_setCell]; exact h2⟩)
  have hsX : W6.heap.size ≤ w7.heap.size := by have := hg7.size; simp at this; omega
  have HBY := hideG (show Below w.heap.size w (w7.setCell ⟨w5.heap.size, 2, none⟩ (.slice a7 ((V).modal.length + 1) c7)) from (((HBX.out.alloc HBX.out.size (.cells #[.int .i64 n] 3)).grown hg7 (by have := HBX.out.size; simp; omega) (fun j e => by have h0 := (HOB.out.own.modal.1.lt j e).1; have h9 := HZ.out; omega)).setCell (p := ⟨w5.heap.size, 2, none⟩) (by show w.heap.size ≤ w5.heap.size; omega) _))
  have HOBY := hideG (hob7.keep (W := (w7.setCell ⟨w5.heap.size, 2, none⟩ (.slice a7 ((V).modal.length + 1) c7))) (by simp) (fun j _ hbad => setc_block (fun e => hbad (.inr e))))
  have E0 := hideG (show (w7.setCell ⟨w5.heap.size, 2, none⟩ (.slice a7 ((V).modal.length + 1) c7)).cell? ⟨w5.heap.size, 0, none⟩ = some (.slice a5 V.tree.length k5) ∧ (w7.setCell ⟨w5.heap.size, 2, none⟩ (.slice a7 ((V).modal.length + 1) c7)).frozen? ⟨w5.heap.size, 0, none⟩ = false from ⟨set_other e70 (by decide), by rw [World.frozen?_setCell]; exact ef70⟩)
  have E1 := hideG (show (w7.setCell ⟨w5.heap.size, 2, none⟩ (.slice a7 ((V).modal.length + 1) c7)).cell? ⟨w5.heap.size, 1, none⟩ = some (.slice a8 V.op.length k8) ∧ (w7.setCell ⟨w5.heap.size, 2, none⟩ (.slice a7 ((V).modal.length + 1) c7)).frozen? ⟨w5.heap.size, 1, none⟩ = false from ⟨set_other e71 (by decide), by rw [World.frozen?_setCell]; exact ef71⟩)
  have E2 := hideG (show (w7.setCell ⟨w5.heap.size, 2, none⟩ (.slice a7 ((V).modal.length + 1) c7)).cell? ⟨w5.heap.size, 2, none⟩ = some (.slice a7 ((V).modal.length + 1) c7) ∧ (w7.setCell ⟨w5.heap.size, 2, none⟩ (.slice a7 ((V).modal.length + 1) c7)).frozen? ⟨w5.heap.size, 2, none⟩ = false from ⟨set_same e72, by rw [World.frozen?_setCell]; exact ef72⟩)
  have E3 := hideG (show (w7.setCell ⟨w5.heap.size, 2, none⟩ (.slice a7 ((V).modal.length + 1) c7)).cell? ⟨w5.heap.size, 3, none⟩ = some (.slice a14 V.pops.length k14) ∧ (w7.setCell ⟨w5.heap.size, 2, none⟩ (.slice a7 ((V).modal.length + 1) c7)).frozen? ⟨w5.heap.size, 3, none⟩ = false from ⟨set_other e73 (by decide), by rw [World.frozen?_setCell]; exact ef73⟩)
  have E4 := hideG (show (w7.setCell ⟨w5.heap.size, 2, none⟩ (.slice a7 ((V).modal.length + 1) c7)).cell? ⟨w5.heap.size, 4, none⟩ = some (.slice a17 V.top.length k17) ∧ (w7.setCell ⟨w5.heap.size, 2, none⟩ (.slice a7 ((V).modal.length + 1) c7)).frozen? ⟨w5.heap.size, 4, none⟩ = false from ⟨set_other e74 (by decide), by rw [World.frozen?_setCell]; exact ef74⟩)
  clear hbt7 ho7 hg7 hf7 hob7 hpl hsX
  obtain ⟨W8, hW8⟩ : ∃ W8, (w7.setCell ⟨w5.heap.size, 2, none⟩ (.slice a7 ((V).modal.length + 1) c7)) = W8 := ⟨_, rfl⟩
  have HW8 := hideG hW8
  have HS8 := hideG (show W8.heap.size = w7.heap.size by rw [← hW8]; simp)
  rw [hW8] at HRY HBY HOBY E0 E1 E2 E3 E4
  have HOB8 := HOBY
  have HRX := HRY
  have HBX := HBY
  have D0 := E0
  have D1 := E1
  have D2 := E2
  have D3 := E3
  have D4 := E4
  clear HOBY HRY HBY E0 E1 E2 E3 E4 hW8
  have HROW9 := hideG (show Holds (W8.alloc (.cells #[.int .i64 n] 3)) (.slice (some ⟨w7.heap.size, 0, none⟩) 1 1) 1 [.int .i64 n] from by have := row_new1 W8 n; rw [HS8.out] at this; exact this)
  have hpl := HOB8.out.own.parts.le 4 (by omega)
  have hbt9 : Below W8.heap.size W8 (W8.alloc (.cells #[.int .i64 n] 3)) := (Below.refl _ _).alloc (Nat.le_refl _) _
  go_wp2_with (at_builtin; rw [HW8.out]; refine wpList_append_any rfl (.tmp 55) (.tmp 57) 24 rfl (g7 4).1 3 i3 _ 1 8 Tryz.underlying24 hi3 hz30 hz31 hz32 rfl (by decide) _ ({ V with modal := V.modal ++ [n] } : Vw).top.length (intCells ({ V with modal := V.modal ++ [n] } : Vw).top) rfl (HOB8.out.own.top.1.alloc _) _ 1 [.int .i64 n] rfl HROW9.out rfl ?h2 ?h3 ?h4 ?h5 ?_)
  case h2 => intro y hy; simp at hy; subst hy; rfl
  case h3 => simp only [maxLen]; omega
  case h4 => omega
  case h5 => simp; omega
  intro v9 w9 ho9 hg9 hf9
  obtain ⟨a9, c9, rfl⟩ := ownsRow_shape ho9
  rw [intCells_snoc] at ho9
  obtain ⟨g9, hob9⟩ := HOB8.out.appTop (w1 := (W8.alloc (.cells #[.int .i64 n] 3))) hbt9 ho9 hg9 (fun k hk => (hf9 k hk).imp id (fun h => by have h0 := HS8.out; rw [World.size_alloc]; (try simp only [World.size_alloc] at h); omega))
  have e90 := HOB8.out.badCell (i := 4) (by omega) HOB8.out.own.top hbt9 hg9 (.inr rfl) D0.out.1
  have ef90 := HOB8.out.badFrozen (i := 4) (by omega) HOB8.out.own.top hbt9 hg9 (.inr rfl) D0.out.1 D0.out.2
  have e91 := HOB8.out.badCell (i := 4) (by omega) HOB8.out.own.top hbt9 hg9 (.inr rfl) D1.out.1
  have ef91 := HOB8.out.badFrozen (i := 4) (by omega) HOB8.out.own.top hbt9 hg9 (.inr rfl) D1.out.1 D1.out.2
  have e92 := HOB8.out.badCell (i := 4) (by omega) HOB8.out.own.top hbt9 hg9 (.inr rfl) D2.out.1
  have ef92 := HOB8.out.badFrozen (i := 4) (by omega) HOB8.out.own.top hbt9 hg9 (.inr rfl) D2.out.1 D2.out.2
  have e93 := HOB8.out.badCell (i := 4) (by omega) HOB8.out.own.top hbt9 hg9 (.inr rfl) D3.out.1
  have ef93 := HOB8.out.badFrozen (i := 4) (by omega) HOB8.out.own.top hbt9 hg9 (.inr rfl) D3.out.1 D3.out.2
  have e94 := HOB8.out.badCell (i := 4) (by omega) HOB8.out.own.top hbt9 hg9 (.inr rfl) D4.out.1
  have ef94 := HOB8.out.badFrozen (i := 4) (by omega) HOB8.out.own.top hbt9 hg9 (.inr rfl) D4.out.1 D4.out.2
  have HR9 := hideG (show ∀ j, j < 5 → ∃ u, w9.cell? ⟨w.heap.size + 1, j, none⟩ = some u ∧ w9.frozen? ⟨w.heap.size + 1, j, none⟩ = false from fun j hj => let ⟨u, h1, h2⟩ := HRX.out j hj; ⟨u, HOB8.out.badCell (i := 4) (by omega) HOB8.out.own.top hbt9 hg9 (.inl rfl) h1, HOB8.out.badFrozen (i := 4) (by omega) HOB8.out.own.top hbt9 hg9 (.inl rfl) h1 h2⟩)
  have HRY := hideG (show ∀ j, j < 5 → ∃ u, (w9.setCell ⟨w5.heap.size, 4, none⟩ (.slice a9 (({ V with modal := V.modal ++ [n] } : Vw).top.length + 1) c9)).cell? ⟨w.heap.size + 1, j, none⟩ = some u ∧ (w9.setCell ⟨w5.heap.size, 4, none⟩ (.slice a9 (({ V with modal := V.modal ++ [n] } : Vw).top.length + 1) c9)).frozen? ⟨w.heap.size + 1, j, none⟩ = false from fun j hj => let ⟨u, h1, h2⟩ := HR9.out j hj; ⟨u, set_otherB h1 (by omega), by rw [World.frozen?_setCell]; exact h2⟩)
  have hsX : W8.heap.size ≤ w9.heap.size := by have := hg9.size; simp at this; omega
  have HBY := hideG (show Below w.heap.size w (w9.setCell ⟨w5.heap.size, 4, none⟩ (.slice a9 (({ V with modal := V.modal ++ [n] } : Vw).top.length + 1) c9)) from (((HBX.out.alloc HBX.out.size (.cells #[.int .i64 n] 3)).grown hg9 (by have := HBX.out.size; simp; omega) (fun j e => by have h0 := (HOB8.out.own.top.1.lt j e).1; have h9 := HZ.out; omega)).setCell (p := ⟨w5.heap.size, 4, none⟩) (by show w.heap.size ≤ w5.heap.size; omega) _))
  have HOBY := hideG (hob9.keep (W := (w9.setCell ⟨w5.heap.size, 4, none⟩ (.slice a9 (({ V with modal := V.modal ++ [n] } : Vw).top.length + 1) c9))) (by simp) (fun j _ hbad => setc_block (fun e => hbad (.inr e))))
  have E0 := hideG (show (w9.setCell ⟨w5.heap.size, 4, none⟩ (.slice a9 (({ V with modal := V.modal ++ [n] } : Vw).top.length + 1) c9)).cell? ⟨w5.heap.size, 0, none⟩ = some (.slice a5 V.tree.length k5) ∧ (w9.setCell ⟨w5.heap.size, 4, none⟩ (.slice a9 (({ V with modal := V.modal ++ [n] } : Vw).top.length + 1) c9)).frozen? ⟨w5.heap.size, 0, none⟩ = false from ⟨set_other e90 (by decide), by rw [World.frozen?_setCell]; exact ef90⟩)
  have E1 := hideG (show (w9.setCell ⟨w5.heap.size, 4, none⟩ (.slice a9 (({ V with modal := V.modal ++ [n] } : Vw).top.length + 1) c9)).cell? ⟨w5.heap.size, 1, none⟩ = some (.slice a8 V.op.length k8) ∧ (w9.setCell ⟨w5.heap.size, 4, none⟩ (.slice a9 (({ V with modal := V.modal ++ [n] } : Vw).top.length + 1) c9)).frozen? ⟨w5.heap.size, 1, none⟩ = false from ⟨set_other e91 (by decide), by rw [World.frozen?_setCell]; exact ef91⟩)
  have E2 := hideG (show (w9.setCell ⟨w5.heap.size, 4, none⟩ (.slice a9 (({ V with modal := V.modal ++ [n] } : Vw).top.length + 1) c9)).cell? ⟨w5.heap.size, 2, none⟩ = some (.slice a7 ((V).modal.length + 1) c7) ∧ (w9.setCell ⟨w5.heap.size, 4, none⟩ (.slice a9 (({ V with modal := V.modal ++ [n] } : Vw).top.length + 1) c9)).frozen? ⟨w5.heap.size, 2, none⟩ = false from ⟨set_other e92 (by decide), by rw [World.frozen?_setCell]; exact ef92⟩)
  have E3 := hideG (show (w9.setCell ⟨w5.heap.size, 4, none⟩ (.slice a9 (({ V with modal := V.modal ++ [n] } : Vw).top.length + 1) c9)).cell? ⟨w5.heap.size, 3, none⟩ = some (.slice a14 V.pops.length k14) ∧ (w9.setCell ⟨w5.heap.size, 4, none⟩ (.slice a9 (({ V with modal := V.modal ++ [n] } : Vw).top.length + 1) c9)).frozen? ⟨w5.heap.size, 3, none⟩ = false from ⟨set_other e93 (by decide), by rw [World.frozen?_setCell]; exact ef93⟩)
  have E4 := hideG (show (w9.setCell ⟨w5.heap.size, 4, none⟩ (.slice a9 (({ V with modal := V.modal ++ [n] } : Vw).top.length + 1) c9)).cell? ⟨w5.heap.size, 4, none⟩ = some (.slice a9 (({ V with modal := V.modal ++ [n] } : Vw).top.length + 1) c9) ∧ (w9.setCell ⟨w5.heap.size, 4, none⟩ (.slice a9 (({ V with modal := V.modal ++ [n] } : Vw).top.length + 1) c9)).frozen? ⟨w5.heap.size, 4, none⟩ = false from ⟨set_same e94, by rw [World.frozen?_setCell]; exact ef94⟩)
  obtain ⟨u0, rc0, rf0⟩ := HR9.out 0 (by decide)
  obtain ⟨u1, rc1, rf1⟩ := HR9.out 1 (by decide)
  obtain ⟨u2, rc2, rf2⟩ := HR9.out 2 (by decide)
  obtain ⟨u3, rc3, rf3⟩ := HR9.out 3 (by decide)
  obtain ⟨u4, rc4, rf4⟩ := HR9.out 4 (by decide)
  clear hbt9 ho9 hg9 hf9 hob9 hpl hsX
  go_wp2_with fail
  have hat := set5_at (U := (w9.setCell ⟨w5.heap.size, 4, none⟩ (.slice a9 (({ V with modal := V.modal ++ [n] } : Vw).top.length + 1) c9))) (R := w.heap.size + 1) (v0 := .slice a5 V.tree.length k5) (v1 := .slice a8 V.op.length k8) (v2 := .slice a7 ((V).modal.length + 1) c7) (v3 := .slice a14 V.pops.length k14) (v4 := .slice a9 (({ V with modal := V.modal ++ [n] } : Vw).top.length + 1) c9) HRY.out
  unfold set5 at hat
  obtain ⟨t0, t1, t2, t3, t4⟩ := hat
  refine bodyPost_ret (v := .tuple #[.agg #[.slice a5 V.tree.length k5, .slice a8 V.op.length k8, .slice a7 ((V).modal.length + 1) c7, .slice a14 V.pops.length k14, .slice a9 (({ V with modal := V.modal ++ [n] } : Vw).top.length + 1) c9], .int .i64 (0)]) (by simp [results, Tryz.f29, go_sem, t0, t1, t2, t3, t4]) rfl ?_
  refine ⟨_, _, _, _, _, rfl, ?_, set5_below HBY.out (by omega)⟩
  exact (HOBY.out.keep (W := set5 (w9.setCell ⟨w5.heap.size, 4, none⟩ (.slice a9 (({ V with modal := V.modal ++ [n] } : Vw).top.length + 1) c9)) (w.heap.size + 1) (.slice a5 V.tree.length k5) (.slice a8 V.op.length k8) (.slice a7 ((V).modal.length + 1) c7) (.slice a14 V.pops.length k14) (.slice a9 (({ V with modal := V.modal ++ [n] } : Vw).top.length + 1) c9)) (by rw [set5_size]; exact Nat.le_refl _) (fun j _ hbad => set5_block (fun e => hbad (.inl e)))).at
end Go.Proofs.YtclhimodopgeoaaGreat

