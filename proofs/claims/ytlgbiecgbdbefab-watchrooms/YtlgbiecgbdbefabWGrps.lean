/- WGrps: groups in memory: as they are read, and as the call's own; a struct of three cells in a box. -/
import Derived.Test.YtlgbiecgbdbefabWFns
namespace Go.Proofs.Ytlgbiecgbdbefab
open Go.RowKit

theorem infoT22 : (Try.prog.info? 22).map (fun i => (i.zero, i.size, i.bytes)) = some (some (.slice none 0 0), 1, 24) := by kernel_rfl

/-- A list of groups, as it lies in memory behind a slice. -/
def GrpsAt (w : World) (v : Value) (g : List (List Int)) : Prop :=
  g.length ≤ 9223372036854775807 ∧ ∃ a cap, v = .slice a g.length cap ∧ (0 < g.length → ∃ b off, a = some ⟨b, off, none⟩ ∧ ∀ j, j < g.length → ∃ rv, w.cell? ⟨b, off + j, none⟩ = some rv ∧ IntsAt w rv (g.getD j []))
theorem GrpsAt.shape {w : World} {v : Value} {g : List (List Int)} (h : GrpsAt w v g) : ∃ a c, v = .slice a g.length c := let ⟨_, a, c, h, _⟩ := h; ⟨a, c, h⟩
theorem GrpsAt.below {w w' : World} {v : Value} {g : List (List Int)} (h : GrpsAt w v g) (hb : Below w.heap.size w w') : GrpsAt w' v g := by
  obtain ⟨hl, a, cap, rfl, hc⟩ := h
  refine ⟨hl, a, cap, rfl, fun h0 => ?_⟩
  obtain ⟨b, off, rfl, hd⟩ := hc h0
  exact ⟨b, off, rfl, fun j hj => let ⟨rv, h1, h2⟩ := hd j hj; ⟨rv, cell_below hb h1, h2.below hb⟩⟩
theorem GrpsAt.at {w : World} {a : Option Addr} {n c : Nat} {g : List (List Int)} (h : GrpsAt w (.slice a n c) g) {j : Nat} (hj : j < g.length) :
    ∃ b off ra rc, a = some ⟨b, off, none⟩ ∧ w.cell? ⟨b, off + j, none⟩ = some (.slice ra (g.getD j []).length rc) ∧ IntsAt w (.slice ra (g.getD j []).length rc) (g.getD j []) := by
  obtain ⟨_, a', cap, e, hc⟩ := h
  simp only [Value.slice.injEq] at e
  obtain ⟨rfl, _, _⟩ := e
  obtain ⟨b, off, rfl, hd⟩ := hc (by omega)
  obtain ⟨rv, h1, h2⟩ := hd j hj
  obtain ⟨ra, rc, rfl⟩ := h2.shape
  exact ⟨b, off, ra, rc, rfl, h1, h2⟩
theorem IntsAt.at {w : World} {a : Option Addr} {n c : Nat} {l : List Int} (h : IntsAt w (.slice a n c) l) {j : Nat} (hj : j < l.length) :
    ∃ b off, a = some ⟨b, off, none⟩ ∧ w.cell? ⟨b, off + j, none⟩ = some (.int .i64 (l.getD j 0)) := by
  obtain ⟨a', cap, e, hc⟩ := h
  simp only [Value.slice.injEq] at e
  obtain ⟨rfl, _, _⟩ := e
  obtain ⟨b, off, rfl, hd⟩ := hc (by omega)
  exact ⟨b, off, rfl, hd j hj⟩

/-- Three cells in a box. -/
structure Box3 (w : World) (b : Nat) (x y z : Value) : Prop where
  c0 : w.cell? ⟨b, 0, none⟩ = some x
  c1 : w.cell? ⟨b, 1, none⟩ = some y
  c2 : w.cell? ⟨b, 2, none⟩ = some z
  f0 : w.frozen? ⟨b, 0, none⟩ = false
  f1 : w.frozen? ⟨b, 1, none⟩ = false
  f2 : w.frozen? ⟨b, 2, none⟩ = false
theorem Box3.of {W : World} {B : Nat} {x y z : Value} {t : TypeId} (h : W.heap[B]? = some (.cells #[x, y, z] t (0, 0))) : Box3 W B x y z := by
  constructor <;> simp [World.cell?, World.frozen?, h]
theorem Box3.new (w : World) (x y z : Value) (t : TypeId) : Box3 (w.alloc (.cells #[x, y, z] t)) w.heap.size x y z := Box3.of (World.alloc_heap_new w _)
theorem Box3.lt {w : World} {b : Nat} {x y z : Value} (h : Box3 w b x y z) : b < w.heap.size := below_of_cell h.c0
theorem Box3.block {w w' : World} {b : Nat} {x y z : Value} (h : Box3 w b x y z) (e : w'.heap[b]? = w.heap[b]?) : Box3 w' b x y z :=
  ⟨(World.cell?_of_block (a := ⟨b, 0, none⟩) e).trans h.c0, (World.cell?_of_block (a := ⟨b, 1, none⟩) e).trans h.c1, (World.cell?_of_block (a := ⟨b, 2, none⟩) e).trans h.c2,
   (World.frozen?_of_block (a := ⟨b, 0, none⟩) e).trans h.f0, (World.frozen?_of_block (a := ⟨b, 1, none⟩) e).trans h.f1, (World.frozen?_of_block (a := ⟨b, 2, none⟩) e).trans h.f2⟩
theorem Box3.below {w w' : World} {K b : Nat} {x y z : Value} (h : Box3 w b x y z) (hb : Below K w w') (hk : b < K) : Box3 w' b x y z := h.block (hb.block b hk)
theorem Box3.call {w w' : World} {b : Nat} {x y z : Value} (h : Box3 w b x y z) (hb : Below w.heap.size w w') : Box3 w' b x y z := h.below hb h.lt
theorem Box3.alloc {w : World} {b : Nat} {x y z : Value} (h : Box3 w b x y z) (o : Obj) : Box3 (w.alloc o) b x y z := h.call (alB w o)
theorem Box3.other {w : World} {b b' j : Nat} {x y z u : Value} (h : Box3 w b x y z) (hne : b ≠ b') : Box3 (w.setCell ⟨b', j, none⟩ u) b x y z := h.block (setc_block hne)
theorem Box3.grown {w w' : World} {b : Nat} {row : Option Nat} {x y z : Value} (h : Box3 w b x y z) (hg : w.grownBy w' row) (hne : some b ≠ row) : Box3 w' b x y z := h.block (hg.block b h.lt hne)
theorem Box3.set0 {w : World} {b : Nat} {x y z : Value} (h : Box3 w b x y z) (u : Value) : Box3 (w.setCell ⟨b, 0, none⟩ u) b u y z :=
  ⟨World.cell?_setCell_same' _ _ _ (by rw [h.c0]; rfl), set_other h.c1 (by decide), set_other h.c2 (by decide), by rw [World.frozen?_setCell]; exact h.f0, by rw [World.frozen?_setCell]; exact h.f1, by rw [World.frozen?_setCell]; exact h.f2⟩
theorem Box3.set1 {w : World} {b : Nat} {x y z : Value} (h : Box3 w b x y z) (u : Value) : Box3 (w.setCell ⟨b, 1, none⟩ u) b x u z :=
  ⟨set_other h.c0 (by decide), World.cell?_setCell_same' _ _ _ (by rw [h.c1]; rfl), set_other h.c2 (by decide), by rw [World.frozen?_setCell]; exact h.f0, by rw [World.frozen?_setCell]; exact h.f1, by rw [World.frozen?_setCell]; exact h.f2⟩
theorem Box3.set2 {w : World} {b : Nat} {x y z : Value} (h : Box3 w b x y z) (u : Value) : Box3 (w.setCell ⟨b, 2, none⟩ u) b x y u :=
  ⟨set_other h.c0 (by decide), set_other h.c1 (by decide), World.cell?_setCell_same' _ _ _ (by rw [h.c2]; rfl), by rw [World.frozen?_setCell]; exact h.f0, by rw [World.frozen?_setCell]; exact h.f1, by rw [World.frozen?_setCell]; exact h.f2⟩
/-- A struct stored whole. -/
def set3 (U : World) (R : Nat) (x y z : Value) : World := ((U.setCell ⟨R, 0, none⟩ x).setCell ⟨R, 1, none⟩ y).setCell ⟨R, 2, none⟩ z
theorem Box3.set {w : World} {b : Nat} {x y z : Value} (h : Box3 w b x y z) (x' y' z' : Value) : Box3 (set3 w b x' y' z') b x' y' z' := ((h.set0 x').set1 y').set2 z'
theorem Box3.setOther {w : World} {b b' : Nat} {x y z : Value} (h : Box3 w b x y z) (hne : b ≠ b') (x' y' z' : Value) : Box3 (set3 w b' x' y' z') b x y z := ((h.other hne).other hne).other hne
theorem set3_below {w U : World} {R B : Nat} {x y z : Value} (h : Below B w U) (hR : B ≤ R) : Below B w (set3 U R x y z) := ((h.setCell (p := ⟨R, 0, none⟩) hR _).setCell (p := ⟨R, 1, none⟩) hR _).setCell (p := ⟨R, 2, none⟩) hR _
theorem set3_size (U : World) (R : Nat) (x y z : Value) : (set3 U R x y z).heap.size = U.heap.size := by simp [set3]

/-- Groups of the call's own. -/
structure OwnG (w : World) (base : Nat) (v : Value) (g : List (List Int)) (rv : Nat → Value) : Prop where
  row : w.ownsRow base 22 1 v g.length ((List.range g.length).map rv)
  rows : ∀ j, j < g.length → w.ownsRow base 3 1 (rv j) (g.getD j []).length (intCells (g.getD j []))
  rr : ∀ j, j < g.length → Apart (rv j) v
  kk : ∀ i j, i < g.length → j < g.length → i ≠ j → Apart (rv i) (rv j)
theorem OwnG.nil (w : World) (base : Nat) (rv : Nat → Value) : OwnG w base (.slice none 0 0) [] rv :=
  ⟨World.ownsRow_nil _ _ _ _, fun j h => by simp at h, fun j h => by simp at h, fun i j h => by simp at h⟩
theorem ownsRow_len {w : World} {base : Nat} {e : TypeId} {size : Nat} {v : Value} {n : Nat} {xs : List Value} (h : w.ownsRow base e size v n xs) : n ≤ 9223372036854775807 := by
  rcases h.2 with ⟨_, h0⟩ | ⟨g, cap, cur, _, _, _, h1, h2, _⟩
  · omega
  · simp only [maxLen] at h2; omega
theorem OwnG.grps {w : World} {base : Nat} {v : Value} {g : List (List Int)} {rv : Nat → Value} (h : OwnG w base v g rv) : GrpsAt w v g := by
  refine ⟨ownsRow_len h.row, ?_⟩
  rcases h.row.2 with ⟨rfl, h0⟩ | ⟨b, cap, cur, rfl, hb, hg, hn, hm, hs, ht⟩
  · exact ⟨none, 0, by rw [h0], fun h => by omega⟩
  · refine ⟨_, cap, rfl, fun _ => ⟨b, 0, rfl, fun j hj => ⟨rv j, ?_, ownsRow_ints (h.rows j hj)⟩⟩⟩
    rw [Nat.zero_add, h.row.cellAt j (by omega), List.getElem?_map, List.getElem?_range hj]
    rfl
/-- What writes none of their blocks leaves them. -/
theorem OwnG.kept {w w' : World} {base : Nat} {v : Value} {g : List (List Int)} {rv : Nat → Value} (h : OwnG w base v g rv) (hk : ∀ k, base ≤ k → k < w.heap.size → (v.ownBlock = some k ∨ ∃ j, j < g.length ∧ (rv j).ownBlock = some k) → w'.heap[k]? = w.heap[k]?) : OwnG w' base v g rv := by
  have K : ∀ {e : TypeId} {size : Nat} {u : Value} {n : Nat} {xs : List Value}, w.ownsRow base e size u n xs → (∀ k, u.ownBlock = some k → w'.heap[k]? = w.heap[k]?) → w'.ownsRow base e size u n xs := by
    intro e size u n xs ho hu
    refine ⟨ho.1, ?_⟩
    rcases ho.2 with ho | ⟨b, cap, cur, rfl, hb, hg, r⟩
    · exact .inl ho
    · exact .inr ⟨b, cap, cur, rfl, hb, by rw [hu b rfl]; exact hg, r⟩
  refine ⟨K h.row (fun k e => hk k (h.row.lt k e).1 (h.row.lt k e).2 (.inl e)), fun j hj => K (h.rows j hj) (fun k e => hk k ((h.rows j hj).lt k e).1 ((h.rows j hj).lt k e).2 (.inr ⟨j, hj, e⟩)), h.rr, h.kk⟩
theorem OwnG.call {w w' : World} {base : Nat} {v : Value} {g : List (List Int)} {rv : Nat → Value} (h : OwnG w base v g rv) (hb : Below w.heap.size w w') : OwnG w' base v g rv := h.kept fun k _ hk _ => hb.block k hk
theorem OwnG.alloc {w : World} {base : Nat} {v : Value} {g : List (List Int)} {rv : Nat → Value} (h : OwnG w base v g rv) (o : Obj) : OwnG (w.alloc o) base v g rv := h.call (alB w o)
/-- A block that is not theirs. -/
def OffG (X : Nat) (v : Value) (g : List (List Int)) (rv : Nat → Value) : Prop := v.ownBlock ≠ some X ∧ ∀ j, j < g.length → (rv j).ownBlock ≠ some X
theorem OwnG.off_lt {w : World} {base : Nat} {v : Value} {g : List (List Int)} {rv : Nat → Value} (h : OwnG w base v g rv) {X : Nat} (hX : X < base) : OffG X v g rv :=
  ⟨fun e => by have := (h.row.lt X e).1; omega, fun j hj e => by have := ((h.rows j hj).lt X e).1; omega⟩
theorem OwnG.off_ge {w : World} {base : Nat} {v : Value} {g : List (List Int)} {rv : Nat → Value} (h : OwnG w base v g rv) {X : Nat} (hX : w.heap.size ≤ X) : OffG X v g rv :=
  ⟨fun e => by have := (h.row.lt X e).2; omega, fun j hj e => by have := ((h.rows j hj).lt X e).2; omega⟩
theorem OwnG.set {w : World} {base : Nat} {v : Value} {g : List (List Int)} {rv : Nat → Value} (h : OwnG w base v g rv) {X j : Nat} (ho : OffG X v g rv) (u : Value) : OwnG (w.setCell ⟨X, j, none⟩ u) base v g rv :=
  h.kept fun k _ _ e => setc_block (fun e' => by
    subst e'
    rcases e with e | ⟨j, hj, e⟩
    · exact ho.1 e
    · exact ho.2 j hj e)
theorem OwnG.set3 {w : World} {base : Nat} {v : Value} {g : List (List Int)} {rv : Nat → Value} (h : OwnG w base v g rv) {X : Nat} (ho : OffG X v g rv) (x y z : Value) : OwnG (set3 w X x y z) base v g rv :=
  ((h.set ho x).set ho y).set ho z
def updv (f : Nat → Value) (n : Nat) (x : Value) : Nat → Value := fun m => if m = n then x else f m
theorem updv_same (f : Nat → Value) (n : Nat) (x : Value) : updv f n x n = x := by simp [updv]
theorem updv_ne (f : Nat → Value) {n m : Nat} (x : Value) (h : m ≠ n) : updv f n x m = f m := by simp [updv, h]
theorem map_updv (f : Nat → Value) (n : Nat) (x : Value) : (List.range n).map f ++ [x] = (List.range (n + 1)).map (updv f n x) := by
  rw [List.range_succ, List.map_append]
  congr 1
  · exact List.map_congr_left fun m hm => (updv_ne f x (by have := List.mem_range.mp hm; omega)).symm
  · simp [updv]
theorem getD_app_lt {α : Type} {g : List α} {l d : α} {j : Nat} (h : j < g.length) : (g ++ [l]).getD j d = g.getD j d := by
  rw [List.getD_eq_getElem?_getD, List.getElem?_append_left h, ← List.getD_eq_getElem?_getD]
theorem getD_app_eq {α : Type} {g : List α} {l d : α} : (g ++ [l]).getD g.length d = l := by
  rw [List.getD_eq_getElem?_getD, List.getElem?_append_right (Nat.le_refl _)]; simp
/-- A fresh row, appended. -/
theorem OwnG.push {wr w1 w2 : World} {base : Nat} {v v' x1 : Value} {g : List (List Int)} {l : List Int} {rv : Nat → Value} {o : Obj} (h : OwnG wr base v g rv) (hbase : base ≤ wr.heap.size)
    (h1 : w1.ownsRow wr.heap.size 3 1 x1 l.length (intCells l)) (b1 : Below wr.heap.size wr w1)
    (h2 : w2.ownsRow base 22 1 v' (g.length + 1) ((List.range g.length).map rv ++ [x1])) (g2 : (w1.alloc o).grownBy w2 v.ownBlock) (f2 : ∀ k, v'.ownBlock = some k → v.ownBlock = some k ∨ (w1.alloc o).heap.size ≤ k) :
    OwnG w2 base v' (g ++ [l]) (updv rv g.length x1) := by
  have H := (h.call b1).alloc o
  have H1 := h1.alloc o
  have sz : (w1.alloc o).heap.size = w1.heap.size + 1 := by simp
  have nx : ∀ k, x1.ownBlock = some k → wr.heap.size ≤ k ∧ k < w1.heap.size := fun k e => h1.lt k e
  have nv : ∀ k, v.ownBlock = some k → k < wr.heap.size := fun k e => (h.row.lt k e).2
  have nr : ∀ j, j < g.length → ∀ k, (rv j).ownBlock = some k → k < wr.heap.size := fun j hj k e => ((h.rows j hj).lt k e).2
  have hx1 : w2.ownsRow base 3 1 x1 l.length (intCells l) := by
    refine ownsRow_base (H1.kept g2 ?_) hbase
    cases hb : x1.ownBlock with
    | none => exact .inl rfl
    | some k => exact .inr (fun e => by have := nx k hb; have := nv k e.symm; omega)
  have hl : (g ++ [l]).length = g.length + 1 := by simp
  refine ⟨?_, fun j hj => ?_, fun j hj => ?_, fun i j hi hj hij => ?_⟩
  · rw [hl, ← map_updv]; exact h2
  · by_cases e : j = g.length
    · subst e; rw [updv_same, getD_app_eq]; exact hx1
    · rw [updv_ne _ _ e, getD_app_lt (by omega)]
      exact (H.rows j (by omega)).kept g2 (Apart.hne (h.rr j (by omega)))
  · intro k hk hk'
    by_cases e : j = g.length
    · subst e; rw [updv_same] at hk
      have := nx k hk
      rcases f2 k hk' with f | f
      · have := nv k f; omega
      · omega
    · rw [updv_ne _ _ e] at hk
      have := nr j (by omega) k hk
      rcases f2 k hk' with f | f
      · exact h.rr j (by omega) k hk f
      · have := b1.size; omega
  · intro k hk hk'
    by_cases e : i = g.length
    · subst e; rw [updv_same] at hk; rw [updv_ne _ _ (Ne.symm hij)] at hk'
      have := nx k hk; have := nr j (by omega) k hk'; omega
    · rw [updv_ne _ _ e] at hk
      by_cases e' : j = g.length
      · subst e'; rw [updv_same] at hk'
        have := nx k hk'; have := nr i (by omega) k hk; omega
      · rw [updv_ne _ _ e'] at hk'
        exact h.kk i j (by omega) (by omega) hij k hk hk'
theorem off_push {X : Nat} {v v' x1 : Value} {g : List (List Int)} {l : List Int} {rv : Nat → Value} {K : Nat} (ho : OffG X v g rv) (hx : x1.ownBlock ≠ some X) (f2 : ∀ k, v'.ownBlock = some k → v.ownBlock = some k ∨ K ≤ k) (hK : X < K) : OffG X v' (g ++ [l]) (updv rv g.length x1) := by
  refine ⟨fun e => ?_, fun j hj e => ?_⟩
  · rcases f2 X e with f | f
    · exact ho.1 f
    · omega
  · have hl : (g ++ [l]).length = g.length + 1 := by simp
    by_cases e' : j = g.length
    · subst e'; rw [updv_same] at e; exact hx e
    · rw [updv_ne _ _ e'] at e; exact ho.2 j (by omega) e
/-- A row that grows, put back in its place. -/
theorem OwnG.grow {w1 w2 : World} {base gb cap j : Nat} {x' : Value} {g : List (List Int)} {l : List Int} {rv : Nat → Value} (h : OwnG w1 base (.slice (some ⟨gb, 0, none⟩) g.length cap) g rv) (hj : j < g.length)
    (h2 : w2.ownsRow base 3 1 x' l.length (intCells l)) (g2 : w1.grownBy w2 (rv j).ownBlock) (f2 : ∀ k, x'.ownBlock = some k → (rv j).ownBlock = some k ∨ w1.heap.size ≤ k) :
    OwnG (w2.setCell ⟨gb, j, none⟩ x') base (.slice (some ⟨gb, 0, none⟩) g.length cap) (g.set j l) (updv rv j x') := by
  have hgb := h.row.lt gb rfl
  have ngb : ∀ i, i < g.length → (rv i).ownBlock ≠ some gb := fun i hi e => h.rr i hi gb e rfl
  have nx : x'.ownBlock ≠ some gb := fun e => by
    rcases f2 gb e with f | f
    · exact ngb j hj f
    · omega
  have hl : (g.set j l).length = g.length := List.length_set ..
  have hr2 : w2.ownsRow base 22 1 (.slice (some ⟨gb, 0, none⟩) g.length cap) g.length ((List.range g.length).map rv) := h.row.kept g2 (.inr (fun e => ngb j hj e.symm))
  refine ⟨?_, fun i hi => ?_, fun i hi => ?_, fun i k hi hk hik => ?_⟩
  · have hs := (hr2.stored j x').1
    rw [hl]
    have e : ((List.range g.length).map rv).set j x' = (List.range g.length).map (updv rv j x') := by
      apply List.ext_getElem?
      intro i
      rw [List.getElem?_set]
      by_cases e : j = i
      · subst e
        rw [if_pos rfl, List.length_map, List.length_range, if_pos hj, List.getElem?_map, List.getElem?_range hj]
        simp [updv]
      · rw [if_neg e, List.getElem?_map, List.getElem?_map]
        by_cases hi : i < g.length
        · rw [List.getElem?_range hi]; simp [updv, Ne.symm e]
        · rw [List.getElem?_eq_none (by simp; omega)]; rfl
    rw [e] at hs
    exact hs
  · by_cases e : i = j
    · subst e
      rw [updv_same]
      have : (g.set i l).getD i [] = l := by rw [List.getD_eq_getElem?_getD, List.getElem?_set, if_pos rfl, if_pos hj]; rfl
      rw [this]
      exact ownsRow_kept_set h2 nx
    · rw [updv_ne _ _ e]
      have : (g.set j l).getD i [] = g.getD i [] := by rw [List.getD_eq_getElem?_getD, List.getElem?_set, if_neg (Ne.symm e), ← List.getD_eq_getElem?_getD]
      rw [this]
      exact ownsRow_kept_set ((h.rows i (by omega)).kept g2 (Apart.hne (h.kk i j (by omega) hj e))) (ngb i (by omega))
  · by_cases e : i = j
    · subst e; rw [updv_same]; exact fun k hk e => nx (by rw [hk]; simpa [Value.ownBlock] using e.symm)
    · rw [updv_ne _ _ e]; exact h.rr i (by omega)
  · intro m hm hm'
    by_cases e : i = j
    · subst e; rw [updv_same] at hm; rw [updv_ne _ _ (Ne.symm hik)] at hm'
      rcases f2 m hm with f | f
      · exact h.kk i k (by omega) (by omega) hik m f hm'
      · have := ((h.rows k (by omega)).lt m hm').2; omega
    · rw [updv_ne _ _ e] at hm
      by_cases e' : k = j
      · subst e'; rw [updv_same] at hm'
        rcases f2 m hm' with f | f
        · exact h.kk i k (by omega) (by omega) hik m hm f
        · have := ((h.rows i (by omega)).lt m hm).2; omega
      · rw [updv_ne _ _ e'] at hm'
        exact h.kk i k (by omega) (by omega) hik m hm hm'
theorem OwnG.rebase {w : World} {base base' : Nat} {v : Value} {g : List (List Int)} {rv : Nat → Value} (h : OwnG w base v g rv) (hb : base' ≤ base) : OwnG w base' v g rv :=
  ⟨ownsRow_base h.row hb, fun j hj => ownsRow_base (h.rows j hj) hb, h.rr, h.kk⟩
/-- Groups of the call's own, whatever their rows. -/
def OwnX (w : World) (base : Nat) (v : Value) (g : List (List Int)) : Prop := ∃ rv, OwnG w base v g rv
theorem OwnX.grps {w : World} {base : Nat} {v : Value} {g : List (List Int)} (h : OwnX w base v g) : GrpsAt w v g := let ⟨_, h⟩ := h; h.grps
theorem OwnX.call {w w' : World} {base : Nat} {v : Value} {g : List (List Int)} (h : OwnX w base v g) (hb : Below w.heap.size w w') : OwnX w' base v g := let ⟨rv, h⟩ := h; ⟨rv, h.call hb⟩
theorem OwnX.alloc {w : World} {base : Nat} {v : Value} {g : List (List Int)} (h : OwnX w base v g) (o : Obj) : OwnX (w.alloc o) base v g := h.call (alB w o)
theorem OwnX.set3 {w : World} {base : Nat} {v : Value} {g : List (List Int)} (h : OwnX w base v g) {X : Nat} (hX : X < base) (x y z : Value) : OwnX (set3 w X x y z) base v g := let ⟨rv, h⟩ := h; ⟨rv, h.set3 (h.off_lt hX) x y z⟩
theorem OwnX.set {w : World} {base : Nat} {v : Value} {g : List (List Int)} (h : OwnX w base v g) {X j : Nat} (hX : X < base) (u : Value) : OwnX (w.setCell ⟨X, j, none⟩ u) base v g := let ⟨rv, h⟩ := h; ⟨rv, h.set (h.off_lt hX) u⟩
theorem OwnX.rebase {w : World} {base base' : Nat} {v : Value} {g : List (List Int)} (h : OwnX w base v g) (hb : base' ≤ base) : OwnX w base' v g := let ⟨rv, h⟩ := h; ⟨rv, h.rebase hb⟩
theorem OwnX.nil (w : World) (base : Nat) : OwnX w base (.slice none 0 0) [] := ⟨fun _ => undef, OwnG.nil _ _ _⟩
end Go.Proofs.Ytlgbiecgbdbefab
