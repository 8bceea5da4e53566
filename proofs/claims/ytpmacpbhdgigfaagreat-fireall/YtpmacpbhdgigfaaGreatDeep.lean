/- A range over a function that ranges over itself: what a round may touch (a cell X, the row whose slice stands there, and the records of the loops around); the law for such a range; a frame that leaves with several marks. -/
import Derived.Test.YtpmacpbhdgigfaaGreatBits2
namespace Go.Proofs.YtpmacpbhdgigfaaGreat
open Go.RowKit Go.Shelf

/-- The block of the row whose slice stands in cell X. -/
def ownX (X : Nat) (W : World) : Option Nat := (W.cell? ⟨X, 0, none⟩).bind Value.ownBlock
theorem ownX_block {X : Nat} {A B : World} (h : B.heap[X]? = A.heap[X]?) : ownX X B = ownX X A := by
  unfold ownX; rw [World.cell?_of_block (a := ⟨X, 0, none⟩) h]

/-- All lies as it lay, but what E names, and the row of X; that row is the old one, or new. -/
structure Kd (E : Nat → Prop) (X : Nat) (A B : World) : Prop where
  os : B.os = A.os
  tape : B.tape = A.tape
  output : B.output = A.output
  size : A.heap.size ≤ B.heap.size
  block : ∀ k, k < A.heap.size → ¬ E k → ownX X A ≠ some k → B.heap[k]? = A.heap[k]?
  own : ∀ g, ownX X B = some g → ownX X A = some g ∨ (A.heap.size ≤ g ∧ g < B.heap.size)

variable {E E' : Nat → Prop} {X : Nat} {A B C : World}
theorem Kd.refl (E : Nat → Prop) (X : Nat) (A : World) : Kd E X A A := ⟨rfl, rfl, rfl, Nat.le_refl _, fun _ _ _ _ => rfl, fun _ h => .inl h⟩
theorem Kd.trans (h : Kd E X A B) (k : Kd E X B C) : Kd E X A C := by
  refine ⟨k.os.trans h.os, k.tape.trans h.tape, k.output.trans h.output, Nat.le_trans h.size k.size, fun j hj he ho => ?_, fun g hg => ?_⟩
  · have h1 := h.block j hj he ho
    refine (k.block j (Nat.lt_of_lt_of_le hj h.size) he (fun e => ?_)).trans h1
    rcases h.own j e with e' | ⟨e', _⟩
    · exact ho e'
    · omega
  · have s1 := h.size
    have s2 := k.size
    rcases k.own g hg with e | ⟨e1, e2⟩
    · rcases h.own g e with e | ⟨e1, e2⟩
      · exact .inl e
      · exact .inr ⟨e1, by omega⟩
    · exact .inr ⟨by omega, e2⟩
theorem Kd.mono (h : Kd E X A B) (he : ∀ k, E k → E' k) : Kd E' X A B := ⟨h.os, h.tape, h.output, h.size, fun k hk hn ho => h.block k hk (fun e => hn (he k e)) ho, h.own⟩
theorem Kd.putObj (W : World) {l : Nat} (o : Obj) (hl : E l) (hX : l ≠ X) : Kd E X W (W.putObj l o) := by
  have hb : ∀ k, k ≠ l → (W.putObj l o).heap[k]? = W.heap[k]? := fun k hk => World.putObj_heap_other hk
  refine ⟨rfl, rfl, rfl, by simp, fun k _ he _ => hb k (fun e => he (e ▸ hl)), fun g hg => .inl ?_⟩
  rw [ownX_block (hb X (fun e => hX e.symm))] at hg
  exact hg
theorem Kd.alloc (W : World) (o : Obj) (hX : X < W.heap.size) : Kd E X W (W.alloc o) := by
  have hb := (Below.refl W.heap.size W).alloc (Nat.le_refl _) o
  refine ⟨hb.os, hb.tape, hb.output, hb.size, fun k hk _ _ => hb.block k hk, fun g hg => .inl ?_⟩
  rw [ownX_block (hb.block X hX)] at hg
  exact hg
/-- What lies in a block that no round touches. -/
def Held (E : Nat → Prop) (X : Nat) (W : World) (k : Nat) : Prop := k < W.heap.size ∧ ¬ E k ∧ ownX X W ≠ some k
theorem Held.kd {k : Nat} (h : Held E X A k) (hk : Kd E X A B) : Held E X B k := by
  refine ⟨Nat.lt_of_lt_of_le h.1 hk.size, h.2.1, fun e => ?_⟩
  rcases hk.own k e with e' | ⟨e', _⟩
  · exact h.2.2 e'
  · have := h.1; omega
theorem Held.cell {k o : Nat} {v : Value} (h : Held E X A k) (hk : Kd E X A B) (hc : A.cell? ⟨k, o, none⟩ = some v) : B.cell? ⟨k, o, none⟩ = some v :=
  (World.cell?_of_block (a := ⟨k, o, none⟩) (hk.block k h.1 h.2.1 h.2.2)).trans hc
theorem Kd.below {b0 : Nat} (h : Kd E X A B) (hE : ∀ k, E k → b0 ≤ k) (ho : ∀ g, ownX X A = some g → b0 ≤ g) (hs : b0 ≤ A.heap.size) : Below b0 A B :=
  ⟨h.os, h.tape, h.output, h.size, fun k hk => h.block k (by omega) (fun e => by have := hE k e; omega) (fun e => by have := ho k e; omega)⟩
theorem kd_own {β : Type} {w : World} (hX : X < w.heap.size) : OwnFrom w.heap.size (fun (_ : β) W => Kd E X w W) := by
  intro s W W' row h hg hr
  have hne : ∀ k, k < w.heap.size → some k ≠ row := fun k hk e => by have := (hr k e.symm).1; omega
  have hb : ∀ k, k < w.heap.size → W'.heap[k]? = W.heap[k]? := fun k hk => hg.block k (Nat.lt_of_lt_of_le hk h.size) (hne k hk)
  have hs := hg.size
  refine ⟨hg.os.trans h.os, hg.tape.trans h.tape, hg.output.trans h.output, Nat.le_trans h.size hs, fun k hk he ho => (hb k hk).trans (h.block k hk he ho), fun g hg' => ?_⟩
  rw [ownX_block (hb X hX)] at hg'
  rcases h.own g hg' with e | ⟨e1, e2⟩
  · exact .inl e
  · exact .inr ⟨e1, by omega⟩

/-- What an iterator does for every loop whose rounds touch no more than that. -/
def DeepSeq {α : Type} (P : Program) (gf : Nat) (lb : Array Value) (encs : α → Array Value) (X M : Nat) (E : Nat → Prop) (xs : List α) (W : World) : Prop :=
  ∀ (m l : Nat) (J Jx : List α → World → Prop), OwnFrom M J → OwnFrom M Jx →
    (∀ (m : Nat) (pre : List α) (x : α) (W1 : World), J pre W1 → pre.length < xs.length → YieldAt Fence.wide m P l (encs x) W1 fun e W' =>
      (e = .returned (.bool true) ∧ J (pre ++ [x]) W' ∧ Kd E X W1 W') ∨ (e = .returned (.bool false) ∧ Jx (pre ++ [x]) W' ∧ Kd E X W1 W')) →
    J [] W → CallsIn Fence.wide m P gf (#[.func (.yield l) #[] #[]] ++ lb) W fun e W' => (∃ v, e = .returned v) ∧ (J xs W' ∨ ∃ pre, pre <+: xs ∧ Jx pre W')

/-- How a round's body may be left. -/
def deepPost {α : Type} (E : Nat → Prop) (X : Nat) (I : List α → World → Prop) (Ix : Code → List α → World → Prop) (xs : List α) (W : World) : Exit → Act → World → Prop
  | .normal, _, W' => Kd E X W W' ∧ I xs W'
  | .ret, _, W' => Kd E X W W' ∧ Ix .ret xs W'
  | .exit id, _, W' => Kd E X W W' ∧ Ix (.exit id) xs W'
  | _, _, _ => False

theorem range_deep {P : Program} {α : Type} {g : Operand} {ps : Array Tmp} {assign body : Code} {Q : Exit → Act → World → Prop} {a : Act} {w : World} {n : Nat}
    {gf : Nat} {lb : Array Value} (hg : a.eval g = .func (.func gf) #[] lb) (eg : ∀ args w, (callFunc gf args).run P w = .ok (.enter gf args) w)
    (encs : α → Array Value) (hps : ∀ x, (encs x).size = ps.size) (X : Nat) (E : Nat → Prop) (hE : ∀ k, E k → k < w.heap.size) (hX : X < w.heap.size) (hXo : ∀ g, ownX X w = some g → g < w.heap.size)
    (xs : List α) (hseq : ∀ W1, Below w.heap.size w W1 → W1.heap.size = w.heap.size + 2 → DeepSeq P gf lb encs X (w.heap.size + 2) (fun k => E k ∨ k = w.heap.size + 1) xs W1)
    (I : List α → World → Prop) (Ix : Code → List α → World → Prop) (hI : OwnFrom w.heap.size I) (hIx : ∀ c, OwnFrom w.heap.size (Ix c)) (h0 : I [] w) (a₁ : α → Act)
    (hassign : ∀ (l m : Nat) (x : α) (W : World) (K : Act → World → Prop), K (a₁ x) W →
      assign.wpIn (Fence.wide.inRound l) m P (Exit.then K (fun _ _ _ => False)) { tmps := (ps.zip (encs x)).foldl (fun t (p, v) => t.setIfInBounds p v) a.tmps, defers := [] } W)
    (hbody : ∀ (l m : Nat) (pre : List α) (x : α) (W : World), I pre W → pre.length < xs.length → body.wpIn (Fence.wide.inRound l) m P (deepPost E X I Ix (pre ++ [x]) W) (a₁ x) W)
    (hdone : ∀ (W : World), I xs W → W.heap[w.heap.size]? = some (.deferred (some [])) → ownX X W ≠ some w.heap.size → Q .normal { a with defers := { target := .collected w.heap.size, args := #[] } :: a.defers } W)
    (hstop : ∀ (c : Code) (pre : List α) (W : World), pre <+: xs → Ix c pre W → W.heap[w.heap.size]? = some (.deferred (some [])) → ownX X W ≠ some w.heap.size → c.wpIn Fence.wide n P Q { a with defers := { target := .collected w.heap.size, args := #[] } :: a.defers } W) :
    (Code.rangeFunc g ps assign body).wpIn Fence.wide n P Q a w := by
  refine wpIn_rangeFunc ?_
  intro fn hfn
  obtain ⟨rec, hrec⟩ : ∃ rec : LoopState → Option Code → Loop, rec = fun st pe => { state := st, pending := pe, fn, tmps := a.tmps, params := ps, assign, body, defers := w.heap.size } := ⟨_, rfl⟩
  obtain ⟨W1, hW1⟩ : ∃ W1, (w.alloc (.deferred (some []))).alloc (.loop (rec .ready none)) = W1 := ⟨_, rfl⟩
  have hB1 : Below w.heap.size w W1 := by
    rw [← hW1]; exact ((Below.refl _ w).alloc (Nat.le_refl _) _).alloc (by simp) _
  have hs1 : W1.heap.size = w.heap.size + 2 := by rw [← hW1]; simp
  have hL1 : W1.heap[w.heap.size + 1]? = some (.loop (rec .ready none)) := by
    rw [← hW1]
    have := World.alloc_heap_new (w.alloc (.deferred (some []))) (.loop (rec .ready none))
    rwa [World.size_alloc] at this
  have hD1 : W1.heap[w.heap.size]? = some (.deferred (some [])) := by
    rw [← hW1]; exact (Below.heap_alloc _ _ _ (by simp)).trans (World.alloc_heap_new w _)
  have hI1 : I [] W1 := by rw [← hW1]; exact hI.alloc _ (hI.alloc _ h0)
  have hX1 : ownX X W1 = ownX X w := ownX_block (hB1.block X hX)
  have hLX : w.heap.size + 1 ≠ X := by omega
  have hj : ∀ {K : List α → World → Prop} (r : Loop), OwnFrom w.heap.size K → OwnFrom (w.heap.size + 2) (fun pre W => K pre W ∧ W.heap[w.heap.size + 1]? = some (.loop r) ∧ W.heap[w.heap.size]? = some (.deferred (some [])) ∧ ownX X W ≠ some (w.heap.size + 1) ∧ ownX X W ≠ some w.heap.size) := by
    intro K r hK s W W' row h hgr hr
    obtain ⟨h1, h2, h3, h4, h5⟩ := h
    have hlt : w.heap.size + 1 < W.heap.size := (Array.getElem?_eq_some_iff.1 h2).1
    have hb : ∀ k, k < w.heap.size + 2 → W'.heap[k]? = W.heap[k]? := fun k hk => hgr.block k (by omega) (fun e => by have := (hr k e.symm).1; omega)
    refine ⟨hK s W W' row h1 hgr (fun r e => ⟨by have := (hr r e).1; omega, (hr r e).2⟩), (hb _ (by omega)).trans h2, (hb _ (by omega)).trans h3, ?_, ?_⟩
    · rw [ownX_block (hb X (by omega))]; exact h4
    · rw [ownX_block (hb X (by omega))]; exact h5
  have hjx : OwnFrom (w.heap.size + 2) (fun pre W => ∃ c, Ix c pre W ∧ W.heap[w.heap.size + 1]? = some (.loop (rec .done (some c))) ∧ W.heap[w.heap.size]? = some (.deferred (some [])) ∧ ownX X W ≠ some (w.heap.size + 1) ∧ ownX X W ≠ some w.heap.size) := by
    rintro s W W' row ⟨c, h⟩ hgr hr
    exact ⟨c, hj _ (hIx c) s W W' row h hgr hr⟩
  refine ⟨w.heap.size + 1, [{ target := .collected w.heap.size, args := #[] }], W1, { target := .fn (.func gf) lb, args := #[.func (.yield (w.heap.size + 1)) #[] #[]] }, W1, gf,
    #[.func (.yield (w.heap.size + 1)) #[] #[]] ++ lb, W1, ?_, ?_, fun _ _ => trivial, ?_, fun h => (by cases h), ?_⟩
  · rw [← hW1, hrec]; exact run_enterLoop_outer _ _ _ _ _
  · simp only [resolve, hg]
    simp [go_sem]
  · simp [invoke, go_sem, eg]
  · refine (hseq W1 hB1 hs1 (n - 1) (w.heap.size + 1) _ _ (hj (rec .ready none) hI) hjx ?_ ⟨hI1, hL1, hD1, ?_, ?_⟩).mono ?_
    · rintro m pre x W ⟨hi, hl, hd, ho1, ho2⟩ hlen
      have hlt : w.heap.size + 1 < W.heap.size := (Array.getElem?_eq_some_iff.1 hl).1
      have hy := run_yield (P := P) (args := encs x) hl (by rw [hrec]; exact hps x)
      rw [hrec] at hy
      refine ⟨fn, _, assign, body, hy, roundIn_of_wpIn hfn (hassign _ _ x W _ ⟨_, run_beginRound hl (by rw [hrec]), ?_⟩)⟩
      obtain ⟨W2, hW2⟩ : ∃ W2, W.putObj (w.heap.size + 1) (.loop { rec .ready none with state := .busy }) = W2 := ⟨_, rfl⟩
      have hl2 : W2.heap[w.heap.size + 1]? = some (.loop { rec .ready none with state := .busy }) := by rw [← hW2]; exact World.putObj_heap_same hlt
      have hd2 : W2.heap[w.heap.size]? = some (.deferred (some [])) := by rw [← hW2]; exact (World.putObj_heap_other (by omega)).trans hd
      have hs2 : w.heap.size + 1 < W2.heap.size := (Array.getElem?_eq_some_iff.1 hl2).1
      have hx2 : ownX X W2 = ownX X W := by rw [← hW2]; exact ownX_block (World.putObj_heap_other (by omega))
      have hk2 : Kd (fun k => E k ∨ k = w.heap.size + 1) X W W2 := by rw [← hW2]; exact Kd.putObj W _ (.inr rfl) hLX
      have hi2 : I pre W2 := by rw [← hW2]; exact hI.putObj _ hi (by omega) hl rfl
      rw [hW2]
      refine wpIn_mono (hbody _ _ pre x W2 hi2 hlen) ?_
      have fin : ∀ (jump : Option Code) (W3 : World), Kd E X W2 W3 → W3.heap[w.heap.size + 1]? = some (.loop { rec .ready none with state := .busy }) ∧
          (Instr.endRound (w.heap.size + 1) jump).run P W3 = .ok (.bool jump.isNone) (W3.putObj (w.heap.size + 1) (.loop (rec (if jump.isNone then .ready else .done) jump))) ∧
          ((W3.putObj (w.heap.size + 1) (.loop (rec (if jump.isNone then .ready else .done) jump))).heap[w.heap.size + 1]? = some (.loop (rec (if jump.isNone then .ready else .done) jump)) ∧
          (W3.putObj (w.heap.size + 1) (.loop (rec (if jump.isNone then .ready else .done) jump))).heap[w.heap.size]? = some (.deferred (some [])) ∧
          ownX X (W3.putObj (w.heap.size + 1) (.loop (rec (if jump.isNone then .ready else .done) jump))) ≠ some (w.heap.size + 1) ∧ ownX X (W3.putObj (w.heap.size + 1) (.loop (rec (if jump.isNone then .ready else .done) jump))) ≠ some w.heap.size) ∧
          Kd (fun k => E k ∨ k = w.heap.size + 1) X W (W3.putObj (w.heap.size + 1) (.loop (rec (if jump.isNone then .ready else .done) jump))) := fun jump W3 hk3 => by
        have keep : ∀ k, k = w.heap.size + 1 ∨ k = w.heap.size → W3.heap[k]? = W2.heap[k]? ∧ ownX X W3 ≠ some k := fun k hk => by
          have ho : ownX X W2 ≠ some k := by rw [hx2]; rcases hk with rfl | rfl <;> assumption
          refine ⟨hk3.block k (by omega) (fun e => by have := hE k e; omega) ho, fun e => ?_⟩
          rcases hk3.own k e with e' | ⟨e', _⟩
          · exact ho e'
          · omega
        have hl3 := (keep _ (.inl rfl)).1.trans hl2
        have hd3 := (keep _ (.inr rfl)).1.trans hd2
        have hr := run_endRound (P := P) jump hl3
        rw [hrec] at hr
        have hxx : ∀ o, ownX X (W3.putObj (w.heap.size + 1) o) = ownX X W3 := fun o => ownX_block (World.putObj_heap_other (by omega))
        refine ⟨hl3, by rw [hrec]; exact hr, ⟨World.putObj_heap_same (Array.getElem?_eq_some_iff.1 hl3).1, (World.putObj_heap_other (by omega)).trans hd3, ?_, ?_⟩, ?_⟩
        · rw [hxx]; exact (keep _ (.inl rfl)).2
        · rw [hxx]; exact (keep _ (.inr rfl)).2
        · exact (hk2.trans (hk3.mono (fun _ h => .inl h))).trans (Kd.putObj W3 _ (.inr rfl) hLX)
      rintro e a3 W3 hp
      cases e with
      | normal =>
        obtain ⟨hk3, hi3⟩ := hp
        obtain ⟨hl3, hr, h4, h5⟩ := fin none W3 hk3
        exact ⟨_, _, hr, .inl ⟨rfl, ⟨hI.putObj _ hi3 (by omega) hl3 rfl, h4⟩, h5⟩⟩
      | ret =>
        obtain ⟨hk3, hi3⟩ := hp
        obtain ⟨hl3, hr, h4, h5⟩ := fin (some .ret) W3 hk3
        exact ⟨_, _, hr, .inr ⟨rfl, ⟨.ret, (hIx _).putObj _ hi3 (by omega) hl3 rfl, h4⟩, h5⟩⟩
      | exit id =>
        obtain ⟨hk3, hi3⟩ := hp
        obtain ⟨hl3, hr, h4, h5⟩ := fin (some (.exit id)) W3 hk3
        exact ⟨_, _, hr, .inr ⟨rfl, ⟨.exit id, (hIx _).putObj _ hi3 (by omega) hl3 rfl, h4⟩, h5⟩⟩
      | goto t => exact hp.elim
      | panic ch => exact hp.elim
      | outgrown => exact hp.elim
    · rw [hX1]; intro e; have := hXo _ e; omega
    · rw [hX1]; intro e; have := hXo _ e; omega
    · have fin : ∀ (W : World) (o : Obj), W.heap[w.heap.size]? = some (.deferred (some [])) → ownX X W ≠ some w.heap.size → (W.putObj (w.heap.size + 1) o).heap[w.heap.size]? = some (.deferred (some [])) ∧ ownX X (W.putObj (w.heap.size + 1) o) ≠ some w.heap.size := fun W o h1 h2 =>
        ⟨(World.putObj_heap_other (by omega)).trans h1, by rw [ownX_block (World.putObj_heap_other (by omega))]; exact h2⟩
      rintro e W2 ⟨⟨v, rfl⟩, (⟨hi, hl, hk, _, ho⟩ | ⟨pre, hSp, c, hi, hl, hk, _, ho⟩)⟩
      · refine ⟨none, _, (by have := run_endLoop (P := P) hl (by rw [hrec]; simp); rw [hrec] at this; exact this), ?_⟩
        exact hdone _ (hI.putObj _ hi (by omega) hl rfl) (fin _ _ hk ho).1 (fin _ _ hk ho).2
      · refine ⟨some c, _, (by have := run_endLoop (P := P) hl (by rw [hrec]; simp); rw [hrec] at this; exact this), ?_⟩
        exact hstop c pre _ hSp ((hIx c).putObj _ hi (by omega) hl rfl) (fin _ _ hk ho).1 (fin _ _ hk ho).2

/-- A frame that leaves with several marks: each block is open still. -/
theorem leaves_marks {P : Program} {F : Fence} {n : Nat} {fn : Func} {tmps : Array Value} {R : Ending → World → Prop} (K : World → Prop) : ∀ (Ds : List Nat) (w : World), Ds.Nodup → (∀ D ∈ Ds, w.heap[D]? = some (.deferred (some []))) →
    (∀ (D : Nat) (w : World), D ∈ Ds → w.heap[D]? = some (.deferred (some [])) → K w → K (w.putObj D (.deferred none))) → K w → (∀ w, K w → LeavesInM F n P fn tmps R [] .returning w) →
    LeavesInM F n P fn tmps R (Ds.map fun D => { target := .collected D, args := #[] }) .returning w
  | [], w, _, _, _, hK, hf => hf w hK
  | D :: Ds, w, hn, ho, hs, hK, hf => by
    obtain ⟨h1, h2⟩ := List.nodup_cons.mp hn
    have hD := ho D (List.mem_cons_self ..)
    refine ⟨by simp, .inl ⟨D, _, rfl, run_takeDeferred hD, ?_⟩⟩
    refine leaves_marks K Ds _ h2 (fun D' hD' => ?_) (fun D' w' hD' => hs D' w' (List.mem_cons_of_mem _ hD')) (hs D w (List.mem_cons_self ..) hD hK) hf
    exact (World.putObj_heap_other (fun e => by subst e; exact h1 hD')).trans (ho D' (List.mem_cons_of_mem _ hD'))
end Go.Proofs.YtpmacpbhdgigfaaGreat
