/- Five rows of one's own, in five blocks, as they grow one by one. -/
import Derived.Test.YtclhimodopgeoaaGreatXStepApp
import Derived.Test.YtclhimodopgeoaaGreatXTopAnyO
namespace Go.Proofs.YtclhimodopgeoaaGreat
open Go.RowKit

def upV {α : Type} (f : Nat → α) (i : Nat) (x : α) : Nat → α := fun j => if j = i then x else f j
structure Rs (w : World) (base : Nat) (v : Nat → Value) (x : Nat → TypeId × Nat × Nat × List Value) : Prop where
  own : ∀ i, i < 5 → w.ownsRow base (x i).1 (x i).2.1 (v i) (x i).2.2.1 (x i).2.2.2
  dis : ∀ i j, i < 5 → j < 5 → i ≠ j → Apart (v i) (v j)
section
variable {w w1 w4 : World} {base : Nat} {v : Nat → Value} {x : Nat → TypeId × Nat × Nat × List Value}
theorem Rs.below (h : Rs w base v x) (hb : Below w.heap.size w w1) : Rs w1 base v x :=
  ⟨fun i hi => ownsRow_below (h.own i hi) hb (fun j e => ((h.own i hi).lt j e).2), h.dis⟩
theorem Rs.app (h : Rs w base v x) {i : Nat} (hi : i < 5) (hb : Below w.heap.size w w1) {v4 : Value} {n : Nat} {xs : List Value} (ho4 : w4.ownsRow base (x i).1 (x i).2.1 v4 n xs) (hg : w1.grownBy w4 (v i).ownBlock) (hf : ∀ k, v4.ownBlock = some k → (v i).ownBlock = some k ∨ w1.heap.size ≤ k) :
    Rs w4 base (upV v i v4) (upV x i ((x i).1, (x i).2.1, n, xs)) := by
  have h1 := h.below hb
  have key : ∀ j, j < 5 → j ≠ i → Apart (v j) v4 := fun j hj hne k hk hk4 => by
    rcases hf k hk4 with h2 | h2
    · exact h.dis j i hj hi hne k hk h2
    · have := ((h1.own j hj).lt k hk).2
      omega
  refine ⟨fun j hj => ?_, fun j m hj hm hne => ?_⟩
  · unfold upV
    by_cases q : j = i
    · subst q
      rw [if_pos rfl, if_pos rfl]
      exact ho4
    · rw [if_neg q, if_neg q]
      exact (h1.own j hj).kept hg (Apart.hne (h.dis j i hj hi q))
  · unfold upV
    by_cases q : j = i
    · rw [if_pos q, if_neg (by omega)]
      exact (key m hm (by omega)).symm
    · by_cases q2 : m = i
      · rw [if_neg q, if_pos q2]
        exact key j hj q
      · rw [if_neg q, if_neg q2]
        exact h.dis j m hj hm hne
/-- A store into a block of another kind. -/
theorem Rs.off {b : Nat} {t o m p q : Value} (h : Rs w base v x) (hB : BoxO w b t o m p q) (hty : ∀ i, i < 5 → (x i).1 = 3 ∨ (x i).1 = 39) (hk : ∀ j, j ≠ b → w1.heap[j]? = w.heap[j]?) : Rs w1 base v x := by
  refine ⟨fun i hi => ?_, h.dis⟩
  have hr := h.own i hi
  refine ⟨hr.1, ?_⟩
  rcases hr.2 with hn | ⟨g, cap, cur, e, hb, hgg, rest⟩
  · exact .inl hn
  · refine .inr ⟨g, cap, cur, e, hb, ?_, rest⟩
    rw [hk g (fun e' => by
      subst e'
      unfold BoxO at hB
      rw [hB] at hgg
      simp only [Option.some.injEq, Obj.cells.injEq] at hgg
      rcases hty i hi with h3 | h3 <;> rw [h3] at hgg <;> exact absurd hgg.2.1 (by decide))]
    exact hgg
theorem Rs.ne {b : Nat} {t o m p q : Value} (h : Rs w base v x) (hB : BoxO w b t o m p q) (hty : ∀ i, i < 5 → (x i).1 = 3 ∨ (x i).1 = 39) {i : Nat} (hi : i < 5) : (v i).ownBlock ≠ some b := by
  have hr := h.own i hi
  rcases hr.2 with ⟨e, _⟩ | ⟨g, cap, cur, e, hb, hgg, rest⟩
  · rw [e]; intro h2; simp [Value.ownBlock] at h2
  · rw [e]
    intro h2
    simp only [Value.ownBlock, Option.some.injEq] at h2
    subst h2
    unfold BoxO at hB
    rw [hB] at hgg
    simp only [Option.some.injEq, Obj.cells.injEq] at hgg
    rcases hty i hi with h3 | h3 <;> rw [h3] at hgg <;> exact absurd hgg.2.1 (by decide)
end
def v5 (a b c d e : Value) : Nat → Value := fun i => if i = 0 then a else if i = 1 then b else if i = 2 then c else if i = 3 then d else e
def x5 (O M : List Int) (P : List Sh) (T G : List Int) : Nat → TypeId × Nat × Nat × List Value := fun i => if i = 0 then (3, 1, O.length, intCells O) else if i = 1 then (3, 1, M.length, intCells M) else if i = 2 then (39, 2, P.length, shCells P) else if i = 3 then (3, 1, T.length, intCells T) else (3, 1, G.length, intCells G)
section
variable {a b c d e a' : Value} {O M : List Int} {P : List Sh} {T G : List Int}
theorem x5_ty : ∀ i, i < 5 → (x5 O M P T G i).1 = 3 ∨ (x5 O M P T G i).1 = 39 := fun i hi => by
  obtain rfl | rfl | rfl | rfl | rfl : i = 0 ∨ i = 1 ∨ i = 2 ∨ i = 3 ∨ i = 4 := by omega
  · exact .inl rfl
  · exact .inl rfl
  · exact .inr rfl
  · exact .inl rfl
  · exact .inl rfl
theorem Rs.congr {w : World} {base : Nat} {v v' : Nat → Value} {x x' : Nat → TypeId × Nat × Nat × List Value} (h : Rs w base v x) (hv : ∀ i, i < 5 → v i = v' i) (hx : ∀ i, i < 5 → x i = x' i) : Rs w base v' x' :=
  ⟨fun i hi => by rw [← hv i hi, ← hx i hi]; exact h.own i hi, fun i j hi hj hne => by rw [← hv i hi, ← hv j hj]; exact h.dis i j hi hj hne⟩
theorem five {p : Nat → Prop} (h0 : p 0) (h1 : p 1) (h2 : p 2) (h3 : p 3) (h4 : p 4) : ∀ i, i < 5 → p i := fun i hi => by
  obtain rfl | rfl | rfl | rfl | rfl : i = 0 ∨ i = 1 ∨ i = 2 ∨ i = 3 ∨ i = 4 := by omega
  · exact h0
  · exact h1
  · exact h2
  · exact h3
  · exact h4
variable {w w1 w4 : World} {base : Nat} {y : Int}
theorem Rs.app0 (h : Rs w base (v5 a b c d e) (x5 O M P T G)) (hb : Below w.heap.size w w1) (ho4 : w4.ownsRow base 3 1 a' (O.length + 1) (intCells (O ++ [y]))) (hg : w1.grownBy w4 a.ownBlock) (hf : ∀ k, a'.ownBlock = some k → a.ownBlock = some k ∨ w1.heap.size ≤ k) : Rs w4 base (v5 a' b c d e) (x5 (O ++ [y]) M P T G) :=
  (h.app (i := 0) (by omega) hb ho4 hg hf).congr (five rfl rfl rfl rfl rfl) (five (by show (3, 1, O.length + 1, intCells (O ++ [y])) = (3, 1, (O ++ [y]).length, intCells (O ++ [y])); rw [List.length_append]; rfl) rfl rfl rfl rfl)
theorem Rs.app1 (h : Rs w base (v5 a b c d e) (x5 O M P T G)) (hb : Below w.heap.size w w1) (ho4 : w4.ownsRow base 3 1 a' (M.length + 1) (intCells (M ++ [y]))) (hg : w1.grownBy w4 b.ownBlock) (hf : ∀ k, a'.ownBlock = some k → b.ownBlock = some k ∨ w1.heap.size ≤ k) : Rs w4 base (v5 a a' c d e) (x5 O (M ++ [y]) P T G) :=
  (h.app (i := 1) (by omega) hb ho4 hg hf).congr (five rfl rfl rfl rfl rfl) (five rfl (by show (3, 1, M.length + 1, intCells (M ++ [y])) = (3, 1, (M ++ [y]).length, intCells (M ++ [y])); rw [List.length_append]; rfl) rfl rfl rfl)
theorem Rs.app2 {z : Sh} (h : Rs w base (v5 a b c d e) (x5 O M P T G)) (hb : Below w.heap.size w w1) (ho4 : w4.ownsRow base 39 2 a' (P.length + 1) (shCells (P ++ [z]))) (hg : w1.grownBy w4 c.ownBlock) (hf : ∀ k, a'.ownBlock = some k → c.ownBlock = some k ∨ w1.heap.size ≤ k) : Rs w4 base (v5 a b a' d e) (x5 O M (P ++ [z]) T G) :=
  (h.app (i := 2) (by omega) hb ho4 hg hf).congr (five rfl rfl rfl rfl rfl) (five rfl rfl (by show (39, 2, P.length + 1, shCells (P ++ [z])) = (39, 2, (P ++ [z]).length, shCells (P ++ [z])); rw [List.length_append]; rfl) rfl rfl)
theorem Rs.app3 (h : Rs w base (v5 a b c d e) (x5 O M P T G)) (hb : Below w.heap.size w w1) (ho4 : w4.ownsRow base 3 1 a' (T.length + 1) (intCells (T ++ [y]))) (hg : w1.grownBy w4 d.ownBlock) (hf : ∀ k, a'.ownBlock = some k → d.ownBlock = some k ∨ w1.heap.size ≤ k) : Rs w4 base (v5 a b c a' e) (x5 O M P (T ++ [y]) G) :=
  (h.app (i := 3) (by omega) hb ho4 hg hf).congr (five rfl rfl rfl rfl rfl) (five rfl rfl rfl (by show (3, 1, T.length + 1, intCells (T ++ [y])) = (3, 1, (T ++ [y]).length, intCells (T ++ [y])); rw [List.length_append]; rfl) rfl)
theorem Rs.app4 (h : Rs w base (v5 a b c d e) (x5 O M P T G)) (hb : Below w.heap.size w w1) (ho4 : w4.ownsRow base 3 1 a' (G.length + 1) (intCells (G ++ [y]))) (hg : w1.grownBy w4 e.ownBlock) (hf : ∀ k, a'.ownBlock = some k → e.ownBlock = some k ∨ w1.heap.size ≤ k) : Rs w4 base (v5 a b c d a') (x5 O M P T (G ++ [y])) :=
  (h.app (i := 4) (by omega) hb ho4 hg hf).congr (five rfl rfl rfl rfl rfl) (five rfl rfl rfl rfl (by show (3, 1, G.length + 1, intCells (G ++ [y])) = (3, 1, (G ++ [y]).length, intCells (G ++ [y])); rw [List.length_append]; rfl))
end
end Go.Proofs.YtclhimodopgeoaaGreat

