/- WMath: who watches, as lists: what opening, dropping, acting and closing make of groups. -/
import Derived.Test.YtlgbiecgbdbefabW0
namespace Go.Proofs.Ytlgbiecgbdbefab
open Go.RowKit

/-- Who watches: groups, how many there may be, whether an act allows one more. -/
structure Wt where
  g : List (List Int)
  a : Int
  n : Bool
  deriving Inhabited, DecidableEq

def wtNew : Wt := ⟨[], 1, true⟩
def opensB (s : Wt) : Bool := decide (s.g.length = 0) || decide ((s.g.length : Int) < s.a)
def wtOpen (s : Wt) (x : Int) : Wt := ⟨if opensB s then s.g ++ [[x]] else s.g.set (s.g.length - 1) (s.g.getD (s.g.length - 1) [] ++ [x]), s.a, true⟩
def woL (x : Int) (l : List Int) : List Int := l.filter fun m => m != x
def dropG (g : List (List Int)) (x : Int) : List (List Int) := (g.map (woL x)).filter fun l => decide (0 < l.length)
def wtDrop (s : Wt) (x : Int) : Wt := ⟨dropG s.g x, s.a, s.n⟩
def wtAct (s : Wt) : Wt := ⟨s.g, if s.n && decide (s.a < 1000) then s.a + 1 else s.a, false⟩
def wtClose (s : Wt) : Wt := ⟨s.g, max s.a 2 - 1, s.n⟩
def lastG (g : List (List Int)) : List Int := g.getD (g.length - 1) []
def toldL (s : Wt) : List Int := if s.g.length = 0 then [] else (lastG s.g).reverse
/-- Few groups, of few. -/
def fewG (g : List (List Int)) (m : Nat) : Prop := g.length ≤ m ∧ ∀ l, l ∈ g → l.length ≤ m

theorem getD_mem {α : Type} {l : List α} {j : Nat} {d : α} (h : j < l.length) : l.getD j d ∈ l := by
  rw [List.getD_eq_getElem?_getD, List.getElem?_eq_getElem h]; exact List.getElem_mem h
theorem fewG.row {g : List (List Int)} {m j : Nat} (h : fewG g m) : (g.getD j []).length ≤ m := by
  by_cases hj : j < g.length
  · exact h.2 _ (getD_mem hj)
  · rw [List.getD_eq_getElem?_getD, List.getElem?_eq_none (by omega)]; simp
theorem fewG.mono {g : List (List Int)} {m m' : Nat} (h : fewG g m) (hm : m ≤ m') : fewG g m' := ⟨Nat.le_trans h.1 hm, fun l hl => Nat.le_trans (h.2 l hl) hm⟩
theorem woL_length (x : Int) (l : List Int) : (woL x l).length ≤ l.length := List.length_filter_le _ _
theorem mem_woL {x e : Int} {l : List Int} : e ∈ woL x l ↔ e ∈ l ∧ e ≠ x := by simp [woL]
theorem mem_dropG {x : Int} {g : List (List Int)} {l : List Int} : l ∈ dropG g x ↔ (∃ r, r ∈ g ∧ woL x r = l) ∧ 0 < l.length := by simp [dropG]
theorem dropG_few {g : List (List Int)} {m : Nat} {x : Int} (h : fewG g m) : fewG (dropG g x) m := by
  refine ⟨Nat.le_trans (Nat.le_trans (List.length_filter_le _ _) (by simp)) h.1, fun l hl => ?_⟩
  obtain ⟨⟨r, hr, rfl⟩, _⟩ := mem_dropG.mp hl
  exact Nat.le_trans (woL_length x r) (h.2 r hr)
theorem open_few {s : Wt} {m : Nat} {x : Int} (h : fewG s.g m) : fewG (wtOpen s x).g (m + 1) := by
  unfold wtOpen
  dsimp only
  split
  · refine ⟨by have := h.1; simp; omega, fun l hl => ?_⟩
    rcases List.mem_append.mp hl with hl | hl
    · have := h.2 l hl; omega
    · simp at hl; subst hl; simp
  · refine ⟨by have := h.1; simp; omega, fun l hl => ?_⟩
    rcases List.mem_or_eq_of_mem_set hl with hl | rfl
    · have := h.2 l hl; omega
    · have := h.row (j := s.g.length - 1); simp only [List.length_append, List.length_cons, List.length_nil]; omega
theorem open_len {s : Wt} {x : Int} : (wtOpen s x).g.length = if opensB s then s.g.length + 1 else s.g.length := by
  unfold wtOpen; dsimp only; split <;> simp
theorem open_last {s : Wt} {x : Int} : ∃ p, lastG (wtOpen s x).g = p ++ [x] ∧ 1 ≤ (wtOpen s x).g.length := by
  unfold wtOpen lastG
  dsimp only
  by_cases h : opensB s = true
  · rw [if_pos h]
    exact ⟨[], by simp, by simp⟩
  · rw [if_neg h]
    have h0 : s.g.length ≠ 0 := fun e => h (by simp [opensB, e])
    refine ⟨s.g.getD (s.g.length - 1) [], ?_, by rw [List.length_set]; omega⟩
    rw [List.length_set, List.getD_eq_getElem?_getD, List.getElem?_set, if_pos rfl, if_pos (by omega)]
    rfl
theorem open_told {s : Wt} {x : Int} : (toldL (wtOpen s x)).getD 0 0 = x ∧ 0 < (toldL (wtOpen s x)).length ∧ (toldL (wtOpen s x)).length = (lastG (wtOpen s x).g).length := by
  obtain ⟨p, hp, h1⟩ := open_last (s := s) (x := x)
  unfold toldL
  rw [if_neg (by omega), hp]
  simp
/-- The invariant of acts and opens. -/
structure ActInv (s : Wt) (i : Nat) (acts : Int) (opened : Bool) : Prop where
  nx : s.n = (opened || acts == 0)
  lo : 1 ≤ s.a
  hi : s.a ≤ acts + 1
  len : (s.g.length : Int) ≤ acts + 1
  few : fewG s.g i
  act0 : 0 ≤ acts
  act1 : acts ≤ i
theorem ActInv.new : ActInv wtNew 0 0 false := ⟨rfl, by decide, by decide, by decide, ⟨by decide, fun l h => by simp [wtNew] at h⟩, by decide, by decide⟩
theorem ActInv.act {s : Wt} {i : Nat} {acts : Int} {opened : Bool} (h : ActInv s i acts opened) : ActInv (wtAct s) (i + 1) (if opened || acts == 0 then acts + 1 else acts) false := by
  obtain ⟨h1, h2, h3, h4, h5, h6, h7⟩ := h
  have he : ∀ b : Bool, (opened || acts == 0) = b → s.n = b := fun b hb => by rw [h1, hb]
  cases hb : (opened || acts == 0)
  · have hn := he _ hb
    have h0 : acts ≠ 0 := fun e => by simp [e] at hb
    refine ⟨?_, ?_, ?_, ?_, (h5.mono (by omega)), ?_, ?_⟩
    · simp [wtAct]; omega
    · simp [wtAct, hn]; omega
    · simp [wtAct, hn]; omega
    · simp [wtAct]; omega
    · simp; omega
    · simp; omega
  · have hn := he _ hb
    refine ⟨?_, ?_, ?_, ?_, (h5.mono (by omega)), ?_, ?_⟩
    · simp [wtAct]; omega
    · simp only [wtAct, hn, Bool.true_and, decide_eq_true_eq]; split <;> omega
    · simp only [wtAct, hn, Bool.true_and, decide_eq_true_eq, if_true]; split <;> omega
    · simp only [wtAct, if_true]; omega
    · simp only [if_true]; omega
    · simp only [if_true]; omega
theorem ActInv.opn {s : Wt} {i : Nat} {acts : Int} {opened : Bool} (h : ActInv s i acts opened) (x : Int) : ActInv (wtOpen s x) (i + 1) acts true := by
  obtain ⟨h1, h2, h3, h4, h5, h6, h7⟩ := h
  refine ⟨rfl, h2, h3, ?_, open_few h5, h6, by omega⟩
  rw [open_len]
  split
  · rename_i e
    simp only [opensB, Bool.or_eq_true, decide_eq_true_eq] at e
    omega
  · omega
/-- The invariant of acts, opens and requests. -/
structure RoomInv (s : Wt) (i : Nat) : Prop where
  lo : 1 ≤ s.a
  hi : s.a ≤ i + 1
  few : fewG s.g i
theorem RoomInv.new : RoomInv wtNew 0 := ⟨by decide, by decide, ⟨by decide, fun l h => by simp [wtNew] at h⟩⟩
theorem RoomInv.act {s : Wt} {i : Nat} (h : RoomInv s i) : RoomInv (wtAct s) (i + 1) ∧ s.a ≤ (wtAct s).a ∧ (wtAct s).a ≤ s.a + 1 ∧ (wtAct s).n = false ∧ (wtAct (wtAct s)).a = (wtAct s).a := by
  obtain ⟨h1, h2, h3⟩ := h
  refine ⟨⟨?_, ?_, h3.mono (by omega)⟩, ?_, ?_, rfl, rfl⟩
  all_goals (simp only [wtAct]; split <;> omega)
theorem RoomInv.close {s : Wt} {i : Nat} (h : RoomInv s i) : RoomInv (wtClose s) (i + 1) ∧ (wtClose s).a = max (s.a - 1) 1 ∧ (wtClose s).g = s.g := by
  obtain ⟨h1, h2, h3⟩ := h
  refine ⟨⟨?_, ?_, h3.mono (by omega)⟩, ?_, rfl⟩
  all_goals (simp only [wtClose]; omega)
theorem RoomInv.opn {s : Wt} {i : Nat} (h : RoomInv s i) (x : Int) : RoomInv (wtOpen s x) (i + 1) ∧ s.g.length ≤ (wtOpen s x).g.length ∧ (wtOpen s x).g.length ≤ s.g.length + 1 ∧ (s.g.length < (wtOpen s x).g.length → (s.g.length : Int) < max s.a 1) ∧ (wtOpen s x).n = true := by
  obtain ⟨h1, h2, h3⟩ := h
  refine ⟨⟨h1, by show s.a ≤ _; omega, open_few h3⟩, ?_, ?_, ?_, rfl⟩
  · rw [open_len]; split <;> omega
  · rw [open_len]; split <;> omega
  · rw [open_len]
    split
    · rename_i e
      simp only [opensB, Bool.or_eq_true, decide_eq_true_eq] at e
      omega
    · omega
/-- Dropped twice is dropped once. -/
theorem woL_woL (x : Int) (l : List Int) : woL x (woL x l) = woL x l := by simp [woL, List.filter_filter]
theorem woL_none {x : Int} {l : List Int} (h : x ∉ l) : woL x l = l := by
  unfold woL
  rw [List.filter_eq_self]
  intro e he
  simp only [bne_iff_ne, ne_eq]
  rintro rfl
  exact h he
theorem dropG_none {x : Int} {g : List (List Int)} (h : ∀ r, r ∈ g → 0 < r.length ∧ x ∉ r) : dropG g x = g := by
  unfold dropG
  have h1 : g.map (woL x) = g := by
    conv => rhs; rw [← List.map_id g]
    exact List.map_congr_left fun r hr => woL_none (h r hr).2
  rw [h1, List.filter_eq_self]
  intro r hr
  simpa using (h r hr).1
theorem dropG_free {x : Int} {g : List (List Int)} : ∀ r, r ∈ dropG g x → 0 < r.length ∧ x ∉ r := by
  intro r hr
  obtain ⟨⟨r', _, rfl⟩, h⟩ := mem_dropG.mp hr
  exact ⟨h, fun e => (mem_woL.mp e).2 rfl⟩
theorem dropG_twice (x : Int) (g : List (List Int)) : dropG (dropG g x) x = dropG g x := dropG_none dropG_free
theorem dropG_ne {x : Int} {g : List (List Int)} {r : List Int} (hr : r ∈ g) (hx : x ∈ r) : dropG g x ≠ g := fun e => by
  rw [← e] at hr
  exact (dropG_free r hr).2 hx
theorem dropG_open {s : Wt} {x : Int} (h : ∀ r, r ∈ s.g → 0 < r.length ∧ x ∉ r) : dropG (wtOpen s x).g x = s.g := by
  unfold wtOpen
  dsimp only
  split
  · have h1 := dropG_none h
    unfold dropG at h1 ⊢
    rw [List.map_append, List.filter_append, h1]
    simp [woL]
  · rename_i h0
    have hl : s.g.length - 1 < s.g.length := by
      have : s.g.length ≠ 0 := fun e => h0 (by simp [opensB, e])
      omega
    have hw : woL x (s.g.getD (s.g.length - 1) [] ++ [x]) = s.g.getD (s.g.length - 1) [] := by
      have := woL_none (h _ (getD_mem (d := []) hl)).2
      unfold woL at this ⊢
      rw [List.filter_append, this]
      simp
    have hm : (s.g.set (s.g.length - 1) (s.g.getD (s.g.length - 1) [] ++ [x])).map (woL x) = s.g := by
      rw [List.map_set, hw]
      apply List.ext_getElem?
      intro j
      rw [List.getElem?_set]
      by_cases e : s.g.length - 1 = j
      · subst e
        rw [if_pos rfl, List.length_map, if_pos hl, List.getD_eq_getElem?_getD, List.getElem?_eq_getElem hl]
        rfl
      · rw [if_neg e, List.getElem?_map]
        by_cases hj : j < s.g.length
        · rw [List.getElem?_eq_getElem hj]
          exact congrArg some (woL_none (h _ (List.getElem_mem hj)).2)
        · rw [List.getElem?_eq_none (by omega)]; rfl
    unfold dropG
    rw [hm, List.filter_eq_self]
    intro r hr
    simpa using (h r hr).1
/-- The invariant of dropping one by one. -/
structure Dropped (g0 g : List (List Int)) (i k : Nat) : Prop where
  ne : ∀ r, r ∈ g → 0 < r.length
  mem : ∀ r e, r ∈ g → e ∈ r → ∃ r0, r0 ∈ g0 ∧ e ∈ r0
  rows : ∀ i' r, i' < i → r ∈ g → ∀ e, e ∈ g0.getD i' [] → e ∉ r
  row : ∀ k' r, k' < k → r ∈ g → (g0.getD i []).getD k' 0 ∉ r
theorem Dropped.start {g0 : List (List Int)} (h : ∀ r, r ∈ g0 → 0 < r.length) : Dropped g0 g0 0 0 :=
  ⟨h, fun r e hr he => ⟨r, hr, he⟩, fun i' r h => by omega, fun k' r h => by omega⟩
theorem Dropped.step {g0 g : List (List Int)} {i k : Nat} (h : Dropped g0 g i k) : Dropped g0 (dropG g ((g0.getD i []).getD k 0)) i (k + 1) := by
  have sub : ∀ r, r ∈ dropG g ((g0.getD i []).getD k 0) → ∃ r', r' ∈ g ∧ (∀ e, e ∈ r → e ∈ r') := fun r hr => by
    obtain ⟨⟨r', hr', rfl⟩, _⟩ := mem_dropG.mp hr
    exact ⟨r', hr', fun e he => (mem_woL.mp he).1⟩
  refine ⟨fun r hr => (dropG_free r hr).1, fun r e hr he => ?_, fun i' r hi hr e he hm => ?_, fun k' r hk hr hm => ?_⟩
  · obtain ⟨r', hr', hs⟩ := sub r hr
    exact h.mem r' e hr' (hs e he)
  · obtain ⟨r', hr', hs⟩ := sub r hr
    exact h.rows i' r' hi hr' e he (hs e hm)
  · by_cases hk' : k' = k
    · subst hk'; exact (dropG_free r hr).2 hm
    · obtain ⟨r', hr', hs⟩ := sub r hr
      exact h.row k' r' (by omega) hr' (hs _ hm)
theorem mem_getD {α : Type} {l : List α} {e d : α} (h : e ∈ l) : ∃ j, j < l.length ∧ l.getD j d = e := by
  obtain ⟨j, hj, rfl⟩ := List.getElem_of_mem h
  exact ⟨j, hj, by rw [List.getD_eq_getElem?_getD, List.getElem?_eq_getElem hj]; rfl⟩
theorem Dropped.next {g0 g : List (List Int)} {i : Nat} (h : Dropped g0 g i (g0.getD i []).length) : Dropped g0 g (i + 1) 0 := by
  refine ⟨h.ne, h.mem, fun i' r hi hr e he => ?_, fun k' r hk => by omega⟩
  by_cases hi' : i' = i
  · subst hi'
    obtain ⟨j, hj, rfl⟩ := mem_getD (d := 0) he
    exact h.row j r hj hr
  · exact h.rows i' r (by omega) hr e he
theorem Dropped.done {g0 g : List (List Int)} (h : Dropped g0 g g0.length 0) : g = [] := by
  cases g with
  | nil => rfl
  | cons r g =>
    exfalso
    have h1 := h.ne r (by simp)
    have he : r.getD 0 0 ∈ r := getD_mem h1
    obtain ⟨r0, hr0, hm⟩ := h.mem r _ (by simp) he
    obtain ⟨j, hj, rfl⟩ := mem_getD (d := []) hr0
    exact h.rows j r hj (by simp) _ hm he
end Go.Proofs.Ytlgbiecgbdbefab
