/- tree.Make: a node more, that has nobody. -/
import Derived.OwnWalk
import Derived.Test.YtoolkpjbbngdpaaLone
namespace Go.Proofs.Ytoolkpjbbngdpaa
open Go.RowKit

def makeE (T : List Nd) (k t : Int) : Int :=
  if mayB T then (if (k != 1 && k != 2) || !tagFitsB k t then 3 else if T.length == 64 then 4 else 0) else 1
def makeR (T : List Nd) (k t : Int) : List Nd :=
  if makeE T k t == 1 then [] else if makeE T k t == 0 then T ++ [lonex k t] else T
def makeN (T : List Nd) (k t : Int) : Int := if makeE T k t == 0 then T.length else 0

theorem makeR_one {T : List Nd} {k t : Int} (h : makeE T k t = 1) : makeR T k t = [] ∧ makeN T k t = 0 := by simp [makeR, makeN, h]
theorem makeR_zero {T : List Nd} {k t : Int} (h : makeE T k t = 0) : makeR T k t = T ++ [lonex k t] ∧ makeN T k t = T.length := by simp [makeR, makeN, h]
theorem makeR_else {T : List Nd} {k t : Int} (h1 : makeE T k t ≠ 1) (h0 : makeE T k t ≠ 0) : makeR T k t = T ∧ makeN T k t = 0 := by simp [makeR, makeN, h1, h0]

/-- A node that has nobody, behind a tree of the call's own. -/
theorem OwnTree.pushLone {w w' w4 : World} {base : Nat} {v v' : Value} {T : List Nd} {kv av : Nat → Value} {k t : Int} (h : OwnTree w base v T kv av) (hb : Below w.heap.size w w')
    (hg : w'.grownBy w4 v.ownBlock) (ho : w4.ownsRow base 49 7 v' (T.length + 1) (rowL T kv av ++ ndCells (lonex k t) (.slice none 0 0) (.slice none 0 0))) (hf : ∀ k, v'.ownBlock = some k → v.ownBlock = some k ∨ w'.heap.size ≤ k) :
    OwnTree w4 base v' (T ++ [lonex k t]) (upd kv T.length (.slice none 0 0)) (upd av T.length (.slice none 0 0)) := by
  have h' := h.below hb
  exact h'.push (N := w.heap.size) (M := w.heap.size) (fun j e => (h.row.lt j e).2) (fun n j hn e => ((h.kids n hn).lt j e).2) (fun n j hn e => ((h.attrs n hn).lt j e).2)
    (World.ownsRow_nil _ _ _ _) (fun j e => by cases e) (World.ownsRow_nil _ _ _ _) (fun j e => by cases e) hg ho hf

set_option maxRecDepth 100000 in
set_option maxHeartbeats 2000000 in
theorem make_ok (T : List Nd) (hS : Sane T) (v : Value) (k t : Int) (w : World) (hT : TreeAt w v T) (hm : mayB T = true) (hk : ((k != 1 && k != 2) || !tagFitsB k t) = false) (h64 : ((T.length : Int) == 64) = false) :
    Calls Try.prog 21 #[v, .int .i64 k, .int .i64 t] w fun e w' => ∃ v' kv av, e = .returned (.tuple #[v', .int .i64 T.length, .int .i64 0]) ∧ Below w.heap.size w w' ∧ OwnTree w' w.heap.size v' (T ++ [lonex k t]) kv av := by
  obtain ⟨a, cap, rfl⟩ := hT.shape
  have hpos := mayB_pos hm
  have h1000 : T.length ≤ 1000 := by omega
  have HT := hideG hT
  have HS := hideG hS
  obtain ⟨i49, hi49, hz490, hz491, hz492⟩ := info_parts infoT49
  clear hT hS
  rw [Bool.or_eq_false_iff] at hk
  obtain ⟨hk1, hk2⟩ := hk
  rw [Bool.not_eq_false'] at hk2
  have hor : (k != 1) = false ∨ ((k != 1) = true ∧ (k != 2) = false) := by
    cases e : (k != 1)
    · exact .inl rfl
    · rw [e, Bool.true_and] at hk1; exact .inr ⟨rfl, hk1⟩
  clear hk1
  rcases hor with e1 | ⟨e1, e2⟩
  all_goals
    go_enter Try.func21, Try.ntmps21
    go_wp2_with (first | (go_at_call 67; refine (mayBe_any T HS.out _ _ HT.out).mono ?_; rintro e w1 ⟨rfl, hb1⟩) | (go_at_call 68; refine (tagFits_any _ _ _).mono ?_; rintro e w1' ⟨rfl, rfl⟩) | (go_at_call 69; refine (copy_any T HS.out _ _ (HT.out.below hb1) hpos.1 h1000).mono ?_; rintro e w2 ⟨v', kv, av, rfl, ho, hb2⟩; obtain ⟨g, cap', rfl⟩ := ownsRow_some ho.row hpos.1) | (go_at_call 70; refine (lone_any _ _ _).mono ?_; rintro e w3 ⟨rfl, hb3⟩; have hs1 := hb1.size; have hs2 := hb2.size; have hs3 := hb3.size; have HO := hideG (ho.weaken hs1); have HB := hideG (hb3.alloc hs3 (.cells #[.int .i64 k, .int .i64 t, .int .i64 (-1), .slice none 0 0, .int .i64 (-1), .int .i64 (-1), .slice none 0 0] 49)); have HO2 := hideG (HO.out.below HB.out); have HB1 := hideG hb1; have HB2 := hideG hb2; clear ho hb1 hb2 hb3) | (at_builtin; refine wpList_append_any rfl (.tmp 30) (.tmp 34) 23 rfl w.heap.size 49 i49 _ 7 88 Try.underlying23 hi49 hz490 hz491 hz492 rfl (by decide) _ T.length (rowL T kv av) rfl ?h0 _ 1 (ndCells (lonex k t) (.slice none 0 0) (.slice none 0 0)) rfl ?h1 rfl ?h2 ?h3 ?h4 ?h5 ?_))
    case h0 => exact HO2.out.row
    case h1 =>
      refine .inl ⟨⟨w3.heap.size, 0, none⟩, 1, rfl, fun j u hj => ?_⟩
      rw [addr_add, Nat.zero_add, World.cell?_alloc_at _ _ _ _ (by simp)]
      simpa [ndCells, lonex] using hj
    case h2 =>
      intro x hx
      simp only [ndCells, List.mem_cons, List.not_mem_nil, or_false] at hx
      rcases hx with rfl | rfl | rfl | rfl | rfl | rfl | rfl <;> rfl
    case h3 => simp only [maxLen]; omega
    case h4 => omega
    case h5 => simp; omega
    intro v4 w4 ho4 hg4 hf4
    obtain ⟨a4, c4, rfl⟩ := ownsRow_shape ho4
    have hN := hideG (HO.out.pushLone HB.out hg4 ho4 (fun j e => by have := hf4 j e; simpa using this))
    have hW := hideG (((HB1.out.trans (HB2.out.mono hs1)).trans (HB.out.mono (by omega))).grown hg4 (by simp; omega) (fun j e => (HO.out.row.lt j e).1))
    clear ho4 hg4 hf4
    go_wp2_with fail
    go_ret3
    exact ⟨_, _, _, rfl, hW.out, hN.out⟩

set_option maxRecDepth 100000 in
set_option maxHeartbeats 2000000 in
theorem make_any (T : List Nd) (hS : Sane T) (v : Value) (k t : Int) (w : World) (hT : TreeAt w v T) :
    Calls Try.prog 21 #[v, .int .i64 k, .int .i64 t] w fun e w' => ∃ v', e = .returned (.tuple #[v', .int .i64 (makeN T k t), .int .i64 (makeE T k t)]) ∧ Below w.heap.size w w' ∧ TreeAt w' v' (makeR T k t) := by
  cases hm : mayB T
  · have hE : makeE T k t = 1 := by simp only [makeE, hm, Bool.false_eq_true, if_false]
    obtain ⟨hR, hN⟩ := makeR_one hE
    rw [hE, hR, hN]
    obtain ⟨a, cap, rfl⟩ := hT.shape
    have HT := hideG hT
    have HS := hideG hS
    clear hT hS hE hR hN
    go_enter Try.func21, Try.ntmps21
    go_wp2_with (go_at_call 67; refine (mayBe_any T HS.out _ _ HT.out).mono ?_; rintro e w1 ⟨rfl, hb1⟩)
    go_ret3
    exact ⟨_, rfl, hb1, treeAt_nil _⟩
  · cases hk : ((k != 1 && k != 2) || !tagFitsB k t)
    · cases h64 : ((T.length : Int) == 64)
      · have hl : (T.length == 64) = false := by simp at h64 ⊢; omega
        have hE : makeE T k t = 0 := by simp only [makeE, hm, hk, hl, Bool.false_eq_true, if_false, if_true]
        obtain ⟨hR, hN⟩ := makeR_zero hE
        rw [hE, hR, hN]
        refine (make_ok T hS v k t w hT hm hk h64).mono ?_
        rintro e w' ⟨v', kv, av, rfl, hb, ho⟩
        exact ⟨v', rfl, hb, ho.treeAt⟩
      · have hl : (T.length == 64) = true := by simp at h64 ⊢; omega
        have hE : makeE T k t = 4 := by simp only [makeE, hm, hk, hl, Bool.false_eq_true, if_false, if_true]
        obtain ⟨hR, hN⟩ := makeR_else (T := T) (k := k) (t := t) (by rw [hE]; decide) (by rw [hE]; decide)
        rw [hE, hR, hN]
        obtain ⟨a, cap, rfl⟩ := hT.shape
        have HT := hideG hT
        have HS := hideG hS
        clear hT hS hE hR hN
        rw [Bool.or_eq_false_iff] at hk
        obtain ⟨hk1, hk2⟩ := hk
        rw [Bool.not_eq_false'] at hk2
        have hor : (k != 1) = false ∨ ((k != 1) = true ∧ (k != 2) = false) := by
          cases e : (k != 1)
          · exact .inl rfl
          · rw [e, Bool.true_and] at hk1; exact .inr ⟨rfl, hk1⟩
        clear hk1
        rcases hor with e1 | ⟨e1, e2⟩
        all_goals
          go_enter Try.func21, Try.ntmps21
          go_wp2_with (first | (go_at_call 67; refine (mayBe_any T HS.out _ _ HT.out).mono ?_; rintro e w1 ⟨rfl, hb1⟩) | (go_at_call 68; refine (tagFits_any _ _ _).mono ?_; rintro e w1' ⟨rfl, rfl⟩))
          go_ret3
          exact ⟨_, rfl, hb1, HT.out.below hb1⟩
    · have hE : makeE T k t = 3 := by simp only [makeE, hm, hk, if_true]
      obtain ⟨hR, hN⟩ := makeR_else (T := T) (k := k) (t := t) (by rw [hE]; decide) (by rw [hE]; decide)
      rw [hE, hR, hN]
      obtain ⟨a, cap, rfl⟩ := hT.shape
      have HT := hideG hT
      have HS := hideG hS
      clear hT hS hE hR hN
      have hor : ((k != 1) = true ∧ (k != 2) = true) ∨ ((k != 1) = false ∧ tagFitsB k t = false) ∨ ((k != 1) = true ∧ (k != 2) = false ∧ tagFitsB k t = false) := by
        cases e1 : (k != 1) <;> cases e2 : (k != 2) <;> cases e3 : tagFitsB k t <;> rw [e1, e2, e3] at hk <;> simp_all
      clear hk
      rcases hor with ⟨e1, e2⟩ | ⟨e1, e3⟩ | ⟨e1, e2, e3⟩
      all_goals
        go_enter Try.func21, Try.ntmps21
        go_wp2_with (first | (go_at_call 67; refine (mayBe_any T HS.out _ _ HT.out).mono ?_; rintro e w1 ⟨rfl, hb1⟩) | (go_at_call 68; refine (tagFits_any _ _ _).mono ?_; rintro e w1' ⟨rfl, rfl⟩))
        go_ret3
        exact ⟨_, rfl, hb1, HT.out.below hb1⟩
end Go.Proofs.Ytoolkpjbbngdpaa
