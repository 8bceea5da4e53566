/- A tree as it lies in memory, and the small functions of package tree that look at one node: each returns what its Lean twin says. -/
import Derived.Test.YtnbnijhdmnoelaaLeaf
namespace Go.Proofs.Ytnbnijhdmnoelaa
open Go.RowKit

structure Nd where
  kind : Int
  tag : Int
  parent : Int
  kids : List Int
  host : Int
  root : Int
  attrs : List (Int × Int)
  deriving Inhabited, DecidableEq

/-- A node of a list of nodes. -/
def nd (T : List Nd) (n : Nat) : Nd := T.getD n default

theorem ret_bool {a b : Bool} (h : a = b) : Ending.returned (.bool a) = .returned (.bool b) := by rw [h]
theorem ret_int {k : IntKind} {a b : Int} (h : a = b) : Ending.returned (.int k a) = .returned (.int k b) := by rw [h]

def tagFitsB (k t : Int) : Bool := if k == 1 then decide (0 ≤ t) && decide (t ≤ 4) else t == 0
def canBeKidB (k : Int) : Bool := k == 1 || k == 2
def isNodeB (len : Nat) (n : Int) : Bool := decide (0 ≤ n) && decide (n < len)

set_option maxHeartbeats 400000 in
theorem tagFits_any (k t : Int) (w : World) :
    Calls Try.prog 134 #[.int .i64 k, .int .i64 t] w fun e w' => e = .returned (.bool (tagFitsB k t)) ∧ w' = w := by
  cases h : (k == 1)
  · go_enter Try.func134, Try.ntmps134
    go_wp2
    go_ret
    exact ⟨ret_bool (by simp only [tagFitsB, h, Bool.false_eq_true, if_false]), rfl⟩
  · cases ht : decide (0 ≤ t)
    all_goals
      go_enter Try.func134, Try.ntmps134
      go_wp2
      go_ret
      exact ⟨ret_bool (by simp only [tagFitsB, h, ht, if_true, Bool.false_and, Bool.true_and]), rfl⟩

set_option maxHeartbeats 400000 in
theorem canBeKid_any (k : Int) (w : World) :
    Calls Try.prog 135 #[.int .i64 k] w fun e w' => e = .returned (.bool (canBeKidB k)) ∧ w' = w := by
  cases h : (k == 1)
  all_goals
    go_enter Try.func135, Try.ntmps135
    go_wp2
    go_ret
    exact ⟨ret_bool (by simp only [canBeKidB, h, Bool.false_or, Bool.true_or]), rfl⟩

set_option maxHeartbeats 400000 in
theorem isNode_any (a : Option Addr) (len cap : Nat) (n : Int) (w : World) :
    Calls Try.prog 136 #[.slice a len cap, .int .i64 n] w fun e w' => e = .returned (.bool (isNodeB len n)) ∧ w' = w := by
  cases h : decide (0 ≤ n)
  all_goals
    go_enter Try.func136, Try.ntmps136
    go_wp2
    go_ret
    exact ⟨ret_bool (by simp only [isNodeB, h, Bool.false_and, Bool.true_and]), rfl⟩

/-- A list of numbers, as it lies in memory behind a slice. -/
def IntsAt (w : World) (v : Value) (l : List Int) : Prop :=
  ∃ a cap, v = .slice a l.length cap ∧ (0 < l.length → ∃ b off, a = some ⟨b, off, none⟩ ∧ ∀ j, j < l.length → w.cell? ⟨b, off + j, none⟩ = some (.int .i64 (l.getD j 0)))

/-- A list of attributes: two cells each. -/
def AttrsAt (w : World) (v : Value) (l : List (Int × Int)) : Prop :=
  ∃ a cap, v = .slice a l.length cap ∧ (0 < l.length → ∃ b off, a = some ⟨b, off, none⟩ ∧ ∀ j, j < l.length → w.cell? ⟨b, off + j * 2, none⟩ = some (.int .i64 (l.getD j (0, 0)).1) ∧ w.cell? ⟨b, off + j * 2 + 1, none⟩ = some (.int .i64 (l.getD j (0, 0)).2))

/-- The seven cells of a node. -/
structure NodeAt (w : World) (b o : Nat) (x : Nd) (kv av : Value) : Prop where
  kind : w.cell? ⟨b, o, none⟩ = some (.int .i64 x.kind)
  tag : w.cell? ⟨b, o + 1, none⟩ = some (.int .i64 x.tag)
  parent : w.cell? ⟨b, o + 2, none⟩ = some (.int .i64 x.parent)
  kidsc : w.cell? ⟨b, o + 3, none⟩ = some kv
  host : w.cell? ⟨b, o + 4, none⟩ = some (.int .i64 x.host)
  root : w.cell? ⟨b, o + 5, none⟩ = some (.int .i64 x.root)
  attrsc : w.cell? ⟨b, o + 6, none⟩ = some av
  kids : IntsAt w kv x.kids
  attrs : AttrsAt w av x.attrs

/-- A tree behind a slice. -/
def TreeAt (w : World) (v : Value) (T : List Nd) : Prop :=
  ∃ a cap, v = .slice a T.length cap ∧ (0 < T.length → ∃ b off, a = some ⟨b, off, none⟩ ∧ ∀ n, n < T.length → ∃ kv av, NodeAt w b (off + n * 7) (nd T n) kv av)

theorem below_of_cell {w : World} {a : Addr} {v : Value} (h : w.cell? a = some v) : a.block < w.heap.size := World.block_lt_of_cell? w a h

theorem cell_below {w w' : World} (hb : Below w.heap.size w w') {a : Addr} {v : Value} (h : w.cell? a = some v) : w'.cell? a = some v :=
  (hb.cell (below_of_cell h)).trans h

theorem IntsAt.below {w w' : World} {v : Value} {l : List Int} (h : IntsAt w v l) (hb : Below w.heap.size w w') : IntsAt w' v l := by
  obtain ⟨a, cap, rfl, hc⟩ := h
  refine ⟨a, cap, rfl, fun h0 => ?_⟩
  obtain ⟨b, off, rfl, hd⟩ := hc h0
  exact ⟨b, off, rfl, fun j hj => cell_below hb (hd j hj)⟩
theorem AttrsAt.below {w w' : World} {v : Value} {l : List (Int × Int)} (h : AttrsAt w v l) (hb : Below w.heap.size w w') : AttrsAt w' v l := by
  obtain ⟨a, cap, rfl, hc⟩ := h
  refine ⟨a, cap, rfl, fun h0 => ?_⟩
  obtain ⟨b, off, rfl, hd⟩ := hc h0
  exact ⟨b, off, rfl, fun j hj => ⟨cell_below hb (hd j hj).1, cell_below hb (hd j hj).2⟩⟩
theorem NodeAt.below {w w' : World} {b o : Nat} {x : Nd} {kv av : Value} (h : NodeAt w b o x kv av) (hb : Below w.heap.size w w') : NodeAt w' b o x kv av :=
  ⟨cell_below hb h.kind, cell_below hb h.tag, cell_below hb h.parent, cell_below hb h.kidsc, cell_below hb h.host, cell_below hb h.root, cell_below hb h.attrsc, h.kids.below hb, h.attrs.below hb⟩
theorem TreeAt.below {w w' : World} {v : Value} {T : List Nd} (h : TreeAt w v T) (hb : Below w.heap.size w w') : TreeAt w' v T := by
  obtain ⟨a, cap, rfl, hc⟩ := h
  refine ⟨a, cap, rfl, fun h0 => ?_⟩
  obtain ⟨b, off, rfl, hd⟩ := hc h0
  exact ⟨b, off, rfl, fun n hn => let ⟨kv, av, h⟩ := hd n hn; ⟨kv, av, h.below hb⟩⟩

theorem TreeAt.at {w : World} {v : Value} {T : List Nd} (h : TreeAt w v T) (h0 : 0 < T.length) :
    ∃ b off cap, v = .slice (some ⟨b, off, none⟩) T.length cap ∧ ∀ n, n < T.length → ∃ kv av, NodeAt w b (off + n * 7) (nd T n) kv av := by
  obtain ⟨a, cap, rfl, hc⟩ := h
  obtain ⟨b, off, rfl, hd⟩ := hc h0
  exact ⟨b, off, cap, rfl, hd⟩

def kindFitsB (x : Nd) (n : Nat) : Bool :=
  if (n : Int) == 0 then x.kind == 0 && tagFitsB x.kind x.tag else (canBeKidB x.kind || x.kind == 3) && tagFitsB x.kind x.tag

set_option maxHeartbeats 800000 in
theorem kindFits_any (T : List Nd) (v : Value) (n : Nat) (w : World) (hT : TreeAt w v T) (hn : n < T.length) :
    Calls Try.prog 126 #[v, .int .i64 n] w fun e w' => e = .returned (.bool (kindFitsB (nd T n) n)) ∧ w' = w := by
  obtain ⟨b, off, cap, rfl, hc⟩ := hT.at (by omega)
  obtain ⟨kv, av, hN⟩ := hc n hn
  have h0 := hN.kind
  have h1 := hN.tag
  clear hN hc hT
  cases hz : ((n : Int) == 0)
  · cases h2 : canBeKidB (nd T n).kind
    · cases h3 : ((nd T n).kind == 3)
      all_goals
        go_enter Try.func126, Try.ntmps126
        go_wp2_with (first | (go_at_call 134; refine (tagFits_any _ _ _).mono ?_; rintro e w1 ⟨rfl, rfl⟩) | (go_at_call 135; refine (canBeKid_any _ _).mono ?_; rintro e w1 ⟨rfl, rfl⟩))
        go_ret
        exact ⟨ret_bool (by simp only [kindFitsB, hz, h2, h3, Bool.false_eq_true, if_false, Bool.false_or, Bool.false_and, Bool.true_and]), rfl⟩
    · go_enter Try.func126, Try.ntmps126
      go_wp2_with (first | (go_at_call 134; refine (tagFits_any _ _ _).mono ?_; rintro e w1 ⟨rfl, rfl⟩) | (go_at_call 135; refine (canBeKid_any _ _).mono ?_; rintro e w1 ⟨rfl, rfl⟩))
      go_ret
      exact ⟨ret_bool (by simp only [kindFitsB, hz, h2, Bool.false_eq_true, if_false, Bool.true_or, Bool.true_and]), rfl⟩
  · cases h2 : ((nd T n).kind == 0)
    all_goals
      go_enter Try.func126, Try.ntmps126
      go_wp2_with (go_at_call 134; refine (tagFits_any _ _ _).mono ?_; rintro e w1 ⟨rfl, rfl⟩)
      go_ret
      exact ⟨ret_bool (by simp only [kindFitsB, hz, h2, if_true, Bool.false_and, Bool.true_and]), rfl⟩
end Go.Proofs.Ytnbnijhdmnoelaa
