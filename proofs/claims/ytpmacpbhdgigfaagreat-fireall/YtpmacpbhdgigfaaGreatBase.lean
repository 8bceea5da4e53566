/- What all texts of this seat begin with. A tree as it lies in memory, and the small functions of package tree that look at one node: each returns what its Lean twin says. hostFits and rootFits of package tree: each returns what its Lean twin says of a tree in memory. attrKind, attrValues, attrFits and attrsFit of package tree: each returns what its Lean twin says. attrsFit of package tree: it returns whether a node's attributes may be. A region that draws its order, whose operations only read what is old, and whose callees leave all that is old: one walk, in the text's order. -/
import Derived.Test.YtpmacpbhdgigfaaGreatRows
import Derived.WalkKit
import Derived.WalkSpells
import Derived.WalkLawsBesides
import Derived.BigQuiet
namespace Go.Proofs.YtpmacpbhdgigfaaGreat
open Go.RowKit
theorem hideG {p : Prop} (h : p) : Hid p := h
end Go.Proofs.YtpmacpbhdgigfaaGreat
namespace Go.Proofs.YtpmacpbhdgigfaaGreat
open Go.RowKit

structure Nd where
  kind : Int
  tag : Int
  parent : Int
  kids : List Int
  host : Int
  root : Int
  attrs : List (Int × Int)
  deriving Inhabited, DecidableEq

/-- A node of a list of nodes. -/
def nd (T : List Nd) (n : Nat) : Nd := T.getD n default

theorem ret_bool {a b : Bool} (h : a = b) : Ending.returned (.bool a) = .returned (.bool b) := by rw [h]
theorem ret_int {k : IntKind} {a b : Int} (h : a = b) : Ending.returned (.int k a) = .returned (.int k b) := by rw [h]

def tagFitsB (k t : Int) : Bool := if k == 1 then decide (0 ≤ t) && decide (t ≤ 4) else t == 0
def canBeKidB (k : Int) : Bool := k == 1 || k == 2
def isNodeB (len : Nat) (n : Int) : Bool := decide (0 ≤ n) && decide (n < len)

set_option maxHeartbeats 400000 in
theorem tagFits_any (k t : Int) (w : World) :
    Calls Tryz.prog 203 #[.int .i64 k, .int .i64 t] w fun e w' => e = .returned (.bool (tagFitsB k t)) ∧ w' = w := by
  cases h : (k == 1)
  · go_enter Tryz.func203, Tryz.ntmps203
    go_wp2
    go_ret
    exact ⟨ret_bool (by simp only [tagFitsB, h, Bool.false_eq_true, if_false]), rfl⟩
  · cases ht : decide (0 ≤ t)
    all_goals
      go_enter Tryz.func203, Tryz.ntmps203
      go_wp2
      go_ret
      exact ⟨ret_bool (by simp only [tagFitsB, h, ht, if_true, Bool.false_and, Bool.true_and]), rfl⟩

set_option maxHeartbeats 400000 in
theorem canBeKid_any (k : Int) (w : World) :
    Calls Tryz.prog 204 #[.int .i64 k] w fun e w' => e = .returned (.bool (canBeKidB k)) ∧ w' = w := by
  cases h : (k == 1)
  all_goals
    go_enter Tryz.func204, Tryz.ntmps204
    go_wp2
    go_ret
    exact ⟨ret_bool (by simp only [canBeKidB, h, Bool.false_or, Bool.true_or]), rfl⟩

set_option maxHeartbeats 400000 in
theorem isNode_any (a : Option Addr) (len cap : Nat) (n : Int) (w : World) :
    Calls Tryz.prog 205 #[.slice a len cap, .int .i64 n] w fun e w' => e = .returned (.bool (isNodeB len n)) ∧ w' = w := by
  cases h : decide (0 ≤ n)
  all_goals
    go_enter Tryz.func205, Tryz.ntmps205
    go_wp2
    go_ret
    exact ⟨ret_bool (by simp only [isNodeB, h, Bool.false_and, Bool.true_and]), rfl⟩

/-- A list of numbers, as it lies in memory behind a slice. -/
def IntsAt (w : World) (v : Value) (l : List Int) : Prop :=
  ∃ a cap, v = .slice a l.length cap ∧ (0 < l.length → ∃ b off, a = some ⟨b, off, none⟩ ∧ ∀ j, j < l.length → w.cell? ⟨b, off + j, none⟩ = some (.int .i64 (l.getD j 0)))

/-- A list of attributes: two cells each. -/
def AttrsAt (w : World) (v : Value) (l : List (Int × Int)) : Prop :=
  ∃ a cap, v = .slice a l.length cap ∧ (0 < l.length → ∃ b off, a = some ⟨b, off, none⟩ ∧ ∀ j, j < l.length → w.cell? ⟨b, off + j * 2, none⟩ = some (.int .i64 (l.getD j (0, 0)).1) ∧ w.cell? ⟨b, off + j * 2 + 1, none⟩ = some (.int .i64 (l.getD j (0, 0)).2))

/-- The seven cells of a node. -/
structure NodeAt (w : World) (b o : Nat) (x : Nd) (kv av : Value) : Prop where
  kind : w.cell? ⟨b, o, none⟩ = some (.int .i64 x.kind)
  tag : w.cell? ⟨b, o + 1, none⟩ = some (.int .i64 x.tag)
  parent : w.cell? ⟨b, o + 2, none⟩ = some (.int .i64 x.parent)
  kidsc : w.cell? ⟨b, o + 3, none⟩ = some kv
  host : w.cell? ⟨b, o + 4, none⟩ = some (.int .i64 x.host)
  root : w.cell? ⟨b, o + 5, none⟩ = some (.int .i64 x.root)
  attrsc : w.cell? ⟨b, o + 6, none⟩ = some av
  kids : IntsAt w kv x.kids
  attrs : AttrsAt w av x.attrs

/-- A tree behind a slice. -/
def TreeAt (w : World) (v : Value) (T : List Nd) : Prop :=
  ∃ a cap, v = .slice a T.length cap ∧ (0 < T.length → ∃ b off, a = some ⟨b, off, none⟩ ∧ ∀ n, n < T.length → ∃ kv av, NodeAt w b (off + n * 7) (nd T n) kv av)

theorem below_of_cell {w : World} {a : Addr} {v : Value} (h : w.cell? a = some v) : a.block < w.heap.size := World.block_lt_of_cell? w a h

theorem cell_below {w w' : World} (hb : Below w.heap.size w w') {a : Addr} {v : Value} (h : w.cell? a = some v) : w'.cell? a = some v :=
  (hb.cell (below_of_cell h)).trans h

theorem IntsAt.below {w w' : World} {v : Value} {l : List Int} (h : IntsAt w v l) (hb : Below w.heap.size w w') : IntsAt w' v l := by
  obtain ⟨a, cap, rfl, hc⟩ := h
  refine ⟨a, cap, rfl, fun h0 => ?_⟩
  obtain ⟨b, off, rfl, hd⟩ := hc h0
  exact ⟨b, off, rfl, fun j hj => cell_below hb (hd j hj)⟩
theorem AttrsAt.below {w w' : World} {v : Value} {l : List (Int × Int)} (h : AttrsAt w v l) (hb : Below w.heap.size w w') : AttrsAt w' v l := by
  obtain ⟨a, cap, rfl, hc⟩ := h
  refine ⟨a, cap, rfl, fun h0 => ?_⟩
  obtain ⟨b, off, rfl, hd⟩ := hc h0
  exact ⟨b, off, rfl, fun j hj => ⟨cell_below hb (hd j hj).1, cell_below hb (hd j hj).2⟩⟩
theorem NodeAt.below {w w' : World} {b o : Nat} {x : Nd} {kv av : Value} (h : NodeAt w b o x kv av) (hb : Below w.heap.size w w') : NodeAt w' b o x kv av :=
  ⟨cell_below hb h.kind, cell_below hb h.tag, cell_below hb h.parent, cell_below hb h.kidsc, cell_below hb h.host, cell_below hb h.root, cell_below hb h.attrsc, h.kids.below hb, h.attrs.below hb⟩
theorem TreeAt.below {w w' : World} {v : Value} {T : List Nd} (h : TreeAt w v T) (hb : Below w.heap.size w w') : TreeAt w' v T := by
  obtain ⟨a, cap, rfl, hc⟩ := h
  refine ⟨a, cap, rfl, fun h0 => ?_⟩
  obtain ⟨b, off, rfl, hd⟩ := hc h0
  exact ⟨b, off, rfl, fun n hn => let ⟨kv, av, h⟩ := hd n hn; ⟨kv, av, h.below hb⟩⟩

theorem TreeAt.at {w : World} {v : Value} {T : List Nd} (h : TreeAt w v T) (h0 : 0 < T.length) :
    ∃ b off cap, v = .slice (some ⟨b, off, none⟩) T.length cap ∧ ∀ n, n < T.length → ∃ kv av, NodeAt w b (off + n * 7) (nd T n) kv av := by
  obtain ⟨a, cap, rfl, hc⟩ := h
  obtain ⟨b, off, rfl, hd⟩ := hc h0
  exact ⟨b, off, cap, rfl, hd⟩

def kindFitsB (x : Nd) (n : Nat) : Bool :=
  if (n : Int) == 0 then x.kind == 0 && tagFitsB x.kind x.tag else (canBeKidB x.kind || x.kind == 3) && tagFitsB x.kind x.tag

set_option maxHeartbeats 800000 in
theorem kindFits_any (T : List Nd) (v : Value) (n : Nat) (w : World) (hT : TreeAt w v T) (hn : n < T.length) :
    Calls Tryz.prog 175 #[v, .int .i64 n] w fun e w' => e = .returned (.bool (kindFitsB (nd T n) n)) ∧ w' = w := by
  obtain ⟨b, off, cap, rfl, hc⟩ := hT.at (by omega)
  obtain ⟨kv, av, hN⟩ := hc n hn
  have h0 := hN.kind
  have h1 := hN.tag
  clear hN hc hT
  cases hz : ((n : Int) == 0)
  · cases h2 : canBeKidB (nd T n).kind
    · cases h3 : ((nd T n).kind == 3)
      all_goals
        go_enter Tryz.func175, Tryz.ntmps175
        go_wp2_with (first | (go_at_call 203; refine (tagFits_any _ _ _).mono ?_; rintro e w1 ⟨rfl, rfl⟩) | (go_at_call 204; refine (canBeKid_any _ _).mono ?_; rintro e w1 ⟨rfl, rfl⟩))
        go_ret
        exact ⟨ret_bool (by simp only [kindFitsB, hz, h2, h3, Bool.false_eq_true, if_false, Bool.false_or, Bool.false_and, Bool.true_and]), rfl⟩
    · go_enter Tryz.func175, Tryz.ntmps175
      go_wp2_with (first | (go_at_call 203; refine (tagFits_any _ _ _).mono ?_; rintro e w1 ⟨rfl, rfl⟩) | (go_at_call 204; refine (canBeKid_any _ _).mono ?_; rintro e w1 ⟨rfl, rfl⟩))
      go_ret
      exact ⟨ret_bool (by simp only [kindFitsB, hz, h2, Bool.false_eq_true, if_false, Bool.true_or, Bool.true_and]), rfl⟩
  · cases h2 : ((nd T n).kind == 0)
    all_goals
      go_enter Tryz.func175, Tryz.ntmps175
      go_wp2_with (go_at_call 203; refine (tagFits_any _ _ _).mono ?_; rintro e w1 ⟨rfl, rfl⟩)
      go_ret
      exact ⟨ret_bool (by simp only [kindFitsB, hz, h2, if_true, Bool.false_and, Bool.true_and]), rfl⟩
end Go.Proofs.YtpmacpbhdgigfaaGreat
namespace Go.Proofs.YtpmacpbhdgigfaaGreat
open Go.RowKit

def hostFitsB (T : List Nd) (n : Nat) : Bool :=
  if (nd T n).kind != 3 then (nd T n).host == -1
  else isNodeB T.length (nd T n).host && (nd T (nd T n).host.toNat).kind == 1 && (nd T (nd T n).host.toNat).root == (n : Int)

def rootFitsB (T : List Nd) (n : Nat) : Bool :=
  if (nd T n).kind != 1 || (nd T n).root == -1 then (nd T n).root == -1
  else isNodeB T.length (nd T n).root && (nd T (nd T n).root.toNat).kind == 3 && (nd T (nd T n).root.toNat).host == (n : Int)

theorem isNodeB_true {len : Nat} {n : Int} (h : isNodeB len n = true) : ∃ m : Nat, n = m ∧ m < len := by
  simp only [isNodeB, Bool.and_eq_true, decide_eq_true_eq] at h
  exact ⟨n.toNat, by omega, by omega⟩

set_option maxHeartbeats 800000 in
theorem hostFits_any (T : List Nd) (v : Value) (n : Nat) (w : World) (hT : TreeAt w v T) (hn : n < T.length) :
    Calls Tryz.prog 176 #[v, .int .i64 n] w fun e w' => e = .returned (.bool (hostFitsB T n)) ∧ w' = w := by
  obtain ⟨b, off, cap, rfl, hc⟩ := hT.at (by omega)
  obtain ⟨kv, av, hN⟩ := hc n hn
  have h0 := hN.kind
  have h4 := hN.host
  clear hN hT
  cases hk : ((nd T n).kind != 3)
  · cases hi : isNodeB T.length (nd T n).host
    · clear hc
      go_enter Tryz.func176, Tryz.ntmps176
      go_wp2_with (go_at_call 205; refine (isNode_any _ _ _ _ _).mono ?_; rintro e w1 ⟨rfl, rfl⟩)
      go_ret
      exact ⟨ret_bool (by simp only [hostFitsB, hk, hi, Bool.false_eq_true, if_false, Bool.false_and]), rfl⟩
    · obtain ⟨m, hm, hlt⟩ := isNodeB_true hi
      obtain ⟨kv', av', hM⟩ := hc m hlt
      have g0 := hM.kind
      have g5 := hM.root
      clear hM hc
      have HF : Hid (hostFitsB T n = ((nd T m).kind == 1 && (nd T m).root == (n : Int))) := by
        show _ = _
        simp only [hostFitsB, hk, hi, Bool.false_eq_true, if_false, Bool.true_and]
        rw [hm, Int.toNat_natCast]
      rw [hm] at hi
      cases hk1 : ((nd T m).kind == 1)
      all_goals
        go_enter Tryz.func176, Tryz.ntmps176
        go_wp2_with (go_at_call 205; refine (isNode_any _ _ _ _ _).mono ?_; rintro e w1 ⟨rfl, rfl⟩)
        go_ret
        exact ⟨ret_bool (by rw [HF.out]; simp only [hk1, Bool.false_and, Bool.true_and]), rfl⟩
  · clear hc
    go_enter Tryz.func176, Tryz.ntmps176
    go_wp2
    go_ret
    exact ⟨ret_bool (by simp only [hostFitsB, hk, if_true]), rfl⟩

set_option maxHeartbeats 800000 in
theorem rootFits_any (T : List Nd) (v : Value) (n : Nat) (w : World) (hT : TreeAt w v T) (hn : n < T.length) :
    Calls Tryz.prog 177 #[v, .int .i64 n] w fun e w' => e = .returned (.bool (rootFitsB T n)) ∧ w' = w := by
  obtain ⟨b, off, cap, rfl, hc⟩ := hT.at (by omega)
  obtain ⟨kv, av, hN⟩ := hc n hn
  have h0 := hN.kind
  have h4 := hN.root
  clear hN hT
  cases hk : ((nd T n).kind != 1)
  · cases hr : ((nd T n).root == -1)
    · cases hi : isNodeB T.length (nd T n).root
      · clear hc
        go_enter Tryz.func177, Tryz.ntmps177
        go_wp2_with (go_at_call 205; refine (isNode_any _ _ _ _ _).mono ?_; rintro e w1 ⟨rfl, rfl⟩)
        go_ret
        exact ⟨ret_bool (by simp only [rootFitsB, hk, hr, hi, Bool.false_eq_true, if_false, Bool.false_and, Bool.or_self]), rfl⟩
      · obtain ⟨m, hm, hlt⟩ := isNodeB_true hi
        obtain ⟨kv', av', hM⟩ := hc m hlt
        have g0 := hM.kind
        have g5 := hM.host
        clear hM hc
        have HF : Hid (rootFitsB T n = ((nd T m).kind == 3 && (nd T m).host == (n : Int))) := by
          show _ = _
          simp only [rootFitsB, hk, hr, hi, Bool.false_eq_true, if_false, Bool.true_and, Bool.or_self]
          rw [hm, Int.toNat_natCast]
        rw [hm] at hr hi
        cases hk1 : ((nd T m).kind == 3)
        all_goals
          go_enter Tryz.func177, Tryz.ntmps177
          go_wp2_with (go_at_call 205; refine (isNode_any _ _ _ _ _).mono ?_; rintro e w1 ⟨rfl, rfl⟩)
          go_ret
          exact ⟨ret_bool (by rw [HF.out]; simp only [hk1, Bool.false_and, Bool.true_and]), rfl⟩
    · clear hc
      go_enter Tryz.func177, Tryz.ntmps177
      go_wp2
      go_ret
      exact ⟨ret_bool (by simp only [rootFitsB, hk, hr, Bool.or_true, if_true]), rfl⟩
  · clear hc
    go_enter Tryz.func177, Tryz.ntmps177
    go_wp2
    go_ret
    exact ⟨ret_bool (by simp only [rootFitsB, hk, Bool.true_or, if_true]), rfl⟩
end Go.Proofs.YtpmacpbhdgigfaaGreat
namespace Go.Proofs.YtpmacpbhdgigfaaGreat
open Go.RowKit

def attrKindI (n : Int) : Int := if n == 7 || n == 8 then 3 else 1
def attrLow (n : Int) : Int := if n == 0 then -2147483648 else if n == 4 then 0 else if n == 6 then 1 else 0
def attrHigh (n : Int) : Int := if n == 0 then 2147483647 else if n == 4 then 2147483647 else if n == 6 then 3 else if n == 9 then 63 else 0
def attrFitsB (k n v : Int) : Bool := !(decide (n < 0) || decide (10 ≤ n) || k != attrKindI n) && (decide (attrLow n ≤ v) && decide (v ≤ attrHigh n))
def attrsFrom (k last : Int) : List (Int × Int) → Bool
  | [] => true
  | a :: l => !(decide (a.1 ≤ last) || !attrFitsB k a.1 a.2) && attrsFrom k a.1 l

set_option maxHeartbeats 400000 in
theorem attrKind_any (n : Int) (w : World) :
    Calls Tryz.prog 226 #[.int .i64 n] w fun e w' => e = .returned (.int .i64 (attrKindI n)) ∧ w' = w := by
  cases h : (n == 7)
  · cases h' : (n == 8)
    all_goals
      go_enter Tryz.func226, Tryz.ntmps226
      go_wp2
      go_ret
      exact ⟨ret_int (by simp only [attrKindI, h, h', Bool.or_self, Bool.or_true, Bool.false_eq_true, if_false, if_true]), rfl⟩
  · go_enter Tryz.func226, Tryz.ntmps226
    go_wp2
    go_ret
    exact ⟨ret_int (by simp only [attrKindI, h, Bool.true_or, if_true]), rfl⟩

theorem ret_ints {a b a' b' : Int} (h : a = a') (h' : b = b') : Ending.returned (.tuple #[.int .i64 a, .int .i64 b]) = .returned (.tuple #[.int .i64 a', .int .i64 b']) := by rw [h, h']

set_option maxHeartbeats 800000 in
theorem attrValues_any (n : Int) (w : World) :
    Calls Tryz.prog 227 #[.int .i64 n] w fun e w' => e = .returned (.tuple #[.int .i64 (attrLow n), .int .i64 (attrHigh n)]) ∧ w' = w := by
  cases h0 : (n == 0)
  · cases h4 : (n == 4)
    · cases h6 : (n == 6)
      · cases h9 : (n == 9)
        all_goals
          go_enter Tryz.func227, Tryz.ntmps227
          go_wp2
          go_ret2
          exact ⟨ret_ints (by simp only [attrLow, h0, h4, h6, Bool.false_eq_true, if_false]) (by simp only [attrHigh, h0, h4, h6, h9, Bool.false_eq_true, if_false, if_true]), rfl⟩
      · go_enter Tryz.func227, Tryz.ntmps227
        go_wp2
        go_ret2
        exact ⟨ret_ints (by simp only [attrLow, h0, h4, h6, Bool.false_eq_true, if_false, if_true]) (by simp only [attrHigh, h0, h4, h6, Bool.false_eq_true, if_false, if_true]), rfl⟩
    · go_enter Tryz.func227, Tryz.ntmps227
      go_wp2
      go_ret2
      exact ⟨ret_ints (by simp only [attrLow, h0, h4, Bool.false_eq_true, if_false, if_true]) (by simp only [attrHigh, h0, h4, Bool.false_eq_true, if_false, if_true]), rfl⟩
  · go_enter Tryz.func227, Tryz.ntmps227
    go_wp2
    go_ret2
    exact ⟨ret_ints (by simp only [attrLow, h0, if_true]) (by simp only [attrHigh, h0, if_true]), rfl⟩

set_option maxHeartbeats 1000000 in
theorem attrFits_any (k n v : Int) (w : World) :
    Calls Tryz.prog 206 #[.int .i64 k, .agg #[.int .i64 n, .int .i64 v]] w fun e w' => e = .returned (.bool (attrFitsB k n v)) ∧ Below w.heap.size w w' := by
  have hB : ∀ o, Below w.heap.size w (w.alloc o) := fun o => (Below.refl _ w).alloc (Nat.le_refl _) o
  cases h1 : decide (n < 0)
  · cases h2 : decide (10 ≤ n)
    · cases h3 : (k != attrKindI n)
      · cases h4 : decide (attrLow n ≤ v)
        all_goals
          go_enter Tryz.func206, Tryz.ntmps206
          go_wp2_with (first | (go_at_call 226; refine (attrKind_any _ _).mono ?_; rintro e w1 ⟨rfl, rfl⟩) | (go_at_call 227; refine (attrValues_any _ _).mono ?_; rintro e w1 ⟨rfl, rfl⟩))
          go_ret
          exact ⟨ret_bool (by simp only [attrFitsB, h1, h2, h3, h4, Bool.or_self, Bool.not_false, Bool.true_and, Bool.false_and]), hB _⟩
      · go_enter Tryz.func206, Tryz.ntmps206
        go_wp2_with (first | (go_at_call 226; refine (attrKind_any _ _).mono ?_; rintro e w1 ⟨rfl, rfl⟩) | (go_at_call 227; refine (attrValues_any _ _).mono ?_; rintro e w1 ⟨rfl, rfl⟩))
        go_ret
        exact ⟨ret_bool (by simp only [attrFitsB, h3, Bool.or_true, Bool.not_true, Bool.false_and]), hB _⟩
    · go_enter Tryz.func206, Tryz.ntmps206
      go_wp2_with (first | (go_at_call 226; refine (attrKind_any _ _).mono ?_; rintro e w1 ⟨rfl, rfl⟩) | (go_at_call 227; refine (attrValues_any _ _).mono ?_; rintro e w1 ⟨rfl, rfl⟩))
      go_ret
      exact ⟨ret_bool (by simp only [attrFitsB, h2, Bool.or_true, Bool.true_or, Bool.not_true, Bool.false_and]), hB _⟩
  · go_enter Tryz.func206, Tryz.ntmps206
    go_wp2_with (first | (go_at_call 226; refine (attrKind_any _ _).mono ?_; rintro e w1 ⟨rfl, rfl⟩) | (go_at_call 227; refine (attrValues_any _ _).mono ?_; rintro e w1 ⟨rfl, rfl⟩))
    go_ret
    exact ⟨ret_bool (by simp only [attrFitsB, h1, Bool.true_or, Bool.not_true, Bool.false_and]), hB _⟩

end Go.Proofs.YtpmacpbhdgigfaaGreat
namespace Go.Proofs.YtpmacpbhdgigfaaGreat
open Go.RowKit

theorem bcell {W w1 : World} (hb : Below W.heap.size W w1) : (∀ b o, b < W.heap.size → w1.cell? ⟨b, o, none⟩ = W.cell? ⟨b, o, none⟩) ∧ (∀ b o, b < W.heap.size → w1.frozen? ⟨b, o, none⟩ = W.frozen? ⟨b, o, none⟩) :=
  ⟨fun b o h => hb.cell (p := ⟨b, o, none⟩) h, fun b o h => hb.frozen (p := ⟨b, o, none⟩) h⟩

theorem attrs_drop {l : List (Int × Int)} {k : Nat} (h : k < l.length) (kd last : Int) :
    attrsFrom kd last (l.drop k) = (!(decide ((l.getD k (0, 0)).1 ≤ last) || !attrFitsB kd (l.getD k (0, 0)).1 (l.getD k (0, 0)).2) && attrsFrom kd (l.getD k (0, 0)).1 (l.drop (k + 1))) := by
  rw [List.drop_eq_getElem_cons h, attrsFrom, List.getD_eq_getElem?_getD, List.getElem?_eq_getElem h, Option.getD_some]

set_option maxRecDepth 100000 in
set_option maxHeartbeats 1000000 in
theorem attrsFit_any (x : Nd) (kv av : Value) (w : World) (hA : AttrsAt w av x.attrs) (hl : x.attrs.length ≤ 1000000) :
    Calls Tryz.prog 178 #[.agg #[.int .i64 x.kind, .int .i64 x.tag, .int .i64 x.parent, kv, .int .i64 x.host, .int .i64 x.root, av]] w fun e w' =>
      e = .returned (.bool (attrsFrom x.kind (-1) x.attrs)) ∧ Below w.heap.size w w' := by
  obtain ⟨a, cap, rfl, hc⟩ := hA
  generalize hattrs : x.attrs = l at *
  generalize x.kind = kd at *
  generalize x.tag = tg at *
  generalize x.parent = pr at *
  generalize x.host = hs at *
  generalize x.root = rt at *
  clear hattrs
  go_enter Tryz.func178, Tryz.ntmps178
  go_wp2_with fail
  go_loopw [3, 9] (fun t i wr => ∃ (k : Nat) (last : Int), k ≤ l.length ∧ i = .int .i64 k ∧ t = .int .i64 last ∧ attrsFrom kd last (l.drop k) = attrsFrom kd (-1) l ∧
      Below w.heap.size w wr ∧ w.heap.size < wr.heap.size ∧ wr.cell? ⟨w.heap.size, 0, none⟩ = some (.int .i64 kd)) (fun _ i _ => l.length - (intOf i).toNat)
  case atStart => exact ⟨0, -1, Nat.zero_le _, rfl, rfl, rfl, (Below.refl _ w).alloc (Nat.le_refl _) _, by simp, by simp⟩
  case round =>
    obtain ⟨k, last, hk, rfl, rfl, hrec, hB, hz, hbox⟩ := hrel
    by_cases hlt : k < l.length
    · obtain ⟨b, off, rfl, hd⟩ := hc (by omega)
      obtain ⟨c1, c2⟩ := hd k hlt
      have hbz : b < w.heap.size := below_of_cell c1
      have g1 := (hB.cell (p := ⟨b, off + k * 2, none⟩) hbz).trans c1
      have g2 := (hB.cell (p := ⟨b, off + k * 2 + 1, none⟩) hbz).trans c2
      have hbz' : b < wr.heap.size := by omega
      have hne : (w.heap.size == wr.heap.size) = false := by simp; omega
      have hstep := attrs_drop hlt kd last
      have HR : Hid (attrsFrom kd last (l.drop k) = attrsFrom kd (-1) l) := hrec
      have HS : Hid (attrsFrom kd last (l.drop k) = (!(decide ((l.getD k (0, 0)).1 ≤ last) || !attrFitsB kd (l.getD k (0, 0)).1 (l.getD k (0, 0)).2) && attrsFrom kd (l.getD k (0, 0)).1 (l.drop (k + 1)))) := hstep
      generalize hA : l.getD k (0, 0) = A at *
      obtain ⟨A1, A2⟩ := A
      dsimp only at *
      have HA : Hid (l.getD k (0, 0) = (A1, A2)) := hA
      clear hc hd c1 c2 hrec hstep hA
      cases h1 : decide (A1 ≤ last)
      · cases h2 : attrFitsB kd A1 A2
        · go_wp2_with (go_at_call 206; refine (attrFits_any _ _ _ _).mono ?_; rintro e w1 ⟨rfl, hb1⟩; obtain ⟨hcc, hff⟩ := bcell hb1)
          go_ret
          exact ⟨ret_bool (by rw [← HR.out, HS.out, h2]; simp only [Bool.not_false, Bool.or_true, Bool.not_true, Bool.false_and]), (hB.alloc hB.size _).trans (hb1.mono (by simp; omega))⟩
        · go_wp2_with (go_at_call 206; refine (attrFits_any _ _ _ _).mono ?_; rintro e w1 ⟨rfl, hb1⟩; obtain ⟨hcc, hff⟩ := bcell hb1)
          go_roundw
          case rel =>
            refine ⟨k + 1, A1, by omega, by go_num, rfl, ?_, (hB.alloc hB.size _).trans (hb1.mono (by simp; omega)), ?_, ?_⟩
            · rw [← HR.out, HS.out, h1, h2]; simp only [Bool.not_false, Bool.not_true, Bool.or_self, Bool.true_and]
            · have := hb1.size; simp at this; omega
            · rw [hcc _ _ (by simp; omega), World.cell?_alloc_past _ _ _ hz]; exact hbox
          case measure => simp [intOf]; omega
      · go_wp2_with (go_at_call 206; refine (attrFits_any _ _ _ _).mono ?_; rintro e w1 ⟨rfl, hb1⟩; obtain ⟨hcc, hff⟩ := bcell hb1)
        go_ret
        exact ⟨ret_bool (by rw [← HR.out, HS.out, h1]; simp only [Bool.true_or, Bool.not_true, Bool.false_and]), hB.alloc hB.size _⟩
    · go_wp2
      go_ret
      exact ⟨ret_bool (by rw [← hrec, List.drop_eq_nil_of_le (by omega)]; rfl), hB⟩
end Go.Proofs.YtpmacpbhdgigfaaGreat
namespace Go.Proofs.YtpmacpbhdgigfaaGreat
open Go.RowKit

/-- A world in which all that lay in w still lies. -/
structure Calm (w : World) where
  to : World
  below : Below w.heap.size w to

instance (w : World) : Nonempty (Calm w) := ⟨⟨w, Below.refl _ _⟩⟩

theorem below_drew' {B : Nat} {a w : World} (h : Below B a w) : Below B a w.drew := h.trans ⟨rfl, rfl, rfl, Nat.le_refl _, fun _ _ => rfl⟩
theorem calmCell {w : World} (d : Calm w) (b o : Nat) (h : b < w.heap.size) : d.to.cell? ⟨b, o, none⟩ = w.cell? ⟨b, o, none⟩ := d.below.cell (p := ⟨b, o, none⟩) h

theorem wp_region_calm {P : Program} {id : Nat} {Q : Exit → Act → World → Prop} {a : Act} {w : World} {l : List Oper} (hm : P.follows .mixedOrders = true) (hB : Region.lexB .any l.toArray = true)
    (h : wpQuiet P l.toArray (fun w' => ∃ d : Calm w, w' = d.to) (fun a' => ∀ w', (∃ d : Calm w, w' = d.to) → Q .normal a' w') l a) : (Code.region id l.toArray true).wp P Q a w :=
  wp_region_quiet (C := fun w' => ∃ d : Calm w, w' = d.to) hm hB ⟨⟨w.drew, below_drew' (Below.refl _ _)⟩, rfl⟩ (by simpa using h)

end Go.Proofs.YtpmacpbhdgigfaaGreat
