/- Part 1 of what the laws of layer 10 lean on. -/
import Derived.Test.YtclhimodopgeoaaGreatRows
import Derived.WalkKit
import Derived.WalkSpells
import Derived.WalkLawsBesides
import Derived.BigQuiet
import Derived.RangeFuncFrom
import Derived.RangeFuncLeaves
import Derived.Shelf.Abstract
import Derived.OwnWalkIn
import Derived.TacticsInMore
import Derived.LoopNIn
import Derived.LoopIn
namespace Go.Proofs.YtclhimodopgeoaaGreat
open Go.RowKit
theorem hideG {p : Prop} (h : p) : Hid p := h
end Go.Proofs.YtclhimodopgeoaaGreat
namespace Go.Proofs.YtclhimodopgeoaaGreat
open Go.RowKit

structure Nd where
  kind : Int
  tag : Int
  parent : Int
  kids : List Int
  host : Int
  root : Int
  attrs : List (Int × Int)
  deriving Inhabited, DecidableEq

/-- A node of a list of nodes. -/
def nd (T : List Nd) (n : Nat) : Nd := T.getD n default

theorem ret_bool {a b : Bool} (h : a = b) : Ending.returned (.bool a) = .returned (.bool b) := by rw [h]
theorem ret_int {k : IntKind} {a b : Int} (h : a = b) : Ending.returned (.int k a) = .returned (.int k b) := by rw [h]

def tagFitsB (k t : Int) : Bool := if k == 1 then decide (0 ≤ t) && decide (t ≤ 4) else t == 0
def canBeKidB (k : Int) : Bool := k == 1 || k == 2
def isNodeB (len : Nat) (n : Int) : Bool := decide (0 ≤ n) && decide (n < len)

set_option maxHeartbeats 400000 in
theorem tagFits_any (k t : Int) (w : World) :
    Calls Tryz.prog 163 #[.int .i64 k, .int .i64 t] w fun e w' => e = .returned (.bool (tagFitsB k t)) ∧ w' = w := by
  cases h : (k == 1)
  · go_enter Tryz.func163, Tryz.ntmps163
    go_wp2
    go_ret
    exact ⟨ret_bool (by simp only [tagFitsB, h, Bool.false_eq_true, if_false]), rfl⟩
  · cases ht : decide (0 ≤ t)
    all_goals
      go_enter Tryz.func163, Tryz.ntmps163
      go_wp2
      go_ret
      exact ⟨ret_bool (by simp only [tagFitsB, h, ht, if_true, Bool.false_and, Bool.true_and]), rfl⟩

set_option maxHeartbeats 400000 in
theorem canBeKid_any (k : Int) (w : World) :
    Calls Tryz.prog 164 #[.int .i64 k] w fun e w' => e = .returned (.bool (canBeKidB k)) ∧ w' = w := by
  cases h : (k == 1)
  all_goals
    go_enter Tryz.func164, Tryz.ntmps164
    go_wp2
    go_ret
    exact ⟨ret_bool (by simp only [canBeKidB, h, Bool.false_or, Bool.true_or]), rfl⟩

set_option maxHeartbeats 400000 in
theorem isNode_any (a : Option Addr) (len cap : Nat) (n : Int) (w : World) :
    Calls Tryz.prog 165 #[.slice a len cap, .int .i64 n] w fun e w' => e = .returned (.bool (isNodeB len n)) ∧ w' = w := by
  cases h : decide (0 ≤ n)
  all_goals
    go_enter Tryz.func165, Tryz.ntmps165
    go_wp2
    go_ret
    exact ⟨ret_bool (by simp only [isNodeB, h, Bool.false_and, Bool.true_and]), rfl⟩

/-- A list of numbers, as it lies in memory behind a slice. -/
def IntsAt (w : World) (v : Value) (l : List Int) : Prop :=
  ∃ a cap, v = .slice a l.length cap ∧ (0 < l.length → ∃ b off, a = some ⟨b, off, none⟩ ∧ ∀ j, j < l.length → w.cell? ⟨b, off + j, none⟩ = some (.int .i64 (l.getD j 0)))

/-- A list of attributes: two cells each. -/
def AttrsAt (w : World) (v : Value) (l : List (Int × Int)) : Prop :=
  ∃ a cap, v = .slice a l.length cap ∧ (0 < l.length → ∃ b off, a = some ⟨b, off, none⟩ ∧ ∀ j, j < l.length → w.cell? ⟨b, off + j * 2, none⟩ = some (.int .i64 (l.getD j (0, 0)).1) ∧ w.cell? ⟨b, off + j * 2 + 1, none⟩ = some (.int .i64 (l.getD j (0, 0)).2))

/-- The seven cells of a node. -/
structure NodeAt (w : World) (b o : Nat) (x : Nd) (kv av : Value) : Prop where
  kind : w.cell? ⟨b, o, none⟩ = some (.int .i64 x.kind)
  tag : w.cell? ⟨b, o + 1, none⟩ = some (.int .i64 x.tag)
  parent : w.cell? ⟨b, o + 2, none⟩ = some (.int .i64 x.parent)
  kidsc : w.cell? ⟨b, o + 3, none⟩ = some kv
  host : w.cell? ⟨b, o + 4, none⟩ = some (.int .i64 x.host)
  root : w.cell? ⟨b, o + 5, none⟩ = some (.int .i64 x.root)
  attrsc : w.cell? ⟨b, o + 6, none⟩ = some av
  kids : IntsAt w kv x.kids
  attrs : AttrsAt w av x.attrs

/-- A tree behind a slice. -/
def TreeAt (w : World) (v : Value) (T : List Nd) : Prop :=
  ∃ a cap, v = .slice a T.length cap ∧ (0 < T.length → ∃ b off, a = some ⟨b, off, none⟩ ∧ ∀ n, n < T.length → ∃ kv av, NodeAt w b (off + n * 7) (nd T n) kv av)

theorem below_of_cell {w : World} {a : Addr} {v : Value} (h : w.cell? a = some v) : a.block < w.heap.size := World.block_lt_of_cell? w a h

theorem cell_below {w w' : World} (hb : Below w.heap.size w w') {a : Addr} {v : Value} (h : w.cell? a = some v) : w'.cell? a = some v :=
  (hb.cell (below_of_cell h)).trans h

theorem IntsAt.below {w w' : World} {v : Value} {l : List Int} (h : IntsAt w v l) (hb : Below w.heap.size w w') : IntsAt w' v l := by
  obtain ⟨a, cap, rfl, hc⟩ := h
  refine ⟨a, cap, rfl, fun h0 => ?_⟩
  obtain ⟨b, off, rfl, hd⟩ := hc h0
  exact ⟨b, off, rfl, fun j hj => cell_below hb (hd j hj)⟩
theorem AttrsAt.below {w w' : World} {v : Value} {l : List (Int × Int)} (h : AttrsAt w v l) (hb : Below w.heap.size w w') : AttrsAt w' v l := by
  obtain ⟨a, cap, rfl, hc⟩ := h
  refine ⟨a, cap, rfl, fun h0 => ?_⟩
  obtain ⟨b, off, rfl, hd⟩ := hc h0
  exact ⟨b, off, rfl, fun j hj => ⟨cell_below hb (hd j hj).1, cell_below hb (hd j hj).2⟩⟩
theorem NodeAt.below {w w' : World} {b o : Nat} {x : Nd} {kv av : Value} (h : NodeAt w b o x kv av) (hb : Below w.heap.size w w') : NodeAt w' b o x kv av :=
  ⟨cell_below hb h.kind, cell_below hb h.tag, cell_below hb h.parent, cell_below hb h.kidsc, cell_below hb h.host, cell_below hb h.root, cell_below hb h.attrsc, h.kids.below hb, h.attrs.below hb⟩
theorem TreeAt.below {w w' : World} {v : Value} {T : List Nd} (h : TreeAt w v T) (hb : Below w.heap.size w w') : TreeAt w' v T := by
  obtain ⟨a, cap, rfl, hc⟩ := h
  refine ⟨a, cap, rfl, fun h0 => ?_⟩
  obtain ⟨b, off, rfl, hd⟩ := hc h0
  exact ⟨b, off, rfl, fun n hn => let ⟨kv, av, h⟩ := hd n hn; ⟨kv, av, h.below hb⟩⟩

theorem TreeAt.at {w : World} {v : Value} {T : List Nd} (h : TreeAt w v T) (h0 : 0 < T.length) :
    ∃ b off cap, v = .slice (some ⟨b, off, none⟩) T.length cap ∧ ∀ n, n < T.length → ∃ kv av, NodeAt w b (off + n * 7) (nd T n) kv av := by
  obtain ⟨a, cap, rfl, hc⟩ := h
  obtain ⟨b, off, rfl, hd⟩ := hc h0
  exact ⟨b, off, cap, rfl, hd⟩

def kindFitsB (x : Nd) (n : Nat) : Bool :=
  if (n : Int) == 0 then x.kind == 0 && tagFitsB x.kind x.tag else (canBeKidB x.kind || x.kind == 3) && tagFitsB x.kind x.tag

set_option maxHeartbeats 800000 in
theorem kindFits_any (T : List Nd) (v : Value) (n : Nat) (w : World) (hT : TreeAt w v T) (hn : n < T.length) :
    Calls Tryz.prog 140 #[v, .int .i64 n] w fun e w' => e = .returned (.bool (kindFitsB (nd T n) n)) ∧ w' = w := by
  obtain ⟨b, off, cap, rfl, hc⟩ := hT.at (by omega)
  obtain ⟨kv, av, hN⟩ := hc n hn
  have h0 := hN.kind
  have h1 := hN.tag
  clear hN hc hT
  cases hz : ((n : Int) == 0)
  · cases h2 : canBeKidB (nd T n).kind
    · cases h3 : ((nd T n).kind == 3)
      all_goals
        go_enter Tryz.func140, Tryz.ntmps140
        go_wp2_with (first | (go_at_call 163; refine (tagFits_any _ _ _).mono ?_; rintro e w1 ⟨rfl, rfl⟩) | (go_at_call 164; refine (canBeKid_any _ _).mono ?_; rintro e w1 ⟨rfl, rfl⟩))
        go_ret
        exact ⟨ret_bool (by simp only [kindFitsB, hz, h2, h3, Bool.false_eq_true, if_false, Bool.false_or, Bool.false_and, Bool.true_and]), rfl⟩
    · go_enter Tryz.func140, Tryz.ntmps140
      go_wp2_with (first | (go_at_call 163; refine (tagFits_any _ _ _).mono ?_; rintro e w1 ⟨rfl, rfl⟩) | (go_at_call 164; refine (canBeKid_any _ _).mono ?_; rintro e w1 ⟨rfl, rfl⟩))
      go_ret
      exact ⟨ret_bool (by simp only [kindFitsB, hz, h2, Bool.false_eq_true, if_false, Bool.true_or, Bool.true_and]), rfl⟩
  · cases h2 : ((nd T n).kind == 0)
    all_goals
      go_enter Tryz.func140, Tryz.ntmps140
      go_wp2_with (go_at_call 163; refine (tagFits_any _ _ _).mono ?_; rintro e w1 ⟨rfl, rfl⟩)
      go_ret
      exact ⟨ret_bool (by simp only [kindFitsB, hz, h2, if_true, Bool.false_and, Bool.true_and]), rfl⟩
end Go.Proofs.YtclhimodopgeoaaGreat
namespace Go.Proofs.YtclhimodopgeoaaGreat
open Go.RowKit

def hostFitsB (T : List Nd) (n : Nat) : Bool :=
  if (nd T n).kind != 3 then (nd T n).host == -1
  else isNodeB T.length (nd T n).host && (nd T (nd T n).host.toNat).kind == 1 && (nd T (nd T n).host.toNat).root == (n : Int)

def rootFitsB (T : List Nd) (n : Nat) : Bool :=
  if (nd T n).kind != 1 || (nd T n).root == -1 then (nd T n).root == -1
  else isNodeB T.length (nd T n).root && (nd T (nd T n).root.toNat).kind == 3 && (nd T (nd T n).root.toNat).host == (n : Int)

theorem isNodeB_true {len : Nat} {n : Int} (h : isNodeB len n = true) : ∃ m : Nat, n = m ∧ m < len := by
  simp only [isNodeB, Bool.and_eq_true, decide_eq_true_eq] at h
  exact ⟨n.toNat, by omega, by omega⟩

set_option maxHeartbeats 800000 in
theorem hostFits_any (T : List Nd) (v : Value) (n : Nat) (w : World) (hT : TreeAt w v T) (hn : n < T.length) :
    Calls Tryz.prog 141 #[v, .int .i64 n] w fun e w' => e = .returned (.bool (hostFitsB T n)) ∧ w' = w := by
  obtain ⟨b, off, cap, rfl, hc⟩ := hT.at (by omega)
  obtain ⟨kv, av, hN⟩ := hc n hn
  have h0 := hN.kind
  have h4 := hN.host
  clear hN hT
  cases hk : ((nd T n).kind != 3)
  · cases hi : isNodeB T.length (nd T n).host
    · clear hc
      go_enter Tryz.func141, Tryz.ntmps141
      go_wp2_with (go_at_call 165; refine (isNode_any _ _ _ _ _).mono ?_; rintro e w1 ⟨rfl, rfl⟩)
      go_ret
      exact ⟨ret_bool (by simp only [hostFitsB, hk, hi, Bool.false_eq_true, if_false, Bool.false_and]), rfl⟩
    · obtain ⟨m, hm, hlt⟩ := isNodeB_true hi
      obtain ⟨kv', av', hM⟩ := hc m hlt
      have g0 := hM.kind
      have g5 := hM.root
      clear hM hc
      have HF : Hid (hostFitsB T n = ((nd T m).kind == 1 && (nd T m).root == (n : Int))) := by
        show _ = _
        simp only [hostFitsB, hk, hi, Bool.false_eq_true, if_false, Bool.true_and]
        rw [hm, Int.toNat_natCast]
      rw [hm] at hi
      cases hk1 : ((nd T m).kind == 1)
      all_goals
        go_enter Tryz.func141, Tryz.ntmps141
        go_wp2_with (go_at_call 165; refine (isNode_any _ _ _ _ _).mono ?_; rintro e w1 ⟨rfl, rfl⟩)
        go_ret
        exact ⟨ret_bool (by rw [HF.out]; simp only [hk1, Bool.false_and, Bool.true_and]), rfl⟩
  · clear hc
    go_enter Tryz.func141, Tryz.ntmps141
    go_wp2
    go_ret
    exact ⟨ret_bool (by simp only [hostFitsB, hk, if_true]), rfl⟩

set_option maxHeartbeats 800000 in
theorem rootFits_any (T : List Nd) (v : Value) (n : Nat) (w : World) (hT : TreeAt w v T) (hn : n < T.length) :
    Calls Tryz.prog 142 #[v, .int .i64 n] w fun e w' => e = .returned (.bool (rootFitsB T n)) ∧ w' = w := by
  obtain ⟨b, off, cap, rfl, hc⟩ := hT.at (by omega)
  obtain ⟨kv, av, hN⟩ := hc n hn
  have h0 := hN.kind
  have h4 := hN.root
  clear hN hT
  cases hk : ((nd T n).kind != 1)
  · cases hr : ((nd T n).root == -1)
    · cases hi : isNodeB T.length (nd T n).root
      · clear hc
        go_enter Tryz.func142, Tryz.ntmps142
        go_wp2_with (go_at_call 165; refine (isNode_any _ _ _ _ _).mono ?_; rintro e w1 ⟨rfl, rfl⟩)
        go_ret
        exact ⟨ret_bool (by simp only [rootFitsB, hk, hr, hi, Bool.false_eq_true, if_false, Bool.false_and, Bool.or_self]), rfl⟩
      · obtain ⟨m, hm, hlt⟩ := isNodeB_true hi
        obtain ⟨kv', av', hM⟩ := hc m hlt
        have g0 := hM.kind
        have g5 := hM.host
        clear hM hc
        have HF : Hid (rootFitsB T n = ((nd T m).kind == 3 && (nd T m).host == (n : Int))) := by
          show _ = _
          simp only [rootFitsB, hk, hr, hi, Bool.false_eq_true, if_false, Bool.true_and, Bool.or_self]
          rw [hm, Int.toNat_natCast]
        rw [hm] at hr hi
        cases hk1 : ((nd T m).kind == 3)
        all_goals
          go_enter Tryz.func142, Tryz.ntmps142
          go_wp2_with (go_at_call 165; refine (isNode_any _ _ _ _ _).mono ?_; rintro e w1 ⟨rfl, rfl⟩)
          go_ret
          exact ⟨ret_bool (by rw [HF.out]; simp only [hk1, Bool.false_and, Bool.true_and]), rfl⟩
    · clear hc
      go_enter Tryz.func142, Tryz.ntmps142
      go_wp2
      go_ret
      exact ⟨ret_bool (by simp only [rootFitsB, hk, hr, Bool.or_true, if_true]), rfl⟩
  · clear hc
    go_enter Tryz.func142, Tryz.ntmps142
    go_wp2
    go_ret
    exact ⟨ret_bool (by simp only [rootFitsB, hk, Bool.true_or, if_true]), rfl⟩
end Go.Proofs.YtclhimodopgeoaaGreat
namespace Go.Proofs.YtclhimodopgeoaaGreat
open Go.RowKit

def attrKindI (n : Int) : Int := if n == 7 || n == 8 then 3 else 1
def attrLow (n : Int) : Int := if n == 0 then -2147483648 else if n == 4 then 0 else if n == 6 then 1 else 0
def attrHigh (n : Int) : Int := if n == 0 then 2147483647 else if n == 4 then 2147483647 else if n == 6 then 3 else if n == 9 then 63 else 0
def attrFitsB (k n v : Int) : Bool := !(decide (n < 0) || decide (10 ≤ n) || k != attrKindI n) && (decide (attrLow n ≤ v) && decide (v ≤ attrHigh n))
def attrsFrom (k last : Int) : List (Int × Int) → Bool
  | [] => true
  | a :: l => !(decide (a.1 ≤ last) || !attrFitsB k a.1 a.2) && attrsFrom k a.1 l

set_option maxHeartbeats 400000 in
theorem attrKind_any (n : Int) (w : World) :
    Calls Tryz.prog 183 #[.int .i64 n] w fun e w' => e = .returned (.int .i64 (attrKindI n)) ∧ w' = w := by
  cases h : (n == 7)
  · cases h' : (n == 8)
    all_goals
      go_enter Tryz.func183, Tryz.ntmps183
      go_wp2
      go_ret
      exact ⟨ret_int (by simp only [attrKindI, h, h', Bool.or_self, Bool.or_true, Bool.false_eq_true, if_false, if_true]), rfl⟩
  · go_enter Tryz.func183, Tryz.ntmps183
    go_wp2
    go_ret
    exact ⟨ret_int (by simp only [attrKindI, h, Bool.true_or, if_true]), rfl⟩

theorem ret_ints {a b a' b' : Int} (h : a = a') (h' : b = b') : Ending.returned (.tuple #[.int .i64 a, .int .i64 b]) = .returned (.tuple #[.int .i64 a', .int .i64 b']) := by rw [h, h']

set_option maxHeartbeats 800000 in
theorem attrValues_any (n : Int) (w : World) :
    Calls Tryz.prog 184 #[.int .i64 n] w fun e w' => e = .returned (.tuple #[.int .i64 (attrLow n), .int .i64 (attrHigh n)]) ∧ w' = w := by
  cases h0 : (n == 0)
  · cases h4 : (n == 4)
    · cases h6 : (n == 6)
      · cases h9 : (n == 9)
        all_goals
          go_enter Tryz.func184, Tryz.ntmps184
          go_wp2
          go_ret2
          exact ⟨ret_ints (by simp only [attrLow, h0, h4, h6, Bool.false_eq_true, if_false]) (by simp only [attrHigh, h0, h4, h6, h9, Bool.false_eq_true, if_false, if_true]), rfl⟩
      · go_enter Tryz.func184, Tryz.ntmps184
        go_wp2
        go_ret2
        exact ⟨ret_ints (by simp only [attrLow, h0, h4, h6, Bool.false_eq_true, if_false, if_true]) (by simp only [attrHigh, h0, h4, h6, Bool.false_eq_true, if_false, if_true]), rfl⟩
    · go_enter Tryz.func184, Tryz.ntmps184
      go_wp2
      go_ret2
      exact ⟨ret_ints (by simp only [attrLow, h0, h4, Bool.false_eq_true, if_false, if_true]) (by simp only [attrHigh, h0, h4, Bool.false_eq_true, if_false, if_true]), rfl⟩
  · go_enter Tryz.func184, Tryz.ntmps184
    go_wp2
    go_ret2
    exact ⟨ret_ints (by simp only [attrLow, h0, if_true]) (by simp only [attrHigh, h0, if_true]), rfl⟩

set_option maxHeartbeats 1000000 in
theorem attrFits_any (k n v : Int) (w : World) :
    Calls Tryz.prog 166 #[.int .i64 k, .agg #[.int .i64 n, .int .i64 v]] w fun e w' => e = .returned (.bool (attrFitsB k n v)) ∧ Below w.heap.size w w' := by
  have hB : ∀ o, Below w.heap.size w (w.alloc o) := fun o => (Below.refl _ w).alloc (Nat.le_refl _) o
  cases h1 : decide (n < 0)
  · cases h2 : decide (10 ≤ n)
    · cases h3 : (k != attrKindI n)
      · cases h4 : decide (attrLow n ≤ v)
        all_goals
          go_enter Tryz.func166, Tryz.ntmps166
          go_wp2_with (first | (go_at_call 183; refine (attrKind_any _ _).mono ?_; rintro e w1 ⟨rfl, rfl⟩) | (go_at_call 184; refine (attrValues_any _ _).mono ?_; rintro e w1 ⟨rfl, rfl⟩))
          go_ret
          exact ⟨ret_bool (by simp only [attrFitsB, h1, h2, h3, h4, Bool.or_self, Bool.not_false, Bool.true_and, Bool.false_and]), hB _⟩
      · go_enter Tryz.func166, Tryz.ntmps166
        go_wp2_with (first | (go_at_call 183; refine (attrKind_any _ _).mono ?_; rintro e w1 ⟨rfl, rfl⟩) | (go_at_call 184; refine (attrValues_any _ _).mono ?_; rintro e w1 ⟨rfl, rfl⟩))
        go_ret
        exact ⟨ret_bool (by simp only [attrFitsB, h3, Bool.or_true, Bool.not_true, Bool.false_and]), hB _⟩
    · go_enter Tryz.func166, Tryz.ntmps166
      go_wp2_with (first | (go_at_call 183; refine (attrKind_any _ _).mono ?_; rintro e w1 ⟨rfl, rfl⟩) | (go_at_call 184; refine (attrValues_any _ _).mono ?_; rintro e w1 ⟨rfl, rfl⟩))
      go_ret
      exact ⟨ret_bool (by simp only [attrFitsB, h2, Bool.or_true, Bool.true_or, Bool.not_true, Bool.false_and]), hB _⟩
  · go_enter Tryz.func166, Tryz.ntmps166
    go_wp2_with (first | (go_at_call 183; refine (attrKind_any _ _).mono ?_; rintro e w1 ⟨rfl, rfl⟩) | (go_at_call 184; refine (attrValues_any _ _).mono ?_; rintro e w1 ⟨rfl, rfl⟩))
    go_ret
    exact ⟨ret_bool (by simp only [attrFitsB, h1, Bool.true_or, Bool.not_true, Bool.false_and]), hB _⟩

end Go.Proofs.YtclhimodopgeoaaGreat
namespace Go.Proofs.YtclhimodopgeoaaGreat
open Go.RowKit

theorem bcell {W w1 : World} (hb : Below W.heap.size W w1) : (∀ b o, b < W.heap.size → w1.cell? ⟨b, o, none⟩ = W.cell? ⟨b, o, none⟩) ∧ (∀ b o, b < W.heap.size → w1.frozen? ⟨b, o, none⟩ = W.frozen? ⟨b, o, none⟩) :=
  ⟨fun b o h => hb.cell (p := ⟨b, o, none⟩) h, fun b o h => hb.frozen (p := ⟨b, o, none⟩) h⟩

theorem attrs_drop {l : List (Int × Int)} {k : Nat} (h : k < l.length) (kd last : Int) :
    attrsFrom kd last (l.drop k) = (!(decide ((l.getD k (0, 0)).1 ≤ last) || !attrFitsB kd (l.getD k (0, 0)).1 (l.getD k (0, 0)).2) && attrsFrom kd (l.getD k (0, 0)).1 (l.drop (k + 1))) := by
  rw [List.drop_eq_getElem_cons h, attrsFrom, List.getD_eq_getElem?_getD, List.getElem?_eq_getElem h, Option.getD_some]

set_option maxRecDepth 100000 in
set_option maxHeartbeats 1000000 in
theorem attrsFit_any (x : Nd) (kv av : Value) (w : World) (hA : AttrsAt w av x.attrs) (hl : x.attrs.length ≤ 1000000) :
    Calls Tryz.prog 143 #[.agg #[.int .i64 x.kind, .int .i64 x.tag, .int .i64 x.parent, kv, .int .i64 x.host, .int .i64 x.root, av]] w fun e w' =>
      e = .returned (.bool (attrsFrom x.kind (-1) x.attrs)) ∧ Below w.heap.size w w' := by
  obtain ⟨a, cap, rfl, hc⟩ := hA
  generalize hattrs : x.attrs = l at *
  generalize x.kind = kd at *
  generalize x.tag = tg at *
  generalize x.parent = pr at *
  generalize x.host = hs at *
  generalize x.root = rt at *
  clear hattrs
  go_enter Tryz.func143, Tryz.ntmps143
  go_wp2_with fail
  go_loopw [3, 9] (fun t i wr => ∃ (k : Nat) (last : Int), k ≤ l.length ∧ i = .int .i64 k ∧ t = .int .i64 last ∧ attrsFrom kd last (l.drop k) = attrsFrom kd (-1) l ∧
      Below w.heap.size w wr ∧ w.heap.size < wr.heap.size ∧ wr.cell? ⟨w.heap.size, 0, none⟩ = some (.int .i64 kd)) (fun _ i _ => l.length - (intOf i).toNat)
  case atStart => exact ⟨0, -1, Nat.zero_le _, rfl, rfl, rfl, (Below.refl _ w).alloc (Nat.le_refl _) _, by simp, by simp⟩
  case round =>
    obtain ⟨k, last, hk, rfl, rfl, hrec, hB, hz, hbox⟩ := hrel
    by_cases hlt : k < l.length
    · obtain ⟨b, off, rfl, hd⟩ := hc (by omega)
      obtain ⟨c1, c2⟩ := hd k hlt
      have hbz : b < w.heap.size := below_of_cell c1
      have g1 := (hB.cell (p := ⟨b, off + k * 2, none⟩) hbz).trans c1
      have g2 := (hB.cell (p := ⟨b, off + k * 2 + 1, none⟩) hbz).trans c2
      have hbz' : b < wr.heap.size := by omega
      have hne : (w.heap.size == wr.heap.size) = false := by simp; omega
      have hstep := attrs_drop hlt kd last
      have HR : Hid (attrsFrom kd last (l.drop k) = attrsFrom kd (-1) l) := hrec
      have HS : Hid (attrsFrom kd last (l.drop k) = (!(decide ((l.getD k (0, 0)).1 ≤ last) || !attrFitsB kd (l.getD k (0, 0)).1 (l.getD k (0, 0)).2) && attrsFrom kd (l.getD k (0, 0)).1 (l.drop (k + 1)))) := hstep
      generalize hA : l.getD k (0, 0) = A at *
      obtain ⟨A1, A2⟩ := A
      dsimp only at *
      have HA : Hid (l.getD k (0, 0) = (A1, A2)) := hA
      clear hc hd c1 c2 hrec hstep hA
      cases h1 : decide (A1 ≤ last)
      · cases h2 : attrFitsB kd A1 A2
        · go_wp2_with (go_at_call 166; refine (attrFits_any _ _ _ _).mono ?_; rintro e w1 ⟨rfl, hb1⟩; obtain ⟨hcc, hff⟩ := bcell hb1)
          go_ret
          exact ⟨ret_bool (by rw [← HR.out, HS.out, h2]; simp only [Bool.not_false, Bool.or_true, Bool.not_true, Bool.false_and]), (hB.alloc hB.size _).trans (hb1.mono (by simp; omega))⟩
        · go_wp2_with (go_at_call 166; refine (attrFits_any _ _ _ _).mono ?_; rintro e w1 ⟨rfl, hb1⟩; obtain ⟨hcc, hff⟩ := bcell hb1)
          go_roundw
          case rel =>
            refine ⟨k + 1, A1, by omega, by go_num, rfl, ?_, (hB.alloc hB.size _).trans (hb1.mono (by simp; omega)), ?_, ?_⟩
            · rw [← HR.out, HS.out, h1, h2]; simp only [Bool.not_false, Bool.not_true, Bool.or_self, Bool.true_and]
            · have := hb1.size; simp at this; omega
            · rw [hcc _ _ (by simp; omega), World.cell?_alloc_past _ _ _ hz]; exact hbox
          case measure => simp [intOf]; omega
      · go_wp2_with (go_at_call 166; refine (attrFits_any _ _ _ _).mono ?_; rintro e w1 ⟨rfl, hb1⟩; obtain ⟨hcc, hff⟩ := bcell hb1)
        go_ret
        exact ⟨ret_bool (by rw [← HR.out, HS.out, h1]; simp only [Bool.true_or, Bool.not_true, Bool.false_and]), hB.alloc hB.size _⟩
    · go_wp2
      go_ret
      exact ⟨ret_bool (by rw [← hrec, List.drop_eq_nil_of_le (by omega)]; rfl), hB⟩
end Go.Proofs.YtclhimodopgeoaaGreat
namespace Go.Proofs.YtclhimodopgeoaaGreat
open Go.RowKit

/-- A world in which all that lay in w still lies. -/
structure Calm (w : World) where
  to : World
  below : Below w.heap.size w to

instance (w : World) : Nonempty (Calm w) := ⟨⟨w, Below.refl _ _⟩⟩

theorem below_drew' {B : Nat} {a w : World} (h : Below B a w) : Below B a w.drew := h.trans ⟨rfl, rfl, rfl, Nat.le_refl _, fun _ _ => rfl⟩
theorem calmCell {w : World} (d : Calm w) (b o : Nat) (h : b < w.heap.size) : d.to.cell? ⟨b, o, none⟩ = w.cell? ⟨b, o, none⟩ := d.below.cell (p := ⟨b, o, none⟩) h

theorem wp_region_calm {P : Program} {id : Nat} {Q : Exit → Act → World → Prop} {a : Act} {w : World} {l : List Oper} (hm : P.follows .mixedOrders = true) (hB : Region.lexB .any l.toArray = true)
    (h : wpQuiet P l.toArray (fun w' => ∃ d : Calm w, w' = d.to) (fun a' => ∀ w', (∃ d : Calm w, w' = d.to) → Q .normal a' w') l a) : (Code.region id l.toArray true).wp P Q a w :=
  wp_region_quiet (C := fun w' => ∃ d : Calm w, w' = d.to) hm hB ⟨⟨w.drew, below_drew' (Below.refl _ _)⟩, rfl⟩ (by simpa using h)

end Go.Proofs.YtclhimodopgeoaaGreat

namespace Go.Proofs.YtclhimodopgeoaaGreat
open Go.RowKit Go.Shelf

attribute [local go_sem] Oper.semAt_some

def overI (x : Nd) : Int := if x.kind == 3 then x.host else x.parent
def ups (T : List Nd) : Nat → Nat → List Nat
  | 0, _ => []
  | m + 1, at_ => if overI (nd T at_) == -1 then [] else (overI (nd T at_)).toNat :: ups T m (overI (nd T at_)).toNat
/-- Whoever is gone up to is a node. -/
def UpOk (T : List Nd) : Prop := ∀ n, n < T.length → (overI (nd T n) == -1) = true ∨ isNodeB T.length (overI (nd T n)) = true

set_option maxHeartbeats 800000 in
theorem over_any (x : Nd) (kv av : Value) (w : World) :
    Calls Tryz.prog 193 #[.agg #[.int .i64 x.kind, .int .i64 x.tag, .int .i64 x.parent, kv, .int .i64 x.host, .int .i64 x.root, av]] w fun e w' =>
      e = .returned (.int .i64 (overI x)) ∧ w' = w.alloc (.cells #[.int .i64 x.kind, .int .i64 x.tag, .int .i64 x.parent, kv, .int .i64 x.host, .int .i64 x.root, av] 57) := by
  cases h : (x.kind == 3)
  all_goals
    go_enter Tryz.func193, Tryz.ntmps193
    go_wp2
    go_ret
    exact ⟨ret_int (by simp only [overI, h, Bool.false_eq_true, if_false, if_true]), rfl⟩

theorem anc_in (a : Option Addr) (len cap : Nat) (n : Int) (m : Nat) (w : World) :
    CallsIn Fence.wide m Tryz.prog 185 #[.slice a len cap, .int .i64 n] w fun e w' => e = .returned (.func (.func 192) #[] #[.pointer (some ⟨w.heap.size + 1, 0, none⟩), .pointer (some ⟨w.heap.size, 0, none⟩)]) ∧ w' = (w.alloc (.cells #[.slice a len cap] 23)).alloc (.cells #[.int .i64 n] 3) := by
  refine callsIn_of_wp Tryz.func185 rfl trivial ?_ rfl
  simp only [Tryz.ntmps185, List.size_toArray, List.length_cons, List.length_nil, Nat.reduceAdd, Nat.reduceSub, Array.replicate_succ, Array.replicate_zero, List.push_toArray, List.append_toArray, List.nil_append, List.cons_append]
  gi_wp2
  go_ret
  exact ⟨rfl, rfl⟩

theorem ups_none {T : List Nd} {k at_ : Nat} (h : (overI (nd T at_) == -1) = true) : ups T k at_ = [] := by
  cases k with
  | zero => rfl
  | succ k => simp only [ups, h, if_true]
theorem ups_some {T : List Nd} {k at_ m : Nat} (hk : 0 < k) (h : (overI (nd T at_) == -1) = false) (hm : overI (nd T at_) = (m : Int)) : ups T k at_ = m :: ups T (k - 1) m := by
  obtain ⟨k, rfl⟩ : ∃ j, k = j + 1 := ⟨k - 1, by omega⟩
  simp only [ups, h, Bool.false_eq_true, if_false]
  rw [hm, Int.toNat_natCast, Nat.add_sub_cancel]

set_option maxRecDepth 100000 in
set_option maxHeartbeats 2000000 in
theorem anc1_in (T : List Nd) (hup : UpOk T) (h64 : T.length ≤ 64) (v : Value) (n : Nat) (hn : n < T.length) (l Bn Bt n₀ : Nat) (w2 : World) (hn₀ : n₀ = w2.heap.size) (hT : TreeAt w2 v T)
    (hBn : w2.cell? ⟨Bn, 0, none⟩ = some (.int .i64 n)) (hBt : w2.cell? ⟨Bt, 0, none⟩ = some v) (J Jx : List Nat → World → Prop)
    (hY : ∀ pre x W, J pre W → pre.length < T.length → YieldAt Fence.wide 4 Tryz.prog l #[.int .i64 ((x : Nat) : Int)] W fun e W' =>
      (e = .returned (.bool true) ∧ J (pre ++ [x]) W' ∧ Below n₀ W W') ∨ (e = .returned (.bool false) ∧ Jx (pre ++ [x]) W'))
    (W : World) (hW : Below w2.heap.size w2 W) (hJ : AbidesFrom W.heap.size J) (h0 : J [] W) :
    CallsIn Fence.wide 5 Tryz.prog 192 #[.func (.yield l) #[] #[], .pointer (some ⟨Bn, 0, none⟩), .pointer (some ⟨Bt, 0, none⟩)] W fun e W' => (∃ v, e = .returned v) ∧
      ((∃ ys, ys = ups T T.length n ∧ J ys W') ∨ (∃ pre, pre <+: ups T T.length n ∧ Jx pre W')) := by
  obtain ⟨b, off, cap, rfl, hc⟩ := hT.at (by omega)
  have cBn := cell_below hW hBn
  have cBt := cell_below hW hBt
  have HT : Hid (∀ n, n < T.length → ∃ kv av, NodeAt w2 b (off + n * 7) (nd T n) kv av) := hc
  have HU : Hid (UpOk T) := hup
  have HBt : Hid (w2.cell? ⟨Bt, 0, none⟩ = some (.slice (some ⟨b, off, none⟩) T.length cap)) := hBt
  clear hc hup hT hBt hBn
  refine callsIn_of_wp Tryz.func192 rfl trivial ?_ rfl
  simp only [Tryz.ntmps192, List.size_toArray, List.length_cons, List.length_nil, Nat.reduceAdd, Nat.reduceSub, Array.replicate_succ, Array.replicate_zero, List.push_toArray, List.append_toArray, List.nil_append, List.cons_append]
  gi_wp2
  gi_loopw [4, 8] (fun t i wr => ∃ (k at_ : Nat) (pre : List Nat), k ≤ T.length ∧ i = .int .i64 k ∧ t = .int .i64 (at_ : Int) ∧ at_ < T.length ∧ pre.length = k ∧ ups T T.length n = pre ++ ups T (T.length - k) at_ ∧ J pre wr ∧ Below w2.heap.size w2 wr)
    (fun _ i _ => T.length - (intOf i).toNat)
  case atStart => exact ⟨0, n, [], Nat.zero_le _, rfl, rfl, hn, rfl, rfl, h0, hW⟩
  case round =>
    obtain ⟨k, at_, pre, hk, rfl, rfl, hat, hpl, hups, hJs, hB⟩ := hrel
    have HP : Hid (ups T T.length n = pre ++ ups T (T.length - k) at_) := hups
    have cBt' := cell_below hB HBt.out
    clear hups cBt cBn
    by_cases hlt : k < T.length
    · obtain ⟨kv, av, hN⟩ := HT.out at_ hat
      have hN' := hN.below hB
      have g0 := hN'.kind
      have g1 := hN'.tag
      have g2 := hN'.parent
      have g3 := hN'.kidsc
      have g4 := hN'.host
      have g5 := hN'.root
      have g6 := hN'.attrsc
      clear hN hN'
      have hJ2 : J pre (wr.alloc (.cells #[.int .i64 (nd T at_).kind, .int .i64 (nd T at_).tag, .int .i64 (nd T at_).parent, kv, .int .i64 (nd T at_).host, .int .i64 (nd T at_).root, av] 57)) :=
        hJ pre wr _ none hJs (World.grownBy_alloc wr _ none) (fun r e => by cases e)
      have hB2 : Below w2.heap.size w2 (wr.alloc (.cells #[.int .i64 (nd T at_).kind, .int .i64 (nd T at_).tag, .int .i64 (nd T at_).parent, kv, .int .i64 (nd T at_).host, .int .i64 (nd T at_).root, av] 57)) := hB.alloc hB.size _
      cases ho : (overI (nd T at_) == -1)
      · have hnode : isNodeB T.length (overI (nd T at_)) = true := by
          rcases HU.out at_ hat with h | h
          · rw [ho] at h; cases h
          · exact h
        simp only [isNodeB, Bool.and_eq_true, decide_eq_true_eq] at hnode
        obtain ⟨m, hm⟩ : ∃ m : Nat, overI (nd T at_) = m := ⟨(overI (nd T at_)).toNat, by omega⟩
        have hmlt : m < T.length := by omega
        have HO : Hid (ups T (T.length - k) at_ = m :: ups T (T.length - k - 1) m) := ups_some (by omega) ho hm
        obtain ⟨fn, tmps, assign, body, hy, hR⟩ := hY pre m _ hJ2 (by omega)
        rw [hm] at ho
        clear hnode
        gi_wp2_with (refine ⟨trivial, ?_⟩; gi_at_call 193; refine (callsIn_wide.2 (over_any _ _ _ _)).mono ?_; rintro e w1 ⟨rfl, rfl⟩)
        refine hR.mono ?_
        rintro e W3 (⟨rfl, hJ3, hk3⟩ | ⟨rfl, hJx3⟩)
        · subst hn₀
          gi_wp2
          go_roundw
          case rel =>
            refine ⟨k + 1, m, pre ++ [m], by omega, by go_num, rfl, hmlt, by simp; omega, ?_, hJ3, hB2.trans hk3⟩
            rw [HP.out, HO.out, show T.length - (k + 1) = T.length - k - 1 by omega]
            simp
          case measure => simp [intOf]; omega
        · gi_wp2
          refine bodyPost_ret (results_none rfl _ _ _) rfl ?_
          exact ⟨⟨_, rfl⟩, .inr ⟨pre ++ [m], ⟨ups T (T.length - k - 1) m, by rw [HP.out, HO.out]; simp⟩, hJx3⟩⟩
      · gi_wp2_with (refine ⟨trivial, ?_⟩; gi_at_call 193; refine (callsIn_wide.2 (over_any _ _ _ _)).mono ?_; rintro e w1 ⟨rfl, rfl⟩)
        refine ⟨fun _ h => (by cases h), ?_⟩
        gi_wp2
        refine bodyPost_ret (results_none rfl _ _ _) rfl ?_
        exact ⟨⟨_, rfl⟩, .inl ⟨pre, by rw [HP.out, ups_none ho, List.append_nil], hJ2⟩⟩
    · have hke : k = T.length := by omega
      gi_wp2
      go_end0
      exact ⟨⟨_, rfl⟩, .inl ⟨pre, by rw [HP.out, hke, Nat.sub_self]; simp [ups], hJs⟩⟩
end Go.Proofs.YtclhimodopgeoaaGreat

namespace Go.Proofs.YtclhimodopgeoaaGreat
open Go.RowKit

theorem isNodeB_true' {len : Nat} {n : Int} (h : isNodeB len n = true) : ∃ m : Nat, n = m ∧ m < len := by
  simp only [isNodeB, Bool.and_eq_true, decide_eq_true_eq] at h
  exact ⟨n.toNat, by omega, by omega⟩

def kidBad (T : List Nd) (p : Nat) (P : Nat → Bool) (k : Int) : Bool :=
  !isNodeB T.length k || !canBeKidB (nd T k.toNat).kind || (nd T k.toNat).parent != (p : Int) || P k.toNat
def setP (P : Nat → Bool) (k : Nat) : Nat → Bool := fun j => P j || j == k
def kidsRun (T : List Nd) (p : Nat) : List Int → (Nat → Bool) → Option (Nat → Bool)
  | [], P => some P
  | k :: l, P => if kidBad T p P k then none else kidsRun T p l (setP P k.toNat)
def nodeRun (T : List Nd) (n : Nat) (P : Nat → Bool) : Option (Nat → Bool) :=
  if (nd T n).kind == 2 && decide (0 < (nd T n).kids.length) then none else kidsRun T n (nd T n).kids P
def nodesFrom (T : List Nd) : Nat → Nat → (Nat → Bool) → Option (Nat → Bool)
  | 0, _, P => some P
  | m + 1, n, P => match nodeRun T n P with | some P' => nodesFrom T m (n + 1) P' | none => none
def allB (k : Nat) (p : Nat → Bool) : Bool := (List.range k).all p
theorem allB_succ (k : Nat) (p : Nat → Bool) : allB (k + 1) p = (allB k p && p k) := by simp [allB, List.range_succ]
theorem allB_false {k : Nat} {p : Nat → Bool} {j : Nat} (hj : j < k) (h : p j = false) : allB k p = false := by
  simp only [allB, List.all_eq_false, List.mem_range]
  exact ⟨j, hj, by simp [h]⟩
theorem allB_true {k : Nat} {p : Nat → Bool} : allB k p = true ↔ ∀ j, j < k → p j = true := by simp [allB]
def looseB (T : List Nd) (P : Nat → Bool) (n : Nat) : Bool := !(!P n && (nd T n).parent != -1)
def kidsFitB (T : List Nd) : Bool :=
  match nodesFrom T T.length 0 (fun _ => false) with
  | none => false
  | some P => allB T.length (looseB T P)

theorem kids_drop {T : List Nd} {p : Nat} {l : List Int} {m : Nat} (h : m < l.length) (P : Nat → Bool) :
    kidsRun T p (l.drop m) P = if kidBad T p P (l.getD m 0) then none else kidsRun T p (l.drop (m + 1)) (setP P (l.getD m 0).toNat) := by
  rw [List.drop_eq_getElem_cons h, kidsRun, List.getD_eq_getElem?_getD, List.getElem?_eq_getElem h, Option.getD_some]

/-- The array of what has been placed. -/
def Placed (w : World) (B : Nat) (P : Nat → Bool) : Prop := ∀ j, j < 64 → w.cell? ⟨B, j, none⟩ = some (.bool (P j)) ∧ w.frozen? ⟨B, j, none⟩ = false

theorem Placed.below {w w' : World} {B : Nat} {P : Nat → Bool} (h : Placed w B P) {K : Nat} (hb : Below K w w') (hB : B < K) : Placed w' B P :=
  fun j hj => ⟨(hb.cell (p := ⟨B, j, none⟩) hB).trans (h j hj).1, (hb.frozen (p := ⟨B, j, none⟩) hB).trans (h j hj).2⟩

theorem nodesFrom_step {T : List Nd} {k : Nat} (h : k < T.length) (P : Nat → Bool) :
    nodesFrom T (T.length - k) k P = match nodeRun T k P with | some P' => nodesFrom T (T.length - (k + 1)) (k + 1) P' | none => none := by
  rw [show T.length - k = (T.length - (k + 1)) + 1 by omega, nodesFrom]
theorem kidsFit_none {T : List Nd} {k : Nat} {P : Nat → Bool} (h : k < T.length) (hr : nodesFrom T (T.length - k) k P = nodesFrom T T.length 0 (fun _ => false)) (hn : nodeRun T k P = none) : kidsFitB T = false := by
  rw [nodesFrom_step h, hn] at hr
  simp only [kidsFitB, ← hr]
theorem kidsFit_some {T : List Nd} {P : Nat → Bool} (hr : nodesFrom T (T.length - T.length) T.length P = nodesFrom T T.length 0 (fun _ => false)) : kidsFitB T = allB T.length (looseB T P) := by
  rw [Nat.sub_self, nodesFrom] at hr
  simp only [kidsFitB, ← hr]
theorem nodes_next {T : List Nd} {k : Nat} {P P' : Nat → Bool} {z : Option (Nat → Bool)} (h : k < T.length) (hr : nodesFrom T (T.length - k) k P = z) (hn : nodeRun T k P = some P') :
    nodesFrom T (T.length - (k + 1)) (k + 1) P' = z := by
  rw [nodesFrom_step h, hn] at hr
  exact hr
theorem kids_none {T : List Nd} {p m : Nat} {l : List Int} {P : Nat → Bool} {z : Option (Nat → Bool)} (h : m < l.length) (hr : kidsRun T p (l.drop m) P = z) (hb : kidBad T p P (l.getD m 0) = true) : z = none := by
  rw [kids_drop h, if_pos hb] at hr
  exact hr.symm
theorem kids_next {T : List Nd} {p m : Nat} {l : List Int} {P : Nat → Bool} {z : Option (Nat → Bool)} (h : m < l.length) (hr : kidsRun T p (l.drop m) P = z) (hb : kidBad T p P (l.getD m 0) = false) :
    kidsRun T p (l.drop (m + 1)) (setP P (l.getD m 0).toNat) = z := by
  rw [kids_drop h, hb] at hr
  simpa using hr
theorem Placed.set {w : World} {B : Nat} {P : Nat → Bool} (h : Placed w B P) {k : Nat} (_hk : k < 64) : Placed (w.setCell ⟨B, k, none⟩ (.bool true)) B (setP P k) := by
  intro j hj
  obtain ⟨h1, h2⟩ := h j hj
  refine ⟨?_, by rw [World.frozen?_setCell]; exact h2⟩
  by_cases e : j = k
  · subst e
    rw [World.cell?_setCell_same' _ _ _ (by rw [h1]; rfl)]
    simp [setP]
  · have hne : (⟨B, k, none⟩ : Addr) ≠ ⟨B, j, none⟩ := by intro h; injection h with _ h2; exact e h2.symm
    rw [show (w.setCell ⟨B, k, none⟩ (.bool true)).cell? ⟨B, j, none⟩ = w.cell? ⟨B, j, none⟩ from World.cell?_setCell_other _ _ _ _ hne, h1]
    simp [setP, e]

set_option maxRecDepth 100000 in
set_option maxHeartbeats 4000000 in
theorem kidsFit_any (T : List Nd) (v : Value) (w : World) (hT : TreeAt w v T) (h1 : 1 ≤ T.length) (h64 : T.length ≤ 64) (hl : ∀ n, n < T.length → (nd T n).kids.length ≤ 1000000) :
    Calls Tryz.prog 144 #[v] w fun e w' => e = .returned (.bool (kidsFitB T)) ∧ Below w.heap.size w w' := by
  obtain ⟨b, off, cap, rfl, hc⟩ := hT.at (by omega)
  have HC : Hid (∀ n, n < T.length → ∃ kv av, NodeAt w b (off + n * 7) (nd T n) kv av) := hc
  have HL : Hid (∀ n, n < T.length → (nd T n).kids.length ≤ 1000000) := hl
  clear hc hT hl
  go_enter Tryz.func144, Tryz.ntmps144
  go_wp2_with fail
  go_loopw [11] (fun i wr => ∃ (k : Nat) (P : Nat → Bool), k ≤ T.length ∧ i = .int .i64 k ∧ nodesFrom T (T.length - k) k P = nodesFrom T T.length 0 (fun _ => false) ∧
      Below w.heap.size w wr ∧ w.heap.size < wr.heap.size ∧ Placed wr w.heap.size P) (fun i _ => T.length - (intOf i).toNat)
  case atStart =>
    refine ⟨0, fun _ => false, Nat.zero_le _, rfl, rfl, (Below.refl _ w).alloc (Nat.le_refl _) _, by simp, ?_⟩
    intro j hj
    refine ⟨?_, ?_⟩
    · rw [World.cell?_alloc_new]
      show (Array.replicate 64 (Value.bool false))[j]? = _
      rw [Array.getElem?_replicate, if_pos hj]
    · simp
  case round =>
    obtain ⟨k, P, hk, rfl, hrec, hB, hz, hP⟩ := hrel
    have HR : Hid (nodesFrom T (T.length - k) k P = nodesFrom T T.length 0 (fun _ => false)) := hrec
    clear hrec
    by_cases hlt : k < T.length
    · obtain ⟨kv, av, hN⟩ := HC.out k hlt
      obtain ⟨ka, kcap, rfl, hkids⟩ := hN.kids
      obtain ⟨aa, acap, rfl, _⟩ := hN.attrs
      have hbz : b < w.heap.size := below_of_cell hN.kind
      have hbz' : b < wr.heap.size := by omega
      have g0 := (hB.cell (p := ⟨b, off + k * 7, none⟩) hbz).trans hN.kind
      have g1 := (hB.cell (p := ⟨b, off + k * 7 + 1, none⟩) hbz).trans hN.tag
      have g2 := (hB.cell (p := ⟨b, off + k * 7 + 2, none⟩) hbz).trans hN.parent
      have g3 := (hB.cell (p := ⟨b, off + k * 7 + 3, none⟩) hbz).trans hN.kidsc
      have g4 := (hB.cell (p := ⟨b, off + k * 7 + 4, none⟩) hbz).trans hN.host
      have g5 := (hB.cell (p := ⟨b, off + k * 7 + 5, none⟩) hbz).trans hN.root
      have g6 := (hB.cell (p := ⟨b, off + k * 7 + 6, none⟩) hbz).trans hN.attrsc
      have hkl := HL.out k hlt
      have HK : Hid (0 < (nd T k).kids.length → ∃ b off, ka = some ⟨b, off, none⟩ ∧ ∀ j, j < (nd T k).kids.length → w.cell? ⟨b, off + j, none⟩ = some (.int .i64 ((nd T k).kids.getD j 0))) := hkids
      clear hN hkids
      by_cases hbad : ((nd T k).kind == 2) = true ∧ 0 < (nd T k).kids.length
      · obtain ⟨hx, hy⟩ := hbad
        go_wp2_with fail
        go_ret
        exact ⟨ret_bool (kidsFit_none hlt HR.out (by simp only [nodeRun, hx, Bool.true_and]; rw [if_pos (by simpa using hy)])).symm, hB.alloc hB.size _⟩
      · have HN : Hid (nodeRun T k P = kidsRun T k (nd T k).kids P) := by
          show _ = _
          unfold nodeRun
          rw [if_neg (by simpa using hbad)]
        have hor : ((nd T k).kind == 2) = false ∨ (((nd T k).kind == 2) = true ∧ ¬ 0 < (nd T k).kids.length) := by
          cases hx : ((nd T k).kind == 2)
          · exact .inl rfl
          · exact .inr ⟨rfl, fun h => hbad ⟨hx, h⟩⟩
        clear hbad
        rcases hor with hx | ⟨hx, hy⟩
        all_goals
          go_wp2_with fail
          try clear hy
          go_loopw [28] (fun i w2 => ∃ (m : Nat) (P' : Nat → Bool), m ≤ (nd T k).kids.length ∧ i = .int .i64 m ∧ kidsRun T k ((nd T k).kids.drop m) P' = kidsRun T k (nd T k).kids P ∧
            Below w.heap.size w w2 ∧ w.heap.size < w2.heap.size ∧ Placed w2 w.heap.size P') (fun i _ => (nd T k).kids.length - (intOf i).toNat)
          case atStart => exact ⟨0, P, Nat.zero_le _, rfl, rfl, hB.alloc hB.size _, by simp; omega, hP.below (K := wr.heap.size) ((Below.refl _ wr).alloc (Nat.le_refl _) _) hz⟩
          case round =>
            obtain ⟨m, P', hm, rfl, hrec2, hB2, hz2, hP2⟩ := hrel
            have HI : Hid (kidsRun T k ((nd T k).kids.drop m) P' = kidsRun T k (nd T k).kids P) := hrec2
            clear hrec2 g0 g1 g2 g3 g4 g5 g6 hB hz hP hbz'
            by_cases hm2 : m < (nd T k).kids.length
            · obtain ⟨kb, koff, rfl, hkc⟩ := HK.out (by omega)
              have c0 := hkc m hm2
              have q0 := (hB2.cell (p := ⟨kb, koff + m, none⟩) (below_of_cell c0)).trans c0
              generalize hq : (nd T k).kids.getD m 0 = q at q0
              have HQ : Hid ((nd T k).kids.getD m 0 = q) := hq
              clear hkc c0 hq HK
              cases hi : isNodeB T.length q
              · go_wp2_with (first | (go_at_call 165; refine (isNode_any _ _ _ _ _).mono ?_; rintro e w1 ⟨rfl, rfl⟩) | (go_at_call 164; refine (canBeKid_any _ _).mono ?_; rintro e w1 ⟨rfl, rfl⟩))
                go_ret
                exact ⟨ret_bool (kidsFit_none hlt HR.out (HN.out.trans (kids_none hm2 HI.out (by rw [HQ.out]; simp only [kidBad, hi, Bool.not_false, Bool.true_or])))).symm, hB2⟩
              · obtain ⟨j, rfl, hj⟩ := isNodeB_true' hi
                obtain ⟨kv', av', hM⟩ := HC.out j hj
                have m0 := (hB2.cell (p := ⟨b, off + j * 7, none⟩) hbz).trans hM.kind
                have m2 := (hB2.cell (p := ⟨b, off + j * 7 + 2, none⟩) hbz).trans hM.parent
                obtain ⟨p1, p2⟩ := hP2 j (by omega)
                clear hM
                cases hcb : canBeKidB (nd T j).kind
                · go_wp2_with (first | (go_at_call 165; refine (isNode_any _ _ _ _ _).mono ?_; rintro e w1 ⟨rfl, rfl⟩) | (go_at_call 164; refine (canBeKid_any _ _).mono ?_; rintro e w1 ⟨rfl, rfl⟩))
                  go_ret
                  exact ⟨ret_bool (kidsFit_none hlt HR.out (HN.out.trans (kids_none hm2 HI.out (by rw [HQ.out]; simp only [kidBad, Int.toNat_natCast, hcb, Bool.not_false, Bool.true_or, Bool.or_true])))).symm, hB2⟩
                · cases hpa : ((nd T j).parent != (k : Int))
                  · cases hpl : P' j
                    · rw [hpl] at p1
                      go_wp2_with (first | (go_at_call 165; refine (isNode_any _ _ _ _ _).mono ?_; rintro e w1 ⟨rfl, rfl⟩) | (go_at_call 164; refine (canBeKid_any _ _).mono ?_; rintro e w1 ⟨rfl, rfl⟩))
                      go_roundw
                      case rel =>
                        refine ⟨m + 1, setP P' j, by omega, by go_num, ?_, hB2.setCell (p := ⟨w.heap.size, j, none⟩) (Nat.le_refl _) _, by simpa using hz2, hP2.set (by omega)⟩
                        have e := kids_next hm2 HI.out (by rw [HQ.out]; simp only [kidBad, Int.toNat_natCast, hi, hcb, hpa, hpl, Bool.not_true, Bool.or_self])
                        rw [HQ.out, Int.toNat_natCast] at e
                        exact e
                      case measure => simp [intOf]; omega
                    · rw [hpl] at p1
                      go_wp2_with (first | (go_at_call 165; refine (isNode_any _ _ _ _ _).mono ?_; rintro e w1 ⟨rfl, rfl⟩) | (go_at_call 164; refine (canBeKid_any _ _).mono ?_; rintro e w1 ⟨rfl, rfl⟩))
                      go_ret
                      exact ⟨ret_bool (kidsFit_none hlt HR.out (HN.out.trans (kids_none hm2 HI.out (by rw [HQ.out]; simp only [kidBad, Int.toNat_natCast, hpl, Bool.or_true])))).symm, hB2⟩
                  · go_wp2_with (first | (go_at_call 165; refine (isNode_any _ _ _ _ _).mono ?_; rintro e w1 ⟨rfl, rfl⟩) | (go_at_call 164; refine (canBeKid_any _ _).mono ?_; rintro e w1 ⟨rfl, rfl⟩))
                    go_ret
                    exact ⟨ret_bool (kidsFit_none hlt HR.out (HN.out.trans (kids_none hm2 HI.out (by rw [HQ.out]; simp only [kidBad, Int.toNat_natCast, hpa, Bool.true_or, Bool.or_true])))).symm, hB2⟩
            · have HE : Hid (nodeRun T k P = some P') := by
                have e := HI.out
                rw [List.drop_eq_nil_of_le (by omega), kidsRun] at e
                exact HN.out.trans e.symm
              go_wp2_with fail
              go_roundw
              case rel => exact ⟨k + 1, P', by omega, by go_num, nodes_next hlt HR.out HE.out, hB2, hz2, hP2⟩
              case measure => simp [intOf]; omega
    · have hke : k = T.length := by omega
      subst hke
      have HF : Hid (kidsFitB T = allB T.length (looseB T P)) := kidsFit_some HR.out
      clear HR
      go_wp2_with fail
      go_loop [65] (fun i => ∃ n : Nat, n ≤ T.length ∧ i = .int .i64 n ∧ allB n (looseB T P) = true) (fun i => T.length - (intOf i).toNat)
      case atStart => exact ⟨0, Nat.zero_le _, rfl, rfl⟩
      case round =>
        obtain ⟨n, hn, rfl, hall⟩ := hrel
        have HA : Hid (allB n (looseB T P) = true) := hall
        clear hall
        by_cases hlt : n < T.length
        · obtain ⟨kv, av, hN⟩ := HC.out n hlt
          have hbz : b < w.heap.size := below_of_cell hN.kind
          have g2 := (hB.cell (p := ⟨b, off + n * 7 + 2, none⟩) hbz).trans hN.parent
          obtain ⟨p1, p2⟩ := hP n (by omega)
          clear hN
          cases hpl : P n
          · rw [hpl] at p1
            cases hpa : ((nd T n).parent != -1)
            · go_wp2_with fail
              go_round
              case rel => exact ⟨n + 1, by omega, by go_num, by rw [allB_succ, HA.out]; simp only [looseB, hpl, hpa, Bool.not_false, Bool.and_false, Bool.and_self]⟩
              case measure => simp [intOf]; omega
            · go_wp2_with fail
              go_ret
              exact ⟨ret_bool (HF.out.trans (allB_false hlt (by simp only [looseB, hpl, hpa, Bool.not_false, Bool.and_self, Bool.not_true]))).symm, hB⟩
          · rw [hpl] at p1
            go_wp2_with fail
            go_round
            case rel => exact ⟨n + 1, by omega, by go_num, by rw [allB_succ, HA.out]; simp only [looseB, hpl, Bool.not_true, Bool.false_and, Bool.not_false, Bool.and_self]⟩
            case measure => simp [intOf]; omega
        · have hne : n = T.length := by omega
          subst hne
          go_wp2_with fail
          go_ret
          exact ⟨ret_bool (HF.out.trans HA.out).symm, hB⟩
end Go.Proofs.YtclhimodopgeoaaGreat

namespace Go.Proofs.YtclhimodopgeoaaGreat
open Go.RowKit Go.Shelf

attribute [local go_sem] Oper.semAt_some

theorem cell_of_box_l {W : World} {B : Nat} {v : Value} {t : TypeId} (h : W.heap[B]? = some (.cells #[v] t (0, 0))) : W.cell? ⟨B, 0, none⟩ = some v ∧ W.frozen? ⟨B, 0, none⟩ = false := by
  constructor <;> simp [World.cell?, World.frozen?, h]
theorem cell_new_l (W : World) (v : Value) (t : TypeId) : (W.alloc (.cells #[v] t)).cell? ⟨W.heap.size, 0, none⟩ = some v ∧ (W.alloc (.cells #[v] t)).frozen? ⟨W.heap.size, 0, none⟩ = false :=
  cell_of_box_l (World.alloc_heap_new W _)
theorem cell_alloc_l {W : World} {a : Addr} {v : Value} (o : Obj) (h : W.cell? a = some v) : (W.alloc o).cell? a = some v := cell_kept h (World.grownBy_alloc W o none) (fun r e => by cases e)
theorem frozen_alloc_l {W : World} {a : Addr} {v : Value} (o : Obj) (h : W.cell? a = some v) (hf : W.frozen? a = false) : (W.alloc o).frozen? a = false := (frozen_kept h (World.grownBy_alloc W o none) (fun r e => by cases e)).trans hf

theorem anc_stops (T : List Nd) (hup : UpOk T) (h64 : T.length ≤ 64) (v : Value) (n : Nat) (hn : n < T.length) (Bn Bt : Nat) (w2 : World) (hT : TreeAt w2 v T)
    (hBn : w2.cell? ⟨Bn, 0, none⟩ = some (.int .i64 n)) (hBt : w2.cell? ⟨Bt, 0, none⟩ = some v) :
    SeqStopsK Fence.wide 5 Tryz.prog 192 #[.pointer (some ⟨Bn, 0, none⟩), .pointer (some ⟨Bt, 0, none⟩)] (fun x : Nat => #[Value.int .i64 (x : Int)]) (Below w2.heap.size) (fun ys => ys = ups T T.length n) (fun pre => pre <+: ups T T.length n) T.length w2 :=
  fun l J Jx W hW hJ _ hY h0 => anc1_in T hup h64 v n hn l Bn Bt _ w2 rfl hT hBn hBt J Jx hY W hW hJ h0

def isAncB (T : List Nd) (a : Int) (n : Nat) : Bool := (ups T T.length n).any fun x => (x : Int) == a

set_option maxRecDepth 100000 in
set_option maxHeartbeats 2000000 in
theorem isAnc_in (T : List Nd) (hup : UpOk T) (h64 : T.length ≤ 64) (v : Value) (a : Int) (n : Nat) (hn : n < T.length) (w : World) (hT : TreeAt w v T) :
    CallsIn Fence.wide 6 Tryz.prog 167 #[v, .int .i64 a, .int .i64 n] w fun e W' => e = .returned (.bool (isAncB T a n)) ∧ Below w.heap.size w W' := by
  obtain ⟨b, off, cap, hv, hc⟩ := hT.at (by omega)
  clear hc
  have HT : Hid (TreeAt w v T) := hT
  clear hT
  subst hv
  refine callsIn_of_wp_marks Tryz.func167 rfl trivial ?_ rfl
  simp only [Tryz.ntmps167, List.size_toArray, List.length_cons, List.length_nil, Nat.reduceAdd, Nat.reduceSub, Array.replicate_succ, Array.replicate_zero, List.push_toArray, List.append_toArray, List.nil_append, List.cons_append]
  gi_wp2_with (refine ⟨trivial, ?_⟩; gi_at_call 185; refine (anc_in _ _ _ _ _ _).mono ?_; rintro e w' ⟨rfl, rfl⟩)
  have c0 := cell_new_l w (.int .i64 a) 3
  have c1 := cell_new_l (w.alloc (.cells #[.int .i64 a] 3)) (.bool false) 4
  have c2 := cell_new_l ((w.alloc (.cells #[.int .i64 a] 3)).alloc (.cells #[.bool false] 4)) (.slice (some ⟨b, off, none⟩) T.length cap) 23
  have c3 := cell_new_l (((w.alloc (.cells #[.int .i64 a] 3)).alloc (.cells #[.bool false] 4)).alloc (.cells #[.slice (some ⟨b, off, none⟩) T.length cap] 23)) (.int .i64 (n : Int)) 3
  simp only [World.size_alloc] at c1 c2 c3
  have hB0 : Below w.heap.size w ((((w.alloc (.cells #[.int .i64 a] 3)).alloc (.cells #[.bool false] 4)).alloc (.cells #[.slice (some ⟨b, off, none⟩) T.length cap] 23)).alloc (.cells #[.int .i64 (n : Int)] 3)) :=
    ((((Below.refl _ w).alloc (Nat.le_refl _) _).alloc (by simp) _).alloc (by simp; omega) _).alloc (by simp; omega) _
  refine wpIn_rangeFunc_ownF rfl (by omega) (gf := 192) (lb := #[.pointer (some ⟨w.heap.size + 1 + 1 + 1, 0, none⟩), .pointer (some ⟨w.heap.size + 1 + 1, 0, none⟩)]) rfl trivial (enters_of Tryz.func192 (by kernel_rfl) rfl)
    (anc_stops T hup h64 _ n hn (w.heap.size + 1 + 1 + 1) (w.heap.size + 1 + 1) _ (HT.out.below hB0) c3.1 (cell_alloc_l _ c2.1)) belowK_t (belowK_b (Nat.le_refl _)) (Below.refl _ _) (fun _ => rfl)
    (fun pre W => ((∀ y ∈ pre, ((y : Int) == a) = false) ∧ W.cell? ⟨w.heap.size, 0, none⟩ = some (.int .i64 a) ∧ W.cell? ⟨w.heap.size + 1, 0, none⟩ = some (.bool false) ∧ W.frozen? ⟨w.heap.size + 1, 0, none⟩ = false) ∧ Below w.heap.size w W)
    (fun c pre W => (c = .ret ∧ (∃ y ∈ pre, ((y : Int) == a) = true) ∧ W.cell? ⟨w.heap.size + 1, 0, none⟩ = some (.bool true)) ∧ Below w.heap.size w W)
    (OwnFrom.and (Own.from (fun s A B row hs hg hr => ⟨hs.1, cell_kept hs.2.1 hg hr, cell_kept hs.2.2.1 hg hr, (frozen_kept hs.2.2.1 hg hr).trans hs.2.2.2⟩) _) (ownFrom_below (Nat.le_refl _) (by simp; omega)))
    (fun c => OwnFrom.and (Own.from (fun s A B row hs hg hr => ⟨hs.1, hs.2.1, cell_kept hs.2.2 hg hr⟩) _) (ownFrom_below (Nat.le_refl _) (by simp; omega)))
    ⟨⟨by simp, cell_alloc_l _ (cell_alloc_l _ (cell_alloc_l _ c0.1)), cell_alloc_l _ (cell_alloc_l _ c1.1), frozen_alloc_l _ (cell_alloc_l _ c1.1) (frozen_alloc_l _ c1.1 c1.2)⟩, hB0⟩
    (fun x => { tmps := #[.slice (some ⟨b, off, none⟩) T.length cap, .int .i64 a, .int .i64 (n : Int), undef, .pointer (some ⟨w.heap.size, 0, none⟩), undef, .pointer (some ⟨w.heap.size + 1, 0, none⟩), .int .i64 (x : Int),
      .slice (some ⟨b, off, none⟩) T.length cap, .int .i64 (n : Int), .func (.func 192) #[] #[.pointer (some ⟨w.heap.size + 1 + 1 + 1, 0, none⟩), .pointer (some ⟨w.heap.size + 1 + 1, 0, none⟩)], .int .i64 (x : Int), undef, undef, undef], defers := [] }) ?assign ?body ?done ?stop
  case assign =>
    intro l x W K hK
    gi_wp2
    exact hK
  case body =>
    rintro l pre x W ⟨⟨hp, hcw, hcr, hfr⟩, hB⟩ _
    gi_wp2
    · rename_i hx
      exact ⟨KeepsOthers.setCell _ _ _, ⟨rfl, ⟨x, List.mem_append.2 (.inr (by simp)), hx⟩, World.cell?_setCell_same' _ _ _ (by rw [hcr]; rfl)⟩, hB.setCell (p := ⟨w.heap.size + 1, 0, none⟩) (by simp) _⟩
    · rename_i hx
      exact ⟨KeepsOthers.refl _, Below.refl _ _, ⟨fun y hy => (List.mem_append.1 hy).elim (hp y) (fun e => by simp at e; subst e; simpa using hx), hcw, hcr, hfr⟩, hB⟩
  case done =>
    rintro D ys W hD rfl ⟨⟨hne, _, hcr, hfr⟩, hB⟩ hK
    gi_wp2
    have hK' := (KeepsOthers.setCell W ⟨w.heap.size + 1, 0, none⟩ (.bool false)).same D _ hK rfl
    refine ⟨by simp, .inl ⟨_, _, rfl, run_takeDeferred hK', ?_⟩⟩
    have hc5 := cell_kept (World.cell?_setCell_same' W ⟨w.heap.size + 1, 0, none⟩ (.bool false) (by rw [hcr]; rfl)) (grownBy_putObj' _ D (.deferred none)) (fun r e => by cases e; exact ⟨_, hK', rfl⟩)
    have hval : isAncB T a n = false := by
      simp only [isAncB, List.any_eq_false]
      intro y hy
      simp [hne y hy]
    refine ⟨.bool false, ?_, by rw [hval], (hB.setCell (p := ⟨w.heap.size + 1, 0, none⟩) (by simp) _).trans (belowK_b (w := w) (Nat.le_refl _) _ D _ _ (by simp at hD; omega) hK' rfl rfl)⟩
    simp [results, Tryz.f167, go_sem, hc5]
  case stop =>
    rintro D c pre W hD hpre ⟨⟨rfl, hin, hcr⟩, hB⟩ hK
    gi_wp2
    refine ⟨by simp, .inl ⟨_, _, rfl, run_takeDeferred hK, ?_⟩⟩
    have hc5 := cell_kept hcr (grownBy_putObj' _ D (.deferred none)) (fun r e => by cases e; exact ⟨_, hK, rfl⟩)
    have hval : isAncB T a n = true := by
      obtain ⟨y, hy, hya⟩ := hin
      simp only [isAncB, List.any_eq_true]
      exact ⟨y, hpre.subset hy, hya⟩
    refine ⟨.bool true, ?_, by rw [hval], hB.trans (belowK_b (w := w) (Nat.le_refl _) W D _ _ (by simp at hD; omega) hK rfl rfl)⟩
    simp [results, Tryz.f167, go_sem, hc5]

theorem isAncestor_any (T : List Nd) (hup : UpOk T) (h64 : T.length ≤ 64) (v : Value) (a : Int) (n : Nat) (hn : n < T.length) (w : World) (hT : TreeAt w v T) :
    Calls Tryz.prog 167 #[v, .int .i64 a, .int .i64 n] w fun e W' => e = .returned (.bool (isAncB T a n)) ∧ Below w.heap.size w W' := callsIn_wide.1 (isAnc_in T hup h64 v a n hn w hT)

def hasLoopB (T : List Nd) : Bool := !allB T.length (fun n => !isAncB T n n)

set_option maxRecDepth 100000 in
set_option maxHeartbeats 1000000 in
theorem hasLoop_any (T : List Nd) (hup : UpOk T) (h1 : 1 ≤ T.length) (h64 : T.length ≤ 64) (v : Value) (w : World) (hT : TreeAt w v T) :
    Calls Tryz.prog 145 #[v] w fun e W' => e = .returned (.bool (hasLoopB T)) ∧ Below w.heap.size w W' := by
  obtain ⟨b, off, cap, hv, hc⟩ := hT.at (by omega)
  clear hc
  have HT : Hid (TreeAt w v T) := hT
  have HU : Hid (UpOk T) := hup
  clear hT hup
  subst hv
  go_enter Tryz.func145, Tryz.ntmps145
  go_wp2_with fail
  go_loopw [6] (fun i wr => ∃ n : Nat, n ≤ T.length ∧ i = .int .i64 n ∧ allB n (fun n => !isAncB T n n) = true ∧ Below w.heap.size w wr) (fun i _ => T.length - (intOf i).toNat)
  case atStart => exact ⟨0, Nat.zero_le _, rfl, rfl, Below.refl _ _⟩
  case round =>
    obtain ⟨n, hn, rfl, hall, hB⟩ := hrel
    have HA : Hid (allB n (fun n => !isAncB T n n) = true) := hall
    clear hall
    by_cases hlt : n < T.length
    · have HTr := HT.out.below hB
      cases hx : isAncB T n n
      · go_wp2_with (go_at_call 167; refine (isAncestor_any T HU.out h64 _ _ n hlt _ HTr).mono ?_; rintro e w1 ⟨rfl, hb1⟩)
        go_roundw
        case rel => exact ⟨n + 1, by omega, by go_num, by rw [allB_succ, HA.out]; simp only [hx, Bool.not_false, Bool.and_self], hB.trans (hb1.mono hB.size)⟩
        case measure => simp [intOf]; omega
      · go_wp2_with (go_at_call 167; refine (isAncestor_any T HU.out h64 _ _ n hlt _ HTr).mono ?_; rintro e w1 ⟨rfl, hb1⟩)
        go_ret
        exact ⟨ret_bool (by unfold hasLoopB; rw [allB_false hlt (by simp only [hx, Bool.not_true])]; rfl), hB.trans (hb1.mono hB.size)⟩
    · have hne : n = T.length := by omega
      subst hne
      go_wp2_with fail
      go_ret
      exact ⟨ret_bool (by unfold hasLoopB; rw [HA.out]; rfl), hB⟩
end Go.Proofs.YtclhimodopgeoaaGreat

namespace Go.Proofs.YtclhimodopgeoaaGreat
open Go.RowKit

def nodeBad (T : List Nd) (n : Nat) : Bool := !kindFitsB (nd T n) n || !hostFitsB T n || !rootFitsB T n || !attrsFrom (nd T n).kind (-1) (nd T n).attrs
def mayB (T : List Nd) : Bool := decide (1 ≤ T.length) && (decide (T.length ≤ 64) && (allB T.length (fun n => !nodeBad T n) && (kidsFitB T && !hasLoopB T)))
/-- No list of a tree is long. -/
def Sane (T : List Nd) : Prop := ∀ n, n < T.length → (nd T n).kids.length ≤ 1000000 ∧ (nd T n).attrs.length ≤ 1000000

theorem kidsRun_placed {T : List Nd} {p : Nat} : ∀ {l : List Int} {P P' : Nat → Bool}, kidsRun T p l P = some P' → ∀ j, P' j = true → P j = true ∨ (nd T j).parent = (p : Int)
  | [], P, P', h, j, hj => by simp only [kidsRun, Option.some.injEq] at h; subst h; exact .inl hj
  | k :: l, P, P', h, j, hj => by
    simp only [kidsRun] at h
    split at h
    · cases h
    · rename_i hb
      rcases kidsRun_placed h j hj with hs | hs
      · simp only [setP, Bool.or_eq_true, beq_iff_eq] at hs
        rcases hs with hs | hs
        · exact .inl hs
        · subst hs
          right
          simp only [kidBad, Bool.or_eq_true, not_or, Bool.not_eq_true, bne_eq_false_iff_eq] at hb
          exact hb.1.2
      · exact .inr hs
theorem nodesFrom_placed {T : List Nd} : ∀ {m n : Nat} {P P' : Nat → Bool}, nodesFrom T m n P = some P' → ∀ j, P' j = true → P j = true ∨ ∃ p, p < n + m ∧ (nd T j).parent = (p : Int)
  | 0, n, P, P', h, j, hj => by simp only [nodesFrom, Option.some.injEq] at h; subst h; exact .inl hj
  | m + 1, n, P, P', h, j, hj => by
    simp only [nodesFrom] at h
    split at h
    · rename_i P1 h1
      rcases nodesFrom_placed h j hj with hs | ⟨p, hp, hs⟩
      · unfold nodeRun at h1
        split at h1
        · cases h1
        · rcases kidsRun_placed h1 j hs with ht | ht
          · exact .inl ht
          · exact .inr ⟨n, by omega, ht⟩
      · exact .inr ⟨p, by omega, hs⟩
    · cases h

theorem upOk_of {T : List Nd} (h1 : allB T.length (fun n => !nodeBad T n) = true) (h2 : kidsFitB T = true) : UpOk T := by
  intro n hn
  have hb := allB_true.1 h1 n hn
  simp only [nodeBad, Bool.not_eq_true', Bool.or_eq_false_iff, Bool.not_eq_false'] at hb
  obtain ⟨⟨⟨_, hh⟩, _⟩, _⟩ := hb
  unfold overI
  cases hk : ((nd T n).kind == 3)
  · simp only [Bool.false_eq_true, if_false]
    unfold kidsFitB at h2
    split at h2
    · cases h2
    · rename_i P hP
      have hl := allB_true.1 h2 n hn
      simp only [looseB, Bool.not_eq_true', Bool.and_eq_false_iff, Bool.not_eq_false', bne_eq_false_iff_eq] at hl
      rcases hl with hl | hl
      · rcases nodesFrom_placed hP n hl with h | ⟨p, hp, h⟩
        · cases h
        · right
          rw [h]
          simp only [isNodeB, Bool.and_eq_true, decide_eq_true_eq]
          omega
      · left
        simpa using hl
  · simp only [if_true]
    unfold hostFitsB at hh
    have hk' : ((nd T n).kind != 3) = false := by simp only [bne, hk, Bool.not_true]
    simp only [hk', Bool.false_eq_true, if_false, Bool.and_eq_true] at hh
    exact .inr hh.1.1

set_option maxRecDepth 100000 in
set_option maxHeartbeats 2000000 in
theorem mayBe_any (T : List Nd) (hS : Sane T) (v : Value) (w : World) (hT : TreeAt w v T) :
    Calls Tryz.prog 110 #[v] w fun e W' => e = .returned (.bool (mayB T)) ∧ Below w.heap.size w W' := by
  have HT : Hid (TreeAt w v T) := hT
  have HS : Hid (Sane T) := hS
  obtain ⟨a, cap, rfl, _⟩ := hT
  clear hS
  by_cases h1 : 1 ≤ T.length
  · by_cases h64 : T.length ≤ 64
    · go_enter Tryz.func110, Tryz.ntmps110
      go_wp2_with fail
      go_loopw [14] (fun i wr => ∃ n : Nat, n ≤ T.length ∧ i = .int .i64 n ∧ allB n (fun n => !nodeBad T n) = true ∧ Below w.heap.size w wr) (fun i _ => T.length - (intOf i).toNat)
      case atStart => exact ⟨0, Nat.zero_le _, rfl, rfl, Below.refl _ _⟩
      case round =>
        obtain ⟨n, hn, rfl, hall, hB⟩ := hrel
        have HA : Hid (allB n (fun n => !nodeBad T n) = true) := hall
        have HTr : Hid (TreeAt wr (.slice a T.length cap) T) := HT.out.below hB
        clear hall
        by_cases hlt : n < T.length
        · have hfail : nodeBad T n = true → mayB T = false := fun hb => by
            unfold mayB
            rw [allB_false hlt (by simp only [hb, Bool.not_true])]
            simp
          have HF : Hid (nodeBad T n = true → mayB T = false) := hfail
          clear hfail
          cases hk : kindFitsB (nd T n) n
          · go_wp2_with (go_at_call 140; refine (kindFits_any T _ n _ HTr.out hlt).mono ?_; rintro e w1 ⟨rfl, rfl⟩)
            go_ret
            exact ⟨ret_bool (HF.out (by simp only [nodeBad, hk, Bool.not_false, Bool.true_or])).symm, hB⟩
          · cases hh : hostFitsB T n
            · go_wp2_with (first | (go_at_call 140; refine (kindFits_any T _ n _ HTr.out hlt).mono ?_; rintro e w1 ⟨rfl, rfl⟩) | (go_at_call 141; refine (hostFits_any T _ n _ HTr.out hlt).mono ?_; rintro e w1 ⟨rfl, rfl⟩) | (go_at_call 142; refine (rootFits_any T _ n _ HTr.out hlt).mono ?_; rintro e w1 ⟨rfl, rfl⟩) | (go_at_call 143; refine (attrsFit_any (nd T n) _ _ _ hAt hal).mono ?_; rintro e w1 ⟨rfl, hb1⟩))
              go_ret
              exact ⟨ret_bool (HF.out (by simp only [nodeBad, hh, Bool.not_false, Bool.true_or, Bool.or_true])).symm, hB⟩
            · cases hr : rootFitsB T n
              · go_wp2_with (first | (go_at_call 140; refine (kindFits_any T _ n _ HTr.out hlt).mono ?_; rintro e w1 ⟨rfl, rfl⟩) | (go_at_call 141; refine (hostFits_any T _ n _ HTr.out hlt).mono ?_; rintro e w1 ⟨rfl, rfl⟩) | (go_at_call 142; refine (rootFits_any T _ n _ HTr.out hlt).mono ?_; rintro e w1 ⟨rfl, rfl⟩) | (go_at_call 143; refine (attrsFit_any (nd T n) _ _ _ hAt hal).mono ?_; rintro e w1 ⟨rfl, hb1⟩))
                go_ret
                exact ⟨ret_bool (HF.out (by simp only [nodeBad, hr, Bool.not_false, Bool.true_or, Bool.or_true])).symm, hB⟩
              · obtain ⟨b, off, cap', hv, hc⟩ := HTr.out.at (by omega)
                simp only [Value.slice.injEq, true_and] at hv
                obtain ⟨rfl, rfl⟩ := hv
                obtain ⟨kv, av, hN⟩ := hc n hlt
                have g0 := hN.kind
                have g1 := hN.tag
                have g2 := hN.parent
                have g3 := hN.kidsc
                have g4 := hN.host
                have g5 := hN.root
                have g6 := hN.attrsc
                have hAt := hN.attrs
                have hal := (HS.out n hlt).2
                clear hN hc
                cases ha : attrsFrom (nd T n).kind (-1) (nd T n).attrs
                · go_wp2_with (first | (go_at_call 140; refine (kindFits_any T _ n _ HTr.out hlt).mono ?_; rintro e w1 ⟨rfl, rfl⟩) | (go_at_call 141; refine (hostFits_any T _ n _ HTr.out hlt).mono ?_; rintro e w1 ⟨rfl, rfl⟩) | (go_at_call 142; refine (rootFits_any T _ n _ HTr.out hlt).mono ?_; rintro e w1 ⟨rfl, rfl⟩) | (go_at_call 143; refine (attrsFit_any (nd T n) _ _ _ hAt hal).mono ?_; rintro e w1 ⟨rfl, hb1⟩))
                  go_ret
                  exact ⟨ret_bool (HF.out (by simp only [nodeBad, ha, Bool.not_false, Bool.or_true])).symm, hB.trans (hb1.mono hB.size)⟩
                · go_wp2_with (first | (go_at_call 140; refine (kindFits_any T _ n _ HTr.out hlt).mono ?_; rintro e w1 ⟨rfl, rfl⟩) | (go_at_call 141; refine (hostFits_any T _ n _ HTr.out hlt).mono ?_; rintro e w1 ⟨rfl, rfl⟩) | (go_at_call 142; refine (rootFits_any T _ n _ HTr.out hlt).mono ?_; rintro e w1 ⟨rfl, rfl⟩) | (go_at_call 143; refine (attrsFit_any (nd T n) _ _ _ hAt hal).mono ?_; rintro e w1 ⟨rfl, hb1⟩))
                  go_roundw
                  case rel => exact ⟨n + 1, by omega, by go_num, by rw [allB_succ, HA.out]; simp only [nodeBad, hk, hh, hr, ha, Bool.not_true, Bool.or_self, Bool.not_false, Bool.and_self], hB.trans (hb1.mono hB.size)⟩
                  case measure => simp [intOf]; omega
        · have hne : n = T.length := by omega
          subst hne
          have HM : Hid (mayB T = (kidsFitB T && !hasLoopB T)) := by
            show _ = _
            unfold mayB
            rw [decide_eq_true h1, decide_eq_true h64, HA.out]
            simp
          have hl : ∀ n, n < T.length → (nd T n).kids.length ≤ 1000000 := fun n hn => (HS.out n hn).1
          have HL : Hid (∀ n, n < T.length → (nd T n).kids.length ≤ 1000000) := hl
          clear hl
          cases hkf : kidsFitB T
          · go_wp2_with (go_at_call 144; refine (kidsFit_any T _ _ HTr.out h1 h64 HL.out).mono ?_; rintro e w1 ⟨rfl, hb1⟩)
            go_ret
            exact ⟨ret_bool (by rw [HM.out, hkf]; rfl), hB.trans (hb1.mono hB.size)⟩
          · have HU : Hid (UpOk T) := upOk_of HA.out hkf
            go_wp2_with (first | (go_at_call 144; refine (kidsFit_any T _ _ HTr.out h1 h64 HL.out).mono ?_; rintro e w1 ⟨rfl, hb1⟩; have HT1 : Hid (TreeAt w1 (.slice a T.length cap) T) := HTr.out.below hb1) | (go_at_call 145; refine (hasLoop_any T HU.out h1 h64 _ _ HT1.out).mono ?_; rintro e w2 ⟨rfl, hb2⟩))
            go_ret
            exact ⟨ret_bool (by rw [HM.out, hkf, Bool.true_and]), (hB.trans (hb1.mono hB.size)).trans (hb2.mono (Nat.le_trans hB.size hb1.size))⟩
    · go_enter Tryz.func110, Tryz.ntmps110
      go_wp2_with fail
      go_ret
      exact ⟨ret_bool (by unfold mayB; rw [decide_eq_false h64]; simp), Below.refl _ _⟩
  · go_enter Tryz.func110, Tryz.ntmps110
    go_wp2_with fail
    go_ret
    exact ⟨ret_bool (by unfold mayB; rw [decide_eq_false h1]; rfl), Below.refl _ _⟩

def checkE (T : List Nd) : Int := if mayB T then 0 else 1

set_option maxHeartbeats 400000 in
theorem check_any (T : List Nd) (hS : Sane T) (v : Value) (w : World) (hT : TreeAt w v T) :
    Calls Tryz.prog 63 #[v] w fun e W' => e = .returned (.int .i64 (checkE T)) ∧ Below w.heap.size w W' := by
  have HT : Hid (TreeAt w v T) := hT
  have HS : Hid (Sane T) := hS
  obtain ⟨a, cap, rfl, _⟩ := hT
  clear hS
  cases hm : mayB T
  all_goals
    go_enter Tryz.func63, Tryz.ntmps63
    go_wp2_with (go_at_call 110; refine (mayBe_any T HS.out _ _ HT.out).mono ?_; rintro e w1 ⟨rfl, hb1⟩)
    go_ret
    exact ⟨ret_int (by simp only [checkE, hm, Bool.false_eq_true, if_false, if_true]), hb1⟩
end Go.Proofs.YtclhimodopgeoaaGreat

namespace Go.Proofs.YtclhimodopgeoaaGreat
open Go.RowKit

set_option maxHeartbeats 400000 in
theorem refIs_any (a : Option Addr) (len cap : Nat) (n : Int) (w : World) :
    Calls Tryz.prog 47 #[.slice a len cap, .int .i64 n] w fun e w' => e = .returned (.bool (isNodeB len n)) ∧ w' = w := by
  cases h : decide (0 ≤ n)
  all_goals
    go_enter Tryz.func47, Tryz.ntmps47
    go_wp2
    go_ret
    exact ⟨ret_bool (by simp only [isNodeB, h, Bool.false_and, Bool.true_and]), rfl⟩

def valB (n v : Int) : Bool := decide (attrLow n ≤ v) && decide (v ≤ attrHigh n)
theorem valB_of {n v lo hi : Int} (h1 : attrLow n = lo) (h2 : attrHigh n = hi) : valB n v = (decide (lo ≤ v) && decide (v ≤ hi)) := by rw [valB, h1, h2]

set_option maxHeartbeats 1000000 in
theorem refValue_any (n v : Int) (w : World) :
    Calls Tryz.prog 153 #[.int .i64 n, .int .i64 v] w fun e w' => e = .returned (.bool (valB n v)) ∧ w' = w := by
  by_cases h0 : n = 0
  · subst h0
    cases hv : decide (-2147483648 ≤ v)
    all_goals
      go_enter Tryz.func153, Tryz.ntmps153
      go_wp2
      go_ret
      refine ⟨ret_bool ?_, rfl⟩
      rw [valB_of (lo := -2147483648) (hi := 2147483647) rfl rfl, hv]
      simp [Int.lt_iff_add_one_le] <;> omega
  by_cases h4 : n = 4
  · subst h4
    cases hv : decide (0 ≤ v)
    all_goals
      go_enter Tryz.func153, Tryz.ntmps153
      go_wp2
      go_ret
      refine ⟨ret_bool ?_, rfl⟩
      rw [valB_of (lo := 0) (hi := 2147483647) rfl rfl, hv]
      simp [Int.lt_iff_add_one_le] <;> omega
  by_cases h6 : n = 6
  · subst h6
    cases hv : decide (1 ≤ v)
    all_goals
      go_enter Tryz.func153, Tryz.ntmps153
      go_wp2
      go_ret
      refine ⟨ret_bool ?_, rfl⟩
      rw [valB_of (lo := 1) (hi := 3) rfl rfl, hv]
      simp
  by_cases h9 : n = 9
  · subst h9
    cases hv : decide (0 ≤ v)
    all_goals
      go_enter Tryz.func153, Tryz.ntmps153
      go_wp2
      go_ret
      refine ⟨ret_bool ?_, rfl⟩
      rw [valB_of (lo := 0) (hi := 63) rfl rfl, hv]
      simp
  have e0 : (n == 0) = false := by simp [h0]
  have e4 : (n == 4) = false := by simp [h4]
  have e6 : (n == 6) = false := by simp [h6]
  have e9 : (n == 9) = false := by simp [h9]
  have hlo : attrLow n = 0 := by simp [attrLow, e0, e4, e6]
  have hhi : attrHigh n = 0 := by simp [attrHigh, e0, e4, e6, e9]
  clear h0 h4 h6 h9
  go_enter Tryz.func153, Tryz.ntmps153
  go_wp2
  go_ret
  refine ⟨ret_bool ?_, rfl⟩
  rw [valB_of hlo hhi, Bool.eq_iff_iff]
  simp
  omega

theorem attrFitsB_eq (k n v : Int) : attrFitsB k n v = (!(decide (n < 0) || decide (9 < n) || !valB n v) && (if k == 3 then n == 7 || n == 8 else k == 1 && n != 7 && n != 8)) := by
  rw [attrFitsB, ← valB, Bool.eq_iff_iff]
  simp only [attrKindI]
  by_cases h7 : n = 7 <;> by_cases h8 : n = 8 <;> by_cases hk3 : k = 3 <;> by_cases hk1 : k = 1 <;> simp_all <;> omega

set_option maxHeartbeats 1000000 in
theorem refAttr_any (k n v : Int) (w : World) :
    Calls Tryz.prog 125 #[.int .i64 k, .agg #[.int .i64 n, .int .i64 v]] w fun e w' => e = .returned (.bool (attrFitsB k n v)) ∧ Below w.heap.size w w' := by
  have hB : ∀ o, Below w.heap.size w (w.alloc o) := fun o => (Below.refl _ w).alloc (Nat.le_refl _) o
  rw [attrFitsB_eq]
  cases h1 : decide (n < 0)
  · cases h2 : decide (9 < n)
    · cases h3 : valB n v
      · go_enter Tryz.func125, Tryz.ntmps125
        go_wp2_with (go_at_call 153; refine (refValue_any _ _ _).mono ?_; rintro e w1 ⟨rfl, rfl⟩)
        all_goals (go_ret; exact ⟨ret_bool (by simp), hB _⟩)
      · cases hk : (k == 3)
        · cases hk1 : (k == 1)
          · go_enter Tryz.func125, Tryz.ntmps125
            go_wp2_with (go_at_call 153; refine (refValue_any _ _ _).mono ?_; rintro e w1 ⟨rfl, rfl⟩)
            all_goals (go_ret; exact ⟨ret_bool (by simp), hB _⟩)
          · cases h7 : (n != 7)
            all_goals
              go_enter Tryz.func125, Tryz.ntmps125
              go_wp2_with (go_at_call 153; refine (refValue_any _ _ _).mono ?_; rintro e w1 ⟨rfl, rfl⟩)
              all_goals (go_ret; exact ⟨ret_bool (by simp), hB _⟩)
        · cases h7 : (n == 7)
          all_goals
            go_enter Tryz.func125, Tryz.ntmps125
            go_wp2_with (go_at_call 153; refine (refValue_any _ _ _).mono ?_; rintro e w1 ⟨rfl, rfl⟩)
            all_goals (go_ret; exact ⟨ret_bool (by simp), hB _⟩)
    · go_enter Tryz.func125, Tryz.ntmps125
      go_wp2_with (go_at_call 153; refine (refValue_any _ _ _).mono ?_; rintro e w1 ⟨rfl, rfl⟩)
      all_goals (go_ret; exact ⟨ret_bool (by simp), hB _⟩)
  · go_enter Tryz.func125, Tryz.ntmps125
    go_wp2_with (go_at_call 153; refine (refValue_any _ _ _).mono ?_; rintro e w1 ⟨rfl, rfl⟩)
    all_goals (go_ret; exact ⟨ret_bool (by simp), hB _⟩)

def countN (l : List Int) (n : Int) : Nat := (l.filter (fun x => x == n)).length
theorem countN_take {l : List Int} {k : Nat} (h : k < l.length) (n : Int) : countN (l.take (k + 1)) n = countN (l.take k) n + if l.getD k 0 == n then 1 else 0 := by
  rw [List.take_succ_eq_append_getElem h, countN, List.filter_append, List.length_append, ← countN]
  have : l.getD k 0 = l[k] := by rw [List.getD_eq_getElem?_getD, List.getElem?_eq_getElem h]; rfl
  rw [this]
  cases hx : (l[k] == n) <;> simp [hx]
theorem countN_le (l : List Int) (n : Int) : countN l n ≤ l.length := List.length_filter_le _ _

set_option maxRecDepth 100000 in
set_option maxHeartbeats 1000000 in
theorem refCount_any (l : List Int) (v : Value) (n : Int) (w : World) (hI : IntsAt w v l) (hl : l.length ≤ 1000000) :
    Calls Tryz.prog 126 #[v, .int .i64 n] w fun e w' => e = .returned (.int .i64 (countN l n)) ∧ w' = w := by
  obtain ⟨a, cap, rfl, hc⟩ := hI
  go_enter Tryz.func126, Tryz.ntmps126
  go_wp2_with fail
  go_loopw [5, 6] (fun c i wr => ∃ k : Nat, k ≤ l.length ∧ i = .int .i64 k ∧ wr = w ∧ c = .int .i64 (countN (l.take k) n)) (fun _ i _ => l.length - (intOf i).toNat)
  case atStart => exact ⟨0, Nat.zero_le _, rfl, rfl, rfl⟩
  case round =>
    obtain ⟨k, hk, rfl, rfl, rfl⟩ := hrel
    by_cases hlt : k < l.length
    · obtain ⟨b, off, rfl, hd⟩ := hc (by omega)
      have c1 := hd k hlt
      have hst := countN_take hlt n
      have hcl := countN_le (l.take k) n
      rw [List.length_take] at hcl
      clear hd hc
      generalize l.getD k 0 = x at *
      have HS : Hid (countN (l.take (k + 1)) n = countN (l.take k) n + if x == n then 1 else 0) := hst
      clear hst
      generalize hcc : countN (l.take k) n = c at *
      clear hcc
      have hc6 : c ≤ 1000000 := by omega
      cases hx : (x == n)
      · go_wp2_with fail
        go_roundw
        case rel => exact ⟨k + 1, by omega, by go_num, by rw [HS.out, hx]; simp⟩
        case measure => simp [intOf]; omega
      · go_wp2_with fail
        go_roundw
        case rel => exact ⟨k + 1, by omega, by go_num, by rw [HS.out, hx]; simp⟩
        case measure => simp [intOf]; omega
    · clear hc
      go_wp2_with fail
      go_ret
      exact ⟨ret_int (by rw [List.take_of_length_le (by omega)]), rfl⟩

set_option maxHeartbeats 800000 in
theorem refUp_any (T : List Nd) (v : Value) (n : Nat) (w : World) (hT : TreeAt w v T) (hn : n < T.length) (hT6 : T.length ≤ 1000000) :
    Calls Tryz.prog 127 #[v, .int .i64 n] w fun e w' => e = .returned (.int .i64 (overI (nd T n))) ∧ w' = w := by
  obtain ⟨b, off, cap, rfl, hc⟩ := hT.at (by omega)
  obtain ⟨kv, av, hN⟩ := hc n hn
  have c0 := hN.kind
  have c2 := hN.parent
  have c4 := hN.host
  clear hN hc hT
  cases h3 : ((nd T n).kind == 3)
  all_goals
    go_enter Tryz.func127, Tryz.ntmps127
    go_wp2_with fail
    go_ret
    exact ⟨ret_int (by simp [overI, h3]), rfl⟩

theorem kindFitsB_eq (x : Nd) (n : Nat) : kindFitsB x n = (!((x.kind == 0) != ((n : Int) == 0) || decide (x.kind < 0) || decide (3 < x.kind)) && (if x.kind == 1 then decide (0 ≤ x.tag) && decide (x.tag ≤ 4) else x.tag == 0)) := by
  rw [kindFitsB, tagFitsB]
  generalize (if (x.kind == 1) = true then decide (0 ≤ x.tag) && decide (x.tag ≤ 4) else x.tag == 0) = t
  rw [canBeKidB]
  generalize x.kind = k
  cases t
  · simp
  · by_cases h0 : n = 0
    · subst h0
      by_cases hk : k = 0
      · subst hk; rfl
      · have e : (k == 0) = false := by simp [hk]
        simp [e]
    · have e : ((n : Int) == 0) = false := by simp; omega
      rw [e, Bool.eq_iff_iff]
      simp
      omega

set_option maxHeartbeats 1000000 in
theorem refKind_any (x : Nd) (kv av : Value) (n : Nat) (w : World) :
    Calls Tryz.prog 90 #[.agg #[.int .i64 x.kind, .int .i64 x.tag, .int .i64 x.parent, kv, .int .i64 x.host, .int .i64 x.root, av], .int .i64 n] w fun e w' =>
      e = .returned (.bool (kindFitsB x n)) ∧ Below w.heap.size w w' := by
  have hB : ∀ o, Below w.heap.size w (w.alloc o) := fun o => (Below.refl _ w).alloc (Nat.le_refl _) o
  rw [kindFitsB_eq]
  generalize x.kind = kd
  generalize x.tag = tg
  cases ha : (kd == 0) <;> cases hb : ((n : Int) == 0)
  · cases h2 : decide (kd < 0)
    · cases h3 : decide (3 < kd)
      · cases h4 : (kd == 1)
        · go_enter Tryz.func90, Tryz.ntmps90
          go_wp2_with fail
          all_goals (go_ret; exact ⟨ret_bool (by simp), hB _⟩)
        · cases h5 : decide (0 ≤ tg)
          all_goals
            go_enter Tryz.func90, Tryz.ntmps90
            go_wp2_with fail
            all_goals (go_ret; exact ⟨ret_bool (by simp), hB _⟩)
      · go_enter Tryz.func90, Tryz.ntmps90
        go_wp2_with fail
        all_goals (go_ret; exact ⟨ret_bool (by simp), hB _⟩)
    · go_enter Tryz.func90, Tryz.ntmps90
      go_wp2_with fail
      all_goals (go_ret; exact ⟨ret_bool (by simp), hB _⟩)
  · go_enter Tryz.func90, Tryz.ntmps90
    go_wp2_with fail
    all_goals (go_ret; exact ⟨ret_bool (by simp), hB _⟩)
  · go_enter Tryz.func90, Tryz.ntmps90
    go_wp2_with fail
    all_goals (go_ret; exact ⟨ret_bool (by simp), hB _⟩)
  · obtain rfl : kd = 0 := by simpa using ha
    go_enter Tryz.func90, Tryz.ntmps90
    go_wp2_with fail
    all_goals (go_ret; exact ⟨ret_bool (by simp), hB _⟩)
end Go.Proofs.YtclhimodopgeoaaGreat
namespace Go.Proofs.YtclhimodopgeoaaGreat
open Go.RowKit

theorem attrsFrom_low {k last : Int} {a : Int × Int} {l : List (Int × Int)} (h : last ≤ -1) : attrsFrom k last (a :: l) = (attrFitsB k a.1 a.2 && attrsFrom k a.1 l) := by
  rw [attrsFrom]
  cases hf : attrFitsB k a.1 a.2
  · simp
  · have : 0 ≤ a.1 := by
      simp only [attrFitsB, Bool.and_eq_true, Bool.not_eq_true', Bool.or_eq_false_iff, decide_eq_false_iff_not] at hf
      omega
    have e : decide (a.1 ≤ last) = false := by simp; omega
    simp [e]

set_option maxRecDepth 100000 in
set_option maxHeartbeats 2000000 in
theorem refAttrs_any (x : Nd) (kv av : Value) (w : World) (hA : AttrsAt w av x.attrs) (hl : x.attrs.length ≤ 1000000) :
    Calls Tryz.prog 91 #[.agg #[.int .i64 x.kind, .int .i64 x.tag, .int .i64 x.parent, kv, .int .i64 x.host, .int .i64 x.root, av]] w fun e w' =>
      e = .returned (.bool (attrsFrom x.kind (-1) x.attrs)) ∧ Below w.heap.size w w' := by
  obtain ⟨a, cap, rfl, hc⟩ := hA
  generalize hattrs : x.attrs = l at *
  generalize x.kind = kd at *
  generalize x.tag = tg at *
  generalize x.parent = pr at *
  generalize x.host = hs at *
  generalize x.root = rt at *
  clear hattrs
  go_enter Tryz.func91, Tryz.ntmps91
  go_wp2_with fail
  go_loopw [3] (fun i wr => ∃ (k : Nat), k ≤ l.length ∧ i = .int .i64 k ∧ attrsFrom kd (if k = 0 then -1 else (l.getD (k - 1) (0, 0)).1) (l.drop k) = attrsFrom kd (-1) l ∧
      Below w.heap.size w wr ∧ w.heap.size < wr.heap.size ∧ wr.cell? ⟨w.heap.size, 0, none⟩ = some (.int .i64 kd) ∧ wr.cell? ⟨w.heap.size, 6, none⟩ = some (.slice a l.length cap)) (fun i _ => l.length - (intOf i).toNat)
  case atStart => exact ⟨0, Nat.zero_le _, rfl, rfl, (Below.refl _ w).alloc (Nat.le_refl _) _, by simp, by simp, by simp⟩
  case round =>
    obtain ⟨k, hk, rfl, hrec, hB, hz, b0, b6⟩ := hrel
    by_cases hlt : k < l.length
    · obtain ⟨b, off, rfl, hd⟩ := hc (by omega)
      obtain ⟨c1, c2⟩ := hd k hlt
      have hbz : b < w.heap.size := below_of_cell c1
      replace c1 := cell_below hB c1
      replace c2 := cell_below hB c2
      have hbz' : b < wr.heap.size := by omega
      have hcc : ∀ (d : Calm wr) (b o : Nat), b < wr.heap.size → d.to.cell? ⟨b, o, none⟩ = wr.cell? ⟨b, o, none⟩ := calmCell
      have HC : Hid (∀ (d : Calm wr) (b o : Nat), b < wr.heap.size → d.to.cell? ⟨b, o, none⟩ = wr.cell? ⟨b, o, none⟩) := hcc
      have HF : Hid (∀ w2, Below wr.heap.size wr w2 → Calls Tryz.prog 125 #[.int .i64 kd, .agg #[.int .i64 (l.getD k (0, 0)).1, .int .i64 (l.getD k (0, 0)).2]] w2 fun e w' => e = .returned (.bool (attrFitsB kd (l.getD k (0, 0)).1 (l.getD k (0, 0)).2)) ∧ Below wr.heap.size wr w') := fun w2 h2 => by
        refine (refAttr_any _ _ _ _).mono ?_
        rintro e w1 ⟨rfl, hb⟩
        exact ⟨rfl, h2.trans (hb.mono h2.size)⟩
      by_cases h0 : k = 0
      · subst h0
        have hst : attrsFrom kd (-1) l = (attrFitsB kd (l.getD 0 (0, 0)).1 (l.getD 0 (0, 0)).2 && attrsFrom kd (l.getD 0 (0, 0)).1 (l.drop 1)) := by
          cases l with
          | nil => simp at hlt
          | cons a l => exact attrsFrom_low (Int.le_refl _)
        clear hrec hd hc
        generalize hA : l.getD 0 (0, 0) = A at *
        obtain ⟨A1, A2⟩ := A
        have HA : Hid (l.getD 0 (0, 0) = (A1, A2)) := hA
        clear hA
        dsimp only at *
        rw [Nat.zero_mul, Nat.add_zero] at c1 c2
        cases hx : attrFitsB kd A1 A2
        · rw [hx] at HF hst
          have HS : Hid (attrsFrom kd (-1) l = false) := hst
          clear hst
          go_wp2_with fail
          refine wp_region_calm (by kernel_rfl) (by kernel_rfl) ?_
          repeat (go_big_quiet_step ((go_at_call 125; refine Calls.mono (HF.out _ (Calm.below _)) ?_; rintro e w1 ⟨rfl, hb⟩; exact ⟨rfl, ⟨w1, hb⟩, rfl⟩)))
          refine wpQuiet_nil ?_
          intro _ hw'
          obtain ⟨dq, hw''⟩ := hw'
          subst hw''
          go_wp2_with fail
          go_ret
          exact ⟨ret_bool (by rw [HS.out]), hB.trans (dq.below.mono hB.size)⟩
        · rw [hx] at HF hst
          have HS : Hid (attrsFrom kd (-1) l = attrsFrom kd A1 (l.drop 1)) := hst
          clear hst
          go_wp2_with fail
          refine wp_region_calm (by kernel_rfl) (by kernel_rfl) ?_
          repeat (go_big_quiet_step ((go_at_call 125; refine Calls.mono (HF.out _ (Calm.below _)) ?_; rintro e w1 ⟨rfl, hb⟩; exact ⟨rfl, ⟨w1, hb⟩, rfl⟩)))
          refine wpQuiet_nil ?_
          intro _ hw'
          obtain ⟨dq, hw''⟩ := hw'
          subst hw''
          go_wp2_with fail
          go_roundw
          case rel =>
            refine ⟨1, by omega, by go_num, ?_, hB.trans (dq.below.mono hB.size), ?_, ?_, ?_⟩
            · rw [HS.out, if_neg (by decide)]; show attrsFrom kd (l.getD 0 (0, 0)).1 (l.drop 1) = _; rw [HA.out]
            · have := dq.below.size; omega
            · rw [HC.out dq _ _ hz]; exact b0
            · rw [HC.out dq _ _ hz]; exact b6
          case measure => simp [intOf]; omega
      · obtain ⟨m, rfl⟩ : ∃ m, k = m + 1 := ⟨k - 1, by omega⟩
        obtain ⟨d1, _⟩ := hd m (by omega)
        replace d1 := cell_below hB d1
        rw [if_neg h0, Nat.add_sub_cancel, attrs_drop hlt] at hrec
        have hm : m < l.length := by omega
        clear hd hc h0
        generalize hA : l.getD (m + 1) (0, 0) = A at *
        obtain ⟨A1, A2⟩ := A
        have HA : Hid (l.getD (m + 1) (0, 0) = (A1, A2)) := hA
        generalize (l.getD m (0, 0)).1 = L1 at *
        clear hA
        dsimp only at *
        cases hx : attrFitsB kd A1 A2
        · rw [hx] at HF hrec
          have HS : Hid (attrsFrom kd (-1) l = false) := by show _ = _; rw [← hrec]; simp
          clear hrec
          go_wp2_with fail
          refine wp_region_calm (by kernel_rfl) (by kernel_rfl) ?_
          repeat (go_big_quiet_step ((go_at_call 125; refine Calls.mono (HF.out _ (Calm.below _)) ?_; rintro e w1 ⟨rfl, hb⟩; exact ⟨rfl, ⟨w1, hb⟩, rfl⟩)))
          refine wpQuiet_nil ?_
          intro _ hw'
          obtain ⟨dq, hw''⟩ := hw'
          subst hw''
          go_wp2_with fail
          go_ret
          exact ⟨ret_bool (by rw [HS.out]), hB.trans (dq.below.mono hB.size)⟩
        · rw [hx] at HF hrec
          have hpos : decide ((0 : Int) < (m : Int) + 1) = true := by simp
          have hsub : (m : Int) + 1 - 1 = m := by omega
          cases hy : decide (A1 ≤ L1)
          · rw [hy] at hrec
            have HS : Hid (attrsFrom kd (-1) l = attrsFrom kd A1 (l.drop (m + 1 + 1))) := by show _ = _; rw [← hrec]; simp
            clear hrec
            go_wp2_with fail
            refine wp_region_calm (by kernel_rfl) (by kernel_rfl) ?_
            repeat (go_big_quiet_step ((go_at_call 125; refine Calls.mono (HF.out _ (Calm.below _)) ?_; rintro e w1 ⟨rfl, hb⟩; exact ⟨rfl, ⟨w1, hb⟩, rfl⟩)))
            refine wpQuiet_nil ?_
            intro _ hw'
            obtain ⟨dq, hw''⟩ := hw'
            subst hw''
            go_wp2_with fail
            go_roundw
            case rel =>
              refine ⟨m + 1 + 1, by omega, by go_num, ?_, hB.trans (dq.below.mono hB.size), ?_, ?_, ?_⟩
              · rw [HS.out, if_neg (by omega)]; show attrsFrom kd (l.getD (m + 1) (0, 0)).1 _ = _; rw [HA.out]
              · have := dq.below.size; omega
              · rw [HC.out dq _ _ hz]; exact b0
              · rw [HC.out dq _ _ hz]; exact b6
            case measure => simp [intOf]; omega
          · rw [hy] at hrec
            have HS : Hid (attrsFrom kd (-1) l = false) := by show _ = _; rw [← hrec]; simp
            clear hrec
            go_wp2_with fail
            refine wp_region_calm (by kernel_rfl) (by kernel_rfl) ?_
            repeat (go_big_quiet_step ((go_at_call 125; refine Calls.mono (HF.out _ (Calm.below _)) ?_; rintro e w1 ⟨rfl, hb⟩; exact ⟨rfl, ⟨w1, hb⟩, rfl⟩)))
            refine wpQuiet_nil ?_
            intro _ hw'
            obtain ⟨dq, hw''⟩ := hw'
            subst hw''
            go_wp2_with fail
            go_ret
            exact ⟨ret_bool (by rw [HS.out]), hB.trans (dq.below.mono hB.size)⟩
    · go_wp2
      go_ret
      refine ⟨ret_bool ?_, hB⟩
      rw [← hrec, List.drop_eq_nil_of_le (by omega)]; rfl
end Go.Proofs.YtclhimodopgeoaaGreat
namespace Go.Proofs.YtclhimodopgeoaaGreat
open Go.RowKit

/-- Going up from a node, does one come to nobody? -/
def endsF (T : List Nd) : Nat → Int → Bool
  | 0, _ => false
  | f + 1, n => n == -1 || endsF T f (overI (nd T n.toNat))

theorem overI_ok {T : List Nd} (hup : UpOk T) {n : Nat} (hn : n < T.length) : overI (nd T n) = -1 ∨ ∃ m : Nat, overI (nd T n) = m ∧ m < T.length := by
  rcases hup n hn with h | h
  · exact Or.inl (by simpa using h)
  · exact Or.inr (isNodeB_true h)

set_option maxRecDepth 100000 in
set_option maxHeartbeats 1000000 in
theorem refEnds_any (T : List Nd) (hup : UpOk T) (h64 : T.length ≤ 64) (v : Value) (n : Nat) (hn : n < T.length) (w : World) (hT : TreeAt w v T) :
    Calls Tryz.prog 94 #[v, .int .i64 n] w fun e w' => e = .returned (.bool (endsF T (T.length + 1) n)) ∧ w' = w := by
  have HT : Hid (TreeAt w v T) := hT
  obtain ⟨a, cap, rfl, _⟩ := hT
  have HU : Hid (UpOk T) := hup
  clear hup
  go_enter Tryz.func94, Tryz.ntmps94
  go_wp2_with fail
  go_loopw [1, 5] (fun m i wr => ∃ (k : Nat) (x : Int), k ≤ T.length + 1 ∧ i = .int .i64 k ∧ m = .int .i64 x ∧ wr = w ∧ (x = -1 ∨ ∃ j : Nat, x = j ∧ j < T.length) ∧ endsF T (T.length + 1 - k) x = endsF T (T.length + 1) n) (fun _ i _ => T.length + 1 - (intOf i).toNat)
  case atStart => exact ⟨0, n, Nat.zero_le _, rfl, rfl, rfl, Or.inr ⟨n, rfl, hn⟩, rfl⟩
  case round =>
    obtain ⟨k, x, hk, rfl, rfl, rfl, hx, hrec⟩ := hrel
    have HR : Hid (endsF T (T.length + 1 - k) x = endsF T (T.length + 1) n) := hrec
    clear hrec
    by_cases hlt : k ≤ T.length
    · obtain ⟨f, hf⟩ : ∃ f, T.length + 1 - k = f + 1 := ⟨T.length - k, by omega⟩
      have HF : Hid (T.length + 1 - k = f + 1) := hf
      clear hf
      rcases hx with rfl | ⟨j, rfl, hj⟩
      · go_wp2_with fail
        go_ret
        exact ⟨ret_bool (by rw [← HR.out, HF.out]; rfl), rfl⟩
      · have hne : ((j : Int) == -1) = false := by simp
        have HN : Hid (overI (nd T j) = -1 ∨ ∃ m : Nat, overI (nd T j) = m ∧ m < T.length) := overI_ok HU.out hj
        have HE : Hid (endsF T (T.length + 1 - (k + 1)) (overI (nd T j)) = endsF T (T.length + 1) n) := by
          have e : T.length + 1 - (k + 1) = f := by have := HF.out; omega
          show _ = _
          rw [e, ← HR.out, HF.out, endsF, hne, Int.toNat_natCast]
          rfl
        go_wp2_with (go_at_call 127; refine (refUp_any T _ j _ HT.out hj (by omega)).mono ?_; rintro e w1 ⟨rfl, rfl⟩)
        go_roundw
        case rel => exact ⟨k + 1, _, by omega, by go_num, rfl, trivial, HN.out, HE.out⟩
        case measure => simp [intOf]; omega
    · have hke : T.length + 1 - k = 0 := by omega
      have HK : Hid (T.length + 1 - k = 0) := hke
      clear hke
      go_wp2_with fail
      go_ret
      exact ⟨ret_bool (by rw [← HR.out, HK.out]; rfl), rfl⟩

def shadowB (T : List Nd) (n : Nat) : Bool :=
  if (nd T n).kind == 3 then (nd T n).root == -1 && (nd T n).parent == -1 && isNodeB T.length (nd T n).host && (nd T (nd T n).host.toNat).kind == 1 && (nd T (nd T n).host.toNat).root == (n : Int)
  else (nd T n).host == -1 && ((nd T n).root == -1 || ((nd T n).kind == 1 && isNodeB T.length (nd T n).root && (nd T (nd T n).root.toNat).kind == 3 && (nd T (nd T n).root.toNat).host == (n : Int)))

set_option maxRecDepth 100000 in
set_option maxHeartbeats 2000000 in
theorem refShadow_any (T : List Nd) (v : Value) (n : Nat) (w : World) (hT : TreeAt w v T) (hn : n < T.length) (h64 : T.length ≤ 64) :
    Calls Tryz.prog 93 #[v, .int .i64 n] w fun e w' => e = .returned (.bool (shadowB T n)) ∧ Below w.heap.size w w' := by
  obtain ⟨b, off, cap, rfl, hc⟩ := hT.at (by omega)
  obtain ⟨kv, av, hN⟩ := hc n hn
  obtain ⟨n0, n1, n2, n3, n4, n5, n6, hk, ha⟩ := hN
  obtain ⟨ka, kc, rfl, _⟩ := hk
  obtain ⟨aa, ac, rfl, _⟩ := ha
  have hbz : b < w.heap.size := below_of_cell n0
  have hB : ∀ o, Below w.heap.size w (w.alloc o) := fun o => (Below.refl _ w).alloc (Nat.le_refl _) o
  clear hT
  have HC : Hid (∀ m, m < T.length → ∃ kv av, NodeAt w b (off + m * 7) (nd T m) kv av) := hc
  clear hc
  cases h3 : ((nd T n).kind == 3)
  · cases hh : ((nd T n).host == -1)
    · have hh' : ((nd T n).host != -1) = true := by rw [bne, hh]; rfl
      go_enter Tryz.func93, Tryz.ntmps93
      go_wp2_with fail
      go_ret
      exact ⟨ret_bool (by simp only [shadowB, h3, hh, Bool.false_eq_true, if_false, Bool.false_and]), hB _⟩
    · have hh' : ((nd T n).host != -1) = false := by rw [bne, hh]; rfl
      cases hr : ((nd T n).root == -1)
      · cases h1 : ((nd T n).kind == 1)
        · go_enter Tryz.func93, Tryz.ntmps93
          go_wp2_with (go_at_call 47; refine (refIs_any _ _ _ _ _).mono ?_; rintro e w1 ⟨rfl, rfl⟩)
          go_ret
          exact ⟨ret_bool (by simp only [shadowB, h3, hh, hr, h1, Bool.false_eq_true, if_false, Bool.false_and, Bool.true_and, Bool.false_or]), hB _⟩
        · cases hi : isNodeB T.length (nd T n).root
          · go_enter Tryz.func93, Tryz.ntmps93
            go_wp2_with (go_at_call 47; refine (refIs_any _ _ _ _ _).mono ?_; rintro e w1 ⟨rfl, rfl⟩)
            go_ret
            exact ⟨ret_bool (by simp only [shadowB, h3, hh, hr, h1, hi, Bool.false_eq_true, if_false, Bool.false_and, Bool.true_and, Bool.false_or]), hB _⟩
          · obtain ⟨m, hm, hml⟩ := isNodeB_true hi
            obtain ⟨kv2, av2, hM⟩ := HC.out m hml
            have m0 := hM.kind
            have m4 := hM.host
            clear hM
            have hS : shadowB T n = ((nd T m).kind == 3 && (nd T m).host == (n : Int)) := by
              simp only [shadowB, h3, hh, hr, h1, hi, Bool.false_eq_true, if_false, Bool.true_and, Bool.false_or]
              rw [hm, Int.toNat_natCast]
            rw [hS]
            clear hS
            rw [hm] at n5 hi hr
            cases hk3 : ((nd T m).kind == 3)
            · go_enter Tryz.func93, Tryz.ntmps93
              go_wp2_with (go_at_call 47; refine (refIs_any _ _ _ _ _).mono ?_; rintro e w1 ⟨rfl, rfl⟩)
              go_ret
              exact ⟨ret_bool (by simp), hB _⟩
            · go_enter Tryz.func93, Tryz.ntmps93
              go_wp2_with (go_at_call 47; refine (refIs_any _ _ _ _ _).mono ?_; rintro e w1 ⟨rfl, rfl⟩)
              go_ret
              exact ⟨ret_bool (by simp), hB _⟩
      · go_enter Tryz.func93, Tryz.ntmps93
        go_wp2_with fail
        go_ret
        exact ⟨ret_bool (by simp only [shadowB, h3, hh, hr, Bool.false_eq_true, if_false, Bool.true_and, Bool.true_or]), hB _⟩
  · cases hr : ((nd T n).root == -1)
    · go_enter Tryz.func93, Tryz.ntmps93
      go_wp2_with (go_at_call 47; refine (refIs_any _ _ _ _ _).mono ?_; rintro e w1 ⟨rfl, rfl⟩)
      go_ret
      exact ⟨ret_bool (by simp only [shadowB, h3, hr, if_true, Bool.false_and]), hB _⟩
    · cases hp : ((nd T n).parent == -1)
      · go_enter Tryz.func93, Tryz.ntmps93
        go_wp2_with (go_at_call 47; refine (refIs_any _ _ _ _ _).mono ?_; rintro e w1 ⟨rfl, rfl⟩)
        go_ret
        exact ⟨ret_bool (by simp only [shadowB, h3, hr, hp, if_true, Bool.false_and, Bool.true_and]), hB _⟩
      · cases hi : isNodeB T.length (nd T n).host
        · go_enter Tryz.func93, Tryz.ntmps93
          go_wp2_with (go_at_call 47; refine (refIs_any _ _ _ _ _).mono ?_; rintro e w1 ⟨rfl, rfl⟩)
          go_ret
          exact ⟨ret_bool (by simp only [shadowB, h3, hr, hp, hi, if_true, Bool.false_and, Bool.true_and]), hB _⟩
        · obtain ⟨m, hm, hml⟩ := isNodeB_true hi
          obtain ⟨kv2, av2, hM⟩ := HC.out m hml
          have m0 := hM.kind
          have m5 := hM.root
          clear hM
          have hS : shadowB T n = ((nd T m).kind == 1 && (nd T m).root == (n : Int)) := by
            simp only [shadowB, h3, hr, hp, hi, if_true, Bool.true_and]
            rw [hm, Int.toNat_natCast]
          rw [hS]
          clear hS
          rw [hm] at n4 hi
          cases hk1 : ((nd T m).kind == 1)
          · go_enter Tryz.func93, Tryz.ntmps93
            go_wp2_with (go_at_call 47; refine (refIs_any _ _ _ _ _).mono ?_; rintro e w1 ⟨rfl, rfl⟩)
            go_ret
            exact ⟨ret_bool (by simp), hB _⟩
          · go_enter Tryz.func93, Tryz.ntmps93
            go_wp2_with (go_at_call 47; refine (refIs_any _ _ _ _ _).mono ?_; rintro e w1 ⟨rfl, rfl⟩)
            go_ret
            exact ⟨ret_bool (by simp), hB _⟩
end Go.Proofs.YtclhimodopgeoaaGreat
namespace Go.Proofs.YtclhimodopgeoaaGreat
open Go.RowKit

theorem hideR {p : Prop} (h : p) : Hid p := h

def kidOkB (T : List Nd) (n : Nat) (k : Int) : Bool :=
  isNodeB T.length k && (countN (nd T n).kids k : Int) == 1 && (nd T k.toNat).parent == (n : Int) && ((nd T k.toNat).kind == 1 || (nd T k.toNat).kind == 2)
def refKidsB (T : List Nd) (n : Nat) : Bool :=
  (nd T n).kids.all (kidOkB T n) && !((nd T n).kind == 2 && decide (0 < ((nd T n).kids.length : Int))) && ((nd T n).parent == -1 || (isNodeB T.length (nd T n).parent && (countN (nd T (nd T n).parent.toNat).kids (n : Int) : Int) == 1))

theorem all_false_at {l : List Int} {p : Int → Bool} {k : Nat} (hk : k < l.length) (h : p (l.getD k 0) = false) : l.all p = false := by
  rw [List.all_eq_false]
  refine ⟨l[k], List.getElem_mem hk, ?_⟩
  rw [List.getD_eq_getElem?_getD, List.getElem?_eq_getElem hk, Option.getD_some] at h
  rw [h]; exact Bool.false_ne_true
theorem all_true_of {l : List Int} {p : Int → Bool} (h : ∀ j, j < l.length → p (l.getD j 0) = true) : l.all p = true := by
  rw [List.all_eq_true]
  intro x hx
  obtain ⟨j, hj, rfl⟩ := List.mem_iff_getElem.mp hx
  have := h j hj
  rwa [List.getD_eq_getElem?_getD, List.getElem?_eq_getElem hj, Option.getD_some] at this

set_option maxRecDepth 100000 in
set_option maxHeartbeats 4000000 in
theorem refKids_any (T : List Nd) (hS : Sane T) (v : Value) (n : Nat) (w : World) (hT : TreeAt w v T) (hn : n < T.length) (h64 : T.length ≤ 64) :
    Calls Tryz.prog 92 #[v, .int .i64 n] w fun e w' => e = .returned (.bool (refKidsB T n)) ∧ Below w.heap.size w w' := by
  obtain ⟨b, off, cap, rfl, hc⟩ := hT.at (by omega)
  have HC : Hid (∀ m, m < T.length → ∃ kv av, NodeAt w b (off + m * 7) (nd T m) kv av) := hc
  obtain ⟨kv, av, hN⟩ := hc n hn
  clear hc hT
  obtain ⟨n0, n1, n2, n3, n4, n5, n6, hk, ha⟩ := hN
  have hbz : b < w.heap.size := below_of_cell n0
  have hlen := (hS n hn).1
  have HS : Hid (Sane T) := hS
  clear hS
  have hB : ∀ o, Below w.heap.size w (w.alloc o) := fun o => (Below.refl _ w).alloc (Nat.le_refl _) o
  have HI : Hid (IntsAt w kv (nd T n).kids) := hk
  obtain ⟨ka, kc, rfl, hkc⟩ := hk
  have HK : Hid (0 < (nd T n).kids.length → ∃ b off, ka = some ⟨b, off, none⟩ ∧ ∀ j, j < (nd T n).kids.length → w.cell? ⟨b, off + j, none⟩ = some (.int .i64 ((nd T n).kids.getD j 0))) := hkc
  obtain ⟨aa, ac, rfl, _⟩ := ha
  clear hkc
  -- the end of the function, once all kids are well
  go_enter Tryz.func92, Tryz.ntmps92
  go_wp2_with fail
  go_loopw [6, 7] (fun i _ wr => ∃ k : Nat, k ≤ (nd T n).kids.length ∧ i = .int .i64 k ∧
      wr = w.alloc (.cells #[.int .i64 (nd T n).kind, .int .i64 (nd T n).tag, .int .i64 (nd T n).parent, .slice ka (nd T n).kids.length kc, .int .i64 (nd T n).host, .int .i64 (nd T n).root, .slice aa (nd T n).attrs.length ac] 57) ∧
      (∀ j, j < k → kidOkB T n ((nd T n).kids.getD j 0) = true)) (fun i _ _ => (nd T n).kids.length - (intOf i).toNat)
  case atStart => exact ⟨0, Nat.zero_le _, rfl, rfl, fun j h => by omega⟩
  case round =>
    obtain ⟨k, hk, rfl, rfl, hok⟩ := hrel
    have HO : Hid (∀ j, j < k → kidOkB T n ((nd T n).kids.getD j 0) = true) := hok
    clear hok
    by_cases hlt : k < (nd T n).kids.length
    · obtain ⟨kb, koff, rfl, hd⟩ := HK.out (by omega)
      have c := hd k hlt
      have hkb : kb < w.heap.size := below_of_cell c
      clear hd
      have HF : Hid (kidOkB T n ((nd T n).kids.getD k 0) = false → refKidsB T n = false) := fun h => by rw [refKidsB, all_false_at hlt h]; rfl
      generalize hA : (nd T n).kids.getD k 0 = y at *
      have HA : Hid ((nd T n).kids.getD k 0 = y) := hA
      clear hA
      cases hi : isNodeB T.length y
      · go_wp2_with (first | (go_at_call 47; refine (refIs_any _ _ _ _ _).mono ?_; rintro e w1 ⟨rfl, rfl⟩) | (go_at_call 126; refine (refCount_any _ _ _ _ (HI.out.below (hB _)) hlen).mono ?_; rintro e w1 ⟨rfl, rfl⟩))
        go_ret
        exact ⟨ret_bool (by rw [HF.out (by simp only [kidOkB, hi, Bool.false_and])]), hB _⟩
      · obtain ⟨m, rfl, hml⟩ := isNodeB_true hi
        obtain ⟨kv2, av2, hM⟩ := HC.out m hml
        have m0 := hM.kind
        have m2 := hM.parent
        clear hM
        have HY : Hid (kidOkB T n (m : Int) = ((countN (nd T n).kids m : Int) == 1 && (nd T m).parent == (n : Int) && ((nd T m).kind == 1 || (nd T m).kind == 2))) := by
          show _ = _
          rw [kidOkB, hi, Int.toNat_natCast, Bool.true_and]
        generalize hcn : countN (nd T n).kids m = cn at *
        have HCN : Hid (countN (nd T n).kids m = cn) := hcn
        clear hcn
        cases h1 : ((cn : Int) == 1)
        · have h1' : ((cn : Int) != 1) = true := by rw [bne, h1]; rfl
          go_wp2_with (first | (go_at_call 47; refine (refIs_any _ _ _ _ _).mono ?_; rintro e w1 ⟨rfl, rfl⟩) | (go_at_call 126; refine (refCount_any _ _ _ _ (HI.out.below (hB _)) hlen).mono ?_; rw [HCN.out]; rintro e w1 ⟨rfl, rfl⟩))
          go_ret
          exact ⟨ret_bool (by rw [HF.out (by rw [HY.out, h1]; simp)]), hB _⟩
        · have h1' : ((cn : Int) != 1) = false := by rw [bne, h1]; rfl
          cases h2 : ((nd T m).parent == (n : Int))
          · have h2' : ((nd T m).parent != (n : Int)) = true := by rw [bne, h2]; rfl
            go_wp2_with (first | (go_at_call 47; refine (refIs_any _ _ _ _ _).mono ?_; rintro e w1 ⟨rfl, rfl⟩) | (go_at_call 126; refine (refCount_any _ _ _ _ (HI.out.below (hB _)) hlen).mono ?_; rw [HCN.out]; rintro e w1 ⟨rfl, rfl⟩))
            go_ret
            exact ⟨ret_bool (by rw [HF.out (by rw [HY.out, h2]; simp)]), hB _⟩
          · have h2' : ((nd T m).parent != (n : Int)) = false := by rw [bne, h2]; rfl
            cases h3 : ((nd T m).kind == 1)
            · have h3' : ((nd T m).kind != 1) = true := by rw [bne, h3]; rfl
              cases h4 : ((nd T m).kind == 2)
              · have h4' : ((nd T m).kind != 2) = true := by rw [bne, h4]; rfl
                go_wp2_with (first | (go_at_call 47; refine (refIs_any _ _ _ _ _).mono ?_; rintro e w1 ⟨rfl, rfl⟩) | (go_at_call 126; refine (refCount_any _ _ _ _ (HI.out.below (hB _)) hlen).mono ?_; rw [HCN.out]; rintro e w1 ⟨rfl, rfl⟩))
                go_ret
                exact ⟨ret_bool (by rw [HF.out (by rw [HY.out, h3, h4]; simp)]), hB _⟩
              · have h4' : ((nd T m).kind != 2) = false := by rw [bne, h4]; rfl
                go_wp2_with (first | (go_at_call 47; refine (refIs_any _ _ _ _ _).mono ?_; rintro e w1 ⟨rfl, rfl⟩) | (go_at_call 126; refine (refCount_any _ _ _ _ (HI.out.below (hB _)) hlen).mono ?_; rw [HCN.out]; rintro e w1 ⟨rfl, rfl⟩))
                go_roundw
                case rel =>
                  refine ⟨k + 1, by omega, by go_num, trivial, fun j hj => ?_⟩
                  by_cases h : j = k
                  · subst h; rw [HA.out, HY.out, h1, h2, h4]; simp
                  · exact HO.out j (by omega)
                case measure => simp [intOf]; omega
            · have h3' : ((nd T m).kind != 1) = false := by rw [bne, h3]; rfl
              go_wp2_with (first | (go_at_call 47; refine (refIs_any _ _ _ _ _).mono ?_; rintro e w1 ⟨rfl, rfl⟩) | (go_at_call 126; refine (refCount_any _ _ _ _ (HI.out.below (hB _)) hlen).mono ?_; rw [HCN.out]; rintro e w1 ⟨rfl, rfl⟩))
              go_roundw
              case rel =>
                refine ⟨k + 1, by omega, by go_num, trivial, fun j hj => ?_⟩
                by_cases h : j = k
                · subst h; rw [HA.out, HY.out, h1, h2, h3]; simp
                · exact HO.out j (by omega)
              case measure => simp [intOf]; omega
    · have HR : Hid (refKidsB T n = (!((nd T n).kind == 2 && decide (0 < ((nd T n).kids.length : Int))) && ((nd T n).parent == -1 || (isNodeB T.length (nd T n).parent && (countN (nd T (nd T n).parent.toNat).kids (n : Int) : Int) == 1)))) := by
        show _ = _
        rw [refKidsB, all_true_of (fun j hj => HO.out j (by omega)), Bool.true_and]
      by_cases ht : ((nd T n).kind == 2) = true ∧ 0 < (nd T n).kids.length
      · obtain ⟨ht1, ht2⟩ := ht
        go_wp2_with fail
        go_ret
        exact ⟨ret_bool (by rw [HR.out, ht1, decide_eq_true (by omega)]; rfl), hB _⟩
      · have HT2 : Hid (((nd T n).kind == 2 && decide (0 < ((nd T n).kids.length : Int))) = false) := by
          show _ = _
          cases hk2 : ((nd T n).kind == 2)
          · rfl
          · have : ¬ 0 < (nd T n).kids.length := fun h => ht ⟨hk2, h⟩
            rw [decide_eq_false (by omega)]; rfl
        have HR2 : Hid (refKidsB T n = ((nd T n).parent == -1 || (isNodeB T.length (nd T n).parent && (countN (nd T (nd T n).parent.toNat).kids (n : Int) : Int) == 1))) := by
          show _ = _
          rw [HR.out, HT2.out]; rfl
        clear HR HT2
        -- the two ways past the test of a text's kids
        have hways : ((nd T n).kind == 2) = false ∨ (((nd T n).kind == 2) = true ∧ (nd T n).kids.length = 0) := by
          cases hk2 : ((nd T n).kind == 2)
          · exact Or.inl rfl
          · have : ¬ 0 < (nd T n).kids.length := fun h => ht ⟨hk2, h⟩
            exact Or.inr ⟨rfl, by omega⟩
        clear ht
        cases hp : ((nd T n).parent == -1)
        · cases hi : isNodeB T.length (nd T n).parent
          · have HR3 : Hid (refKidsB T n = false) := by
              show _ = _
              rw [HR2.out, hp, hi]; rfl
            rcases hways with hk2 | ⟨hk2, hk0⟩
            · go_wp2_with (go_at_call 47; refine (refIs_any _ _ _ _ _).mono ?_; rintro e w1 ⟨rfl, rfl⟩)
              go_ret
              exact ⟨ret_bool (by rw [HR3.out]), hB _⟩
            · have hd0 : decide (0 < ((nd T n).kids.length : Int)) = false := decide_eq_false (by omega)
              go_wp2_with (go_at_call 47; refine (refIs_any _ _ _ _ _).mono ?_; rintro e w1 ⟨rfl, rfl⟩)
              go_ret
              exact ⟨ret_bool (by rw [HR3.out]), hB _⟩
          · obtain ⟨m, hm, hml⟩ := isNodeB_true hi
            obtain ⟨kv2, av2, hM⟩ := HC.out m hml
            have m3 := hM.kidsc
            have HCT := refCount_any (nd T m).kids kv2 n _ (hM.kids.below (hB (.cells #[.int .i64 (nd T n).kind, .int .i64 (nd T n).tag, .int .i64 (nd T n).parent, .slice ka (nd T n).kids.length kc, .int .i64 (nd T n).host, .int .i64 (nd T n).root, .slice aa (nd T n).attrs.length ac] 57))) (HS.out m hml).1
            have HR3 : Hid (refKidsB T n = ((countN (nd T m).kids (n : Int) : Int) == 1)) := by
              show _ = _
              rw [HR2.out, hp, hi, hm, Int.toNat_natCast]; rfl
            obtain ⟨ka2, kc2, rfl, _⟩ := hM.kids
            clear hM
            clear HR2
            generalize (nd T n).parent = pp at *
            subst hm
            have HCT := hideR HCT
            rcases hways with hk2 | ⟨hk2, hk0⟩
            · go_wp2_with (first | (go_at_call 47; refine (refIs_any _ _ _ _ _).mono ?_; rintro e w1 ⟨rfl, rfl⟩) | (go_at_call 126; refine HCT.out.mono ?_; rintro e w1 ⟨rfl, rfl⟩))
              go_ret
              exact ⟨ret_bool (by rw [HR3.out]), hB _⟩
            · have hd0 : decide (0 < ((nd T n).kids.length : Int)) = false := decide_eq_false (by omega)
              rw [hk0] at HCT
              go_wp2_with (first | (go_at_call 47; refine (refIs_any _ _ _ _ _).mono ?_; rintro e w1 ⟨rfl, rfl⟩) | (go_at_call 126; refine HCT.out.mono ?_; rintro e w1 ⟨rfl, rfl⟩))
              go_ret
              exact ⟨ret_bool (by rw [HR3.out]), hB _⟩
        · have HR3 : Hid (refKidsB T n = true) := by
            show _ = _
            rw [HR2.out, hp]; rfl
          rcases hways with hk2 | ⟨hk2, hk0⟩
          · go_wp2_with fail
            go_ret
            exact ⟨ret_bool (by rw [HR3.out]), hB _⟩
          · have hd0 : decide (0 < ((nd T n).kids.length : Int)) = false := decide_eq_false (by omega)
            go_wp2_with fail
            go_ret
            exact ⟨ret_bool (by rw [HR3.out]), hB _⟩
end Go.Proofs.YtclhimodopgeoaaGreat
namespace Go.Proofs.YtclhimodopgeoaaGreat
open Go.RowKit

def refNodeB (T : List Nd) (n : Nat) : Bool := kindFitsB (nd T n) n && attrsFrom (nd T n).kind (-1) (nd T n).attrs && refKidsB T n && shadowB T n
def refMayB (T : List Nd) : Bool := decide (1 ≤ T.length) && (decide (T.length ≤ 64) && (allB T.length (refNodeB T) && allB T.length (fun n => endsF T (T.length + 1) n)))

theorem refNode_upOk {T : List Nd} (h : ∀ n, n < T.length → refNodeB T n = true) : UpOk T := by
  intro n hn
  have hx := h n hn
  simp only [refNodeB, Bool.and_eq_true] at hx
  obtain ⟨⟨⟨_, _⟩, hk⟩, hs⟩ := hx
  rw [overI]
  cases h3 : ((nd T n).kind == 3)
  · rw [if_neg (by simp)]
    simp only [refKidsB, Bool.and_eq_true, Bool.or_eq_true] at hk
    rcases hk.2 with h | h
    · exact Or.inl h
    · exact Or.inr h.1
  · rw [if_pos rfl]
    simp only [shadowB, h3, if_true, Bool.and_eq_true] at hs
    exact Or.inr hs.1.1.2

set_option maxRecDepth 100000 in
set_option maxHeartbeats 4000000 in
theorem refMay_any (T : List Nd) (hS : Sane T) (v : Value) (w : World) (hT : TreeAt w v T) :
    Calls Tryz.prog 38 #[v] w fun e w' => e = .returned (.bool (refMayB T)) ∧ Below w.heap.size w w' := by
  have HT : Hid (TreeAt w v T) := hT
  have HS : Hid (Sane T) := hS
  obtain ⟨a, cap, rfl, _⟩ := hT
  clear hS
  by_cases h1 : 1 ≤ T.length
  · by_cases h64 : T.length ≤ 64
    · have HM : Hid (refMayB T = (allB T.length (refNodeB T) && allB T.length (fun n => endsF T (T.length + 1) n))) := by
        show _ = _
        rw [refMayB, decide_eq_true h1, decide_eq_true h64]; rfl
      go_enter Tryz.func38, Tryz.ntmps38
      go_wp2_with fail
      go_loopw [3] (fun i wr => ∃ k : Nat, k ≤ T.length ∧ i = .int .i64 k ∧ Below w.heap.size w wr ∧ (∀ j, j < k → refNodeB T j = true)) (fun i _ => T.length - (intOf i).toNat)
      case atStart => exact ⟨0, Nat.zero_le _, rfl, Below.refl _ _, fun j h => by omega⟩
      case round =>
        obtain ⟨k, hk, rfl, hB, hok⟩ := hrel
        have HO : Hid (∀ j, j < k → refNodeB T j = true) := hok
        clear hok
        by_cases hlt : k < T.length
        · obtain ⟨b, off, cap2, hv, hc⟩ := HT.out.at (by omega)
          obtain ⟨rfl, rfl⟩ : a = some ⟨b, off, none⟩ ∧ cap = cap2 := by simpa using hv
          obtain ⟨kv, av, hN⟩ := hc k hlt
          have HF : Hid (refNodeB T k = false → refMayB T = false) := fun h => by rw [HM.out, allB_false hlt h]; rfl
          have HK : Hid (∀ w2, Below w.heap.size w w2 → Calls Tryz.prog 90 #[.agg #[.int .i64 (nd T k).kind, .int .i64 (nd T k).tag, .int .i64 (nd T k).parent, kv, .int .i64 (nd T k).host, .int .i64 (nd T k).root, av], .int .i64 k] w2 fun e w' => e = .returned (.bool (kindFitsB (nd T k) k)) ∧ Below w.heap.size w w' ∧ NodeAt w' b (off + k * 7) (nd T k) kv av) := fun w2 h2 => by
            refine (refKind_any _ _ _ _ _).mono ?_
            rintro e w' ⟨rfl, hb⟩
            have hb' := h2.trans (hb.mono h2.size)
            exact ⟨rfl, hb', hN.below hb'⟩
          have HA : Hid (∀ w2, Below w.heap.size w w2 → Calls Tryz.prog 91 #[.agg #[.int .i64 (nd T k).kind, .int .i64 (nd T k).tag, .int .i64 (nd T k).parent, kv, .int .i64 (nd T k).host, .int .i64 (nd T k).root, av]] w2 fun e w' => e = .returned (.bool (attrsFrom (nd T k).kind (-1) (nd T k).attrs)) ∧ Below w.heap.size w w') := fun w2 h2 => by
            refine (refAttrs_any _ _ _ _ (hN.attrs.below h2) (HS.out k hlt).2).mono ?_
            rintro e w' ⟨rfl, hb⟩
            exact ⟨rfl, h2.trans (hb.mono h2.size)⟩
          have HD : Hid (∀ w2, Below w.heap.size w w2 → Calls Tryz.prog 92 #[.slice (some ⟨b, off, none⟩) T.length cap, .int .i64 k] w2 fun e w' => e = .returned (.bool (refKidsB T k)) ∧ Below w.heap.size w w') := fun w2 h2 => by
            refine (refKids_any T HS.out _ k w2 (HT.out.below h2) hlt h64).mono ?_
            rintro e w' ⟨rfl, hb⟩
            exact ⟨rfl, h2.trans (hb.mono h2.size)⟩
          have HH : Hid (∀ w2, Below w.heap.size w w2 → Calls Tryz.prog 93 #[.slice (some ⟨b, off, none⟩) T.length cap, .int .i64 k] w2 fun e w' => e = .returned (.bool (shadowB T k)) ∧ Below w.heap.size w w') := fun w2 h2 => by
            refine (refShadow_any T _ k w2 (HT.out.below h2) hlt h64).mono ?_
            rintro e w' ⟨rfl, hb⟩
            exact ⟨rfl, h2.trans (hb.mono h2.size)⟩
          replace hN := hN.below hB
          obtain ⟨n0, n1, n2, n3, n4, n5, n6, _, _⟩ := hN
          clear hc hv
          cases g1 : kindFitsB (nd T k) k
          · rw [g1] at HK
            go_wp2_with (go_at_call 90; refine (HK.out _ hB).mono ?_; rintro e w1 ⟨rfl, hb1, hN1⟩)
            go_ret
            exact ⟨ret_bool (by rw [HF.out (by rw [refNodeB, g1]; rfl)]), hb1⟩
          · rw [g1] at HK
            cases g2 : attrsFrom (nd T k).kind (-1) (nd T k).attrs
            · rw [g2] at HA
              go_wp2_with (first | (go_at_call 90; refine (HK.out _ hB).mono ?_; rintro e w1 ⟨rfl, hb1, ⟨q0, q1, q2, q3, q4, q5, q6, _, _⟩⟩) | (go_at_call 91; refine (HA.out _ hb1).mono ?_; rintro e w2 ⟨rfl, hb2⟩))
              go_ret
              exact ⟨ret_bool (by rw [HF.out (by rw [refNodeB, g1, g2]; rfl)]), hb2⟩
            · rw [g2] at HA
              cases g3 : refKidsB T k
              · rw [g3] at HD
                go_wp2_with (first | (go_at_call 90; refine (HK.out _ hB).mono ?_; rintro e w1 ⟨rfl, hb1, ⟨q0, q1, q2, q3, q4, q5, q6, _, _⟩⟩) | (go_at_call 91; refine (HA.out _ hb1).mono ?_; rintro e w2 ⟨rfl, hb2⟩) | (go_at_call 92; refine (HD.out _ hb2).mono ?_; rintro e w3 ⟨rfl, hb3⟩))
                go_ret
                exact ⟨ret_bool (by rw [HF.out (by rw [refNodeB, g1, g2, g3]; rfl)]), hb3⟩
              · rw [g3] at HD
                cases g4 : shadowB T k
                · rw [g4] at HH
                  go_wp2_with (first | (go_at_call 90; refine (HK.out _ hB).mono ?_; rintro e w1 ⟨rfl, hb1, ⟨q0, q1, q2, q3, q4, q5, q6, _, _⟩⟩) | (go_at_call 91; refine (HA.out _ hb1).mono ?_; rintro e w2 ⟨rfl, hb2⟩) | (go_at_call 92; refine (HD.out _ hb2).mono ?_; rintro e w3 ⟨rfl, hb3⟩) | (go_at_call 93; refine (HH.out _ hb3).mono ?_; rintro e w4 ⟨rfl, hb4⟩))
                  go_ret
                  exact ⟨ret_bool (by rw [HF.out (by rw [refNodeB, g1, g2, g3, g4]; rfl)]), hb4⟩
                · rw [g4] at HH
                  go_wp2_with (first | (go_at_call 90; refine (HK.out _ hB).mono ?_; rintro e w1 ⟨rfl, hb1, ⟨q0, q1, q2, q3, q4, q5, q6, _, _⟩⟩) | (go_at_call 91; refine (HA.out _ hb1).mono ?_; rintro e w2 ⟨rfl, hb2⟩) | (go_at_call 92; refine (HD.out _ hb2).mono ?_; rintro e w3 ⟨rfl, hb3⟩) | (go_at_call 93; refine (HH.out _ hb3).mono ?_; rintro e w4 ⟨rfl, hb4⟩))
                  go_roundw
                  case rel =>
                    refine ⟨k + 1, by omega, by go_num, hb4, fun j hj => ?_⟩
                    by_cases h : j = k
                    · subst h; rw [refNodeB, g1, g2, g3, g4]; rfl
                    · exact HO.out j (by omega)
                  case measure => simp [intOf]; omega
        · have hall : ∀ j, j < T.length → refNodeB T j = true := fun j hj => HO.out j (by omega)
          have HUP : Hid (UpOk T) := refNode_upOk hall
          have HM2 : Hid (refMayB T = allB T.length (fun n => endsF T (T.length + 1) n)) := by
            show _ = _
            rw [HM.out, allB_true.mpr hall]; rfl
          clear hall
          go_wp2_with fail
          go_loopw [4] (fun i ws => ∃ m : Nat, m ≤ T.length ∧ i = .int .i64 m ∧ Below w.heap.size w ws ∧ (∀ j, j < m → endsF T (T.length + 1) j = true)) (fun i _ => T.length - (intOf i).toNat)
          case atStart => exact ⟨0, Nat.zero_le _, rfl, hB, fun j h => by omega⟩
          case round =>
            obtain ⟨m, hm, rfl, hBs, hok2⟩ := hrel
            have HO2 : Hid (∀ j, j < m → endsF T (T.length + 1) j = true) := hok2
            clear hok2
            by_cases hlm : m < T.length
            · cases g : endsF T (T.length + 1) m
              · have HF2 : Hid (refMayB T = false) := by
                  show _ = _
                  rw [HM2.out]; exact allB_false (p := fun n : Nat => endsF T (T.length + 1) n) hlm g
                go_wp2_with (go_at_call 94; refine (refEnds_any T HUP.out h64 _ m hlm _ (HT.out.below hBs)).mono ?_; rw [g]; rintro e w5 ⟨rfl, rfl⟩)
                go_ret
                exact ⟨ret_bool (by rw [HF2.out]), hBs⟩
              · go_wp2_with (go_at_call 94; refine (refEnds_any T HUP.out h64 _ m hlm _ (HT.out.below hBs)).mono ?_; rw [g]; rintro e w5 ⟨rfl, rfl⟩)
                go_roundw
                case rel =>
                  refine ⟨m + 1, by omega, by go_num, hBs, fun j hj => ?_⟩
                  by_cases h : j = m
                  · subst h; exact g
                  · exact HO2.out j (by omega)
                case measure => simp [intOf]; omega
            · have HF3 : Hid (refMayB T = true) := by
                show _ = _
                rw [HM2.out]; exact allB_true.mpr (fun j hj => HO2.out j (by omega))
              go_wp2_with fail
              go_ret
              exact ⟨ret_bool (by rw [HF3.out]), hBs⟩
    · go_enter Tryz.func38, Tryz.ntmps38
      go_wp2_with fail
      go_ret
      exact ⟨ret_bool (by unfold refMayB; rw [decide_eq_false h64]; simp), Below.refl _ _⟩
  · go_enter Tryz.func38, Tryz.ntmps38
    go_wp2_with fail
    go_ret
    exact ⟨ret_bool (by unfold refMayB; rw [decide_eq_false h1]; rfl), Below.refl _ _⟩
end Go.Proofs.YtclhimodopgeoaaGreat

