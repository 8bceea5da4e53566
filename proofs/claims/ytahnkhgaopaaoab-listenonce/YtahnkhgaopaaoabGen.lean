/- What the texts of this seat share, of no program in particular. -/
import Derived.Test.YtahnkhgaopaaoabRows
import Derived.WalkKit
import Derived.WalkSpells
import Derived.WalkLawsBesides
import Derived.BigQuiet
import Derived.Lib.AppendZeros
import Derived.Lib.Overlaps
import Derived.Laws.CopyOwn
import Derived.Deep.RegionLaw
import Derived.Deep.QuietTactic
import Derived.Laws.AppendOwnNone
import Derived.Deep.RegionWith
import Derived.RangeFuncCalls
import Derived.Deep.RegionHeld3
namespace Go.Proofs.Ytahnkhgaopaaoab
open Go.RowKit
theorem hideG {p : Prop} (h : p) : Hid p := h
end Go.Proofs.Ytahnkhgaopaaoab
namespace Go.Proofs.Ytahnkhgaopaaoab
open Go.RowKit

theorem ret_bool {a b : Bool} (h : a = b) : Ending.returned (.bool a) = .returned (.bool b) := by rw [h]
theorem ret_int {k : IntKind} {a b : Int} (h : a = b) : Ending.returned (.int k a) = .returned (.int k b) := by rw [h]

theorem below_of_cell {w : World} {a : Addr} {v : Value} (h : w.cell? a = some v) : a.block < w.heap.size := World.block_lt_of_cell? w a h

theorem cell_below {w w' : World} (hb : Below w.heap.size w w') {a : Addr} {v : Value} (h : w.cell? a = some v) : w'.cell? a = some v :=
  (hb.cell (below_of_cell h)).trans h

end Go.Proofs.Ytahnkhgaopaaoab
namespace Go.Proofs.Ytahnkhgaopaaoab
open Go.RowKit

end Go.Proofs.Ytahnkhgaopaaoab
namespace Go.Proofs.Ytahnkhgaopaaoab
open Go.RowKit

end Go.Proofs.Ytahnkhgaopaaoab
namespace Go.Proofs.Ytahnkhgaopaaoab
open Go.RowKit

end Go.Proofs.Ytahnkhgaopaaoab
namespace Go.Proofs.Ytahnkhgaopaaoab
open Go.RowKit

/-- A world in which all that lay in w still lies. -/
structure Calm (w : World) where
  to : World
  below : Below w.heap.size w to

instance (w : World) : Nonempty (Calm w) := ⟨⟨w, Below.refl _ _⟩⟩

theorem below_drew' {B : Nat} {a w : World} (h : Below B a w) : Below B a w.drew := h.trans ⟨rfl, rfl, rfl, Nat.le_refl _, fun _ _ => rfl⟩
theorem calmCell {w : World} (d : Calm w) (b o : Nat) (h : b < w.heap.size) : d.to.cell? ⟨b, o, none⟩ = w.cell? ⟨b, o, none⟩ := d.below.cell (p := ⟨b, o, none⟩) h

theorem wp_region_calm {P : Program} {id : Nat} {Q : Exit → Act → World → Prop} {a : Act} {w : World} {l : List Oper} (hm : P.follows .mixedOrders = true) (hB : Region.lexB .any l.toArray = true)
    (h : wpQuiet P l.toArray (fun w' => ∃ d : Calm w, w' = d.to) (fun a' => ∀ w', (∃ d : Calm w, w' = d.to) → Q .normal a' w') l a) : (Code.region id l.toArray true).wp P Q a w :=
  wp_region_quiet (C := fun w' => ∃ d : Calm w, w' = d.to) hm hB ⟨⟨w.drew, below_drew' (Below.refl _ _)⟩, rfl⟩ (by simpa using h)

end Go.Proofs.Ytahnkhgaopaaoab

namespace Go.Proofs.Ytahnkhgaopaaoab
open Go.RowKit


theorem cell_of_box_l {W : World} {B : Nat} {v : Value} {t : TypeId} (h : W.heap[B]? = some (.cells #[v] t (0, 0))) : W.cell? ⟨B, 0, none⟩ = some v ∧ W.frozen? ⟨B, 0, none⟩ = false := by
  constructor <;> simp [World.cell?, World.frozen?, h]
theorem cell_new_l (W : World) (v : Value) (t : TypeId) : (W.alloc (.cells #[v] t)).cell? ⟨W.heap.size, 0, none⟩ = some v ∧ (W.alloc (.cells #[v] t)).frozen? ⟨W.heap.size, 0, none⟩ = false :=
  cell_of_box_l (World.alloc_heap_new W _)
theorem cell_alloc_l {W : World} {a : Addr} {v : Value} (o : Obj) (h : W.cell? a = some v) : (W.alloc o).cell? a = some v := cell_kept h (World.grownBy_alloc W o none) (fun r e => by cases e)
theorem frozen_alloc_l {W : World} {a : Addr} {v : Value} (o : Obj) (h : W.cell? a = some v) (hf : W.frozen? a = false) : (W.alloc o).frozen? a = false := (frozen_kept h (World.grownBy_alloc W o none) (fun r e => by cases e)).trans hf

end Go.Proofs.Ytahnkhgaopaaoab

namespace Go.Proofs.Ytahnkhgaopaaoab
open Go.RowKit

end Go.Proofs.Ytahnkhgaopaaoab
namespace Go.Proofs.Ytahnkhgaopaaoab
open Go.RowKit

end Go.Proofs.Ytahnkhgaopaaoab
namespace Go.Proofs.Ytahnkhgaopaaoab
open Go.RowKit
theorem cell_kept' {w : World} {o : Obj} {a : Addr} {v : Value} (h : w.cell? a = some v) : (w.alloc o).cell? a = some v :=
  (World.cell?_alloc_lt _ _ _ (below_of_cell h)).trans h
theorem addr_add (b o j : Nat) : (⟨b, o, none⟩ : Addr).add j = ⟨b, o + j, none⟩ := by unfold Addr.add; split <;> simp_all
theorem ownsRow_base {w : World} {base base' : Nat} {e : TypeId} {size : Nat} {v : Value} {n : Nat} {xs : List Value} (h : w.ownsRow base e size v n xs) (hb : base' ≤ base) : w.ownsRow base' e size v n xs := by
  refine ⟨h.1, ?_⟩
  rcases h.2 with h | ⟨g, cap, cur, a, b, r⟩
  · exact .inl h
  · exact .inr ⟨g, cap, cur, a, by omega, r⟩
theorem ownsRow_below {w w' : World} {base : Nat} {e : TypeId} {size : Nat} {v : Value} {n : Nat} {xs : List Value} {K : Nat} (h : w.ownsRow base e size v n xs) (hb : Below K w w') (hk : ∀ g, v.ownBlock = some g → g < K) : w'.ownsRow base e size v n xs := by
  refine ⟨h.1, ?_⟩
  rcases h.2 with h | ⟨g, cap, cur, rfl, b, hg, r⟩
  · exact .inl h
  · exact .inr ⟨g, cap, cur, rfl, b, by rw [hb.block g (hk g rfl)]; exact hg, r⟩
theorem ownsRow_shape {w : World} {base : Nat} {e : TypeId} {size : Nat} {v : Value} {n : Nat} {xs : List Value} (h : w.ownsRow base e size v n xs) : ∃ a c, v = .slice a n c := by
  rcases h.2 with ⟨rfl, rfl⟩ | ⟨g, cap, cur, rfl, r⟩
  · exact ⟨_, _, rfl⟩
  · exact ⟨_, _, rfl⟩
theorem ownsRow_some {w : World} {base : Nat} {e : TypeId} {size : Nat} {v : Value} {n : Nat} {xs : List Value} (h : w.ownsRow base e size v n xs) (h0 : 0 < n) : ∃ g cap, v = .slice (some ⟨g, 0, none⟩) n cap := by
  rcases h.2 with ⟨_, h1⟩ | ⟨g, cap, cur, hv, _⟩
  · omega
  · exact ⟨g, cap, hv⟩
end Go.Proofs.Ytahnkhgaopaaoab
namespace Go.Proofs.Ytahnkhgaopaaoab
open Go.RowKit

end Go.Proofs.Ytahnkhgaopaaoab
namespace Go.Proofs.Ytahnkhgaopaaoab
open Go.RowKit
variable {P : Program}

theorem step_append_run (w : World) {ops : Array Oper} {o : Oper} {a : Act} {K : Act → World → Prop} {Q : Exit → Act → World → Prop} {E : Prop} (hgd : o.guard = none) (d s : Operand) (dT sT : TypeId)
    (ho : o.op = .call { callee := .builtin .append, args := #[d, s], argTypes := #[dT, sT] }) (vd vs : Value) (hd : a.eval d = vd) (hs : a.eval s = vs)
    (v' : Value) (w' : World) (hr : (Builtin.append_ #[dT, sT] o.type #[vd, vs]).run P w = .ok v' w') (h : K (a.put o.dst v') w') :
    if Region.wanted o (yielded ops a.tmps) = true then Oper.wp P o a w K Q else E := by
  have hw : Region.wanted o (yielded ops a.tmps) = true := by simp [Region.wanted, hgd]
  rw [if_pos hw]
  exact Lib.wp_append_run w d s dT sT ho vd vs hd hs v' w' hr h

/-- append onto a row of one's own; and where the new row lies. -/
theorem append_own_fresh (w : World) (base : Nat) (t ty e : TypeId) (i : TypeInfo) (z : Value) (size bytes : Nat) (ht : P.underlying t = some (.slice e)) (hi : P.info? e = some i) (hz : i.zero = some z)
    (hsize : i.size = size) (hby : i.bytes = bytes) (hzs : z.cells.size = size) (hsz : 0 < size)
    (v : Value) (n : Nat) (xs : List Value) (hown : w.ownsRow base e size v n xs)
    (a : Addr) (m c : Nat) (news : List Value) (hl : news.length = m * size) (hnews : ∀ j u, news[j]? = some u → w.cell? (a.add j) = some u) (h1 : ∀ u ∈ news, u.oneCell' = true)
    (h63 : n + m ≤ maxLen) (hbytes : (n + m) * bytes ≤ 140737488355328) (hbase : base ≤ w.heap.size) :
    ∃ v' w', (Builtin.append_ #[t, t] ty #[v, .slice (some a) m c]).run P w = .ok v' w' ∧ w'.ownsRow base e size v' (n + m) (xs ++ news) ∧ w.grownBy w' v.ownBlock ∧
      (∀ k, v'.ownBlock = some k → v.ownBlock = some k ∨ w.heap.size ≤ k) := by
  obtain ⟨v', w', hr, ho, hg, hnil⟩ := run_append_own (P := P) w base t ty e i z size bytes ht hi hz hsize hby hzs hsz v n xs hown a m c news hl hnews h1 h63 hbytes hbase
  refine ⟨v', w', hr, ho, hg, ?_⟩
  have hsmall : n + m ≤ 9223372036854775807 := by simp only [maxLen] at h63; omega
  subst hsize
  subst hby
  rcases hown.2 with ⟨rfl, rfl⟩ | ⟨g, cap, cur, rfl, hbg, hgg, hnc, hcm, hcs, htake⟩
  · by_cases hm : m = 0
    · rw [hnil.2 ⟨rfl, hm⟩]
      intro k hk
      cases hk
    · have hr' := run_append_nil (P := P) w t ty e i z ht hi hz a m c news hl hnews (by omega) (by omega) (by have hb := hbytes; simp only [Nat.zero_add] at hb; omega)
      rw [hr'] at hr
      simp only [Result.ok.injEq] at hr
      rw [← hr.1]
      intro k hk
      simp [Value.ownBlock] at hk
      exact .inr (by omega)
  · by_cases hroom : n + m ≤ cap
    · have hfit : n * i.size + news.length ≤ cur.size := by rw [hl, hcs, ← Nat.add_mul]; exact Nat.mul_le_mul_right _ hroom
      have hr' := run_append_room (P := P) w t ty e i ht hi g n cap cur hgg a m c news hl hnews h1 hroom hfit
      rw [hr'] at hr
      simp only [Result.ok.injEq] at hr
      rw [← hr.1]
      intro k hk
      exact .inl hk
    · have holds : ∀ j u, xs[j]? = some u → w.cell? ((⟨g, 0, none⟩ : Addr).add j) = some u := hown.cells (g := g) rfl
      have hr' := run_append_grow (P := P) w t ty e i z ht hi hz ⟨g, 0, none⟩ n cap xs hown.1 holds a m c news hl hnews (by omega) (by omega) (growslice_fits (by omega) hbytes)
      rw [hr'] at hr
      simp only [Result.ok.injEq] at hr
      rw [← hr.1]
      intro k hk
      simp [Value.ownBlock] at hk
      exact .inr (by omega)

end Go.Proofs.Ytahnkhgaopaaoab
namespace Go.Proofs.Ytahnkhgaopaaoab
open Go.RowKit

theorem run_append_owned_nil {P : Program} {w : World} (base : Nat) (t ty e : TypeId) (i : TypeInfo) (size c : Nat) (ht : P.underlying t = some (.slice e)) (hi : P.info? e = some i)
    (v : Value) (n : Nat) (xs : List Value) (hown : w.ownsRow base e size v n xs) :
    (Builtin.append_ #[t, t] ty #[v, .slice none 0 c]).run P w = .ok v w := by
  rcases hown.2 with ⟨rfl, rfl⟩ | ⟨g, cap, cur, rfl, _, _, hnc, _⟩
  · simp [Builtin.append_, run_underlying ht, sizeOf, typeInfo, hi, Builtin.lenOf, Builtin.firstCells]
  · simp [Builtin.append_, run_underlying ht, sizeOf, typeInfo, hi, Builtin.lenOf, Builtin.firstCells, hnc, storeCells]

/-- What an appended slice holds: cells in memory, or nothing. -/
def Holds (w : World) (u : Value) (m : Nat) (news : List Value) : Prop :=
  (∃ ad c, u = .slice (some ad) m c ∧ ∀ j x, news[j]? = some x → w.cell? (ad.add j) = some x) ∨ (∃ c, u = .slice none 0 c ∧ m = 0 ∧ news = [])

theorem append_any {P : Program} (w : World) (base : Nat) (t ty e : TypeId) (i : TypeInfo) (z : Value) (size bytes : Nat) (ht : P.underlying t = some (.slice e)) (hi : P.info? e = some i) (hz : i.zero = some z)
    (hsize : i.size = size) (hby : i.bytes = bytes) (hzs : z.cells.size = size) (hsz : 0 < size)
    (v : Value) (n : Nat) (xs : List Value) (hown : w.ownsRow base e size v n xs)
    (u : Value) (m : Nat) (news : List Value) (hu : Holds w u m news) (hl : news.length = m * size) (h1 : ∀ x ∈ news, x.oneCell' = true)
    (h63 : n + m ≤ maxLen) (hbytes : (n + m) * bytes ≤ 140737488355328) (hbase : base ≤ w.heap.size) :
    ∃ v' w', (Builtin.append_ #[t, t] ty #[v, u]).run P w = .ok v' w' ∧ w'.ownsRow base e size v' (n + m) (xs ++ news) ∧ w.grownBy w' v.ownBlock ∧
      (∀ k, v'.ownBlock = some k → v.ownBlock = some k ∨ w.heap.size ≤ k) := by
  rcases hu with ⟨ad, c, rfl, hc⟩ | ⟨c, rfl, rfl, rfl⟩
  · exact append_own_fresh w base t ty e i z size bytes ht hi hz hsize hby hzs hsz v n xs hown ad m c news hl hc h1 h63 hbytes hbase
  · exact ⟨v, w, run_append_owned_nil base t ty e i size c ht hi v n xs hown, by rw [List.append_nil]; exact hown, ⟨rfl, rfl, rfl, Nat.le_refl _, fun _ _ _ => rfl⟩, fun k hk => .inl hk⟩

theorem wpList_append_any {P : Program} {w : World} {ops : Array Oper} {rest : List Oper} {o : Oper} {a : Act} {Q : Exit → Act → World → Prop} (hgd : o.guard = none) (s x : Operand) (t : TypeId)
    (ho : o.op = .call { callee := .builtin .append, args := #[s, x], argTypes := #[t, t] })
    (base : Nat) (e : TypeId) (i : TypeInfo) (z : Value) (size bytes : Nat) (ht : P.underlying t = some (.slice e)) (hi : P.info? e = some i) (hz : i.zero = some z)
    (hsize : i.size = size) (hby : i.bytes = bytes) (hzs : z.cells.size = size) (hsz : 0 < size)
    (v : Value) (n : Nat) (xs : List Value) (hs : a.eval s = v) (hown : w.ownsRow base e size v n xs)
    (u : Value) (m : Nat) (news : List Value) (hx : a.eval x = u) (hu : Holds w u m news) (hl : news.length = m * size) (h1 : ∀ x ∈ news, x.oneCell' = true)
    (h63 : n + m ≤ maxLen) (hbytes : (n + m) * bytes ≤ 140737488355328) (hbase : base ≤ w.heap.size)
    (h : ∀ v' w', w'.ownsRow base e size v' (n + m) (xs ++ news) → w.grownBy w' v.ownBlock → (∀ k, v'.ownBlock = some k → v.ownBlock = some k ∨ w.heap.size ≤ k) → wpList P ops Q rest (a.put o.dst v') w') : wpList P ops Q (o :: rest) a w := by
  refine wpList_plain hgd fun K hK => ?_
  obtain ⟨v', w', hrun, h2, h3, h4⟩ := append_any (P := P) w base t o.type e i z size bytes ht hi hz hsize hby hzs hsz v n xs hown u m news hu hl h1 h63 hbytes hbase
  unfold Oper.wp
  simp [execOp, ho, resolve, invoke, builtin, hs, hx, hrun, Result.andThen]
  exact hK _ _ (h v' w' h2 h3 h4)

end Go.Proofs.Ytahnkhgaopaaoab

namespace Go.Proofs.Ytahnkhgaopaaoab
open Go.RowKit

def allocs (w : World) (os : List Obj) : World := os.foldl World.alloc w
theorem allocs_size (w : World) (os : List Obj) : (allocs w os).heap.size = w.heap.size + os.length := by
  induction os generalizing w with
  | nil => rfl
  | cons o os ih => simp only [allocs, List.foldl_cons] at ih ⊢; rw [ih]; simp; omega
theorem allocs_below (w : World) (os : List Obj) : Below w.heap.size w (allocs w os) := by
  induction os generalizing w with
  | nil => exact Below.refl _ _
  | cons o os ih => exact ((Below.refl _ w).alloc (Nat.le_refl _) o).trans ((ih (w.alloc o)).mono (by simp))
theorem allocs_at (w : World) (os : List Obj) (i : Nat) (o : Obj) (h : os[i]? = some o) : (allocs w os).heap[w.heap.size + i]? = some o := by
  induction os generalizing w i with
  | nil => simp at h
  | cons p os ih =>
    cases i with
    | zero =>
      simp at h; subst h
      have hb := (allocs_below (w.alloc p) os).block w.heap.size (by simp)
      exact hb.trans (World.alloc_heap_new w p)
    | succ i =>
      have := ih (w.alloc p) i (by simpa using h)
      rw [World.size_alloc] at this
      rw [show w.heap.size + (i + 1) = w.heap.size + 1 + i by omega]
      exact this

theorem cell_of_cells {U : World} {g : Nat} {cs : Array Value} {t : TypeId} (h : U.heap[g]? = some (.cells cs t)) {j : Nat} {u : Value} (hj : cs[j]? = some u) : U.cell? ⟨g, j, none⟩ = some u := by
  simp [World.cell?, h, hj]
end Go.Proofs.Ytahnkhgaopaaoab

namespace Go.Proofs.Ytahnkhgaopaaoab
open Go.RowKit
end Go.Proofs.Ytahnkhgaopaaoab

namespace Go.Proofs.Ytahnkhgaopaaoab
open Go.RowKit

end Go.Proofs.Ytahnkhgaopaaoab
namespace Go.Proofs.Ytahnkhgaopaaoab
open Go.RowKit


end Go.Proofs.Ytahnkhgaopaaoab
namespace Go.Proofs.Ytahnkhgaopaaoab
open Go.RowKit


end Go.Proofs.Ytahnkhgaopaaoab
namespace Go.Proofs.Ytahnkhgaopaaoab
open Go.RowKit


end Go.Proofs.Ytahnkhgaopaaoab
namespace Go.Proofs.Ytahnkhgaopaaoab
open Go.RowKit


end Go.Proofs.Ytahnkhgaopaaoab
namespace Go.Proofs.Ytahnkhgaopaaoab
open Go.RowKit

end Go.Proofs.Ytahnkhgaopaaoab
namespace Go.Proofs.Ytahnkhgaopaaoab
open Go.RowKit

end Go.Proofs.Ytahnkhgaopaaoab
namespace Go.Proofs.Ytahnkhgaopaaoab
open Go.RowKit

end Go.Proofs.Ytahnkhgaopaaoab
namespace Go.Proofs.Ytahnkhgaopaaoab
open Go.RowKit

theorem below_drewN {B : Nat} {a w : World} (h : Below B a w) (n : Nat) : Below B a (w.drewN n) := h.trans ⟨rfl, rfl, rfl, Nat.le_refl _, fun _ _ => rfl⟩

end Go.Proofs.Ytahnkhgaopaaoab
namespace Go.Proofs.Ytahnkhgaopaaoab
open Go.RowKit

end Go.Proofs.Ytahnkhgaopaaoab

namespace Go.Proofs.Ytahnkhgaopaaoab
open Go.RowKit
variable {P : Program}

theorem setRow_grownBy (w : World) (g : Nat) (cs : Array Value) : w.grownBy (w.setRow g cs) (some g) := ⟨rfl, rfl, rfl, by simp, fun k _ hk => setRow_other w g k _ (fun e => hk (by simp [e]))⟩
theorem grownBy_trans {a b c : World} {r : Option Nat} (h : a.grownBy b r) (k : b.grownBy c r) : a.grownBy c r :=
  ⟨k.os.trans h.os, k.tape.trans h.tape, k.output.trans h.output, Nat.le_trans h.size k.size, fun i hi hn => (k.block i (Nat.lt_of_lt_of_le hi h.size) hn).trans (h.block i hi hn)⟩
theorem grownBy_drew (w : World) (r : Option Nat) : w.grownBy w.drew r := ⟨rfl, rfl, rfl, Nat.le_refl _, fun _ _ _ => rfl⟩

end Go.Proofs.Ytahnkhgaopaaoab

namespace Go.Proofs.Ytahnkhgaopaaoab
open Go.RowKit
variable {P : Program}

/-- Where a slice lies, and its capacity. -/
def ownAddr : Value → Option Addr
  | .slice a _ _ => a
  | _ => none
def ownCap : Value → Nat
  | .slice _ _ c => c
  | _ => 0

theorem wpList_clear_run (w : World) {ops : Array Oper} {rest : List Oper} {o : Oper} {a : Act} {Q : Exit → Act → World → Prop} (hgd : o.guard = none) (d : Operand) (dT : TypeId)
    (ho : o.op = .call { callee := .builtin .clear, args := #[d], argTypes := #[dT] }) (vd : Value) (hd : a.eval d = vd)
    (v' : Value) (w' : World) (hr : (Builtin.clear_ #[dT] o.type #[vd]).run P w = .ok v' w') (h : wpList P ops Q rest (a.put o.dst v') w') : wpList P ops Q (o :: rest) a w := by
  refine wpList_plain hgd fun K hK => ?_
  unfold Oper.wp
  simp [execOp, ho, resolve, invoke, builtin, hd, hr, Result.andThen]
  exact hK _ _ h

theorem delete_runs (S : Nat) (w : World) (ts e : TypeId) (hu : P.underlying ts = some (.slice e)) (i0 : TypeInfo) (z : Value) (hi0 : P.info? e = some i0) (hz : i0.zero = some z) (hsz0 : i0.size = S) (hzs : z.cells.size = S) (hz1 : ∀ u ∈ (Builtin.zeroCells z.cells 1).toList, u.oneCell' = true)
    (base g n cap i : Nat) (xs : List Value) (hown : w.ownsRow base e S (.slice (some ⟨g, 0, none⟩) n cap) n xs) (hi : i < n) (h1x : ∀ u ∈ xs, u.oneCell' = true) :
    ∃ w1 w2, (∀ ty a c, (n - (i + 1) = 0 ∨ a = ⟨g, (i + 1) * S, none⟩) → (Builtin.append_ #[ts, ts] ty #[.slice (some ⟨g, 0, none⟩) i cap, .slice (some a) (n - (i + 1)) c]).run P w.drew = .ok (.slice (some ⟨g, 0, none⟩) (n - 1) cap) w1) ∧
      (∀ ty c, (Builtin.clear_ #[ts] ty #[.slice (some ⟨g, (n - 1) * S, none⟩) 1 c]).run P w1 = .ok (.tuple #[]) w2) ∧
      w2.ownsRow base e S (.slice (some ⟨g, 0, none⟩) (n - 1) cap) (n - 1) (xs.take (i * S) ++ xs.drop ((i + 1) * S)) ∧ w.grownBy w2 (some g) := by
  rcases hown.2 with ⟨h, _⟩ | ⟨g', cap', cur, h, hb, hg, hnc, hcm, hsz, htake⟩
  · cases h
  · simp only [Value.slice.injEq, Option.some.injEq, Addr.mk.injEq, and_true, true_and] at h
    obtain ⟨rfl, rfl⟩ := h
    have hxl := hown.1
    have hmul1 : (i + 1) * S = i * S + S := Nat.succ_mul i S
    have hmul2 : (n - 1) * S + S = n * S := by rw [← Nat.succ_mul]; congr 1; omega
    have hle : i * S + S ≤ n * S := by rw [← hmul1]; exact Nat.mul_le_mul_right S (by omega)
    have hle2 : n * S ≤ cur.size := by rw [hsz]; exact Nat.mul_le_mul_right S hnc
    have hdrop : (xs.drop ((i + 1) * S)).length = (n - (i + 1)) * S := by rw [List.length_drop, hxl, Nat.sub_mul]
    have hdrop' : (xs.drop ((i + 1) * S)).length = n * S - (i * S + S) := by rw [List.length_drop, hxl, hmul1]
    let L1 : List Value := cur.toList.take (i * S) ++ xs.drop ((i + 1) * S) ++ cur.toList.drop (i * S + (xs.drop ((i + 1) * S)).length)
    have hL1 : L1.length = cur.size := by
      simp only [L1, List.length_append, List.length_take, hdrop', List.length_drop, Array.length_toList]; omega
    let Zs : List Value := (Builtin.zeroCells z.cells 1).toList
    have hZs : Zs.length = S := by simp only [Zs, Array.length_toList, size_zeroCells, hzs, Nat.one_mul]
    refine ⟨w.drew.setRow g L1.toArray, (w.drew.setRow g L1.toArray).setRow g (L1.toArray.toList.take ((n - 1) * S + 0) ++ Zs ++ L1.toArray.toList.drop ((n - 1) * S + 0 + Zs.length)).toArray, ?_, ?_, ?_, ?_⟩
    · intro ty a c ha
      have hsum : i + (n - (i + 1)) = n - 1 := by omega
      subst hsz0
      have e1 := run_append_room (P := P) w.drew ts ty e i0 hu hi0 g i cap cur hg a (n - (i + 1)) c (xs.drop ((i + 1) * i0.size)) hdrop
        (fun j u hj => by
          rw [List.getElem?_drop] at hj
          have hlt : (i + 1) * i0.size + j < n * i0.size := by
            have := (List.getElem?_eq_some_iff.1 hj).1
            rwa [hxl] at this
          rcases ha with h0 | rfl
          · exfalso
            have : n = i + 1 := by omega
            subst this
            omega
          · rw [addr_add]
            exact (hown.cellAt ((i + 1) * i0.size + j) hlt).trans hj)
        (fun u hu => h1x u (List.mem_of_mem_drop hu)) (by omega) (by rw [hdrop']; omega)
      rw [hsum] at e1
      exact e1
    · intro ty c
      have hst := run_storeCells_at P g ((n - 1) * S) e Zs 0 L1.toArray (w.drew.setRow g L1.toArray) (setRow_heap w.drew g cur _ e _ hg) (by rw [List.size_toArray, hL1, hZs]; omega) hz1
      simp [Builtin.clear_, run_underlying hu, zeroValue, typeInfo, hi0, hz, Zs] at hst ⊢
      rw [hst]
      rfl
    · refine ⟨?_, .inr ⟨g, cap, _, rfl, hb, setRow_heap _ g _ _ e _ (setRow_heap w.drew g cur _ e _ hg), by omega, hcm, ?_, ?_⟩⟩
      · simp only [List.length_append, List.length_take, hdrop', hxl]
        omega
      · simp only [List.size_toArray, List.length_append, List.length_take, List.length_drop, hL1, hZs]
        omega
      · show ((L1.take ((n - 1) * S + 0) ++ Zs ++ L1.drop ((n - 1) * S + 0 + Zs.length)).take ((n - 1) * S)) = _
        rw [Nat.add_zero, List.append_assoc, List.take_append_of_le_length (by rw [List.length_take, hL1]; omega), List.take_take, Nat.min_self]
        have e2 : L1 = (cur.toList.take (i * S) ++ xs.drop ((i + 1) * S)) ++ cur.toList.drop (i * S + (xs.drop ((i + 1) * S)).length) := rfl
        have e3 : (cur.toList.take (i * S) ++ xs.drop ((i + 1) * S)).length = (n - 1) * S := by
          simp only [List.length_append, List.length_take, hdrop', Array.length_toList]; omega
        rw [e2, ← e3, List.take_left, ← htake, List.take_take, Nat.min_eq_left (by omega)]
    · exact grownBy_trans (grownBy_trans (grownBy_drew w _) (setRow_grownBy w.drew g _)) (setRow_grownBy _ g _)
end Go.Proofs.Ytahnkhgaopaaoab

