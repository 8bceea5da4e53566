/- Lemmas of no program in particular: rows that are cut. -/
import Derived.Test.YtpmacpbhdgigfaaGreatOrdL
import Derived.WalkKit
import Derived.WalkSpells
import Derived.WalkLawsBesides
import Derived.BigQuiet
import Derived.Lib.AppendZeros
import Derived.Lib.Overlaps
import Derived.Laws.CopyOwn
import Derived.Deep.RegionLaw
import Derived.Deep.QuietTactic
import Derived.Laws.AppendOwnNone
import Derived.Deep.RegionWith
import Derived.RangeFuncCalls
import Derived.Deep.RegionHeld3
namespace Go.Proofs.YtpmacpbhdgigfaaGreat
open Go.RowKit
end Go.Proofs.YtpmacpbhdgigfaaGreat
namespace Go.Proofs.YtpmacpbhdgigfaaGreat
open Go.RowKit
variable {P : Program}

theorem setRow_grownBy (w : World) (g : Nat) (cs : Array Value) : w.grownBy (w.setRow g cs) (some g) := ⟨rfl, rfl, rfl, by simp, fun k _ hk => setRow_other w g k _ (fun e => hk (by simp [e]))⟩
theorem grownBy_trans {a b c : World} {r : Option Nat} (h : a.grownBy b r) (k : b.grownBy c r) : a.grownBy c r :=
  ⟨k.os.trans h.os, k.tape.trans h.tape, k.output.trans h.output, Nat.le_trans h.size k.size, fun i hi hn => (k.block i (Nat.lt_of_lt_of_le hi h.size) hn).trans (h.block i hi hn)⟩
theorem grownBy_drew (w : World) (r : Option Nat) : w.grownBy w.drew r := ⟨rfl, rfl, rfl, Nat.le_refl _, fun _ _ _ => rfl⟩

end Go.Proofs.YtpmacpbhdgigfaaGreat

namespace Go.Proofs.YtpmacpbhdgigfaaGreat
open Go.RowKit
variable {P : Program}

/-- Where a slice lies, and its capacity. -/
def ownAddr : Value → Option Addr
  | .slice a _ _ => a
  | _ => none
def ownCap : Value → Nat
  | .slice _ _ c => c
  | _ => 0

theorem wpList_clear_run (w : World) {ops : Array Oper} {rest : List Oper} {o : Oper} {a : Act} {Q : Exit → Act → World → Prop} (hgd : o.guard = none) (d : Operand) (dT : TypeId)
    (ho : o.op = .call { callee := .builtin .clear, args := #[d], argTypes := #[dT] }) (vd : Value) (hd : a.eval d = vd)
    (v' : Value) (w' : World) (hr : (Builtin.clear_ #[dT] o.type #[vd]).run P w = .ok v' w') (h : wpList P ops Q rest (a.put o.dst v') w') : wpList P ops Q (o :: rest) a w := by
  refine wpList_plain hgd fun K hK => ?_
  unfold Oper.wp
  simp [execOp, ho, resolve, invoke, builtin, hd, hr, Result.andThen]
  exact hK _ _ h

theorem delete_runs (S : Nat) (w : World) (ts e : TypeId) (hu : P.underlying ts = some (.slice e)) (i0 : TypeInfo) (z : Value) (hi0 : P.info? e = some i0) (hz : i0.zero = some z) (hsz0 : i0.size = S) (hzs : z.cells.size = S) (hz1 : ∀ u ∈ (Builtin.zeroCells z.cells 1).toList, u.oneCell' = true)
    (base g n cap i : Nat) (xs : List Value) (hown : w.ownsRow base e S (.slice (some ⟨g, 0, none⟩) n cap) n xs) (hi : i < n) (h1x : ∀ u ∈ xs, u.oneCell' = true) :
    ∃ w1 w2, (∀ ty a c, (n - (i + 1) = 0 ∨ a = ⟨g, (i + 1) * S, none⟩) → (Builtin.append_ #[ts, ts] ty #[.slice (some ⟨g, 0, none⟩) i cap, .slice (some a) (n - (i + 1)) c]).run P w.drew = .ok (.slice (some ⟨g, 0, none⟩) (n - 1) cap) w1) ∧
      (∀ ty c, (Builtin.clear_ #[ts] ty #[.slice (some ⟨g, (n - 1) * S, none⟩) 1 c]).run P w1 = .ok (.tuple #[]) w2) ∧
      w2.ownsRow base e S (.slice (some ⟨g, 0, none⟩) (n - 1) cap) (n - 1) (xs.take (i * S) ++ xs.drop ((i + 1) * S)) ∧ w.grownBy w2 (some g) := by
  rcases hown.2 with ⟨h, _⟩ | ⟨g', cap', cur, h, hb, hg, hnc, hcm, hsz, htake⟩
  · cases h
  · simp only [Value.slice.injEq, Option.some.injEq, Addr.mk.injEq, and_true, true_and] at h
    obtain ⟨rfl, rfl⟩ := h
    have hxl := hown.1
    have hmul1 : (i + 1) * S = i * S + S := Nat.succ_mul i S
    have hmul2 : (n - 1) * S + S = n * S := by rw [← Nat.succ_mul]; congr 1; omega
    have hle : i * S + S ≤ n * S := by rw [← hmul1]; exact Nat.mul_le_mul_right S (by omega)
    have hle2 : n * S ≤ cur.size := by rw [hsz]; exact Nat.mul_le_mul_right S hnc
    have hdrop : (xs.drop ((i + 1) * S)).length = (n - (i + 1)) * S := by rw [List.length_drop, hxl, Nat.sub_mul]
    have hdrop' : (xs.drop ((i + 1) * S)).length = n * S - (i * S + S) := by rw [List.length_drop, hxl, hmul1]
    let L1 : List Value := cur.toList.take (i * S) ++ xs.drop ((i + 1) * S) ++ cur.toList.drop (i * S + (xs.drop ((i + 1) * S)).length)
    have hL1 : L1.length = cur.size := by
      simp only [L1, List.length_append, List.length_take, hdrop', List.length_drop, Array.length_toList]; omega
    let Zs : List Value := (Builtin.zeroCells z.cells 1).toList
    have hZs : Zs.length = S := by simp only [Zs, Array.length_toList, size_zeroCells, hzs, Nat.one_mul]
    refine ⟨w.drew.setRow g L1.toArray, (w.drew.setRow g L1.toArray).setRow g (L1.toArray.toList.take ((n - 1) * S + 0) ++ Zs ++ L1.toArray.toList.drop ((n - 1) * S + 0 + Zs.length)).toArray, ?_, ?_, ?_, ?_⟩
    · intro ty a c ha
      have hsum : i + (n - (i + 1)) = n - 1 := by omega
      subst hsz0
      have e1 := run_append_room (P := P) w.drew ts ty e i0 hu hi0 g i cap cur hg a (n - (i + 1)) c (xs.drop ((i + 1) * i0.size)) hdrop
        (fun j u hj => by
          rw [List.getElem?_drop] at hj
          have hlt : (i + 1) * i0.size + j < n * i0.size := by
            have := (List.getElem?_eq_some_iff.1 hj).1
            rwa [hxl] at this
          rcases ha with h0 | rfl
          · exfalso
            have : n = i + 1 := by omega
            subst this
            omega
          · rw [addr_add]
            exact (hown.cellAt ((i + 1) * i0.size + j) hlt).trans hj)
        (fun u hu => h1x u (List.mem_of_mem_drop hu)) (by omega) (by rw [hdrop']; omega)
      rw [hsum] at e1
      exact e1
    · intro ty c
      have hst := run_storeCells_at P g ((n - 1) * S) e Zs 0 L1.toArray (w.drew.setRow g L1.toArray) (setRow_heap w.drew g cur _ e _ hg) (by rw [List.size_toArray, hL1, hZs]; omega) hz1
      simp [Builtin.clear_, run_underlying hu, zeroValue, typeInfo, hi0, hz, Zs] at hst ⊢
      rw [hst]
      rfl
    · refine ⟨?_, .inr ⟨g, cap, _, rfl, hb, setRow_heap _ g _ _ e _ (setRow_heap w.drew g cur _ e _ hg), by omega, hcm, ?_, ?_⟩⟩
      · simp only [List.length_append, List.length_take, hdrop', hxl]
        omega
      · simp only [List.size_toArray, List.length_append, List.length_take, List.length_drop, hL1, hZs]
        omega
      · show ((L1.take ((n - 1) * S + 0) ++ Zs ++ L1.drop ((n - 1) * S + 0 + Zs.length)).take ((n - 1) * S)) = _
        rw [Nat.add_zero, List.append_assoc, List.take_append_of_le_length (by rw [List.length_take, hL1]; omega), List.take_take, Nat.min_self]
        have e2 : L1 = (cur.toList.take (i * S) ++ xs.drop ((i + 1) * S)) ++ cur.toList.drop (i * S + (xs.drop ((i + 1) * S)).length) := rfl
        have e3 : (cur.toList.take (i * S) ++ xs.drop ((i + 1) * S)).length = (n - 1) * S := by
          simp only [List.length_append, List.length_take, hdrop', Array.length_toList]; omega
        rw [e2, ← e3, List.take_left, ← htake, List.take_take, Nat.min_eq_left (by omega)]
    · exact grownBy_trans (grownBy_trans (grownBy_drew w _) (setRow_grownBy w.drew g _)) (setRow_grownBy _ g _)
end Go.Proofs.YtpmacpbhdgigfaaGreat

