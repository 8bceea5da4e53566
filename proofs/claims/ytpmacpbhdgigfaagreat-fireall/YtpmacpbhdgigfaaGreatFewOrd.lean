/- A region that draws its order and has few orders: each of them walked, in a round too. Of no program in particular. -/
import Derived.Test.YtpmacpbhdgigfaaGreatAimMem
import Derived.OrdersIn
import Derived.TacticsIn
namespace Go.Proofs.YtpmacpbhdgigfaaGreat
open Go.RowKit

/-- All orders in which the operations of a region may come up. -/
def ordersF (md : Region.Mode) (ops : Array Oper) : Nat → Array Bool → List (List Nat)
  | 0, _ => [[]]
  | fuel + 1, listed => match Region.ready md ops listed with
    | [] => [[]]
    | r :: rs => (r :: rs).flatMap fun i => (ordersF md ops fuel (listed.setIfInBounds i true)).map (i :: ·)
theorem lin_orders (md : Region.Mode) (ops : Array Oper) : ∀ (fuel t : Nat) (listed : Array Bool), Region.linearise.go md ops fuel t listed [] ∈ ordersF md ops fuel listed
  | 0, t, listed => by simp [Region.linearise.go, ordersF]
  | fuel + 1, t, listed => by
    simp only [Region.linearise.go]
    change (match (Region.ready md ops listed)[t % (Region.ready md ops listed).length]? with
      | some i => Region.linearise.go md ops fuel (t / (Region.ready md ops listed).length) (listed.setIfInBounds i true) [i]
      | none => [].reverse) ∈ _
    unfold ordersF
    cases hr : Region.ready md ops listed with
    | nil => simp
    | cons r rs =>
      have hlt : t % (r :: rs).length < (r :: rs).length := Nat.mod_lt _ (by simp)
      rw [List.getElem?_eq_getElem hlt]
      simp only []
      rw [linearise_go_acc, List.reverse_singleton, List.singleton_append]
      exact List.mem_flatMap.mpr ⟨_, List.getElem_mem hlt, List.mem_map.mpr ⟨_, lin_orders md ops fuel _ _, rfl⟩⟩
theorem wpOpsIn_list {F : Fence} {n : Nat} {P : Program} {ops : Array Oper} {Q : Exit → Act → World → Prop} : ∀ (is : List Nat) (a : Act) (w : World), wpListIn F n P ops Q (is.filterMap (ops[·]?)) a w → wpOpsIn F n P ops Q is a w
  | [], a, w, h => h
  | i :: is, a, w, h => by
    unfold wpOpsIn
    cases hi : ops[i]? with
    | none => simp only [List.filterMap_cons, hi] at h; exact wpOpsIn_list is a w h
    | some o =>
      simp only [List.filterMap_cons, hi, wpListIn] at h ⊢
      split
      · rename_i hw
        simp only [hw, if_true] at h
        exact Oper.wpIn_mono (fun a' w' h' => wpOpsIn_list is a' w' h') h
      · rename_i hw
        simp only [hw] at h
        exact ⟨h.1, wpOpsIn_list is _ _ h.2⟩
theorem wpListIn_eq {F : Fence} {n : Nat} {P : Program} {ops : Array Oper} {Q : Exit → Act → World → Prop} {a : Act} {w : World} {l l' : List Oper} (h : l = l') (hw : wpListIn F n P ops Q l' a w) : wpListIn F n P ops Q l a w := h ▸ hw
theorem wpIn_region_few {F : Fence} {n : Nat} {P : Program} {id : Nat} {ops : Array Oper} {Q : Exit → Act → World → Prop} {a : Act} {w : World} (hm : P.follows .mixedOrders = true) {L : List (List Nat)}
    (hL : ordersF .any ops ops.size (Array.replicate ops.size false) = L) (h : ∀ o ∈ L, wpListIn F n P ops Q (o.filterMap (ops[·]?)) a w.drew) : (Code.region id ops true).wpIn F n P Q a w :=
  wpIn_region_draw fun t => by
    simp only [Region.schedule, hm, Bool.true_or, if_true]
    exact wpOpsIn_list _ a _ (h _ (hL ▸ lin_orders .any ops ops.size t _))
end Go.Proofs.YtpmacpbhdgigfaaGreat
