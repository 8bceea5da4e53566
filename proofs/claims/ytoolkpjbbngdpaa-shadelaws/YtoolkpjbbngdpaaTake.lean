/- takeOut: a child loses its place, in a tree of the call's own. -/
import Derived.Test.YtoolkpjbbngdpaaAttach
import Derived.Test.YtoolkpjbbngdpaaDelI
import Derived.Test.YtoolkpjbbngdpaaInsI
namespace Go.Proofs.Ytoolkpjbbngdpaa
open Go.RowKit

def cutL (l : List Int) (k : Nat) : List Int := l.take k ++ l.drop (k + 1)
theorem cutL_len {l : List Int} {k : Nat} (h : k < l.length) : (cutL l k).length = l.length - 1 := by
  unfold cutL; simp; omega
theorem intCells_cutL (l : List Int) (k : Nat) : intCells (cutL l k) = (intCells l).take (k * 1) ++ (intCells l).drop ((k + 1) * 1) := by
  simp [intCells, cutL, List.map_append, List.map_take, List.map_drop]

/-- Where a child is a kid, or that it is none. -/
def Placed1 (T : List Nd) (c : Nat) : Prop := (nd T c).parent = -1 ∨ ∃ q : Nat, q < T.length ∧ (nd T c).parent = (q : Int) ∧ (c : Int) ∈ (nd T q).kids
def takeL (T : List Nd) (c : Nat) : List Nd :=
  if (nd T c).parent == -1 then T else withParent (withKids T (nd T c).parent.toNat (cutL (nd T (nd T c).parent.toNat).kids (idxL c (nd T (nd T c).parent.toNat).kids))) c (-1)

set_option maxRecDepth 100000 in
set_option maxHeartbeats 2000000 in
theorem takeOut_any (base : Nat) (T : List Nd) (hS : ∀ n, n < T.length → (nd T n).kids.length ≤ 900000) (g cap : Nat) (kv av : Nat → Value) (c : Nat) (w : World) (ho : OwnTree w base (.slice (some ⟨g, 0, none⟩) T.length cap) T kv av) (hbase : base ≤ w.heap.size) (hc : c < T.length) (_hT6 : T.length ≤ 1000000) (hp : Placed1 T c) :
    Calls Try.prog 73 #[.slice (some ⟨g, 0, none⟩) T.length cap, .int .i64 c] w fun e w' => e = .returned (.tuple #[]) ∧ Below base w w' ∧ ∃ kv', OwnTree w' base (.slice (some ⟨g, 0, none⟩) T.length cap) (takeL T c) kv' av := by
  have c2 : w.cell? ⟨g, c * 7 + 2, none⟩ = some (.int .i64 (nd T c).parent) := by
    rw [ho.row.cellAt (c * 7 + 2) (by omega), rowL_at (by omega), rowCell_at _ _ _ _ _ (by omega)]; rfl
  have HO := hideG ho
  cases hpp : ((nd T c).parent == -1)
  · obtain ⟨q, hq, hqe, hmem⟩ : ∃ q : Nat, q < T.length ∧ (nd T c).parent = (q : Int) ∧ (c : Int) ∈ (nd T q).kids := by
      rcases hp with h | h
      · rw [h] at hpp; simp at hpp
      · exact h
    rw [hqe] at c2 hpp
    obtain ⟨i, hi⟩ : ∃ i, idxL c (nd T q).kids = i := ⟨_, rfl⟩
    have hlt := idxL_mem hmem
    have hR : takeL T c = withParent (withKids T q (cutL (nd T q).kids i)) c (-1) := by
      simp only [takeL, hqe, Int.toNat_natCast, hi]
      rw [if_neg (by simp)]
    have hI : indexI (nd T q).kids c = (i : Int) := by rw [indexI, if_pos hlt, hi]
    rw [hi] at hlt
    have hok := ho.kids q hq
    obtain ⟨ka, kc, hkv⟩ := ownsRow_shape hok
    have c3 : w.cell? ⟨g, q * 7 + 3, none⟩ = some (.slice ka (nd T q).kids.length kc) := by
      rw [ho.row.cellAt (q * 7 + 3) (by omega), rowL_at (by omega), rowCell_at _ _ _ _ _ (by omega), ← hkv]; rfl
    have f3 := ho.row.frozenAt (q * 7 + 3)
    have f2 := ho.row.frozenAt (c * 7 + 2)
    have hgl : g < w.heap.size := (ho.row.lt g rfl).2
    have hgb : base ≤ g := (ho.row.lt g rfl).1
    have hne : some g ≠ (kv q).ownBlock := fun e => ho.kr q hq g e.symm rfl
    rw [hkv] at hok hne
    have HK := hideG hok
    have HKV := hideG hkv
    have HR := hideG hR
    have HI := hideG hI
    have HKI := hideG (ownsRow_ints hok)
    have hkl := hS q hq
    have hkl2 : (nd T q).kids.length ≤ 1000000 := by omega
    clear hR hI hok hkv ho hp hi hmem
    go_enter Try.func73, Try.ntmps73
    go_wp2_with (go_at_call 103; refine (sliceIndex_any (nd T q).kids _ _ _ HKI.out hkl2).mono ?_; rintro e w1 ⟨rfl, rfl⟩; rw [HI.out])
    refine (delete85_any base _ (nd T q).kids.length i (intCells (nd T q).kids) _ HK.out hlt hkl (intCells_one _)).mono ?_
    rintro e w4 ⟨rfl, hx1, hg3⟩
    simp only [ownAddr, ownCap] at hx1 ⊢
    have hf3 : ∀ j, Value.ownBlock (.slice ka ((nd T q).kids.length - 1) kc) = some j → Value.ownBlock (.slice ka (nd T q).kids.length kc) = some j ∨ w1.heap.size ≤ j := fun j hj => .inl (by cases ka with | none => cases hj | some x => exact hj)
    rw [← intCells_cutL, ← cutL_len hlt] at hx1
    rw [← cutL_len hlt] at hf3
    rw [← cutL_len hlt]
    have d3 := (World.cell?_of_block (a := ⟨g, q * 7 + 3, none⟩) (hg3.block g hgl hne)).trans c3
    have e3 := (World.frozen?_of_block (a := ⟨g, q * 7 + 3, none⟩) (hg3.block g hgl hne)).trans f3
    have d2 := (World.cell?_of_block (a := ⟨g, c * 7 + 2, none⟩) (hg3.block g hgl hne)).trans c2
    have e2 := (World.frozen?_of_block (a := ⟨g, c * 7 + 2, none⟩) (hg3.block g hgl hne)).trans f2
    have hnew : OwnTree (w4.setCell ⟨g, q * 7 + 3, none⟩ (.slice ka (cutL (nd T q).kids i).length kc)) base (.slice (some ⟨g, 0, none⟩) T.length cap) (withKids T q (cutL (nd T q).kids i)) (upd kv q (.slice ka (cutL (nd T q).kids i).length kc)) av :=
      HO.out.setKids hq hx1 (by rw [HKV.out]; exact hg3) (by rw [HKV.out]; exact hf3)
    have HN := hideG (hnew.setParent (n := c) (by rw [withKids_length]; exact hc) (-1))
    have HB := hideG ((((Below.refl base w1).grown hg3 hbase (fun j e => (HK.out.lt j e).1)).setCell (p := ⟨g, q * 7 + 3, none⟩) hgb (.slice ka (cutL (nd T q).kids i).length kc)).setCell (p := ⟨g, c * 7 + 2, none⟩) hgb (.int .i64 (-1)))
    have hnn : ¬ (q * 7 + 3 = c * 7 + 2) := by omega
    clear hnew hx1 hg3 hf3
    go_wp2_with fail
    go_end0
    exact ⟨rfl, HB.out, _, by rw [HR.out]; exact HN.out⟩
  · have HR := hideG (show takeL T c = T by simp only [takeL, hpp, if_true])
    clear ho hp
    go_enter Try.func73, Try.ntmps73
    go_wp2_with fail
    refine bodyPost_ret (results_none rfl _ _ _) rfl ?_
    exact ⟨rfl, Below.refl _ _, _, by rw [HR.out]; exact HO.out⟩
end Go.Proofs.Ytoolkpjbbngdpaa
