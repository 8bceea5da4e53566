/- layIn: a child gets its place, in a tree of the call's own. -/
import Derived.Deep.RegionWith
import Derived.Test.YtoolkpjbbngdpaaTake
namespace Go.Proofs.Ytoolkpjbbngdpaa
open Go.RowKit

def insL (l : List Int) (k : Nat) (x : Int) : List Int := l.take k ++ [x] ++ l.drop k
theorem insL_len {l : List Int} {k : Nat} {x : Int} (h : k ≤ l.length) : (insL l k x).length = l.length + 1 := by
  unfold insL; simp; omega
theorem intCells_insL (l : List Int) (k : Nat) (x : Int) : intCells (insL l k x) = (intCells l).take (k * 1) ++ [.int .i64 x] ++ (intCells l).drop (k * 1) := by
  simp [intCells, insL, List.map_append, List.map_take, List.map_drop]
def layAt (T : List Nd) (p : Nat) (b : Int) : Nat := if b == -1 then (nd T p).kids.length else idxL b (nd T p).kids
def layL (T : List Nd) (p c : Nat) (b : Int) : List Nd := withParent (withKids T p (insL (nd T p).kids (layAt T p b) c)) c p

set_option maxRecDepth 100000 in
set_option maxHeartbeats 2000000 in
theorem layIn_any (base : Nat) (T : List Nd) (hS : ∀ n, n < T.length → (nd T n).kids.length ≤ 900000) (g cap : Nat) (kv av : Nat → Value) (p c : Nat) (b : Int) (w : World) (ho : OwnTree w base (.slice (some ⟨g, 0, none⟩) T.length cap) T kv av) (hbase : base ≤ w.heap.size) (hp : p < T.length) (hc : c < T.length) (_hT6 : T.length ≤ 1000000) (hb : b = -1 ∨ b ∈ (nd T p).kids) :
    Calls Try.prog 74 #[.slice (some ⟨g, 0, none⟩) T.length cap, .agg #[.int .i64 p, .int .i64 c, .int .i64 b]] w fun e w' => e = .returned (.tuple #[]) ∧ Below base w w' ∧ ∃ kv', OwnTree w' base (.slice (some ⟨g, 0, none⟩) T.length cap) (layL T p c b) kv' av := by
  have hok := ho.kids p hp
  obtain ⟨ka, kc, hkv⟩ := ownsRow_shape hok
  have c3 : w.cell? ⟨g, p * 7 + 3, none⟩ = some (.slice ka (nd T p).kids.length kc) := by
    rw [ho.row.cellAt (p * 7 + 3) (by omega), rowL_at (by omega), rowCell_at _ _ _ _ _ (by omega), ← hkv]; rfl
  have c2 : ∃ z, w.cell? ⟨g, c * 7 + 2, none⟩ = some z := ⟨_, by rw [ho.row.cellAt (c * 7 + 2) (by omega), rowL_at (by omega)]⟩
  obtain ⟨z2, c2⟩ := c2
  have f3 := ho.row.frozenAt (p * 7 + 3)
  have f2 := ho.row.frozenAt (c * 7 + 2)
  have hgl : g < w.heap.size := (ho.row.lt g rfl).2
  have hgb : base ≤ g := (ho.row.lt g rfl).1
  have hne : some g ≠ (kv p).ownBlock := fun e => ho.kr p hp g e.symm rfl
  rw [hkv] at hok hne
  have hbk : ∀ j, Value.ownBlock (.slice ka (nd T p).kids.length kc) = some j → base ≤ j ∧ j < w.heap.size := fun j e => hok.lt j e
  have hkl := hS p hp
  have hkl2 : (nd T p).kids.length ≤ 1000000 := by omega
  have HO := hideG ho
  have HKV := hideG hkv
  have HKI := hideG ((ownsRow_ints hok).below ((Below.refl _ w).alloc (Nat.le_refl _) (.cells #[.int .i64 p, .int .i64 c, .int .i64 b] 37)))
  have hins : ∀ i : Nat, i ≤ (nd T p).kids.length → Calls Try.prog 105 #[.slice ka (nd T p).kids.length kc, .int .i64 i, .slice (some ⟨w.heap.size + 1, 0, none⟩) 1 1] (((w.alloc (.cells #[.int .i64 p, .int .i64 c, .int .i64 b] 37)).drew).alloc (.cells #[.int .i64 c] 3)) fun e w3 =>
      ∃ xa xl xc, e = .returned (.slice xa xl xc) ∧ w3.cell? ⟨g, p * 7 + 3, none⟩ = some (.slice ka (nd T p).kids.length kc) ∧ w3.frozen? ⟨g, p * 7 + 3, none⟩ = false ∧ w3.cell? ⟨g, c * 7 + 2, none⟩ = some z2 ∧ w3.frozen? ⟨g, c * 7 + 2, none⟩ = false ∧
        w3.cell? ⟨w.heap.size, 0, none⟩ = some (.int .i64 p) ∧ w3.cell? ⟨w.heap.size, 1, none⟩ = some (.int .i64 c) ∧ w3.cell? ⟨w.heap.size, 2, none⟩ = some (.int .i64 b) ∧
        Hid (OwnTree (w3.setCell ⟨g, p * 7 + 3, none⟩ (.slice xa xl xc)) base (.slice (some ⟨g, 0, none⟩) T.length cap) (withKids T p (insL (nd T p).kids i c)) (upd kv p (.slice xa xl xc)) av ∧ Below base w w3) := by
    intro i hi
    have hB0 : Below w.heap.size w (((w.alloc (.cells #[.int .i64 p, .int .i64 c, .int .i64 b] 37)).drew).alloc (.cells #[.int .i64 c] 3)) := by
      refine Below.alloc ?_ (by simp [World.drew]) _
      exact ((Below.refl _ w).alloc (Nat.le_refl _) _).trans ⟨rfl, rfl, rfl, Nat.le_refl _, fun _ _ => rfl⟩
    have hr := ownsRow_below hok hB0 (fun j e => (hbk j e).2)
    have hsz0 := hB0.size
    refine (insert86_any base _ (nd T p).kids.length i (w.heap.size + 1) (intCells (nd T p).kids) [.int .i64 c] _ hr (by omega) hi hkl rfl ?_ ?_ (intCells_one _) (intCells_one [(c : Int)])).mono ?_
    · have := heap_alloc_new ((w.alloc (.cells #[.int .i64 p, .int .i64 c, .int .i64 b] 37)).drew) (.cells #[.int .i64 c] 3)
      simpa [World.drew] using this
    · intro e
      have := (hbk _ e).2
      omega
    rintro e w3 ⟨x1, rfl, hx1, hg3, hf3⟩
    obtain ⟨xa, xc, rfl⟩ := ownsRow_shape hx1
    rw [← intCells_insL, ← insL_len hi (x := c)] at hx1
    rw [← insL_len hi (x := c)]  at hf3
    rw [← insL_len hi (x := c)]
    have bk : ∀ j, j < w.heap.size → some j ≠ Value.ownBlock (.slice ka (nd T p).kids.length kc) → w3.heap[j]? = w.heap[j]? := fun j hj hn => (hg3.block j (by omega) hn).trans (hB0.block j hj)
    have hbox : ∀ o, w3.cell? ⟨w.heap.size, o, none⟩ = (w.alloc (.cells #[.int .i64 p, .int .i64 c, .int .i64 b] 37)).cell? ⟨w.heap.size, o, none⟩ := fun o => by
      refine World.cell?_of_block (a := ⟨w.heap.size, o, none⟩) ?_
      have hz1 : (((w.alloc (.cells #[.int .i64 p, .int .i64 c, .int .i64 b] 37)).drew).alloc (.cells #[.int .i64 c] 3)).heap.size = w.heap.size + 1 + 1 := by
        rw [World.size_alloc]
        exact congrArg (· + 1) (World.size_alloc w _)
      have h1 := hg3.block w.heap.size (by omega) (fun e => by have := (hbk _ e.symm).2; omega)
      rw [h1]
      have h2 := (((Below.refl (w.heap.size + 1) ((w.alloc (.cells #[.int .i64 p, .int .i64 c, .int .i64 b] 37)).drew)).alloc (by simp [World.drew]) (.cells #[.int .i64 c] 3))).block w.heap.size (by omega)
      exact h2
    have hG : w.grownBy w3 (Value.ownBlock (.slice ka (nd T p).kids.length kc)) := grownBy_trans (toGrown hB0 _) hg3
    refine ⟨xa, _, xc, rfl, (World.cell?_of_block (a := ⟨g, p * 7 + 3, none⟩) (bk g hgl hne)).trans c3, (World.frozen?_of_block (a := ⟨g, p * 7 + 3, none⟩) (bk g hgl hne)).trans f3,
      (World.cell?_of_block (a := ⟨g, c * 7 + 2, none⟩) (bk g hgl hne)).trans c2, (World.frozen?_of_block (a := ⟨g, c * 7 + 2, none⟩) (bk g hgl hne)).trans f2, (hbox 0).trans (by simp), (hbox 1).trans (by simp), (hbox 2).trans (by simp), ?_⟩
    refine ⟨HO.out.setKids hp hx1 (by rw [HKV.out]; exact hG) (fun j e => ?_), (Below.refl base w).grown hG hbase (fun j e => (hbk j e).1)⟩
    rw [HKV.out]
    rcases hf3 j e with h | h
    · exact .inl h
    · exact .inr (by omega)
  have HINS := hideG hins
  have hgne : (g == w.heap.size) = false := by simp; omega
  have h2ne : ¬ (p * 7 + 3 = c * 7 + 2) := by omega
  clear hins hok hkv ho hbk hne
  cases hbb : (b == -1)
  · have hmem : b ∈ (nd T p).kids := by
      rcases hb with rfl | h
      · simp at hbb
      · exact h
    have hlt := idxL_mem hmem
    obtain ⟨i, hi⟩ : ∃ i, idxL b (nd T p).kids = i := ⟨_, rfl⟩
    have HI := hideG (show indexI (nd T p).kids b = (i : Int) by rw [indexI, if_pos hlt, hi])
    have HL := hideG (show layL T p c b = withParent (withKids T p (insL (nd T p).kids i c)) c p by simp only [layL, layAt, hbb, hi, Bool.false_eq_true, if_false])
    rw [hi] at hlt
    clear hb hmem hi
    have hile : i ≤ (nd T p).kids.length := by omega
    go_enter Try.func74, Try.ntmps74
    go_wp2_with (go_at_call 103; refine (sliceIndex_any (nd T p).kids _ _ _ HKI.out hkl2).mono ?_; rintro e w1 ⟨rfl, rfl⟩; rw [HI.out])
    go_region_with (go_at_call 105; refine (HINS.out i hile).mono ?_; rintro e w3 ⟨xa, xl, xc, rfl, d3, e3, d2, e2, b0, b1, b2, HX⟩)
    all_goals
      have HN := hideG (HX.out.1.setParent (n := c) (by rw [withKids_length]; exact hc) (p : Int))
      have HB := hideG ((HX.out.2.setCell (p := ⟨g, p * 7 + 3, none⟩) hgb (.slice xa xl xc)).setCell (p := ⟨g, c * 7 + 2, none⟩) hgb (.int .i64 (p : Int)))
      clear HX
      go_wp2_with fail
      go_end0
      exact ⟨rfl, HB.out, _, by rw [HL.out]; exact HN.out⟩
  · have HL := hideG (show layL T p c b = withParent (withKids T p (insL (nd T p).kids (nd T p).kids.length c)) c p by simp only [layL, layAt, hbb, if_true])
    clear hb
    have hile : (nd T p).kids.length ≤ (nd T p).kids.length := Nat.le_refl _
    go_enter Try.func74, Try.ntmps74
    go_wp2_with fail
    go_region_with (go_at_call 105; refine (HINS.out _ hile).mono ?_; rintro e w3 ⟨xa, xl, xc, rfl, d3, e3, d2, e2, b0, b1, b2, HX⟩)
    all_goals
      have HN := hideG (HX.out.1.setParent (n := c) (by rw [withKids_length]; exact hc) (p : Int))
      have HB := hideG ((HX.out.2.setCell (p := ⟨g, p * 7 + 3, none⟩) hgb (.slice xa xl xc)).setCell (p := ⟨g, c * 7 + 2, none⟩) hgb (.int .i64 (p : Int)))
      clear HX
      go_wp2_with fail
      go_end0
      exact ⟨rfl, HB.out, _, by rw [HL.out]; exact HN.out⟩
end Go.Proofs.Ytoolkpjbbngdpaa
