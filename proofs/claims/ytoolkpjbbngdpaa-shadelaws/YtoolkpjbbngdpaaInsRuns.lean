/- The runs of the builtins of which slices.Insert is made, at rows whose elements have S cells. -/
import Derived.Test.YtoolkpjbbngdpaaLaws
import Derived.Test.YtoolkpjbbngdpaaInsList
namespace Go.Proofs.Ytoolkpjbbngdpaa
open Go.RowKit
variable {P : Program}

theorem setRow_grownBy (w : World) (g : Nat) (cs : Array Value) : w.grownBy (w.setRow g cs) (some g) := ⟨rfl, rfl, rfl, by simp, fun k _ hk => setRow_other w g k _ (fun e => hk (by simp [e]))⟩
theorem grownBy_trans {a b c : World} {r : Option Nat} (h : a.grownBy b r) (k : b.grownBy c r) : a.grownBy c r :=
  ⟨k.os.trans h.os, k.tape.trans h.tape, k.output.trans h.output, Nat.le_trans h.size k.size, fun i hi hn => (k.block i (Nat.lt_of_lt_of_le hi h.size) hn).trans (h.block i hi hn)⟩
theorem grownBy_drew (w : World) (r : Option Nat) : w.grownBy w.drew r := ⟨rfl, rfl, rfl, Nat.le_refl _, fun _ _ _ => rfl⟩

theorem insert_room_runs (S : Nat) (w : World) (ts e : TypeId) (hu : P.underlying ts = some (.slice e)) (hs : (P.info? e).map (·.size) = some S) (base g n cap i vb : Nat) (xs cs : List Value)
    (hown : w.ownsRow base e S (.slice (some ⟨g, 0, none⟩) n cap) n xs) (hi : i < n) (hr : n + 1 ≤ cap) (hcs : cs.length = S) (hvb : vb ≠ g) (hv : ∀ j u, cs[j]? = some u → w.cell? ⟨vb, j, none⟩ = some u)
    (h1x : ∀ u ∈ xs, u.oneCell' = true) (h1c : ∀ u ∈ cs, u.oneCell' = true) :
    ∃ w1 w2, (∀ ty dl dc sl sc, Nat.min sl dl = n - i → (Builtin.copy_ #[ts, ts] ty #[.slice (some ⟨g, (i + 1) * S, none⟩) dl dc, .slice (some ⟨g, i * S, none⟩) sl sc]).run P w.drew = .ok (goInt ((n - i : Nat) : Int)) w1) ∧
      (∀ ty dl dc, 1 ≤ dl → (Builtin.copy_ #[ts, ts] ty #[.slice (some ⟨g, i * S, none⟩) dl dc, .slice (some ⟨vb, 0, none⟩) 1 1]).run P w1 = .ok (goInt 1) w2) ∧
      w2.ownsRow base e S (.slice (some ⟨g, 0, none⟩) (n + 1) cap) (n + 1) (xs.take (i * S) ++ cs ++ xs.drop (i * S)) ∧ w.grownBy w2 (some g) := by
  rcases hown.2 with ⟨h, _⟩ | ⟨g', cap', cur, h, hb, hg, hnc, hcm, hsz, htake⟩
  · cases h
  · simp only [Value.slice.injEq, Option.some.injEq, Addr.mk.injEq, and_true, true_and] at h
    obtain ⟨rfl, rfl⟩ := h
    have hmul1 : (i + 1) * S = i * S + S := Nat.succ_mul i S
    have hmul2 : (n + 1) * S = n * S + S := Nat.succ_mul n S
    have hle : i * S ≤ n * S := Nat.mul_le_mul_right S (by omega)
    have hle2 : n * S + S ≤ cur.size := by rw [hsz, ← hmul2]; exact Nat.mul_le_mul_right S hr
    have hdrop : (xs.drop (i * S)).length = (n - i) * S := by rw [List.length_drop, hown.1, Nat.sub_mul]
    have hxl := hown.1
    let L1 : List Value := cur.toList.take (i * S + S) ++ xs.drop (i * S) ++ cur.toList.drop (i * S + S + (xs.drop (i * S)).length)
    have hL1 : L1.length = cur.size := by
      simp only [L1, List.length_append, List.length_take, List.length_drop, Array.length_toList, hxl]; omega
    refine ⟨w.drew.setRow g L1.toArray, (w.drew.setRow g L1.toArray).setRow g (L1.toArray.toList.take (i * S) ++ cs ++ L1.toArray.toList.drop (i * S + cs.length)).toArray, ?_, ?_, ?_, ?_⟩
    rotate_left
    · intro ty dl dc hdl
      refine (run_copy_sz _ ts ts ty e S g (i * S) dl dc ⟨vb, 0, none⟩ 1 1 _ e cs hu hs (setRow_heap w.drew g cur _ e _ hg) (by rw [show Nat.min 1 dl = 1 by simp only [Nat.min_def]; split <;> omega, Nat.one_mul]; exact hcs) ?_ ?_ h1c).trans ?_
      · intro j u hj
        rw [addr_add, Nat.zero_add]
        rw [World.cell?_of_block (w := w) (setRow_other w.drew g vb _ (fun h => hvb h))]
        exact hv j u hj
      · rw [List.size_toArray, hL1, hcs]
        omega
      · rw [show Nat.min 1 dl = 1 by simp only [Nat.min_def]; split <;> omega]
        rfl
    · refine ⟨?_, .inr ⟨g, cap, _, rfl, hb, setRow_heap _ g _ _ e _ (setRow_heap w.drew g cur _ e _ hg), hr, hcm, ?_, ?_⟩⟩
      · simp only [List.length_append, List.length_take, List.length_drop, hxl, hcs]
        rw [hmul2]
        omega
      · simp only [List.size_toArray, List.length_append, List.length_take, List.length_drop, hL1, hcs]
        omega
      · rw [hmul2]
        exact ins_list cur.toList xs cs S (i * S) (n * S) hcs hle (by simpa using hle2) htake
    · exact grownBy_trans (grownBy_trans (grownBy_drew w _) (setRow_grownBy w.drew g _)) (setRow_grownBy _ g _)
    · intro ty dl dc sl sc hmin
      have e1 := run_copy_sz (P := P) w.drew ts ts ty e S g ((i + 1) * S) dl dc ⟨g, i * S, none⟩ sl sc cur e (xs.drop (i * S)) hu hs hg (by rw [hmin]; exact hdrop)
        (fun j u hj => by
          rw [addr_add]
          rw [List.getElem?_drop] at hj
          show w.cell? ⟨g, i * S + j, none⟩ = some u
          have hlt : i * S + j < n * S := by
            have := (List.getElem?_eq_some_iff.1 hj).1
            rwa [hxl] at this
          rw [hown.cellAt (i * S + j) hlt]
          exact hj)
        (by rw [hdrop, ← Nat.add_mul, hsz]; exact Nat.mul_le_mul_right S (by omega)) (fun u hu => h1x u (List.mem_of_mem_drop hu))
      rw [e1, hmin, hmul1]

theorem insert_grow_runs (S : Nat) (hS : 0 < S) (w : World) (ts e : TypeId) (hu : P.underlying ts = some (.slice e)) (i0 : TypeInfo) (z : Value) (hi0 : P.info? e = some i0) (hz : i0.zero = some z) (hsz : i0.size = S) (hby : i0.bytes ≤ 1000) (hzs : z.cells.size = S)
    (hint : P.underlying 3 = some (.int .i64)) (base g n cap i vb : Nat) (xs cs : List Value)
    (hown : w.ownsRow base e S (.slice (some ⟨g, 0, none⟩) n cap) n xs) (hbase : base ≤ w.heap.size) (hi : i < n) (hr : cap < n + 1) (hn : n ≤ 900000) (hcs : cs.length = S) (hvb : vb < w.heap.size) (hv : ∀ j u, cs[j]? = some u → w.cell? ⟨vb, j, none⟩ = some u)
    (h1x : ∀ u ∈ xs, u.oneCell' = true) (h1c : ∀ u ∈ cs, u.oneCell' = true) :
    ∃ w1 w2 w3 cap2, (∀ ty, (Builtin.append_ #[ts, 3] ty #[.slice (some ⟨g, 0, none⟩) i cap, .int .i64 ((n : Int) + 1 - (i : Int))]).run P w = .ok (.slice (some ⟨w.heap.size, 0, none⟩) (n + 1) cap2) w1) ∧ n + 1 ≤ cap2 ∧ cap2 ≤ maxLen ∧
      (∀ ty dl dc, 1 ≤ dl → (Builtin.copy_ #[ts, ts] ty #[.slice (some ⟨w.heap.size, i * S, none⟩) dl dc, .slice (some ⟨vb, 0, none⟩) 1 1]).run P w1 = .ok (goInt 1) w2) ∧
      (∀ ty dl dc sl sc, Nat.min sl dl = n - i → (Builtin.copy_ #[ts, ts] ty #[.slice (some ⟨w.heap.size, (i + 1) * S, none⟩) dl dc, .slice (some ⟨g, i * S, none⟩) sl sc]).run P w2.drew = .ok (goInt ((n - i : Nat) : Int)) w3) ∧
      w3.ownsRow base e S (.slice (some ⟨w.heap.size, 0, none⟩) (n + 1) cap2) (n + 1) (xs.take (i * S) ++ cs ++ xs.drop (i * S)) ∧ w.grownBy w3 (some g) := by
  have hs : (P.info? e).map (·.size) = some S := by rw [hi0]; simp [hsz]
  have hxl := hown.1
  have hmul1 : (i + 1) * S = i * S + S := Nat.succ_mul i S
  have hmul2 : (n + 1) * S = n * S + S := Nat.succ_mul n S
  have hle : i * S ≤ n * S := Nat.mul_le_mul_right S (by omega)
  have hdrop : (xs.drop (i * S)).length = (n - i) * S := by rw [List.length_drop, hown.1, Nat.sub_mul]
  have hgl : g < w.heap.size := (hown.lt g rfl).2
  have hcell : ∀ j u, (xs.take (i * S))[j]? = some u → w.cell? ((⟨g, 0, none⟩ : Addr).add j) = some u := fun j u hj => by
    rw [List.getElem?_take] at hj
    split at hj
    · rw [addr_add, Nat.zero_add, hown.cellAt j (by omega)]; exact hj
    · cases hj
  have e1 := fun ty => run_append_zeros_grow (P := P) w ts 3 ty e i0 z .i64 .i64 hu hint hi0 hz ⟨g, 0, none⟩ i cap (n + 1 - i) (xs.take (i * S)) (by rw [List.length_take, hxl, hsz]; omega) hcell (by omega) (by omega) (by omega) (by omega) hby
  rw [show i + (n + 1 - i) = n + 1 by omega, show ((n + 1 - i : Nat) : Int) = (n : Int) + 1 - (i : Int) by omega] at e1
  have hge := grownCap_ge w (n + 1) cap e
  have hcm : grownCap w (n + 1) cap e ≤ maxLen := grownCap_le_maxLen w (n + 1) cap e (by simp only [maxLen]; omega)
  generalize grownCap w (n + 1) cap e = cap2 at *
  obtain ⟨Z, hZ, hZl⟩ : ∃ Z : List Value, ((xs.take (i * S)).toArray ++ Builtin.zeroCells z.cells (n + 1 - i) ++ Builtin.zeroCells z.cells (cap2 - (n + 1))) = (xs.take (i * S) ++ Z).toArray ∧ Z.length = (cap2 - i) * S := by
    refine ⟨(Builtin.zeroCells z.cells (n + 1 - i)).toList ++ (Builtin.zeroCells z.cells (cap2 - (n + 1))).toList, ?_, ?_⟩
    · apply Array.ext'; simp
    · simp only [List.length_append, Array.length_toList, size_zeroCells, hzs, ← Nat.add_mul]; congr 1; omega
  rw [hZ] at e1
  have hg1 : (w.drew.alloc (.cells (xs.take (i * S) ++ Z).toArray e)).heap[w.heap.size]? = some (.cells (xs.take (i * S) ++ Z).toArray e (0, 0)) := heap_alloc_new w.drew _
  have htl : (xs.take (i * S)).length = i * S := by rw [List.length_take, hxl]; omega
  have hZs : i * S + Z.length = cap2 * S := by rw [hZl, ← Nat.add_mul]; congr 1; omega
  have hcap2 : n * S + S ≤ cap2 * S := by rw [← hmul2]; exact Nat.mul_le_mul_right S hge
  have hvb1 : ∀ j u, cs[j]? = some u → (w.drew.alloc (.cells (xs.take (i * S) ++ Z).toArray e)).cell? ⟨vb, j, none⟩ = some u := fun j u hj => by
    rw [World.cell?_alloc_past _ _ _ (by exact hvb)]
    exact hv j u hj
  let L1 : List Value := (xs.take (i * S) ++ Z).toArray.toList.take (i * S) ++ cs ++ (xs.take (i * S) ++ Z).toArray.toList.drop (i * S + cs.length)
  let W1 : World := w.drew.alloc (.cells (xs.take (i * S) ++ Z).toArray e)
  have hL1 : L1.length = cap2 * S := by
    simp only [L1, List.length_append, List.length_take, List.length_drop, hxl, hcs]; omega
  refine ⟨W1, W1.setRow w.heap.size L1.toArray, (W1.setRow w.heap.size L1.toArray).drew.setRow w.heap.size (L1.toArray.toList.take ((i + 1) * S) ++ xs.drop (i * S) ++ L1.toArray.toList.drop ((i + 1) * S + (xs.drop (i * S)).length)).toArray, cap2, e1, hge, hcm, ?_, ?_, ?_, ?_⟩
  · intro ty dl dc hdl
    refine (run_copy_sz _ ts ts ty e S w.heap.size (i * S) dl dc ⟨vb, 0, none⟩ 1 1 _ e cs hu hs hg1 (by rw [show Nat.min 1 dl = 1 by simp only [Nat.min_def]; split <;> omega, Nat.one_mul]; exact hcs) (fun j u hj => by rw [addr_add, Nat.zero_add]; exact hvb1 j u hj) ?_ h1c).trans ?_
    · simp only [List.size_toArray, List.length_append, htl, hcs]
      omega
    · rw [show Nat.min 1 dl = 1 by simp only [Nat.min_def]; split <;> omega]
      rfl
  · intro ty dl dc sl sc hmin
    have e2 := run_copy_sz (P := P) ((w.drew.alloc (.cells (xs.take (i * S) ++ Z).toArray e)).setRow w.heap.size ((xs.take (i * S) ++ Z).toArray.toList.take (i * S) ++ cs ++ (xs.take (i * S) ++ Z).toArray.toList.drop (i * S + cs.length)).toArray).drew ts ts ty e S w.heap.size ((i + 1) * S) dl dc ⟨g, i * S, none⟩ sl sc _ e (xs.drop (i * S)) hu hs (setRow_heap _ w.heap.size _ _ e _ hg1) (by rw [hmin]; exact hdrop)
      (fun j u hj => by
        rw [addr_add]
        rw [List.getElem?_drop] at hj
        have hlt : i * S + j < n * S := by
          have := (List.getElem?_eq_some_iff.1 hj).1
          rwa [hxl] at this
        refine (World.cell?_of_block (w := w) ?_).trans ((hown.cellAt (i * S + j) hlt).trans hj)
        exact (setRow_other _ w.heap.size g _ (by omega)).trans (Below.heap_alloc w.drew _ g hgl))
      (by
        simp only [List.size_toArray, List.length_append, List.length_take, List.length_drop, hxl, hcs]
        rw [hmul1]
        omega)
      (fun u hu => h1x u (List.mem_of_mem_drop hu))
    rw [e2, hmin]
  · refine ⟨?_, .inr ⟨w.heap.size, cap2, _, rfl, hbase, setRow_heap _ w.heap.size _ _ e _ (setRow_heap _ w.heap.size _ _ e _ hg1), hge, hcm, ?_, ?_⟩⟩
    · simp only [List.length_append, List.length_take, List.length_drop, hxl, hcs]
      rw [hmul2]
      omega
    · simp only [List.size_toArray, List.length_append, List.length_take, List.length_drop, hxl, hL1]
      rw [hmul1]
      omega
    · rw [hmul1, hmul2]
      exact ins_list_grow xs cs Z S (i * S) (n * S) hcs hle hxl
  · have g1 : w.grownBy (w.drew.alloc (.cells (xs.take (i * S) ++ Z).toArray e)) (some g) := ⟨rfl, rfl, rfl, by simp, fun k hk _ => Below.heap_alloc w.drew _ k hk⟩
    refine ⟨g1.os, g1.tape, g1.output, Nat.le_trans g1.size (by simp [W1]), fun k hk hne => ?_⟩
    have h1 := g1.block k hk hne
    exact (setRow_other _ w.heap.size k _ (by omega)).trans ((setRow_other _ w.heap.size k _ (by omega)).trans h1)
end Go.Proofs.Ytoolkpjbbngdpaa
