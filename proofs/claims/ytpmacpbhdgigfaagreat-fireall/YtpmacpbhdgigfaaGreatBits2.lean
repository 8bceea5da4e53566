/- slices.Index; the document's Ints and Small; what a tree that may be is, in parts. -/
import Derived.Test.YtpmacpbhdgigfaaGreatFineT
import Derived.BigQuiet
import Derived.Deep.RegionWith
namespace Go.Proofs.YtpmacpbhdgigfaaGreat
open Go.RowKit
theorem IntsAt.shape {w : World} {v : Value} {l : List Int} (h : IntsAt w v l) : ∃ a c, v = .slice a l.length c := by
  obtain ⟨a, cap, rfl, _⟩ := h
  exact ⟨a, cap, rfl⟩
theorem AttrsAt.shape {w : World} {v : Value} {l : List (Int × Int)} (h : AttrsAt w v l) : ∃ a c, v = .slice a l.length c := by
  obtain ⟨a, cap, rfl, _⟩ := h
  exact ⟨a, cap, rfl⟩
def idxL (x : Int) : List Int → Nat
  | [] => 0
  | a :: l => if x == a then 0 else idxL x l + 1
def indexI (l : List Int) (x : Int) : Int := if idxL x l < l.length then (idxL x l : Int) else -1
theorem idxL_mem {x : Int} : ∀ {l : List Int}, x ∈ l → idxL x l < l.length
  | [], h => by simp at h
  | a :: l, h => by
    simp only [idxL]
    cases e : (x == a)
    · rcases List.mem_cons.mp h with rfl | h
      · simp at e
      · have := idxL_mem h
        simp; omega
    · simp
theorem idx_hit {x : Int} : ∀ {l : List Int} {k : Nat}, k < l.length → (∀ j, j < k → (x == l.getD j 0) = false) → (x == l.getD k 0) = true → idxL x l = k
  | [], k, h, _, _ => by simp at h
  | a :: l, 0, _, _, h => by
    have h : (x == a) = true := by simpa using h
    simp only [idxL, h, if_true]
  | a :: l, k + 1, h, hb, hk => by
    have h0 : (x == a) = false := by have := hb 0 (by omega); simpa using this
    simp only [idxL, h0, Bool.false_eq_true, if_false]
    rw [idx_hit (l := l) (k := k) (by simpa using h) (fun j hj => by have := hb (j + 1) (by omega); simpa using this) (by simpa using hk)]
theorem idx_miss {x : Int} : ∀ {l : List Int}, (∀ j, j < l.length → (x == l.getD j 0) = false) → idxL x l = l.length
  | [], _ => rfl
  | a :: l, hb => by
    have h0 : (x == a) = false := by have := hb 0 (by simp); simpa using this
    simp only [idxL, h0, Bool.false_eq_true, if_false]
    rw [idx_miss (l := l) (fun j hj => by have := hb (j + 1) (by simpa using hj); simpa using this)]
    simp
set_option maxRecDepth 100000 in
set_option maxHeartbeats 1000000 in
theorem sliceIndex_any (l : List Int) (v : Value) (x : Int) (w : World) (hI : IntsAt w v l) (hl : l.length ≤ 1000000) :
    Calls Tryz.prog 142 #[v, .int .i64 x] w fun e w' => e = .returned (.int .i64 (indexI l x)) ∧ w' = w := by
  obtain ⟨a, cap, rfl, hc⟩ := hI
  go_enter Tryz.func142, Tryz.ntmps142
  go_wp2_with fail
  go_loopw [8] (fun i wr => ∃ k : Nat, k ≤ l.length ∧ i = .int .i64 k ∧ wr = w ∧ ∀ j, j < k → (x == l.getD j 0) = false) (fun i _ => l.length - (intOf i).toNat)
  case atStart => exact ⟨0, Nat.zero_le _, rfl, rfl, fun j h => by omega⟩
  case round =>
    obtain ⟨k, hk, rfl, rfl, hno⟩ := hrel
    have HN := hideG hno
    clear hno
    by_cases hlt : k < l.length
    · obtain ⟨b, off, rfl, hd⟩ := hc (by omega)
      have c1 := hd k hlt
      clear hd hc
      cases hx : (x == l.getD k 0)
      · have HX := hideG hx
        generalize l.getD k 0 = y at hx c1
        go_wp2_with fail
        go_roundw
        case rel =>
          refine ⟨k + 1, by omega, by go_num, trivial, fun j hj => ?_⟩
          by_cases e : j = k
          · rw [e]; exact HX.out
          · exact HN.out j (by omega)
        case measure => simp [intOf]; omega
      · have HX := hideG (idx_hit hlt HN.out hx)
        generalize l.getD k 0 = y at hx c1
        go_wp2_with fail
        go_ret
        exact ⟨ret_int (by rw [indexI, HX.out, if_pos hlt]), rfl⟩
    · clear hc
      have hke : k = l.length := by omega
      subst hke
      go_wp2_with fail
      go_ret
      exact ⟨ret_int (by rw [indexI, idx_miss HN.out, if_neg (by omega)]), rfl⟩
theorem list_ext_getD {l m : List Int} (hl : l.length = m.length) (h : ∀ j, j < l.length → l.getD j 0 = m.getD j 0) : l = m := by
  apply List.ext_getElem hl
  intro j h1 h2
  have := h j h1
  simpa [List.getD_eq_getElem?_getD, List.getElem?_eq_getElem h1, List.getElem?_eq_getElem h2] using this
def smallB (T : List Nd) : Bool := decide (T.length ≤ 70) && T.all fun x => decide (x.kids.length ≤ 80) && decide (x.attrs.length ≤ 20)
theorem smallB_of {T : List Nd} (h : T.length ≤ 70) (hx : ∀ j, j < T.length → (nd T j).kids.length ≤ 80 ∧ (nd T j).attrs.length ≤ 20) : smallB T = true := by
  simp only [smallB, Bool.and_eq_true, decide_eq_true_eq, List.all_eq_true]
  refine ⟨h, fun x hm => ?_⟩
  obtain ⟨j, hj, rfl⟩ := List.mem_iff_getElem.mp hm
  have := hx j hj
  simpa [nd, List.getD_eq_getElem?_getD, List.getElem?_eq_getElem hj] using this
theorem smallB_at {T : List Nd} (h : smallB T = true) : T.length ≤ 70 ∧ ∀ j, j < T.length → (nd T j).kids.length ≤ 80 ∧ (nd T j).attrs.length ≤ 20 := by
  simp only [smallB, Bool.and_eq_true, decide_eq_true_eq, List.all_eq_true] at h
  refine ⟨h.1, fun j hj => ?_⟩
  have := h.2 T[j] (List.getElem_mem hj)
  simpa [nd, List.getD_eq_getElem?_getD, List.getElem?_eq_getElem hj] using this
theorem smallB_len {T : List Nd} (h : ¬ T.length ≤ 70) : smallB T = false := by simp [smallB]; omega
theorem smallB_bad {T : List Nd} {j : Nat} (hj : j < T.length) (h : ¬ ((nd T j).kids.length ≤ 80 ∧ (nd T j).attrs.length ≤ 20)) : smallB T = false := by
  cases hs : smallB T
  · rfl
  · exact absurd ((smallB_at hs).2 j hj) h
set_option maxRecDepth 100000 in
set_option maxHeartbeats 1000000 in
theorem refSmall_any (T : List Nd) (v : Value) (w : World) (hT : TreeAt w v T) :
    Calls Tryz.prog 48 #[v] w fun e w' => e = .returned (.bool (smallB T)) ∧ w' = w := by
  have HT : Hid (TreeAt w v T) := hT
  obtain ⟨a, cap, rfl, _⟩ := hT
  by_cases h70 : T.length ≤ 70
  · go_enter Tryz.func48, Tryz.ntmps48
    go_wp2_with fail
    go_loopw [3] (fun i wr => ∃ k : Nat, k ≤ T.length ∧ i = .int .i64 k ∧ wr = w ∧ (∀ j, j < k → (nd T j).kids.length ≤ 80 ∧ (nd T j).attrs.length ≤ 20)) (fun i _ => T.length - (intOf i).toNat)
    case atStart => exact ⟨0, Nat.zero_le _, rfl, rfl, fun j h => by omega⟩
    case round =>
      obtain ⟨k, hk, rfl, rfl, hEq⟩ := hrel
      have HE : Hid (∀ j, j < k → (nd T j).kids.length ≤ 80 ∧ (nd T j).attrs.length ≤ 20) := hEq
      clear hEq
      by_cases hlt : k < T.length
      · obtain ⟨b, off, cap', hv, hc⟩ := HT.out.at (by omega)
        obtain ⟨rfl, rfl⟩ : a = some ⟨b, off, none⟩ ∧ cap = cap' := by simpa using hv
        obtain ⟨kv, av, hN⟩ := hc k hlt
        have c3 := hN.kidsc
        have c6 := hN.attrsc
        obtain ⟨ka, kc, rfl, _⟩ := hN.kids
        obtain ⟨aa, ac, rfl, _⟩ := hN.attrs
        clear hN hc hv
        by_cases hk8 : (nd T k).kids.length ≤ 80
        · by_cases ha2 : (nd T k).attrs.length ≤ 20
          · go_wp2_with fail
            go_roundw
            case rel =>
              refine ⟨k + 1, by omega, by go_num, trivial, fun j hj => ?_⟩
              by_cases h : j = k
              · subst h; exact ⟨hk8, ha2⟩
              · exact HE.out j (by omega)
            case measure => simp [intOf]; omega
          · go_wp2_with fail
            go_ret
            exact ⟨ret_bool (Eq.symm (smallB_bad hlt (fun h => ha2 h.2))), rfl⟩
        · go_wp2_with fail
          go_ret
          exact ⟨ret_bool (Eq.symm (smallB_bad hlt (fun h => hk8 h.1))), rfl⟩
      · go_wp2_with fail
        go_ret
        refine ⟨ret_bool ?_, rfl⟩
        rw [smallB_of h70 (fun j hj => HE.out j (by omega))]
        simp; omega
  · go_enter Tryz.func48, Tryz.ntmps48
    go_wp2_with fail
    go_loopw [3] (fun i wr => i = .int .i64 0 ∧ wr = w) (fun _ _ => 0)
    case atStart => exact ⟨rfl, rfl⟩
    case round =>
      obtain ⟨rfl, rfl⟩ := hrel
      by_cases h0 : 0 < T.length
      · go_wp2_with fail
        go_ret
        refine ⟨ret_bool ?_, rfl⟩
        rw [smallB_len h70]
        simp; omega
      · omega
/-- No list of kids is long. -/
theorem fine_short {T : List Nd} (h : Fine T) {n : Nat} (hn : n < T.length) : (nd T n).kids.length ≤ 64 := by
  have hnd := h.nodup n hn
  have hk := h.kid n hn
  have h1 : ((nd T n).kids.map Int.toNat).Nodup := by
    have : ∀ l : List Int, l.Nodup → (∀ k ∈ l, 0 ≤ k) → (l.map Int.toNat).Nodup := by
      intro l hl hp
      induction l with
      | nil => simp
      | cons a l ih =>
        rw [List.nodup_cons] at hl
        rw [List.map_cons, List.nodup_cons]
        refine ⟨fun hm => ?_, ih hl.2 (fun k hk => hp k (List.mem_cons_of_mem _ hk))⟩
        obtain ⟨x, hx, he⟩ := List.mem_map.mp hm
        have h1 := hp a (List.mem_cons_self ..)
        have h2 := hp x (List.mem_cons_of_mem _ hx)
        have : x = a := by omega
        exact hl.1 (this ▸ hx)
    exact this _ hnd (fun k hk' => by
      obtain ⟨m, hm, _⟩ := isNodeB_true (hk k hk').1
      omega)
  have h2 := pigeon T.length _ h1 (fun x hx => by
    obtain ⟨k, hk', rfl⟩ := List.mem_map.mp hx
    obtain ⟨m, hm, hl⟩ := isNodeB_true (hk k hk').1
    omega)
  rw [List.length_map] at h2
  have := h.le
  omega
def HostP (T : List Nd) (n : Nat) : Prop := ((nd T n).kind ≠ 3 ∧ (nd T n).host = -1) ∨ ((nd T n).kind = 3 ∧ ∃ h : Nat, h < T.length ∧ (nd T n).host = (h : Int) ∧ (nd T h).kind = 1 ∧ (nd T h).root = (n : Int))
def RootP (T : List Nd) (n : Nat) : Prop := (nd T n).root = -1 ∨ ((nd T n).kind = 1 ∧ ∃ r : Nat, r < T.length ∧ (nd T n).root = (r : Int) ∧ (nd T r).kind = 3 ∧ (nd T r).host = (n : Int))
def KidP (T : List Nd) (p : Nat) (k : Int) : Prop := ∃ m : Nat, k = m ∧ m < T.length ∧ canBeKidB (nd T m).kind = true ∧ (nd T m).parent = (p : Int)
theorem hostP_iff {T : List Nd} {n : Nat} : hostFitsB T n = true ↔ HostP T n := by
  unfold hostFitsB HostP
  by_cases hk : (nd T n).kind = 3
  · rw [hk]
    simp only [bne_self_eq_false, Bool.false_eq_true, if_false, Bool.and_eq_true, beq_iff_eq]
    constructor
    · rintro ⟨⟨h1, h2⟩, h3⟩
      obtain ⟨m, hm, hl⟩ := isNodeB_true h1
      rw [hm, Int.toNat_natCast] at h2 h3
      exact .inr ⟨trivial, m, hl, hm, h2, h3⟩
    · rintro (⟨h, _⟩ | ⟨_, m, hl, hm, h2, h3⟩)
      · exact absurd rfl h
      · rw [hm, Int.toNat_natCast]
        exact ⟨⟨by simp [isNodeB]; omega, h2⟩, h3⟩
  · have e : ((nd T n).kind != 3) = true := by simpa using hk
    rw [e]
    simp only [if_true, beq_iff_eq]
    constructor
    · intro h; exact .inl ⟨hk, h⟩
    · rintro (⟨_, h⟩ | ⟨h, _⟩)
      · exact h
      · exact absurd h hk
theorem rootP_iff {T : List Nd} {n : Nat} : rootFitsB T n = true ↔ RootP T n := by
  unfold rootFitsB RootP
  by_cases hr : (nd T n).root = -1
  · rw [hr]; simp
  · by_cases hk : (nd T n).kind = 1
    · have e : ((nd T n).kind != 1 || (nd T n).root == -1) = false := by simp [hk, hr]
      rw [e]
      simp only [Bool.false_eq_true, if_false, Bool.and_eq_true, beq_iff_eq]
      constructor
      · rintro ⟨⟨h1, h2⟩, h3⟩
        obtain ⟨m, hm, hl⟩ := isNodeB_true h1
        rw [hm, Int.toNat_natCast] at h2 h3
        exact .inr ⟨hk, m, hl, hm, h2, h3⟩
      · rintro (h | ⟨_, m, hl, hm, h2, h3⟩)
        · exact absurd h hr
        · rw [hm, Int.toNat_natCast]
          exact ⟨⟨by simp [isNodeB]; omega, h2⟩, h3⟩
    · have e : ((nd T n).kind != 1 || (nd T n).root == -1) = true := by simp [hk]
      rw [e]
      simp only [if_true, beq_iff_eq]
      constructor
      · intro h; exact absurd h hr
      · rintro (h | ⟨h, _⟩)
        · exact h
        · exact absurd h hk
theorem kidP_iff {T : List Nd} {p : Nat} {k : Int} : kidFine T p k ↔ KidP T p k := by
  constructor
  · rintro ⟨h1, h2, h3⟩
    obtain ⟨m, rfl, hl⟩ := isNodeB_true h1
    rw [Int.toNat_natCast] at h2 h3
    exact ⟨m, rfl, hl, h2, h3⟩
  · rintro ⟨m, rfl, hl, h2, h3⟩
    exact ⟨by simp [isNodeB]; omega, by rwa [Int.toNat_natCast], by rwa [Int.toNat_natCast]⟩
/-- Two trees of the same nodes, but for kids and parents. -/
theorem fine_up {T : List Nd} (h : Fine T) {n m : Nat} (hn : n < T.length) (e : overI (nd T n) = (m : Int)) : m < T.length := by
  have hup := mayB_upOk (fine_mayB h)
  rcases hup n hn with h1 | h1
  · rw [e] at h1; simp at h1
  · rw [e] at h1
    obtain ⟨q, hq, hl⟩ := isNodeB_true h1
    omega
theorem over_parent {x : Nd} (h : x.kind ≠ 3) : overI x = x.parent := by
  unfold overI
  have : (x.kind == 3) = false := by simpa using h
  rw [this]; rfl
theorem kid_not_shadow {k : Int} (h : canBeKidB k = true) : k ≠ 3 := by
  rintro rfl
  exact absurd h (by decide)
theorem nd_mem {T : List Nd} {n : Nat} (h : n < T.length) : nd T n ∈ T := by
  unfold nd
  rw [List.getD_eq_getElem?_getD, List.getElem?_eq_getElem h]
  exact List.getElem_mem h
def shortB (T : List Nd) : Bool := T.all fun x => decide (x.kids.length ≤ 1000) && decide (x.attrs.length ≤ 1000)
theorem sane_of {T : List Nd} (h : shortB T = true) : Sane T := fun n hn => by
  have := List.all_eq_true.mp h _ (nd_mem hn)
  simp only [Bool.and_eq_true, decide_eq_true_eq] at this
  omega
theorem ints_new1 (w : World) (x : Int) : IntsAt (w.alloc (.cells #[.int .i64 x] 3)) (.slice (some ⟨w.heap.size, 0, none⟩) 1 1) [x] := by
  refine ⟨_, 1, rfl, fun _ => ⟨w.heap.size, 0, rfl, fun j hj => ?_⟩⟩
  match j, hj with
  | 0, _ => simp
theorem small_sane {T : List Nd} (h : smallB T = true) : Sane T := fun n hn => by have := (smallB_at h).2 n hn; omega
theorem fine_host {T : List Nd} (hF : Fine T) {n : Nat} (hn : n < T.length) (e : (nd T n).kind = 3) : ∃ h : Nat, h < T.length ∧ (nd T n).host = (h : Int) ∧ (nd T h).kind = 1 ∧ (nd T h).root = (n : Int) := by
  have h := hF.host n hn
  rw [hostFitsB, e] at h
  simp only [bne_self_eq_false, Bool.false_eq_true, if_false, Bool.and_eq_true, beq_iff_eq] at h
  obtain ⟨⟨h1, h2⟩, h3⟩ := h
  obtain ⟨m, hm, hl⟩ := isNodeB_true h1
  rw [hm, Int.toNat_natCast] at h2 h3
  exact ⟨m, hl, hm, h2, h3⟩
theorem refMay_walk (T : List Nd) (hS : Sane T) (v : Value) (w : World) (hT : TreeAt w v T) :
    Calls Tryz.prog 44 #[v] w fun e w' => e = .returned (.bool (mayB T)) ∧ Below w.heap.size w w' := by
  rw [← refMay_eq]; exact refMay_any T hS v w hT
theorem intCells_snoc (l : List Int) (x : Int) : intCells l ++ [.int .i64 x] = intCells (l ++ [x]) := by simp [intCells]
theorem row_new1 (w : World) (x : Int) : Holds (w.alloc (.cells #[.int .i64 x] 3)) (.slice (some ⟨w.heap.size, 0, none⟩) 1 1) 1 [.int .i64 x] := by
  refine .inl ⟨⟨w.heap.size, 0, none⟩, 1, rfl, fun j u hj => ?_⟩
  rw [addr_add, Nat.zero_add, World.cell?_alloc_at _ _ _ _ (by simp)]
  simpa using hj

end Go.Proofs.YtpmacpbhdgigfaaGreat
