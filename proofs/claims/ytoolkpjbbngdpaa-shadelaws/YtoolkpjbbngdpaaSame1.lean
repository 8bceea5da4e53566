/- Ints and Small of limelightref01. -/
import Derived.BigQuiet
import Derived.Test.YtoolkpjbbngdpaaMay
namespace Go.Proofs.Ytoolkpjbbngdpaa
open Go.RowKit

theorem list_ext_getD {l m : List Int} (hl : l.length = m.length) (h : ∀ j, j < l.length → l.getD j 0 = m.getD j 0) : l = m := by
  apply List.ext_getElem hl
  intro j h1 h2
  have := h j h1
  simpa [List.getD_eq_getElem?_getD, List.getElem?_eq_getElem h1, List.getElem?_eq_getElem h2] using this

set_option maxRecDepth 100000 in
set_option maxHeartbeats 1000000 in
theorem refInts_any (l m : List Int) (v u : Value) (w : World) (hl : IntsAt w v l) (hm : IntsAt w u m) (h1 : l.length ≤ 1000000) :
    Calls Try.prog 46 #[v, u] w fun e w' => e = .returned (.bool (decide (l = m))) ∧ Below w.heap.size w w' := by
  obtain ⟨a, cap, rfl, hc⟩ := hl
  obtain ⟨a', cap', rfl, hc'⟩ := hm
  by_cases hlen : l.length = m.length
  · have hne : ((l.length : Int) != (m.length : Int)) = false := by simp [hlen]
    have HC : Hid (0 < l.length → ∃ b off, a = some ⟨b, off, none⟩ ∧ ∀ j, j < l.length → w.cell? ⟨b, off + j, none⟩ = some (.int .i64 (l.getD j 0))) := hc
    have HC' : Hid (0 < m.length → ∃ b off, a' = some ⟨b, off, none⟩ ∧ ∀ j, j < m.length → w.cell? ⟨b, off + j, none⟩ = some (.int .i64 (m.getD j 0))) := hc'
    have HL : Hid (l.length = m.length) := hlen
    clear hc hc' hlen
    go_enter Try.func46, Try.ntmps46
    go_wp2_with fail
    go_loopw [5] (fun i wr => ∃ k : Nat, k ≤ l.length ∧ i = .int .i64 k ∧ Below w.heap.size w wr ∧ (∀ j, j < k → l.getD j 0 = m.getD j 0)) (fun i _ => l.length - (intOf i).toNat)
    case atStart => exact ⟨0, Nat.zero_le _, rfl, Below.refl _ _, fun j h => by omega⟩
    case round =>
      obtain ⟨k, hk, rfl, hB, hEq⟩ := hrel
      have HE : Hid (∀ j, j < k → l.getD j 0 = m.getD j 0) := hEq
      clear hEq
      by_cases hlt : k < l.length
      · obtain ⟨b, off, rfl, hd⟩ := HC.out (by omega)
        obtain ⟨b', off', rfl, hd'⟩ := HC'.out (by have := HL.out; omega)
        have c1 := cell_below hB (hd k hlt)
        have c2 := cell_below hB (hd' k (by have := HL.out; omega))
        have hlt' : k < m.length := by have := HL.out; omega
        clear hd hd'
        have HX : Hid (l.getD k 0 = m.getD k 0 ↔ l.getD k 0 = m.getD k 0) := Iff.rfl
        generalize hA1 : l.getD k 0 = x1 at c1
        generalize hA2 : m.getD k 0 = x2 at c2
        have HA1 : Hid (l.getD k 0 = x1) := hA1
        have HA2 : Hid (m.getD k 0 = x2) := hA2
        clear hA1 hA2 HX
        cases hx : (x1 != x2)
        · go_wp2_with fail
          go_quiet (fail)
          go_wp2_with fail
          go_roundw
          case rel =>
            refine ⟨k + 1, by omega, by go_num, below_drewN hB _, fun j hj => ?_⟩
            by_cases h : j = k
            · subst h; rw [HA1.out, HA2.out]; simpa using hx
            · exact HE.out j (by omega)
          case measure => simp [intOf]; omega
        · go_wp2_with fail
          go_quiet (fail)
          go_wp2_with fail
          go_ret
          refine ⟨ret_bool (Eq.symm (decide_eq_false (fun h => ?_))), below_drewN hB _⟩
          have e := HA1.out
          rw [h, HA2.out] at e
          simp [e] at hx
      · go_wp2_with fail
        go_ret
        exact ⟨ret_bool (Eq.symm (decide_eq_true (list_ext_getD HL.out (fun j hj => HE.out j (by omega))))), hB⟩
  · have hne : ((l.length : Int) != (m.length : Int)) = true := by simp; omega
    clear hc hc'
    go_enter Try.func46, Try.ntmps46
    go_wp2_with fail
    go_ret
    exact ⟨ret_bool (Eq.symm (decide_eq_false (fun h => hlen (by rw [h])))), Below.refl _ _⟩

def smallB (T : List Nd) : Bool := decide (T.length ≤ 70) && T.all fun x => decide (x.kids.length ≤ 80) && decide (x.attrs.length ≤ 20)
theorem smallB_of {T : List Nd} (h : T.length ≤ 70) (hx : ∀ j, j < T.length → (nd T j).kids.length ≤ 80 ∧ (nd T j).attrs.length ≤ 20) : smallB T = true := by
  simp only [smallB, Bool.and_eq_true, decide_eq_true_eq, List.all_eq_true]
  refine ⟨h, fun x hm => ?_⟩
  obtain ⟨j, hj, rfl⟩ := List.mem_iff_getElem.mp hm
  have := hx j hj
  simpa [nd, List.getD_eq_getElem?_getD, List.getElem?_eq_getElem hj] using this
theorem smallB_at {T : List Nd} (h : smallB T = true) : T.length ≤ 70 ∧ ∀ j, j < T.length → (nd T j).kids.length ≤ 80 ∧ (nd T j).attrs.length ≤ 20 := by
  simp only [smallB, Bool.and_eq_true, decide_eq_true_eq, List.all_eq_true] at h
  refine ⟨h.1, fun j hj => ?_⟩
  have := h.2 T[j] (List.getElem_mem hj)
  simpa [nd, List.getD_eq_getElem?_getD, List.getElem?_eq_getElem hj] using this
theorem smallB_len {T : List Nd} (h : ¬ T.length ≤ 70) : smallB T = false := by simp [smallB]; omega
theorem smallB_bad {T : List Nd} {j : Nat} (hj : j < T.length) (h : ¬ ((nd T j).kids.length ≤ 80 ∧ (nd T j).attrs.length ≤ 20)) : smallB T = false := by
  cases hs : smallB T
  · rfl
  · exact absurd ((smallB_at hs).2 j hj) h

set_option maxRecDepth 100000 in
set_option maxHeartbeats 1000000 in
theorem refSmall_any (T : List Nd) (v : Value) (w : World) (hT : TreeAt w v T) :
    Calls Try.prog 19 #[v] w fun e w' => e = .returned (.bool (smallB T)) ∧ w' = w := by
  have HT : Hid (TreeAt w v T) := hT
  obtain ⟨a, cap, rfl, _⟩ := hT
  by_cases h70 : T.length ≤ 70
  · go_enter Try.func19, Try.ntmps19
    go_wp2_with fail
    go_loopw [3] (fun i wr => ∃ k : Nat, k ≤ T.length ∧ i = .int .i64 k ∧ wr = w ∧ (∀ j, j < k → (nd T j).kids.length ≤ 80 ∧ (nd T j).attrs.length ≤ 20)) (fun i _ => T.length - (intOf i).toNat)
    case atStart => exact ⟨0, Nat.zero_le _, rfl, rfl, fun j h => by omega⟩
    case round =>
      obtain ⟨k, hk, rfl, rfl, hEq⟩ := hrel
      have HE : Hid (∀ j, j < k → (nd T j).kids.length ≤ 80 ∧ (nd T j).attrs.length ≤ 20) := hEq
      clear hEq
      by_cases hlt : k < T.length
      · obtain ⟨b, off, cap', hv, hc⟩ := HT.out.at (by omega)
        obtain ⟨rfl, rfl⟩ : a = some ⟨b, off, none⟩ ∧ cap = cap' := by simpa using hv
        obtain ⟨kv, av, hN⟩ := hc k hlt
        have c3 := hN.kidsc
        have c6 := hN.attrsc
        obtain ⟨ka, kc, rfl, _⟩ := hN.kids
        obtain ⟨aa, ac, rfl, _⟩ := hN.attrs
        clear hN hc hv
        by_cases hk8 : (nd T k).kids.length ≤ 80
        · by_cases ha2 : (nd T k).attrs.length ≤ 20
          · go_wp2_with fail
            go_roundw
            case rel =>
              refine ⟨k + 1, by omega, by go_num, trivial, fun j hj => ?_⟩
              by_cases h : j = k
              · subst h; exact ⟨hk8, ha2⟩
              · exact HE.out j (by omega)
            case measure => simp [intOf]; omega
          · go_wp2_with fail
            go_ret
            exact ⟨ret_bool (Eq.symm (smallB_bad hlt (fun h => ha2 h.2))), rfl⟩
        · go_wp2_with fail
          go_ret
          exact ⟨ret_bool (Eq.symm (smallB_bad hlt (fun h => hk8 h.1))), rfl⟩
      · go_wp2_with fail
        go_ret
        refine ⟨ret_bool ?_, rfl⟩
        rw [smallB_of h70 (fun j hj => HE.out j (by omega))]
        simp; omega
  · go_enter Try.func19, Try.ntmps19
    go_wp2_with fail
    go_loopw [3] (fun i wr => i = .int .i64 0 ∧ wr = w) (fun _ _ => 0)
    case atStart => exact ⟨rfl, rfl⟩
    case round =>
      obtain ⟨rfl, rfl⟩ := hrel
      by_cases h0 : 0 < T.length
      · go_wp2_with fail
        go_ret
        refine ⟨ret_bool ?_, rfl⟩
        rw [smallB_len h70]
        simp; omega
      · omega
end Go.Proofs.Ytoolkpjbbngdpaa
