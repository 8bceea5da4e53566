/- hidden of package limelightlaw07; what AimHides asks of the way. -/
import Derived.Test.YtgfdcllpmjhkeaaLive7
namespace Go.Proofs.Ytgfdcllpmjhkeaa
open Go.RowKit

set_option maxRecDepth 100000 in
set_option maxHeartbeats 2000000 in
theorem hidden_any (T : List Nd) (hm : mayB T = true) (v : Value) (n m : Nat) (hn : n < T.length) (hml : m < T.length) (w : World) (hT : TreeAt w v T) :
    Calls Try.prog 22 #[v, .int .i64 (n : Int), .int .i64 (m : Int)] w fun x w' => x = .returned (.bool (hidB T n m)) ∧ Below w.heap.size w w' := by
  have HT := hideG hT
  have HM := hideG hm
  have htl := top_lt hm hn
  obtain ⟨tb, to, tc, rfl, hct⟩ := hT.at (by omega)
  obtain ⟨kv, av, hN⟩ := hct _ htl
  have G0 := hideG hN.kind
  have ht0 : (0 : Int) ≤ (topN T n : Int) := by omega
  cases hk : ((nd T (topN T n)).kind == 3)
  · have HQ := hideG (show hidB T n m = false by simp [hidB, hk])
    clear hT hm hct hN
    go_enter Try.func22, Try.ntmps22
    go_wp2_with fail
    refine (refTop3_any T HM.out _ n hn _ HT.out).mono ?_
    rintro ex w1 ⟨rfl, hb1⟩
    have HB1 := hideG hb1
    have g0 := cell_below hb1 G0.out
    clear hb1
    go_wp2_with fail
    go_ret
    exact ⟨ret_bool HQ.out.symm, HB1.out⟩
  · have HQ := hideG (show hidB T n m = !aboveS T (topN T n : Int) (m : Int) by simp [hidB, hk])
    clear hT hm hct hN
    go_enter Try.func22, Try.ntmps22
    go_wp2_with fail
    refine (refTop3_any T HM.out _ n hn _ HT.out).mono ?_
    rintro ex w1 ⟨rfl, hb1⟩
    have HB1 := hideG hb1
    have g0 := cell_below hb1 G0.out
    clear hb1
    go_wp2_with fail
    refine (refAbove4_any T HM.out _ (topN T n : Int) m hml _ (HT.out.below HB1.out)).mono ?_
    rintro ex w2 ⟨rfl, hb2⟩
    have HB2 := hideG (HB1.out.trans (hb2.mono HB1.out.size))
    clear hb2 g0
    go_wp2_with fail
    go_ret
    exact ⟨ret_bool HQ.out.symm, HB2.out⟩

theorem getD_atS {l : List St} {k : Nat} (h : k < l.length) : l.getD k stD = l[k] := by rw [List.getD_eq_getElem?_getD, List.getElem?_eq_getElem h]; rfl
/-- What is told is told to somebody at a place on the way. -/
theorem path_at {T : List Nd} (hm : mayB T = true) {e : Ev} {tg : Nat} (he : e.target = (tg : Int)) (ht : tg < T.length) {k : Nat} (hk : k < (pathI T e).length) :
    ∃ x y : Nat, x < T.length ∧ y < T.length ∧ (pathI T e).getD k stD = ⟨(x : Int), (y : Int), ((pathI T e).getD k stD).rel⟩ ∧ hidB T y x = false ∧
      (((pathI T e).getD k stD).rel = -1 ∨ ∃ z : Nat, z < T.length ∧ ((pathI T e).getD k stD).rel = (z : Int) ∧ hidB T z x = false) := by
  have hp : pathI T e = pathA T e tg := by unfold pathI; rw [he, known_of hm ht]; simp
  rw [hp] at hk ⊢
  have hmem : (pathA T e tg).getD k stD ∈ pathA T e tg := by
    rw [List.getD_eq_getElem?_getD, List.getElem?_eq_getElem hk]; exact List.getElem_mem hk
  obtain ⟨x, hx, _, hs, _⟩ := pathA_mem hm e ht hmem
  rw [hs]
  obtain ⟨h1, h2⟩ := stop_tg hm he ht hx
  refine ⟨x, _, hx, h2, ?_, ret_hid hm ht hx, ?_⟩
  · rw [← h1]; rfl
  · rcases stop_rel hm (e := e) hx with h | ⟨r, y, _, hrl, hyl, h, hy⟩
    · exact .inl h
    · exact .inr ⟨y, hyl, h, by rw [hy]; exact ret_hid hm hrl hx⟩
theorem path_twice {T : List Nd} (hm : mayB T = true) {e : Ev} {tg : Nat} (he : e.target = (tg : Int)) (ht : tg < T.length) {j k : Nat} (hk : k < (pathI T e).length) (hj : j < k) :
    (((pathI T e).getD j stD).node == ((pathI T e).getD k stD).node) = false := by
  have hp : pathI T e = pathA T e tg := by unfold pathI; rw [he, known_of hm ht]; simp
  rw [hp] at hk ⊢
  have hnd := pathA_nodup hm e ht
  have hj' : j < (pathA T e tg).length := by omega
  rw [getD_atS hk, getD_atS hj']
  simp only [beq_eq_false_iff_ne]
  show ¬ _
  intro e1
  have := (List.getElem_inj (h₀ := by simpa using hj') (h₁ := by simpa using hk) hnd (i := j) (j := k)).mp (by simpa using e1)
  omega
/-- The first stop, and when there is none. -/
theorem path_first {T : List Nd} (hm : mayB T = true) {e : Ev} {tg : Nat} (he : e.target = (tg : Int)) (ht : tg < T.length) :
    (oneS e (stopT T e tg) = true ∧ pathI T e = []) ∨ (oneS e (stopT T e tg) = false ∧ 0 < (pathI T e).length ∧ ((pathI T e).getD 0 stD).node = (tg : Int) ∧ ((pathI T e).getD 0 stD).tg = (tg : Int)) := by
  have hp : pathI T e = pathA T e tg := by unfold pathI; rw [he, known_of hm ht]; simp
  rw [hp]
  cases ho : oneS e (stopT T e tg)
  · right
    have h1 : (stopT T e tg).tg = (tg : Int) := by rw [(stop_tg hm he ht ht).1, ret_self hm ht]
    rcases parA_cases hm e.target.toNat e.comp ht with h | ⟨m, _, h, _⟩
    · rw [pathA_none ht ho h]; exact ⟨rfl, by simp, rfl, h1⟩
    · rw [(pathA_some hm ht ho h).2.1]; exact ⟨rfl, by simp, rfl, h1⟩
  · left; exact ⟨rfl, pathA_stop hm ht ho⟩
/-- What AimHides asks first. -/
theorem one_first {T : List Nd} (hm : mayB T = true) {e : Ev} {tg : Nat} (he : e.target = (tg : Int)) (ht : tg < T.length) :
    oneS e (stopT T e tg) = (isNodeB T.length e.related && (e.related != (tg : Int)) && (retI T e.related (tg : Int) == (tg : Int))) := by
  have h1 : (stopT T e tg).tg = (tg : Int) := by rw [(stop_tg hm he ht ht).1, ret_self hm ht]
  unfold oneS
  rw [h1, he]
  show (((tg : Int) == retI T e.related (tg : Int)) && !((tg : Int) == e.related)) = _
  have e1 : ((tg : Int) == retI T e.related (tg : Int)) = (retI T e.related (tg : Int) == (tg : Int)) := Bool.beq_comm
  have e2 : ((tg : Int) == e.related) = (e.related == (tg : Int)) := Bool.beq_comm
  rw [e1, e2, bne]
  cases hi : isNodeB T.length e.related
  · have : retI T e.related (tg : Int) = -1 := by simp [retI, knownB, hi]
    rw [this]
    have : ((-1 : Int) == (tg : Int)) = false := by simp
    rw [this]; simp
  · cases (retI T e.related (tg : Int) == (tg : Int)) <;> cases (e.related == (tg : Int)) <;> rfl
end Go.Proofs.Ytgfdcllpmjhkeaa
