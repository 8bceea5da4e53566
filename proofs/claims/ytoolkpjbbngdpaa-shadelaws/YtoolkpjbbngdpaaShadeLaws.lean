/- ShadeLaws: whatever the tree and the three nodes, the law returns true: above is an order; hosts are above their shadows, and these above what is in them; who is connected has all above it connected. No condition. -/
import Derived.Laws.IdiomArrays
import Derived.Test.YtoolkpjbbngdpaaLawsS
import Derived.Test.YtoolkpjbbngdpaaRowKit1
namespace Go.Proofs.Ytoolkpjbbngdpaa
open Go.ChangeShapes Go.WideShapes Go.ChangeAt Go.RowKit

set_option maxRecDepth 100000 in
set_option maxHeartbeats 4000000 in
theorem laws_walk (T : List Nd) (v : Value) (a b c : Int) (w : World) (hT : TreeAt w v T) :
    Calls Try.prog 17 #[v, .agg #[.int .i64 a, .int .i64 b, .int .i64 c]] w fun e w' => e = .returned (.bool true) ∧ Below w.heap.size w w' := by
  have HA := hideG ((Below.refl _ w).alloc (Nat.le_refl _) (.cells #[.int .i64 a, .int .i64 b, .int .i64 c] 58))
  have HT0 := hideG hT
  have HT := hideG (hT.below HA.out)
  cases hs : smallB T
  · obtain ⟨ta, tc, rfl⟩ := hT.shape
    clear hT
    go_enter Try.func17, Try.ntmps17
    go_wp2_with (first | (go_at_call 19; refine (refSmall_any T _ _ HT.out).mono ?_; rintro e w1 ⟨rfl, rfl⟩) | (go_at_call 54; refine (live4_any _).mono ?_; rintro e w2 ⟨rfl, hb2⟩; simp only [World.size_alloc] at hb2))
    go_ret
    exact ⟨rfl, HA.out.trans (hb2.mono (by omega))⟩
  · have HS := hideG (small_sane hs)
    cases hab : bothB T a b
    · obtain ⟨ta, tc, rfl⟩ := hT.shape
      clear hT
      go_enter Try.func17, Try.ntmps17
      go_wp2_with (go_at_call 19; refine (refSmall_any T _ _ HT.out).mono ?_; rintro e w1 ⟨rfl, hw⟩; subst hw)
      go_quiet (fail)
      have HBq := hideG (below_drewN HA.out nq)
      have HTq := hideG (HT0.out.below HBq.out)
      generalize (w.alloc (.cells #[.int .i64 a, .int .i64 b, .int .i64 c] 58)).drewN nq = wq at *
      go_wp2_with (first | (go_at_call 38; refine (refBoth_any T HS.out _ _ _ _ HTq.out).mono ?_; rintro e wN ⟨rfl, hbN⟩; have HTn := hideG (HTq.out.below hbN); have HBn := hideG (HBq.out.trans (hbN.mono HBq.out.size)); clear hbN HTq HBq; have HTq := HTn; have HBq := HBn; clear HTn HBn) | (go_at_call 54; refine (live4_any _).mono ?_; rintro e w2 ⟨rfl, hb2⟩))
      go_ret
      exact ⟨rfl, HBq.out.trans (hb2.mono HBq.out.size)⟩
    · cases hbc : bothB T b c
      · obtain ⟨ta, tc, rfl⟩ := hT.shape
        clear hT
        go_enter Try.func17, Try.ntmps17
        go_wp2_with (go_at_call 19; refine (refSmall_any T _ _ HT.out).mono ?_; rintro e w1 ⟨rfl, hw⟩; subst hw)
        go_quiet (fail)
        have HBq := hideG (below_drewN HA.out nq)
        have HTq := hideG (HT0.out.below HBq.out)
        generalize (w.alloc (.cells #[.int .i64 a, .int .i64 b, .int .i64 c] 58)).drewN nq = wq at *
        go_wp2_with (first | (go_at_call 38; refine (refBoth_any T HS.out _ _ _ _ HTq.out).mono ?_; rintro e wN ⟨rfl, hbN⟩; have HTn := hideG (HTq.out.below hbN); have HBn := hideG (HBq.out.trans (hbN.mono HBq.out.size)); clear hbN HTq HBq; have HTq := HTn; have HBq := HBn; clear HTn HBn) | (go_at_call 54; refine (live4_any _).mono ?_; rintro e w2 ⟨rfl, hb2⟩))
        go_ret
        exact ⟨rfl, HBq.out.trans (hb2.mono HBq.out.size)⟩
      · obtain ⟨hm, ⟨a, rfl, ha⟩, b, rfl, hb⟩ := both_true hab
        obtain ⟨_, _, c, rfl, hc⟩ := both_true hbc
        obtain ⟨tb, to, tc, rfl, _⟩ := hT.at (by omega)
        have hx2 : aboveS T (a : Int) (b : Int) = true → (aboveS T (b : Int) (c : Int) = false ∨ (aboveS T (b : Int) (c : Int) = true ∧ aboveS T (a : Int) (c : Int) = true)) := fun h1 => by
          cases h2 : aboveS T (b : Int) (c : Int)
          · exact .inl rfl
          · exact .inr ⟨rfl, (above_iff hm hc).mpr (sup_trans hm hc ((above_iff hm hb).mp h1) ((above_iff hm hc).mp h2))⟩
        have hcB : aboveS T 0 (a : Int) = true → aboveS T (b : Int) (a : Int) = true → aboveS T 0 (b : Int) = true := fun h1 h2 =>
          (above_iff (a := 0) hm hb).mpr (sup_conn hm ha ((above_iff (a := 0) hm ha).mp h1) ((above_iff hm ha).mp h2))
        have haa : aboveS T (a : Int) (a : Int) = true := (above_iff hm ha).mpr (sup_self T a)
        cases ne : ((a : Int) != (b : Int))
        · have e : a = b := by simp at ne; omega
          have x1 : aboveS T (a : Int) (b : Int) = true := by rw [← e]; exact haa
          have x4 : aboveS T (b : Int) (a : Int) = true := by rw [← e]; exact haa
          refine laws_A T tb to tc a b c w HT0.out hs hm ha hab hbc ne x1 (hx2 x1) ?_
          cases h0 : aboveS T 0 (a : Int)
          · exact .inl rfl
          · exact .inr ⟨rfl, x4, hcB h0 x4⟩
        · cases x1 : aboveS T (a : Int) (b : Int)
          · refine laws_B T tb to tc a b c w HT0.out hs hm ha hab hbc ne x1 ?_
            cases h0 : aboveS T 0 (a : Int)
            · exact .inl rfl
            · cases x4 : aboveS T (b : Int) (a : Int)
              · exact .inr (.inl ⟨rfl, rfl⟩)
              · exact .inr (.inr ⟨rfl, rfl, hcB h0 x4⟩)
          · have x4 : aboveS T (b : Int) (a : Int) = false := by
              cases h2 : aboveS T (b : Int) (a : Int)
              · rfl
              · have := sup_antisym hm ha hb ((above_iff hm hb).mp x1) ((above_iff hm ha).mp h2)
                rw [this] at ne; simp at ne
            refine laws_C T tb to tc a b c w HT0.out hs hm ha hab hbc ne x1 x4 (hx2 x1) ?_
            cases h0 : aboveS T 0 (a : Int)
            · exact .inl rfl
            · exact .inr rfl

theorem cellsThree : Try.prog.cellsOf 58 = 3 := by kernel_rfl

section
variable {H : Type} {enc : TypeId × Value → H} {w : World} {base : Nat} {spare : Nat → Bool} {held : Bool}

set_option maxRecDepth 100000 in
theorem open_three {r : Reach} {b0 : Nat} {v : Value} {d : DataW H} {ps : List MemPlace} (hval : Value.okWide Try.prog w r b0 58 v) (h : DataW.Trod enc Try.prog w base spare held 58 v d ps) : ∃ x0 x1 x2 : Int, v = .agg #[.int .i64 x0, .int .i64 x1, .int .i64 x2] := by
  obtain ⟨cs, rfl, hz⟩ : ∃ cs, v = .agg cs ∧ cs.size = Try.prog.cellsOf 58 := by
    simp only [Value.okWide, Try.underlying58] at hval
    obtain ⟨cs, h1, h2, _⟩ := hval
    exact ⟨cs, h1, h2⟩
  obtain ⟨fuel, hf⟩ := h
  rw [cellsThree] at hz
  obtain ⟨l⟩ := cs
  match l, hz with
  | [c0, c1, c2], _ =>
    obtain ⟨y0, y1, y2, n, _, g0, g1, g2⟩ := trod_array3 Try.underlying58 cells3 hf
    obtain ⟨q0, e0, _, _⟩ := DataW.trod_int Try.underlying3 g0
    obtain ⟨q1, e1, _, _⟩ := DataW.trod_int Try.underlying3 g1
    obtain ⟨q2, e2, _, _⟩ := DataW.trod_int Try.underlying3 g2
    simp only [List.cons.injEq, and_true] at e0 e1 e2
    exact ⟨q0, q1, q2, by rw [e0, e1, e2]⟩
end

set_option maxRecDepth 100000 in
theorem laws_lifted (os : Os) (started : os.Started) (H : Type) (enc : TypeId × Value → H) :
    ReturnsInHanded {} Try.checked os 17 .any (Rows.shadeLawsSpec.pre6 enc Try.prog Try.f17 Rows.shadeLawsRow.domain false) (Rows.shadeLawsSpec.post enc Try.prog Try.f17 false true false false) := by
  refine returnsInHanded_of_change (C := Try.checked) (by kernel_rfl) started (by kernel_rfl) Try.func17
    (ChangeSpec.witness6 (enc := enc) (C := Try.checked) false ⟨#[], #[.slice none 0 0, .agg #[.int .i64 0, .int .i64 0, .int .i64 0]], []⟩ 8 (by kernel_rfl) (by kernel_rfl) (by kernel_rfl) (by kernel_rfl)) ?_
  intro W base args ds gs before hval0 hW _ _
  have hval : ∀ (j : Nat) t v, Try.f17.params[j]? = some t → args[j]? = some v → Value.okWide Try.prog W .any base t v := hval0
  have hW' := hW
  obtain ⟨p, q, hA0, hV, rfl, hfz, hnd⟩ := hW
  have hA : DataW.TrodAll enc Try.prog W 0 (fun _ => true) true Try.f17.params.toList args.toList ds p := hA0
  rw [Try.params17] at hA hval
  obtain ⟨v0, vs0, d0, ds0, p0, q0, hargs, rfl, rfl, h0, r0⟩ := trodAll_cons hA
  obtain ⟨v1, vs1, d1, ds1, p1, q1, rfl, rfl, rfl, h1, r1⟩ := trodAll_cons r0
  obtain ⟨rfl, rfl, rfl⟩ := trodAll_nil r1
  obtain rfl : args = #[v0, v1] := by cases args; simp_all
  obtain ⟨rfl, rfl⟩ := trodVars_none hV
  obtain ⟨T, hT⟩ := open_tree (hval 0 23 v0 rfl rfl) h0
  obtain ⟨x0, x1, x2, rfl⟩ := open_three (hval 1 58 v1 rfl rfl) h1
  clear hA0 hval0
  have hlt : ∀ x, x ∈ p0 ++ p1 → x.block < W.heap.size := fun x hx => by simpa using hW'.lt x (by simpa using hx)
  refine (laws_walk T v0 x0 x1 x2 W hT).mono fun e W' ⟨he, hg⟩ => ?_
  subst he
  have k0 := Below.trod laidOut' (by kernel_rfl) (of_decide_eq_true (by kernel_rfl)) h0 hg (fun x hx => hlt x (by simp [hx]))
  have k1 := Below.trod laidOut' (by kernel_rfl) (of_decide_eq_true (by kernel_rfl)) h1 hg (fun x hx => hlt x (by simp [hx]))
  exact ⟨_, rfl, _, _, _, [], p0 ++ (p1 ++ []), [], hW', trodAll_cons_mk (shut_bool Try.underlying4 _) trodAll_mk0, trodAll_cons_mk k0 (trodAll_cons_mk k1 trodAll_mk0), rfl, hg.frame _, fun h => by cases h⟩

/-- THE STATEMENT. -/
theorem shadeLaws_holds : Rows.ShadeLawsSaid :=
  OpenClaim.holds_of_wide 17 Try.f17 rfl rfl rfl rfl rfl rfl rfl ⟨rfl, rfl, rfl, rfl, rfl⟩ rfl rfl rfl rfl rfl (by kernel_rfl) Try.func17 (by kernel_rfl)
    (of_decide_eq_true (by kernel_rfl)) (by unfold Func.isWrapper; first | (rw [if_pos (by decide +kernel)]; kernel_rfl) | (rw [if_neg (by decide +kernel)]; exact ⟨rfl, rfl⟩))
    (fun os started H enc _ => laws_lifted os started H enc)
#print axioms shadeLaws_holds
end Go.Proofs.Ytoolkpjbbngdpaa
