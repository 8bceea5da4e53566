/- listen.Add, Drop, Check, and the document's own. -/
import Derived.Test.YtahnkhgaopaaoabHear3
import Derived.Test.YtahnkhgaopaaoabHearC
namespace Go.Proofs.Ytahnkhgaopaaoab
open Go.RowKit

theorem holds_below {w w' : World} {u : Value} {m : Nat} {news : List Value} (h : Holds w u m news) (hb : Below w.heap.size w w') : Holds w' u m news := by
  rcases h with ⟨ad, c, rfl, hc⟩ | h
  · exact .inl ⟨ad, c, rfl, fun j x hx => cell_below hb (hc j x hx)⟩
  · exact .inr h
theorem wp_append_any {P : Program} {w : World} {o : Oper} {a : Act} {K : Act → World → Prop} {Q : Exit → Act → World → Prop} (s x : Operand) (t : TypeId)
    (ho : o.op = .call { callee := .builtin .append, args := #[s, x], argTypes := #[t, t] })
    (base : Nat) (e : TypeId) (i : TypeInfo) (z : Value) (size bytes : Nat) (ht : P.underlying t = some (.slice e)) (hi : P.info? e = some i) (hz : i.zero = some z)
    (hsize : i.size = size) (hby : i.bytes = bytes) (hzs : z.cells.size = size) (hsz : 0 < size)
    (v : Value) (n : Nat) (xs : List Value) (hs : a.eval s = v) (hown : w.ownsRow base e size v n xs)
    (u : Value) (m : Nat) (news : List Value) (hx : a.eval x = u) (hu : Holds w u m news) (hl : news.length = m * size) (h1 : ∀ x ∈ news, x.oneCell' = true)
    (h63 : n + m ≤ maxLen) (hbytes : (n + m) * bytes ≤ 140737488355328) (hbase : base ≤ w.heap.size)
    (h : ∀ v' w', w'.ownsRow base e size v' (n + m) (xs ++ news) → w.grownBy w' v.ownBlock → (∀ k, v'.ownBlock = some k → v.ownBlock = some k ∨ w.heap.size ≤ k) → K (a.put o.dst v') w') : Oper.wp P o a w K Q := by
  obtain ⟨v', w', hrun, h2, h3, h4⟩ := append_any (P := P) w base t o.type e i z size bytes ht hi hz hsize hby hzs hsz v n xs hown u m news hu hl h1 h63 hbytes hbase
  unfold Oper.wp
  simp [execOp, ho, resolve, invoke, builtin, hs, hx, hrun, Result.andThen, Oper.upon]
  exact h v' w' h2 h3 h4

def addE (l : List Hr) (h : Hr) : Int := if mayH h then (if hasB l h then 0 else if 64 ≤ l.length then 4 else 0) else 1
def addL (l : List Hr) (h : Hr) : List Hr := if mayH h && !hasB l h && decide (l.length < 64) then l ++ [h] else l

set_option maxRecDepth 100000 in
set_option maxHeartbeats 4000000 in
theorem add_any (l : List Hr) (h : Hr) (v : Value) (w : World) (hL : HearsAt w v l) (hl : l.length ≤ 100000) :
    Calls Try.prog 9 #[v, .agg #[.int .i64 h.node, .int .i64 h.type, .bool h.cap, .bool h.once, .int .i64 h.prog]] w fun x w' => ∃ a c, x = .returned (.tuple #[.slice a (addL l h).length c, .int .i64 (addE l h)]) ∧ HearsAt w' (.slice a (addL l h).length c) (addL l h) ∧ Below w.heap.size w w' := by
  obtain ⟨i0, hi0, hz0, hz1, hz2⟩ := info_parts infoT24
  have h6 : l.length ≤ 1000000 := by omega
  have HL := hideG hL
  obtain ⟨a, cap, rfl⟩ := hL.shape
  obtain ⟨W0, hW0⟩ : ∃ W0, w.alloc (.cells #[.int .i64 h.node, .int .i64 h.type, .bool h.cap, .bool h.once, .int .i64 h.prog] 24) = W0 := ⟨_, rfl⟩
  have HH : Hid (HearAt W0 w.heap.size 0 h) := by rw [← hW0]; exact ⟨by simp, by simp, by simp, by simp, by simp⟩
  have HB0 := hideG (show Below w.heap.size w W0 by rw [← hW0]; exact (Below.refl _ w).alloc (Nat.le_refl _) _)
  have HW0 := hideG hW0
  clear hL hW0
  cases hm : mayH h
  · have hq1 : addL l h = l := by simp [addL, hm]
    have hq2 : addE l h = 1 := by simp [addE, hm]
    rw [hq1, hq2]
    have HM := hideG hm
    clear hm hq1 hq2
    go_enter Try.func9, Try.ntmps9
    go_wp2_with fail
    rw [HW0.out]
    refine (mayBe_any h _).mono ?_
    rintro e w1 ⟨rfl, hb1⟩
    rw [HM.out]
    have HB1 := hideG (HB0.out.trans (hb1.mono HB0.out.size))
    have HG := hideG (HH.out.below hb1)
    have h0 := HG.out.node
    have h1 := HG.out.type
    have h2 := HG.out.cap
    have h3 := HG.out.once
    have h4 := HG.out.prog
    clear hb1
    go_wp2_with fail
    go_ret2
    exact ⟨a, cap, rfl, HL.out.below HB1.out, HB1.out⟩
  · have HM := hideG hm
    cases hh : hasB l h
    · have EF := hideG (show hasB l h = false by exact hh)
      by_cases h64 : (64 : Int) ≤ (l.length : Int)
      · have hq1 : addL l h = l := by simp [addL, hm, hh]; omega
        have hq2 : addE l h = 4 := by simp [addE, hm, hh]; omega
        rw [hq1, hq2]
        clear hm hh hq1 hq2
        go_enter Try.func9, Try.ntmps9
        go_wp2_with fail
        rw [HW0.out]
        refine (mayBe_any h _).mono ?_
        rintro e w1 ⟨rfl, hb1⟩
        rw [HM.out]
        have HB1 := hideG (HB0.out.trans (hb1.mono HB0.out.size))
        have HG := hideG (HH.out.below hb1)
        have h0 := HG.out.node
        have h1 := HG.out.type
        have h2 := HG.out.cap
        have h3 := HG.out.once
        have h4 := HG.out.prog
        clear hb1
        go_wp2_with fail
        refine (has_any l h _ _ (HL.out.below HB1.out) h6).mono ?_
        rintro e w2 ⟨rfl, hb2⟩
        rw [EF.out]
        have HB2 := hideG (HB1.out.trans (hb2.mono HB1.out.size))
        have HG2 := hideG (HG.out.below hb2)
        clear hb2 h0 h1 h2 h3 h4
        have h0 := HG2.out.node
        have h1 := HG2.out.type
        have h2 := HG2.out.cap
        have h3 := HG2.out.once
        have h4 := HG2.out.prog
        go_wp2_with fail
        go_ret2
        exact ⟨a, cap, rfl, HL.out.below HB2.out, HB2.out⟩
      · have hq1 : addL l h = l ++ [h] := by simp [addL, hm, hh]; omega
        have hq2 : addE l h = 0 := by simp [addE, hm, hh]; omega
        rw [hq1, hq2]
        clear hm hh hq1 hq2
        go_enter Try.func9, Try.ntmps9
        go_wp2_with fail
        rw [HW0.out]
        refine (mayBe_any h _).mono ?_
        rintro e w1 ⟨rfl, hb1⟩
        rw [HM.out]
        have HB1 := hideG (HB0.out.trans (hb1.mono HB0.out.size))
        have HG := hideG (HH.out.below hb1)
        have h0 := HG.out.node
        have h1 := HG.out.type
        have h2 := HG.out.cap
        have h3 := HG.out.once
        have h4 := HG.out.prog
        clear hb1
        go_wp2_with fail
        refine (has_any l h _ _ (HL.out.below HB1.out) h6).mono ?_
        rintro e w2 ⟨rfl, hb2⟩
        rw [EF.out]
        have HB2 := hideG (HB1.out.trans (hb2.mono HB1.out.size))
        have HG2 := hideG (HG.out.below hb2)
        clear hb2 h0 h1 h2 h3 h4
        have h0 := HG2.out.node
        have h1 := HG2.out.type
        have h2 := HG2.out.cap
        have h3 := HG2.out.once
        have h4 := HG2.out.prog
        go_wp2_with fail
        have HCL := hideG (show ∀ U, Below w2.heap.size w2 U → Calls Try.prog 20 #[.slice a l.length cap] U (fun e w' => ∃ a3 c3, e = .returned (.slice a3 l.length c3) ∧ w'.ownsRow w2.heap.size 24 5 (.slice a3 l.length c3) l.length (hearCells l) ∧ Below U.heap.size U w' ∧ Below w2.heap.size w2 w') from fun U hU => by
          refine (cloneHears_any l _ _ (HL.out.below (HB2.out.trans (hU.mono HB2.out.size))) h6).mono ?_
          rintro e w' ⟨a3, c3, rfl, ho, hb⟩
          exact ⟨a3, c3, rfl, ownsRow_base ho hU.size, hb, hU.trans (hb.mono hU.size)⟩)
        have hwb : w.heap.size < w2.heap.size := below_of_cell h0
        go_region_held3 (fun w' => Below w2.heap.size w2 w' ∧ w'.cell? ⟨w.heap.size, 0, none⟩ = some (.int .i64 h.node) ∧ w'.cell? ⟨w.heap.size, 1, none⟩ = some (.int .i64 h.type) ∧ w'.cell? ⟨w.heap.size, 2, none⟩ = some (.bool h.cap) ∧ w'.cell? ⟨w.heap.size, 3, none⟩ = some (.bool h.once) ∧ w'.cell? ⟨w.heap.size, 4, none⟩ = some (.int .i64 h.prog)) (refine ⟨?_, ?_, ?_, ?_, ?_, ?_⟩ <;> first | assumption | exact below_drew' (Below.refl _ _) | exact below_drew' (by assumption) | exact Below.alloc (by assumption) (Below.size (by assumption)) _ | exact (below_drew' (Below.refl _ _)).alloc (Nat.le_refl _) _ | exact cell_below (by assumption) h0 | exact cell_below (by assumption) h1 | exact cell_below (by assumption) h2 | exact cell_below (by assumption) h3 | exact cell_below (by assumption) h4 | go_keep) (first | (go_at_call 20; refine Calls.mono (HCL.out _ (by first | assumption | exact below_drew' (Below.refl _ _) | exact (below_drew' (Below.refl _ _)).alloc (Nat.le_refl _) _ | exact Below.alloc (by assumption) (Below.size (by assumption)) _)) ?_; rintro e w' ⟨a3, c3, rfl, ho3, hu3, hb3⟩) | (rw [if_pos (by rfl)]; refine wp_append_any (.tmp 22) (.tmp 24) 22 rfl w2.heap.size 24 i0 _ 5 32 Try.underlying22 hi0 hz0 hz1 hz2 rfl (by decide) _ l.length (hearCells l) rfl (by first | assumption | exact World.ownsRow.alloc (by assumption) _) _ 1 [.int .i64 h.node, .int .i64 h.type, .bool h.cap, .bool h.once, .int .i64 h.prog] rfl (by first | exact row_newH _ h | exact holds_below (row_newH w2.drew h) (by assumption)) rfl (fun y hy => by simp at hy; rcases hy with rfl | rfl | rfl | rfl | rfl <;> rfl) (by simp only [maxLen]; omega) (by omega) (by first | exact Below.size (by assumption) | exact Below.size (Below.alloc (by assumption) (Below.size (by assumption)) _)) ?_; intro v4 w4 ho4 hg4 hf4; have hb4 : Below w2.heap.size w2 w4 := Below.grown (by first | assumption | exact Below.alloc (by assumption) (Below.size (by assumption)) _) hg4 (by first | exact Below.size (by assumption) | exact Below.size (Below.alloc (by assumption) (Below.size (by assumption)) _)) (fun j e => (World.ownsRow.lt (by assumption) j e).1)))
        all_goals
          have HB4 := hideG (HB2.out.trans (Below.mono (by assumption : Below w2.heap.size w2 w4) HB2.out.size))
          have HOx := hideG (by assumption : w4.ownsRow w2.heap.size 24 5 v4 (l.length + 1) (hearCells l ++ [.int .i64 h.node, .int .i64 h.type, .bool h.cap, .bool h.once, .int .i64 h.prog]))
          obtain ⟨a4, c4, hv4⟩ := ownsRow_shape HOx.out
          subst hv4
          have ec : hearCells l ++ [.int .i64 h.node, .int .i64 h.type, .bool h.cap, .bool h.once, .int .i64 h.prog] = hearCells (l ++ [h]) := by rw [hearCells_append]; rfl
          rw [ec] at HOx
          have hl4 : l.length + 1 = (l ++ [h]).length := by simp
          have HL4 := hideG hl4
          rw [hl4] at HOx
          have HH4 := hideG (ownsRow_hears HOx.out)
          clear HOx ec hl4
          go_wp2_with fail
          go_ret2
          refine ⟨a4, c4, ?_, HH4.out, HB4.out⟩
          rw [← HL4.out]
          rfl
    · have EF := hideG (show hasB l h = true from hh)
      have hq1 : addL l h = l := by simp [addL, hm, hh]
      have hq2 : addE l h = 0 := by simp [addE, hm, hh]
      rw [hq1, hq2]
      clear hm hh hq1 hq2
      go_enter Try.func9, Try.ntmps9
      go_wp2_with fail
      rw [HW0.out]
      refine (mayBe_any h _).mono ?_
      rintro e w1 ⟨rfl, hb1⟩
      rw [HM.out]
      have HB1 := hideG (HB0.out.trans (hb1.mono HB0.out.size))
      have HG := hideG (HH.out.below hb1)
      have h0 := HG.out.node
      have h1 := HG.out.type
      have h2 := HG.out.cap
      have h3 := HG.out.once
      have h4 := HG.out.prog
      clear hb1
      go_wp2_with fail
      refine (has_any l h _ _ (HL.out.below HB1.out) h6).mono ?_
      rintro e w2 ⟨rfl, hb2⟩
      rw [EF.out]
      have HB2 := hideG (HB1.out.trans (hb2.mono HB1.out.size))
      have HG2 := hideG (HG.out.below hb2)
      clear hb2 h0 h1 h2 h3 h4
      have h0 := HG2.out.node
      have h1 := HG2.out.type
      have h2 := HG2.out.cap
      have h3 := HG2.out.once
      have h4 := HG2.out.prog
      go_wp2_with fail
      go_ret2
      exact ⟨a, cap, rfl, HL.out.below HB2.out, HB2.out⟩

end Go.Proofs.Ytahnkhgaopaaoab
