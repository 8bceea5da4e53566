/- insertFault: what is wrong with a place. -/
import Derived.Test.YtoolkpjbbngdpaaCalm
import Derived.Test.YtoolkpjbbngdpaaFine
import Derived.Test.YtoolkpjbbngdpaaLone
namespace Go.Proofs.Ytoolkpjbbngdpaa
open Go.RowKit

def insertF (T : List Nd) (p c b : Int) : Int :=
  if !isNodeB T.length p || (!isNodeB T.length c || (b != -1 && !isNodeB T.length b)) then 2
  else if (nd T p.toNat).kind == 2 || !canBeKidB (nd T c.toNat).kind then 3
  else if c == p || isAncB T c p.toNat then 5
  else if b != -1 && (nd T b.toNat).parent != p then 2 else 0

theorem insertF_ne {T : List Nd} {p c b : Int} : insertF T p c b ≠ 1 := by
  unfold insertF
  split
  · decide
  · split
    · decide
    · split
      · decide
      · split <;> decide

set_option maxRecDepth 100000 in
set_option maxHeartbeats 4000000 in
theorem insertFault_any (T : List Nd) (hmay : mayB T = true) (v : Value) (p c b : Int) (w : World) (hT : TreeAt w v T) :
    Calls Try.prog 72 #[v, .agg #[.int .i64 p, .int .i64 c, .int .i64 b]] w fun e w' => e = .returned (.int .i64 (insertF T p c b)) ∧ Below w.heap.size w w' := by
  have HB := hideG ((Below.refl _ w).alloc (Nat.le_refl _) (.cells #[.int .i64 p, .int .i64 c, .int .i64 b] 37))
  have HM := hideG hmay
  have hpos := mayB_pos hmay
  clear hmay
  cases hip : isNodeB T.length p
  · obtain ⟨a, cap, rfl⟩ := hT.shape
    clear hT
    have HF := hideG (show insertF T p c b = 2 by simp only [insertF, hip, Bool.not_false, Bool.true_or, if_true])
    go_enter Try.func72, Try.ntmps72
    go_wp2_with (go_at_call 77; refine (isNode_any _ _ _ _ _).mono ?_; rintro e w1 ⟨rfl, rfl⟩)
    go_ret
    exact ⟨ret_int HF.out.symm, HB.out⟩
  · cases hic : isNodeB T.length c
    · obtain ⟨a, cap, rfl⟩ := hT.shape
      clear hT
      have HF := hideG (show insertF T p c b = 2 by simp only [insertF, hip, hic, Bool.not_false, Bool.true_or, Bool.or_true, if_true])
      go_enter Try.func72, Try.ntmps72
      go_wp2_with (go_at_call 77; refine (isNode_any _ _ _ _ _).mono ?_; rintro e w1 ⟨rfl, rfl⟩)
      go_ret
      exact ⟨ret_int HF.out.symm, HB.out⟩
    · cases hbad : (b != -1 && !isNodeB T.length b)
      · obtain ⟨p, rfl, hpl⟩ := isNodeB_true hip
        obtain ⟨c, rfl, hcl⟩ := isNodeB_true hic
        have hup := mayB_upOk HM.out
        obtain ⟨ba, off, cap, rfl, hc⟩ := hT.at (by omega)
        have HT := hideG (hT.below HB.out)
        have HC := hideG hc
        obtain ⟨kvp, avp, hNp⟩ := hc p hpl
        obtain ⟨kvc, avc, hNc⟩ := hc c hcl
        have g0 := hNp.kind
        have k0 := hNc.kind
        have hbz : ba < w.heap.size := below_of_cell g0
        clear hNp hNc hc hT
        have hor : (b != -1) = false ∨ ∃ q : Nat, b = q ∧ q < T.length ∧ ((q : Int) != -1) = true ∧ isNodeB T.length (q : Int) = true := by
          cases e : (b != -1)
          · exact .inl rfl
          · rw [e, Bool.true_and, Bool.not_eq_false'] at hbad
            obtain ⟨q, rfl, hq⟩ := isNodeB_true hbad
            exact .inr ⟨q, rfl, hq, e, hbad⟩
        have H0 := hideG (show insertF T p c b = if (nd T p).kind == 2 || !canBeKidB (nd T c).kind then 3 else if (c : Int) == p || isAncB T c p then 5 else if b != -1 && (nd T b.toNat).parent != p then 2 else 0 by
          simp only [insertF, hip, hic, hbad, Bool.not_true, Bool.or_self, Bool.false_eq_true, if_false, Int.toNat_natCast])
        clear hbad
        cases hk2 : ((nd T p).kind == 2)
        · cases hck : canBeKidB (nd T c).kind
          · have HF := hideG (show insertF T p c b = 3 by rw [H0.out]; simp only [hck, Bool.not_false, Bool.or_true, if_true])
            rcases hor with hb1 | ⟨q, rfl, hq, hb1, hb2⟩
            all_goals
              go_enter Try.func72, Try.ntmps72
              go_wp2_with (first | (go_at_call 77; refine (isNode_any _ _ _ _ _).mono ?_; rintro e w1 ⟨rfl, rfl⟩) | (go_at_call 101; refine (canBeKid_any _ _).mono ?_; rintro e w1 ⟨rfl, rfl⟩))
              go_ret
              exact ⟨ret_int HF.out.symm, HB.out⟩
          · cases hcp : ((c : Int) == p)
            · cases han : isAncB T c p
              · rcases hor with hb1 | ⟨q, rfl, hq, hb1, hbn⟩
                · have HF := hideG (show insertF T p c b = 0 by rw [H0.out]; simp only [hk2, hck, hcp, han, hb1, Bool.not_true, Bool.or_self, Bool.false_and, Bool.false_eq_true, if_false])
                  go_enter Try.func72, Try.ntmps72
                  go_wp2_with (first | (go_at_call 77; refine (isNode_any _ _ _ _ _).mono ?_; rintro e w1 ⟨rfl, rfl⟩) | (go_at_call 101; refine (canBeKid_any _ _).mono ?_; rintro e w1 ⟨rfl, rfl⟩) | (go_at_call 102; refine (isAncestor_any T hup hpos.2 _ _ p hpl _ HT.out).mono ?_; rintro e w2 ⟨rfl, hb2⟩; rw [han]; simp only [World.size_alloc] at hb2; have x0 := hb2.cell (p := ⟨w.heap.size, 0, none⟩) (by simp); have x2 := hb2.cell (p := ⟨w.heap.size, 2, none⟩) (by simp); simp only [World.cell?_alloc_new] at x0 x2; simp at x0 x2; have HB2 := hideG (HB.out.trans (hb2.mono (by omega))); clear hb2))
                  go_quiet (fail)
                  go_wp2_with fail
                  go_ret
                  exact ⟨ret_int HF.out.symm, below_drewN HB2.out _⟩
                · obtain ⟨kvq, avq, hNq⟩ := HC.out q hq
                  have hq2 := hNq.parent
                  clear hNq
                  cases hpa : ((nd T q).parent != (p : Int))
                  · have HF := hideG (show insertF T p c q = 0 by rw [H0.out]; simp only [hk2, hck, hcp, han, hpa, Bool.not_true, Bool.or_self, Bool.and_false, Bool.false_eq_true, if_false, Int.toNat_natCast])
                    go_enter Try.func72, Try.ntmps72
                    go_wp2_with (first | (go_at_call 77; refine (isNode_any _ _ _ _ _).mono ?_; rintro e w1 ⟨rfl, rfl⟩) | (go_at_call 101; refine (canBeKid_any _ _).mono ?_; rintro e w1 ⟨rfl, rfl⟩) | (go_at_call 102; refine (isAncestor_any T hup hpos.2 _ _ p hpl _ HT.out).mono ?_; rintro e w2 ⟨rfl, hb2⟩; rw [han]; simp only [World.size_alloc] at hb2; have x0 := hb2.cell (p := ⟨w.heap.size, 0, none⟩) (by simp); have x2 := hb2.cell (p := ⟨w.heap.size, 2, none⟩) (by simp); simp only [World.cell?_alloc_new] at x0 x2; simp at x0 x2; have HB2 := hideG (HB.out.trans (hb2.mono (by omega))); have y2 := (HB2.out.cell (p := ⟨ba, off + q * 7 + 2, none⟩) hbz).trans hq2; clear hb2))
                    go_quiet (fail)
                    go_wp2_with fail
                    go_ret
                    exact ⟨ret_int HF.out.symm, below_drewN HB2.out _⟩
                  · have HF := hideG (show insertF T p c q = 2 by rw [H0.out]; simp only [hk2, hck, hcp, han, hpa, hb1, Bool.not_true, Bool.or_self, Bool.and_self, Bool.false_eq_true, if_false, if_true, Int.toNat_natCast])
                    go_enter Try.func72, Try.ntmps72
                    go_wp2_with (first | (go_at_call 77; refine (isNode_any _ _ _ _ _).mono ?_; rintro e w1 ⟨rfl, rfl⟩) | (go_at_call 101; refine (canBeKid_any _ _).mono ?_; rintro e w1 ⟨rfl, rfl⟩) | (go_at_call 102; refine (isAncestor_any T hup hpos.2 _ _ p hpl _ HT.out).mono ?_; rintro e w2 ⟨rfl, hb2⟩; rw [han]; simp only [World.size_alloc] at hb2; have x0 := hb2.cell (p := ⟨w.heap.size, 0, none⟩) (by simp); have x2 := hb2.cell (p := ⟨w.heap.size, 2, none⟩) (by simp); simp only [World.cell?_alloc_new] at x0 x2; simp at x0 x2; have HB2 := hideG (HB.out.trans (hb2.mono (by omega))); have y2 := (HB2.out.cell (p := ⟨ba, off + q * 7 + 2, none⟩) hbz).trans hq2; clear hb2))
                    go_quiet (fail)
                    go_wp2_with fail
                    go_ret
                    exact ⟨ret_int HF.out.symm, below_drewN HB2.out _⟩
              · have HF := hideG (show insertF T p c b = 5 by rw [H0.out]; simp only [hk2, hck, hcp, han, Bool.not_true, Bool.or_self, Bool.or_true, Bool.false_eq_true, if_false, if_true])
                rcases hor with hb1 | ⟨q, rfl, hq, hb1, hbn⟩
                all_goals
                  go_enter Try.func72, Try.ntmps72
                  go_wp2_with (first | (go_at_call 77; refine (isNode_any _ _ _ _ _).mono ?_; rintro e w1 ⟨rfl, rfl⟩) | (go_at_call 101; refine (canBeKid_any _ _).mono ?_; rintro e w1 ⟨rfl, rfl⟩) | (go_at_call 102; refine (isAncestor_any T hup hpos.2 _ _ p hpl _ HT.out).mono ?_; rintro e w2 ⟨rfl, hb2⟩; rw [han]; simp only [World.size_alloc] at hb2; have x0 := hb2.cell (p := ⟨w.heap.size, 0, none⟩) (by simp); have x2 := hb2.cell (p := ⟨w.heap.size, 2, none⟩) (by simp); simp only [World.cell?_alloc_new] at x0 x2; simp at x0 x2; have HB2 := hideG (HB.out.trans (hb2.mono (by omega))); clear hb2))
                  go_ret
                  exact ⟨ret_int HF.out.symm, HB2.out⟩
            · have HF := hideG (show insertF T p c b = 5 by rw [H0.out]; simp only [hk2, hck, hcp, Bool.not_true, Bool.or_self, Bool.true_or, Bool.false_eq_true, if_false, if_true])
              rcases hor with hb1 | ⟨q, rfl, hq, hb1, hbn⟩
              all_goals
                go_enter Try.func72, Try.ntmps72
                go_wp2_with (first | (go_at_call 77; refine (isNode_any _ _ _ _ _).mono ?_; rintro e w1 ⟨rfl, rfl⟩) | (go_at_call 101; refine (canBeKid_any _ _).mono ?_; rintro e w1 ⟨rfl, rfl⟩))
                go_ret
                exact ⟨ret_int HF.out.symm, HB.out⟩
        · have HF := hideG (show insertF T p c b = 3 by rw [H0.out]; simp only [hk2, Bool.true_or, if_true])
          rcases hor with hb1 | ⟨q, rfl, hq, hb1, hbn⟩
          all_goals
            go_enter Try.func72, Try.ntmps72
            go_wp2_with (first | (go_at_call 77; refine (isNode_any _ _ _ _ _).mono ?_; rintro e w1 ⟨rfl, rfl⟩) | (go_at_call 101; refine (canBeKid_any _ _).mono ?_; rintro e w1 ⟨rfl, rfl⟩))
            go_ret
            exact ⟨ret_int HF.out.symm, HB.out⟩
      · obtain ⟨a, cap, rfl⟩ := hT.shape
        clear hT
        have HF := hideG (show insertF T p c b = 2 by simp only [insertF, hip, hic, hbad, Bool.not_true, Bool.or_true, if_true])
        rw [Bool.and_eq_true, Bool.not_eq_true'] at hbad
        obtain ⟨hb1, hbn⟩ := hbad
        go_enter Try.func72, Try.ntmps72
        go_wp2_with (go_at_call 77; refine (isNode_any _ _ _ _ _).mono ?_; rintro e w1 ⟨rfl, rfl⟩)
        go_ret
        exact ⟨ret_int HF.out.symm, HB.out⟩
end Go.Proofs.Ytoolkpjbbngdpaa
