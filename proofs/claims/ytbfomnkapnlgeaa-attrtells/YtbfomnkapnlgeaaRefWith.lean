/- with of limelightref02. -/
import Derived.Test.YtbfomnkapnlgeaaRefGet
namespace Go.Proofs.Ytbfomnkapnlgeaa
open Go.RowKit

def ofName (l : List (Int × Int)) (nm : Int) : List (Int × Int) := l.filter (fun a => a.1 == nm)
def withAt (l : List (Int × Int)) (x : Int × Int) (lay : Bool) (m : Nat) : List (Int × Int) := if (m : Int) == x.1 then (if lay then [x] else []) else ofName l m
def withTo (l : List (Int × Int)) (x : Int × Int) (lay : Bool) : Nat → List (Int × Int)
  | 0 => []
  | m + 1 => withTo l x lay m ++ withAt l x lay m

theorem ofName_len (l : List (Int × Int)) (nm : Int) : (ofName l nm).length ≤ l.length := List.length_filter_le _ _
theorem withAt_len (l : List (Int × Int)) (x : Int × Int) (lay : Bool) (m : Nat) : (withAt l x lay m).length ≤ l.length + 1 := by
  rw [withAt]
  split
  · split <;> simp
  · have := ofName_len l m; omega
theorem withTo_len (l : List (Int × Int)) (x : Int × Int) (lay : Bool) : ∀ m, (withTo l x lay m).length ≤ m * (l.length + 1)
  | 0 => by simp [withTo]
  | m + 1 => by
    rw [withTo, List.length_append, Nat.succ_mul]
    have := withTo_len l x lay m
    have := withAt_len l x lay m
    omega
theorem withTo_ten (l : List (Int × Int)) (x : Int × Int) (lay : Bool) {m : Nat} (hm : m ≤ 10) (hl : l.length ≤ 1000) : (withTo l x lay m).length ≤ 10010 := by
  have h1 := withTo_len l x lay m
  have h2 : m * (l.length + 1) ≤ 10 * 1001 := Nat.mul_le_mul hm (by omega)
  omega
theorem ofName_take {l : List (Int × Int)} {j : Nat} (h : j < l.length) (nm : Int) : ofName (l.take (j + 1)) nm = ofName (l.take j) nm ++ if (l.getD j (0, 0)).1 == nm then [l.getD j (0, 0)] else [] := by
  have e : l.getD j (0, 0) = l[j] := by rw [List.getD_eq_getElem?_getD, List.getElem?_eq_getElem h]; rfl
  rw [ofName, List.take_succ_eq_append_getElem h, List.filter_append, e, ofName]
  cases hx : (l[j].1 == nm) <;> simp [hx]

structure WithInv (W w : World) (v : Value) (L : List (Int × Int)) (nm vl : Int) : Prop where
  own : w.ownsRow (W.heap.size + 1) 54 2 v L.length (attrCells L)
  below : Below W.heap.size W w
  size : W.heap.size < w.heap.size
  box0 : w.cell? ⟨W.heap.size, 0, none⟩ = some (.int .i64 nm)
  box1 : w.cell? ⟨W.heap.size, 1, none⟩ = some (.int .i64 vl)

theorem attrCells_snoc (l : List (Int × Int)) (p q : Int) : attrCells (l ++ [(p, q)]) = attrCells l ++ [.int .i64 p, .int .i64 q] := by
  rw [attrCells_append]; rfl

theorem WithInv.push {W w w1 : World} {v v' : Value} {L : List (Int × Int)} {nm vl p q : Int} (h : WithInv W w v L nm vl)
    (hg : (w.alloc (.cells #[.int .i64 p, .int .i64 q] 54)).grownBy w1 v.ownBlock) (ho : w1.ownsRow (W.heap.size + 1) 54 2 v' (L.length + 1) (attrCells L ++ [.int .i64 p, .int .i64 q])) : WithInv W w1 v' (L ++ [(p, q)]) nm vl := by
  have hne : ∀ k, v.ownBlock = some k → W.heap.size + 1 ≤ k := fun k hk => (h.own.lt k hk).1
  have hbox : ∀ o x, w.cell? ⟨W.heap.size, o, none⟩ = some x → w1.cell? ⟨W.heap.size, o, none⟩ = some x := fun o x hx => by
    refine (World.cell?_of_block (a := ⟨W.heap.size, o, none⟩) (hg.block W.heap.size (by have := h.size; simp; omega) (fun e => by have := hne _ e.symm; omega))).trans ?_
    exact cell_kept' hx
  refine ⟨?_, ?_, ?_, hbox 0 _ h.box0, hbox 1 _ h.box1⟩
  · rw [attrCells_snoc, List.length_append]; exact ho
  · exact (h.below.alloc h.below.size _).grown hg (by have := h.size; simp; omega) (fun k e => by have := hne k e; omega)
  · have := hg.size; have := h.size; simp at *; omega

set_option maxRecDepth 100000 in
set_option maxHeartbeats 4000000 in
theorem refWith_any (l : List (Int × Int)) (v : Value) (nm vl : Int) (lay : Bool) (W : World) (hA : AttrsAt W v l) (hl : l.length ≤ 1000) :
    Calls Try.prog 66 #[v, .agg #[.int .i64 nm, .int .i64 vl], .bool lay] W fun e w' => ∃ v', e = .returned v' ∧ w'.ownsRow W.heap.size 54 2 v' (withTo l (nm, vl) lay 10).length (attrCells (withTo l (nm, vl) lay 10)) ∧ Below W.heap.size W w' := by
  obtain ⟨i0, hi, hz0, hz1, hz2⟩ := info_parts infoT54
  obtain ⟨a, cap, rfl, hc⟩ := hA
  have HC := hideG hc
  clear hc
  go_enter Try.func66, Try.ntmps66
  go_wp2_with fail
  go_loopw [7, 8] (fun v i wr => ∃ m : Nat, m ≤ 10 ∧ i = .int .i64 m ∧ Hid (WithInv W wr v (withTo l (nm, vl) lay m) nm vl)) (fun _ i _ => 10 - (intOf i).toNat)
  case atStart => exact ⟨0, by omega, rfl, World.ownsRow_nil _ _ _ _, (Below.refl _ W).alloc (Nat.le_refl _) _, by simp, by simp, by simp⟩
  case round =>
    obtain ⟨m, hm, rfl, HI⟩ := hrel
    have hlen := withTo_ten l (nm, vl) lay hm hl
    have b0 := HI.out.box0
    have b1 := HI.out.box1
    by_cases hlt : m < 10
    · have hd10 : decide ((m : Int) < 10) = true := decide_eq_true (by omega)
      cases hx : ((m : Int) == nm)
      · have HST := hideG (show withTo l (nm, vl) lay (m + 1) = withTo l (nm, vl) lay m ++ ofName l m by rw [withTo, withAt, hx]; rfl)
        go_wp2_with fail
        go_loopw [7, 9] (fun v i ws => ∃ j : Nat, j ≤ l.length ∧ i = .int .i64 j ∧ Hid (WithInv W ws v (withTo l (nm, vl) lay m ++ ofName (l.take j) m) nm vl)) (fun _ i _ => l.length - (intOf i).toNat)
        case atStart => exact ⟨0, Nat.zero_le _, rfl, by rw [List.take_zero]; show WithInv _ _ _ (_ ++ []) _ _; rw [List.append_nil]; exact HI.out⟩
        case round =>
          obtain ⟨j, hj, rfl, HJ⟩ := hrel
          have hlen2 : (withTo l (nm, vl) lay m ++ ofName (l.take j) m).length ≤ 11010 := by
            have := ofName_len (l.take j) m
            rw [List.length_append]
            rw [List.length_take] at this
            omega
          by_cases hjl : j < l.length
          · obtain ⟨b, off, rfl, hd⟩ := HC.out (by omega)
            obtain ⟨c1, c2⟩ := hd j hjl
            have hbz : b < W.heap.size := below_of_cell c1
            have d1 := cell_below HJ.out.below c1
            have d2 := cell_below HJ.out.below c2
            have hbs : b < wr.heap.size := below_of_cell d1
            have HT := hideG (ofName_take hjl m)
            clear hd c1 c2
            generalize l.getD j (0, 0) = A at *
            obtain ⟨p, q⟩ := A
            dsimp only at d1 d2 HT
            cases hy : (p == (m : Int))
            · have HT2 := hideG (show ofName (l.take (j + 1)) m = ofName (l.take j) m by rw [HT.out, hy]; simp)
              go_wp2_with fail
              go_roundw
              case rel => exact ⟨j + 1, by omega, by go_num, by rw [HT2.out]; exact HJ⟩
              case measure => simp [intOf]; omega
            · have HT2 := hideG (show ofName (l.take (j + 1)) m = ofName (l.take j) m ++ [(p, q)] by rw [HT.out, hy]; rfl)
              go_wp2_with (at_builtin; refine wpList_append_own _ rfl _ _ 47 rfl (W.heap.size + 1) 54 i0 _ 2 16 Try.underlying47 hi hz0 hz1 hz2 rfl (by decide) _ _ _ rfl (HJ.out.own.alloc _) ⟨wr.heap.size, 0, none⟩ 1 1 [.int .i64 p, .int .i64 q] rfl rfl ?c1 ?c2 ?c3 ?c4 ?c5 ?_)
              case c1 =>
                intro j u hj
                match j, hj with
                | 0, hj => simp at hj; subst hj; simp [Addr.add]
                | 1, hj => simp at hj; subst hj; simp [Addr.add]
              case c2 => intro u hu; simp at hu; rcases hu with rfl | rfl <;> rfl
              case c3 => unfold maxLen; omega
              case c4 => omega
              case c5 => have := HJ.out.size; simp; omega
              · intro v2 w2 hown2 hg2 _
                have HN := hideG (HJ.out.push hg2 (by rw [List.length_append]; exact hown2))
                go_wp2_with fail
                go_roundw
                case rel => exact ⟨j + 1, by omega, by go_num, by rw [HT2.out, ← List.append_assoc]; exact HN⟩
                case measure => simp [intOf]; omega
          · have HE := hideG (show withTo l (nm, vl) lay (m + 1) = withTo l (nm, vl) lay m ++ ofName (l.take j) m by rw [HST.out, List.take_of_length_le (by omega)])
            go_wp2_with fail
            go_roundw
            case rel => exact ⟨m + 1, by omega, by go_num, by rw [HE.out]; exact HJ⟩
            case measure => simp [intOf]; omega
      · cases hlay : lay
        · have HST := hideG (show withTo l (nm, vl) false (m + 1) = withTo l (nm, vl) false m by rw [withTo, withAt, hx]; simp)
          subst hlay
          go_wp2_with fail
          go_roundw
          case rel => exact ⟨m + 1, by omega, by go_num, by rw [HST.out]; exact HI⟩
          case measure => simp [intOf]; omega
        · have HST := hideG (show withTo l (nm, vl) true (m + 1) = withTo l (nm, vl) true m ++ [(nm, vl)] by rw [withTo, withAt, hx]; rfl)
          subst hlay
          go_wp2_with (at_builtin; refine wpList_append_own _ rfl _ _ 47 rfl (W.heap.size + 1) 54 i0 _ 2 16 Try.underlying47 hi hz0 hz1 hz2 rfl (by decide) _ _ _ rfl (HI.out.own.alloc _) ⟨wr.heap.size, 0, none⟩ 1 1 [.int .i64 nm, .int .i64 vl] rfl rfl ?c1 ?c2 ?c3 ?c4 ?c5 ?_)
          case c1 =>
            intro j u hj
            match j, hj with
            | 0, hj => simp at hj; subst hj; simp [Addr.add]
            | 1, hj => simp at hj; subst hj; simp [Addr.add]
          case c2 => intro u hu; simp at hu; rcases hu with rfl | rfl <;> rfl
          case c3 => unfold maxLen; omega
          case c4 => omega
          case c5 => have := HI.out.size; simp; omega
          · intro v2 w2 hown2 hg2 _
            have HN := hideG (HI.out.push hg2 hown2)
            go_wp2_with fail
            go_roundw
            case rel => exact ⟨m + 1, by omega, by go_num, by rw [HST.out]; exact HN⟩
            case measure => simp [intOf]; omega
    · obtain rfl : m = 10 := by omega
      go_wp2_with fail
      go_ret
      exact ⟨_, rfl, ownsRow_base HI.out.own (by omega), HI.out.below⟩
end Go.Proofs.Ytbfomnkapnlgeaa
