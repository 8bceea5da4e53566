/- fire.isAmong; an event under way, pure, and as it lies in memory. -/
import Derived.Test.YtpmacpbhdgigfaaGreatAimMem
import Derived.Test.YtpmacpbhdgigfaaGreatHear3
namespace Go.Proofs.YtpmacpbhdgigfaaGreat
open Go.RowKit
open L8 (Hr hrD HearAt HearsAt forL hearsP hearCells)

/-- Is one that is one with h among those who hear? -/
def amongB (l : List Hr) (h : Hr) : Bool := (forL l h.node h.type h.cap).any fun o => o.prog == h.prog
theorem forL_le (l : List Hr) (n k : Int) (c : Bool) : (forL l n k c).length ≤ l.length := List.length_filter_le _ _
theorem any_hit {F : List Hr} {p : Int} {k : Nat} (hk : k < F.length) (h : ((F.getD k hrD).prog == p) = true) : (F.any fun o => o.prog == p) = true := by
  refine List.any_eq_true.mpr ⟨F[k], List.getElem_mem hk, ?_⟩
  rwa [List.getD_eq_getElem?_getD, List.getElem?_eq_getElem hk] at h
theorem any_miss {F : List Hr} {p : Int} (h : ∀ j, j < F.length → ((F.getD j hrD).prog == p) = false) : (F.any fun o => o.prog == p) = false := by
  rw [List.any_eq_false]
  intro x hx
  obtain ⟨j, hj, rfl⟩ := List.getElem_of_mem hx
  have := h j hj
  rw [List.getD_eq_getElem?_getD, List.getElem?_eq_getElem hj] at this
  simpa using this

set_option maxRecDepth 100000 in
set_option maxHeartbeats 2000000 in
theorem isAmong_any (l : List Hr) (h : Hr) (v : Value) (w : World) (hL : HearsAt w v l) (hl : l.length ≤ 100000) :
    Calls Tryz.prog 127 #[v, .agg #[.int .i64 h.node, .int .i64 h.type, .bool h.cap, .bool h.once, .int .i64 h.prog]] w fun x w' => x = .returned (.bool (amongB l h)) ∧ Below w.heap.size w w' := by
  obtain ⟨va, vc, rfl⟩ := hL.shape
  obtain ⟨W0, hW0⟩ : ∃ W0, w.alloc (.cells #[.int .i64 h.node, .int .i64 h.type, .bool h.cap, .bool h.once, .int .i64 h.prog] 35) = W0 := ⟨_, rfl⟩
  have HB0 := hideG (show Below w.heap.size w W0 by rw [← hW0]; exact (Below.refl _ w).alloc (Nat.le_refl _) _)
  have P4 := hideG (show W0.cell? ⟨w.heap.size, 4, none⟩ = some (.int .i64 h.prog) by rw [← hW0]; simp)
  have HF := hideG (L8.for_any l h.node h.type h.cap (.slice va l.length vc) W0 (hL.below HB0.out) (by omega))
  have HW0 := hideG hW0
  have HAM := hideG (show amongB l h = ((forL l h.node h.type h.cap).any fun o => o.prog == h.prog) from rfl)
  have hfl := forL_le l h.node h.type h.cap
  clear hL hW0
  go_enter Tryz.func127, Tryz.ntmps127
  go_wp2_with fail
  rw [HW0.out]
  refine HF.out.mono ?_
  rintro ex w1 ⟨fa, fc, rfl, ho1, hb1⟩
  generalize forL l h.node h.type h.cap = F at *
  have HB1 := hideG (HB0.out.trans (hb1.mono HB0.out.size))
  have HX1 := hideG hb1
  have HFA := hideG (L8.ownsRow_hears ho1)
  clear ho1 hb1
  go_wp2_with fail
  go_loopw [16] (fun i wr => ∃ k : Nat, k ≤ F.length ∧ i = .int .i64 (k : Int) ∧ (∀ j, j < k → ((F.getD j hrD).prog == h.prog) = false) ∧ Below w1.heap.size w1 wr) (fun i _ => F.length - (intOf i).toNat)
  case atStart => exact ⟨0, Nat.zero_le _, rfl, fun j hj => by omega, Below.refl _ _⟩
  case round =>
    obtain ⟨k, hk, rfl, hno, hB⟩ := hrel
    have HNO := hideG hno
    have HB := hideG hB
    have p4 := cell_below (HX1.out.trans (hB.mono HX1.out.size)) P4.out
    have hwr : w.heap.size < wr.heap.size := below_of_cell p4
    clear hno hB
    by_cases hlt : k < F.length
    · obtain ⟨a', c', he, hd⟩ := HFA.out
      injection he with q1 q2 q3
      subst q1
      subst q3
      clear q2
      obtain ⟨b, off, rfl, hd'⟩ := hd.2 (by omega)
      have hH := (hd' k hlt).below HB.out
      have HPR := hideG (show (F.getD k hrD).prog = (F.getD k hrD).prog from rfl)
      generalize hx : F.getD k hrD = x at *
      have HX := hideG hx
      have c0 := hH.node
      have c1 := hH.type
      have c2 := hH.cap
      have c3 := hH.once
      have c4 := hH.prog
      have hk0 : (0 : Int) ≤ (k : Int) := by omega
      have hbb : b < wr.heap.size := below_of_cell c0
      clear hd hd' hH hx HPR
      cases hp : (x.prog == h.prog)
      · have HP := hideG hp
        go_wp2_with fail
        go_roundw
        case rel => exact ⟨k + 1, by omega, by go_num, fun j hj => by
          by_cases e : j = k
          · subst e; rw [HX.out]; exact HP.out
          · exact HNO.out j (by omega), HB.out.alloc HB.out.size _⟩
        case measure => simp [intOf]; omega
      · have HQ := hideG (show amongB l h = true by rw [HAM.out]; exact any_hit hlt (by rw [HX.out]; exact hp))
        go_wp2_with fail
        go_ret
        exact ⟨ret_bool HQ.out.symm, HB1.out.trans ((HB.out.alloc HB.out.size _).mono HB1.out.size)⟩
    · have HQ := hideG (show amongB l h = false by rw [HAM.out]; exact any_miss (fun j hj => HNO.out j (by omega)))
      go_wp2_with fail
      go_ret
      exact ⟨ret_bool HQ.out.symm, HB1.out.trans (HB.out.mono HB1.out.size)⟩

/-- An event under way: what is left of its way, the visit that has begun, and who waits. -/
structure Rn where
  kind : Int
  can : Bool
  done : Bool
  left : List Vi
  cur : Vi
  wait : List Hr
  deriving Inhabited
/-- Who of those who wait is called; what is left then. -/
def turnL (l : List Hr) : List Hr → Option (Hr × List Hr)
  | [] => none
  | h :: r => if amongB l h then some (h, r) else turnL l r
/-- The next call, and what is under way behind it. -/
def nextL (l : List Hr) (kind : Int) : List Vi → Vi → List Hr → Option (Hr × Vi × List Vi × List Hr)
  | left, cur, wait => match turnL l wait with
    | some (h, r) => some (h, cur, left, r)
    | none => match left with
      | [] => none
      | v :: left' => nextL l kind left' v (forL l v.s.node kind v.cap)
/-- A run in memory: its ten cells, its lists. -/
structure RunAt (w : World) (b : Nat) (r : Rn) (lv wv : Value) : Prop where
  kind : w.cell? ⟨b, 0, none⟩ = some (.int .i64 r.kind)
  can : w.cell? ⟨b, 1, none⟩ = some (.bool r.can)
  done : w.cell? ⟨b, 2, none⟩ = some (.bool r.done)
  left : w.cell? ⟨b, 3, none⟩ = some lv
  cur : ViAt w b 4 r.cur
  wait : w.cell? ⟨b, 9, none⟩ = some wv
  lefts : VisAt w lv r.left
  waits : HearsAt w wv r.wait

set_option maxRecDepth 100000 in
set_option maxHeartbeats 2000000 in
/-- Cancelled of no run. -/
theorem cancelledNil_any (w : World) : Calls Tryz.prog 72 #[.pointer none] w fun x w' => x = .returned (.bool false) ∧ w' = w := by
  go_enter Tryz.func72, Tryz.ntmps72
  go_wp2_with fail
  go_ret
  exact ⟨rfl, rfl⟩
set_option maxRecDepth 100000 in
set_option maxHeartbeats 2000000 in
/-- Cancelled of a run. -/
theorem cancelled_any (w : World) (b : Nat) (r : Rn) (lv wv : Value) (h : RunAt w b r lv wv) : Calls Tryz.prog 72 #[.pointer (some ⟨b, 0, none⟩)] w fun x w' => x = .returned (.bool r.done) ∧ w' = w := by
  have c2 := h.done
  clear h
  go_enter Tryz.func72, Tryz.ntmps72
  go_wp2_with fail
  go_ret
  exact ⟨rfl, rfl⟩
set_option maxRecDepth 100000 in
set_option maxHeartbeats 2000000 in
/-- isVisiting of no run. -/
theorem visitingNil_any (v : Value) (w : World) : Calls Tryz.prog 125 #[.pointer none, v] w fun x w' => x = .returned (.bool false) ∧ w' = w := by
  go_enter Tryz.func125, Tryz.ntmps125
  go_wp2_with fail
  go_ret
  exact ⟨rfl, rfl⟩
end Go.Proofs.YtpmacpbhdgigfaaGreat
