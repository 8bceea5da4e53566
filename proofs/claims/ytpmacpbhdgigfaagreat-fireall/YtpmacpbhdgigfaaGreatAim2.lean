/- aim.stopAt. -/
import Derived.Test.YtpmacpbhdgigfaaGreatAimMem
import Derived.Test.YtpmacpbhdgigfaaGreatAim1
namespace Go.Proofs.YtpmacpbhdgigfaaGreat
open Go.RowKit

/-- What a cell holds, whatever it is. -/
def boxAt (w : World) (p : Addr) : Value := (w.cell? p).getD (.int .i64 0)
theorem boxAt_some {w : World} {p : Addr} {u : Value} (h : w.cell? p = some u) : w.cell? p = some (boxAt w p) := by unfold boxAt; rw [h]; rfl
theorem boxAt_below {U w : World} {p : Addr} {u : Value} (hb : Below U.heap.size U w) (h : U.cell? p = some u) : w.cell? p = some (boxAt w p) := boxAt_some (cell_below hb h)
theorem boxAt_set {w : World} {p q : Addr} {u v : Value} (h : w.cell? p = some u) : (w.setCell q v).cell? p = some (boxAt (w.setCell q v) p) := by
  by_cases e : q = p
  · subst e; exact boxAt_some (World.cell?_setCell_same _ _ _ h)
  · exact boxAt_some ((World.cell?_setCell_other _ _ _ _ e).trans h)
def SB (w V : World) (e : Ev) (U : World) : Prop := Below (w.heap.size + 1) V U ∧ U.cell? ⟨w.heap.size, 1, none⟩ = some (.int .i64 e.target) ∧ U.cell? ⟨w.heap.size, 2, none⟩ = some (.int .i64 e.related) ∧ U.cell? ⟨w.heap.size + 1, 0, none⟩ = some (boxAt U ⟨w.heap.size + 1, 0, none⟩) ∧ U.cell? ⟨w.heap.size + 1, 1, none⟩ = some (boxAt U ⟨w.heap.size + 1, 1, none⟩) ∧ U.cell? ⟨w.heap.size + 1, 2, none⟩ = some (boxAt U ⟨w.heap.size + 1, 2, none⟩) ∧ U.frozen? ⟨w.heap.size + 1, 0, none⟩ = false ∧ U.frozen? ⟨w.heap.size + 1, 1, none⟩ = false ∧ U.frozen? ⟨w.heap.size + 1, 2, none⟩ = false
theorem sb_call {w V : World} {e : Ev} {U w' : World} (hb : Below U.heap.size U w') (hv : Below (w.heap.size + 1) V w') (h : SB w V e U) : SB w V e w' := by
  obtain ⟨_, h1, h2, c0, c1, c2, f0, f1, f2⟩ := h
  exact ⟨hv, cell_below hb h1, cell_below hb h2, boxAt_below hb c0, boxAt_below hb c1, boxAt_below hb c2, frozen_below hb c0 f0, frozen_below hb c1 f1, frozen_below hb c2 f2⟩
theorem sb_set {w V : World} {e : Ev} {U : World} {j : Nat} {u : Value} (h : SB w V e U) : SB w V e (U.setCell ⟨w.heap.size + 1, j, none⟩ u) := by
  obtain ⟨hb, h1, h2, c0, c1, c2, f0, f1, f2⟩ := h
  have hne : ∀ i, (⟨w.heap.size + 1, j, none⟩ : Addr) ≠ ⟨w.heap.size, i, none⟩ := fun i e => by have := congrArg Addr.block e; simp at this
  exact ⟨hb.setCell (by simp) _, (World.cell?_setCell_other _ _ _ _ (hne 1)).trans h1, (World.cell?_setCell_other _ _ _ _ (hne 2)).trans h2, boxAt_set c0, boxAt_set c1, boxAt_set c2, by rw [World.frozen?_setCell]; exact f0, by rw [World.frozen?_setCell]; exact f1, by rw [World.frozen?_setCell]; exact f2⟩

theorem ne_off {b i j : Nat} (h : i ≠ j) : (⟨b, i, none⟩ : Addr) ≠ ⟨b, j, none⟩ := fun e => h (by have := congrArg Addr.off e; exact this)
theorem set3 {U : World} {b : Nat} {x y z u0 u1 u2 : Value} (c0 : U.cell? ⟨b, 0, none⟩ = some u0) (c1 : U.cell? ⟨b, 1, none⟩ = some u1) (c2 : U.cell? ⟨b, 2, none⟩ = some u2) :
    (((U.setCell ⟨b, 0, none⟩ x).setCell ⟨b, 1, none⟩ y).setCell ⟨b, 2, none⟩ z).cell? ⟨b, 0, none⟩ = some x ∧ (((U.setCell ⟨b, 0, none⟩ x).setCell ⟨b, 1, none⟩ y).setCell ⟨b, 2, none⟩ z).cell? ⟨b, 1, none⟩ = some y ∧ (((U.setCell ⟨b, 0, none⟩ x).setCell ⟨b, 1, none⟩ y).setCell ⟨b, 2, none⟩ z).cell? ⟨b, 2, none⟩ = some z := by
  have d0 : (U.setCell ⟨b, 0, none⟩ x).cell? ⟨b, 0, none⟩ = some x := World.cell?_setCell_same _ _ _ c0
  have d1 := (World.cell?_setCell_other U ⟨b, 0, none⟩ ⟨b, 1, none⟩ x (ne_off (by omega))).trans c1
  have d2 := (World.cell?_setCell_other U ⟨b, 0, none⟩ ⟨b, 2, none⟩ x (ne_off (by omega))).trans c2
  have e0 := (World.cell?_setCell_other _ ⟨b, 1, none⟩ ⟨b, 0, none⟩ y (ne_off (by omega))).trans d0
  have e1 := World.cell?_setCell_same _ _ y d1
  have e2 := (World.cell?_setCell_other _ ⟨b, 1, none⟩ ⟨b, 2, none⟩ y (ne_off (by omega))).trans d2
  exact ⟨(World.cell?_setCell_other _ ⟨b, 2, none⟩ ⟨b, 0, none⟩ z (ne_off (by omega))).trans e0, (World.cell?_setCell_other _ ⟨b, 2, none⟩ ⟨b, 1, none⟩ z (ne_off (by omega))).trans e1, World.cell?_setCell_same _ _ z e2⟩

set_option maxRecDepth 100000 in
set_option maxHeartbeats 8000000 in
theorem stopAt_any (T : List Nd) (hS : Sane T) (v : Value) (n : Nat) (e : Ev) (w : World) (hT : TreeAt w v T) (h6 : T.length ≤ 1000) :
    Calls Tryz.prog 199 #[v, .int .i64 (n : Int), .agg #[.int .i64 e.type, .int .i64 e.target, .int .i64 e.related, .bool e.bub, .bool e.can, .bool e.comp]] w fun x w' => x = .returned (.agg #[.int .i64 (n : Int), .int .i64 (retI T e.target n), .int .i64 (retI T e.related n)]) ∧ Below w.heap.size w w' := by
  obtain ⟨ta, tc, rfl⟩ := hT.shape
  have HS := hideG hS
  obtain ⟨V, hV⟩ : ∃ V, (w.alloc (.cells #[.int .i64 e.type, .int .i64 e.target, .int .i64 e.related, .bool e.bub, .bool e.can, .bool e.comp] 25)).alloc (.cells #[.int .i64 0, .int .i64 0, .int .i64 0] 37) = V := ⟨_, rfl⟩
  have HBV := hideG (show Below w.heap.size w V by rw [← hV]; exact ((Below.refl _ w).alloc (Nat.le_refl _) _).alloc (by simp) _)
  have HVS := hideG (show V.heap.size = w.heap.size + 2 by rw [← hV]; simp)
  have hS0 : SB w V e V.drew := by
    have hd := below_drew' (Below.refl V.heap.size V)
    have p1 : V.cell? ⟨w.heap.size, 1, none⟩ = some (.int .i64 e.target) := by rw [← hV]; simp
    have p2 : V.cell? ⟨w.heap.size, 2, none⟩ = some (.int .i64 e.related) := by rw [← hV]; simp
    have b0 : V.cell? ⟨w.heap.size + 1, 0, none⟩ = some (.int .i64 0) := by rw [← hV]; simp
    have b1 : V.cell? ⟨w.heap.size + 1, 1, none⟩ = some (.int .i64 0) := by rw [← hV]; simp
    have b2 : V.cell? ⟨w.heap.size + 1, 2, none⟩ = some (.int .i64 0) := by rw [← hV]; simp
    have f0 : V.frozen? ⟨w.heap.size + 1, 0, none⟩ = false := by rw [← hV]; simp
    have f1 : V.frozen? ⟨w.heap.size + 1, 1, none⟩ = false := by rw [← hV]; simp
    have f2 : V.frozen? ⟨w.heap.size + 1, 2, none⟩ = false := by rw [← hV]; simp
    exact ⟨below_drew' (Below.refl _ _), cell_below hd p1, cell_below hd p2, boxAt_below hd b0, boxAt_below hd b1, boxAt_below hd b2, frozen_below hd b0 f0, frozen_below hd b1 f1, frozen_below hd b2 f2⟩
  have HR := hideG (show ∀ U a, Below (w.heap.size + 1) V U → Calls Tryz.prog 224 #[.slice ta T.length tc, .int .i64 a, .int .i64 (n : Int)] U (fun x w' => x = .returned (.int .i64 (retI T a n)) ∧ Below U.heap.size U w' ∧ Below (w.heap.size + 1) V w') from fun U a hU => by
    refine (shadeRetarget_any T HS.out _ a n U (hT.below (HBV.out.trans (hU.mono (by omega)))) h6).mono ?_
    rintro x w' ⟨rfl, hb⟩
    exact ⟨rfl, hb, hU.trans (hb.mono (by have := hU.size; have := HVS.out; omega))⟩)
  have HV := hideG hV
  clear hT hS hV
  go_enter Tryz.func199, Tryz.ntmps199
  go_wp2_with fail
  rw [HV.out]
  go_region_held3 (fun w' => Below (w.heap.size + 1) V w' ∧ w'.cell? ⟨w.heap.size, 1, none⟩ = some (.int .i64 e.target) ∧ w'.cell? ⟨w.heap.size, 2, none⟩ = some (.int .i64 e.related) ∧ w'.cell? ⟨w.heap.size + 1, 0, none⟩ = some (boxAt w' ⟨w.heap.size + 1, 0, none⟩) ∧ w'.cell? ⟨w.heap.size + 1, 1, none⟩ = some (boxAt w' ⟨w.heap.size + 1, 1, none⟩) ∧ w'.cell? ⟨w.heap.size + 1, 2, none⟩ = some (boxAt w' ⟨w.heap.size + 1, 2, none⟩) ∧ w'.frozen? ⟨w.heap.size + 1, 0, none⟩ = false ∧ w'.frozen? ⟨w.heap.size + 1, 1, none⟩ = false ∧ w'.frozen? ⟨w.heap.size + 1, 2, none⟩ = false)
    (first | assumption | exact hS0 | exact sb_call (by assumption) (by assumption) (by assumption) | exact sb_set (sb_set (sb_set (by assumption))))
    (first | (go_at_call 224; refine Calls.mono (HR.out _ _ (by first | assumption | exact below_drew' (Below.refl _ _) | exact below_drew' (by assumption))) ?_; rintro x w' ⟨rfl, hbU, hbV⟩))
  all_goals
    have HX : Hid (SB w V e w') := sb_call hbU hbV (sb_call (by assumption) (by assumption) hS0)
    obtain ⟨HBX, _, _, c0, c1, c2, _, _, _⟩ := HX.out
    have HBX := hideG HBX
    clear HX
    rename_i hh _ _ _
    clear hh
    obtain ⟨k0, k1, k2⟩ := set3 (x := .int .i64 (n : Int)) (y := .int .i64 (retI T e.target n)) (z := .int .i64 (retI T e.related n)) c0 c1 c2
    have HW3 := hideG (((HBX.out.setCell (p := ⟨w.heap.size + 1, 0, none⟩) (by simp) (.int .i64 (n : Int))).setCell (p := ⟨w.heap.size + 1, 1, none⟩) (by simp) (.int .i64 (retI T e.target n))).setCell (p := ⟨w.heap.size + 1, 2, none⟩) (by simp) (.int .i64 (retI T e.related n)))
    generalize (((w'.setCell ⟨w.heap.size + 1, 0, none⟩ (.int .i64 (n : Int))).setCell ⟨w.heap.size + 1, 1, none⟩ (.int .i64 (retI T e.target n))).setCell ⟨w.heap.size + 1, 2, none⟩ (.int .i64 (retI T e.related n))) = W3 at *
    clear c0 c1 c2
    go_wp2_with fail
    refine bodyPost_ret (v := .agg #[.int .i64 (n : Int), .int .i64 (retI T e.target n), .int .i64 (retI T e.related n)]) (by simp [results, Tryz.results199, go_sem, k0, k1, k2]) rfl ⟨rfl, ?_⟩
    exact HBV.out.trans (HW3.out.mono (by omega))
end Go.Proofs.YtpmacpbhdgigfaaGreat
