/- WBack: slices.Backward over ints; backward of package watch. -/
import Derived.Test.YtlgbiecgbdbefabWFns
import Derived.WalkMore
import Derived.TacticsInMore
import Derived.RangeFuncCalls
import Derived.RangeFuncNested
import Derived.Shelf.Abstract
import Derived.OwnWalkIn
import Derived.LoopIn
import Derived.LoopNIn
import Derived.ScopeJumps
namespace Go.Proofs.Ytlgbiecgbdbefab
open Go.RowKit Go.Shelf

attribute [local go_sem] Oper.semAt_some
theorem backI0_in (a : Option Addr) (len cap : Nat) (m : Nat) (w : World) :
    CallsIn Fence.wide m Try.prog 23 #[.slice a len cap] w fun e w' => e = .returned (.func (.func 24) #[] #[.pointer (some ⟨w.heap.size, 0, none⟩)]) ∧ w' = w.alloc (.cells #[.slice a len cap] 22) := by
  refine callsIn_of_wp Try.func23 rfl trivial ?_ rfl
  simp only [Try.ntmps23, List.size_toArray, List.length_cons, List.length_nil, Nat.reduceAdd, Nat.reduceSub, Array.replicate_succ, Array.replicate_zero, List.push_toArray, List.append_toArray, List.nil_append, List.cons_append]
  gi_wp2
  go_ret
  exact ⟨rfl, rfl⟩

/-- What the iterator hands on at a place. -/
def backEI (p : List Int) (j : Nat) : Array Value := #[.int .i64 (j : Int), .int .i64 (p.getD j 0)]

set_option maxRecDepth 100000 in
set_option maxHeartbeats 2000000 in
theorem backI1_in (p : List Int) (hp : p.length ≤ 1000) (a : Option Addr) (c : Nat) (l Bs : Nat) (w2 : World) (R : World → World → Prop) (hRt : ∀ {A B C : World}, R A B → R B C → R A C) (hF : ∀ W, R w2 W → W.cell? ⟨Bs, 0, none⟩ = some (.slice a p.length c) ∧ IntsAt W (.slice a p.length c) p)
    (J Jx : List Nat → World → Prop)
    (hY : ∀ pre x W, J pre W → pre.length < p.length + 1 → YieldAt Fence.wide 4 Try.prog l (backEI p x) W fun e W' =>
      (e = .returned (.bool true) ∧ J (pre ++ [x]) W' ∧ R W W') ∨ (e = .returned (.bool false) ∧ Jx (pre ++ [x]) W'))
    (W : World) (hW : R w2 W) (h0 : J [] W) :
    CallsIn Fence.wide 5 Try.prog 24 #[.func (.yield l) #[] #[], .pointer (some ⟨Bs, 0, none⟩)] W fun e W' => (∃ v, e = .returned v) ∧
      ((∃ ys, ys = (List.range p.length).reverse ∧ J ys W') ∨ (∃ pre, pre <+: (List.range p.length).reverse ∧ Jx pre W')) := by
  have cB := (hF W hW).1
  have HF := hideG hF
  have HY := hideG hY
  have hw0 : IntKind.i64.wrap ((p.length : Int) - 1) = (p.length : Int) - 1 := by rw [IntKind.wrap_i64]; omega
  clear hF hY
  refine callsIn_of_wp Try.func24 rfl trivial ?_ rfl
  simp only [Try.ntmps24, List.size_toArray, List.length_cons, List.length_nil, Nat.reduceAdd, Nat.reduceSub, Array.replicate_succ, Array.replicate_zero, List.push_toArray, List.append_toArray, List.nil_append, List.cons_append]
  gi_wp2_with fail
  clear cB
  gi_loopw [3] (fun t wr => ∃ (pre : List Nat) (k : Nat), J pre wr ∧ R w2 wr ∧ k ≤ p.length ∧ t = .int .i64 ((k : Int) - 1) ∧ (List.range p.length).reverse = pre ++ (List.range k).reverse) (fun t _ => (intOf t + 1).toNat)
  case atStart => exact ⟨[], p.length, h0, hW, Nat.le_refl _, by first | rfl | simp, rfl⟩
  case round =>
    obtain ⟨pre, k, hJs, hB, hk, rfl, hpre⟩ := hrel
    have HP := hideG hpre
    clear hpre hw0
    cases k with
    | zero =>
      have e0 : ((0 : Nat) : Int) - 1 = -1 := rfl
      rw [e0]
      gi_wp2_with fail
      go_end0
      exact ⟨⟨_, rfl⟩, .inl ⟨pre, by rw [HP.out]; simp, hJs⟩⟩
    | succ k =>
      have e0 : ((k + 1 : Nat) : Int) - 1 = (k : Int) := by omega
      rw [e0]
      have hk0 : (0 : Int) ≤ (k : Int) := by omega
      have hk1 : (k : Int) < (p.length : Int) := by omega
      have hw1 : IntKind.i64.wrap ((k : Int) - 1) = (k : Int) - 1 := by rw [IntKind.wrap_i64]; omega
      have hlenp : pre.length < p.length + 1 := by
        have h1 := congrArg List.length HP.out
        simp only [List.length_reverse, List.length_range, List.length_append] at h1
        omega
      obtain ⟨cB, ⟨a', c', hav, hd⟩⟩ := HF.out _ hB
      simp only [Value.slice.injEq, true_and] at hav
      obtain ⟨rfl, rfl⟩ := hav
      obtain ⟨b, off, rfl, hd'⟩ := hd (by omega)
      have hH := hd' k (by omega)
      have g0 := hH
      have hYk := HY.out pre k _ hJs hlenp
      unfold backEI at hYk
      obtain ⟨fn, tmps, assign, body, hy, hR⟩ := hYk
      generalize p.getD k 0 = x at *
      clear hd hd' hH
      gi_wp2_with fail
      refine hR.mono ?_
      rintro e W3 (⟨rfl, hJ3, hk3⟩ | ⟨rfl, hJx3⟩)
      · have hB3 := hRt hB hk3
        clear cB g0
        gi_wp2_with fail
        go_roundw
        case rel => exact ⟨pre ++ [k], k, hJ3, hB3, by omega, rfl, by rw [HP.out, range_rev]; simp⟩
        case measure => simp [intOf]
      · gi_wp2_with fail
        refine bodyPost_ret (results_none rfl _ _ _) rfl ?_
        refine ⟨⟨_, rfl⟩, .inr ⟨pre ++ [k], ?_, hJx3⟩⟩
        rw [HP.out, range_rev]
        exact ⟨_, by simp; rfl⟩
theorem back_ints (p : List Int) (hp : p.length ≤ 1000) (a : Option Addr) (c : Nat) (Bs : Nat) (w2 : World) (R : World → World → Prop) (hRt : ∀ {A B C : World}, R A B → R B C → R A C) (hR0 : ∀ W, Below w2.heap.size w2 W → R w2 W) (hF : ∀ W, R w2 W → W.cell? ⟨Bs, 0, none⟩ = some (.slice a p.length c) ∧ IntsAt W (.slice a p.length c) p) :
    SeqStopsK Fence.wide 5 Try.prog 24 #[.pointer (some ⟨Bs, 0, none⟩)] (backEI p) R (fun ys => ys = (List.range p.length).reverse) (fun pre => pre <+: (List.range p.length).reverse) (p.length + 1) w2 :=
  fun l J Jx W hW _ _ hY h0 => backI1_in p hp a c l Bs w2 R hRt hF J Jx hY W (hR0 W hW) h0
set_option maxRecDepth 100000 in
set_option maxHeartbeats 2000000 in
theorem backward_in (p : List Int) (hp : p.length ≤ 1000) (a0 : Option Addr) (c0 : Nat) (w : World) (hI : IntsAt w (.slice a0 p.length c0) p) :
    CallsIn Fence.wide 6 Try.prog 20 #[.slice a0 p.length c0] w fun e W' => ∃ a c, e = .returned (.slice a p.length c) ∧ W'.ownsRow w.heap.size 3 1 (.slice a p.length c) p.reverse.length (intCells p.reverse) ∧ Below w.heap.size w W' := by
  obtain ⟨i3, hi3, hz30, hz31, hz32⟩ := info_parts infoT3
  have HI := hideG hI
  clear hI
  refine callsIn_of_wp_marks Try.func20 rfl trivial ?_ rfl
  simp only [Try.ntmps20, List.size_toArray, List.length_cons, List.length_nil, Nat.reduceAdd, Nat.reduceSub, Array.replicate_succ, Array.replicate_zero, List.push_toArray, List.append_toArray, List.nil_append, List.cons_append]
  gi_wp2_with fail
  refine ⟨trivial, ?_⟩
  gi_at_call 23
  refine (backI0_in _ _ _ _ _).mono ?_
  rintro ex wz ⟨rfl, hwz⟩
  obtain rfl : _ = wz := hwz.symm
  gi_wp2_with fail
  obtain ⟨W1, hW1⟩ : ∃ W1, w.alloc (.cells #[.slice none 0 0] 22) = W1 := ⟨_, rfl⟩
  have d0 := cell_new_l w (.slice none 0 0) 22
  have hB0 : Below w.heap.size w W1 := by rw [← hW1]; exact (Below.refl _ w).alloc (Nat.le_refl _) _
  have hsz : W1.heap.size = w.heap.size + 1 := by rw [← hW1]; simp
  rw [hW1] at d0 ⊢
  obtain ⟨W2, hW2⟩ : ∃ W2, W1.alloc (.cells #[.slice a0 p.length c0] 22) = W2 := ⟨_, rfl⟩
  have e0 := cell_new_l W1 (.slice a0 p.length c0) 22
  have hB1 : Below W1.heap.size W1 W2 := by rw [← hW2]; exact (Below.refl _ W1).alloc (Nat.le_refl _) _
  have hsz2 : W2.heap.size = w.heap.size + 2 := by rw [← hW2]; simp [hsz]
  rw [hW2] at e0 ⊢
  rw [hsz] at e0
  have hB2 : Below w.heap.size w W2 := hB0.trans (hB1.mono hB0.size)
  have hF : ∀ W, But W2.heap.size w.heap.size W2 W → W.cell? ⟨w.heap.size + 1, 0, none⟩ = some (.slice a0 p.length c0) ∧ IntsAt W (.slice a0 p.length c0) p := fun W hW => ⟨(hW.cell (by omega) (by omega)).trans e0.1, HI.out.same (fun b o u hc => (hW.cell (by have := below_of_cell hc; simp at this; omega) (by have := below_of_cell hc; simp at this; omega)).trans (cell_below hB2 hc))⟩
  refine wpIn_rangeFunc_ownF rfl (by omega) (gf := 24) (lb := #[.pointer (some ⟨w.heap.size + 1, 0, none⟩)]) rfl trivial (enters_of Try.func24 (by kernel_rfl) rfl)
    (back_ints p hp a0 c0 (w.heap.size + 1) W2 (But W2.heap.size w.heap.size) But.trans (fun W hW => But.of_below hW (Nat.le_refl _)) hF) But.trans (but_b (Nat.le_refl _)) (Below.refl _ _) (fun _ => rfl)
    (fun pre W => (∃ v, W.cell? ⟨w.heap.size, 0, none⟩ = some v ∧ W.frozen? ⟨w.heap.size, 0, none⟩ = false ∧ W.ownsRow (w.heap.size + 2) 3 1 v (pre.map fun j => p.getD j 0).length (intCells (pre.map fun j => p.getD j 0)) ∧ w.heap.size + 2 ≤ W.heap.size) ∧ Below w.heap.size w W)
    (fun _ _ _ => False)
    (OwnFrom.and (Own.from (fun s A B row hs hg hr => by
      obtain ⟨v, h1, h2, h3, h4⟩ := hs
      exact ⟨v, cell_kept h1 hg hr, (frozen_kept h1 hg hr).trans h2, ownsRow_walk h3 hg hr, Nat.le_trans h4 hg.size⟩) _) (ownFrom_below (Nat.le_refl _) (by omega)))
    (fun c => fun s A B row hs _ _ => hs.elim)
    ⟨⟨.slice none 0 0, cell_below hB1 d0.1, frozen_below hB1 d0.1 d0.2, by exact World.ownsRow_nil _ _ _ _, by omega⟩, hB2⟩
    (fun x => { tmps := #[.slice a0 p.length c0, undef, .slice none 0 0, .pointer (some ⟨w.heap.size, 0, none⟩), undef, .int .i64 (p.getD x 0), .slice a0 p.length c0, .func (.func 24) #[] #[.pointer (some ⟨w.heap.size + 1, 0, none⟩)], .int .i64 (x : Int), .int .i64 (p.getD x 0), undef, undef, undef, undef, undef], defers := [] }) ?assign ?body ?done ?stop
  case assign =>
    intro l x W K hK
    simp only [backEI]
    generalize p.getD x 0 = y at *
    gi_wp2
    exact hK
  case body =>
    rintro l pre x W ⟨⟨v, hc, hf, hown, hw2⟩, hB⟩ hlen
    have hcl : (pre.map fun j => p.getD j 0).length ≤ 1001 := by rw [List.length_map]; omega
    have HE := hideG (show (pre ++ [x]).map (fun j => p.getD j 0) = pre.map (fun j => p.getD j 0) ++ [p.getD x 0] by simp)
    generalize pre.map (fun j => p.getD j 0) = cur at *
    generalize p.getD x 0 = y at *
    obtain ⟨va, vc, rfl⟩ := ownsRow_shape hown
    have HOW := hideG hown
    have HB := hideG hB
    have hs := hB.size
    have hlt : w.heap.size < W.heap.size := below_of_cell hc
    clear hown hB
    gi_wp2_with (gi_at_builtin; refine wpListIn_append_own _ rfl _ _ 22 rfl (w.heap.size + 2) 3 i3 _ 1 8 Try.underlying22 hi3 hz30 hz31 hz32 rfl (by decide) _ cur.length (intCells cur) rfl (HOW.out.alloc _) ⟨W.heap.size, 0, none⟩ 1 1 [.int .i64 y] rfl rfl ?h1 ?h2 ?h3 ?h4 ?h5 ?_)
    case h1 =>
      intro j u hj
      rw [addr_add, Nat.zero_add, World.cell?_alloc_at _ _ _ _ (by simp)]
      simpa using hj
    case h2 => intro u hu; simp at hu; subst hu; rfl
    case h3 => simp only [maxLen]; omega
    case h4 => omega
    case h5 => simp; omega
    intro v' w' hown' hg' _
    obtain ⟨a4, c4, rfl⟩ := ownsRow_shape hown'
    rw [intCells_snoc] at hown'
    have hne0 : some w.heap.size ≠ Value.ownBlock (.slice va cur.length vc) := fun e => by have := (HOW.out.lt _ e.symm).1; omega
    have hc' : w'.cell? ⟨w.heap.size, 0, none⟩ = some (.slice va cur.length vc) := (World.cell?_of_block (a := ⟨w.heap.size, 0, none⟩) (hg'.block w.heap.size (by simp; omega) hne0)).trans ((World.cell?_alloc_past _ _ _ hlt).trans hc)
    have hf' : w'.frozen? ⟨w.heap.size, 0, none⟩ = false := (World.frozen?_of_block (a := ⟨w.heap.size, 0, none⟩) (hg'.block w.heap.size (by simp; omega) hne0)).trans ((World.frozen?_alloc_past _ _ _ hlt).trans hf)
    have HO' := hideG hown'
    have HKO := hideG (show KeepsOthers W w' from (KeepsOthers.alloc W (.cells #[.int .i64 y] 3)).trans (KeepsOthers.of_grownBy hg' (fun j o e ho => by
      rcases (HOW.out.alloc (.cells #[.int .i64 y] 3)).2 with ⟨e0, _⟩ | ⟨g, cap, cur, e0, _, hcur, _⟩
      · rw [e0] at e; cases e
      · rw [e0] at e; cases e
        rw [hcur] at ho; cases ho; rfl)))
    have HB' := hideG ((HB.out.alloc hs (.cells #[.int .i64 y] 3)).grown hg' (by simp; omega) (fun j e => by have := (HOW.out.lt j e).1; omega))
    have HBut := hideG (show But (w.heap.size + 2) w.heap.size W w' from ⟨by have := hg'.size; simp at this; omega, fun j hj hx => (hg'.block j (by simp; omega) (fun e => by have := (HOW.out.lt j e.symm).1; omega)).trans ((Below.refl W.heap.size W).alloc (Nat.le_refl _) (.cells #[.int .i64 y] 3) |>.block j (by omega))⟩)
    clear hown' hg'
    gi_wp2
    refine ⟨HKO.out.trans (KeepsOthers.setCell _ _ _), ?_, ⟨.slice a4 (cur.length + 1) c4, World.cell?_setCell_same' _ _ _ (by rw [hc']; rfl), by rw [World.frozen?_setCell]; exact hf', ?_, ?_⟩, HB'.out.setCell (p := ⟨w.heap.size, 0, none⟩) (by simp) _⟩
    · rw [hsz2]; exact HBut.out.setCell _
    · rw [HE.out]
      have hkept := ownsRow_kept_set (g := w.heap.size) (j := 0) (u := .slice a4 (cur.length + 1) c4) HO'.out (fun e => by have := (HO'.out.lt _ e).1; omega)
      simpa using hkept
    · have := HBut.out.size; simp; omega
  case done =>
    rintro D ys W hD rfl ⟨⟨v, hc, hf, hown, hw2⟩, hB⟩ hK
    have hre : ((List.range p.length).reverse.map fun j => p.getD j 0) = p.reverse := by rw [List.map_reverse, range_get]
    rw [hre] at hown
    obtain ⟨va, vc, rfl⟩ := ownsRow_shape hown
    have hxx := ownsRow_walk (B := W.putObj D (.deferred none)) hown (grownBy_putObj' W D (.deferred none)) (fun r e => by cases e; exact ⟨_, hK, rfl⟩)
    have hl : p.reverse.length = p.length := by simp
    gi_wp2
    refine ⟨by simp, .inl ⟨_, _, rfl, run_takeDeferred hK, ?_⟩⟩
    refine ⟨.slice va p.reverse.length vc, ?_, va, vc, by rw [hl], by rw [← hl]; exact ownsRow_base hxx (by omega), hB.trans (belowK_b (w := w) (Nat.le_refl _) _ D _ _ (by omega) hK rfl rfl)⟩
    simp [results, Try.f20, go_sem]
  case stop =>
    rintro D c pre W hD hpre h hK
    exact h.elim
/-- backward of package watch. -/
theorem backward_any (p : List Int) (hp : p.length ≤ 1000) (v : Value) (w : World) (hI : IntsAt w v p) :
    Calls Try.prog 20 #[v] w fun e W' => ∃ a c, e = .returned (.slice a p.length c) ∧ W'.ownsRow w.heap.size 3 1 (.slice a p.length c) p.reverse.length (intCells p.reverse) ∧ Below w.heap.size w W' := by
  obtain ⟨a0, c0, rfl⟩ := hI.shape
  exact callsIn_wide.1 (backward_in p hp a0 c0 w hI)
end Go.Proofs.Ytlgbiecgbdbefab
