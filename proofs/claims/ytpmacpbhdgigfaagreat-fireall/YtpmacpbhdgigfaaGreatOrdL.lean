/- The document's own Place, In, List, Before and Common of layer 3. order.isAbove, Above: who is above whom, by parents. order.Common: the first one above both. order.Common: the first one above both. slices.Collect over the way down: order.List. order.Before: who stands ahead. The document's own Before and Common of layer 3. live of package limelightlaw03. OrderTells, walked. OrderLaws, walked, road by road. OrderUp, walked. -/
import Derived.Test.YtpmacpbhdgigfaaGreatOrdMath
import Derived.RangeFuncCalls
import Derived.Test.YtpmacpbhdgigfaaGreatDown
import Derived.Test.YtpmacpbhdgigfaaGreatRetMath
import Derived.Deep.RegionHeld3
import Derived.Test.YtpmacpbhdgigfaaGreatLit
import Derived.Test.YtpmacpbhdgigfaaGreatBase
import Derived.Deep.QuietTactic
namespace Go.Proofs.YtpmacpbhdgigfaaGreat
open Go.RowKit

theorem ownsRow_new1 (w : World) (x : Int) : (w.alloc (.cells #[.int .i64 x] 3)).ownsRow w.heap.size 3 1 (.slice (some ⟨w.heap.size, 0, none⟩) 1 1) 1 (intCells [x]) :=
  ⟨by simp [intCells], .inr ⟨w.heap.size, 1, #[.int .i64 x], rfl, Nat.le_refl _, World.alloc_heap_new w _, Nat.le_refl _, by simp [maxLen], rfl, by simp [intCells]⟩⟩

end Go.Proofs.YtpmacpbhdgigfaaGreat
namespace Go.Proofs.YtpmacpbhdgigfaaGreat
open Go.RowKit Go.Shelf

attribute [local go_sem] Oper.semAt_some

/-- Is somebody above, by parents? -/
def abvB (T : List Nd) (a : Int) (n : Nat) : Bool := (pars T n).any fun x => (x : Int) == a
theorem abvB_iff {T : List Nd} {a n : Nat} : abvB T (a : Int) n = true ↔ a ∈ pars T n := by
  unfold abvB
  rw [List.any_eq_true]
  constructor
  · rintro ⟨x, hx, e⟩
    have e' : (x : Int) = (a : Int) := by simpa using e
    have : x = a := by omega
    exact this ▸ hx
  · intro h; exact ⟨a, h, by simp⟩

/-- order.Above. -/
def aboveO (T : List Nd) (a b : Int) : Bool := knownB T [a, b] && abvB T a b.toNat
theorem known_two {T : List Nd} {a b : Int} (h : knownB T [a, b] = true) : mayB T = true ∧ (∃ m : Nat, a = m ∧ m < T.length) ∧ ∃ m : Nat, b = m ∧ m < T.length := by
  simp only [knownB, List.all_cons, List.all_nil, Bool.and_true, Bool.and_eq_true] at h
  exact ⟨h.1, isNodeB_true h.2.1, isNodeB_true h.2.2⟩
theorem known_both (T : List Nd) (a b : Int) : knownB T [a, b] = bothB T a b := by
  simp [knownB, bothB, Bool.and_assoc]
theorem ints_new2 (w : World) (x y : Int) : IntsAt (w.alloc (.cells #[.int .i64 x, .int .i64 y] 3)) (.slice (some ⟨w.heap.size, 0, none⟩) 2 2) [x, y] := by
  refine ⟨_, 2, rfl, fun _ => ⟨w.heap.size, 0, rfl, fun j hj => ?_⟩⟩
  match j, hj with
  | 0, _ | 1, _ => simp

end Go.Proofs.YtpmacpbhdgigfaaGreat
namespace Go.Proofs.YtpmacpbhdgigfaaGreat
open Go.RowKit Go.Shelf

attribute [local go_sem] Oper.semAt_some

theorem keepsOthers_of_below {A B : World} (h : Below A.heap.size A B) : KeepsOthers A B :=
  ⟨h.size, fun j _ ho _ => (h.block j (Array.getElem?_eq_some_iff.1 ho).1).trans ho⟩
theorem com_of_pre {T : List Nd} {a b x : Nat} {q : List Nat} (hp : (q ++ [x]) <+: pars T a) (hq : ∀ y ∈ q, abvB T (y : Int) b = false) (hx : abvB T (x : Int) b = true) : comN T a b = some x := by
  obtain ⟨r, hr⟩ := hp
  unfold comN
  rw [← hr, List.append_assoc, List.find?_append]
  have h1 : q.find? (fun x => decide (x ∈ pars T b)) = none := by
    rw [List.find?_eq_none]
    intro y hy
    have := hq y hy
    simp only [decide_eq_true_eq]
    intro h
    rw [abvB_iff.mpr h] at this
    cases this
  rw [h1]
  simp [abvB_iff.mp hx]
theorem com_of_all {T : List Nd} {a b : Nat} (h : ∀ y ∈ pars T a, abvB T (y : Int) b = false) : comN T a b = none := by
  unfold comN
  rw [List.find?_eq_none]
  intro y hy
  have := h y hy
  simp only [decide_eq_true_eq]
  intro h'
  rw [abvB_iff.mpr h'] at this
  cases this

/-- order.Common. -/
def commonI (T : List Nd) (a b : Int) : Int := if knownB T [a, b] then comI T a.toNat b.toNat else -1

end Go.Proofs.YtpmacpbhdgigfaaGreat
namespace Go.Proofs.YtpmacpbhdgigfaaGreat
open Go.RowKit Go.Shelf

attribute [local go_sem] Oper.semAt_some

theorem wpListIn_append_any {F : Fence} {N : Nat} {P : Program} {w : World} {ops : Array Oper} {rest : List Oper} {o : Oper} {a : Act} {Q : Exit → Act → World → Prop} (hgd : o.guard = none) (s x : Operand) (t : TypeId)
    (ho : o.op = .call { callee := .builtin .append, args := #[s, x], argTypes := #[t, t] })
    (base : Nat) (e : TypeId) (i : TypeInfo) (z : Value) (size bytes : Nat) (ht : P.underlying t = some (.slice e)) (hi : P.info? e = some i) (hz : i.zero = some z)
    (hsize : i.size = size) (hby : i.bytes = bytes) (hzs : z.cells.size = size) (hsz : 0 < size)
    (v : Value) (n : Nat) (xs : List Value) (hs : a.eval s = v) (hown : w.ownsRow base e size v n xs)
    (u : Value) (m : Nat) (news : List Value) (hx : a.eval x = u) (hu : Holds w u m news) (hl : news.length = m * size) (h1 : ∀ x ∈ news, x.oneCell' = true)
    (h63 : n + m ≤ maxLen) (hbytes : (n + m) * bytes ≤ 140737488355328) (hbase : base ≤ w.heap.size)
    (h : ∀ v' w', w'.ownsRow base e size v' (n + m) (xs ++ news) → w.grownBy w' v.ownBlock → (∀ k, v'.ownBlock = some k → v.ownBlock = some k ∨ w.heap.size ≤ k) → wpListIn F N P ops Q rest (a.put o.dst v') w') : wpListIn F N P ops Q (o :: rest) a w := by
  refine wpListIn_plain hgd fun K hK => ?_
  obtain ⟨v', w', hrun, h2, h3, h4⟩ := append_any (P := P) w base t o.type e i z size bytes ht hi hz hsize hby hzs hsz v n xs hown u m news hu hl h1 h63 hbytes hbase
  unfold Oper.wpIn
  refine ⟨?_, ?_⟩
  · simp [Oper.about, ho, resolve, Target.leads, Sem.run_pure]
  · rw [Oper.semAt_plain F _ _ (by rw [ho]; intro c hc'; cases hc')]
    simp [execOp, ho, resolve, invoke, builtin, hs, hx, hrun, Result.andThen]
    exact hK _ _ (h v' w' h2 h3 h4)

set_option maxRecDepth 100000 in
set_option maxHeartbeats 2000000 in
theorem appendDown_in (T : List Nd) (hm : mayB T = true) (n : Nat) (hn : n < T.length) (b off cap Bn Bt : Nat) (w : World) (hT : TreeAt w (.slice (some ⟨b, off, none⟩) T.length cap) T) (hBn : w.cell? ⟨Bn, 0, none⟩ = some (.int .i64 (n : Int))) (hBt : w.cell? ⟨Bt, 0, none⟩ = some (.slice (some ⟨b, off, none⟩) T.length cap)) (hlen : (dn T n).length ≤ 1000) :
    CallsIn Fence.wide 6 Tryz.prog 189 #[.slice none 0 0, .func (.func 267) #[] #[.pointer (some ⟨Bn, 0, none⟩), .pointer (some ⟨Bt, 0, none⟩)]] w fun e W' => ∃ a c, e = .returned (.slice a (dn T n).length c) ∧ W'.ownsRow w.heap.size 3 1 (.slice a (dn T n).length c) (dn T n).length (natCells (dn T n)) ∧ Below w.heap.size w W' := by
  obtain ⟨i3, hi3, hz30, hz31, hz32⟩ := info_parts infoT3
  have hpos := mayB_pos hm
  have hbn : Bn < w.heap.size := below_of_cell hBn
  have hbt : Bt < w.heap.size := below_of_cell hBt
  refine callsIn_of_wp_marks Tryz.func189 rfl trivial ?_ rfl
  simp only [Tryz.ntmps189, List.size_toArray, List.length_cons, List.length_nil, Nat.reduceAdd, Nat.reduceSub, Array.replicate_succ, Array.replicate_zero, List.push_toArray, List.append_toArray, List.nil_append, List.cons_append]
  gi_wp2
  have c0 := cell_new_l w (.slice none 0 0) 48
  have hB0 : Below w.heap.size w (w.alloc (.cells #[.slice none 0 0] 48)) := (Below.refl _ w).alloc (Nat.le_refl _) _
  obtain ⟨V, hV⟩ : ∃ V, w.alloc (.cells #[.slice none 0 0] 48) = V := ⟨_, rfl⟩
  rw [hV] at c0 hB0 ⊢
  have hsV : V.heap.size = w.heap.size + 1 := by rw [← hV]; simp
  clear hV
  have hx0 : ownX w.heap.size V = none := by unfold ownX; rw [c0.1]; rfl
  have hBnV := cell_below hB0 hBn
  have hBtV := cell_below hB0 hBt
  refine range_deep rfl (enters_of Tryz.func267 (by kernel_rfl) rfl) (fun x : Nat => #[Value.int .i64 (x : Int)]) (fun _ => rfl) w.heap.size (fun k => k = w.heap.size) (fun k e => by omega) (by omega) (fun g hg => by rw [hx0] at hg; cases hg) (dn T n) ?seq
    (fun pre W => (∃ v, W.cell? ⟨w.heap.size, 0, none⟩ = some v ∧ W.frozen? ⟨w.heap.size, 0, none⟩ = false ∧ W.ownsRow (w.heap.size + 1) 3 1 v pre.length (natCells pre)) ∧ Below w.heap.size w W)
    (fun _ _ _ => False)
    (OwnFrom.and (Own.from (fun s A B row hs hg hr => by
      obtain ⟨v, h1, h2, h3⟩ := hs
      exact ⟨v, cell_kept h1 hg hr, (frozen_kept h1 hg hr).trans h2, ownsRow_walk h3 hg hr⟩) _) (ownFrom_below (Nat.le_refl _) (by omega)))
    (fun c => fun s A B row hs _ _ => hs.elim)
    ⟨⟨.slice none 0 0, c0.1, c0.2, by exact World.ownsRow_nil _ _ _ _⟩, hB0⟩
    (fun x => { tmps := #[.slice none 0 0, .func (.func 267) #[] #[.pointer (some ⟨Bn, 0, none⟩), .pointer (some ⟨Bt, 0, none⟩)], .pointer (some ⟨w.heap.size, 0, none⟩), undef, .slice none 0 0, .int .i64 (x : Int), .func (.func 267) #[] #[.pointer (some ⟨Bn, 0, none⟩), .pointer (some ⟨Bt, 0, none⟩)], .int .i64 (x : Int), undef, undef, undef, undef, undef], defers := [] }) ?assign ?body ?done ?stop
  case seq =>
    intro U hBU hsU
    have hoU : ownX w.heap.size U = none := by rw [ownX_block (hBU.block w.heap.size (by omega))]; exact hx0
    have hh : ∀ k, k < w.heap.size → Held (fun k => k = w.heap.size ∨ k = V.heap.size + 1) w.heap.size U k := fun k hk => ⟨by omega, by omega, by rw [hoU]; intro e; cases e⟩
    exact down1_in T hm b off cap w hT w.heap.size (T.length + 1) n hn (by omega) _ _ Bn Bt U (fun k e => by omega) (by omega) (by omega) (hB0.trans (hBU.mono (by omega))) (fun g hg => by rw [hoU] at hg; cases hg) (hh _ hbn) (hh _ hbt) (cell_below hBU hBnV) (cell_below hBU hBtV)
  case assign =>
    intro l m x W K hK
    gi_wp2
    exact hK
  case body =>
    rintro l m pre x W ⟨⟨v, hc, hf, hown⟩, hB⟩ hlen'
    obtain ⟨va, vc, rfl⟩ := ownsRow_shape hown
    have HOW := hideG hown
    have HB := hideG hB
    have hs := hB.size
    have hlt : w.heap.size < W.heap.size := below_of_cell hc
    have hoW : ownX w.heap.size W = Value.ownBlock (.slice va pre.length vc) := by unfold ownX; rw [hc]; rfl
    clear hown hB hT hBn hBt hBnV hBtV
    have hcl : pre.length ≤ 1000 := by omega
    gi_wp2_with (gi_at_builtin; refine wpListIn_append_any rfl _ _ 48 rfl (w.heap.size + 1) 3 i3 _ 1 8 Tryz.underlying48 hi3 hz30 hz31 hz32 rfl (by decide) _ pre.length (natCells pre) rfl (HOW.out.alloc _) _ 1 [.int .i64 (x : Int)] rfl (row_new1 _ _) rfl ?h2 ?h3 ?h4 ?h5 ?_)
    case h2 => intro u hu; simp at hu; subst hu; rfl
    case h3 => simp only [maxLen]; omega
    case h4 => omega
    case h5 => simp; omega
    intro v' w' hown' hg' hfr
    obtain ⟨a4, c4, rfl⟩ := ownsRow_shape hown'
    rw [natCells_snoc] at hown'
    have hne0 : some w.heap.size ≠ Value.ownBlock (.slice va pre.length vc) := fun e => by have := (HOW.out.lt _ e.symm).1; omega
    have hc' : w'.cell? ⟨w.heap.size, 0, none⟩ = some (.slice va pre.length vc) := (World.cell?_of_block (a := ⟨w.heap.size, 0, none⟩) (hg'.block w.heap.size (by simp; omega) hne0)).trans ((World.cell?_alloc_past _ _ _ hlt).trans hc)
    have hf' : w'.frozen? ⟨w.heap.size, 0, none⟩ = false := (World.frozen?_of_block (a := ⟨w.heap.size, 0, none⟩) (hg'.block w.heap.size (by simp; omega) hne0)).trans ((World.frozen?_alloc_past _ _ _ hlt).trans hf)
    have HO' := hideG hown'
    have hBa := (Below.refl W.heap.size W).alloc (Nat.le_refl _) (.cells #[.int .i64 (x : Int)] 3)
    have HB' := hideG ((HB.out.alloc hs (.cells #[.int .i64 (x : Int)] 3)).grown hg' (by simp; omega) (fun j e => by have := (HOW.out.lt j e).1; omega))
    have hsz := hg'.size
    have HKD := hideG (show Kd (fun k => k = w.heap.size) w.heap.size W (w'.setCell ⟨w.heap.size, 0, none⟩ (.slice a4 (pre.length + 1) c4)) from by
      simp only [World.size_alloc] at hsz
      refine ⟨hg'.os.trans hBa.os, hg'.tape.trans hBa.tape, hg'.output.trans hBa.output, by simp; omega, fun k hk hne ho => ?_, fun g hg => ?_⟩
      · rw [hoW] at ho
        exact (heap_setCell_other w' ⟨w.heap.size, 0, none⟩ k _ (fun e => hne e)).trans ((hg'.block k (by simp; omega) (fun e => ho e.symm)).trans (hBa.block k hk))
      · have hown2 : ownX w.heap.size (w'.setCell ⟨w.heap.size, 0, none⟩ (.slice a4 (pre.length + 1) c4)) = Value.ownBlock (.slice a4 (pre.length + 1) c4) := by
          unfold ownX
          rw [World.cell?_setCell_same' _ _ _ (by rw [hc']; rfl)]; rfl
        rw [hown2] at hg
        have hl := HO'.out.lt g hg
        rcases hfr g hg with e | e
        · exact .inl (by rw [hoW]; exact e)
        · have e' : W.heap.size + 1 ≤ g := by simpa using e
          exact .inr ⟨by omega, by simpa using hl.2⟩)
    clear hown' hg' hfr hBa hsz
    gi_wp2
    refine ⟨HKD.out, ⟨.slice a4 (pre.length + 1) c4, World.cell?_setCell_same' _ _ _ (by rw [hc']; rfl), by rw [World.frozen?_setCell]; exact hf', ?_⟩, HB'.out.setCell (p := ⟨w.heap.size, 0, none⟩) (by simp) _⟩
    have hkept := ownsRow_kept_set (g := w.heap.size) (j := 0) (u := .slice a4 (pre.length + 1) c4) HO'.out (fun e => by have := (HO'.out.lt _ e).1; omega)
    simpa using hkept
  case done =>
    rintro W ⟨⟨v, hc, hf, hown⟩, hB⟩ hK _
    obtain ⟨va, vc, rfl⟩ := ownsRow_shape hown
    have hxx := ownsRow_walk (B := W.putObj V.heap.size (.deferred none)) hown (grownBy_putObj' W V.heap.size (.deferred none)) (fun r e => by cases e; exact ⟨_, hK, rfl⟩)
    gi_wp2
    refine ⟨by simp, .inl ⟨_, _, rfl, run_takeDeferred hK, ?_⟩⟩
    refine ⟨.slice va (dn T n).length vc, ?_, va, vc, rfl, ownsRow_base hxx (by omega), hB.trans (belowK_b (w := w) (Nat.le_refl _) _ V.heap.size _ _ (by omega) hK rfl rfl)⟩
    simp [results, Tryz.f189, go_sem]
  case stop =>
    rintro c pre W _ h _ _
    exact h.elim

theorem collectDown_any (T : List Nd) (hm : mayB T = true) (n : Nat) (hn : n < T.length) (b off cap Bn Bt : Nat) (w : World) (hT : TreeAt w (.slice (some ⟨b, off, none⟩) T.length cap) T) (hBn : w.cell? ⟨Bn, 0, none⟩ = some (.int .i64 (n : Int))) (hBt : w.cell? ⟨Bt, 0, none⟩ = some (.slice (some ⟨b, off, none⟩) T.length cap)) (hlen : (dn T n).length ≤ 1000) :
    Calls Tryz.prog 156 #[.func (.func 267) #[] #[.pointer (some ⟨Bn, 0, none⟩), .pointer (some ⟨Bt, 0, none⟩)]] w fun e W' => ∃ a c, e = .returned (.slice a (dn T n).length c) ∧ W'.ownsRow w.heap.size 3 1 (.slice a (dn T n).length c) (dn T n).length (natCells (dn T n)) ∧ Below w.heap.size w W' := by
  have H := hideG (callsIn_wide.1 (appendDown_in T hm n hn b off cap Bn Bt w hT hBn hBt hlen))
  clear hT hBn hBt
  go_enter Tryz.func156, Tryz.ntmps156
  go_wp2_with (go_at_call 189; refine H.out.mono ?_; rintro e w1 ⟨a, c, rfl, ho, hb⟩)
  go_ret
  exact ⟨a, c, rfl, ho, hb⟩

/-- order.List. -/
def dnI (T : List Nd) (n : Int) : List Int := if knownB T [n] then castL (dn T n.toNat) else []

set_option maxRecDepth 100000 in
set_option maxHeartbeats 2000000 in
theorem orderList_any (T : List Nd) (hS : Sane T) (v : Value) (n : Int) (w : World) (hT : TreeAt w v T) (hlen : ∀ m : Nat, mayB T = true → m < T.length → (dn T m).length ≤ 1000) :
    Calls Tryz.prog 264 #[v, .int .i64 n] w fun e w' => ∃ a c, e = .returned (.slice a (dnI T n).length c) ∧ w'.ownsRow w.heap.size 3 1 (.slice a (dnI T n).length c) (dnI T n).length (intCells (dnI T n)) ∧ Below w.heap.size w w' := by
  have HA := hideG ((Below.refl _ w).alloc (Nat.le_refl _) (.cells #[.int .i64 n] 3))
  have HT := hideG (hT.below HA.out)
  have HS := hideG hS
  have HT0 := hideG hT
  cases hk : knownB T [n]
  · obtain ⟨a, cap, rfl⟩ := hT.shape
    clear hT hS hlen
    have hq : dnI T n = [] := by simp [dnI, hk]
    rw [hq]
    go_enter Tryz.func264, Tryz.ntmps264
    go_wp2_with (go_at_call 208; refine (known_any T HS.out _ [n] _ _ HT.out (ints_new1 _ _) (by simp)).mono ?_; rintro e w1 ⟨rfl, hb1⟩; simp only [World.size_alloc] at hb1)
    go_ret
    exact ⟨none, 0, rfl, World.ownsRow_nil _ _ _ _, HA.out.trans (hb1.mono (by omega))⟩
  · have hk' := hk
    simp only [knownB, List.all_cons, List.all_nil, Bool.and_true, Bool.and_eq_true] at hk'
    obtain ⟨hm, hi⟩ := hk'
    obtain ⟨m, rfl, hml⟩ := isNodeB_true hi
    obtain ⟨b, off, cap, rfl, _⟩ := hT.at (by omega)
    have hl := hlen m hm hml
    clear hT hS hlen
    have hq : dnI T m = castL (dn T m) := by simp [dnI, hk]
    rw [hq]
    have HM := hideG hm
    clear hm hi hq
    go_enter Tryz.func264, Tryz.ntmps264
    go_wp2_with (first | (go_at_call 208; refine (known_any T HS.out _ [(m : Int)] _ _ HT.out (ints_new1 _ _) (by simp)).mono ?_; rintro e w1 ⟨rfl, hb1⟩; simp only [World.size_alloc] at hb1; have HB1 := hideG (HA.out.trans (hb1.mono (by omega))); clear hb1) | (go_at_call 266; refine (callsIn_wide.1 (odown_in _ _ _ _ 0 _)).mono ?_; rintro e w2 ⟨rfl, hw2⟩; have HW2 := hideG hw2; clear hw2))
    have d1 := cell_new_l w1 (.slice (some ⟨b, off, none⟩) T.length cap) 23
    have d2 := cell_new_l (w1.alloc (.cells #[.slice (some ⟨b, off, none⟩) T.length cap] 23)) (.int .i64 (m : Int)) 3
    simp only [World.size_alloc] at d2
    have hBB : Below w1.heap.size w1 ((w1.alloc (.cells #[.slice (some ⟨b, off, none⟩) T.length cap] 23)).alloc (.cells #[.int .i64 (m : Int)] 3)) := ((Below.refl _ w1).alloc (Nat.le_refl _) _).alloc (by simp) _
    have hw := HW2.out
    subst hw
    refine (collectDown_any T HM.out m hml b off cap (w1.heap.size + 1) w1.heap.size _ (HT0.out.below (HB1.out.trans (hBB.mono HB1.out.size))) d2.1 (cell_alloc_l _ d1.1) hl).mono ?_
    rintro e w3 ⟨a3, c3, rfl, ho3, hb3⟩
    have HB3 := hideG ((HB1.out.trans (hBB.mono HB1.out.size)).trans (hb3.mono (HB1.out.trans (hBB.mono HB1.out.size)).size))
    have HO3 := hideG (ownsRow_base ho3 (HB1.out.trans (hBB.mono HB1.out.size)).size)
    clear ho3 hb3 d1 d2 hBB
    go_wp2_with fail
    go_ret
    exact ⟨a3, c3, congrArg (fun k => Ending.returned (.slice a3 k c3)) (castL_length _).symm, by rw [castL_length]; exact HO3.out, HB3.out⟩
end Go.Proofs.YtpmacpbhdgigfaaGreat
namespace Go.Proofs.YtpmacpbhdgigfaaGreat
open Go.RowKit Go.Shelf

attribute [local go_sem] Oper.semAt_some

theorem scan_app {a b : Nat} : ∀ {q : List Nat} (r : List Nat), (∀ y ∈ q, y ≠ a ∧ y ≠ b) → scan a b (q ++ r) = scan a b r
  | [], r, _ => rfl
  | y :: q, r, h => by
    have h1 := h y (List.mem_cons_self ..)
    have ih := scan_app (q := q) r (fun z hz => h z (List.mem_cons_of_mem _ hz))
    simp only [List.cons_append, scan, h1.1, h1.2, if_false, ih]
theorem scan_all {a b : Nat} {l : List Nat} (h : ∀ y ∈ l, y ≠ a ∧ y ≠ b) : scan a b l = false := by
  have := scan_app [] h
  rw [List.append_nil] at this
  rw [this]; rfl
theorem scan_hit {a b : Nat} {q l : List Nat} (hp : (q ++ [a]) <+: l) (h : ∀ y ∈ q, y ≠ a ∧ y ≠ b) : scan a b l = true := by
  obtain ⟨r, rfl⟩ := hp
  rw [List.append_assoc, scan_app _ h]; simp [scan]
theorem scan_stop {a b : Nat} {q l : List Nat} (hp : (q ++ [b]) <+: l) (h : ∀ y ∈ q, y ≠ a ∧ y ≠ b) (hab : a ≠ b) : scan a b l = false := by
  obtain ⟨r, rfl⟩ := hp
  have : b ≠ a := fun e => hab e.symm
  rw [List.append_assoc, scan_app _ h]; simp [scan, this]
theorem ints_drew {w : World} {v : Value} {l : List Int} (h : IntsAt w v l) : IntsAt w.drew v l := h.below (below_drew' (Below.refl _ _))

/-- order.Before. -/
def beforeI (T : List Nd) (a b : Int) : Bool := bothB T a b && befN T a.toNat b.toNat

end Go.Proofs.YtpmacpbhdgigfaaGreat
namespace Go.Proofs.YtpmacpbhdgigfaaGreat
open Go.RowKit

theorem contains_castL {l : List Nat} {x : Nat} : containsB (castL l) (x : Int) = decide (x ∈ l) := by
  unfold containsB; exact decide_eq_decide.mpr mem_castL
theorem index_castL {l : List Nat} {x : Nat} (h : x ∈ l) : indexI (castL l) (x : Int) = (pos x l : Int) := by
  unfold indexI
  rw [idx_pos, castL_length, if_pos (pos_mem.mp h)]
theorem index_castL_not {l : List Nat} {x : Nat} (h : x ∉ l) : indexI (castL l) (x : Int) = -1 := by
  unfold indexI
  rw [idx_pos, castL_length, if_neg (fun h' => h (pos_mem.mpr h'))]

end Go.Proofs.YtpmacpbhdgigfaaGreat
namespace Go.Proofs.YtpmacpbhdgigfaaGreat
open Go.RowKit

theorem dn_short {T : List Nd} (m : Nat) (hm : mayB T = true) (h : m < T.length) : (dn T m).length ≤ 1000 := by
  have h1 := (forest3 hm).d_len h
  have h2 := mayB_pos hm
  omega
theorem listO_any (T : List Nd) (hS : Sane T) (v : Value) (n : Int) (w : World) (hT : TreeAt w v T) :
    Calls Tryz.prog 264 #[v, .int .i64 n] w fun e w' => ∃ a c, e = .returned (.slice a (dnI T n).length c) ∧ w'.ownsRow w.heap.size 3 1 (.slice a (dnI T n).length c) (dnI T n).length (intCells (dnI T n)) ∧ Below w.heap.size w w' :=
  orderList_any T hS v n w hT (fun m => dn_short m)
theorem loList (T : List Nd) (hs : shortB T = true) (n : Int) (L : Nat) (l : List Int) (hl : dnI T n = l) (hL : l.length = L) (v : Value) (w : World) (h : TreeAt w v T) :
    Calls Tryz.prog 264 #[v, .int .i64 n] w fun x w' => ∃ a c, x = .returned (.slice a L c) ∧ IntsAt w' (.slice a L c) l ∧ Below w.heap.size w w' := by
  refine (listO_any T (sane_of hs) v n w h).mono ?_
  rintro x w' ⟨a, c, rfl, ho, hb⟩
  have hi := ownsRow_ints ho
  rw [hl, hL] at hi
  exact ⟨a, c, by rw [hl, hL], hi, hb⟩
theorem loUp (T : List Nd) (hs : shortB T = true) (n : Int) (L : Nat) (l : List Int) (hl : upI T n = l) (hL : l.length = L) (v : Value) (w : World) (h : TreeAt w v T) :
    Calls Tryz.prog 256 #[v, .int .i64 n] w fun x w' => ∃ a c, x = .returned (.slice a L c) ∧ IntsAt w' (.slice a L c) l ∧ Below w.heap.size w w' := by
  refine (orderUp_any T (sane_of hs) v n w h).mono ?_
  rintro x w' ⟨a, c, rfl, ho, hb⟩
  have hi := ownsRow_ints ho
  rw [hl, hL] at hi
  exact ⟨a, c, by rw [hl, hL], hi, hb⟩
theorem loTop (T : List Nd) (hs : shortB T = true) (n r : Int) (hr : topI T n = r) (v : Value) (w : World) (h : TreeAt w v T) :
    Calls Tryz.prog 181 #[v, .int .i64 n] w fun x w' => x = .returned (.int .i64 r) ∧ Below w.heap.size w w' := by
  rw [← hr]; exact orderTop_any T (sane_of hs) v n w h
def ls3 : List Nd := [⟨0, 0, -1, [2, 1], -1, -1, []⟩, ⟨1, 0, 0, [3], -1, -1, []⟩, ⟨1, 0, 0, [], -1, -1, []⟩, ⟨1, 0, 1, [], -1, -1, []⟩, ⟨1, 0, -1, [], -1, -1, []⟩]
def ls3rows (s : Nat) : List (Nd × Value × Value) := [(⟨0, 0, -1, [2, 1], -1, -1, []⟩, .slice (some ⟨s + 0, 0, none⟩) 2 2, .slice none 0 0), (⟨1, 0, 0, [3], -1, -1, []⟩, .slice (some ⟨s + 1, 0, none⟩) 1 1, .slice none 0 0), (⟨1, 0, 0, [], -1, -1, []⟩, .slice none 0 0, .slice none 0 0), (⟨1, 0, 1, [], -1, -1, []⟩, .slice none 0 0, .slice none 0 0), (⟨1, 0, -1, [], -1, -1, []⟩, .slice none 0 0, .slice none 0 0)]
def ls3objs (s : Nat) : List Obj := [.cells (intCells [2, 1]).toArray 3, .cells (intCells [3]).toArray 3, .cells (nodesL (ls3rows s)).toArray 79]
theorem ls3_tree (w : World) : TreeAt (allocs w (ls3objs w.heap.size)) (.slice (some ⟨w.heap.size + 2, 0, none⟩) 5 5) ls3 :=
  tree_lit (ls3rows w.heap.size) (allocs_at w _ 2 _ rfl) rfl (List.forall_mem_cons.mpr ⟨⟨ints_lit [2, 1] (allocs_at w _ 0 _ rfl) rfl, attrs_none _⟩, List.forall_mem_cons.mpr ⟨⟨ints_lit [3] (allocs_at w _ 1 _ rfl) rfl, attrs_none _⟩, List.forall_mem_cons.mpr ⟨⟨ints_none _, attrs_none _⟩, List.forall_mem_cons.mpr ⟨⟨ints_none _, attrs_none _⟩, List.forall_mem_cons.mpr ⟨⟨ints_none _, attrs_none _⟩, fun p h => by cases h⟩⟩⟩⟩⟩)

end Go.Proofs.YtpmacpbhdgigfaaGreat
namespace Go.Proofs.YtpmacpbhdgigfaaGreat
open Go.RowKit

theorem dnI_known {T : List Nd} (hm : mayB T = true) {n : Nat} (hn : n < T.length) : dnI T (n : Int) = castL (dn T n) := by
  unfold dnI; rw [known_of hm hn, if_pos rfl, Int.toNat_natCast]
theorem upI_known {T : List Nd} (hm : mayB T = true) {n : Nat} (hn : n < T.length) : upI T (n : Int) = castL (pars T n) := by
  unfold upI; rw [known_of hm hn, if_pos rfl, Int.toNat_natCast]; rfl
theorem topI_known {T : List Nd} (hm : mayB T = true) {n : Nat} (hn : n < T.length) : topI T (n : Int) = (topN T n : Int) := by
  unfold topI; rw [known_of hm hn, if_pos rfl, Int.toNat_natCast]
theorem both_of {T : List Nd} (hm : mayB T = true) {a b : Nat} (ha : a < T.length) (hb : b < T.length) : bothB T (a : Int) (b : Int) = true := by
  simp only [bothB, hm, isNodeB, Bool.and_eq_true, decide_eq_true_eq, Bool.true_and]; omega
theorem aboveO_known {T : List Nd} (hm : mayB T = true) {a b : Nat} (ha : a < T.length) (hb : b < T.length) : aboveO T (a : Int) (b : Int) = abvB T (a : Int) b := by
  unfold aboveO; rw [known_both, both_of hm ha hb, Int.toNat_natCast]; rfl
theorem beforeI_known {T : List Nd} (hm : mayB T = true) {a b : Nat} (ha : a < T.length) (hb : b < T.length) : beforeI T (a : Int) (b : Int) = befN T a b := by
  unfold beforeI; rw [both_of hm ha hb, Int.toNat_natCast, Int.toNat_natCast]; rfl
theorem commonI_known {T : List Nd} (hm : mayB T = true) {a b : Nat} (ha : a < T.length) (hb : b < T.length) : commonI T (a : Int) (b : Int) = comI T a b := by
  unfold commonI; rw [known_both, both_of hm ha hb, if_pos rfl, Int.toNat_natCast, Int.toNat_natCast]
theorem known_single (T : List Nd) (a : Int) : knownB T [a] = bothB T a a := by
  simp [knownB, bothB]
theorem abv_contains {T : List Nd} {a b : Nat} : abvB T (a : Int) b = containsB (castL (pars T b)) (a : Int) := by
  rw [contains_castL]
  cases h : abvB T (a : Int) b
  · exact (decide_eq_false (fun h' => by rw [abvB_iff.mpr h'] at h; cases h)).symm
  · exact (decide_eq_true (abvB_iff.mp h)).symm

end Go.Proofs.YtpmacpbhdgigfaaGreat
namespace Go.Proofs.YtpmacpbhdgigfaaGreat
open Go.RowKit

theorem below_drewN {B : Nat} {a w : World} (h : Below B a w) (n : Nat) : Below B a (w.drewN n) := h.trans ⟨rfl, rfl, rfl, Nat.le_refl _, fun _ _ => rfl⟩

end Go.Proofs.YtpmacpbhdgigfaaGreat
namespace Go.Proofs.YtpmacpbhdgigfaaGreat
open Go.RowKit

theorem pars_step {T : List Nd} (hm : mayB T = true) : ∀ {n : Nat}, n < T.length → ∀ j, j + 1 < (pars T n).length → (nd T ((pars T n).getD j 0)).parent = (((pars T n).getD (j + 1) 0 : Nat) : Int) := by
  intro n hn
  generalize hk : (upsL T n).length = k
  induction k using Nat.strongRecOn generalizing n with
  | _ k ih =>
    intro j hj
    rcases parent_cases (mayB_fine hm) hn with e | ⟨e, m, hml, hpm⟩
    · rw [pars_none e] at hj; simp at hj
    · have hs := (upsL_some hm hn (over_of_parent (mayB_fine hm) hn hpm)).1
      rw [pars_some hm hn hpm] at hj ⊢
      cases j with
      | zero =>
        obtain ⟨r, hr⟩ : ∃ r, pars T m = m :: r := ⟨_, rfl⟩
        rw [hr]
        simpa using hpm
      | succ j =>
        have := ih (upsL T m).length (by rw [← hk, hs]; simp) hml rfl j (by simpa using hj)
        simpa using this
theorem top_parent {T : List Nd} (hm : mayB T = true) {n : Nat} (hn : n < T.length) : (nd T (topN T n)).parent = -1 := by
  have htl := top_lt hm hn
  rcases parent_cases (mayB_fine hm) htl with e | ⟨e, m, hml, hpm⟩
  · simpa using e
  · exfalso
    have h1 := topN_some hm htl hpm
    have h2 := top_eq hm hn (top_in hm hn)
    have h3 : topN T m ∈ pars T m := top_in hm hml
    rw [← h1, h2] at h3
    have h4 := (forest3 hm).u_rank hml h3
    have h5 := (upsL_some hm htl (over_of_parent (mayB_fine hm) htl hpm)).1
    have h6 := congrArg List.length h5
    simp at h6
    rcases h4 with e' | e'
    · rw [e'] at h6; omega
    · have e2 : (upsL T (topN T n)).length < (upsL T m).length := e'
      omega
theorem castL_getD (l : List Nat) {j : Nat} (h : j < l.length) : (castL l).getD j 0 = ((l.getD j 0 : Nat) : Int) := by
  unfold castL
  rw [List.getD_eq_getElem?_getD, List.getElem?_map, List.getD_eq_getElem?_getD, List.getElem?_eq_getElem h]; rfl
theorem getD_mem {l : List Nat} {j : Nat} (h : j < l.length) : l.getD j 0 ∈ l := by
  rw [List.getD_eq_getElem?_getD, List.getElem?_eq_getElem h]; exact List.getElem_mem h

end Go.Proofs.YtpmacpbhdgigfaaGreat
