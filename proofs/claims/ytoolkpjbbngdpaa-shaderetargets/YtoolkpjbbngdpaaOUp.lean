/- slices.Collect over the way up: order.Up. -/
import Derived.Test.YtoolkpjbbngdpaaOLast
import Derived.Test.YtoolkpjbbngdpaaRefWrong
namespace Go.Proofs.Ytoolkpjbbngdpaa
open Go.RowKit Go.Shelf

attribute [local go_sem] Oper.semAt_some

def natCells (l : List Nat) : List Value := intCells (l.map fun (x : Nat) => (x : Int))
theorem natCells_snoc (l : List Nat) (x : Nat) : natCells l ++ [.int .i64 (x : Int)] = natCells (l ++ [x]) := by simp [natCells, intCells]

/-- A row that nobody writes stays, whatever the book-keeping does. -/
theorem ownsRow_walk {A B : World} {base : Nat} {e : TypeId} {size : Nat} {v : Value} {n : Nat} {xs : List Value} {row : Option Nat} (h : A.ownsRow base e size v n xs) (hg : A.grownBy B row) (hr : ∀ r, row = some r → ∃ o : Obj, A.heap[r]? = some o ∧ o.isCells = false) : B.ownsRow base e size v n xs := by
  refine h.kept hg ?_
  rcases h.2 with ⟨rfl, _⟩ | ⟨g, cap, cur, rfl, _, hcur, _⟩
  · exact .inl rfl
  · right
    intro e'
    obtain ⟨o, ho, hc⟩ := hr g e'.symm
    rw [hcur] at ho
    injection ho with ho
    subst ho
    simp [Obj.isCells] at hc

set_option maxRecDepth 100000 in
set_option maxHeartbeats 2000000 in
theorem appendSeq_in (T : List Nd) (hm : mayB T = true) (n : Nat) (hn : n < T.length) (b off cap Bn Bt : Nat) (w : World) (hT : TreeAt w (.slice (some ⟨b, off, none⟩) T.length cap) T) (hBn : w.cell? ⟨Bn, 0, none⟩ = some (.int .i64 (n : Int))) (hBt : w.cell? ⟨Bt, 0, none⟩ = some (.slice (some ⟨b, off, none⟩) T.length cap)) :
    CallsIn Fence.wide 6 Try.prog 111 #[.slice none 0 0, .func (.func 110) #[] #[.pointer (some ⟨Bn, 0, none⟩), .pointer (some ⟨Bt, 0, none⟩)]] w fun e W' => ∃ a c, e = .returned (.slice a (pars T n).length c) ∧ W'.ownsRow w.heap.size 3 1 (.slice a (pars T n).length c) (pars T n).length (natCells (pars T n)) ∧ Below w.heap.size w W' := by
  obtain ⟨i3, hi3, hz30, hz31, hz32⟩ := info_parts infoT3
  have HT : Hid (TreeAt w (.slice (some ⟨b, off, none⟩) T.length cap) T) := hT
  have hpos := mayB_pos hm
  have hbn : Bn < w.heap.size := below_of_cell hBn
  have hbt : Bt < w.heap.size := below_of_cell hBt
  clear hT
  refine callsIn_of_wp_marks Try.func111 rfl trivial ?_ rfl
  simp only [Try.ntmps111, List.size_toArray, List.length_cons, List.length_nil, Nat.reduceAdd, Nat.reduceSub, Array.replicate_succ, Array.replicate_zero, List.push_toArray, List.append_toArray, List.nil_append, List.cons_append]
  gi_wp2
  have c0 := cell_new_l w (.slice none 0 0) 46
  have hB0 : Below w.heap.size w (w.alloc (.cells #[.slice none 0 0] 46)) := (Below.refl _ w).alloc (Nat.le_refl _) _
  have hsz : (w.alloc (.cells #[.slice none 0 0] 46)).heap.size = w.heap.size + 1 := by simp
  have hF : Reads (But (w.alloc (.cells #[.slice none 0 0] 46)).heap.size w.heap.size) (w.alloc (.cells #[.slice none 0 0] 46)) (.slice (some ⟨b, off, none⟩) T.length cap) T n Bn Bt := fun W hW => ⟨HT.out.but hB0 hW (by omega) (Nat.le_refl _), (hW.cell (by omega) (by omega)).trans (cell_below hB0 hBn), (hW.cell (by omega) (by omega)).trans (cell_below hB0 hBt)⟩
  refine wpIn_rangeFunc_ownF rfl (by omega) (gf := 110) (lb := #[.pointer (some ⟨Bn, 0, none⟩), .pointer (some ⟨Bt, 0, none⟩)]) rfl trivial (enters_of Try.func110 (by kernel_rfl) rfl)
    (oup_stops T hm _ n hn Bn Bt _ (But (w.alloc (.cells #[.slice none 0 0] 46)).heap.size w.heap.size) But.trans (fun W hW => But.of_below hW (Nat.le_refl _)) hF ⟨b, off, cap, rfl⟩) But.trans (but_b (Nat.le_refl _)) (Below.refl _ _) (fun _ => rfl)
    (fun pre W => (∃ v, W.cell? ⟨w.heap.size, 0, none⟩ = some v ∧ W.frozen? ⟨w.heap.size, 0, none⟩ = false ∧ W.ownsRow (w.heap.size + 1) 3 1 v pre.length (natCells pre)) ∧ Below w.heap.size w W)
    (fun _ _ _ => False)
    (OwnFrom.and (Own.from (fun s A B row hs hg hr => by
      obtain ⟨v, h1, h2, h3⟩ := hs
      exact ⟨v, cell_kept h1 hg hr, (frozen_kept h1 hg hr).trans h2, ownsRow_walk h3 hg hr⟩) _) (ownFrom_below (Nat.le_refl _) (by simp)))
    (fun c => fun s A B row hs _ _ => hs.elim)
    ⟨⟨.slice none 0 0, c0.1, c0.2, by exact World.ownsRow_nil _ _ _ _⟩, hB0⟩
    (fun x => { tmps := #[.slice none 0 0, .func (.func 110) #[] #[.pointer (some ⟨Bn, 0, none⟩), .pointer (some ⟨Bt, 0, none⟩)], .pointer (some ⟨w.heap.size, 0, none⟩), undef, .slice none 0 0, .int .i64 (x : Int), .func (.func 110) #[] #[.pointer (some ⟨Bn, 0, none⟩), .pointer (some ⟨Bt, 0, none⟩)], .int .i64 (x : Int), undef, undef, undef, undef, undef], defers := [] }) ?assign ?body ?done ?stop
  case assign =>
    intro l x W K hK
    gi_wp2
    exact hK
  case body =>
    rintro l pre x W ⟨⟨v, hc, hf, hown⟩, hB⟩ hlen
    obtain ⟨va, vc, rfl⟩ := ownsRow_shape hown
    have HOW := hideG hown
    have HB := hideG hB
    have hs := hB.size
    have hlt : w.heap.size < W.heap.size := below_of_cell hc
    clear hown hB
    have hcl : pre.length ≤ 100 := by omega
    gi_wp2_with (gi_at_builtin; refine wpListIn_append_own _ rfl _ _ 46 rfl (w.heap.size + 1) 3 i3 _ 1 8 Try.underlying46 hi3 hz30 hz31 hz32 rfl (by decide) _ pre.length (natCells pre) rfl (HOW.out.alloc _) ⟨W.heap.size, 0, none⟩ 1 1 [.int .i64 (x : Int)] rfl rfl ?h1 ?h2 ?h3 ?h4 ?h5 ?_)
    case h1 =>
      intro j u hj
      rw [addr_add, Nat.zero_add, World.cell?_alloc_at _ _ _ _ (by simp)]
      simpa using hj
    case h2 => intro u hu; simp at hu; subst hu; rfl
    case h3 => simp only [maxLen]; omega
    case h4 => omega
    case h5 => simp; omega
    intro v' w' hown' hg' _
    obtain ⟨a4, c4, rfl⟩ := ownsRow_shape hown'
    rw [natCells_snoc] at hown'
    have hne0 : some w.heap.size ≠ Value.ownBlock (.slice va pre.length vc) := fun e => by have := (HOW.out.lt _ e.symm).1; omega
    have hc' : w'.cell? ⟨w.heap.size, 0, none⟩ = some (.slice va pre.length vc) := (World.cell?_of_block (a := ⟨w.heap.size, 0, none⟩) (hg'.block w.heap.size (by simp; omega) hne0)).trans ((World.cell?_alloc_past _ _ _ hlt).trans hc)
    have hf' : w'.frozen? ⟨w.heap.size, 0, none⟩ = false := (World.frozen?_of_block (a := ⟨w.heap.size, 0, none⟩) (hg'.block w.heap.size (by simp; omega) hne0)).trans ((World.frozen?_alloc_past _ _ _ hlt).trans hf)
    have HO' := hideG hown'
    have HKO := hideG (show KeepsOthers W w' from (KeepsOthers.alloc W (.cells #[.int .i64 (x : Int)] 3)).trans (KeepsOthers.of_grownBy hg' (fun j o e ho => by
      rcases (HOW.out.alloc (.cells #[.int .i64 (x : Int)] 3)).2 with ⟨e0, _⟩ | ⟨g, cap, cur, e0, _, hcur, _⟩
      · rw [e0] at e; cases e
      · rw [e0] at e; cases e
        rw [hcur] at ho; cases ho; rfl)))
    have HB' := hideG ((HB.out.alloc hs (.cells #[.int .i64 (x : Int)] 3)).grown hg' (by simp; omega) (fun j e => by have := (HOW.out.lt j e).1; omega))
    have HBut := hideG (show But (w.heap.size + 1) w.heap.size W w' from ⟨by have := hg'.size; simp at this; omega, fun j hj hx => (hg'.block j (by simp; omega) (fun e => by have := (HOW.out.lt j e.symm).1; omega)).trans ((Below.refl W.heap.size W).alloc (Nat.le_refl _) (.cells #[.int .i64 (x : Int)] 3) |>.block j (by omega))⟩)
    clear hown' hg'
    gi_wp2
    refine ⟨HKO.out.trans (KeepsOthers.setCell _ _ _), ?_, ⟨.slice a4 (pre.length + 1) c4, World.cell?_setCell_same' _ _ _ (by rw [hc']; rfl), by rw [World.frozen?_setCell]; exact hf', ?_⟩, HB'.out.setCell (p := ⟨w.heap.size, 0, none⟩) (by simp) _⟩
    · rw [hsz]; exact HBut.out.setCell _
    · have hkept := ownsRow_kept_set (g := w.heap.size) (j := 0) (u := .slice a4 (pre.length + 1) c4) HO'.out (fun e => by have := (HO'.out.lt _ e).1; omega)
      simpa using hkept
  case done =>
    rintro D ys W hD rfl ⟨⟨v, hc, hf, hown⟩, hB⟩ hK
    obtain ⟨va, vc, rfl⟩ := ownsRow_shape hown
    have hxx := ownsRow_walk (B := W.putObj D (.deferred none)) hown (grownBy_putObj' W D (.deferred none)) (fun r e => by cases e; exact ⟨_, hK, rfl⟩)
    gi_wp2
    refine ⟨by simp, .inl ⟨_, _, rfl, run_takeDeferred hK, ?_⟩⟩
    refine ⟨.slice va (pars T n).length vc, ?_, va, vc, rfl, ownsRow_base hxx (by omega), hB.trans (belowK_b (w := w) (Nat.le_refl _) _ D _ _ (by simp at hD; omega) hK rfl rfl)⟩
    simp [results, Try.f111, go_sem]
  case stop =>
    rintro D c pre W hD hpre h hK
    exact h.elim

theorem collect_any (T : List Nd) (hm : mayB T = true) (n : Nat) (hn : n < T.length) (b off cap Bn Bt : Nat) (w : World) (hT : TreeAt w (.slice (some ⟨b, off, none⟩) T.length cap) T) (hBn : w.cell? ⟨Bn, 0, none⟩ = some (.int .i64 (n : Int))) (hBt : w.cell? ⟨Bt, 0, none⟩ = some (.slice (some ⟨b, off, none⟩) T.length cap)) :
    Calls Try.prog 88 #[.func (.func 110) #[] #[.pointer (some ⟨Bn, 0, none⟩), .pointer (some ⟨Bt, 0, none⟩)]] w fun e W' => ∃ a c, e = .returned (.slice a (pars T n).length c) ∧ W'.ownsRow w.heap.size 3 1 (.slice a (pars T n).length c) (pars T n).length (natCells (pars T n)) ∧ Below w.heap.size w W' := by
  have H := hideG (callsIn_wide.1 (appendSeq_in T hm n hn b off cap Bn Bt w hT hBn hBt))
  clear hT hBn hBt
  go_enter Try.func88, Try.ntmps88
  go_wp2_with (go_at_call 111; refine H.out.mono ?_; rintro e w1 ⟨a, c, rfl, ho, hb⟩)
  go_ret
  exact ⟨a, c, rfl, ho, hb⟩

/-- order.Up. -/
def upI (T : List Nd) (n : Int) : List Int := if knownB T [n] then (pars T n.toNat).map (fun (x : Nat) => (x : Int)) else []

set_option maxRecDepth 100000 in
set_option maxHeartbeats 2000000 in
theorem orderUp_any (T : List Nd) (hS : Sane T) (v : Value) (n : Int) (w : World) (hT : TreeAt w v T) :
    Calls Try.prog 43 #[v, .int .i64 n] w fun e w' => ∃ a c, e = .returned (.slice a (upI T n).length c) ∧ w'.ownsRow w.heap.size 3 1 (.slice a (upI T n).length c) (upI T n).length (intCells (upI T n)) ∧ Below w.heap.size w w' := by
  have HA := hideG ((Below.refl _ w).alloc (Nat.le_refl _) (.cells #[.int .i64 n] 3))
  have HT := hideG (hT.below HA.out)
  have HS := hideG hS
  have HT0 := hideG hT
  cases hk : knownB T [n]
  · obtain ⟨a, cap, rfl⟩ := hT.shape
    clear hT hS
    have hq : upI T n = [] := by simp [upI, hk]
    rw [hq]
    go_enter Try.func43, Try.ntmps43
    go_wp2_with (go_at_call 83; refine (known_any T HS.out _ [n] _ _ HT.out (ints_new1 _ _) (by simp)).mono ?_; rintro e w1 ⟨rfl, hb1⟩; simp only [World.size_alloc] at hb1)
    go_ret
    exact ⟨none, 0, rfl, World.ownsRow_nil _ _ _ _, HA.out.trans (hb1.mono (by omega))⟩
  · have hk' := hk
    simp only [knownB, List.all_cons, List.all_nil, Bool.and_true, Bool.and_eq_true] at hk'
    obtain ⟨hm, hi⟩ := hk'
    obtain ⟨m, rfl, hml⟩ := isNodeB_true hi
    obtain ⟨b, off, cap, rfl, _⟩ := hT.at (by omega)
    clear hT hS
    have hq : upI T m = (pars T m).map (fun (x : Nat) => (x : Int)) := by simp [upI, hk]
    rw [hq]
    have HM := hideG hm
    clear hm hi hq
    go_enter Try.func43, Try.ntmps43
    go_wp2_with (first | (go_at_call 83; refine (known_any T HS.out _ [(m : Int)] _ _ HT.out (ints_new1 _ _) (by simp)).mono ?_; rintro e w1 ⟨rfl, hb1⟩; simp only [World.size_alloc] at hb1; have HB1 := hideG (HA.out.trans (hb1.mono (by omega))); clear hb1) | (go_at_call 87; refine (callsIn_wide.1 (oup_in _ _ _ _ 0 _)).mono ?_; rintro e w2 ⟨rfl, hw2⟩; have HW2 := hideG hw2; clear hw2))
    have d1 := cell_new_l w1 (.slice (some ⟨b, off, none⟩) T.length cap) 23
    have d2 := cell_new_l (w1.alloc (.cells #[.slice (some ⟨b, off, none⟩) T.length cap] 23)) (.int .i64 (m : Int)) 3
    simp only [World.size_alloc] at d2
    have hBB : Below w1.heap.size w1 ((w1.alloc (.cells #[.slice (some ⟨b, off, none⟩) T.length cap] 23)).alloc (.cells #[.int .i64 (m : Int)] 3)) := ((Below.refl _ w1).alloc (Nat.le_refl _) _).alloc (by simp) _
    have hw := HW2.out
    subst hw
    refine (collect_any T HM.out m hml b off cap (w1.heap.size + 1) w1.heap.size _ (HT0.out.below (HB1.out.trans (hBB.mono HB1.out.size))) d2.1 (cell_alloc_l _ d1.1)).mono ?_
    rintro e w3 ⟨a3, c3, rfl, ho3, hb3⟩
    have HB3 := hideG ((HB1.out.trans (hBB.mono HB1.out.size)).trans (hb3.mono (HB1.out.trans (hBB.mono HB1.out.size)).size))
    have HO3 := hideG (ownsRow_base ho3 (HB1.out.trans (hBB.mono HB1.out.size)).size)
    clear ho3 hb3 d1 d2 hBB
    go_wp2_with fail
    go_ret
    exact ⟨a3, c3, by simp, by simpa [natCells] using HO3.out, HB3.out⟩
end Go.Proofs.Ytoolkpjbbngdpaa
