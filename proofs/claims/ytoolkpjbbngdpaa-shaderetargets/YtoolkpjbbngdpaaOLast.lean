/- known and last of package order. -/
import Derived.Test.YtoolkpjbbngdpaaPars
import Derived.Test.YtoolkpjbbngdpaaLive1
namespace Go.Proofs.Ytoolkpjbbngdpaa
open Go.RowKit Go.Shelf

attribute [local go_sem] Oper.semAt_some

def knownB (T : List Nd) (l : List Int) : Bool := mayB T && l.all (isNodeB T.length)

set_option maxRecDepth 100000 in
set_option maxHeartbeats 2000000 in
theorem known_any (T : List Nd) (hS : Sane T) (v : Value) (l : List Int) (u : Value) (w : World) (hT : TreeAt w v T) (hI : IntsAt w u l) (hl : l.length ≤ 1000) :
    Calls Try.prog 83 #[v, u] w fun e w' => e = .returned (.bool (knownB T l)) ∧ Below w.heap.size w w' := by
  obtain ⟨a, cap, rfl⟩ := hT.shape
  have HT := hideG hT
  have HS := hideG hS
  obtain ⟨ua, uc, rfl, hc⟩ := hI
  have HC := hideG hc
  clear hT hS hc
  cases hm : mayB T
  · have hck : checkE T = 1 := by simp only [checkE, hm, Bool.false_eq_true, if_false]
    have HK := hideG (show knownB T l = false by simp [knownB, hm])
    go_enter Try.func83, Try.ntmps83
    go_wp2_with (go_at_call 35; refine (check_any T HS.out _ _ HT.out).mono ?_; rintro e w1 ⟨rfl, hb1⟩)
    go_ret
    exact ⟨ret_bool HK.out.symm, hb1⟩
  · have hck : checkE T = 0 := by simp only [checkE, hm, if_true]
    have hpos := mayB_pos hm
    go_enter Try.func83, Try.ntmps83
    go_wp2_with (go_at_call 35; refine (check_any T HS.out _ _ HT.out).mono ?_; rintro e w1 ⟨rfl, hb1⟩)
    have HB1 := hideG hb1
    clear hb1
    go_loopw [12] (fun i wr => ∃ k : Nat, k ≤ l.length ∧ i = .int .i64 k ∧ wr = w1 ∧ ∀ j, j < k → isNodeB T.length (l.getD j 0) = true) (fun i _ => l.length - (intOf i).toNat)
    case atStart => exact ⟨0, Nat.zero_le _, rfl, rfl, fun j h => by omega⟩
    case round =>
      obtain ⟨k, hk, rfl, rfl, hall⟩ := hrel
      have HA := hideG hall
      clear hall
      by_cases hlt : k < l.length
      · obtain ⟨b, off, rfl, hd⟩ := HC.out (by omega)
        have c1 := cell_below HB1.out (hd k hlt)
        clear hd
        have hmem : l.getD k 0 ∈ l := by
          rw [List.getD_eq_getElem?_getD, List.getElem?_eq_getElem hlt]; exact List.getElem_mem hlt
        cases hx : isNodeB T.length (l.getD k 0)
        · have HK := hideG (show knownB T l = false by
            rw [knownB, hm, Bool.true_and]
            cases h : l.all (isNodeB T.length)
            · rfl
            · rw [List.all_eq_true.mp h _ hmem] at hx; cases hx)
          generalize l.getD k 0 = x at *
          have hor : x < 0 ∨ (¬ x < 0 ∧ (T.length : Int) ≤ x) := by
            simp only [isNodeB, Bool.and_eq_false_iff, decide_eq_false_iff_not] at hx
            omega
          rcases hor with h1 | ⟨h1, h2⟩
          all_goals
            go_wp2_with fail
            go_ret
            exact ⟨ret_bool HK.out.symm, HB1.out⟩
        · have HX := hideG hx
          have hx' := hx
          generalize hg : l.getD k 0 = x at *
          have HG := hideG hg
          simp only [isNodeB, Bool.and_eq_true, decide_eq_true_eq] at hx'
          have h1 : ¬ x < 0 := by omega
          have h2 : ¬ (T.length : Int) ≤ x := by omega
          clear hx hx' hg
          go_wp2_with fail
          go_roundw
          case rel =>
            refine ⟨k + 1, by omega, by go_num, trivial, fun j hj => ?_⟩
            by_cases e : j = k
            · rw [e, HG.out]; exact HX.out
            · exact HA.out j (by omega)
          case measure => simp [intOf]; omega
      · have HK := hideG (show knownB T l = true by
          rw [knownB, hm, Bool.true_and, List.all_eq_true]
          intro x hx
          obtain ⟨j, hj, rfl⟩ := List.getElem_of_mem hx
          have := HA.out j (by omega)
          rwa [List.getD_eq_getElem?_getD, List.getElem?_eq_getElem hj] at this)
        go_wp2_with fail
        go_ret
        exact ⟨ret_bool HK.out.symm, HB1.out⟩

/-- The last one of a node's parents. -/
def topN (T : List Nd) (n : Nat) : Nat := (pars T n).getLastD n

set_option maxRecDepth 100000 in
set_option maxHeartbeats 2000000 in
theorem last_in (T : List Nd) (hm : mayB T = true) (v : Value) (n : Nat) (hn : n < T.length) (w : World) (hT : TreeAt w v T) :
    CallsIn Fence.wide 6 Try.prog 85 #[v, .int .i64 n] w fun e W' => e = .returned (.int .i64 (topN T n : Int)) ∧ Below w.heap.size w W' := by
  obtain ⟨b, off, cap, hv, hc⟩ := hT.at (by omega)
  clear hc
  have HT : Hid (TreeAt w v T) := hT
  clear hT
  subst hv
  refine callsIn_of_wp_marks Try.func85 rfl trivial ?_ rfl
  simp only [Try.ntmps85, List.size_toArray, List.length_cons, List.length_nil, Nat.reduceAdd, Nat.reduceSub, Array.replicate_succ, Array.replicate_zero, List.push_toArray, List.append_toArray, List.nil_append, List.cons_append]
  gi_wp2_with (refine ⟨trivial, ?_⟩; gi_at_call 87; refine (oup_in _ _ _ _ _ _).mono ?_; rintro e w' ⟨rfl, rfl⟩)
  have c0 := cell_new_l w (.int .i64 (n : Int)) 3
  have c1 := cell_new_l (w.alloc (.cells #[.int .i64 (n : Int)] 3)) (.slice (some ⟨b, off, none⟩) T.length cap) 23
  have c2 := cell_new_l ((w.alloc (.cells #[.int .i64 (n : Int)] 3)).alloc (.cells #[.slice (some ⟨b, off, none⟩) T.length cap] 23)) (.int .i64 (n : Int)) 3
  simp only [World.size_alloc] at c1 c2
  have hB0 : Below w.heap.size w (((w.alloc (.cells #[.int .i64 (n : Int)] 3)).alloc (.cells #[.slice (some ⟨b, off, none⟩) T.length cap] 23)).alloc (.cells #[.int .i64 (n : Int)] 3)) :=
    (((Below.refl _ w).alloc (Nat.le_refl _) _).alloc (by simp) _).alloc (by simp; omega) _
  have hsz : (((w.alloc (.cells #[.int .i64 (n : Int)] 3)).alloc (.cells #[.slice (some ⟨b, off, none⟩) T.length cap] 23)).alloc (.cells #[.int .i64 (n : Int)] 3)).heap.size = w.heap.size + 1 + 1 + 1 := by simp
  have hF : Reads (But (((w.alloc (.cells #[.int .i64 (n : Int)] 3)).alloc (.cells #[.slice (some ⟨b, off, none⟩) T.length cap] 23)).alloc (.cells #[.int .i64 (n : Int)] 3)).heap.size w.heap.size) (((w.alloc (.cells #[.int .i64 (n : Int)] 3)).alloc (.cells #[.slice (some ⟨b, off, none⟩) T.length cap] 23)).alloc (.cells #[.int .i64 (n : Int)] 3)) (.slice (some ⟨b, off, none⟩) T.length cap) T n (w.heap.size + 1 + 1) (w.heap.size + 1) := fun W hW => ⟨HT.out.but hB0 hW (by omega) (Nat.le_refl _), (hW.cell (by omega) (by omega)).trans c2.1, (hW.cell (by omega) (by omega)).trans (cell_alloc_l _ c1.1)⟩
  refine wpIn_rangeFunc_ownF rfl (by omega) (gf := 110) (lb := #[.pointer (some ⟨w.heap.size + 1 + 1, 0, none⟩), .pointer (some ⟨w.heap.size + 1, 0, none⟩)]) rfl trivial (enters_of Try.func110 (by kernel_rfl) rfl)
    (oup_stops T hm _ n hn (w.heap.size + 1 + 1) (w.heap.size + 1) _ (But (((w.alloc (.cells #[.int .i64 (n : Int)] 3)).alloc (.cells #[.slice (some ⟨b, off, none⟩) T.length cap] 23)).alloc (.cells #[.int .i64 (n : Int)] 3)).heap.size w.heap.size) But.trans (fun W hW => But.of_below hW (Nat.le_refl _)) hF ⟨b, off, cap, rfl⟩) But.trans (but_b (Nat.le_refl _)) (Below.refl _ _) (fun _ => rfl)
    (fun pre W => (W.cell? ⟨w.heap.size, 0, none⟩ = some (.int .i64 ((pre.getLastD n : Nat) : Int)) ∧ W.frozen? ⟨w.heap.size, 0, none⟩ = false) ∧ Below w.heap.size w W)
    (fun _ _ _ => False)
    (OwnFrom.and (Own.from (fun s A B row hs hg hr => ⟨cell_kept hs.1 hg hr, (frozen_kept hs.1 hg hr).trans hs.2⟩) _) (ownFrom_below (Nat.le_refl _) (by simp; omega)))
    (fun c => fun s A B row hs _ _ => hs.elim)
    ⟨⟨cell_alloc_l _ (cell_alloc_l _ c0.1), frozen_alloc_l _ (cell_alloc_l _ c0.1) (frozen_alloc_l _ c0.1 c0.2)⟩, hB0⟩
    (fun x => { tmps := #[.slice (some ⟨b, off, none⟩) T.length cap, .int .i64 (n : Int), undef, undef, .int .i64 0, .pointer (some ⟨w.heap.size, 0, none⟩), .int .i64 (x : Int), .int .i64 (n : Int), .slice (some ⟨b, off, none⟩) T.length cap, .int .i64 (n : Int),
      .func (.func 110) #[] #[.pointer (some ⟨w.heap.size + 1 + 1, 0, none⟩), .pointer (some ⟨w.heap.size + 1, 0, none⟩)], .int .i64 (x : Int), undef, undef], defers := [] }) ?assign ?body ?done ?stop
  case assign =>
    intro l x W K hK
    gi_wp2
    exact hK
  case body =>
    rintro l pre x W ⟨⟨hc, hf⟩, hB⟩ _
    gi_wp2
    refine ⟨KeepsOthers.setCell _ _ _, (But.refl _ _ W).setCell _, ⟨?_, by rw [World.frozen?_setCell]; exact hf⟩, hB.setCell (p := ⟨w.heap.size, 0, none⟩) (by simp) _⟩
    rw [World.cell?_setCell_same' _ _ _ (by rw [hc]; rfl)]
    simp
  case done =>
    rintro D ys W hD rfl ⟨⟨hc, hf⟩, hB⟩ hK
    gi_wp2
    refine ⟨by simp, .inl ⟨_, _, rfl, run_takeDeferred hK, ?_⟩⟩
    refine ⟨.int .i64 (topN T n : Int), ?_, rfl, hB.trans (belowK_b (w := w) (Nat.le_refl _) _ D _ _ (by simp at hD; omega) hK rfl rfl)⟩
    simp [results, Try.f85, go_sem, topN]
  case stop =>
    rintro D c pre W hD hpre h hK
    exact h.elim

theorem last_any (T : List Nd) (hm : mayB T = true) (v : Value) (n : Nat) (hn : n < T.length) (w : World) (hT : TreeAt w v T) :
    Calls Try.prog 85 #[v, .int .i64 n] w fun e W' => e = .returned (.int .i64 (topN T n : Int)) ∧ Below w.heap.size w W' := callsIn_wide.1 (last_in T hm v n hn w hT)

/-- order.Top: of a tree that may be, and a node of it; else -1. -/
def topI (T : List Nd) (n : Int) : Int := if knownB T [n] then (topN T n.toNat : Int) else -1

set_option maxRecDepth 100000 in
set_option maxHeartbeats 2000000 in
theorem orderTop_any (T : List Nd) (hS : Sane T) (v : Value) (n : Int) (w : World) (hT : TreeAt w v T) :
    Calls Try.prog 44 #[v, .int .i64 n] w fun e w' => e = .returned (.int .i64 (topI T n)) ∧ Below w.heap.size w w' := by
  obtain ⟨a, cap, rfl⟩ := hT.shape
  have HA := hideG ((Below.refl _ w).alloc (Nat.le_refl _) (.cells #[.int .i64 n] 3))
  have HT := hideG (hT.below HA.out)
  have HT0 := hideG hT
  have HS := hideG hS
  clear hT hS
  cases hk : knownB T [n]
  · have HQ := hideG (show topI T n = -1 by simp [topI, hk])
    go_enter Try.func44, Try.ntmps44
    go_wp2_with (go_at_call 83; refine (known_any T HS.out _ [n] _ _ HT.out (ints_new1 _ _) (by simp)).mono ?_; rintro e w1 ⟨rfl, hb1⟩; simp only [World.size_alloc] at hb1)
    go_ret
    exact ⟨ret_int HQ.out.symm, HA.out.trans (hb1.mono (by omega))⟩
  · have hk' := hk
    simp only [knownB, List.all_cons, List.all_nil, Bool.and_true, Bool.and_eq_true] at hk'
    obtain ⟨hm, hi⟩ := hk'
    obtain ⟨m, rfl, hml⟩ := isNodeB_true hi
    have HQ := hideG (show topI T m = (topN T m : Int) by simp [topI, hk])
    have HM := hideG hm
    clear hm hi
    go_enter Try.func44, Try.ntmps44
    go_wp2_with (first | (go_at_call 83; refine (known_any T HS.out _ [(m : Int)] _ _ HT.out (ints_new1 _ _) (by simp)).mono ?_; rintro e w1 ⟨rfl, hb1⟩; simp only [World.size_alloc] at hb1; have HB1 := hideG (HA.out.trans (hb1.mono (by omega))); clear hb1) | (go_at_call 85; refine (last_any T HM.out _ m hml _ (HT0.out.below HB1.out)).mono ?_; rintro e w2 ⟨rfl, hb2⟩; have HB2 := hideG (HB1.out.trans (hb2.mono HB1.out.size)); clear hb2))
    go_ret
    exact ⟨ret_int HQ.out.symm, HB2.out⟩
end Go.Proofs.Ytoolkpjbbngdpaa
