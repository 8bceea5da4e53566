/- isAncestor and hasLoop of package tree: each returns what its Lean twin says. -/
import Derived.Test.YtpmacpbhdgigfaaGreatUp
import Derived.Test.YtpmacpbhdgigfaaGreatKids
namespace Go.Proofs.YtpmacpbhdgigfaaGreat
open Go.RowKit Go.Shelf

attribute [local go_sem] Oper.semAt_some

theorem cell_of_box_l {W : World} {B : Nat} {v : Value} {t : TypeId} (h : W.heap[B]? = some (.cells #[v] t (0, 0))) : W.cell? ⟨B, 0, none⟩ = some v ∧ W.frozen? ⟨B, 0, none⟩ = false := by
  constructor <;> simp [World.cell?, World.frozen?, h]
theorem cell_new_l (W : World) (v : Value) (t : TypeId) : (W.alloc (.cells #[v] t)).cell? ⟨W.heap.size, 0, none⟩ = some v ∧ (W.alloc (.cells #[v] t)).frozen? ⟨W.heap.size, 0, none⟩ = false :=
  cell_of_box_l (World.alloc_heap_new W _)
theorem cell_alloc_l {W : World} {a : Addr} {v : Value} (o : Obj) (h : W.cell? a = some v) : (W.alloc o).cell? a = some v := cell_kept h (World.grownBy_alloc W o none) (fun r e => by cases e)
theorem frozen_alloc_l {W : World} {a : Addr} {v : Value} (o : Obj) (h : W.cell? a = some v) (hf : W.frozen? a = false) : (W.alloc o).frozen? a = false := (frozen_kept h (World.grownBy_alloc W o none) (fun r e => by cases e)).trans hf

theorem anc_stops (T : List Nd) (hup : UpOk T) (h64 : T.length ≤ 64) (v : Value) (n : Nat) (hn : n < T.length) (Bn Bt : Nat) (w2 : World) (hT : TreeAt w2 v T)
    (hBn : w2.cell? ⟨Bn, 0, none⟩ = some (.int .i64 n)) (hBt : w2.cell? ⟨Bt, 0, none⟩ = some v) :
    SeqStopsK Fence.wide 5 Tryz.prog 237 #[.pointer (some ⟨Bn, 0, none⟩), .pointer (some ⟨Bt, 0, none⟩)] (fun x : Nat => #[Value.int .i64 (x : Int)]) (Below w2.heap.size) (fun ys => ys = ups T T.length n) (fun pre => pre <+: ups T T.length n) T.length w2 :=
  fun l J Jx W hW hJ _ hY h0 => anc1_in T hup h64 v n hn l Bn Bt _ w2 rfl hT hBn hBt J Jx hY W hW hJ h0

def isAncB (T : List Nd) (a : Int) (n : Nat) : Bool := (ups T T.length n).any fun x => (x : Int) == a

set_option maxRecDepth 100000 in
set_option maxHeartbeats 2000000 in
theorem isAnc_in (T : List Nd) (hup : UpOk T) (h64 : T.length ≤ 64) (v : Value) (a : Int) (n : Nat) (hn : n < T.length) (w : World) (hT : TreeAt w v T) :
    CallsIn Fence.wide 6 Tryz.prog 207 #[v, .int .i64 a, .int .i64 n] w fun e W' => e = .returned (.bool (isAncB T a n)) ∧ Below w.heap.size w W' := by
  obtain ⟨b, off, cap, hv, hc⟩ := hT.at (by omega)
  clear hc
  have HT : Hid (TreeAt w v T) := hT
  clear hT
  subst hv
  refine callsIn_of_wp_marks Tryz.func207 rfl trivial ?_ rfl
  simp only [Tryz.ntmps207, List.size_toArray, List.length_cons, List.length_nil, Nat.reduceAdd, Nat.reduceSub, Array.replicate_succ, Array.replicate_zero, List.push_toArray, List.append_toArray, List.nil_append, List.cons_append]
  gi_wp2_with (refine ⟨trivial, ?_⟩; gi_at_call 228; refine (anc_in _ _ _ _ _ _).mono ?_; rintro e w' ⟨rfl, rfl⟩)
  have c0 := cell_new_l w (.int .i64 a) 3
  have c1 := cell_new_l (w.alloc (.cells #[.int .i64 a] 3)) (.bool false) 4
  have c2 := cell_new_l ((w.alloc (.cells #[.int .i64 a] 3)).alloc (.cells #[.bool false] 4)) (.slice (some ⟨b, off, none⟩) T.length cap) 23
  have c3 := cell_new_l (((w.alloc (.cells #[.int .i64 a] 3)).alloc (.cells #[.bool false] 4)).alloc (.cells #[.slice (some ⟨b, off, none⟩) T.length cap] 23)) (.int .i64 (n : Int)) 3
  simp only [World.size_alloc] at c1 c2 c3
  have hB0 : Below w.heap.size w ((((w.alloc (.cells #[.int .i64 a] 3)).alloc (.cells #[.bool false] 4)).alloc (.cells #[.slice (some ⟨b, off, none⟩) T.length cap] 23)).alloc (.cells #[.int .i64 (n : Int)] 3)) :=
    ((((Below.refl _ w).alloc (Nat.le_refl _) _).alloc (by simp) _).alloc (by simp; omega) _).alloc (by simp; omega) _
  refine wpIn_rangeFunc_ownF rfl (by omega) (gf := 237) (lb := #[.pointer (some ⟨w.heap.size + 1 + 1 + 1, 0, none⟩), .pointer (some ⟨w.heap.size + 1 + 1, 0, none⟩)]) rfl trivial (enters_of Tryz.func237 (by kernel_rfl) rfl)
    (anc_stops T hup h64 _ n hn (w.heap.size + 1 + 1 + 1) (w.heap.size + 1 + 1) _ (HT.out.below hB0) c3.1 (cell_alloc_l _ c2.1)) belowK_t (belowK_b (Nat.le_refl _)) (Below.refl _ _) (fun _ => rfl)
    (fun pre W => ((∀ y ∈ pre, ((y : Int) == a) = false) ∧ W.cell? ⟨w.heap.size, 0, none⟩ = some (.int .i64 a) ∧ W.cell? ⟨w.heap.size + 1, 0, none⟩ = some (.bool false) ∧ W.frozen? ⟨w.heap.size + 1, 0, none⟩ = false) ∧ Below w.heap.size w W)
    (fun c pre W => (c = .ret ∧ (∃ y ∈ pre, ((y : Int) == a) = true) ∧ W.cell? ⟨w.heap.size + 1, 0, none⟩ = some (.bool true)) ∧ Below w.heap.size w W)
    (OwnFrom.and (Own.from (fun s A B row hs hg hr => ⟨hs.1, cell_kept hs.2.1 hg hr, cell_kept hs.2.2.1 hg hr, (frozen_kept hs.2.2.1 hg hr).trans hs.2.2.2⟩) _) (ownFrom_below (Nat.le_refl _) (by simp; omega)))
    (fun c => OwnFrom.and (Own.from (fun s A B row hs hg hr => ⟨hs.1, hs.2.1, cell_kept hs.2.2 hg hr⟩) _) (ownFrom_below (Nat.le_refl _) (by simp; omega)))
    ⟨⟨by simp, cell_alloc_l _ (cell_alloc_l _ (cell_alloc_l _ c0.1)), cell_alloc_l _ (cell_alloc_l _ c1.1), frozen_alloc_l _ (cell_alloc_l _ c1.1) (frozen_alloc_l _ c1.1 c1.2)⟩, hB0⟩
    (fun x => { tmps := #[.slice (some ⟨b, off, none⟩) T.length cap, .int .i64 a, .int .i64 (n : Int), undef, .pointer (some ⟨w.heap.size, 0, none⟩), undef, .pointer (some ⟨w.heap.size + 1, 0, none⟩), .int .i64 (x : Int),
      .slice (some ⟨b, off, none⟩) T.length cap, .int .i64 (n : Int), .func (.func 237) #[] #[.pointer (some ⟨w.heap.size + 1 + 1 + 1, 0, none⟩), .pointer (some ⟨w.heap.size + 1 + 1, 0, none⟩)], .int .i64 (x : Int), undef, undef, undef], defers := [] }) ?assign ?body ?done ?stop
  case assign =>
    intro l x W K hK
    gi_wp2
    exact hK
  case body =>
    rintro l pre x W ⟨⟨hp, hcw, hcr, hfr⟩, hB⟩ _
    gi_wp2
    · rename_i hx
      exact ⟨KeepsOthers.setCell _ _ _, ⟨rfl, ⟨x, List.mem_append.2 (.inr (by simp)), hx⟩, World.cell?_setCell_same' _ _ _ (by rw [hcr]; rfl)⟩, hB.setCell (p := ⟨w.heap.size + 1, 0, none⟩) (by simp) _⟩
    · rename_i hx
      exact ⟨KeepsOthers.refl _, Below.refl _ _, ⟨fun y hy => (List.mem_append.1 hy).elim (hp y) (fun e => by simp at e; subst e; simpa using hx), hcw, hcr, hfr⟩, hB⟩
  case done =>
    rintro D ys W hD rfl ⟨⟨hne, _, hcr, hfr⟩, hB⟩ hK
    gi_wp2
    have hK' := (KeepsOthers.setCell W ⟨w.heap.size + 1, 0, none⟩ (.bool false)).same D _ hK rfl
    refine ⟨by simp, .inl ⟨_, _, rfl, run_takeDeferred hK', ?_⟩⟩
    have hc5 := cell_kept (World.cell?_setCell_same' W ⟨w.heap.size + 1, 0, none⟩ (.bool false) (by rw [hcr]; rfl)) (grownBy_putObj' _ D (.deferred none)) (fun r e => by cases e; exact ⟨_, hK', rfl⟩)
    have hval : isAncB T a n = false := by
      simp only [isAncB, List.any_eq_false]
      intro y hy
      simp [hne y hy]
    refine ⟨.bool false, ?_, by rw [hval], (hB.setCell (p := ⟨w.heap.size + 1, 0, none⟩) (by simp) _).trans (belowK_b (w := w) (Nat.le_refl _) _ D _ _ (by simp at hD; omega) hK' rfl rfl)⟩
    simp [results, Tryz.f207, go_sem, hc5]
  case stop =>
    rintro D c pre W hD hpre ⟨⟨rfl, hin, hcr⟩, hB⟩ hK
    gi_wp2
    refine ⟨by simp, .inl ⟨_, _, rfl, run_takeDeferred hK, ?_⟩⟩
    have hc5 := cell_kept hcr (grownBy_putObj' _ D (.deferred none)) (fun r e => by cases e; exact ⟨_, hK, rfl⟩)
    have hval : isAncB T a n = true := by
      obtain ⟨y, hy, hya⟩ := hin
      simp only [isAncB, List.any_eq_true]
      exact ⟨y, hpre.subset hy, hya⟩
    refine ⟨.bool true, ?_, by rw [hval], hB.trans (belowK_b (w := w) (Nat.le_refl _) W D _ _ (by simp at hD; omega) hK rfl rfl)⟩
    simp [results, Tryz.f207, go_sem, hc5]

theorem isAncestor_any (T : List Nd) (hup : UpOk T) (h64 : T.length ≤ 64) (v : Value) (a : Int) (n : Nat) (hn : n < T.length) (w : World) (hT : TreeAt w v T) :
    Calls Tryz.prog 207 #[v, .int .i64 a, .int .i64 n] w fun e W' => e = .returned (.bool (isAncB T a n)) ∧ Below w.heap.size w W' := callsIn_wide.1 (isAnc_in T hup h64 v a n hn w hT)

def hasLoopB (T : List Nd) : Bool := !allB T.length (fun n => !isAncB T n n)

set_option maxRecDepth 100000 in
set_option maxHeartbeats 1000000 in
theorem hasLoop_any (T : List Nd) (hup : UpOk T) (h1 : 1 ≤ T.length) (h64 : T.length ≤ 64) (v : Value) (w : World) (hT : TreeAt w v T) :
    Calls Tryz.prog 180 #[v] w fun e W' => e = .returned (.bool (hasLoopB T)) ∧ Below w.heap.size w W' := by
  obtain ⟨b, off, cap, hv, hc⟩ := hT.at (by omega)
  clear hc
  have HT : Hid (TreeAt w v T) := hT
  have HU : Hid (UpOk T) := hup
  clear hT hup
  subst hv
  go_enter Tryz.func180, Tryz.ntmps180
  go_wp2_with fail
  go_loopw [6] (fun i wr => ∃ n : Nat, n ≤ T.length ∧ i = .int .i64 n ∧ allB n (fun n => !isAncB T n n) = true ∧ Below w.heap.size w wr) (fun i _ => T.length - (intOf i).toNat)
  case atStart => exact ⟨0, Nat.zero_le _, rfl, rfl, Below.refl _ _⟩
  case round =>
    obtain ⟨n, hn, rfl, hall, hB⟩ := hrel
    have HA : Hid (allB n (fun n => !isAncB T n n) = true) := hall
    clear hall
    by_cases hlt : n < T.length
    · have HTr := HT.out.below hB
      cases hx : isAncB T n n
      · go_wp2_with (go_at_call 207; refine (isAncestor_any T HU.out h64 _ _ n hlt _ HTr).mono ?_; rintro e w1 ⟨rfl, hb1⟩)
        go_roundw
        case rel => exact ⟨n + 1, by omega, by go_num, by rw [allB_succ, HA.out]; simp only [hx, Bool.not_false, Bool.and_self], hB.trans (hb1.mono hB.size)⟩
        case measure => simp [intOf]; omega
      · go_wp2_with (go_at_call 207; refine (isAncestor_any T HU.out h64 _ _ n hlt _ HTr).mono ?_; rintro e w1 ⟨rfl, hb1⟩)
        go_ret
        exact ⟨ret_bool (by unfold hasLoopB; rw [allB_false hlt (by simp only [hx, Bool.not_true])]; rfl), hB.trans (hb1.mono hB.size)⟩
    · have hne : n = T.length := by omega
      subst hne
      go_wp2_with fail
      go_ret
      exact ⟨ret_bool (by unfold hasLoopB; rw [HA.out]; rfl), hB⟩
end Go.Proofs.YtpmacpbhdgigfaaGreat
