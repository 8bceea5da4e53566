/- slices.Collect over the way down: order.List. -/
import Derived.Test.YtnbnijhdmnoelaaDown
import Derived.Test.YtnbnijhdmnoelaaRetMath
namespace Go.Proofs.Ytnbnijhdmnoelaa
open Go.RowKit Go.Shelf

attribute [local go_sem] Oper.semAt_some

theorem wpListIn_append_any {F : Fence} {N : Nat} {P : Program} {w : World} {ops : Array Oper} {rest : List Oper} {o : Oper} {a : Act} {Q : Exit → Act → World → Prop} (hgd : o.guard = none) (s x : Operand) (t : TypeId)
    (ho : o.op = .call { callee := .builtin .append, args := #[s, x], argTypes := #[t, t] })
    (base : Nat) (e : TypeId) (i : TypeInfo) (z : Value) (size bytes : Nat) (ht : P.underlying t = some (.slice e)) (hi : P.info? e = some i) (hz : i.zero = some z)
    (hsize : i.size = size) (hby : i.bytes = bytes) (hzs : z.cells.size = size) (hsz : 0 < size)
    (v : Value) (n : Nat) (xs : List Value) (hs : a.eval s = v) (hown : w.ownsRow base e size v n xs)
    (u : Value) (m : Nat) (news : List Value) (hx : a.eval x = u) (hu : Holds w u m news) (hl : news.length = m * size) (h1 : ∀ x ∈ news, x.oneCell' = true)
    (h63 : n + m ≤ maxLen) (hbytes : (n + m) * bytes ≤ 140737488355328) (hbase : base ≤ w.heap.size)
    (h : ∀ v' w', w'.ownsRow base e size v' (n + m) (xs ++ news) → w.grownBy w' v.ownBlock → (∀ k, v'.ownBlock = some k → v.ownBlock = some k ∨ w.heap.size ≤ k) → wpListIn F N P ops Q rest (a.put o.dst v') w') : wpListIn F N P ops Q (o :: rest) a w := by
  refine wpListIn_plain hgd fun K hK => ?_
  obtain ⟨v', w', hrun, h2, h3, h4⟩ := append_any (P := P) w base t o.type e i z size bytes ht hi hz hsize hby hzs hsz v n xs hown u m news hu hl h1 h63 hbytes hbase
  unfold Oper.wpIn
  refine ⟨?_, ?_⟩
  · simp [Oper.about, ho, resolve, Target.leads, Sem.run_pure]
  · rw [Oper.semAt_plain F _ _ (by rw [ho]; intro c hc'; cases hc')]
    simp [execOp, ho, resolve, invoke, builtin, hs, hx, hrun, Result.andThen]
    exact hK _ _ (h v' w' h2 h3 h4)

set_option maxRecDepth 100000 in
set_option maxHeartbeats 2000000 in
theorem appendDown_in (T : List Nd) (hm : mayB T = true) (n : Nat) (hn : n < T.length) (b off cap Bn Bt : Nat) (w : World) (hT : TreeAt w (.slice (some ⟨b, off, none⟩) T.length cap) T) (hBn : w.cell? ⟨Bn, 0, none⟩ = some (.int .i64 (n : Int))) (hBt : w.cell? ⟨Bt, 0, none⟩ = some (.slice (some ⟨b, off, none⟩) T.length cap)) (hlen : (dn T n).length ≤ 1000) :
    CallsIn Fence.wide 6 Try.prog 111 #[.slice none 0 0, .func (.func 109) #[] #[.pointer (some ⟨Bn, 0, none⟩), .pointer (some ⟨Bt, 0, none⟩)]] w fun e W' => ∃ a c, e = .returned (.slice a (dn T n).length c) ∧ W'.ownsRow w.heap.size 3 1 (.slice a (dn T n).length c) (dn T n).length (natCells (dn T n)) ∧ Below w.heap.size w W' := by
  obtain ⟨i3, hi3, hz30, hz31, hz32⟩ := info_parts infoT3
  have hpos := mayB_pos hm
  have hbn : Bn < w.heap.size := below_of_cell hBn
  have hbt : Bt < w.heap.size := below_of_cell hBt
  refine callsIn_of_wp_marks Try.func111 rfl trivial ?_ rfl
  simp only [Try.ntmps111, List.size_toArray, List.length_cons, List.length_nil, Nat.reduceAdd, Nat.reduceSub, Array.replicate_succ, Array.replicate_zero, List.push_toArray, List.append_toArray, List.nil_append, List.cons_append]
  gi_wp2
  have c0 := cell_new_l w (.slice none 0 0) 28
  have hB0 : Below w.heap.size w (w.alloc (.cells #[.slice none 0 0] 28)) := (Below.refl _ w).alloc (Nat.le_refl _) _
  obtain ⟨V, hV⟩ : ∃ V, w.alloc (.cells #[.slice none 0 0] 28) = V := ⟨_, rfl⟩
  rw [hV] at c0 hB0 ⊢
  have hsV : V.heap.size = w.heap.size + 1 := by rw [← hV]; simp
  clear hV
  have hx0 : ownX w.heap.size V = none := by unfold ownX; rw [c0.1]; rfl
  have hBnV := cell_below hB0 hBn
  have hBtV := cell_below hB0 hBt
  refine range_deep rfl (enters_of Try.func109 (by kernel_rfl) rfl) (fun x : Nat => #[Value.int .i64 (x : Int)]) (fun _ => rfl) w.heap.size (fun k => k = w.heap.size) (fun k e => by omega) (by omega) (fun g hg => by rw [hx0] at hg; cases hg) (dn T n) ?seq
    (fun pre W => (∃ v, W.cell? ⟨w.heap.size, 0, none⟩ = some v ∧ W.frozen? ⟨w.heap.size, 0, none⟩ = false ∧ W.ownsRow (w.heap.size + 1) 3 1 v pre.length (natCells pre)) ∧ Below w.heap.size w W)
    (fun _ _ _ => False)
    (OwnFrom.and (Own.from (fun s A B row hs hg hr => by
      obtain ⟨v, h1, h2, h3⟩ := hs
      exact ⟨v, cell_kept h1 hg hr, (frozen_kept h1 hg hr).trans h2, ownsRow_walk h3 hg hr⟩) _) (ownFrom_below (Nat.le_refl _) (by omega)))
    (fun c => fun s A B row hs _ _ => hs.elim)
    ⟨⟨.slice none 0 0, c0.1, c0.2, by exact World.ownsRow_nil _ _ _ _⟩, hB0⟩
    (fun x => { tmps := #[.slice none 0 0, .func (.func 109) #[] #[.pointer (some ⟨Bn, 0, none⟩), .pointer (some ⟨Bt, 0, none⟩)], .pointer (some ⟨w.heap.size, 0, none⟩), undef, .slice none 0 0, .int .i64 (x : Int), .func (.func 109) #[] #[.pointer (some ⟨Bn, 0, none⟩), .pointer (some ⟨Bt, 0, none⟩)], .int .i64 (x : Int), undef, undef, undef, undef, undef], defers := [] }) ?assign ?body ?done ?stop
  case seq =>
    intro U hBU hsU
    have hoU : ownX w.heap.size U = none := by rw [ownX_block (hBU.block w.heap.size (by omega))]; exact hx0
    have hh : ∀ k, k < w.heap.size → Held (fun k => k = w.heap.size ∨ k = V.heap.size + 1) w.heap.size U k := fun k hk => ⟨by omega, by omega, by rw [hoU]; intro e; cases e⟩
    exact down1_in T hm b off cap w hT w.heap.size (T.length + 1) n hn (by omega) _ _ Bn Bt U (fun k e => by omega) (by omega) (by omega) (hB0.trans (hBU.mono (by omega))) (fun g hg => by rw [hoU] at hg; cases hg) (hh _ hbn) (hh _ hbt) (cell_below hBU hBnV) (cell_below hBU hBtV)
  case assign =>
    intro l m x W K hK
    gi_wp2
    exact hK
  case body =>
    rintro l m pre x W ⟨⟨v, hc, hf, hown⟩, hB⟩ hlen'
    obtain ⟨va, vc, rfl⟩ := ownsRow_shape hown
    have HOW := hideG hown
    have HB := hideG hB
    have hs := hB.size
    have hlt : w.heap.size < W.heap.size := below_of_cell hc
    have hoW : ownX w.heap.size W = Value.ownBlock (.slice va pre.length vc) := by unfold ownX; rw [hc]; rfl
    clear hown hB hT hBn hBt hBnV hBtV
    have hcl : pre.length ≤ 1000 := by omega
    gi_wp2_with (gi_at_builtin; refine wpListIn_append_any rfl _ _ 28 rfl (w.heap.size + 1) 3 i3 _ 1 8 Try.underlying28 hi3 hz30 hz31 hz32 rfl (by decide) _ pre.length (natCells pre) rfl (HOW.out.alloc _) _ 1 [.int .i64 (x : Int)] rfl (row_new1 _ _) rfl ?h2 ?h3 ?h4 ?h5 ?_)
    case h2 => intro u hu; simp at hu; subst hu; rfl
    case h3 => simp only [maxLen]; omega
    case h4 => omega
    case h5 => simp; omega
    intro v' w' hown' hg' hfr
    obtain ⟨a4, c4, rfl⟩ := ownsRow_shape hown'
    rw [natCells_snoc] at hown'
    have hne0 : some w.heap.size ≠ Value.ownBlock (.slice va pre.length vc) := fun e => by have := (HOW.out.lt _ e.symm).1; omega
    have hc' : w'.cell? ⟨w.heap.size, 0, none⟩ = some (.slice va pre.length vc) := (World.cell?_of_block (a := ⟨w.heap.size, 0, none⟩) (hg'.block w.heap.size (by simp; omega) hne0)).trans ((World.cell?_alloc_past _ _ _ hlt).trans hc)
    have hf' : w'.frozen? ⟨w.heap.size, 0, none⟩ = false := (World.frozen?_of_block (a := ⟨w.heap.size, 0, none⟩) (hg'.block w.heap.size (by simp; omega) hne0)).trans ((World.frozen?_alloc_past _ _ _ hlt).trans hf)
    have HO' := hideG hown'
    have hBa := (Below.refl W.heap.size W).alloc (Nat.le_refl _) (.cells #[.int .i64 (x : Int)] 3)
    have HB' := hideG ((HB.out.alloc hs (.cells #[.int .i64 (x : Int)] 3)).grown hg' (by simp; omega) (fun j e => by have := (HOW.out.lt j e).1; omega))
    have hsz := hg'.size
    have HKD := hideG (show Kd (fun k => k = w.heap.size) w.heap.size W (w'.setCell ⟨w.heap.size, 0, none⟩ (.slice a4 (pre.length + 1) c4)) from by
      simp only [World.size_alloc] at hsz
      refine ⟨hg'.os.trans hBa.os, hg'.tape.trans hBa.tape, hg'.output.trans hBa.output, by simp; omega, fun k hk hne ho => ?_, fun g hg => ?_⟩
      · rw [hoW] at ho
        exact (heap_setCell_other w' ⟨w.heap.size, 0, none⟩ k _ (fun e => hne e)).trans ((hg'.block k (by simp; omega) (fun e => ho e.symm)).trans (hBa.block k hk))
      · have hown2 : ownX w.heap.size (w'.setCell ⟨w.heap.size, 0, none⟩ (.slice a4 (pre.length + 1) c4)) = Value.ownBlock (.slice a4 (pre.length + 1) c4) := by
          unfold ownX
          rw [World.cell?_setCell_same' _ _ _ (by rw [hc']; rfl)]; rfl
        rw [hown2] at hg
        have hl := HO'.out.lt g hg
        rcases hfr g hg with e | e
        · exact .inl (by rw [hoW]; exact e)
        · have e' : W.heap.size + 1 ≤ g := by simpa using e
          exact .inr ⟨by omega, by simpa using hl.2⟩)
    clear hown' hg' hfr hBa hsz
    gi_wp2
    refine ⟨HKD.out, ⟨.slice a4 (pre.length + 1) c4, World.cell?_setCell_same' _ _ _ (by rw [hc']; rfl), by rw [World.frozen?_setCell]; exact hf', ?_⟩, HB'.out.setCell (p := ⟨w.heap.size, 0, none⟩) (by simp) _⟩
    have hkept := ownsRow_kept_set (g := w.heap.size) (j := 0) (u := .slice a4 (pre.length + 1) c4) HO'.out (fun e => by have := (HO'.out.lt _ e).1; omega)
    simpa using hkept
  case done =>
    rintro W ⟨⟨v, hc, hf, hown⟩, hB⟩ hK _
    obtain ⟨va, vc, rfl⟩ := ownsRow_shape hown
    have hxx := ownsRow_walk (B := W.putObj V.heap.size (.deferred none)) hown (grownBy_putObj' W V.heap.size (.deferred none)) (fun r e => by cases e; exact ⟨_, hK, rfl⟩)
    gi_wp2
    refine ⟨by simp, .inl ⟨_, _, rfl, run_takeDeferred hK, ?_⟩⟩
    refine ⟨.slice va (dn T n).length vc, ?_, va, vc, rfl, ownsRow_base hxx (by omega), hB.trans (belowK_b (w := w) (Nat.le_refl _) _ V.heap.size _ _ (by omega) hK rfl rfl)⟩
    simp [results, Try.f111, go_sem]
  case stop =>
    rintro c pre W _ h _ _
    exact h.elim

theorem collectDown_any (T : List Nd) (hm : mayB T = true) (n : Nat) (hn : n < T.length) (b off cap Bn Bt : Nat) (w : World) (hT : TreeAt w (.slice (some ⟨b, off, none⟩) T.length cap) T) (hBn : w.cell? ⟨Bn, 0, none⟩ = some (.int .i64 (n : Int))) (hBt : w.cell? ⟨Bt, 0, none⟩ = some (.slice (some ⟨b, off, none⟩) T.length cap)) (hlen : (dn T n).length ≤ 1000) :
    Calls Try.prog 84 #[.func (.func 109) #[] #[.pointer (some ⟨Bn, 0, none⟩), .pointer (some ⟨Bt, 0, none⟩)]] w fun e W' => ∃ a c, e = .returned (.slice a (dn T n).length c) ∧ W'.ownsRow w.heap.size 3 1 (.slice a (dn T n).length c) (dn T n).length (natCells (dn T n)) ∧ Below w.heap.size w W' := by
  have H := hideG (callsIn_wide.1 (appendDown_in T hm n hn b off cap Bn Bt w hT hBn hBt hlen))
  clear hT hBn hBt
  go_enter Try.func84, Try.ntmps84
  go_wp2_with (go_at_call 111; refine H.out.mono ?_; rintro e w1 ⟨a, c, rfl, ho, hb⟩)
  go_ret
  exact ⟨a, c, rfl, ho, hb⟩

/-- order.List. -/
def dnI (T : List Nd) (n : Int) : List Int := if knownB T [n] then castL (dn T n.toNat) else []

set_option maxRecDepth 100000 in
set_option maxHeartbeats 2000000 in
theorem orderList_any (T : List Nd) (hS : Sane T) (v : Value) (n : Int) (w : World) (hT : TreeAt w v T) (hlen : ∀ m : Nat, mayB T = true → m < T.length → (dn T m).length ≤ 1000) :
    Calls Try.prog 31 #[v, .int .i64 n] w fun e w' => ∃ a c, e = .returned (.slice a (dnI T n).length c) ∧ w'.ownsRow w.heap.size 3 1 (.slice a (dnI T n).length c) (dnI T n).length (intCells (dnI T n)) ∧ Below w.heap.size w w' := by
  have HA := hideG ((Below.refl _ w).alloc (Nat.le_refl _) (.cells #[.int .i64 n] 3))
  have HT := hideG (hT.below HA.out)
  have HS := hideG hS
  have HT0 := hideG hT
  cases hk : knownB T [n]
  · obtain ⟨a, cap, rfl⟩ := hT.shape
    clear hT hS hlen
    have hq : dnI T n = [] := by simp [dnI, hk]
    rw [hq]
    go_enter Try.func31, Try.ntmps31
    go_wp2_with (go_at_call 79; refine (known_any T HS.out _ [n] _ _ HT.out (ints_new1 _ _) (by simp)).mono ?_; rintro e w1 ⟨rfl, hb1⟩; simp only [World.size_alloc] at hb1)
    go_ret
    exact ⟨none, 0, rfl, World.ownsRow_nil _ _ _ _, HA.out.trans (hb1.mono (by omega))⟩
  · have hk' := hk
    simp only [knownB, List.all_cons, List.all_nil, Bool.and_true, Bool.and_eq_true] at hk'
    obtain ⟨hm, hi⟩ := hk'
    obtain ⟨m, rfl, hml⟩ := isNodeB_true hi
    obtain ⟨b, off, cap, rfl, _⟩ := hT.at (by omega)
    have hl := hlen m hm hml
    clear hT hS hlen
    have hq : dnI T m = castL (dn T m) := by simp [dnI, hk]
    rw [hq]
    have HM := hideG hm
    clear hm hi hq
    go_enter Try.func31, Try.ntmps31
    go_wp2_with (first | (go_at_call 79; refine (known_any T HS.out _ [(m : Int)] _ _ HT.out (ints_new1 _ _) (by simp)).mono ?_; rintro e w1 ⟨rfl, hb1⟩; simp only [World.size_alloc] at hb1; have HB1 := hideG (HA.out.trans (hb1.mono (by omega))); clear hb1) | (go_at_call 82; refine (callsIn_wide.1 (odown_in _ _ _ _ 0 _)).mono ?_; rintro e w2 ⟨rfl, hw2⟩; have HW2 := hideG hw2; clear hw2))
    have d1 := cell_new_l w1 (.slice (some ⟨b, off, none⟩) T.length cap) 23
    have d2 := cell_new_l (w1.alloc (.cells #[.slice (some ⟨b, off, none⟩) T.length cap] 23)) (.int .i64 (m : Int)) 3
    simp only [World.size_alloc] at d2
    have hBB : Below w1.heap.size w1 ((w1.alloc (.cells #[.slice (some ⟨b, off, none⟩) T.length cap] 23)).alloc (.cells #[.int .i64 (m : Int)] 3)) := ((Below.refl _ w1).alloc (Nat.le_refl _) _).alloc (by simp) _
    have hw := HW2.out
    subst hw
    refine (collectDown_any T HM.out m hml b off cap (w1.heap.size + 1) w1.heap.size _ (HT0.out.below (HB1.out.trans (hBB.mono HB1.out.size))) d2.1 (cell_alloc_l _ d1.1) hl).mono ?_
    rintro e w3 ⟨a3, c3, rfl, ho3, hb3⟩
    have HB3 := hideG ((HB1.out.trans (hBB.mono HB1.out.size)).trans (hb3.mono (HB1.out.trans (hBB.mono HB1.out.size)).size))
    have HO3 := hideG (ownsRow_base ho3 (HB1.out.trans (hBB.mono HB1.out.size)).size)
    clear ho3 hb3 d1 d2 hBB
    go_wp2_with fail
    go_ret
    exact ⟨a3, c3, congrArg (fun k => Ending.returned (.slice a3 k c3)) (castL_length _).symm, by rw [castL_length]; exact HO3.out, HB3.out⟩
end Go.Proofs.Ytnbnijhdmnoelaa
