/- Going up from parent to parent; the function up of package order. known and last of package order. slices.Collect over the way up: order.Up. Going up from shadow to shadow; slices.Contains; shade.Up. shade.Above, Connected, Host, Retarget. shade.Retarget. shade.List: a node, its shadow, its kids. shade.List; live of package limelightlaw04. -/
import Derived.Test.YtpmacpbhdgigfaaGreatUpL
import Derived.Test.YtpmacpbhdgigfaaGreatBits2
import Derived.WalkMore
import Derived.ScopeJumps
namespace Go.Proofs.YtpmacpbhdgigfaaGreat
open Go.RowKit Go.Shelf

attribute [local go_sem] Oper.semAt_some

def parsF (T : List Nd) : Nat → Nat → List Nat
  | 0, _ => []
  | m + 1, n => n :: (if (nd T n).parent == -1 then [] else parsF T m (nd T n).parent.toNat)
/-- A node, its parent, that one's parent, and so on. -/
def pars (T : List Nd) (n : Nat) : List Nat := parsF T (T.length + 1) n

theorem fine_shadow_parent {T : List Nd} (h : Fine T) {n : Nat} (hn : n < T.length) (hk : (nd T n).kind = 3) : (nd T n).parent = -1 := by
  rcases h.par n hn with e | ⟨p, hp, e, hm⟩
  · exact e
  · obtain ⟨m, e1, _, hkk, _⟩ := kidP_iff.mp (h.kid p hp _ hm)
    obtain rfl : n = m := by omega
    exact absurd hk (kid_not_shadow hkk)
theorem over_of_parent {T : List Nd} (h : Fine T) {n m : Nat} (hn : n < T.length) (e : (nd T n).parent = (m : Int)) : overI (nd T n) = (m : Int) := by
  by_cases hk : (nd T n).kind = 3
  · rw [fine_shadow_parent h hn hk] at e; omega
  · rw [over_parent hk]; exact e
theorem parent_cases {T : List Nd} (h : Fine T) {n : Nat} (hn : n < T.length) : (((nd T n).parent == -1) = true) ∨ (((nd T n).parent == -1) = false ∧ ∃ m : Nat, m < T.length ∧ (nd T n).parent = (m : Int)) := by
  rcases h.par n hn with e | ⟨p, hp, e, _⟩
  · exact .inl (by simp [e])
  · exact .inr ⟨by simp [e], p, hp, e⟩

theorem upsL_le (T : List Nd) (n : Nat) : (upsL T n).length ≤ T.length := by
  have : ∀ k n, (ups T k n).length ≤ k := fun k => by
    induction k with
    | zero => intro n; simp [ups]
    | succ k ih =>
      intro n
      rw [ups]
      split
      · simp
      · have := ih (overI (nd T n)).toNat
        simp; omega
  exact this _ _
theorem parsF_stable {T : List Nd} (hm : mayB T = true) : ∀ {k n : Nat}, n < T.length → (upsL T n).length < k → ∀ j, k ≤ j → parsF T j n = parsF T k n
  | 0, n, _, h, _, _ => by omega
  | k + 1, n, hn, h, j, hj => by
    obtain ⟨j, rfl⟩ : ∃ j', j = j' + 1 := ⟨j - 1, by omega⟩
    rw [parsF, parsF]
    rcases parent_cases (mayB_fine hm) hn with e | ⟨e, m, hml, hpm⟩
    · rw [e]; rfl
    · rw [e, hpm, Int.toNat_natCast]
      have hs := (upsL_some hm hn (over_of_parent (mayB_fine hm) hn hpm)).1
      rw [hs, List.length_cons] at h
      rw [parsF_stable hm hml (k := k) (by omega) j (by omega)]
theorem pars_none {T : List Nd} {n : Nat} (h : ((nd T n).parent == -1) = true) : pars T n = [n] := by
  rw [pars, parsF, h]; rfl
theorem pars_some {T : List Nd} (hm : mayB T = true) {n m : Nat} (hn : n < T.length) (h : (nd T n).parent = (m : Int)) : pars T n = n :: pars T m := by
  have hov := upsL_some hm hn (over_of_parent (mayB_fine hm) hn h)
  have hne : ((nd T n).parent == -1) = false := by rw [h]; simp
  have hle := upsL_le T n
  rw [hov.1, List.length_cons] at hle
  rw [pars, parsF, hne, h, Int.toNat_natCast, pars, parsF_stable hm hov.2 (k := T.length) (by omega) (T.length + 1) (by omega)]
  rfl
theorem parsF_len (T : List Nd) : ∀ (k n : Nat), (parsF T k n).length ≤ k
  | 0, _ => by simp [parsF]
  | k + 1, n => by
    rw [parsF]
    split
    · simp
    · have := parsF_len T k (nd T n).parent.toNat
      simp; omega
theorem pars_le (T : List Nd) (n : Nat) : (pars T n).length ≤ T.length + 1 := parsF_len T _ n
theorem pars_ne (T : List Nd) (n : Nat) : pars T n ≠ [] := by rw [pars, parsF]; simp
theorem pars_mem {T : List Nd} (hm : mayB T = true) : ∀ {n x : Nat}, n < T.length → x ∈ pars T n → x < T.length := by
  intro n x hn hx
  generalize hk : (upsL T n).length = k
  induction k using Nat.strongRecOn generalizing n with
  | _ k ih =>
    rcases parent_cases (mayB_fine hm) hn with e | ⟨e, m, hml, hpm⟩
    · rw [pars_none e] at hx; simp at hx; omega
    · rw [pars_some hm hn hpm] at hx
      have hs := (upsL_some hm hn (over_of_parent (mayB_fine hm) hn hpm)).1
      rcases List.mem_cons.mp hx with rfl | hx
      · exact hn
      · exact ih (upsL T m).length (by rw [← hk, hs]; simp) hml hx rfl

theorem oup_in (a : Option Addr) (len cap : Nat) (n : Int) (m : Nat) (w : World) :
    CallsIn Fence.wide m Tryz.prog 229 #[.slice a len cap, .int .i64 n] w fun e w' => e = .returned (.func (.func 239) #[] #[.pointer (some ⟨w.heap.size + 1, 0, none⟩), .pointer (some ⟨w.heap.size, 0, none⟩)]) ∧ w' = (w.alloc (.cells #[.slice a len cap] 23)).alloc (.cells #[.int .i64 n] 3) := by
  refine callsIn_of_wp Tryz.func229 rfl trivial ?_ rfl
  simp only [Tryz.ntmps229, List.size_toArray, List.length_cons, List.length_nil, Nat.reduceAdd, Nat.reduceSub, Array.replicate_succ, Array.replicate_zero, List.push_toArray, List.append_toArray, List.nil_append, List.cons_append]
  gi_wp2
  go_ret
  exact ⟨rfl, rfl⟩

/-- Blocks below N are what they were, but for block X. -/
structure But (N X : Nat) (A B : World) : Prop where
  size : A.heap.size ≤ B.heap.size
  block : ∀ k, k < N → k ≠ X → B.heap[k]? = A.heap[k]?
theorem But.refl (N X : Nat) (A : World) : But N X A A := ⟨Nat.le_refl _, fun _ _ _ => rfl⟩
theorem But.trans {N X : Nat} {A B C : World} (h : But N X A B) (k : But N X B C) : But N X A C := ⟨Nat.le_trans h.size k.size, fun j hj hx => (k.block j hj hx).trans (h.block j hj hx)⟩
theorem But.of_below {N X K : Nat} {A B : World} (h : Below K A B) (hK : N ≤ K) : But N X A B := ⟨h.size, fun j hj _ => h.block j (by omega)⟩
theorem But.cell {N X : Nat} {A B : World} (h : But N X A B) {b o : Nat} (hb : b < N) (hx : b ≠ X) : B.cell? ⟨b, o, none⟩ = A.cell? ⟨b, o, none⟩ := World.cell?_of_block (a := ⟨b, o, none⟩) (h.block b hb hx)
theorem But.setCell {N X o : Nat} {A B : World} (h : But N X A B) (u : Value) : But N X A (B.setCell ⟨X, o, none⟩ u) :=
  ⟨by simpa using h.size, fun j hj hx => (heap_setCell_other B ⟨X, o, none⟩ j u (fun e => hx e)).trans (h.block j hj hx)⟩
theorem but_b {N X : Nat} {w : World} (hn : N ≤ w.heap.size) (W : World) (l : Nat) (o o' : Obj) (hl : w.heap.size ≤ l) (h : W.heap[l]? = some o) (hc : o.isCells = false) (hw : o.isWalk = false) : But N X W (W.putObj l o') :=
  But.of_below (belowK_b hn W l o o' hl h hc hw) (Nat.le_refl _)
theorem TreeAt.but {w A B : World} {v : Value} {T : List Nd} {N X : Nat} (h : TreeAt w v T) (hA : Below w.heap.size w A) (hb : But N X A B) (hN : w.heap.size ≤ N) (hX : w.heap.size ≤ X) : TreeAt B v T :=
  by
    obtain ⟨a, cap, rfl, hc⟩ := h
    have key : ∀ {b o : Nat} {u : Value}, w.cell? ⟨b, o, none⟩ = some u → B.cell? ⟨b, o, none⟩ = some u := fun {b o u} hu => by
      have hlt : b < w.heap.size := below_of_cell hu
      rw [hb.cell (by omega) (by omega)]
      exact cell_below hA hu
    refine ⟨a, cap, rfl, fun h0 => ?_⟩
    obtain ⟨b, off, rfl, hd⟩ := hc h0
    refine ⟨b, off, rfl, fun n hn => ?_⟩
    obtain ⟨kv, av, g0, g1, g2, g3, g4, g5, g6, gk, ga⟩ := hd n hn
    refine ⟨kv, av, key g0, key g1, key g2, key g3, key g4, key g5, key g6, ?_, ?_⟩
    · obtain ⟨a, cap, rfl, hk⟩ := gk
      refine ⟨a, cap, rfl, fun h0 => ?_⟩
      obtain ⟨b, off, rfl, hd⟩ := hk h0
      exact ⟨b, off, rfl, fun j hj => key (hd j hj)⟩
    · obtain ⟨a, cap, rfl, hk⟩ := ga
      refine ⟨a, cap, rfl, fun h0 => ?_⟩
      obtain ⟨b, off, rfl, hd⟩ := hk h0
      exact ⟨b, off, rfl, fun j hj => ⟨key (hd j hj).1, key (hd j hj).2⟩⟩

/-- What the iterator reads, however the world has turned. -/
def Reads (R : World → World → Prop) (w2 : World) (v : Value) (T : List Nd) (n : Nat) (Bn Bt : Nat) : Prop :=
  ∀ W, R w2 W → TreeAt W v T ∧ W.cell? ⟨Bn, 0, none⟩ = some (.int .i64 (n : Int)) ∧ W.cell? ⟨Bt, 0, none⟩ = some v

set_option maxRecDepth 100000 in
set_option maxHeartbeats 2000000 in
theorem oup1_in (T : List Nd) (hm : mayB T = true) (v : Value) (n : Nat) (hn : n < T.length) (l Bn Bt : Nat) (w2 : World) (R : World → World → Prop) (hRt : ∀ {A B C : World}, R A B → R B C → R A C) (hF : Reads R w2 v T n Bn Bt)
    (hv : ∃ b off cap, v = .slice (some ⟨b, off, none⟩) T.length cap) (J Jx : List Nat → World → Prop)
    (hY : ∀ pre x W, J pre W → pre.length < T.length + 1 → YieldAt Fence.wide 4 Tryz.prog l #[.int .i64 ((x : Nat) : Int)] W fun e W' =>
      (e = .returned (.bool true) ∧ J (pre ++ [x]) W' ∧ R W W') ∨ (e = .returned (.bool false) ∧ Jx (pre ++ [x]) W'))
    (W : World) (hW : R w2 W) (h0 : J [] W) :
    CallsIn Fence.wide 5 Tryz.prog 239 #[.func (.yield l) #[] #[], .pointer (some ⟨Bn, 0, none⟩), .pointer (some ⟨Bt, 0, none⟩)] W fun e W' => (∃ v, e = .returned v) ∧
      ((∃ ys, ys = pars T n ∧ J ys W') ∨ (∃ pre, pre <+: pars T n ∧ Jx pre W')) := by
  obtain ⟨b, off, cap, rfl⟩ := hv
  have cBn := (hF W hW).2.1
  have HF : Hid (Reads R w2 (.slice (some ⟨b, off, none⟩) T.length cap) T n Bn Bt) := hF
  have HM : Hid (mayB T = true) := hm
  have hpos := mayB_pos hm
  clear hF hm
  refine callsIn_of_wp Tryz.func239 rfl trivial ?_ rfl
  simp only [Tryz.ntmps239, List.size_toArray, List.length_cons, List.length_nil, Nat.reduceAdd, Nat.reduceSub, Array.replicate_succ, Array.replicate_zero, List.push_toArray, List.append_toArray, List.nil_append, List.cons_append]
  gi_wp2
  gi_loopw [4] (fun t wr => ∃ pre : List Nat, J pre wr ∧ R w2 wr ∧ ((∃ at_ : Nat, at_ < T.length ∧ t = .int .i64 (at_ : Int) ∧ pars T n = pre ++ pars T at_) ∨ (t = .int .i64 (-1) ∧ pars T n = pre)))
    (fun t _ => if intOf t = -1 then 0 else (upsL T (intOf t).toNat).length + 1)
  case atStart => exact ⟨[], h0, hW, .inl ⟨n, hn, rfl, rfl⟩⟩
  case round =>
    obtain ⟨pre, hJs, hB, hrel⟩ := hrel
    rcases hrel with ⟨at_, hat, rfl, hpars⟩ | ⟨rfl, hpars⟩
    · have HP : Hid (pars T n = pre ++ pars T at_) := hpars
      clear hpars cBn
      have hat1 : ((at_ : Int) != -1) = true := by simp
      have hlenp : pre.length < T.length + 1 := by
        have h1 := pars_le T n
        have h2 := List.length_pos_iff.mpr (pars_ne T at_)
        rw [HP.out, List.length_append] at h1
        omega
      obtain ⟨fn, tmps, assign, body, hy, hR⟩ := hY pre at_ _ hJs hlenp
      gi_wp2
      refine hR.mono ?_
      rintro e W3 (⟨rfl, hJ3, hk3⟩ | ⟨rfl, hJx3⟩)
      · have hB3 := hRt hB hk3
        obtain ⟨hT3, _, cBt'⟩ := HF.out W3 hB3
        obtain ⟨b', off', cap', hv', hc⟩ := hT3.at (by omega)
        simp only [Value.slice.injEq, Option.some.injEq, Addr.mk.injEq, and_true, true_and] at hv'
        obtain ⟨⟨rfl, rfl⟩, rfl⟩ := hv'
        obtain ⟨kv, av, hN⟩ := hc at_ hat
        have g2 := hN.parent
        clear hN hc hT3
        rcases parent_cases (mayB_fine HM.out) hat with e | ⟨e, m, hml, hpm⟩
        · have hpe : (nd T at_).parent = -1 := by simpa using e
          rw [hpe] at g2
          have HQ := hideG (pars_none e)
          clear e hpe
          gi_wp2
          go_roundw
          case rel => exact ⟨pre ++ [at_], hJ3, hB3, .inr ⟨rfl, by rw [HP.out, HQ.out]⟩⟩
          case measure =>
            have h2 : ¬ ((at_ : Int) = -1) := by omega
            simp [intOf, h2]
        · rw [hpm] at g2
          have HQ := hideG (pars_some HM.out hat hpm)
          have HL := hideG (upsL_some HM.out hat (over_of_parent (mayB_fine HM.out) hat hpm)).1
          clear e hpm
          gi_wp2
          go_roundw
          case rel => exact ⟨pre ++ [at_], hJ3, hB3, .inl ⟨m, hml, rfl, by rw [HP.out, HQ.out]; simp⟩⟩
          case measure =>
            have h2 : ¬ ((at_ : Int) = -1) := by omega
            simp only [intOf, if_neg h2, Int.toNat_natCast, HL.out]
            simp
      · gi_wp2
        refine bodyPost_ret (results_none rfl _ _ _) rfl ?_
        refine ⟨⟨_, rfl⟩, .inr ⟨pre ++ [at_], ?_, hJx3⟩⟩
        rw [HP.out]
        have : ∃ r, pars T at_ = at_ :: r := by rw [pars, parsF]; exact ⟨_, rfl⟩
        obtain ⟨r, hr⟩ := this
        exact ⟨r, by rw [hr]; simp⟩
    · gi_wp2
      go_end0
      exact ⟨⟨_, rfl⟩, .inl ⟨pre, hpars.symm, hJs⟩⟩

theorem oup_stops (T : List Nd) (hm : mayB T = true) (v : Value) (n : Nat) (hn : n < T.length) (Bn Bt : Nat) (w2 : World) (R : World → World → Prop) (hRt : ∀ {A B C : World}, R A B → R B C → R A C) (hR0 : ∀ W, Below w2.heap.size w2 W → R w2 W) (hF : Reads R w2 v T n Bn Bt)
    (hv : ∃ b off cap, v = .slice (some ⟨b, off, none⟩) T.length cap) :
    SeqStopsK Fence.wide 5 Tryz.prog 239 #[.pointer (some ⟨Bn, 0, none⟩), .pointer (some ⟨Bt, 0, none⟩)] (fun x : Nat => #[Value.int .i64 (x : Int)]) R (fun ys => ys = pars T n) (fun pre => pre <+: pars T n) (T.length + 1) w2 :=
  fun l J Jx W hW _ _ hY h0 => oup1_in T hm v n hn l Bn Bt w2 R hRt hF hv J Jx hY W (hR0 W hW) h0
end Go.Proofs.YtpmacpbhdgigfaaGreat
namespace Go.Proofs.YtpmacpbhdgigfaaGreat
open Go.RowKit Go.Shelf

attribute [local go_sem] Oper.semAt_some

def knownB (T : List Nd) (l : List Int) : Bool := mayB T && l.all (isNodeB T.length)

set_option maxRecDepth 100000 in
set_option maxHeartbeats 2000000 in
theorem known_any (T : List Nd) (hS : Sane T) (v : Value) (l : List Int) (u : Value) (w : World) (hT : TreeAt w v T) (hI : IntsAt w u l) (hl : l.length ≤ 1000) :
    Calls Tryz.prog 208 #[v, u] w fun e w' => e = .returned (.bool (knownB T l)) ∧ Below w.heap.size w w' := by
  obtain ⟨a, cap, rfl⟩ := hT.shape
  have HT := hideG hT
  have HS := hideG hS
  obtain ⟨ua, uc, rfl, hc⟩ := hI
  have HC := hideG hc
  clear hT hS hc
  cases hm : mayB T
  · have hck : checkE T = 1 := by simp only [checkE, hm, Bool.false_eq_true, if_false]
    have HK := hideG (show knownB T l = false by simp [knownB, hm])
    go_enter Tryz.func208, Tryz.ntmps208
    go_wp2_with (go_at_call 77; refine (check_any T HS.out _ _ HT.out).mono ?_; rintro e w1 ⟨rfl, hb1⟩)
    go_ret
    exact ⟨ret_bool HK.out.symm, hb1⟩
  · have hck : checkE T = 0 := by simp only [checkE, hm, if_true]
    have hpos := mayB_pos hm
    go_enter Tryz.func208, Tryz.ntmps208
    go_wp2_with (go_at_call 77; refine (check_any T HS.out _ _ HT.out).mono ?_; rintro e w1 ⟨rfl, hb1⟩)
    have HB1 := hideG hb1
    clear hb1
    go_loopw [12] (fun i wr => ∃ k : Nat, k ≤ l.length ∧ i = .int .i64 k ∧ wr = w1 ∧ ∀ j, j < k → isNodeB T.length (l.getD j 0) = true) (fun i _ => l.length - (intOf i).toNat)
    case atStart => exact ⟨0, Nat.zero_le _, rfl, rfl, fun j h => by omega⟩
    case round =>
      obtain ⟨k, hk, rfl, rfl, hall⟩ := hrel
      have HA := hideG hall
      clear hall
      by_cases hlt : k < l.length
      · obtain ⟨b, off, rfl, hd⟩ := HC.out (by omega)
        have c1 := cell_below HB1.out (hd k hlt)
        clear hd
        have hmem : l.getD k 0 ∈ l := by
          rw [List.getD_eq_getElem?_getD, List.getElem?_eq_getElem hlt]; exact List.getElem_mem hlt
        cases hx : isNodeB T.length (l.getD k 0)
        · have HK := hideG (show knownB T l = false by
            rw [knownB, hm, Bool.true_and]
            cases h : l.all (isNodeB T.length)
            · rfl
            · rw [List.all_eq_true.mp h _ hmem] at hx; cases hx)
          generalize l.getD k 0 = x at *
          have hor : x < 0 ∨ (¬ x < 0 ∧ (T.length : Int) ≤ x) := by
            simp only [isNodeB, Bool.and_eq_false_iff, decide_eq_false_iff_not] at hx
            omega
          rcases hor with h1 | ⟨h1, h2⟩
          all_goals
            go_wp2_with fail
            go_ret
            exact ⟨ret_bool HK.out.symm, HB1.out⟩
        · have HX := hideG hx
          have hx' := hx
          generalize hg : l.getD k 0 = x at *
          have HG := hideG hg
          simp only [isNodeB, Bool.and_eq_true, decide_eq_true_eq] at hx'
          have h1 : ¬ x < 0 := by omega
          have h2 : ¬ (T.length : Int) ≤ x := by omega
          clear hx hx' hg
          go_wp2_with fail
          go_roundw
          case rel =>
            refine ⟨k + 1, by omega, by go_num, trivial, fun j hj => ?_⟩
            by_cases e : j = k
            · rw [e, HG.out]; exact HX.out
            · exact HA.out j (by omega)
          case measure => simp [intOf]; omega
      · have HK := hideG (show knownB T l = true by
          rw [knownB, hm, Bool.true_and, List.all_eq_true]
          intro x hx
          obtain ⟨j, hj, rfl⟩ := List.getElem_of_mem hx
          have := HA.out j (by omega)
          rwa [List.getD_eq_getElem?_getD, List.getElem?_eq_getElem hj] at this)
        go_wp2_with fail
        go_ret
        exact ⟨ret_bool HK.out.symm, HB1.out⟩

/-- The last one of a node's parents. -/
def topN (T : List Nd) (n : Nat) : Nat := (pars T n).getLastD n

set_option maxRecDepth 100000 in
set_option maxHeartbeats 2000000 in
theorem last_in (T : List Nd) (hm : mayB T = true) (v : Value) (n : Nat) (hn : n < T.length) (w : World) (hT : TreeAt w v T) :
    CallsIn Fence.wide 6 Tryz.prog 209 #[v, .int .i64 n] w fun e W' => e = .returned (.int .i64 (topN T n : Int)) ∧ Below w.heap.size w W' := by
  obtain ⟨b, off, cap, hv, hc⟩ := hT.at (by omega)
  clear hc
  have HT : Hid (TreeAt w v T) := hT
  clear hT
  subst hv
  refine callsIn_of_wp_marks Tryz.func209 rfl trivial ?_ rfl
  simp only [Tryz.ntmps209, List.size_toArray, List.length_cons, List.length_nil, Nat.reduceAdd, Nat.reduceSub, Array.replicate_succ, Array.replicate_zero, List.push_toArray, List.append_toArray, List.nil_append, List.cons_append]
  gi_wp2_with (refine ⟨trivial, ?_⟩; gi_at_call 229; refine (oup_in _ _ _ _ _ _).mono ?_; rintro e w' ⟨rfl, rfl⟩)
  have c0 := cell_new_l w (.int .i64 (n : Int)) 3
  have c1 := cell_new_l (w.alloc (.cells #[.int .i64 (n : Int)] 3)) (.slice (some ⟨b, off, none⟩) T.length cap) 23
  have c2 := cell_new_l ((w.alloc (.cells #[.int .i64 (n : Int)] 3)).alloc (.cells #[.slice (some ⟨b, off, none⟩) T.length cap] 23)) (.int .i64 (n : Int)) 3
  simp only [World.size_alloc] at c1 c2
  have hB0 : Below w.heap.size w (((w.alloc (.cells #[.int .i64 (n : Int)] 3)).alloc (.cells #[.slice (some ⟨b, off, none⟩) T.length cap] 23)).alloc (.cells #[.int .i64 (n : Int)] 3)) :=
    (((Below.refl _ w).alloc (Nat.le_refl _) _).alloc (by simp) _).alloc (by simp; omega) _
  have hsz : (((w.alloc (.cells #[.int .i64 (n : Int)] 3)).alloc (.cells #[.slice (some ⟨b, off, none⟩) T.length cap] 23)).alloc (.cells #[.int .i64 (n : Int)] 3)).heap.size = w.heap.size + 1 + 1 + 1 := by simp
  have hF : Reads (But (((w.alloc (.cells #[.int .i64 (n : Int)] 3)).alloc (.cells #[.slice (some ⟨b, off, none⟩) T.length cap] 23)).alloc (.cells #[.int .i64 (n : Int)] 3)).heap.size w.heap.size) (((w.alloc (.cells #[.int .i64 (n : Int)] 3)).alloc (.cells #[.slice (some ⟨b, off, none⟩) T.length cap] 23)).alloc (.cells #[.int .i64 (n : Int)] 3)) (.slice (some ⟨b, off, none⟩) T.length cap) T n (w.heap.size + 1 + 1) (w.heap.size + 1) := fun W hW => ⟨HT.out.but hB0 hW (by omega) (Nat.le_refl _), (hW.cell (by omega) (by omega)).trans c2.1, (hW.cell (by omega) (by omega)).trans (cell_alloc_l _ c1.1)⟩
  refine wpIn_rangeFunc_ownF rfl (by omega) (gf := 239) (lb := #[.pointer (some ⟨w.heap.size + 1 + 1, 0, none⟩), .pointer (some ⟨w.heap.size + 1, 0, none⟩)]) rfl trivial (enters_of Tryz.func239 (by kernel_rfl) rfl)
    (oup_stops T hm _ n hn (w.heap.size + 1 + 1) (w.heap.size + 1) _ (But (((w.alloc (.cells #[.int .i64 (n : Int)] 3)).alloc (.cells #[.slice (some ⟨b, off, none⟩) T.length cap] 23)).alloc (.cells #[.int .i64 (n : Int)] 3)).heap.size w.heap.size) But.trans (fun W hW => But.of_below hW (Nat.le_refl _)) hF ⟨b, off, cap, rfl⟩) But.trans (but_b (Nat.le_refl _)) (Below.refl _ _) (fun _ => rfl)
    (fun pre W => (W.cell? ⟨w.heap.size, 0, none⟩ = some (.int .i64 ((pre.getLastD n : Nat) : Int)) ∧ W.frozen? ⟨w.heap.size, 0, none⟩ = false) ∧ Below w.heap.size w W)
    (fun _ _ _ => False)
    (OwnFrom.and (Own.from (fun s A B row hs hg hr => ⟨cell_kept hs.1 hg hr, (frozen_kept hs.1 hg hr).trans hs.2⟩) _) (ownFrom_below (Nat.le_refl _) (by simp; omega)))
    (fun c => fun s A B row hs _ _ => hs.elim)
    ⟨⟨cell_alloc_l _ (cell_alloc_l _ c0.1), frozen_alloc_l _ (cell_alloc_l _ c0.1) (frozen_alloc_l _ c0.1 c0.2)⟩, hB0⟩
    (fun x => { tmps := #[.slice (some ⟨b, off, none⟩) T.length cap, .int .i64 (n : Int), undef, undef, .int .i64 0, .pointer (some ⟨w.heap.size, 0, none⟩), .int .i64 (x : Int), .int .i64 (n : Int), .slice (some ⟨b, off, none⟩) T.length cap, .int .i64 (n : Int),
      .func (.func 239) #[] #[.pointer (some ⟨w.heap.size + 1 + 1, 0, none⟩), .pointer (some ⟨w.heap.size + 1, 0, none⟩)], .int .i64 (x : Int), undef, undef], defers := [] }) ?assign ?body ?done ?stop
  case assign =>
    intro l x W K hK
    gi_wp2
    exact hK
  case body =>
    rintro l pre x W ⟨⟨hc, hf⟩, hB⟩ _
    gi_wp2
    refine ⟨KeepsOthers.setCell _ _ _, (But.refl _ _ W).setCell _, ⟨?_, by rw [World.frozen?_setCell]; exact hf⟩, hB.setCell (p := ⟨w.heap.size, 0, none⟩) (by simp) _⟩
    rw [World.cell?_setCell_same' _ _ _ (by rw [hc]; rfl)]
    simp
  case done =>
    rintro D ys W hD rfl ⟨⟨hc, hf⟩, hB⟩ hK
    gi_wp2
    refine ⟨by simp, .inl ⟨_, _, rfl, run_takeDeferred hK, ?_⟩⟩
    refine ⟨.int .i64 (topN T n : Int), ?_, rfl, hB.trans (belowK_b (w := w) (Nat.le_refl _) _ D _ _ (by simp at hD; omega) hK rfl rfl)⟩
    simp [results, Tryz.f209, go_sem, topN]
  case stop =>
    rintro D c pre W hD hpre h hK
    exact h.elim

theorem last_any (T : List Nd) (hm : mayB T = true) (v : Value) (n : Nat) (hn : n < T.length) (w : World) (hT : TreeAt w v T) :
    Calls Tryz.prog 209 #[v, .int .i64 n] w fun e W' => e = .returned (.int .i64 (topN T n : Int)) ∧ Below w.heap.size w W' := callsIn_wide.1 (last_in T hm v n hn w hT)

/-- order.Top: of a tree that may be, and a node of it; else -1. -/
def topI (T : List Nd) (n : Int) : Int := if knownB T [n] then (topN T n.toNat : Int) else -1

set_option maxRecDepth 100000 in
set_option maxHeartbeats 2000000 in
theorem orderTop_any (T : List Nd) (hS : Sane T) (v : Value) (n : Int) (w : World) (hT : TreeAt w v T) :
    Calls Tryz.prog 181 #[v, .int .i64 n] w fun e w' => e = .returned (.int .i64 (topI T n)) ∧ Below w.heap.size w w' := by
  obtain ⟨a, cap, rfl⟩ := hT.shape
  have HA := hideG ((Below.refl _ w).alloc (Nat.le_refl _) (.cells #[.int .i64 n] 3))
  have HT := hideG (hT.below HA.out)
  have HT0 := hideG hT
  have HS := hideG hS
  clear hT hS
  cases hk : knownB T [n]
  · have HQ := hideG (show topI T n = -1 by simp [topI, hk])
    go_enter Tryz.func181, Tryz.ntmps181
    go_wp2_with (go_at_call 208; refine (known_any T HS.out _ [n] _ _ HT.out (ints_new1 _ _) (by simp)).mono ?_; rintro e w1 ⟨rfl, hb1⟩; simp only [World.size_alloc] at hb1)
    go_ret
    exact ⟨ret_int HQ.out.symm, HA.out.trans (hb1.mono (by omega))⟩
  · have hk' := hk
    simp only [knownB, List.all_cons, List.all_nil, Bool.and_true, Bool.and_eq_true] at hk'
    obtain ⟨hm, hi⟩ := hk'
    obtain ⟨m, rfl, hml⟩ := isNodeB_true hi
    have HQ := hideG (show topI T m = (topN T m : Int) by simp [topI, hk])
    have HM := hideG hm
    clear hm hi
    go_enter Tryz.func181, Tryz.ntmps181
    go_wp2_with (first | (go_at_call 208; refine (known_any T HS.out _ [(m : Int)] _ _ HT.out (ints_new1 _ _) (by simp)).mono ?_; rintro e w1 ⟨rfl, hb1⟩; simp only [World.size_alloc] at hb1; have HB1 := hideG (HA.out.trans (hb1.mono (by omega))); clear hb1) | (go_at_call 209; refine (last_any T HM.out _ m hml _ (HT0.out.below HB1.out)).mono ?_; rintro e w2 ⟨rfl, hb2⟩; have HB2 := hideG (HB1.out.trans (hb2.mono HB1.out.size)); clear hb2))
    go_ret
    exact ⟨ret_int HQ.out.symm, HB2.out⟩
end Go.Proofs.YtpmacpbhdgigfaaGreat
namespace Go.Proofs.YtpmacpbhdgigfaaGreat
open Go.RowKit Go.Shelf

attribute [local go_sem] Oper.semAt_some

def natCells (l : List Nat) : List Value := intCells (l.map fun (x : Nat) => (x : Int))
theorem natCells_snoc (l : List Nat) (x : Nat) : natCells l ++ [.int .i64 (x : Int)] = natCells (l ++ [x]) := by simp [natCells, intCells]

/-- A row that nobody writes stays, whatever the book-keeping does. -/
theorem ownsRow_walk {A B : World} {base : Nat} {e : TypeId} {size : Nat} {v : Value} {n : Nat} {xs : List Value} {row : Option Nat} (h : A.ownsRow base e size v n xs) (hg : A.grownBy B row) (hr : ∀ r, row = some r → ∃ o : Obj, A.heap[r]? = some o ∧ o.isCells = false) : B.ownsRow base e size v n xs := by
  refine h.kept hg ?_
  rcases h.2 with ⟨rfl, _⟩ | ⟨g, cap, cur, rfl, _, hcur, _⟩
  · exact .inl rfl
  · right
    intro e'
    obtain ⟨o, ho, hc⟩ := hr g e'.symm
    rw [hcur] at ho
    injection ho with ho
    subst ho
    simp [Obj.isCells] at hc

set_option maxRecDepth 100000 in
set_option maxHeartbeats 2000000 in
theorem appendSeq_in (T : List Nd) (hm : mayB T = true) (n : Nat) (hn : n < T.length) (b off cap Bn Bt : Nat) (w : World) (hT : TreeAt w (.slice (some ⟨b, off, none⟩) T.length cap) T) (hBn : w.cell? ⟨Bn, 0, none⟩ = some (.int .i64 (n : Int))) (hBt : w.cell? ⟨Bt, 0, none⟩ = some (.slice (some ⟨b, off, none⟩) T.length cap)) :
    CallsIn Fence.wide 6 Tryz.prog 189 #[.slice none 0 0, .func (.func 239) #[] #[.pointer (some ⟨Bn, 0, none⟩), .pointer (some ⟨Bt, 0, none⟩)]] w fun e W' => ∃ a c, e = .returned (.slice a (pars T n).length c) ∧ W'.ownsRow w.heap.size 3 1 (.slice a (pars T n).length c) (pars T n).length (natCells (pars T n)) ∧ Below w.heap.size w W' := by
  obtain ⟨i3, hi3, hz30, hz31, hz32⟩ := info_parts infoT3
  have HT : Hid (TreeAt w (.slice (some ⟨b, off, none⟩) T.length cap) T) := hT
  have hpos := mayB_pos hm
  have hbn : Bn < w.heap.size := below_of_cell hBn
  have hbt : Bt < w.heap.size := below_of_cell hBt
  clear hT
  refine callsIn_of_wp_marks Tryz.func189 rfl trivial ?_ rfl
  simp only [Tryz.ntmps189, List.size_toArray, List.length_cons, List.length_nil, Nat.reduceAdd, Nat.reduceSub, Array.replicate_succ, Array.replicate_zero, List.push_toArray, List.append_toArray, List.nil_append, List.cons_append]
  gi_wp2
  have c0 := cell_new_l w (.slice none 0 0) 48
  have hB0 : Below w.heap.size w (w.alloc (.cells #[.slice none 0 0] 48)) := (Below.refl _ w).alloc (Nat.le_refl _) _
  have hsz : (w.alloc (.cells #[.slice none 0 0] 48)).heap.size = w.heap.size + 1 := by simp
  have hF : Reads (But (w.alloc (.cells #[.slice none 0 0] 48)).heap.size w.heap.size) (w.alloc (.cells #[.slice none 0 0] 48)) (.slice (some ⟨b, off, none⟩) T.length cap) T n Bn Bt := fun W hW => ⟨HT.out.but hB0 hW (by omega) (Nat.le_refl _), (hW.cell (by omega) (by omega)).trans (cell_below hB0 hBn), (hW.cell (by omega) (by omega)).trans (cell_below hB0 hBt)⟩
  refine wpIn_rangeFunc_ownF rfl (by omega) (gf := 239) (lb := #[.pointer (some ⟨Bn, 0, none⟩), .pointer (some ⟨Bt, 0, none⟩)]) rfl trivial (enters_of Tryz.func239 (by kernel_rfl) rfl)
    (oup_stops T hm _ n hn Bn Bt _ (But (w.alloc (.cells #[.slice none 0 0] 48)).heap.size w.heap.size) But.trans (fun W hW => But.of_below hW (Nat.le_refl _)) hF ⟨b, off, cap, rfl⟩) But.trans (but_b (Nat.le_refl _)) (Below.refl _ _) (fun _ => rfl)
    (fun pre W => (∃ v, W.cell? ⟨w.heap.size, 0, none⟩ = some v ∧ W.frozen? ⟨w.heap.size, 0, none⟩ = false ∧ W.ownsRow (w.heap.size + 1) 3 1 v pre.length (natCells pre)) ∧ Below w.heap.size w W)
    (fun _ _ _ => False)
    (OwnFrom.and (Own.from (fun s A B row hs hg hr => by
      obtain ⟨v, h1, h2, h3⟩ := hs
      exact ⟨v, cell_kept h1 hg hr, (frozen_kept h1 hg hr).trans h2, ownsRow_walk h3 hg hr⟩) _) (ownFrom_below (Nat.le_refl _) (by simp)))
    (fun c => fun s A B row hs _ _ => hs.elim)
    ⟨⟨.slice none 0 0, c0.1, c0.2, by exact World.ownsRow_nil _ _ _ _⟩, hB0⟩
    (fun x => { tmps := #[.slice none 0 0, .func (.func 239) #[] #[.pointer (some ⟨Bn, 0, none⟩), .pointer (some ⟨Bt, 0, none⟩)], .pointer (some ⟨w.heap.size, 0, none⟩), undef, .slice none 0 0, .int .i64 (x : Int), .func (.func 239) #[] #[.pointer (some ⟨Bn, 0, none⟩), .pointer (some ⟨Bt, 0, none⟩)], .int .i64 (x : Int), undef, undef, undef, undef, undef], defers := [] }) ?assign ?body ?done ?stop
  case assign =>
    intro l x W K hK
    gi_wp2
    exact hK
  case body =>
    rintro l pre x W ⟨⟨v, hc, hf, hown⟩, hB⟩ hlen
    obtain ⟨va, vc, rfl⟩ := ownsRow_shape hown
    have HOW := hideG hown
    have HB := hideG hB
    have hs := hB.size
    have hlt : w.heap.size < W.heap.size := below_of_cell hc
    clear hown hB
    have hcl : pre.length ≤ 100 := by omega
    gi_wp2_with (gi_at_builtin; refine wpListIn_append_own _ rfl _ _ 48 rfl (w.heap.size + 1) 3 i3 _ 1 8 Tryz.underlying48 hi3 hz30 hz31 hz32 rfl (by decide) _ pre.length (natCells pre) rfl (HOW.out.alloc _) ⟨W.heap.size, 0, none⟩ 1 1 [.int .i64 (x : Int)] rfl rfl ?h1 ?h2 ?h3 ?h4 ?h5 ?_)
    case h1 =>
      intro j u hj
      rw [addr_add, Nat.zero_add, World.cell?_alloc_at _ _ _ _ (by simp)]
      simpa using hj
    case h2 => intro u hu; simp at hu; subst hu; rfl
    case h3 => simp only [maxLen]; omega
    case h4 => omega
    case h5 => simp; omega
    intro v' w' hown' hg' _
    obtain ⟨a4, c4, rfl⟩ := ownsRow_shape hown'
    rw [natCells_snoc] at hown'
    have hne0 : some w.heap.size ≠ Value.ownBlock (.slice va pre.length vc) := fun e => by have := (HOW.out.lt _ e.symm).1; omega
    have hc' : w'.cell? ⟨w.heap.size, 0, none⟩ = some (.slice va pre.length vc) := (World.cell?_of_block (a := ⟨w.heap.size, 0, none⟩) (hg'.block w.heap.size (by simp; omega) hne0)).trans ((World.cell?_alloc_past _ _ _ hlt).trans hc)
    have hf' : w'.frozen? ⟨w.heap.size, 0, none⟩ = false := (World.frozen?_of_block (a := ⟨w.heap.size, 0, none⟩) (hg'.block w.heap.size (by simp; omega) hne0)).trans ((World.frozen?_alloc_past _ _ _ hlt).trans hf)
    have HO' := hideG hown'
    have HKO := hideG (show KeepsOthers W w' from (KeepsOthers.alloc W (.cells #[.int .i64 (x : Int)] 3)).trans (KeepsOthers.of_grownBy hg' (fun j o e ho => by
      rcases (HOW.out.alloc (.cells #[.int .i64 (x : Int)] 3)).2 with ⟨e0, _⟩ | ⟨g, cap, cur, e0, _, hcur, _⟩
      · rw [e0] at e; cases e
      · rw [e0] at e; cases e
        rw [hcur] at ho; cases ho; rfl)))
    have HB' := hideG ((HB.out.alloc hs (.cells #[.int .i64 (x : Int)] 3)).grown hg' (by simp; omega) (fun j e => by have := (HOW.out.lt j e).1; omega))
    have HBut := hideG (show But (w.heap.size + 1) w.heap.size W w' from ⟨by have := hg'.size; simp at this; omega, fun j hj hx => (hg'.block j (by simp; omega) (fun e => by have := (HOW.out.lt j e.symm).1; omega)).trans ((Below.refl W.heap.size W).alloc (Nat.le_refl _) (.cells #[.int .i64 (x : Int)] 3) |>.block j (by omega))⟩)
    clear hown' hg'
    gi_wp2
    refine ⟨HKO.out.trans (KeepsOthers.setCell _ _ _), ?_, ⟨.slice a4 (pre.length + 1) c4, World.cell?_setCell_same' _ _ _ (by rw [hc']; rfl), by rw [World.frozen?_setCell]; exact hf', ?_⟩, HB'.out.setCell (p := ⟨w.heap.size, 0, none⟩) (by simp) _⟩
    · rw [hsz]; exact HBut.out.setCell _
    · have hkept := ownsRow_kept_set (g := w.heap.size) (j := 0) (u := .slice a4 (pre.length + 1) c4) HO'.out (fun e => by have := (HO'.out.lt _ e).1; omega)
      simpa using hkept
  case done =>
    rintro D ys W hD rfl ⟨⟨v, hc, hf, hown⟩, hB⟩ hK
    obtain ⟨va, vc, rfl⟩ := ownsRow_shape hown
    have hxx := ownsRow_walk (B := W.putObj D (.deferred none)) hown (grownBy_putObj' W D (.deferred none)) (fun r e => by cases e; exact ⟨_, hK, rfl⟩)
    gi_wp2
    refine ⟨by simp, .inl ⟨_, _, rfl, run_takeDeferred hK, ?_⟩⟩
    refine ⟨.slice va (pars T n).length vc, ?_, va, vc, rfl, ownsRow_base hxx (by omega), hB.trans (belowK_b (w := w) (Nat.le_refl _) _ D _ _ (by simp at hD; omega) hK rfl rfl)⟩
    simp [results, Tryz.f189, go_sem]
  case stop =>
    rintro D c pre W hD hpre h hK
    exact h.elim

theorem collect_any (T : List Nd) (hm : mayB T = true) (n : Nat) (hn : n < T.length) (b off cap Bn Bt : Nat) (w : World) (hT : TreeAt w (.slice (some ⟨b, off, none⟩) T.length cap) T) (hBn : w.cell? ⟨Bn, 0, none⟩ = some (.int .i64 (n : Int))) (hBt : w.cell? ⟨Bt, 0, none⟩ = some (.slice (some ⟨b, off, none⟩) T.length cap)) :
    Calls Tryz.prog 156 #[.func (.func 239) #[] #[.pointer (some ⟨Bn, 0, none⟩), .pointer (some ⟨Bt, 0, none⟩)]] w fun e W' => ∃ a c, e = .returned (.slice a (pars T n).length c) ∧ W'.ownsRow w.heap.size 3 1 (.slice a (pars T n).length c) (pars T n).length (natCells (pars T n)) ∧ Below w.heap.size w W' := by
  have H := hideG (callsIn_wide.1 (appendSeq_in T hm n hn b off cap Bn Bt w hT hBn hBt))
  clear hT hBn hBt
  go_enter Tryz.func156, Tryz.ntmps156
  go_wp2_with (go_at_call 189; refine H.out.mono ?_; rintro e w1 ⟨a, c, rfl, ho, hb⟩)
  go_ret
  exact ⟨a, c, rfl, ho, hb⟩

/-- order.Up. -/
def upI (T : List Nd) (n : Int) : List Int := if knownB T [n] then (pars T n.toNat).map (fun (x : Nat) => (x : Int)) else []

set_option maxRecDepth 100000 in
set_option maxHeartbeats 2000000 in
theorem orderUp_any (T : List Nd) (hS : Sane T) (v : Value) (n : Int) (w : World) (hT : TreeAt w v T) :
    Calls Tryz.prog 256 #[v, .int .i64 n] w fun e w' => ∃ a c, e = .returned (.slice a (upI T n).length c) ∧ w'.ownsRow w.heap.size 3 1 (.slice a (upI T n).length c) (upI T n).length (intCells (upI T n)) ∧ Below w.heap.size w w' := by
  have HA := hideG ((Below.refl _ w).alloc (Nat.le_refl _) (.cells #[.int .i64 n] 3))
  have HT := hideG (hT.below HA.out)
  have HS := hideG hS
  have HT0 := hideG hT
  cases hk : knownB T [n]
  · obtain ⟨a, cap, rfl⟩ := hT.shape
    clear hT hS
    have hq : upI T n = [] := by simp [upI, hk]
    rw [hq]
    go_enter Tryz.func256, Tryz.ntmps256
    go_wp2_with (go_at_call 208; refine (known_any T HS.out _ [n] _ _ HT.out (ints_new1 _ _) (by simp)).mono ?_; rintro e w1 ⟨rfl, hb1⟩; simp only [World.size_alloc] at hb1)
    go_ret
    exact ⟨none, 0, rfl, World.ownsRow_nil _ _ _ _, HA.out.trans (hb1.mono (by omega))⟩
  · have hk' := hk
    simp only [knownB, List.all_cons, List.all_nil, Bool.and_true, Bool.and_eq_true] at hk'
    obtain ⟨hm, hi⟩ := hk'
    obtain ⟨m, rfl, hml⟩ := isNodeB_true hi
    obtain ⟨b, off, cap, rfl, _⟩ := hT.at (by omega)
    clear hT hS
    have hq : upI T m = (pars T m).map (fun (x : Nat) => (x : Int)) := by simp [upI, hk]
    rw [hq]
    have HM := hideG hm
    clear hm hi hq
    go_enter Tryz.func256, Tryz.ntmps256
    go_wp2_with (first | (go_at_call 208; refine (known_any T HS.out _ [(m : Int)] _ _ HT.out (ints_new1 _ _) (by simp)).mono ?_; rintro e w1 ⟨rfl, hb1⟩; simp only [World.size_alloc] at hb1; have HB1 := hideG (HA.out.trans (hb1.mono (by omega))); clear hb1) | (go_at_call 229; refine (callsIn_wide.1 (oup_in _ _ _ _ 0 _)).mono ?_; rintro e w2 ⟨rfl, hw2⟩; have HW2 := hideG hw2; clear hw2))
    have d1 := cell_new_l w1 (.slice (some ⟨b, off, none⟩) T.length cap) 23
    have d2 := cell_new_l (w1.alloc (.cells #[.slice (some ⟨b, off, none⟩) T.length cap] 23)) (.int .i64 (m : Int)) 3
    simp only [World.size_alloc] at d2
    have hBB : Below w1.heap.size w1 ((w1.alloc (.cells #[.slice (some ⟨b, off, none⟩) T.length cap] 23)).alloc (.cells #[.int .i64 (m : Int)] 3)) := ((Below.refl _ w1).alloc (Nat.le_refl _) _).alloc (by simp) _
    have hw := HW2.out
    subst hw
    refine (collect_any T HM.out m hml b off cap (w1.heap.size + 1) w1.heap.size _ (HT0.out.below (HB1.out.trans (hBB.mono HB1.out.size))) d2.1 (cell_alloc_l _ d1.1)).mono ?_
    rintro e w3 ⟨a3, c3, rfl, ho3, hb3⟩
    have HB3 := hideG ((HB1.out.trans (hBB.mono HB1.out.size)).trans (hb3.mono (HB1.out.trans (hBB.mono HB1.out.size)).size))
    have HO3 := hideG (ownsRow_base ho3 (HB1.out.trans (hBB.mono HB1.out.size)).size)
    clear ho3 hb3 d1 d2 hBB
    go_wp2_with fail
    go_ret
    exact ⟨a3, c3, by simp, by simpa [natCells] using HO3.out, HB3.out⟩
end Go.Proofs.YtpmacpbhdgigfaaGreat
namespace Go.Proofs.YtpmacpbhdgigfaaGreat
open Go.RowKit

theorem topN_none {T : List Nd} {n : Nat} (h : ((nd T n).parent == -1) = true) : topN T n = n := by rw [topN, pars_none h]; rfl
theorem topN_some {T : List Nd} (hm : mayB T = true) {n m : Nat} (hn : n < T.length) (h : (nd T n).parent = (m : Int)) : topN T n = topN T m := by
  rw [topN, pars_some hm hn h, topN]
  have : ∃ r, pars T m = m :: r := by rw [pars, parsF]; exact ⟨_, rfl⟩
  obtain ⟨r, hr⟩ := this
  rw [hr]
  cases r <;> simp [List.getLastD]
theorem fine_nohost {T : List Nd} (h : Fine T) {n : Nat} (hn : n < T.length) (hk : (nd T n).kind ≠ 3) : (nd T n).host = -1 := by
  rcases hostP_iff.mp (h.host n hn) with ⟨_, e⟩ | ⟨e, _⟩
  · exact e
  · exact absurd e hk

/-- All above a node are its parents, and, if the last one is a shadow, its host and all above that. -/
theorem sup_split {T : List Nd} (hm : mayB T = true) : ∀ {n : Nat}, n < T.length → topN T n < T.length ∧ (∃ i, pars T n = i ++ [topN T n]) ∧
    (((nd T (topN T n)).kind ≠ 3 ∧ (nd T (topN T n)).host = -1 ∧ n :: upsL T n = pars T n) ∨ ((nd T (topN T n)).kind = 3 ∧ ∃ h : Nat, h < T.length ∧ (nd T (topN T n)).host = (h : Int) ∧ n :: upsL T n = pars T n ++ (h :: upsL T h))) := by
  intro n hn
  generalize hk : (upsL T n).length = k
  induction k using Nat.strongRecOn generalizing n with
  | _ k ih =>
    have hF := mayB_fine hm
    rcases parent_cases hF hn with e | ⟨e, m, hml, hpm⟩
    · have hp : (nd T n).parent = -1 := by simpa using e
      rw [topN_none e, pars_none e]
      refine ⟨hn, ⟨[], rfl⟩, ?_⟩
      by_cases h3 : (nd T n).kind = 3
      · obtain ⟨h, hl, h1, _, _⟩ := fine_host hF hn h3
        have ho : overI (nd T n) = (h : Int) := by unfold overI; rw [h3]; exact h1
        exact .inr ⟨h3, h, hl, h1, by rw [(upsL_some hm hn ho).1]; rfl⟩
      · have ho : (overI (nd T n) == -1) = true := by rw [over_parent h3, hp]; rfl
        exact .inl ⟨h3, fine_nohost hF hn h3, by rw [upsL_none ho]⟩
    · have hov := over_of_parent hF hn hpm
      have hs := (upsL_some hm hn hov).1
      obtain ⟨h1, ⟨i, h2⟩, h3⟩ := ih (upsL T m).length (by rw [← hk, hs]; simp) hml rfl
      rw [topN_some hm hn hpm, pars_some hm hn hpm, hs]
      refine ⟨h1, ⟨n :: i, by rw [h2]; rfl⟩, ?_⟩
      rcases h3 with ⟨a1, a2, a3⟩ | ⟨a1, h, a2, a3, a4⟩
      · exact .inl ⟨a1, a2, by rw [a3]⟩
      · exact .inr ⟨a1, h, a2, a3, by rw [a4]; rfl⟩
theorem upsL_host {T : List Nd} {n h : Nat} (e : n :: upsL T n = pars T n ++ (h :: upsL T h)) : (upsL T h).length < (upsL T n).length := by
  have h1 := congrArg List.length e
  have h2 := List.length_pos_iff.mpr (pars_ne T n)
  simp at h1
  omega

def castL (l : List Nat) : List Int := l.map fun (x : Nat) => (x : Int)
theorem castL_append (a b : List Nat) : castL (a ++ b) = castL a ++ castL b := by simp [castL]
theorem castL_length (a : List Nat) : (castL a).length = a.length := by simp [castL]
/-- shade.Up. -/
def supI (T : List Nd) (n : Int) : List Int := if knownB T [n] then castL (n.toNat :: upsL T n.toNat) else []

theorem known_one {T : List Nd} {n : Int} (h : knownB T [n] = true) : mayB T = true ∧ ∃ m : Nat, n = m ∧ m < T.length := by
  simp only [knownB, List.all_cons, List.all_nil, Bool.and_true, Bool.and_eq_true] at h
  exact ⟨h.1, isNodeB_true h.2⟩
theorem known_of {T : List Nd} (hm : mayB T = true) {n : Nat} (hn : n < T.length) : knownB T [(n : Int)] = true := by
  simp only [knownB, hm, List.all_cons, List.all_nil, Bool.and_true, Bool.true_and, isNodeB, Bool.and_eq_true, decide_eq_true_eq]
  omega

def containsB (l : List Int) (x : Int) : Bool := decide (x ∈ l)
theorem index_ge {l : List Int} {x : Int} : decide (0 ≤ indexI l x) = containsB l x := by
  unfold indexI containsB
  by_cases h : x ∈ l
  · have := idxL_mem h
    rw [if_pos this]
    simp [h]
  · have : ¬ idxL x l < l.length := fun hlt => h (by
      have : ∀ l : List Int, idxL x l < l.length → x ∈ l := by
        intro l
        induction l with
        | nil => intro h; simp at h
        | cons a l ih =>
          intro h
          simp only [idxL] at h
          cases e : (x == a)
          · rw [e] at h; simp at h; exact List.mem_cons_of_mem _ (ih h)
          · have : x = a := by simpa using e
            rw [this]; exact List.mem_cons_self ..
      exact this l hlt)
    rw [if_neg this]
    simp [h]

set_option maxHeartbeats 800000 in
theorem contains_any (l : List Int) (v : Value) (x : Int) (w : World) (hI : IntsAt w v l) (hl : l.length ≤ 1000000) :
    Calls Tryz.prog 87 #[v, .int .i64 x] w fun e w' => e = .returned (.bool (containsB l x)) ∧ w' = w := by
  obtain ⟨a, cap, rfl⟩ := hI.shape
  have H := hideG hI
  have HQ := hideG (index_ge (l := l) (x := x))
  clear hI
  go_enter Tryz.func87, Tryz.ntmps87
  go_wp2_with (go_at_call 142; refine (sliceIndex_any l _ _ _ H.out hl).mono ?_; rintro e w1 ⟨rfl, rfl⟩)
  go_ret
  exact ⟨ret_bool HQ.out, rfl⟩

set_option maxRecDepth 100000 in
set_option maxHeartbeats 2000000 in
theorem shadeUp_any (T : List Nd) (hS : Sane T) (v : Value) (n : Int) (w : World) (hT : TreeAt w v T) :
    Calls Tryz.prog 236 #[v, .int .i64 n] w fun e w' => ∃ a c, e = .returned (.slice a (supI T n).length c) ∧ w'.ownsRow w.heap.size 3 1 (.slice a (supI T n).length c) (supI T n).length (intCells (supI T n)) ∧ Below w.heap.size w w' := by
  obtain ⟨i3, hi3, hz30, hz31, hz32⟩ := info_parts infoT3
  obtain ⟨ta, tc, rfl⟩ := hT.shape
  have HT := hideG hT
  have HS := hideG hS
  clear hT hS
  cases hk : knownB T [n]
  · have HU := hideG (show upI T n = [] by simp [upI, hk])
    have hq : supI T n = [] := by simp [supI, hk]
    rw [hq]
    have HBB := hideG (Below.refl w.heap.size w)
    go_enter Tryz.func236, Tryz.ntmps236
    go_wp2
    refine wp_scope_jumps 0 (fun _ _ => False) (fun _ _ => 0) rfl ?_ (fun _ _ h => h.elim)
    go_wp2
    go_step3
    go_wp2_with (first | (go_at_call 256; refine (orderUp_any T HS.out _ _ _ (HT.out.below HBB.out)).mono ?_; rintro e w1 ⟨a1, c1, rfl, ho1, hb1⟩; rw [HU.out] at ho1 ⊢; have HO1 := hideG ho1; have HB1 := hideG hb1; clear ho1 hb1) | (at_builtin; refine wpList_append_any rfl (.tmp 6) (.tmp 9) 48 rfl w.heap.size 3 i3 _ 1 8 Tryz.underlying48 hi3 hz30 hz31 hz32 rfl (by decide) (.slice none 0 0) 0 [] rfl (World.ownsRow_nil _ _ _ _) _ 0 [] rfl (ints_holds (l := []) (ownsRow_ints HO1.out)) rfl (fun x hx => by cases hx) ?h3 ?h4 ?h5 ?_))
    case h3 => simp [maxLen]
    case h4 => omega
    case h5 => exact HB1.out.size
    intro v4 w4 ho4 hg4 hf4
    obtain ⟨a4, c4, rfl⟩ := ownsRow_shape ho4
    have HB4 := hideG (HB1.out.grown hg4 HB1.out.size (fun j e => by cases e))
    clear ho4 hg4 hf4
    go_wp2_with fail
    simp only [Exit.jump]
    go_ret
    exact ⟨none, 0, rfl, World.ownsRow_nil _ _ _ _, HB4.out⟩
  · obtain ⟨hm, m, rfl, hml⟩ := known_one hk
    have HM := hideG hm
    have hpos := mayB_pos hm
    have HE0 := hideG (show ([] : List Int) ++ castL (m :: upsL T m) = supI T (m : Int) by simp [supI, hk])
    have hsup : (supI T (m : Int)).length ≤ 65 := by
      rw [← HE0.out, List.nil_append, castL_length, List.length_cons]
      have := upsL_le T m
      omega
    clear hm hk
    generalize hn0 : (m : Int) = n at HE0 hsup ⊢
    go_enter Tryz.func236, Tryz.ntmps236
    go_wp2
    refine wp_scope_jumps 0 (fun a' w' => ∃ (m : Nat) (A : List Int) (aa : Option Addr) (ac : Nat) (u6 u7 u8 u9 u10 u11 u12 u13 u14 u15 u16 u17 u18 u19 u20 u21 u22 u23 u24 u25 : Value), a' = { tmps := #[.slice ta T.length tc, .int .i64 (m : Int), undef, undef, .slice none 0 0, .slice aa A.length ac, u6, u7, u8, u9, u10, u11, u12, u13, u14, u15, u16, u17, u18, u19, u20, u21, u22, u23, u24, u25, undef], defers := [] } ∧ m < T.length ∧ w'.ownsRow w.heap.size 3 1 (.slice aa A.length ac) A.length (intCells A) ∧ Below w.heap.size w w' ∧ A ++ castL (m :: upsL T m) = supI T n ∧ A.length ≤ 200) (fun a' _ => (upsL T (intOf (a'.tmps.getD 1 undef)).toNat).length) rfl ?_ ?_
    · subst hn0
      have HOA := hideG (show w.ownsRow w.heap.size 3 1 (.slice none ([] : List Int).length 0) ([] : List Int).length (intCells []) from World.ownsRow_nil _ _ _ _)
      have HBB := hideG (Below.refl w.heap.size w)
      have HE := HE0
      obtain ⟨htl, ⟨ini, hini⟩, hspl⟩ := sup_split HM.out hml
      have HU := hideG (show upI T (m : Int) = castL (pars T m) by unfold upI; rw [known_of HM.out hml, if_pos rfl, Int.toNat_natCast]; rfl)
      have hplen := pars_le T m
      have HINI := hideG hini
      clear hini
      obtain ⟨tb, to, tcc, htv, hct⟩ := HT.out.at (by omega)
      simp only [Value.slice.injEq, true_and] at htv
      obtain ⟨rfl, rfl⟩ := htv
      obtain ⟨tkv, tav, hNt⟩ := hct (topN T m) htl
      have gh := hNt.host
      clear hNt hct
      go_wp2
      go_step3
      go_wp2_with (first | (go_at_call 256; refine (orderUp_any T HS.out _ _ _ (HT.out.below HBB.out)).mono ?_; rintro e w1 ⟨a1, c1, rfl, ho1, hb1⟩; rw [HU.out] at ho1 ⊢; have HO1 := hideG ho1; have HB1 := hideG (HBB.out.trans (hb1.mono HBB.out.size)); have HOA1 := hideG (ownsRow_below HOA.out hb1 (fun j e => (HOA.out.lt j e).2)); clear ho1 hb1) | (at_builtin; refine wpList_append_any rfl (.tmp 6) (.tmp 9) 48 rfl w.heap.size 3 i3 _ 1 8 Tryz.underlying48 hi3 hz30 hz31 hz32 rfl (by decide) _ ([] : List Int).length (intCells ([] : List Int)) rfl HOA1.out _ (castL (pars T m)).length (intCells (castL (pars T m))) rfl (ints_holds (ownsRow_ints HO1.out)) (intCells_length _) (intCells_one _) ?h3 ?h4 ?h5 ?_))
      case h3 => rw [castL_length]; simp only [maxLen, List.length_nil]; omega
      case h4 => rw [castL_length]; simp only [List.length_nil]; omega
      case h5 => exact HB1.out.size
      intro v4 w4 ho4 hg4 hf4
      rw [castL_length, HINI.out] at ho4
      have hlen4 : (ini ++ [topN T m]).length = ini.length + 1 := by simp only [List.length_append, List.length_cons, List.length_nil]
      rw [hlen4] at ho4
      have ecells : intCells ([] : List Int) ++ intCells (castL (ini ++ [topN T m])) = intCells (([] : List Int) ++ castL (ini ++ [topN T m])) := by simp [intCells]
      rw [ecells] at ho4
      obtain ⟨g4, c4, rfl⟩ := ownsRow_some ho4 (by omega)
      have HB4 := hideG (HB1.out.grown hg4 HB1.out.size (fun j e => (HOA1.out.lt j e).1))
      have gh4 := cell_below HB4.out gh
      have clast : w4.cell? ⟨g4, ini.length, none⟩ = some (.int .i64 (topN T m : Int)) := by
        rw [ho4.cellAt ini.length (by omega)]
        simp [intCells, castL]
      have HO4 := hideG ho4
      generalize hK : ini.length = K at *
      have hA' : (([] : List Int) ++ castL (ini ++ [topN T m])).length = K + 1 := by rw [List.length_append, castL_length]; simp; omega
      have hK2 : K ≤ 300 := by
        have h1 := congrArg List.length HINI.out
        simp at h1
        omega
      have hne0 : (((K + 1 : Nat) : Int) == 0) = false := by rw [beq_eq_false_iff_ne]; omega
      clear ho4 hg4 hf4 HOA1 HO1 ecells hlen4 gh
      rcases hspl with ⟨hk3, hh, heq⟩ | ⟨hk3, h, hhl, hh, heq⟩
      · rw [hh] at gh4
        have HR := hideG (show ([] : List Int) ++ castL (ini ++ [topN T m]) = supI T (m : Int) by rw [← HINI.out, ← heq]; exact HE.out)
        have hlR : (supI T (m : Int)).length = K + 1 := by rw [← HR.out, hA']
        clear hh heq hk3
        have HLR := hideG hlR
        clear hlR
        go_wp2_with fail
        simp only [Exit.jump]
        go_ret
        exact ⟨some ⟨g4, 0, none⟩, c4, congrArg (fun k => Ending.returned (.slice (some ⟨g4, 0, none⟩) k c4)) HLR.out.symm, by rw [HLR.out, ← HR.out]; exact HO4.out, HB4.out⟩
      · rw [hh] at gh4
        have hh1 : ((h : Int) != -1) = true := by simp
        have HR := hideG (show (([] : List Int) ++ castL (ini ++ [topN T m])) ++ castL (h :: upsL T h) = supI T (m : Int) by rw [List.append_assoc, ← castL_append, ← HINI.out, ← heq]; exact HE.out)
        have HL := hideG (upsL_host heq)
        have hbnd : K + 1 ≤ 200 := by
          have h1 := congrArg List.length HR.out
          rw [List.length_append, hA'] at h1
          omega
        clear hh heq hk3
        have HA' := hideG hA'
        clear hA'
        go_wp2_with fail
        go_step3
        refine ⟨rfl, h, [] ++ castL (ini ++ [topN T m]), some ⟨g4, 0, none⟩, c4, _, _, _, _, _, _, _, _, _, _, _, _, _, _, _, _, _, _, _, _, by rw [HA'.out], hhl, by rw [HA'.out]; exact HO4.out, HB4.out, HR.out, by rw [HA'.out]; exact hbnd⟩
    · rintro a' w' ⟨m, A, aa, ac, u6, u7, u8, u9, u10, u11, u12, u13, u14, u15, u16, u17, u18, u19, u20, u21, u22, u23, u24, u25, rfl, hml, hoA, hB, hE, hA⟩
      have HOA := hideG hoA
      have HBB := hideG hB
      have HE := hideG hE
      clear hoA hB hE
      obtain ⟨htl, ⟨ini, hini⟩, hspl⟩ := sup_split HM.out hml
      have HU := hideG (show upI T (m : Int) = castL (pars T m) by unfold upI; rw [known_of HM.out hml, if_pos rfl, Int.toNat_natCast]; rfl)
      have hplen := pars_le T m
      have HINI := hideG hini
      clear hini
      obtain ⟨tb, to, tcc, htv, hct⟩ := HT.out.at (by omega)
      simp only [Value.slice.injEq, true_and] at htv
      obtain ⟨rfl, rfl⟩ := htv
      obtain ⟨tkv, tav, hNt⟩ := hct (topN T m) htl
      have gh := hNt.host
      clear hNt hct
      go_wp2_with (first | (go_at_call 256; refine (orderUp_any T HS.out _ _ _ (HT.out.below HBB.out)).mono ?_; rintro e w1 ⟨a1, c1, rfl, ho1, hb1⟩; rw [HU.out] at ho1 ⊢; have HO1 := hideG ho1; have HB1 := hideG (HBB.out.trans (hb1.mono HBB.out.size)); have HOA1 := hideG (ownsRow_below HOA.out hb1 (fun j e => (HOA.out.lt j e).2)); clear ho1 hb1) | (at_builtin; refine wpList_append_any rfl (.tmp 6) (.tmp 9) 48 rfl w.heap.size 3 i3 _ 1 8 Tryz.underlying48 hi3 hz30 hz31 hz32 rfl (by decide) _ A.length (intCells A) rfl HOA1.out _ (castL (pars T m)).length (intCells (castL (pars T m))) rfl (ints_holds (ownsRow_ints HO1.out)) (intCells_length _) (intCells_one _) ?h3 ?h4 ?h5 ?_))
      case h3 => rw [castL_length]; simp only [maxLen]; omega
      case h4 => rw [castL_length]; omega
      case h5 => exact HB1.out.size
      intro v4 w4 ho4 hg4 hf4
      rw [castL_length, HINI.out] at ho4
      have hlen4 : A.length + (ini ++ [topN T m]).length = (A.length + ini.length) + 1 := by simp only [List.length_append, List.length_cons, List.length_nil]; omega
      rw [hlen4] at ho4
      have ecells : intCells A ++ intCells (castL (ini ++ [topN T m])) = intCells (A ++ castL (ini ++ [topN T m])) := by simp [intCells]
      rw [ecells] at ho4
      obtain ⟨g4, c4, rfl⟩ := ownsRow_some ho4 (by omega)
      have HB4 := hideG (HB1.out.grown hg4 HB1.out.size (fun j e => (HOA1.out.lt j e).1))
      have gh4 := cell_below HB4.out gh
      have clast : w4.cell? ⟨g4, A.length + ini.length, none⟩ = some (.int .i64 (topN T m : Int)) := by
        rw [ho4.cellAt (A.length + ini.length) (by omega)]
        simp [intCells, castL]
      have HO4 := hideG ho4
      generalize hK : A.length + ini.length = K at *
      have hA' : (A ++ castL (ini ++ [topN T m])).length = K + 1 := by rw [List.length_append, castL_length]; simp; omega
      have hK2 : K ≤ 300 := by
        have h1 := congrArg List.length HINI.out
        simp at h1
        omega
      have hne0 : (((K + 1 : Nat) : Int) == 0) = false := by rw [beq_eq_false_iff_ne]; omega
      clear ho4 hg4 hf4 HOA1 HO1 ecells hlen4 gh
      rcases hspl with ⟨hk3, hh, heq⟩ | ⟨hk3, h, hhl, hh, heq⟩
      · rw [hh] at gh4
        have HR := hideG (show A ++ castL (ini ++ [topN T m]) = supI T n by rw [← HINI.out, ← heq]; exact HE.out)
        have hlR : (supI T n).length = K + 1 := by rw [← HR.out, hA']
        clear hh heq hk3
        have HLR := hideG hlR
        clear hlR
        go_wp2_with fail
        simp only [Exit.jump]
        go_ret
        exact ⟨some ⟨g4, 0, none⟩, c4, congrArg (fun k => Ending.returned (.slice (some ⟨g4, 0, none⟩) k c4)) HLR.out.symm, by rw [HLR.out, ← HR.out]; exact HO4.out, HB4.out⟩
      · rw [hh] at gh4
        have hh1 : ((h : Int) != -1) = true := by simp
        have HR := hideG (show (A ++ castL (ini ++ [topN T m])) ++ castL (h :: upsL T h) = supI T n by rw [List.append_assoc, ← castL_append, ← HINI.out, ← heq]; exact HE.out)
        have HL := hideG (upsL_host heq)
        have hbnd : K + 1 ≤ 200 := by
          have h1 := congrArg List.length HR.out
          rw [List.length_append, hA'] at h1
          omega
        clear hh heq hk3
        have HA' := hideG hA'
        clear hA'
        go_wp2_with fail
        go_step3
        refine ⟨rfl, ⟨h, A ++ castL (ini ++ [topN T m]), some ⟨g4, 0, none⟩, c4, _, _, _, _, _, _, _, _, _, _, _, _, _, _, _, _, _, _, _, _, by rw [HA'.out], hhl, by rw [HA'.out]; exact HO4.out, HB4.out, HR.out, by rw [HA'.out]; exact hbnd⟩, ?_⟩
        simpa [intOf] using HL.out
end Go.Proofs.YtpmacpbhdgigfaaGreat
namespace Go.Proofs.YtpmacpbhdgigfaaGreat
open Go.RowKit

def aboveS (T : List Nd) (a b : Int) : Bool := containsB (supI T b) a
def hostS (T : List Nd) (n : Int) : Int := if knownB T [n] then (nd T (topN T n.toNat)).host else -1

theorem supI_len (T : List Nd) (n : Int) : (supI T n).length ≤ T.length + 1 := by
  unfold supI
  split
  · rw [castL_length, List.length_cons]
    have := upsL_le T n.toNat
    omega
  · simp

def retF (T : List Nd) (H : List Int) : Nat → Nat → Nat
  | 0, a => a
  | k + 1, a => if (nd T (topN T a)).kind != 3 || containsB H (topN T a) then a else retF T H k (nd T (topN T a)).host.toNat
def ret (T : List Nd) (H : List Int) (a : Nat) : Nat := retF T H (T.length + 1) a
theorem retF_stable {T : List Nd} (hm : mayB T = true) (H : List Int) : ∀ {k a : Nat}, a < T.length → (upsL T a).length < k → ∀ j, k ≤ j → retF T H j a = retF T H k a
  | 0, a, _, h, _, _ => by omega
  | k + 1, a, ha, h, j, hj => by
    obtain ⟨j, rfl⟩ : ∃ j', j = j' + 1 := ⟨j - 1, by omega⟩
    rw [retF, retF]
    cases hc : ((nd T (topN T a)).kind != 3 || containsB H (topN T a))
    · obtain ⟨_, _, hspl⟩ := sup_split hm ha
      rcases hspl with ⟨hk, _⟩ | ⟨hk, g, hgl, hh, heq⟩
      · simp [hk] at hc
      · have := upsL_host heq
        rw [hh, Int.toNat_natCast, retF_stable hm H hgl (k := k) (by omega) j (by omega)]
    · rfl
theorem ret_stop {T : List Nd} {H : List Int} {a : Nat} (h : ((nd T (topN T a)).kind != 3 || containsB H (topN T a)) = true) : ret T H a = a := by rw [ret, retF, h]; rfl
theorem ret_step {T : List Nd} (hm : mayB T = true) {H : List Int} {a g : Nat} (h : ((nd T (topN T a)).kind != 3 || containsB H (topN T a)) = false) (hgl : g < T.length) (hh : (nd T (topN T a)).host = (g : Int)) (hlt : (upsL T g).length < (upsL T a).length) : ret T H a = ret T H g := by
  have hle := upsL_le T a
  rw [ret, retF, h, hh, Int.toNat_natCast, ret, retF_stable hm H hgl (k := T.length) (by omega) (T.length + 1) (by omega)]
  rfl
def retI (T : List Nd) (a b : Int) : Int := if knownB T [a] && knownB T [b] then (ret T (supI T b) a.toNat : Int) else -1

end Go.Proofs.YtpmacpbhdgigfaaGreat
namespace Go.Proofs.YtpmacpbhdgigfaaGreat
open Go.RowKit

set_option maxRecDepth 100000 in
set_option maxHeartbeats 4000000 in
theorem shadeRetarget_any (T : List Nd) (hS : Sane T) (v : Value) (a b : Int) (w : World) (hT : TreeAt w v T) (h6 : T.length ≤ 1000) :
    Calls Tryz.prog 224 #[v, .int .i64 a, .int .i64 b] w fun e w' => e = .returned (.int .i64 (retI T a b)) ∧ Below w.heap.size w w' := by
  have HS := hideG hS
  have HT := hideG hT
  cases hkb : knownB T [b]
  · obtain ⟨ta, tc, rfl⟩ := hT.shape
    have HU := hideG (show supI T b = [] by simp [supI, hkb])
    have HR := hideG (show retI T a b = -1 by simp [retI, hkb])
    clear hT hS hkb
    go_enter Tryz.func224, Tryz.ntmps224
    go_wp2
    refine wp_scope_jumps 0 (fun _ _ => False) (fun _ _ => 0) rfl ?_ (fun _ _ h => h.elim)
    go_wp2_with (go_at_call 236; refine (shadeUp_any T HS.out _ _ _ HT.out).mono ?_; rintro e w1 ⟨a1, c1, rfl, ho1, hb1⟩; rw [HU.out] at ho1 ⊢)
    simp only [Exit.jump]
    go_ret
    exact ⟨ret_int HR.out.symm, hb1⟩
  · obtain ⟨hm, mb, hmb, hmbl⟩ := known_one hkb
    have HM := hideG hm
    have hpos := mayB_pos hm
    obtain ⟨tb, to, tc, rfl, hct⟩ := hT.at (by omega)
    have HCT := hideG hct
    have hsl : ((supI T b).length : Int) ≠ 0 := by
      rw [supI, hkb, if_pos rfl, castL_length]; simp; omega
    have hs0 : (((supI T b).length : Int) == 0) = false := by rw [beq_eq_false_iff_ne]; exact hsl
    cases hka : knownB T [a]
    · have HQ := hideG (show topI T a = -1 by simp [topI, hka])
      have HR := hideG (show retI T a b = -1 by simp [retI, hka])
      clear hT hS hct hka hkb hm hmb
      go_enter Tryz.func224, Tryz.ntmps224
      go_wp2
      refine wp_scope_jumps 0 (fun _ _ => False) (fun _ _ => 0) rfl ?_ (fun _ _ h => h.elim)
      go_wp2_with (go_at_call 236; refine (shadeUp_any T HS.out _ _ _ HT.out).mono ?_; rintro e w1 ⟨a1, c1, rfl, ho1, hb1⟩; have HB1 := hideG hb1; clear ho1 hb1)
      go_step3
      go_wp2_with (go_at_call 181; refine (orderTop_any T HS.out _ _ _ (HT.out.below HB1.out)).mono ?_; rintro e w2 ⟨rfl, hb2⟩; rw [HQ.out])
      simp only [Exit.jump]
      go_ret
      exact ⟨ret_int HR.out.symm, HB1.out.trans (hb2.mono HB1.out.size)⟩
    · obtain ⟨_, a0, rfl, hml0⟩ := known_one hka
      have hR : retI T a0 b = (ret T (supI T b) a0 : Int) := by simp [retI, hka, hkb]
      rw [hR]
      clear hT hS hct hka hkb hm hmb hR
      go_enter Tryz.func224, Tryz.ntmps224
      go_wp2
      refine wp_scope_jumps 0 (fun a' w' => ∃ (m : Nat) (ha : Option Addr) (hc : Nat) (u8 u9 u10 u11 u12 u13 u14 u15 u16 u17 u18 u19 u20 u21 u22 u23 u24 u25 u26 u27 u28 u29 u30 u32 u33 u34 u35 u36 : Value), a' = { tmps := #[.slice (some ⟨tb, to, none⟩) T.length tc, .int .i64 (m : Int), .int .i64 b, undef, undef, undef, .int .i64 0, .slice ha (supI T b).length hc, u8, u9, u10, u11, u12, u13, u14, u15, u16, u17, u18, u19, u20, u21, u22, u23, u24, u25, u26, u27, u28, u29, u30, undef, u32, u33, u34, u35, u36], defers := [] } ∧ m < T.length ∧ IntsAt w' (.slice ha (supI T b).length hc) (supI T b) ∧ Below w.heap.size w w' ∧ ret T (supI T b) m = ret T (supI T b) a0) (fun a' _ => (upsL T (intOf (a'.tmps.getD 1 undef)).toNat).length) rfl ?_ ?_
      · go_wp2_with (go_at_call 236; refine (shadeUp_any T HS.out _ _ _ HT.out).mono ?_; rintro e w1 ⟨ha, hc, rfl, ho1, hb1⟩; have HI0 := hideG (ownsRow_ints ho1); have HB0 := hideG hb1; clear ho1 hb1)
        go_step3
        have hml := hml0
        obtain ⟨htl, _, hspl⟩ := sup_split HM.out hml
        have HQ := hideG (show topI T (a0 : Int) = (topN T a0 : Int) by unfold topI; rw [known_of HM.out hml, if_pos rfl, Int.toNat_natCast])
        obtain ⟨kv, av, hN⟩ := HCT.out (topN T a0) htl
        have gk := cell_below HB0.out hN.kind
        have gh := cell_below HB0.out hN.host
        clear hN
        have hne : ((topN T a0 : Int) == -1) = false := by simp
        have hl := supI_len T b
        cases hk : ((nd T (topN T a0)).kind != 3)
        · cases hcn : containsB (supI T b) (topN T a0 : Int)
          · rcases hspl with ⟨h3, _⟩ | ⟨h3, g, hgl, hh, heq⟩
            · exact absurd h3 (by simpa using hk)
            · have HST := hideG (ret_step HM.out (H := supI T b) (by rw [hk, hcn]; rfl) hgl hh (upsL_host heq))
              have HL := hideG (upsL_host heq)
              rw [hh] at gh
              clear h3 hh heq
              go_wp2_with (first | (go_at_call 181; refine (orderTop_any T HS.out _ _ _ (HT.out.below HB0.out)).mono ?_; rintro e w1 ⟨rfl, hb1⟩; rw [HQ.out]; have gk1 := cell_below hb1 gk; have gh1 := cell_below hb1 gh; have HI1 := hideG (HI0.out.below hb1); have HB1 := hideG (HB0.out.trans (hb1.mono HB0.out.size)); clear hb1) | (go_at_call 87; refine (contains_any (supI T b) _ _ _ HI1.out (by omega)).mono ?_; rintro e w2 ⟨rfl, hw⟩; subst hw))
              go_step3
              exact ⟨rfl, g, ha, hc, _, _, _, _, _, _, _, _, _, _, _, _, _, _, _, _, _, _, _, _, _, _, _, _, _, _, _, _, rfl, hgl, HI1.out, HB1.out, HST.out.symm⟩
          · have HST := hideG (ret_stop (T := T) (H := supI T b) (a := a0) (by rw [hk, hcn]; rfl))
            clear hspl
            go_wp2_with (first | (go_at_call 181; refine (orderTop_any T HS.out _ _ _ (HT.out.below HB0.out)).mono ?_; rintro e w1 ⟨rfl, hb1⟩; rw [HQ.out]; have gk1 := cell_below hb1 gk; have gh1 := cell_below hb1 gh; have HI1 := hideG (HI0.out.below hb1); have HB1 := hideG (HB0.out.trans (hb1.mono HB0.out.size)); clear hb1) | (go_at_call 87; refine (contains_any (supI T b) _ _ _ HI1.out (by omega)).mono ?_; rintro e w2 ⟨rfl, hw⟩; subst hw))
            simp only [Exit.jump]
            go_ret
            exact ⟨ret_int (by rw [HST.out]), HB1.out⟩
        · have HST := hideG (ret_stop (T := T) (H := supI T b) (a := a0) (by rw [hk]; rfl))
          clear hspl
          go_wp2_with (first | (go_at_call 181; refine (orderTop_any T HS.out _ _ _ (HT.out.below HB0.out)).mono ?_; rintro e w1 ⟨rfl, hb1⟩; rw [HQ.out]; have gk1 := cell_below hb1 gk; have gh1 := cell_below hb1 gh; have HI1 := hideG (HI0.out.below hb1); have HB1 := hideG (HB0.out.trans (hb1.mono HB0.out.size)); clear hb1) | (go_at_call 87; refine (contains_any (supI T b) _ _ _ HI1.out (by omega)).mono ?_; rintro e w2 ⟨rfl, hw⟩; subst hw))
          simp only [Exit.jump]
          go_ret
          exact ⟨ret_int (by rw [HST.out]), HB1.out⟩
      · rintro a' w' ⟨m, ha, hc, u8, u9, u10, u11, u12, u13, u14, u15, u16, u17, u18, u19, u20, u21, u22, u23, u24, u25, u26, u27, u28, u29, u30, u32, u33, u34, u35, u36, rfl, hml, hI, hB, hE⟩
        have HI0 := hideG hI
        have HB0 := hideG hB
        have HE := hideG hE
        clear hI hB hE
        obtain ⟨htl, _, hspl⟩ := sup_split HM.out hml
        have HQ := hideG (show topI T (m : Int) = (topN T m : Int) by unfold topI; rw [known_of HM.out hml, if_pos rfl, Int.toNat_natCast])
        obtain ⟨kv, av, hN⟩ := HCT.out (topN T m) htl
        have gk := cell_below HB0.out hN.kind
        have gh := cell_below HB0.out hN.host
        clear hN
        have hne : ((topN T m : Int) == -1) = false := by simp
        have hl := supI_len T b
        cases hk : ((nd T (topN T m)).kind != 3)
        · cases hcn : containsB (supI T b) (topN T m : Int)
          · rcases hspl with ⟨h3, _⟩ | ⟨h3, g, hgl, hh, heq⟩
            · exact absurd h3 (by simpa using hk)
            · have HST := hideG (ret_step HM.out (H := supI T b) (by rw [hk, hcn]; rfl) hgl hh (upsL_host heq))
              have HL := hideG (upsL_host heq)
              rw [hh] at gh
              clear h3 hh heq
              go_wp2_with (first | (go_at_call 181; refine (orderTop_any T HS.out _ _ _ (HT.out.below HB0.out)).mono ?_; rintro e w1 ⟨rfl, hb1⟩; rw [HQ.out]; have gk1 := cell_below hb1 gk; have gh1 := cell_below hb1 gh; have HI1 := hideG (HI0.out.below hb1); have HB1 := hideG (HB0.out.trans (hb1.mono HB0.out.size)); clear hb1) | (go_at_call 87; refine (contains_any (supI T b) _ _ _ HI1.out (by omega)).mono ?_; rintro e w2 ⟨rfl, hw⟩; subst hw))
              go_step3
              exact ⟨rfl, ⟨g, ha, hc, _, _, _, _, _, _, _, _, _, _, _, _, _, _, _, _, _, _, _, _, _, _, _, _, _, _, _, _, rfl, hgl, HI1.out, HB1.out, HST.out.symm.trans HE.out⟩, by simpa [intOf] using HL.out⟩
          · have HST := hideG (ret_stop (T := T) (H := supI T b) (a := m) (by rw [hk, hcn]; rfl))
            clear hspl
            go_wp2_with (first | (go_at_call 181; refine (orderTop_any T HS.out _ _ _ (HT.out.below HB0.out)).mono ?_; rintro e w1 ⟨rfl, hb1⟩; rw [HQ.out]; have gk1 := cell_below hb1 gk; have gh1 := cell_below hb1 gh; have HI1 := hideG (HI0.out.below hb1); have HB1 := hideG (HB0.out.trans (hb1.mono HB0.out.size)); clear hb1) | (go_at_call 87; refine (contains_any (supI T b) _ _ _ HI1.out (by omega)).mono ?_; rintro e w2 ⟨rfl, hw⟩; subst hw))
            simp only [Exit.jump]
            go_ret
            exact ⟨ret_int (by rw [← HE.out, HST.out]), HB1.out⟩
        · have HST := hideG (ret_stop (T := T) (H := supI T b) (a := m) (by rw [hk]; rfl))
          clear hspl
          go_wp2_with (first | (go_at_call 181; refine (orderTop_any T HS.out _ _ _ (HT.out.below HB0.out)).mono ?_; rintro e w1 ⟨rfl, hb1⟩; rw [HQ.out]; have gk1 := cell_below hb1 gk; have gh1 := cell_below hb1 gh; have HI1 := hideG (HI0.out.below hb1); have HB1 := hideG (HB0.out.trans (hb1.mono HB0.out.size)); clear hb1) | (go_at_call 87; refine (contains_any (supI T b) _ _ _ HI1.out (by omega)).mono ?_; rintro e w2 ⟨rfl, hw⟩; subst hw))
          simp only [Exit.jump]
          go_ret
          exact ⟨ret_int (by rw [← HE.out, HST.out]), HB1.out⟩
end Go.Proofs.YtpmacpbhdgigfaaGreat
namespace Go.Proofs.YtpmacpbhdgigfaaGreat
open Go.RowKit

def slF (T : List Nd) : Nat → Nat → List Nat
  | 0, _ => []
  | k + 1, n => n :: ((if (nd T n).root == -1 then [] else slF T k (nd T n).root.toNat) ++ (nd T n).kids.flatMap fun x => slF T k x.toNat)
/-- A node, all in its shadow, all below its kids. -/
def sl (T : List Nd) (n : Nat) : List Nat := slF T (T.length + 1) n

theorem over_kid {T : List Nd} (h : Fine T) {n : Nat} (hn : n < T.length) {x : Int} (hx : x ∈ (nd T n).kids) : ∃ m : Nat, x = m ∧ m < T.length ∧ overI (nd T m) = (n : Int) := by
  obtain ⟨m, rfl, hml, hk, hp⟩ := kidP_iff.mp (h.kid n hn x hx)
  exact ⟨m, rfl, hml, by rw [over_parent (kid_not_shadow hk)]; exact hp⟩
theorem over_root {T : List Nd} (h : Fine T) {n : Nat} (hn : n < T.length) (hr : ((nd T n).root == -1) = false) : ∃ m : Nat, (nd T n).root = m ∧ m < T.length ∧ overI (nd T m) = (n : Int) := by
  rcases rootP_iff.mp (h.root n hn) with e | ⟨_, r, hrl, e, hk, hh⟩
  · rw [e] at hr; simp at hr
  · exact ⟨r, e, hrl, by unfold overI; rw [hk]; exact hh⟩

theorem slF_stable {T : List Nd} (hm : mayB T = true) : ∀ {k n : Nat}, n < T.length → T.length < k + (upsL T n).length → ∀ j, k ≤ j → slF T j n = slF T k n
  | 0, n, _, h, _, _ => by have := upsL_le T n; omega
  | k + 1, n, hn, h, j, hj => by
    obtain ⟨j, rfl⟩ : ∃ j', j = j' + 1 := ⟨j - 1, by omega⟩
    have hF := mayB_fine hm
    have step : ∀ m : Nat, m < T.length → overI (nd T m) = (n : Int) → slF T j m = slF T k m := fun m hml ho => by
      have hs := (upsL_some hm hml ho).1
      refine slF_stable hm hml ?_ j (by omega)
      rw [hs, List.length_cons]; omega
    rw [slF, slF]
    congr 1
    congr 1
    · cases hr : ((nd T n).root == -1)
      · obtain ⟨m, e, hml, ho⟩ := over_root hF hn hr
        rw [e, Int.toNat_natCast, step m hml ho]
      · rfl
    · rw [List.flatMap_def, List.flatMap_def]
      congr 1
      apply List.map_congr_left
      intro x hx
      obtain ⟨m, rfl, hml, ho⟩ := over_kid hF hn hx
      rw [Int.toNat_natCast, step m hml ho]
theorem sl_eq {T : List Nd} (hm : mayB T = true) {n : Nat} (hn : n < T.length) : sl T n = n :: ((if (nd T n).root == -1 then [] else sl T (nd T n).root.toNat) ++ (nd T n).kids.flatMap fun x => sl T x.toNat) := by
  have hF := mayB_fine hm
  have step : ∀ m : Nat, m < T.length → overI (nd T m) = (n : Int) → slF T T.length m = sl T m := fun m hml ho => by
    have hs := (upsL_some hm hml ho).1
    refine (slF_stable hm hml ?_ (T.length + 1) (by omega)).symm
    rw [hs, List.length_cons]; omega
  rw [sl, slF]
  congr 1
  congr 1
  · cases hr : ((nd T n).root == -1)
    · obtain ⟨m, e, hml, ho⟩ := over_root hF hn hr
      rw [e, Int.toNat_natCast, step m hml ho]
    · rfl
  · rw [List.flatMap_def, List.flatMap_def]
    congr 1
    apply List.map_congr_left
    intro x hx
    obtain ⟨m, rfl, hml, ho⟩ := over_kid hF hn hx
    rw [Int.toNat_natCast, step m hml ho]

theorem flat_take {l : List Int} {k : Nat} (h : k < l.length) (f : Int → List Nat) : (l.take (k + 1)).flatMap f = (l.take k).flatMap f ++ f (l.getD k 0) := by
  rw [List.take_add_one, List.getElem?_eq_getElem h, List.flatMap_append, List.getD_eq_getElem?_getD, List.getElem?_eq_getElem h]
  simp
theorem flat_le {l : List Int} (k : Nat) (f : Int → List Nat) : ((l.take k).flatMap f).length ≤ (l.flatMap f).length := by
  conv => rhs; rw [← List.take_append_drop k l, List.flatMap_append, List.length_append]
  omega

end Go.Proofs.YtpmacpbhdgigfaaGreat
namespace Go.Proofs.YtpmacpbhdgigfaaGreat
open Go.RowKit

def slI (T : List Nd) (n : Int) : List Int := if knownB T [n] then castL (sl T n.toNat) else []

def ls4 : List Nd := [⟨0, 0, -1, [1], -1, -1, []⟩, ⟨1, 0, 0, [4], -1, 2, []⟩, ⟨3, 0, -1, [3], 1, -1, []⟩, ⟨1, 0, 2, [], -1, -1, []⟩, ⟨1, 0, 1, [], -1, -1, []⟩, ⟨1, 0, -1, [], -1, -1, []⟩]

theorem ints_one {W : World} {b : Nat} {x : Int} (h : W.cell? ⟨b, 0, none⟩ = some (.int .i64 x)) : IntsAt W (.slice (some ⟨b, 0, none⟩) 1 1) [x] := by
  refine ⟨_, 1, rfl, fun _ => ⟨b, 0, rfl, fun j hj => ?_⟩⟩
  have : j = 0 := by simp at hj; omega
  subst this
  exact h
theorem ls4_tree (w : World) : TreeAt ((((w.alloc (.cells #[.int .i64 1] 3)).alloc (.cells #[.int .i64 4] 3)).alloc (.cells #[.int .i64 3] 3)).alloc (.cells #[.int .i64 0, .int .i64 0, .int .i64 (-1), .slice (some ⟨w.heap.size, 0, none⟩) 1 1, .int .i64 (-1), .int .i64 (-1), .slice none 0 0, .int .i64 1, .int .i64 0, .int .i64 0, .slice (some ⟨w.heap.size + 1, 0, none⟩) 1 1, .int .i64 (-1), .int .i64 2, .slice none 0 0, .int .i64 3, .int .i64 0, .int .i64 (-1), .slice (some ⟨w.heap.size + 1 + 1, 0, none⟩) 1 1, .int .i64 1, .int .i64 (-1), .slice none 0 0, .int .i64 1, .int .i64 0, .int .i64 2, .slice none 0 0, .int .i64 (-1), .int .i64 (-1), .slice none 0 0, .int .i64 1, .int .i64 0, .int .i64 1, .slice none 0 0, .int .i64 (-1), .int .i64 (-1), .slice none 0 0, .int .i64 1, .int .i64 0, .int .i64 (-1), .slice none 0 0, .int .i64 (-1), .int .i64 (-1), .slice none 0 0] 79)) (.slice (some ⟨w.heap.size + 1 + 1 + 1, 0, none⟩) 6 6) ls4 := by
  have hBs : (((w.alloc (.cells #[.int .i64 1] 3)).alloc (.cells #[.int .i64 4] 3)).alloc (.cells #[.int .i64 3] 3)).heap.size = w.heap.size + 1 + 1 + 1 := by simp
  have k0 : (((w.alloc (.cells #[.int .i64 1] 3)).alloc (.cells #[.int .i64 4] 3)).alloc (.cells #[.int .i64 3] 3)).cell? ⟨w.heap.size, 0, none⟩ = some (.int .i64 1) := cell_alloc_l _ (cell_alloc_l _ (cell_new_l w (.int .i64 1) 3).1)
  have k1 : (((w.alloc (.cells #[.int .i64 1] 3)).alloc (.cells #[.int .i64 4] 3)).alloc (.cells #[.int .i64 3] 3)).cell? ⟨w.heap.size + 1, 0, none⟩ = some (.int .i64 4) := by
    have := cell_alloc_l (.cells #[.int .i64 3] 3) (cell_new_l (w.alloc (.cells #[.int .i64 1] 3)) (.int .i64 4) 3).1
    simpa only [World.size_alloc] using this
  have k2 : (((w.alloc (.cells #[.int .i64 1] 3)).alloc (.cells #[.int .i64 4] 3)).alloc (.cells #[.int .i64 3] 3)).cell? ⟨w.heap.size + 1 + 1, 0, none⟩ = some (.int .i64 3) := by
    have := (cell_new_l ((w.alloc (.cells #[.int .i64 1] 3)).alloc (.cells #[.int .i64 4] 3)) (.int .i64 3) 3).1
    simpa only [World.size_alloc] using this
  generalize (((w.alloc (.cells #[.int .i64 1] 3)).alloc (.cells #[.int .i64 4] 3)).alloc (.cells #[.int .i64 3] 3)) = V at *
  have hc : ∀ (j : Nat) (u : Value), (show Array Value from #[.int .i64 0, .int .i64 0, .int .i64 (-1), .slice (some ⟨w.heap.size, 0, none⟩) 1 1, .int .i64 (-1), .int .i64 (-1), .slice none 0 0, .int .i64 1, .int .i64 0, .int .i64 0, .slice (some ⟨w.heap.size + 1, 0, none⟩) 1 1, .int .i64 (-1), .int .i64 2, .slice none 0 0, .int .i64 3, .int .i64 0, .int .i64 (-1), .slice (some ⟨w.heap.size + 1 + 1, 0, none⟩) 1 1, .int .i64 1, .int .i64 (-1), .slice none 0 0, .int .i64 1, .int .i64 0, .int .i64 2, .slice none 0 0, .int .i64 (-1), .int .i64 (-1), .slice none 0 0, .int .i64 1, .int .i64 0, .int .i64 1, .slice none 0 0, .int .i64 (-1), .int .i64 (-1), .slice none 0 0, .int .i64 1, .int .i64 0, .int .i64 (-1), .slice none 0 0, .int .i64 (-1), .int .i64 (-1), .slice none 0 0])[j]? = some u → (V.alloc (.cells #[.int .i64 0, .int .i64 0, .int .i64 (-1), .slice (some ⟨w.heap.size, 0, none⟩) 1 1, .int .i64 (-1), .int .i64 (-1), .slice none 0 0, .int .i64 1, .int .i64 0, .int .i64 0, .slice (some ⟨w.heap.size + 1, 0, none⟩) 1 1, .int .i64 (-1), .int .i64 2, .slice none 0 0, .int .i64 3, .int .i64 0, .int .i64 (-1), .slice (some ⟨w.heap.size + 1 + 1, 0, none⟩) 1 1, .int .i64 1, .int .i64 (-1), .slice none 0 0, .int .i64 1, .int .i64 0, .int .i64 2, .slice none 0 0, .int .i64 (-1), .int .i64 (-1), .slice none 0 0, .int .i64 1, .int .i64 0, .int .i64 1, .slice none 0 0, .int .i64 (-1), .int .i64 (-1), .slice none 0 0, .int .i64 1, .int .i64 0, .int .i64 (-1), .slice none 0 0, .int .i64 (-1), .int .i64 (-1), .slice none 0 0] 79)).cell? ⟨w.heap.size + 1 + 1 + 1, j, none⟩ = some u := fun j u hj => by
    rw [← hBs, World.cell?_alloc_at _ _ _ _ (by rfl)]
    exact hj
  have q0 := cell_alloc_l (.cells #[.int .i64 0, .int .i64 0, .int .i64 (-1), .slice (some ⟨w.heap.size, 0, none⟩) 1 1, .int .i64 (-1), .int .i64 (-1), .slice none 0 0, .int .i64 1, .int .i64 0, .int .i64 0, .slice (some ⟨w.heap.size + 1, 0, none⟩) 1 1, .int .i64 (-1), .int .i64 2, .slice none 0 0, .int .i64 3, .int .i64 0, .int .i64 (-1), .slice (some ⟨w.heap.size + 1 + 1, 0, none⟩) 1 1, .int .i64 1, .int .i64 (-1), .slice none 0 0, .int .i64 1, .int .i64 0, .int .i64 2, .slice none 0 0, .int .i64 (-1), .int .i64 (-1), .slice none 0 0, .int .i64 1, .int .i64 0, .int .i64 1, .slice none 0 0, .int .i64 (-1), .int .i64 (-1), .slice none 0 0, .int .i64 1, .int .i64 0, .int .i64 (-1), .slice none 0 0, .int .i64 (-1), .int .i64 (-1), .slice none 0 0] 79) k0
  have q1 := cell_alloc_l (.cells #[.int .i64 0, .int .i64 0, .int .i64 (-1), .slice (some ⟨w.heap.size, 0, none⟩) 1 1, .int .i64 (-1), .int .i64 (-1), .slice none 0 0, .int .i64 1, .int .i64 0, .int .i64 0, .slice (some ⟨w.heap.size + 1, 0, none⟩) 1 1, .int .i64 (-1), .int .i64 2, .slice none 0 0, .int .i64 3, .int .i64 0, .int .i64 (-1), .slice (some ⟨w.heap.size + 1 + 1, 0, none⟩) 1 1, .int .i64 1, .int .i64 (-1), .slice none 0 0, .int .i64 1, .int .i64 0, .int .i64 2, .slice none 0 0, .int .i64 (-1), .int .i64 (-1), .slice none 0 0, .int .i64 1, .int .i64 0, .int .i64 1, .slice none 0 0, .int .i64 (-1), .int .i64 (-1), .slice none 0 0, .int .i64 1, .int .i64 0, .int .i64 (-1), .slice none 0 0, .int .i64 (-1), .int .i64 (-1), .slice none 0 0] 79) k1
  have q2 := cell_alloc_l (.cells #[.int .i64 0, .int .i64 0, .int .i64 (-1), .slice (some ⟨w.heap.size, 0, none⟩) 1 1, .int .i64 (-1), .int .i64 (-1), .slice none 0 0, .int .i64 1, .int .i64 0, .int .i64 0, .slice (some ⟨w.heap.size + 1, 0, none⟩) 1 1, .int .i64 (-1), .int .i64 2, .slice none 0 0, .int .i64 3, .int .i64 0, .int .i64 (-1), .slice (some ⟨w.heap.size + 1 + 1, 0, none⟩) 1 1, .int .i64 1, .int .i64 (-1), .slice none 0 0, .int .i64 1, .int .i64 0, .int .i64 2, .slice none 0 0, .int .i64 (-1), .int .i64 (-1), .slice none 0 0, .int .i64 1, .int .i64 0, .int .i64 1, .slice none 0 0, .int .i64 (-1), .int .i64 (-1), .slice none 0 0, .int .i64 1, .int .i64 0, .int .i64 (-1), .slice none 0 0, .int .i64 (-1), .int .i64 (-1), .slice none 0 0] 79) k2
  generalize V.alloc (.cells #[.int .i64 0, .int .i64 0, .int .i64 (-1), .slice (some ⟨w.heap.size, 0, none⟩) 1 1, .int .i64 (-1), .int .i64 (-1), .slice none 0 0, .int .i64 1, .int .i64 0, .int .i64 0, .slice (some ⟨w.heap.size + 1, 0, none⟩) 1 1, .int .i64 (-1), .int .i64 2, .slice none 0 0, .int .i64 3, .int .i64 0, .int .i64 (-1), .slice (some ⟨w.heap.size + 1 + 1, 0, none⟩) 1 1, .int .i64 1, .int .i64 (-1), .slice none 0 0, .int .i64 1, .int .i64 0, .int .i64 2, .slice none 0 0, .int .i64 (-1), .int .i64 (-1), .slice none 0 0, .int .i64 1, .int .i64 0, .int .i64 1, .slice none 0 0, .int .i64 (-1), .int .i64 (-1), .slice none 0 0, .int .i64 1, .int .i64 0, .int .i64 (-1), .slice none 0 0, .int .i64 (-1), .int .i64 (-1), .slice none 0 0] 79) = U at *
  refine ⟨_, 6, rfl, fun _ => ⟨w.heap.size + 1 + 1 + 1, 0, rfl, fun n hn => ?_⟩⟩
  match n, hn with
  | 0, _ => exact ⟨.slice (some ⟨w.heap.size, 0, none⟩) 1 1, .slice none 0 0, hc 0 _ rfl, hc 1 _ rfl, hc 2 _ rfl, hc 3 _ rfl, hc 4 _ rfl, hc 5 _ rfl, hc 6 _ rfl, ints_one q0, ⟨none, 0, rfl, fun h => absurd h (by decide)⟩⟩
  | 1, _ => exact ⟨.slice (some ⟨w.heap.size + 1, 0, none⟩) 1 1, .slice none 0 0, hc 7 _ rfl, hc 8 _ rfl, hc 9 _ rfl, hc 10 _ rfl, hc 11 _ rfl, hc 12 _ rfl, hc 13 _ rfl, ints_one q1, ⟨none, 0, rfl, fun h => absurd h (by decide)⟩⟩
  | 2, _ => exact ⟨.slice (some ⟨w.heap.size + 1 + 1, 0, none⟩) 1 1, .slice none 0 0, hc 14 _ rfl, hc 15 _ rfl, hc 16 _ rfl, hc 17 _ rfl, hc 18 _ rfl, hc 19 _ rfl, hc 20 _ rfl, ints_one q2, ⟨none, 0, rfl, fun h => absurd h (by decide)⟩⟩
  | 3, _ => exact ⟨.slice none 0 0, .slice none 0 0, hc 21 _ rfl, hc 22 _ rfl, hc 23 _ rfl, hc 24 _ rfl, hc 25 _ rfl, hc 26 _ rfl, hc 27 _ rfl, ⟨none, 0, rfl, fun h => absurd h (by decide)⟩, ⟨none, 0, rfl, fun h => absurd h (by decide)⟩⟩
  | 4, _ => exact ⟨.slice none 0 0, .slice none 0 0, hc 28 _ rfl, hc 29 _ rfl, hc 30 _ rfl, hc 31 _ rfl, hc 32 _ rfl, hc 33 _ rfl, hc 34 _ rfl, ⟨none, 0, rfl, fun h => absurd h (by decide)⟩, ⟨none, 0, rfl, fun h => absurd h (by decide)⟩⟩
  | 5, _ => exact ⟨.slice none 0 0, .slice none 0 0, hc 35 _ rfl, hc 36 _ rfl, hc 37 _ rfl, hc 38 _ rfl, hc 39 _ rfl, hc 40 _ rfl, hc 41 _ rfl, ⟨none, 0, rfl, fun h => absurd h (by decide)⟩, ⟨none, 0, rfl, fun h => absurd h (by decide)⟩⟩

theorem lsUp (T : List Nd) (hs : shortB T = true) (n : Int) (L : Nat) (l : List Int) (hl : supI T n = l) (hL : l.length = L) (v : Value) (w : World) (h : TreeAt w v T) :
    Calls Tryz.prog 236 #[v, .int .i64 n] w fun x w' => ∃ a c, x = .returned (.slice a L c) ∧ IntsAt w' (.slice a L c) l ∧ Below w.heap.size w w' := by
  refine (shadeUp_any T (sane_of hs) v n w h).mono ?_
  rintro x w' ⟨a, c, rfl, ho, hb⟩
  have hi := ownsRow_ints ho
  rw [hl, hL] at hi
  exact ⟨a, c, by rw [hl, hL], hi, hb⟩
theorem lsRet (T : List Nd) (hs : shortB T = true) (h6 : T.length ≤ 1000) (a b r : Int) (hr : retI T a b = r) (v : Value) (w : World) (h : TreeAt w v T) :
    Calls Tryz.prog 224 #[v, .int .i64 a, .int .i64 b] w fun x w' => x = .returned (.int .i64 r) ∧ Below w.heap.size w w' := by
  rw [← hr]; exact shadeRetarget_any T (sane_of hs) v a b w h h6
theorem ints_new4 (w : World) (x y z u : Int) : IntsAt (w.alloc (.cells #[.int .i64 x, .int .i64 y, .int .i64 z, .int .i64 u] 3)) (.slice (some ⟨w.heap.size, 0, none⟩) 4 4) [x, y, z, u] := by
  refine ⟨_, 4, rfl, fun _ => ⟨w.heap.size, 0, rfl, fun j hj => ?_⟩⟩
  match j, hj with
  | 0, _ | 1, _ | 2, _ | 3, _ => simp
theorem ints_new5 (w : World) (x y z u t : Int) : IntsAt (w.alloc (.cells #[.int .i64 x, .int .i64 y, .int .i64 z, .int .i64 u, .int .i64 t] 3)) (.slice (some ⟨w.heap.size, 0, none⟩) 5 5) [x, y, z, u, t] := by
  refine ⟨_, 5, rfl, fun _ => ⟨w.heap.size, 0, rfl, fun j hj => ?_⟩⟩
  match j, hj with
  | 0, _ | 1, _ | 2, _ | 3, _ | 4, _ => simp

end Go.Proofs.YtpmacpbhdgigfaaGreat
