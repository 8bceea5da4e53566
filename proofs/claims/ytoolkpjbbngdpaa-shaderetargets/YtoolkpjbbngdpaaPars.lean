/- Going up from parent to parent; the function up of package order. -/
import Derived.Test.YtoolkpjbbngdpaaUpL
namespace Go.Proofs.Ytoolkpjbbngdpaa
open Go.RowKit Go.Shelf

attribute [local go_sem] Oper.semAt_some

def parsF (T : List Nd) : Nat → Nat → List Nat
  | 0, _ => []
  | m + 1, n => n :: (if (nd T n).parent == -1 then [] else parsF T m (nd T n).parent.toNat)
/-- A node, its parent, that one's parent, and so on. -/
def pars (T : List Nd) (n : Nat) : List Nat := parsF T (T.length + 1) n

theorem fine_shadow_parent {T : List Nd} (h : Fine T) {n : Nat} (hn : n < T.length) (hk : (nd T n).kind = 3) : (nd T n).parent = -1 := by
  rcases h.par n hn with e | ⟨p, hp, e, hm⟩
  · exact e
  · obtain ⟨m, e1, _, hkk, _⟩ := kidP_iff.mp (h.kid p hp _ hm)
    obtain rfl : n = m := by omega
    exact absurd hk (kid_not_shadow hkk)
theorem over_of_parent {T : List Nd} (h : Fine T) {n m : Nat} (hn : n < T.length) (e : (nd T n).parent = (m : Int)) : overI (nd T n) = (m : Int) := by
  by_cases hk : (nd T n).kind = 3
  · rw [fine_shadow_parent h hn hk] at e; omega
  · rw [over_parent hk]; exact e
theorem parent_cases {T : List Nd} (h : Fine T) {n : Nat} (hn : n < T.length) : (((nd T n).parent == -1) = true) ∨ (((nd T n).parent == -1) = false ∧ ∃ m : Nat, m < T.length ∧ (nd T n).parent = (m : Int)) := by
  rcases h.par n hn with e | ⟨p, hp, e, _⟩
  · exact .inl (by simp [e])
  · exact .inr ⟨by simp [e], p, hp, e⟩

theorem upsL_le (T : List Nd) (n : Nat) : (upsL T n).length ≤ T.length := by
  have : ∀ k n, (ups T k n).length ≤ k := fun k => by
    induction k with
    | zero => intro n; simp [ups]
    | succ k ih =>
      intro n
      rw [ups]
      split
      · simp
      · have := ih (overI (nd T n)).toNat
        simp; omega
  exact this _ _
theorem parsF_stable {T : List Nd} (hm : mayB T = true) : ∀ {k n : Nat}, n < T.length → (upsL T n).length < k → ∀ j, k ≤ j → parsF T j n = parsF T k n
  | 0, n, _, h, _, _ => by omega
  | k + 1, n, hn, h, j, hj => by
    obtain ⟨j, rfl⟩ : ∃ j', j = j' + 1 := ⟨j - 1, by omega⟩
    rw [parsF, parsF]
    rcases parent_cases (mayB_fine hm) hn with e | ⟨e, m, hml, hpm⟩
    · rw [e]; rfl
    · rw [e, hpm, Int.toNat_natCast]
      have hs := (upsL_some hm hn (over_of_parent (mayB_fine hm) hn hpm)).1
      rw [hs, List.length_cons] at h
      rw [parsF_stable hm hml (k := k) (by omega) j (by omega)]
theorem pars_none {T : List Nd} {n : Nat} (h : ((nd T n).parent == -1) = true) : pars T n = [n] := by
  rw [pars, parsF, h]; rfl
theorem pars_some {T : List Nd} (hm : mayB T = true) {n m : Nat} (hn : n < T.length) (h : (nd T n).parent = (m : Int)) : pars T n = n :: pars T m := by
  have hov := upsL_some hm hn (over_of_parent (mayB_fine hm) hn h)
  have hne : ((nd T n).parent == -1) = false := by rw [h]; simp
  have hle := upsL_le T n
  rw [hov.1, List.length_cons] at hle
  rw [pars, parsF, hne, h, Int.toNat_natCast, pars, parsF_stable hm hov.2 (k := T.length) (by omega) (T.length + 1) (by omega)]
  rfl
theorem parsF_len (T : List Nd) : ∀ (k n : Nat), (parsF T k n).length ≤ k
  | 0, _ => by simp [parsF]
  | k + 1, n => by
    rw [parsF]
    split
    · simp
    · have := parsF_len T k (nd T n).parent.toNat
      simp; omega
theorem pars_le (T : List Nd) (n : Nat) : (pars T n).length ≤ T.length + 1 := parsF_len T _ n
theorem pars_ne (T : List Nd) (n : Nat) : pars T n ≠ [] := by rw [pars, parsF]; simp
theorem pars_mem {T : List Nd} (hm : mayB T = true) : ∀ {n x : Nat}, n < T.length → x ∈ pars T n → x < T.length := by
  intro n x hn hx
  generalize hk : (upsL T n).length = k
  induction k using Nat.strongRecOn generalizing n with
  | _ k ih =>
    rcases parent_cases (mayB_fine hm) hn with e | ⟨e, m, hml, hpm⟩
    · rw [pars_none e] at hx; simp at hx; omega
    · rw [pars_some hm hn hpm] at hx
      have hs := (upsL_some hm hn (over_of_parent (mayB_fine hm) hn hpm)).1
      rcases List.mem_cons.mp hx with rfl | hx
      · exact hn
      · exact ih (upsL T m).length (by rw [← hk, hs]; simp) hml hx rfl

theorem oup_in (a : Option Addr) (len cap : Nat) (n : Int) (m : Nat) (w : World) :
    CallsIn Fence.wide m Try.prog 87 #[.slice a len cap, .int .i64 n] w fun e w' => e = .returned (.func (.func 110) #[] #[.pointer (some ⟨w.heap.size + 1, 0, none⟩), .pointer (some ⟨w.heap.size, 0, none⟩)]) ∧ w' = (w.alloc (.cells #[.slice a len cap] 23)).alloc (.cells #[.int .i64 n] 3) := by
  refine callsIn_of_wp Try.func87 rfl trivial ?_ rfl
  simp only [Try.ntmps87, List.size_toArray, List.length_cons, List.length_nil, Nat.reduceAdd, Nat.reduceSub, Array.replicate_succ, Array.replicate_zero, List.push_toArray, List.append_toArray, List.nil_append, List.cons_append]
  gi_wp2
  go_ret
  exact ⟨rfl, rfl⟩

/-- Blocks below N are what they were, but for block X. -/
structure But (N X : Nat) (A B : World) : Prop where
  size : A.heap.size ≤ B.heap.size
  block : ∀ k, k < N → k ≠ X → B.heap[k]? = A.heap[k]?
theorem But.refl (N X : Nat) (A : World) : But N X A A := ⟨Nat.le_refl _, fun _ _ _ => rfl⟩
theorem But.trans {N X : Nat} {A B C : World} (h : But N X A B) (k : But N X B C) : But N X A C := ⟨Nat.le_trans h.size k.size, fun j hj hx => (k.block j hj hx).trans (h.block j hj hx)⟩
theorem But.of_below {N X K : Nat} {A B : World} (h : Below K A B) (hK : N ≤ K) : But N X A B := ⟨h.size, fun j hj _ => h.block j (by omega)⟩
theorem But.cell {N X : Nat} {A B : World} (h : But N X A B) {b o : Nat} (hb : b < N) (hx : b ≠ X) : B.cell? ⟨b, o, none⟩ = A.cell? ⟨b, o, none⟩ := World.cell?_of_block (a := ⟨b, o, none⟩) (h.block b hb hx)
theorem But.setCell {N X o : Nat} {A B : World} (h : But N X A B) (u : Value) : But N X A (B.setCell ⟨X, o, none⟩ u) :=
  ⟨by simpa using h.size, fun j hj hx => (heap_setCell_other B ⟨X, o, none⟩ j u (fun e => hx e)).trans (h.block j hj hx)⟩
theorem but_b {N X : Nat} {w : World} (hn : N ≤ w.heap.size) (W : World) (l : Nat) (o o' : Obj) (hl : w.heap.size ≤ l) (h : W.heap[l]? = some o) (hc : o.isCells = false) (hw : o.isWalk = false) : But N X W (W.putObj l o') :=
  But.of_below (belowK_b hn W l o o' hl h hc hw) (Nat.le_refl _)
theorem TreeAt.but {w A B : World} {v : Value} {T : List Nd} {N X : Nat} (h : TreeAt w v T) (hA : Below w.heap.size w A) (hb : But N X A B) (hN : w.heap.size ≤ N) (hX : w.heap.size ≤ X) : TreeAt B v T :=
  by
    obtain ⟨a, cap, rfl, hc⟩ := h
    have key : ∀ {b o : Nat} {u : Value}, w.cell? ⟨b, o, none⟩ = some u → B.cell? ⟨b, o, none⟩ = some u := fun {b o u} hu => by
      have hlt : b < w.heap.size := below_of_cell hu
      rw [hb.cell (by omega) (by omega)]
      exact cell_below hA hu
    refine ⟨a, cap, rfl, fun h0 => ?_⟩
    obtain ⟨b, off, rfl, hd⟩ := hc h0
    refine ⟨b, off, rfl, fun n hn => ?_⟩
    obtain ⟨kv, av, g0, g1, g2, g3, g4, g5, g6, gk, ga⟩ := hd n hn
    refine ⟨kv, av, key g0, key g1, key g2, key g3, key g4, key g5, key g6, ?_, ?_⟩
    · obtain ⟨a, cap, rfl, hk⟩ := gk
      refine ⟨a, cap, rfl, fun h0 => ?_⟩
      obtain ⟨b, off, rfl, hd⟩ := hk h0
      exact ⟨b, off, rfl, fun j hj => key (hd j hj)⟩
    · obtain ⟨a, cap, rfl, hk⟩ := ga
      refine ⟨a, cap, rfl, fun h0 => ?_⟩
      obtain ⟨b, off, rfl, hd⟩ := hk h0
      exact ⟨b, off, rfl, fun j hj => ⟨key (hd j hj).1, key (hd j hj).2⟩⟩

/-- What the iterator reads, however the world has turned. -/
def Reads (R : World → World → Prop) (w2 : World) (v : Value) (T : List Nd) (n : Nat) (Bn Bt : Nat) : Prop :=
  ∀ W, R w2 W → TreeAt W v T ∧ W.cell? ⟨Bn, 0, none⟩ = some (.int .i64 (n : Int)) ∧ W.cell? ⟨Bt, 0, none⟩ = some v

set_option maxRecDepth 100000 in
set_option maxHeartbeats 2000000 in
theorem oup1_in (T : List Nd) (hm : mayB T = true) (v : Value) (n : Nat) (hn : n < T.length) (l Bn Bt : Nat) (w2 : World) (R : World → World → Prop) (hRt : ∀ {A B C : World}, R A B → R B C → R A C) (hF : Reads R w2 v T n Bn Bt)
    (hv : ∃ b off cap, v = .slice (some ⟨b, off, none⟩) T.length cap) (J Jx : List Nat → World → Prop)
    (hY : ∀ pre x W, J pre W → pre.length < T.length + 1 → YieldAt Fence.wide 4 Try.prog l #[.int .i64 ((x : Nat) : Int)] W fun e W' =>
      (e = .returned (.bool true) ∧ J (pre ++ [x]) W' ∧ R W W') ∨ (e = .returned (.bool false) ∧ Jx (pre ++ [x]) W'))
    (W : World) (hW : R w2 W) (h0 : J [] W) :
    CallsIn Fence.wide 5 Try.prog 110 #[.func (.yield l) #[] #[], .pointer (some ⟨Bn, 0, none⟩), .pointer (some ⟨Bt, 0, none⟩)] W fun e W' => (∃ v, e = .returned v) ∧
      ((∃ ys, ys = pars T n ∧ J ys W') ∨ (∃ pre, pre <+: pars T n ∧ Jx pre W')) := by
  obtain ⟨b, off, cap, rfl⟩ := hv
  have cBn := (hF W hW).2.1
  have HF : Hid (Reads R w2 (.slice (some ⟨b, off, none⟩) T.length cap) T n Bn Bt) := hF
  have HM : Hid (mayB T = true) := hm
  have hpos := mayB_pos hm
  clear hF hm
  refine callsIn_of_wp Try.func110 rfl trivial ?_ rfl
  simp only [Try.ntmps110, List.size_toArray, List.length_cons, List.length_nil, Nat.reduceAdd, Nat.reduceSub, Array.replicate_succ, Array.replicate_zero, List.push_toArray, List.append_toArray, List.nil_append, List.cons_append]
  gi_wp2
  gi_loopw [4] (fun t wr => ∃ pre : List Nat, J pre wr ∧ R w2 wr ∧ ((∃ at_ : Nat, at_ < T.length ∧ t = .int .i64 (at_ : Int) ∧ pars T n = pre ++ pars T at_) ∨ (t = .int .i64 (-1) ∧ pars T n = pre)))
    (fun t _ => if intOf t = -1 then 0 else (upsL T (intOf t).toNat).length + 1)
  case atStart => exact ⟨[], h0, hW, .inl ⟨n, hn, rfl, rfl⟩⟩
  case round =>
    obtain ⟨pre, hJs, hB, hrel⟩ := hrel
    rcases hrel with ⟨at_, hat, rfl, hpars⟩ | ⟨rfl, hpars⟩
    · have HP : Hid (pars T n = pre ++ pars T at_) := hpars
      clear hpars cBn
      have hat1 : ((at_ : Int) != -1) = true := by simp
      have hlenp : pre.length < T.length + 1 := by
        have h1 := pars_le T n
        have h2 := List.length_pos_iff.mpr (pars_ne T at_)
        rw [HP.out, List.length_append] at h1
        omega
      obtain ⟨fn, tmps, assign, body, hy, hR⟩ := hY pre at_ _ hJs hlenp
      gi_wp2
      refine hR.mono ?_
      rintro e W3 (⟨rfl, hJ3, hk3⟩ | ⟨rfl, hJx3⟩)
      · have hB3 := hRt hB hk3
        obtain ⟨hT3, _, cBt'⟩ := HF.out W3 hB3
        obtain ⟨b', off', cap', hv', hc⟩ := hT3.at (by omega)
        simp only [Value.slice.injEq, Option.some.injEq, Addr.mk.injEq, and_true, true_and] at hv'
        obtain ⟨⟨rfl, rfl⟩, rfl⟩ := hv'
        obtain ⟨kv, av, hN⟩ := hc at_ hat
        have g2 := hN.parent
        clear hN hc hT3
        rcases parent_cases (mayB_fine HM.out) hat with e | ⟨e, m, hml, hpm⟩
        · have hpe : (nd T at_).parent = -1 := by simpa using e
          rw [hpe] at g2
          have HQ := hideG (pars_none e)
          clear e hpe
          gi_wp2
          go_roundw
          case rel => exact ⟨pre ++ [at_], hJ3, hB3, .inr ⟨rfl, by rw [HP.out, HQ.out]⟩⟩
          case measure =>
            have h2 : ¬ ((at_ : Int) = -1) := by omega
            simp [intOf, h2]
        · rw [hpm] at g2
          have HQ := hideG (pars_some HM.out hat hpm)
          have HL := hideG (upsL_some HM.out hat (over_of_parent (mayB_fine HM.out) hat hpm)).1
          clear e hpm
          gi_wp2
          go_roundw
          case rel => exact ⟨pre ++ [at_], hJ3, hB3, .inl ⟨m, hml, rfl, by rw [HP.out, HQ.out]; simp⟩⟩
          case measure =>
            have h2 : ¬ ((at_ : Int) = -1) := by omega
            simp only [intOf, if_neg h2, Int.toNat_natCast, HL.out]
            simp
      · gi_wp2
        refine bodyPost_ret (results_none rfl _ _ _) rfl ?_
        refine ⟨⟨_, rfl⟩, .inr ⟨pre ++ [at_], ?_, hJx3⟩⟩
        rw [HP.out]
        have : ∃ r, pars T at_ = at_ :: r := by rw [pars, parsF]; exact ⟨_, rfl⟩
        obtain ⟨r, hr⟩ := this
        exact ⟨r, by rw [hr]; simp⟩
    · gi_wp2
      go_end0
      exact ⟨⟨_, rfl⟩, .inl ⟨pre, hpars.symm, hJs⟩⟩

theorem oup_stops (T : List Nd) (hm : mayB T = true) (v : Value) (n : Nat) (hn : n < T.length) (Bn Bt : Nat) (w2 : World) (R : World → World → Prop) (hRt : ∀ {A B C : World}, R A B → R B C → R A C) (hR0 : ∀ W, Below w2.heap.size w2 W → R w2 W) (hF : Reads R w2 v T n Bn Bt)
    (hv : ∃ b off cap, v = .slice (some ⟨b, off, none⟩) T.length cap) :
    SeqStopsK Fence.wide 5 Try.prog 110 #[.pointer (some ⟨Bn, 0, none⟩), .pointer (some ⟨Bt, 0, none⟩)] (fun x : Nat => #[Value.int .i64 (x : Int)]) R (fun ys => ys = pars T n) (fun pre => pre <+: pars T n) (T.length + 1) w2 :=
  fun l J Jx W hW _ _ hY h0 => oup1_in T hm v n hn l Bn Bt w2 R hRt hF hv J Jx hY W (hR0 W hW) h0
end Go.Proofs.Ytoolkpjbbngdpaa
