/- AttrBack. -/
import Derived.Deep.RegionWith
import Derived.Test.YtbfomnkapnlgeaaOpen
import Derived.Test.YtbfomnkapnlgeaaBackMath
import Derived.Test.YtbfomnkapnlgeaaSame2
import Derived.Test.YtbfomnkapnlgeaaLive2
namespace Go.Proofs.Ytbfomnkapnlgeaa
open Go.RowKit

theorem sane_of_small {T : List Nd} (h : smallB T = true) : Sane T := fun n hn => by have := (smallB_at h).2 n hn; omega

theorem after {p : Program} {f : FuncId} {args : Array Value} {w w2 : World} {v : Value} (hb : Below w.heap.size w w2) (h : Calls p f args w2 fun e w' => e = .returned v ∧ Below w2.heap.size w2 w') :
    Calls p f args w2 fun e w' => e = .returned v ∧ Below w.heap.size w w' := h.mono fun _ _ ⟨he, h'⟩ => ⟨he, hb.trans (h'.mono hb.size)⟩

theorem dec_nil (T : List Nd) : decide (T = []) = ((T.length : Int) == 0) := by
  cases T with
  | nil => rfl
  | cons a l =>
    have : ¬ ((l.length : Int) + 1 = 0) := by omega
    simp [this]

set_option maxRecDepth 100000 in
set_option maxHeartbeats 4000000 in
theorem back_bad (T : List Nd) (v : Value) (n nm vl : Int) (W : World) (hT : TreeAt W v T) (hs : smallB T = false) :
    Calls Try.prog 11 #[v, .int .i64 n, .agg #[.int .i64 nm, .int .i64 vl]] W fun e w' => e = .returned (.bool true) ∧ Below W.heap.size W w' := by
  have HT := hideG hT
  obtain ⟨a, cap, rfl⟩ := hT.shape
  clear hT
  have hb0 : ∀ o, Below W.heap.size W (W.alloc o) := fun o => (Below.refl _ W).alloc (Nat.le_refl _) o
  have HB := hideG hb0
  clear hb0
  go_enter Try.func11, Try.ntmps11
  go_wp2_with (first | (go_at_call 15; refine (refSmall_any T _ _ (HT.out.below (HB.out _))).mono ?_; rw [hs]; rintro e w1 ⟨rfl, rfl⟩) | (go_at_call 33; refine (after (HB.out _) (live2_any _)).mono ?_; rintro e w2 ⟨rfl, hb2⟩))
  go_ret
  exact ⟨rfl, hb2⟩

set_option maxRecDepth 100000 in
set_option maxHeartbeats 4000000 in
theorem back_err (T : List Nd) (v : Value) (n nm vl : Int) (W : World) (hT : TreeAt W v T) (hs : smallB T = true) (he : setE T n (nm, vl) ≠ 0) :
    Calls Try.prog 11 #[v, .int .i64 n, .agg #[.int .i64 nm, .int .i64 vl]] W fun e w' => e = .returned (.bool true) ∧ Below W.heap.size W w' := by
  have hS := sane_of_small hs
  have hal : ∀ m, m < T.length → (nd T m).attrs.length ≤ 900000 := fun m hm => by have := (smallB_at hs).2 m hm; omega
  have h6 : T.length ≤ 1000000 := by have := (smallB_at hs).1; omega
  have hSR : Sane (setR T n (nm, vl)) := by
    rw [setR]
    split
    · intro m hm; simp at hm
    · rw [if_neg (by simpa using he)]; exact hS
  have hLR : (setR T n (nm, vl)).length ≤ 1000000 := by
    rw [setR]
    split
    · simp
    · rw [if_neg (by simpa using he)]; exact h6
  have hb0 : ∀ o, Below W.heap.size W (W.alloc o) := fun o => (Below.refl _ W).alloc (Nat.le_refl _) o
  have HSET : Hid (∀ w2, Below W.heap.size W w2 → Calls Try.prog 36 #[v, .int .i64 n, .agg #[.int .i64 nm, .int .i64 vl]] w2 fun e w' => ∃ a' c', e = .returned (.tuple #[.slice a' (setR T n (nm, vl)).length c', .int .i64 (setE T n (nm, vl))]) ∧ Below W.heap.size W w' ∧ TreeAt w' (.slice a' (setR T n (nm, vl)).length c') (setR T n (nm, vl))) := fun w2 hb => by
    refine (set_any T hS v n nm vl w2 (hT.below hb) hal).mono ?_
    rintro e w' ⟨v', rfl, hb', ht'⟩
    obtain ⟨a', c', rfl⟩ := ht'.shape
    exact ⟨a', c', rfl, hb.trans (hb'.mono hb.size), ht'⟩
  have HSAME : Hid (∀ w2 v', Below W.heap.size W w2 → TreeAt w2 v' (setR T n (nm, vl)) → Calls Try.prog 21 #[v', v] w2 fun e w' => e = .returned (.bool (decide (setR T n (nm, vl) = T))) ∧ Below W.heap.size W w') := fun w2 v' hb ht => after hb (refSame_any _ _ hSR v' v w2 ht (hT.below hb) hLR)
  have HB := hideG hb0
  have HT := hideG hT
  obtain ⟨a, cap, rfl⟩ := hT.shape
  have HM := hideG (back_fault he)
  have hne : (setE T n (nm, vl) != 0) = true := by simpa using he
  clear hT hb0 hSR hLR hS hal
  generalize setE T n (nm, vl) = E at *
  generalize hUU : setR T n (nm, vl) = U at *
  clear hUU
  cases hE1 : (E != 1)
  · go_enter Try.func11, Try.ntmps11
    go_wp2_with (first | (go_at_call 15; refine (refSmall_any T _ _ (HT.out.below (HB.out _))).mono ?_; rw [hs]; rintro e w1 ⟨rfl, rfl⟩) | (go_at_call 36; refine (HSET.out _ (HB.out _)).mono ?_; rintro e w2 ⟨a', c', rfl, hb2, ht2⟩; have HT2 := hideG ht2; clear ht2) | (go_at_call 21; refine (HSAME.out _ _ hb2 HT2.out).mono ?_; rw [HM.out, hE1]; rintro e w3 ⟨rfl, hb3⟩) | (go_at_call 33; refine (after hb3 (live2_any _)).mono ?_; rintro e w4 ⟨rfl, hb4⟩))
    all_goals (try (go_ret; exact ⟨rfl, hb4⟩))
    all_goals (rename_i hx; exact absurd (dec_nil T) hx)
  · go_enter Try.func11, Try.ntmps11
    go_wp2_with (first | (go_at_call 15; refine (refSmall_any T _ _ (HT.out.below (HB.out _))).mono ?_; rw [hs]; rintro e w1 ⟨rfl, rfl⟩) | (go_at_call 36; refine (HSET.out _ (HB.out _)).mono ?_; rintro e w2 ⟨a', c', rfl, hb2, ht2⟩; have HT2 := hideG ht2; clear ht2) | (go_at_call 21; refine (HSAME.out _ _ hb2 HT2.out).mono ?_; rw [HM.out, hE1]; rintro e w3 ⟨rfl, hb3⟩) | (go_at_call 33; refine (after hb3 (live2_any _)).mono ?_; rintro e w4 ⟨rfl, hb4⟩))
    all_goals (try (go_ret; exact ⟨rfl, hb4⟩))

structure BackInv (W w : World) (v' : Value) (U : List Nd) (nm vl : Int) : Prop where
  below : Below W.heap.size W w
  box0 : w.cell? ⟨W.heap.size, 0, none⟩ = some (.int .i64 nm)
  box1 : w.cell? ⟨W.heap.size, 1, none⟩ = some (.int .i64 vl)
  tree : TreeAt w v' U
theorem BackInv.step {W w w' : World} {v' : Value} {U : List Nd} {nm vl : Int} (h : BackInv W w v' U nm vl) (hb : Below w.heap.size w w') : BackInv W w' v' U nm vl :=
  ⟨h.below.trans (hb.mono h.below.size), cell_below hb h.box0, cell_below hb h.box1, h.tree.below hb⟩

set_option maxRecDepth 100000 in
set_option maxHeartbeats 8000000 in
theorem back_main (T : List Nd) (v : Value) (n nm vl : Int) (W : World) (hT : TreeAt W v T) (hs : smallB T = true) (he : setE T n (nm, vl) = 0) :
    Calls Try.prog 11 #[v, .int .i64 n, .agg #[.int .i64 nm, .int .i64 vl]] W fun e w' => e = .returned (.bool true) ∧ Below W.heap.size W w' := by
  have hS := sane_of_small hs
  have hal : ∀ m, m < T.length → (nd T m).attrs.length ≤ 900000 := fun m hm => by have := (smallB_at hs).2 m hm; omega
  have h6 : T.length ≤ 1000000 := by have := (smallB_at hs).1; omega
  obtain ⟨U, X, hU, hX, hdE, hgU, hgne, hmU, hmX, hgX, hlen, hmT, k, rfl, hk, hUe, hXe⟩ := back_math he
  have hSU : Sane U := by rw [hUe]; exact sane_withAttrs hS hk (by have := putL_length (nd T k).attrs (nm, vl); have := hal k hk; omega)
  have haU : ∀ m, m < U.length → (nd U m).attrs.length ≤ 900000 := fun m hm => by
    rw [hlen] at hm
    rw [hUe, nd_withAttrs _ _ _ hk]
    have h20 := ((smallB_at hs).2 k hk).2
    split
    · have := putL_length (nd T k).attrs (nm, vl); simp only; omega
    · exact hal m hm
  have hSX : Sane X := by
    rw [hXe]
    refine sane_withAttrs hSU (by omega) ?_
    have h1 := dropL_length (putL (nd T k).attrs (nm, vl)) (searchL nm (putL (nd T k).attrs (nm, vl))).1
    have h2 := putL_length (nd T k).attrs (nm, vl)
    have h20 := ((smallB_at hs).2 k hk).2
    rw [lostL]
    omega
  have hb0 : ∀ o, Below W.heap.size W (W.alloc o) := fun o => (Below.refl _ W).alloc (Nat.le_refl _) o
  have HSET : Hid (Calls Try.prog 36 #[v, .int .i64 k, .agg #[.int .i64 nm, .int .i64 vl]] (W.alloc (.cells #[.int .i64 nm, .int .i64 vl] 54)) fun e w' => ∃ a' c', e = .returned (.tuple #[.slice a' T.length c', .int .i64 0]) ∧ Hid (BackInv W w' (.slice a' T.length c') U nm vl)) := by
    refine Calls.mono (set_any T hS v k nm vl _ (hT.below (hb0 (.cells #[.int .i64 nm, .int .i64 vl] 54))) hal) ?_
    rintro e w' ⟨v', rfl, hb', ht'⟩
    rw [hU] at ht'
    obtain ⟨a', c', rfl⟩ := ht'.shape
    rw [hlen] at ht' ⊢
    rw [he]
    exact ⟨a', c', rfl, (hb0 (.cells #[.int .i64 nm, .int .i64 vl] 54)).trans (hb'.mono (by simp)), cell_below hb' (by simp), cell_below hb' (by simp), ht'⟩
  have HGT : Hid (∀ w2 v' x, BackInv W w2 v' U nm vl → Calls Try.prog 34 #[v, .int .i64 k, .int .i64 x] w2 fun e w' => e = .returned (.tuple #[.int .i64 (getL T k x).1, .bool (getL T k x).2]) ∧ Hid (BackInv W w' v' U nm vl)) := fun w2 v' x hi => by
    refine Calls.mono (get_any T hS v k x w2 (hT.below hi.below)) ?_
    rintro e w' ⟨rfl, hb'⟩
    exact ⟨rfl, hi.step hb'⟩
  have HGU : Hid (∀ w2 v' x, BackInv W w2 v' U nm vl → Calls Try.prog 34 #[v', .int .i64 k, .int .i64 x] w2 fun e w' => e = .returned (.tuple #[.int .i64 (getL U k x).1, .bool (getL U k x).2]) ∧ Hid (BackInv W w' v' U nm vl)) := fun w2 v' x hi => by
    refine Calls.mono (get_any U hSU v' k x w2 hi.tree) ?_
    rintro e w' ⟨rfl, hb'⟩
    exact ⟨rfl, hi.step hb'⟩
  have HDU : Hid (∀ w2 v', BackInv W w2 v' U nm vl → Calls Try.prog 38 #[v', .int .i64 k, .int .i64 nm] w2 fun e w' => ∃ a' c', e = .returned (.tuple #[.slice a' X.length c', .int .i64 0]) ∧ Hid (BackInv W w' v' U nm vl) ∧ Hid (TreeAt w' (.slice a' X.length c') X)) := fun w2 v' hi => by
    refine Calls.mono (drop_any U hSU v' k nm w2 hi.tree haU) ?_
    rintro e w' ⟨v3, rfl, hb', ht'⟩
    rw [hX] at ht'
    obtain ⟨a', c', rfl⟩ := ht'.shape
    rw [hdE]
    exact ⟨a', c', rfl, hi.step hb', ht'⟩
  have HMU : Hid (∀ w2 v' v3, BackInv W w2 v' U nm vl → TreeAt w2 v3 X → Calls Try.prog 29 #[v'] w2 fun e w' => e = .returned (.bool true) ∧ Hid (BackInv W w' v' U nm vl) ∧ Hid (TreeAt w' v3 X)) := fun w2 v' v3 hi ht => by
    have := refMay_any U hSU v' w2 hi.tree
    rw [refMay_of_may hmU] at this
    refine Calls.mono this ?_
    rintro e w' ⟨rfl, hb'⟩
    exact ⟨rfl, hi.step hb', ht.below hb'⟩
  have HHX : Hid (∀ w2 v' v3, BackInv W w2 v' U nm vl → TreeAt w2 v3 X → Calls Try.prog 40 #[v3, .int .i64 k, .int .i64 nm] w2 fun e w' => e = .returned (.bool false) ∧ Hid (BackInv W w' v' U nm vl) ∧ Hid (TreeAt w' v3 X)) := fun w2 v' v3 hi ht => by
    have := has_any X hSX v3 k nm w2 ht
    rw [hgX] at this
    refine Calls.mono this ?_
    rintro e w' ⟨rfl, hb'⟩
    exact ⟨rfl, hi.step hb', ht.below hb'⟩
  have HMX : Hid (∀ w2 v' v3, BackInv W w2 v' U nm vl → TreeAt w2 v3 X → Calls Try.prog 29 #[v3] w2 fun e w' => e = .returned (.bool true) ∧ Hid (BackInv W w' v' U nm vl)) := fun w2 v' v3 hi ht => by
    have := refMay_any X hSX v3 w2 ht
    rw [refMay_of_may hmX] at this
    refine Calls.mono this ?_
    rintro e w' ⟨rfl, hb'⟩
    exact ⟨rfl, hi.step hb'⟩
  have HG := hideG hgU
  have HNE := hideG hgne
  have HB := hideG hb0
  have HT := hideG hT
  obtain ⟨a, cap, rfl⟩ := hT.shape
  clear hT hb0 hS hal hSU haU hSX hU hX hdE hgU hgne hmU hmX hgX hmT hUe hXe he hlen
  go_enter Try.func11, Try.ntmps11
  go_wp2_with (first | (go_at_call 15; refine (refSmall_any T _ _ (HT.out.below (HB.out _))).mono ?_; rw [hs]; rintro e w1 ⟨rfl, rfl⟩) | (go_at_call 36; refine Calls.mono HSET.out ?_; rintro e w2 ⟨a', c', rfl, HI2⟩; have p0 := HI2.out.box0; have p1 := HI2.out.box1) | (go_at_call 34; refine Calls.mono (HGU.out _ _ _ HI2.out) ?_; rw [HG.out]; rintro e w3 ⟨rfl, HI3⟩; have q0 := HI3.out.box0; have q1 := HI3.out.box1))
  go_loopw [11] (fun i wr => ∃ j : Nat, j ≤ 12 ∧ i = .int .i64 ((j : Int) - 1) ∧ Hid (BackInv W wr (.slice a' T.length c') U nm vl)) (fun i _ => 12 - (intOf i + 1).toNat)
  case atStart => exact ⟨0, by omega, rfl, HI3⟩
  case round =>
    obtain ⟨j, hj, rfl, HI4⟩ := hrel
    have r0 := HI4.out.box0
    have r1 := HI4.out.box1
    by_cases hlt : j ≤ 11
    · cases hx : (((j : Int) - 1) != nm)
      · go_wp2_with (first | (go_at_call_of 34 (Value.slice a T.length cap); refine Calls.mono (HGT.out _ _ _ HI4.out) ?_; rintro e w5 ⟨rfl, HI5⟩; have s0 := HI5.out.box0; have s1 := HI5.out.box1) | (go_at_call 34; refine Calls.mono (HGU.out _ _ _ HI5.out) ?_; rintro e w6 ⟨rfl, HI6⟩; have t0 := HI6.out.box0; have t1 := HI6.out.box1))
        go_roundw
        case rel => exact ⟨j + 1, by omega, by go_num, HI6⟩
        case measure => simp [intOf]; omega
      · have HE := hideG (HNE.out ((j : Int) - 1) (by simpa using hx))
        go_wp2_with (first | (go_at_call_of 34 (Value.slice a T.length cap); refine Calls.mono (HGT.out _ _ _ HI4.out) ?_; rintro e w5 ⟨rfl, HI5⟩; have s0 := HI5.out.box0; have s1 := HI5.out.box1) | (go_at_call 34; refine Calls.mono (HGU.out _ _ _ HI5.out) ?_; rw [HE.out]; rintro e w6 ⟨rfl, HI6⟩; have t0 := HI6.out.box0; have t1 := HI6.out.box1))
        go_roundw
        case rel => exact ⟨j + 1, by omega, by go_num, HI6⟩
        case measure => simp [intOf]; omega
    · go_wp2_with (first | (go_at_call 38; refine Calls.mono (HDU.out _ _ HI4.out) ?_; rintro e w5 ⟨a5, c5, rfl, HI5, HX5⟩; have s0 := HI5.out.box0; have s1 := HI5.out.box1) | (go_at_call_of 29 (Value.slice a' T.length c'); refine Calls.mono (HMU.out _ _ _ HI5.out HX5.out) ?_; rintro e w6 ⟨rfl, HI6, HX6⟩; have t0 := HI6.out.box0; have t1 := HI6.out.box1) | (go_at_call 40; refine Calls.mono (HHX.out _ _ _ HI6.out HX6.out) ?_; rintro e w7 ⟨rfl, HI7, HX7⟩) | (go_at_call 29; refine Calls.mono (HMX.out _ _ _ HI7.out HX7.out) ?_; rintro e w8 ⟨rfl, HI8⟩) | (go_at_call 33; refine Calls.mono (after HI8.out.below (live2_any _)) ?_; rintro e w9 ⟨rfl, hb9⟩))
      go_ret
      exact ⟨rfl, hb9⟩

theorem back_walk (T : List Nd) (v : Value) (n nm vl : Int) (W : World) (hT : TreeAt W v T) :
    Calls Try.prog 11 #[v, .int .i64 n, .agg #[.int .i64 nm, .int .i64 vl]] W fun e w' => e = .returned (.bool true) ∧ Below W.heap.size W w' := by
  cases hs : smallB T
  · exact back_bad T v n nm vl W hT hs
  · by_cases he : setE T n (nm, vl) = 0
    · exact back_main T v n nm vl W hT hs he
    · exact back_err T v n nm vl W hT hs he
end Go.Proofs.Ytbfomnkapnlgeaa
