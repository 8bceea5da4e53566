/- live of package limelightlaw02: it returns true. -/
import Derived.Test.YtbfomnkapnlgeaaDrop
import Derived.Test.YtbfomnkapnlgeaaIndex
namespace Go.Proofs.Ytbfomnkapnlgeaa
open Go.RowKit

def lt0 : List Nd := [⟨0, 0, -1, [1], -1, -1, []⟩, ⟨1, 0, 0, [], -1, -1, []⟩]
def lt1 : List Nd := [⟨0, 0, -1, [1], -1, -1, []⟩, ⟨1, 0, 0, [], -1, -1, [(6, 2)]⟩]
def lt2 : List Nd := [⟨0, 0, -1, [1], -1, -1, []⟩, ⟨1, 0, 0, [], -1, -1, [(0, -1), (6, 2)]⟩]
def lt3 : List Nd := [⟨0, 0, -1, [1], -1, -1, []⟩, ⟨1, 0, 0, [], -1, -1, [(0, -1)]⟩]

theorem small_two {A B : Nd} (h : (A.kids.length ≤ 10 ∧ A.attrs.length ≤ 10) ∧ (B.kids.length ≤ 10 ∧ B.attrs.length ≤ 10)) : Sane [A, B] ∧ ∀ m, m < [A, B].length → (nd [A, B] m).attrs.length ≤ 900000 := by
  have key : ∀ n, n < 2 → (nd [A, B] n).kids.length ≤ 10 ∧ (nd [A, B] n).attrs.length ≤ 10 := fun n hn => by
    match n, hn with
    | 0, _ => exact h.1
    | 1, _ => exact h.2
  exact ⟨fun n hn => by have := key n hn; omega, fun n hn => by have := key n hn; omega⟩

theorem two_slice {w : World} {v : Value} {A B : Nd} (h : TreeAt w v [A, B]) : ∃ a c, v = .slice a 2 c := let ⟨a, c, h, _⟩ := h; ⟨a, c, h⟩

theorem lset (T T' : List Nd) (A' B' : Nd) (nm vl e : Int) (hT' : T' = [A', B']) (hs : Sane T ∧ ∀ m, m < T.length → (nd T m).attrs.length ≤ 900000) (he : setE T 1 (nm, vl) = e) (hr : setR T 1 (nm, vl) = T') (v : Value) (w : World) (h : TreeAt w v T) :
    Calls Try.prog 36 #[v, .int .i64 1, .agg #[.int .i64 nm, .int .i64 vl]] w fun x w' => ∃ a c, x = .returned (.tuple #[.slice a 2 c, .int .i64 e]) ∧ Below w.heap.size w w' ∧ TreeAt w' (.slice a 2 c) T' := by
  refine (set_any T hs.1 v 1 nm vl w h hs.2).mono ?_
  rintro x w' ⟨v', rfl, hb, ht⟩
  rw [hr] at ht
  subst hT'
  obtain ⟨a, c, rfl⟩ := two_slice ht
  exact ⟨a, c, by rw [he], hb, ht⟩
theorem ldrop (T T' : List Nd) (A' B' : Nd) (nm e : Int) (hT' : T' = [A', B']) (hs : Sane T ∧ ∀ m, m < T.length → (nd T m).attrs.length ≤ 900000) (he : dropE T 1 nm = e) (hr : dropR T 1 nm = T') (v : Value) (w : World) (h : TreeAt w v T) :
    Calls Try.prog 38 #[v, .int .i64 1, .int .i64 nm] w fun x w' => ∃ a c, x = .returned (.tuple #[.slice a 2 c, .int .i64 e]) ∧ Below w.heap.size w w' ∧ TreeAt w' (.slice a 2 c) T' := by
  refine (drop_any T hs.1 v 1 nm w h hs.2).mono ?_
  rintro x w' ⟨v', rfl, hb, ht⟩
  rw [hr] at ht
  subst hT'
  obtain ⟨a, c, rfl⟩ := two_slice ht
  exact ⟨a, c, by rw [he], hb, ht⟩
theorem lget (T : List Nd) (hs : Sane T ∧ ∀ m, m < T.length → (nd T m).attrs.length ≤ 900000) (nm q : Int) (b : Bool) (hg : getL T 1 nm = (q, b)) (v : Value) (w : World) (h : TreeAt w v T) :
    Calls Try.prog 34 #[v, .int .i64 1, .int .i64 nm] w fun x w' => x = .returned (.tuple #[.int .i64 q, .bool b]) ∧ Below w.heap.size w w' := by
  refine (get_any T hs.1 v 1 nm w h).mono ?_
  rintro x w' ⟨rfl, hb⟩
  exact ⟨by rw [hg], hb⟩
theorem lhas (T : List Nd) (hs : Sane T ∧ ∀ m, m < T.length → (nd T m).attrs.length ≤ 900000) (nm q : Int) (b : Bool) (hg : getL T 1 nm = (q, b)) (v : Value) (w : World) (h : TreeAt w v T) :
    Calls Try.prog 40 #[v, .int .i64 1, .int .i64 nm] w fun x w' => x = .returned (.bool b) ∧ Below w.heap.size w w' := by
  refine (has_any T hs.1 v 1 nm w h).mono ?_
  rintro x w' ⟨rfl, hb⟩
  exact ⟨by rw [hg], hb⟩
theorem lindex (s : ByteArray) (q : Int) (b : Bool) (hg : idx s.data.toList = (q, b)) (w : World) :
    Calls Try.prog 41 #[.string s] w fun x w' => x = .returned (.tuple #[.int .i64 q, .bool b]) ∧ Below w.heap.size w w' := by
  refine (index_any s w).mono ?_
  rintro x w' ⟨rfl, pos, rfl⟩
  exact ⟨by rw [hg], (Below.refl _ w).alloc (Nat.le_refl _) _⟩

theorem lsmall0 : Sane lt0 ∧ ∀ m, m < lt0.length → (nd lt0 m).attrs.length ≤ 900000 := small_two (A := ⟨0, 0, -1, [1], -1, -1, []⟩) (B := ⟨1, 0, 0, [], -1, -1, []⟩) (by decide)
theorem lsmall1 : Sane lt1 ∧ ∀ m, m < lt1.length → (nd lt1 m).attrs.length ≤ 900000 := small_two (A := ⟨0, 0, -1, [1], -1, -1, []⟩) (B := ⟨1, 0, 0, [], -1, -1, [(6, 2)]⟩) (by decide)
theorem lsmall2 : Sane lt2 ∧ ∀ m, m < lt2.length → (nd lt2 m).attrs.length ≤ 900000 := small_two (A := ⟨0, 0, -1, [1], -1, -1, []⟩) (B := ⟨1, 0, 0, [], -1, -1, [(0, -1), (6, 2)]⟩) (by decide)
theorem lsmall3 : Sane lt3 ∧ ∀ m, m < lt3.length → (nd lt3 m).attrs.length ≤ 900000 := small_two (A := ⟨0, 0, -1, [1], -1, -1, []⟩) (B := ⟨1, 0, 0, [], -1, -1, [(0, -1)]⟩) (by decide)

theorem ltree (w : World) : TreeAt ((w.alloc (.cells #[.int .i64 1] 3)).alloc
    (.cells #[.int .i64 0, .int .i64 0, .int .i64 (-1), .slice (some ⟨w.heap.size, 0, none⟩) 1 1, .int .i64 (-1), .int .i64 (-1), .slice none 0 0, .int .i64 1, .int .i64 0, .int .i64 0, .slice none 0 0, .int .i64 (-1), .int .i64 (-1), .slice none 0 0] 49))
    (.slice (some ⟨w.heap.size + 1, 0, none⟩) 2 2) lt0 := by
  refine ⟨_, 2, rfl, fun _ => ⟨w.heap.size + 1, 0, rfl, fun n hn => ?_⟩⟩
  match n, hn with
  | 0, _ =>
    refine ⟨.slice (some ⟨w.heap.size, 0, none⟩) 1 1, .slice none 0 0, ?_⟩
    constructor
    all_goals first | (simp [nd, lt0]; done) | skip
    · refine ⟨_, 1, rfl, fun _ => ⟨w.heap.size, 0, rfl, fun j hj => ?_⟩⟩
      have : j = 0 := by simp [nd, lt0] at hj; omega
      subst this
      simp [nd, lt0]
    · exact ⟨none, 0, rfl, fun h => by simp [nd, lt0] at h⟩
  | 1, _ =>
    refine ⟨.slice none 0 0, .slice none 0 0, ?_⟩
    constructor
    all_goals first | (simp [nd, lt0]; done) | skip
    · exact ⟨none, 0, rfl, fun h => by simp [nd, lt0] at h⟩
    · exact ⟨none, 0, rfl, fun h => by simp [nd, lt0] at h⟩

set_option maxRecDepth 100000 in
set_option maxHeartbeats 4000000 in
theorem live2_any (w : World) : Calls Try.prog 33 #[] w fun e w' => e = .returned (.bool true) ∧ Below w.heap.size w w' := by
  go_enter Try.func33, Try.ntmps33
  go_wp2_with fail
  have hb0 : Below w.heap.size w ((w.alloc (.cells #[.int .i64 1] 3)).alloc
    (.cells #[.int .i64 0, .int .i64 0, .int .i64 (-1), .slice (some ⟨w.heap.size, 0, none⟩) 1 1, .int .i64 (-1), .int .i64 (-1), .slice none 0 0, .int .i64 1, .int .i64 0, .int .i64 0, .slice none 0 0, .int .i64 (-1), .int .i64 (-1), .slice none 0 0] 49)) :=
    ((Below.refl _ w).alloc (Nat.le_refl _) _).alloc (by simp) _
  have ht0 := ltree w
  generalize ((w.alloc (.cells #[.int .i64 1] 3)).alloc
    (.cells #[.int .i64 0, .int .i64 0, .int .i64 (-1), .slice (some ⟨w.heap.size, 0, none⟩) 1 1, .int .i64 (-1), .int .i64 (-1), .slice none 0 0, .int .i64 1, .int .i64 0, .int .i64 0, .slice none 0 0, .int .i64 (-1), .int .i64 (-1), .slice none 0 0] 49)) = w0 at *
  refine (lset lt0 lt1 _ _ 6 2 0 rfl lsmall0 (by decide +kernel) (by decide +kernel) _ _ ht0).mono ?_
  rintro e w1 ⟨a1, c1, rfl, hb1, ht1⟩
  go_wp2_with fail
  refine (lset lt1 lt2 _ _ 0 (-1) 0 rfl lsmall1 (by decide +kernel) (by decide +kernel) _ _ ht1).mono ?_
  rintro e w2 ⟨a2, c2, rfl, hb2, ht2⟩
  go_wp2_with fail
  refine (lget lt2 lsmall2 0 (-1) true (by decide +kernel) _ _ ht2).mono ?_
  rintro e w3 ⟨rfl, hb3⟩
  go_wp2_with fail
  refine (ldrop lt2 lt3 _ _ 6 0 rfl lsmall2 (by decide +kernel) (by decide +kernel) _ _ (ht2.below hb3)).mono ?_
  rintro e w4 ⟨a4, c4, rfl, hb4, ht4⟩
  go_wp2_with fail
  have B01 := ht0.below (hb1.trans ((hb2.trans ((hb3.trans (hb4.mono hb3.size)).mono hb2.size)).mono hb1.size))
  refine (lset lt0 lt0 _ _ 7 0 7 rfl lsmall0 (by decide +kernel) (by decide +kernel) _ _ B01).mono ?_
  rintro e w5 ⟨a5, c5, rfl, hb5, ht5⟩
  go_wp2_with fail
  refine (lindex _ 12 true (by decide +kernel) _).mono ?_
  rintro e w6 ⟨rfl, hb6⟩
  go_wp2_with fail
  refine (lindex _ (-2147483648) true (by decide +kernel) _).mono ?_
  rintro e w7 ⟨rfl, hb7⟩
  go_wp2_with fail
  refine (lindex _ 0 false (by decide +kernel) _).mono ?_
  rintro e w8 ⟨rfl, hb8⟩
  go_wp2_with fail
  have B48 := ht4.below (hb5.trans ((hb6.trans ((hb7.trans (hb8.mono hb7.size)).mono hb6.size)).mono hb5.size))
  refine (lhas lt3 lsmall3 6 0 false (by decide +kernel) _ _ B48).mono ?_
  rintro e w9 ⟨rfl, hb9⟩
  go_wp2_with fail
  refine (lhas lt3 lsmall3 0 (-1) true (by decide +kernel) _ _ (B48.below hb9)).mono ?_
  rintro e w10 ⟨rfl, hb10⟩
  go_wp2_with fail
  go_ret
  refine ⟨rfl, ?_⟩
  have s0 := hb0.size
  have s1 := hb1.size
  have s2 := hb2.size
  have s3 := hb3.size
  have s4 := hb4.size
  have s5 := hb5.size
  have s6 := hb6.size
  have s7 := hb7.size
  have s8 := hb8.size
  have s9 := hb9.size
  exact (((((((((hb0.trans (hb1.mono (by omega))).trans (hb2.mono (by omega))).trans (hb3.mono (by omega))).trans (hb4.mono (by omega))).trans (hb5.mono (by omega))).trans (hb6.mono (by omega))).trans (hb7.mono (by omega))).trans (hb8.mono (by omega))).trans (hb9.mono (by omega))).trans (hb10.mono (by omega))
end Go.Proofs.Ytbfomnkapnlgeaa
