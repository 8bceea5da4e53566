/- live of package limelightlaw01: it returns true. -/
import Derived.Test.YtoolkpjbbngdpaaInsert
import Derived.Test.YtoolkpjbbngdpaaSame2
namespace Go.Proofs.Ytoolkpjbbngdpaa
open Go.RowKit

theorem nd_mem {T : List Nd} {n : Nat} (h : n < T.length) : nd T n ∈ T := by
  unfold nd
  rw [List.getD_eq_getElem?_getD, List.getElem?_eq_getElem h]
  exact List.getElem_mem h
def shortB (T : List Nd) : Bool := T.all fun x => decide (x.kids.length ≤ 1000) && decide (x.attrs.length ≤ 1000)
theorem sane_of {T : List Nd} (h : shortB T = true) : Sane T := fun n hn => by
  have := List.all_eq_true.mp h _ (nd_mem hn)
  simp only [Bool.and_eq_true, decide_eq_true_eq] at this
  omega

theorem lmake (T T' : List Nd) (L : Nat) (k t n e : Int) (hs : shortB T = true) (he : makeE T k t = e) (hn : makeN T k t = n) (hr : makeR T k t = T') (hL : T'.length = L) (v : Value) (w : World) (h : TreeAt w v T) :
    Calls Try.prog 21 #[v, .int .i64 k, .int .i64 t] w fun x w' => ∃ a c, x = .returned (.tuple #[.slice a L c, .int .i64 n, .int .i64 e]) ∧ Below w.heap.size w w' ∧ TreeAt w' (.slice a L c) T' := by
  refine (make_any T (sane_of hs) v k t w h).mono ?_
  rintro x w' ⟨v', rfl, hb, ht⟩
  rw [hr] at ht
  obtain ⟨a, c, rfl⟩ := ht.shape
  rw [hL] at ht
  exact ⟨a, c, by rw [he, hn, hL], hb, ht⟩
theorem lattach (T T' : List Nd) (L : Nat) (k n e : Int) (hs : shortB T = true) (he : attachE T k = e) (hn : attachN T k = n) (hr : attachR T k = T') (hL : T'.length = L) (v : Value) (w : World) (h : TreeAt w v T) :
    Calls Try.prog 23 #[v, .int .i64 k] w fun x w' => ∃ a c, x = .returned (.tuple #[.slice a L c, .int .i64 n, .int .i64 e]) ∧ Below w.heap.size w w' ∧ TreeAt w' (.slice a L c) T' := by
  refine (attach_any T (sane_of hs) v k w h).mono ?_
  rintro x w' ⟨v', rfl, hb, ht⟩
  rw [hr] at ht
  obtain ⟨a, c, rfl⟩ := ht.shape
  rw [hL] at ht
  exact ⟨a, c, by rw [he, hn, hL], hb, ht⟩
theorem linsert (T T' : List Nd) (L : Nat) (p c b e : Int) (hs : shortB T = true) (he : insertE T p c b = e) (hr : insertR T p c b = T') (hL : T'.length = L) (v : Value) (w : World) (h : TreeAt w v T) :
    Calls Try.prog 27 #[v, .agg #[.int .i64 p, .int .i64 c, .int .i64 b]] w fun x w' => ∃ a c, x = .returned (.tuple #[.slice a L c, .int .i64 e]) ∧ Below w.heap.size w w' ∧ TreeAt w' (.slice a L c) T' := by
  refine (insert_any T (sane_of hs) v p c b w h).mono ?_
  rintro x w' ⟨v', rfl, hb, ht⟩
  rw [hr] at ht
  obtain ⟨a, c, rfl⟩ := ht.shape
  rw [hL] at ht
  exact ⟨a, c, by rw [he, hL], hb, ht⟩
theorem lremove (T T' : List Nd) (L : Nat) (c e : Int) (hs : shortB T = true) (he : removeE T c = e) (hr : removeR T c = T') (hL : T'.length = L) (v : Value) (w : World) (h : TreeAt w v T) :
    Calls Try.prog 30 #[v, .int .i64 c] w fun x w' => ∃ a c, x = .returned (.tuple #[.slice a L c, .int .i64 e]) ∧ Below w.heap.size w w' ∧ TreeAt w' (.slice a L c) T' := by
  refine (remove_any T (sane_of hs) v c w h).mono ?_
  rintro x w' ⟨v', rfl, hb, ht⟩
  rw [hr] at ht
  obtain ⟨a, c, rfl⟩ := ht.shape
  rw [hL] at ht
  exact ⟨a, c, by rw [he, hL], hb, ht⟩
theorem lcheck (T : List Nd) (e : Int) (hs : shortB T = true) (he : checkE T = e) (v : Value) (w : World) (h : TreeAt w v T) :
    Calls Try.prog 35 #[v] w fun x w' => x = .returned (.int .i64 e) ∧ Below w.heap.size w w' := by
  refine (check_any T (sane_of hs) v w h).mono ?_
  rintro x w' ⟨rfl, hb⟩
  exact ⟨by rw [he], hb⟩

set_option maxRecDepth 100000 in
set_option maxHeartbeats 1000000 in
theorem new_any (w : World) : Calls Try.prog 32 #[] w fun e w' => ∃ a c, e = .returned (.slice a 1 c) ∧ Below w.heap.size w w' ∧ TreeAt w' (.slice a 1 c) [lonex 0 0] := by
  go_enter Try.func32, Try.ntmps32
  go_wp2_with (go_at_call 70; refine (lone_any _ _ _).mono ?_; rintro e w1 ⟨rfl, hb1⟩)
  go_ret
  refine ⟨_, _, rfl, hb1.alloc hb1.size _, ?_⟩
  refine ⟨_, _, rfl, fun _ => ⟨w1.heap.size, 0, rfl, fun n hn => ?_⟩⟩
  have : n = 0 := by simp at hn; omega
  subst this
  refine ⟨.slice none 0 0, .slice none 0 0, ?_⟩
  constructor
  all_goals first | (simp [nd, lonex]; done) | skip
  · exact ⟨none, 0, rfl, fun h => by simp [nd, lonex] at h⟩
  · exact ⟨none, 0, rfl, fun h => by simp [nd, lonex] at h⟩

def la0 : List Nd := [⟨0, 0, -1, [], -1, -1, []⟩]
def la1 : List Nd := [⟨0, 0, -1, [], -1, -1, []⟩, ⟨1, 1, -1, [], -1, -1, []⟩]
def la2 : List Nd := [⟨0, 0, -1, [], -1, -1, []⟩, ⟨1, 1, -1, [], -1, -1, []⟩, ⟨2, 0, -1, [], -1, -1, []⟩]
def la3 : List Nd := [⟨0, 0, -1, [1], -1, -1, []⟩, ⟨1, 1, 0, [], -1, -1, []⟩, ⟨2, 0, -1, [], -1, -1, []⟩]
def la4 : List Nd := [⟨0, 0, -1, [2, 1], -1, -1, []⟩, ⟨1, 1, 0, [], -1, -1, []⟩, ⟨2, 0, 0, [], -1, -1, []⟩]
def la5 : List Nd := [⟨0, 0, -1, [2, 1], -1, -1, []⟩, ⟨1, 1, 0, [], -1, 3, []⟩, ⟨2, 0, 0, [], -1, -1, []⟩, ⟨3, 0, -1, [], 1, -1, []⟩]
def la7 : List Nd := [⟨0, 0, -1, [1], -1, -1, []⟩, ⟨1, 1, 0, [], -1, 3, []⟩, ⟨2, 0, -1, [], -1, -1, []⟩, ⟨3, 0, -1, [], 1, -1, []⟩]

/-- What live reads of its two last trees. -/
theorem la5_cells {w : World} {a : Option Addr} {c : Nat} (h : TreeAt w (.slice a 4 c) la5) : ∃ b off ka kc, a = some ⟨b, off, none⟩ ∧ w.cell? ⟨b, off + 3, none⟩ = some (.slice ka 2 kc) ∧ IntsAt w (.slice ka 2 kc) [2, 1] ∧ w.cell? ⟨b, off + 7 + 5, none⟩ = some (.int .i64 3) ∧ w.cell? ⟨b, off + 21 + 4, none⟩ = some (.int .i64 1) := by
  obtain ⟨a', c', hv, hc⟩ := h
  simp only [Value.slice.injEq] at hv
  obtain ⟨rfl, _, rfl⟩ := hv
  obtain ⟨b, off, rfl, hn⟩ := hc (by decide)
  obtain ⟨k0, a0, h0⟩ := hn 0 (by decide)
  obtain ⟨k1, a1, h1⟩ := hn 1 (by decide)
  obtain ⟨k3, a3, h3⟩ := hn 3 (by decide)
  obtain ⟨ka, kc, rfl⟩ := h0.kids.shape
  exact ⟨b, off, ka, kc, rfl, h0.kidsc, h0.kids, h1.root, h3.host⟩
theorem la7_cells {w : World} {a : Option Addr} {c : Nat} (h : TreeAt w (.slice a 4 c) la7) : ∃ b off ka kc, a = some ⟨b, off, none⟩ ∧ w.cell? ⟨b, off + 3, none⟩ = some (.slice ka 1 kc) ∧ IntsAt w (.slice ka 1 kc) [1] ∧ w.cell? ⟨b, off + 14 + 2, none⟩ = some (.int .i64 (-1)) := by
  obtain ⟨a', c', hv, hc⟩ := h
  simp only [Value.slice.injEq] at hv
  obtain ⟨rfl, _, rfl⟩ := hv
  obtain ⟨b, off, rfl, hn⟩ := hc (by decide)
  obtain ⟨k0, a0, h0⟩ := hn 0 (by decide)
  obtain ⟨k2, a2, h2⟩ := hn 2 (by decide)
  obtain ⟨ka, kc, rfl⟩ := h0.kids.shape
  exact ⟨b, off, ka, kc, rfl, h0.kidsc, h0.kids, h2.parent⟩
theorem ints_new2 (w : World) (x y : Int) : IntsAt (w.alloc (.cells #[.int .i64 x, .int .i64 y] 3)) (.slice (some ⟨w.heap.size, 0, none⟩) 2 2) [x, y] := by
  refine ⟨_, 2, rfl, fun _ => ⟨w.heap.size, 0, rfl, fun j hj => ?_⟩⟩
  match j, hj with
  | 0, _ => simp
  | 1, _ => simp
theorem ints_new1 (w : World) (x : Int) : IntsAt (w.alloc (.cells #[.int .i64 x] 3)) (.slice (some ⟨w.heap.size, 0, none⟩) 1 1) [x] := by
  refine ⟨_, 1, rfl, fun _ => ⟨w.heap.size, 0, rfl, fun j hj => ?_⟩⟩
  match j, hj with
  | 0, _ => simp
theorem lints (l m : List Int) (b : Bool) (hl : l.length ≤ 1000) (hb : decide (l = m) = b) (v u : Value) (w : World) (h1 : IntsAt w v l) (h2 : IntsAt w u m) :
    Calls Try.prog 46 #[v, u] w fun e w' => e = .returned (.bool b) ∧ Below w.heap.size w w' := by
  rw [← hb]; exact refInts_any l m v u w h1 h2 (by omega)

set_option maxRecDepth 100000 in
set_option maxHeartbeats 4000000 in
theorem live1_any (w : World) : Calls Try.prog 20 #[] w fun e w' => e = .returned (.bool true) ∧ Below w.heap.size w w' := by
  go_enter Try.func20, Try.ntmps20
  go_wp2_with fail
  refine (new_any _).mono ?_
  rintro e w0 ⟨a0, c0, rfl, hb0, ht0⟩
  go_wp2_with fail
  refine (lmake la0 la1 2 1 1 1 0 (by decide) (by decide +kernel) (by decide +kernel) (by decide +kernel) rfl _ _ ht0).mono ?_
  rintro e w1 ⟨a1, c1, rfl, hb1, ht1⟩
  go_wp2_with fail
  refine (lmake la1 la2 3 2 0 2 0 (by decide) (by decide +kernel) (by decide +kernel) (by decide +kernel) rfl _ _ ht1).mono ?_
  rintro e w2 ⟨a2, c2, rfl, hb2, ht2⟩
  go_wp2_with fail
  refine (linsert la2 la3 3 0 1 (-1) 0 (by decide) (by decide +kernel) (by decide +kernel) rfl _ _ ht2).mono ?_
  rintro e w3 ⟨a3, c3, rfl, hb3, ht3⟩
  go_wp2_with fail
  refine (linsert la3 la4 3 0 2 1 0 (by decide) (by decide +kernel) (by decide +kernel) rfl _ _ ht3).mono ?_
  rintro e w4 ⟨a4, c4, rfl, hb4, ht4⟩
  go_wp2_with fail
  refine (lattach la4 la5 4 1 3 0 (by decide) (by decide +kernel) (by decide +kernel) (by decide +kernel) rfl _ _ ht4).mono ?_
  rintro e w5 ⟨a5, c5, rfl, hb5, ht5⟩
  go_wp2_with fail
  refine (linsert la5 la5 4 3 1 (-1) 5 (by decide) (by decide +kernel) (by decide +kernel) rfl _ _ ht5).mono ?_
  rintro e w6 ⟨a6, c6, rfl, hb6, ht6⟩
  go_wp2_with fail
  refine (lremove la5 la7 4 2 0 (by decide) (by decide +kernel) (by decide +kernel) rfl _ _ (ht5.below hb6)).mono ?_
  rintro e w7 ⟨a7, c7, rfl, hb7, ht7⟩
  have hU := ht5.below (hb6.trans (hb7.mono hb6.size))
  have HV := hideG ht7
  have hB7 : Below w.heap.size w w7 := by
    have s0 := hb0.size
    have s1 := hb1.size
    have s2 := hb2.size
    have s3 := hb3.size
    have s4 := hb4.size
    have s5 := hb5.size
    have s6 := hb6.size
    exact (((((((hb0.trans (hb1.mono (by omega))).trans (hb2.mono (by omega))).trans (hb3.mono (by omega))).trans (hb4.mono (by omega))).trans (hb5.mono (by omega))).trans (hb6.mono (by omega))).trans (hb7.mono (by omega)))
  clear hb0 hb1 hb2 hb3 hb4 hb5 hb6 hb7 ht0 ht1 ht2 ht3 ht4 ht5 ht6
  obtain ⟨bu, ou, ku, kcu, rfl, u0, iu, u1, u3⟩ := la5_cells hU
  obtain ⟨bv, ov, kw, kcw, rfl, v0, iv, v2⟩ := la7_cells ht7
  have hbu : bu < w7.heap.size := below_of_cell u0
  have hbv : bv < w7.heap.size := below_of_cell v0
  have HIU := hideG iu
  have HIV := hideG iv
  clear hU ht7 iu iv
  go_wp2_with fail
  refine (lints [2, 1] [2, 1] true (by decide) (by decide) _ _ _ (HIU.out.below ((Below.refl _ _).alloc (Nat.le_refl _) _)) (ints_new2 _ _ _)).mono ?_
  rintro e w8 ⟨rfl, hb8⟩
  have hB8 : Below w7.heap.size w7 w8 := ((Below.refl _ w7).alloc (Nat.le_refl _) _).trans (hb8.mono (by simp))
  have u1' := (hB8.cell (p := ⟨bu, ou + 7 + 5, none⟩) hbu).trans u1
  have u3' := (hB8.cell (p := ⟨bu, ou + 21 + 4, none⟩) hbu).trans u3
  have v0' := (hB8.cell (p := ⟨bv, ov + 3, none⟩) hbv).trans v0
  have v2' := (hB8.cell (p := ⟨bv, ov + 14 + 2, none⟩) hbv).trans v2
  have s8 := hB8.size
  have hbv8 : bv < w8.heap.size := by omega
  clear hb8 u0 u1 u3 v0 v2
  have HB8 := hideG hB8
  clear hB8
  go_wp2_with fail
  refine (lints [1] [1] true (by decide) (by decide) _ _ _ (HIV.out.below (HB8.out.alloc s8 _)) (ints_new1 _ _)).mono ?_
  rintro e w9 ⟨rfl, hb9⟩
  have hB9 : Below w8.heap.size w8 w9 := ((Below.refl _ w8).alloc (Nat.le_refl _) _).trans (hb9.mono (by simp))
  have v2'' := (hB9.cell (p := ⟨bv, ov + 14 + 2, none⟩) hbv8).trans v2'
  have HB9 := hideG (HB8.out.trans (hB9.mono s8))
  clear hb9 hB9 v2' v0' u1' u3'
  go_wp2_with fail
  refine (lcheck la7 0 (by decide) (by decide +kernel) _ _ (HV.out.below HB9.out)).mono ?_
  rintro e w10 ⟨rfl, hb10⟩
  have HB10 := hideG (HB9.out.trans (hb10.mono HB9.out.size))
  clear hb10 v2''
  go_wp2_with fail
  refine (lcheck [] 1 (by decide) (by decide +kernel) _ _ (treeAt_nil _)).mono ?_
  rintro e w11 ⟨rfl, hb11⟩
  have HB11 := hideG (HB10.out.trans (hb11.mono HB10.out.size))
  clear hb11
  go_wp2_with fail
  go_ret
  exact ⟨rfl, hB7.trans (HB11.out.mono hB7.size)⟩
end Go.Proofs.Ytoolkpjbbngdpaa
