/- shade.List; live of package limelightlaw04. -/
import Derived.Test.YtoolkpjbbngdpaaSList
namespace Go.Proofs.Ytoolkpjbbngdpaa
open Go.RowKit

def slI (T : List Nd) (n : Int) : List Int := if knownB T [n] then castL (sl T n.toNat) else []

set_option maxRecDepth 100000 in
set_option maxHeartbeats 1000000 in
theorem shadeList_any (T : List Nd) (hS : Sane T) (v : Value) (n : Int) (w : World) (hT : TreeAt w v T) (hlen : ∀ m : Nat, mayB T = true → m < T.length → (sl T m).length ≤ 1000) :
    Calls Try.prog 58 #[v, .int .i64 n] w fun e w' => ∃ a c, e = .returned (.slice a (slI T n).length c) ∧ w'.ownsRow w.heap.size 3 1 (.slice a (slI T n).length c) (slI T n).length (intCells (slI T n)) ∧ Below w.heap.size w w' := by
  have HS := hideG hS
  have HT := hideG hT
  cases hk : knownB T [n]
  · obtain ⟨ta, tc, rfl⟩ := hT.shape
    have HQ := hideG (show topI T n = -1 by simp [topI, hk])
    have hR : slI T n = [] := by simp [slI, hk]
    rw [hR]
    clear hT hS hk hR
    go_enter Try.func58, Try.ntmps58
    go_wp2_with (go_at_call 44; refine (orderTop_any T HS.out _ _ _ HT.out).mono ?_; rintro e w1 ⟨rfl, hb1⟩; rw [HQ.out])
    go_ret
    exact ⟨none, 0, rfl, World.ownsRow_nil _ _ _ _, hb1⟩
  · obtain ⟨hm, m, rfl, hml⟩ := known_one hk
    have hpos := mayB_pos hm
    obtain ⟨tb, to, tc, rfl, _⟩ := hT.at (by omega)
    have HQ := hideG (show topI T m = (topN T m : Int) by simp [topI, hk])
    have HR := hideG (show slI T m = castL (sl T m) by simp [slI, hk])
    have hne : ((topN T m : Int) == -1) = false := by simp
    have HM := hideG hm
    have hl := hlen m hm hml
    have hll : ([] : List Int).length + (sl T m).length ≤ 1000 := by simpa using hl
    clear hT hS hk hm hlen
    go_enter Try.func58, Try.ntmps58
    go_wp2_with (first | (go_at_call 44; refine (orderTop_any T HS.out _ _ _ HT.out).mono ?_; rintro e w1 ⟨rfl, hb1⟩; rw [HQ.out]; have HB1 := hideG hb1; clear hb1) | (go_at_call 90; refine (list_in T HM.out tb to tc w HT.out (T.length + 1) m hml (by omega) [] none 0 _ (World.ownsRow_nil _ _ _ _) HB1.out hll).mono ?_; rintro e w2 ⟨a2, c2, rfl, ho2, hb2⟩; rw [List.nil_append, ← HR.out] at ho2 ⊢))
    go_ret
    exact ⟨a2, c2, rfl, ho2, hb2⟩

def ls4 : List Nd := [⟨0, 0, -1, [1], -1, -1, []⟩, ⟨1, 0, 0, [4], -1, 2, []⟩, ⟨3, 0, -1, [3], 1, -1, []⟩, ⟨1, 0, 2, [], -1, -1, []⟩, ⟨1, 0, 1, [], -1, -1, []⟩, ⟨1, 0, -1, [], -1, -1, []⟩]

theorem ints_one {W : World} {b : Nat} {x : Int} (h : W.cell? ⟨b, 0, none⟩ = some (.int .i64 x)) : IntsAt W (.slice (some ⟨b, 0, none⟩) 1 1) [x] := by
  refine ⟨_, 1, rfl, fun _ => ⟨b, 0, rfl, fun j hj => ?_⟩⟩
  have : j = 0 := by simp at hj; omega
  subst this
  exact h
theorem ls4_tree (w : World) : TreeAt ((((w.alloc (.cells #[.int .i64 1] 3)).alloc (.cells #[.int .i64 4] 3)).alloc (.cells #[.int .i64 3] 3)).alloc (.cells #[.int .i64 0, .int .i64 0, .int .i64 (-1), .slice (some ⟨w.heap.size, 0, none⟩) 1 1, .int .i64 (-1), .int .i64 (-1), .slice none 0 0, .int .i64 1, .int .i64 0, .int .i64 0, .slice (some ⟨w.heap.size + 1, 0, none⟩) 1 1, .int .i64 (-1), .int .i64 2, .slice none 0 0, .int .i64 3, .int .i64 0, .int .i64 (-1), .slice (some ⟨w.heap.size + 1 + 1, 0, none⟩) 1 1, .int .i64 1, .int .i64 (-1), .slice none 0 0, .int .i64 1, .int .i64 0, .int .i64 2, .slice none 0 0, .int .i64 (-1), .int .i64 (-1), .slice none 0 0, .int .i64 1, .int .i64 0, .int .i64 1, .slice none 0 0, .int .i64 (-1), .int .i64 (-1), .slice none 0 0, .int .i64 1, .int .i64 0, .int .i64 (-1), .slice none 0 0, .int .i64 (-1), .int .i64 (-1), .slice none 0 0] 49)) (.slice (some ⟨w.heap.size + 1 + 1 + 1, 0, none⟩) 6 6) ls4 := by
  have hBs : (((w.alloc (.cells #[.int .i64 1] 3)).alloc (.cells #[.int .i64 4] 3)).alloc (.cells #[.int .i64 3] 3)).heap.size = w.heap.size + 1 + 1 + 1 := by simp
  have k0 : (((w.alloc (.cells #[.int .i64 1] 3)).alloc (.cells #[.int .i64 4] 3)).alloc (.cells #[.int .i64 3] 3)).cell? ⟨w.heap.size, 0, none⟩ = some (.int .i64 1) := cell_alloc_l _ (cell_alloc_l _ (cell_new_l w (.int .i64 1) 3).1)
  have k1 : (((w.alloc (.cells #[.int .i64 1] 3)).alloc (.cells #[.int .i64 4] 3)).alloc (.cells #[.int .i64 3] 3)).cell? ⟨w.heap.size + 1, 0, none⟩ = some (.int .i64 4) := by
    have := cell_alloc_l (.cells #[.int .i64 3] 3) (cell_new_l (w.alloc (.cells #[.int .i64 1] 3)) (.int .i64 4) 3).1
    simpa only [World.size_alloc] using this
  have k2 : (((w.alloc (.cells #[.int .i64 1] 3)).alloc (.cells #[.int .i64 4] 3)).alloc (.cells #[.int .i64 3] 3)).cell? ⟨w.heap.size + 1 + 1, 0, none⟩ = some (.int .i64 3) := by
    have := (cell_new_l ((w.alloc (.cells #[.int .i64 1] 3)).alloc (.cells #[.int .i64 4] 3)) (.int .i64 3) 3).1
    simpa only [World.size_alloc] using this
  generalize (((w.alloc (.cells #[.int .i64 1] 3)).alloc (.cells #[.int .i64 4] 3)).alloc (.cells #[.int .i64 3] 3)) = V at *
  have hc : ∀ (j : Nat) (u : Value), (show Array Value from #[.int .i64 0, .int .i64 0, .int .i64 (-1), .slice (some ⟨w.heap.size, 0, none⟩) 1 1, .int .i64 (-1), .int .i64 (-1), .slice none 0 0, .int .i64 1, .int .i64 0, .int .i64 0, .slice (some ⟨w.heap.size + 1, 0, none⟩) 1 1, .int .i64 (-1), .int .i64 2, .slice none 0 0, .int .i64 3, .int .i64 0, .int .i64 (-1), .slice (some ⟨w.heap.size + 1 + 1, 0, none⟩) 1 1, .int .i64 1, .int .i64 (-1), .slice none 0 0, .int .i64 1, .int .i64 0, .int .i64 2, .slice none 0 0, .int .i64 (-1), .int .i64 (-1), .slice none 0 0, .int .i64 1, .int .i64 0, .int .i64 1, .slice none 0 0, .int .i64 (-1), .int .i64 (-1), .slice none 0 0, .int .i64 1, .int .i64 0, .int .i64 (-1), .slice none 0 0, .int .i64 (-1), .int .i64 (-1), .slice none 0 0])[j]? = some u → (V.alloc (.cells #[.int .i64 0, .int .i64 0, .int .i64 (-1), .slice (some ⟨w.heap.size, 0, none⟩) 1 1, .int .i64 (-1), .int .i64 (-1), .slice none 0 0, .int .i64 1, .int .i64 0, .int .i64 0, .slice (some ⟨w.heap.size + 1, 0, none⟩) 1 1, .int .i64 (-1), .int .i64 2, .slice none 0 0, .int .i64 3, .int .i64 0, .int .i64 (-1), .slice (some ⟨w.heap.size + 1 + 1, 0, none⟩) 1 1, .int .i64 1, .int .i64 (-1), .slice none 0 0, .int .i64 1, .int .i64 0, .int .i64 2, .slice none 0 0, .int .i64 (-1), .int .i64 (-1), .slice none 0 0, .int .i64 1, .int .i64 0, .int .i64 1, .slice none 0 0, .int .i64 (-1), .int .i64 (-1), .slice none 0 0, .int .i64 1, .int .i64 0, .int .i64 (-1), .slice none 0 0, .int .i64 (-1), .int .i64 (-1), .slice none 0 0] 49)).cell? ⟨w.heap.size + 1 + 1 + 1, j, none⟩ = some u := fun j u hj => by
    rw [← hBs, World.cell?_alloc_at _ _ _ _ (by rfl)]
    exact hj
  have q0 := cell_alloc_l (.cells #[.int .i64 0, .int .i64 0, .int .i64 (-1), .slice (some ⟨w.heap.size, 0, none⟩) 1 1, .int .i64 (-1), .int .i64 (-1), .slice none 0 0, .int .i64 1, .int .i64 0, .int .i64 0, .slice (some ⟨w.heap.size + 1, 0, none⟩) 1 1, .int .i64 (-1), .int .i64 2, .slice none 0 0, .int .i64 3, .int .i64 0, .int .i64 (-1), .slice (some ⟨w.heap.size + 1 + 1, 0, none⟩) 1 1, .int .i64 1, .int .i64 (-1), .slice none 0 0, .int .i64 1, .int .i64 0, .int .i64 2, .slice none 0 0, .int .i64 (-1), .int .i64 (-1), .slice none 0 0, .int .i64 1, .int .i64 0, .int .i64 1, .slice none 0 0, .int .i64 (-1), .int .i64 (-1), .slice none 0 0, .int .i64 1, .int .i64 0, .int .i64 (-1), .slice none 0 0, .int .i64 (-1), .int .i64 (-1), .slice none 0 0] 49) k0
  have q1 := cell_alloc_l (.cells #[.int .i64 0, .int .i64 0, .int .i64 (-1), .slice (some ⟨w.heap.size, 0, none⟩) 1 1, .int .i64 (-1), .int .i64 (-1), .slice none 0 0, .int .i64 1, .int .i64 0, .int .i64 0, .slice (some ⟨w.heap.size + 1, 0, none⟩) 1 1, .int .i64 (-1), .int .i64 2, .slice none 0 0, .int .i64 3, .int .i64 0, .int .i64 (-1), .slice (some ⟨w.heap.size + 1 + 1, 0, none⟩) 1 1, .int .i64 1, .int .i64 (-1), .slice none 0 0, .int .i64 1, .int .i64 0, .int .i64 2, .slice none 0 0, .int .i64 (-1), .int .i64 (-1), .slice none 0 0, .int .i64 1, .int .i64 0, .int .i64 1, .slice none 0 0, .int .i64 (-1), .int .i64 (-1), .slice none 0 0, .int .i64 1, .int .i64 0, .int .i64 (-1), .slice none 0 0, .int .i64 (-1), .int .i64 (-1), .slice none 0 0] 49) k1
  have q2 := cell_alloc_l (.cells #[.int .i64 0, .int .i64 0, .int .i64 (-1), .slice (some ⟨w.heap.size, 0, none⟩) 1 1, .int .i64 (-1), .int .i64 (-1), .slice none 0 0, .int .i64 1, .int .i64 0, .int .i64 0, .slice (some ⟨w.heap.size + 1, 0, none⟩) 1 1, .int .i64 (-1), .int .i64 2, .slice none 0 0, .int .i64 3, .int .i64 0, .int .i64 (-1), .slice (some ⟨w.heap.size + 1 + 1, 0, none⟩) 1 1, .int .i64 1, .int .i64 (-1), .slice none 0 0, .int .i64 1, .int .i64 0, .int .i64 2, .slice none 0 0, .int .i64 (-1), .int .i64 (-1), .slice none 0 0, .int .i64 1, .int .i64 0, .int .i64 1, .slice none 0 0, .int .i64 (-1), .int .i64 (-1), .slice none 0 0, .int .i64 1, .int .i64 0, .int .i64 (-1), .slice none 0 0, .int .i64 (-1), .int .i64 (-1), .slice none 0 0] 49) k2
  generalize V.alloc (.cells #[.int .i64 0, .int .i64 0, .int .i64 (-1), .slice (some ⟨w.heap.size, 0, none⟩) 1 1, .int .i64 (-1), .int .i64 (-1), .slice none 0 0, .int .i64 1, .int .i64 0, .int .i64 0, .slice (some ⟨w.heap.size + 1, 0, none⟩) 1 1, .int .i64 (-1), .int .i64 2, .slice none 0 0, .int .i64 3, .int .i64 0, .int .i64 (-1), .slice (some ⟨w.heap.size + 1 + 1, 0, none⟩) 1 1, .int .i64 1, .int .i64 (-1), .slice none 0 0, .int .i64 1, .int .i64 0, .int .i64 2, .slice none 0 0, .int .i64 (-1), .int .i64 (-1), .slice none 0 0, .int .i64 1, .int .i64 0, .int .i64 1, .slice none 0 0, .int .i64 (-1), .int .i64 (-1), .slice none 0 0, .int .i64 1, .int .i64 0, .int .i64 (-1), .slice none 0 0, .int .i64 (-1), .int .i64 (-1), .slice none 0 0] 49) = U at *
  refine ⟨_, 6, rfl, fun _ => ⟨w.heap.size + 1 + 1 + 1, 0, rfl, fun n hn => ?_⟩⟩
  match n, hn with
  | 0, _ => exact ⟨.slice (some ⟨w.heap.size, 0, none⟩) 1 1, .slice none 0 0, hc 0 _ rfl, hc 1 _ rfl, hc 2 _ rfl, hc 3 _ rfl, hc 4 _ rfl, hc 5 _ rfl, hc 6 _ rfl, ints_one q0, ⟨none, 0, rfl, fun h => absurd h (by decide)⟩⟩
  | 1, _ => exact ⟨.slice (some ⟨w.heap.size + 1, 0, none⟩) 1 1, .slice none 0 0, hc 7 _ rfl, hc 8 _ rfl, hc 9 _ rfl, hc 10 _ rfl, hc 11 _ rfl, hc 12 _ rfl, hc 13 _ rfl, ints_one q1, ⟨none, 0, rfl, fun h => absurd h (by decide)⟩⟩
  | 2, _ => exact ⟨.slice (some ⟨w.heap.size + 1 + 1, 0, none⟩) 1 1, .slice none 0 0, hc 14 _ rfl, hc 15 _ rfl, hc 16 _ rfl, hc 17 _ rfl, hc 18 _ rfl, hc 19 _ rfl, hc 20 _ rfl, ints_one q2, ⟨none, 0, rfl, fun h => absurd h (by decide)⟩⟩
  | 3, _ => exact ⟨.slice none 0 0, .slice none 0 0, hc 21 _ rfl, hc 22 _ rfl, hc 23 _ rfl, hc 24 _ rfl, hc 25 _ rfl, hc 26 _ rfl, hc 27 _ rfl, ⟨none, 0, rfl, fun h => absurd h (by decide)⟩, ⟨none, 0, rfl, fun h => absurd h (by decide)⟩⟩
  | 4, _ => exact ⟨.slice none 0 0, .slice none 0 0, hc 28 _ rfl, hc 29 _ rfl, hc 30 _ rfl, hc 31 _ rfl, hc 32 _ rfl, hc 33 _ rfl, hc 34 _ rfl, ⟨none, 0, rfl, fun h => absurd h (by decide)⟩, ⟨none, 0, rfl, fun h => absurd h (by decide)⟩⟩
  | 5, _ => exact ⟨.slice none 0 0, .slice none 0 0, hc 35 _ rfl, hc 36 _ rfl, hc 37 _ rfl, hc 38 _ rfl, hc 39 _ rfl, hc 40 _ rfl, hc 41 _ rfl, ⟨none, 0, rfl, fun h => absurd h (by decide)⟩, ⟨none, 0, rfl, fun h => absurd h (by decide)⟩⟩

theorem lsUp (T : List Nd) (hs : shortB T = true) (n : Int) (L : Nat) (l : List Int) (hl : supI T n = l) (hL : l.length = L) (v : Value) (w : World) (h : TreeAt w v T) :
    Calls Try.prog 57 #[v, .int .i64 n] w fun x w' => ∃ a c, x = .returned (.slice a L c) ∧ IntsAt w' (.slice a L c) l ∧ Below w.heap.size w w' := by
  refine (shadeUp_any T (sane_of hs) v n w h).mono ?_
  rintro x w' ⟨a, c, rfl, ho, hb⟩
  have hi := ownsRow_ints ho
  rw [hl, hL] at hi
  exact ⟨a, c, by rw [hl, hL], hi, hb⟩
theorem lsList (T : List Nd) (hs : shortB T = true) (n : Int) (L : Nat) (l : List Int) (hl : slI T n = l) (hL : l.length = L) (hb : ∀ m, m < T.length → (sl T m).length ≤ 1000) (v : Value) (w : World) (h : TreeAt w v T) :
    Calls Try.prog 58 #[v, .int .i64 n] w fun x w' => ∃ a c, x = .returned (.slice a L c) ∧ IntsAt w' (.slice a L c) l ∧ Below w.heap.size w w' := by
  refine (shadeList_any T (sane_of hs) v n w h (fun m _ hm => hb m hm)).mono ?_
  rintro x w' ⟨a, c, rfl, ho, hb⟩
  have hi := ownsRow_ints ho
  rw [hl, hL] at hi
  exact ⟨a, c, by rw [hl, hL], hi, hb⟩
theorem lsAbove (T : List Nd) (hs : shortB T = true) (h6 : T.length ≤ 1000) (a b : Int) (r : Bool) (hr : aboveS T a b = r) (v : Value) (w : World) (h : TreeAt w v T) :
    Calls Try.prog 55 #[v, .int .i64 a, .int .i64 b] w fun x w' => x = .returned (.bool r) ∧ Below w.heap.size w w' := by
  rw [← hr]; exact shadeAbove_any T (sane_of hs) v a b w h h6
theorem lsConn (T : List Nd) (hs : shortB T = true) (h6 : T.length ≤ 1000) (b : Int) (r : Bool) (hr : aboveS T 0 b = r) (v : Value) (w : World) (h : TreeAt w v T) :
    Calls Try.prog 59 #[v, .int .i64 b] w fun x w' => x = .returned (.bool r) ∧ Below w.heap.size w w' := by
  rw [← hr]; exact shadeConnected_any T (sane_of hs) v b w h h6
theorem lsRet (T : List Nd) (hs : shortB T = true) (h6 : T.length ≤ 1000) (a b r : Int) (hr : retI T a b = r) (v : Value) (w : World) (h : TreeAt w v T) :
    Calls Try.prog 56 #[v, .int .i64 a, .int .i64 b] w fun x w' => x = .returned (.int .i64 r) ∧ Below w.heap.size w w' := by
  rw [← hr]; exact shadeRetarget_any T (sane_of hs) v a b w h h6
theorem lsHost (T : List Nd) (hs : shortB T = true) (b r : Int) (hr : hostS T b = r) (v : Value) (w : World) (h : TreeAt w v T) :
    Calls Try.prog 60 #[v, .int .i64 b] w fun x w' => x = .returned (.int .i64 r) ∧ Below w.heap.size w w' := by
  rw [← hr]; exact shadeHost_any T (sane_of hs) v b w h
theorem ints_new4 (w : World) (x y z u : Int) : IntsAt (w.alloc (.cells #[.int .i64 x, .int .i64 y, .int .i64 z, .int .i64 u] 3)) (.slice (some ⟨w.heap.size, 0, none⟩) 4 4) [x, y, z, u] := by
  refine ⟨_, 4, rfl, fun _ => ⟨w.heap.size, 0, rfl, fun j hj => ?_⟩⟩
  match j, hj with
  | 0, _ | 1, _ | 2, _ | 3, _ => simp
theorem ints_new5 (w : World) (x y z u t : Int) : IntsAt (w.alloc (.cells #[.int .i64 x, .int .i64 y, .int .i64 z, .int .i64 u, .int .i64 t] 3)) (.slice (some ⟨w.heap.size, 0, none⟩) 5 5) [x, y, z, u, t] := by
  refine ⟨_, 5, rfl, fun _ => ⟨w.heap.size, 0, rfl, fun j hj => ?_⟩⟩
  match j, hj with
  | 0, _ | 1, _ | 2, _ | 3, _ | 4, _ => simp

set_option maxRecDepth 100000 in
set_option maxHeartbeats 4000000 in
theorem live4_any (w : World) : Calls Try.prog 54 #[] w fun e w' => e = .returned (.bool true) ∧ Below w.heap.size w w' := by
  have hs : shortB ls4 = true := by decide
  have ht0 := ls4_tree w
  have hb0 : Below w.heap.size w ((((w.alloc (.cells #[.int .i64 1] 3)).alloc (.cells #[.int .i64 4] 3)).alloc (.cells #[.int .i64 3] 3)).alloc
    (.cells #[.int .i64 0, .int .i64 0, .int .i64 (-1), .slice (some ⟨w.heap.size, 0, none⟩) 1 1, .int .i64 (-1), .int .i64 (-1), .slice none 0 0, .int .i64 1, .int .i64 0, .int .i64 0, .slice (some ⟨w.heap.size + 1, 0, none⟩) 1 1, .int .i64 (-1), .int .i64 2, .slice none 0 0,
      .int .i64 3, .int .i64 0, .int .i64 (-1), .slice (some ⟨w.heap.size + 1 + 1, 0, none⟩) 1 1, .int .i64 1, .int .i64 (-1), .slice none 0 0, .int .i64 1, .int .i64 0, .int .i64 2, .slice none 0 0, .int .i64 (-1), .int .i64 (-1), .slice none 0 0,
      .int .i64 1, .int .i64 0, .int .i64 1, .slice none 0 0, .int .i64 (-1), .int .i64 (-1), .slice none 0 0, .int .i64 1, .int .i64 0, .int .i64 (-1), .slice none 0 0, .int .i64 (-1), .int .i64 (-1), .slice none 0 0] 49)) :=
    ((((Below.refl _ w).alloc (Nat.le_refl _) _).alloc (by simp) _).alloc (by simp; omega) _).alloc (by simp; omega) _
  have HT0 := hideG ht0
  have HB0 := hideG hb0
  clear ht0 hb0
  go_enter Try.func54, Try.ntmps54
  go_wp2_with fail
  refine (lsUp ls4 hs 3 4 [3, 2, 1, 0] (by decide +kernel) rfl _ _ HT0.out).mono ?_
  rintro e w1 ⟨a1, c1, rfl, hi1, hb1⟩
  have HT1 := hideG (HT0.out.below hb1)
  have HB1 := hideG (HB0.out.trans (hb1.mono HB0.out.size))
  have HI1 := hideG hi1
  clear hi1 hb1 HT0 HB0
  go_wp2_with fail
  refine (lints [3, 2, 1, 0] [3, 2, 1, 0] true (by decide) (by decide) _ _ _ (HI1.out.below ((Below.refl _ _).alloc (Nat.le_refl _) _)) (ints_new4 _ _ _ _ _)).mono ?_
  rintro e w2 ⟨rfl, hb2⟩
  have hx2 := ((Below.refl w1.heap.size w1).alloc (Nat.le_refl _) (.cells #[.int .i64 3, .int .i64 2, .int .i64 1, .int .i64 0] 3)).trans (hb2.mono (by simp))
  have HT2 := hideG (HT1.out.below hx2)
  have HB2 := hideG (HB1.out.trans (hx2.mono HB1.out.size))
  clear hb2 hx2
  go_wp2_with fail
  refine (lsList ls4 hs 0 5 [0, 1, 2, 3, 4] (by decide +kernel) rfl (by decide +kernel) _ _ HT2.out).mono ?_
  rintro e w3 ⟨a3, c3, rfl, hi3, hb3⟩
  have HT3 := hideG (HT2.out.below hb3)
  have HB3 := hideG (HB2.out.trans (hb3.mono HB2.out.size))
  have HI3 := hideG hi3
  clear hi3 hb3
  go_wp2_with fail
  refine (lints [0, 1, 2, 3, 4] [0, 1, 2, 3, 4] true (by decide) (by decide) _ _ _ (HI3.out.below ((Below.refl _ _).alloc (Nat.le_refl _) _)) (ints_new5 _ _ _ _ _ _)).mono ?_
  rintro e w4 ⟨rfl, hb4⟩
  have hx4 := ((Below.refl w3.heap.size w3).alloc (Nat.le_refl _) (.cells #[.int .i64 0, .int .i64 1, .int .i64 2, .int .i64 3, .int .i64 4] 3)).trans (hb4.mono (by simp))
  have HT4 := hideG (HT3.out.below hx4)
  have HB4 := hideG (HB3.out.trans (hx4.mono HB3.out.size))
  clear hb4 hx4
  go_wp2_with fail
  refine (lsConn ls4 hs (by decide) 3 true (by decide +kernel) _ _ HT4.out).mono ?_
  rintro e w5 ⟨rfl, hb5⟩
  have HT5 := hideG (HT4.out.below hb5)
  have HB5 := hideG (HB4.out.trans (hb5.mono HB4.out.size))
  clear hb5
  go_wp2_with fail
  refine (lsConn ls4 hs (by decide) 5 false (by decide +kernel) _ _ HT5.out).mono ?_
  rintro e w6 ⟨rfl, hb6⟩
  have HT6 := hideG (HT5.out.below hb6)
  have HB6 := hideG (HB5.out.trans (hb6.mono HB5.out.size))
  clear hb6
  go_wp2_with fail
  refine (lsRet ls4 hs (by decide) 3 0 1 (by decide +kernel) _ _ HT6.out).mono ?_
  rintro e w7 ⟨rfl, hb7⟩
  have HT7 := hideG (HT6.out.below hb7)
  have HB7 := hideG (HB6.out.trans (hb7.mono HB6.out.size))
  clear hb7
  go_wp2_with fail
  refine (lsRet ls4 hs (by decide) 3 3 3 (by decide +kernel) _ _ HT7.out).mono ?_
  rintro e w8 ⟨rfl, hb8⟩
  have HT8 := hideG (HT7.out.below hb8)
  have HB8 := hideG (HB7.out.trans (hb8.mono HB7.out.size))
  clear hb8
  go_wp2_with fail
  refine (lsRet ls4 hs (by decide) 4 3 4 (by decide +kernel) _ _ HT8.out).mono ?_
  rintro e w9 ⟨rfl, hb9⟩
  have HT9 := hideG (HT8.out.below hb9)
  have HB9 := hideG (HB8.out.trans (hb9.mono HB8.out.size))
  clear hb9
  go_wp2_with fail
  refine (lsHost ls4 hs 3 1 (by decide +kernel) _ _ HT9.out).mono ?_
  rintro e w10 ⟨rfl, hb10⟩
  have HT10 := hideG (HT9.out.below hb10)
  have HB10 := hideG (HB9.out.trans (hb10.mono HB9.out.size))
  clear hb10
  go_wp2_with fail
  refine (lsHost ls4 hs 4 (-1) (by decide +kernel) _ _ HT10.out).mono ?_
  rintro e w11 ⟨rfl, hb11⟩
  have HT11 := hideG (HT10.out.below hb11)
  have HB11 := hideG (HB10.out.trans (hb11.mono HB10.out.size))
  clear hb11
  go_wp2_with fail
  refine (lsAbove ls4 hs (by decide) 1 3 true (by decide +kernel) _ _ HT11.out).mono ?_
  rintro e w12 ⟨rfl, hb12⟩
  have HT12 := hideG (HT11.out.below hb12)
  have HB12 := hideG (HB11.out.trans (hb12.mono HB11.out.size))
  clear hb12
  go_wp2_with fail
  refine (lsUp [] (by decide) 0 0 [] (by decide +kernel) rfl _ _ (treeAt_nil _)).mono ?_
  rintro e w13 ⟨a13, c13, rfl, hi13, hb13⟩
  have HT13 := hideG (HT12.out.below hb13)
  have HB13 := hideG (HB12.out.trans (hb13.mono HB12.out.size))
  clear hb13 hi13
  go_wp2_with fail
  refine (lsRet ls4 hs (by decide) 3 9 (-1) (by decide +kernel) _ _ HT13.out).mono ?_
  rintro e w14 ⟨rfl, hb14⟩
  have HT14 := hideG (HT13.out.below hb14)
  have HB14 := hideG (HB13.out.trans (hb14.mono HB13.out.size))
  clear hb14
  go_wp2_with fail
  go_ret
  exact ⟨rfl, HB14.out⟩
end Go.Proofs.Ytoolkpjbbngdpaa
