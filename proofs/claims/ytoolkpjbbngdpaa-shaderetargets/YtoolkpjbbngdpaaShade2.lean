/- shade.Above, Connected, Host, Retarget. -/
import Derived.Test.YtoolkpjbbngdpaaShade1
namespace Go.Proofs.Ytoolkpjbbngdpaa
open Go.RowKit

def aboveS (T : List Nd) (a b : Int) : Bool := containsB (supI T b) a
def hostS (T : List Nd) (n : Int) : Int := if knownB T [n] then (nd T (topN T n.toNat)).host else -1

theorem supI_len (T : List Nd) (n : Int) : (supI T n).length ≤ T.length + 1 := by
  unfold supI
  split
  · rw [castL_length, List.length_cons]
    have := upsL_le T n.toNat
    omega
  · simp

set_option maxRecDepth 100000 in
set_option maxHeartbeats 1000000 in
theorem shadeAbove_any (T : List Nd) (hS : Sane T) (v : Value) (a b : Int) (w : World) (hT : TreeAt w v T) (h6 : T.length ≤ 1000) :
    Calls Try.prog 55 #[v, .int .i64 a, .int .i64 b] w fun e w' => e = .returned (.bool (aboveS T a b)) ∧ Below w.heap.size w w' := by
  obtain ⟨ta, tc, rfl⟩ := hT.shape
  have HT := hideG hT
  have HS := hideG hS
  have hl := supI_len T b
  clear hT hS
  go_enter Try.func55, Try.ntmps55
  go_wp2_with (first | (go_at_call 57; refine (shadeUp_any T HS.out _ _ _ HT.out).mono ?_; rintro e w1 ⟨a1, c1, rfl, ho1, hb1⟩; have HO1 := hideG ho1; have HB1 := hideG hb1; clear ho1 hb1) | (go_at_call 89; refine (contains_any (supI T b) _ _ _ (ownsRow_ints HO1.out) (by omega)).mono ?_; rintro e w2 ⟨rfl, hw⟩; subst hw))
  go_ret
  exact ⟨rfl, HB1.out⟩

set_option maxHeartbeats 1000000 in
theorem shadeConnected_any (T : List Nd) (hS : Sane T) (v : Value) (n : Int) (w : World) (hT : TreeAt w v T) (h6 : T.length ≤ 1000) :
    Calls Try.prog 59 #[v, .int .i64 n] w fun e w' => e = .returned (.bool (aboveS T 0 n)) ∧ Below w.heap.size w w' := by
  obtain ⟨ta, tc, rfl⟩ := hT.shape
  have HT := hideG hT
  have HS := hideG hS
  clear hT hS
  go_enter Try.func59, Try.ntmps59
  go_wp2_with (go_at_call 55; refine (shadeAbove_any T HS.out _ _ _ _ HT.out h6).mono ?_; rintro e w1 ⟨rfl, hb1⟩)
  go_ret
  exact ⟨rfl, hb1⟩

set_option maxRecDepth 100000 in
set_option maxHeartbeats 1000000 in
theorem shadeHost_any (T : List Nd) (hS : Sane T) (v : Value) (n : Int) (w : World) (hT : TreeAt w v T) :
    Calls Try.prog 60 #[v, .int .i64 n] w fun e w' => e = .returned (.int .i64 (hostS T n)) ∧ Below w.heap.size w w' := by
  have HS := hideG hS
  have HT := hideG hT
  cases hk : knownB T [n]
  · obtain ⟨ta, tc, rfl⟩ := hT.shape
    have HQ := hideG (show topI T n = -1 by simp [topI, hk])
    have HR := hideG (show hostS T n = -1 by simp [hostS, hk])
    clear hT hS hk
    go_enter Try.func60, Try.ntmps60
    go_wp2_with (go_at_call 44; refine (orderTop_any T HS.out _ _ _ HT.out).mono ?_; rintro e w1 ⟨rfl, hb1⟩; rw [HQ.out])
    go_ret
    exact ⟨ret_int HR.out.symm, hb1⟩
  · obtain ⟨hm, m, rfl, hml⟩ := known_one hk
    have hpos := mayB_pos hm
    have htl := (sup_split hm hml).1
    obtain ⟨tb, to, tc, rfl, hct⟩ := hT.at (by omega)
    obtain ⟨kv, av, hN⟩ := hct (topN T m) htl
    have gh := hN.host
    have htb : tb < w.heap.size := below_of_cell gh
    have HQ := hideG (show topI T m = (topN T m : Int) by simp [topI, hk])
    have HR := hideG (show hostS T m = (nd T (topN T m)).host by simp [hostS, hk])
    have hne : ((topN T m : Int) == -1) = false := by simp
    clear hT hS hk hN hct hm
    go_enter Try.func60, Try.ntmps60
    go_wp2_with (go_at_call 44; refine (orderTop_any T HS.out _ _ _ HT.out).mono ?_; rintro e w1 ⟨rfl, hb1⟩; rw [HQ.out]; have gh1 := cell_below hb1 gh)
    go_ret
    exact ⟨ret_int HR.out.symm, hb1⟩

def retF (T : List Nd) (H : List Int) : Nat → Nat → Nat
  | 0, a => a
  | k + 1, a => if (nd T (topN T a)).kind != 3 || containsB H (topN T a) then a else retF T H k (nd T (topN T a)).host.toNat
def ret (T : List Nd) (H : List Int) (a : Nat) : Nat := retF T H (T.length + 1) a
theorem retF_stable {T : List Nd} (hm : mayB T = true) (H : List Int) : ∀ {k a : Nat}, a < T.length → (upsL T a).length < k → ∀ j, k ≤ j → retF T H j a = retF T H k a
  | 0, a, _, h, _, _ => by omega
  | k + 1, a, ha, h, j, hj => by
    obtain ⟨j, rfl⟩ : ∃ j', j = j' + 1 := ⟨j - 1, by omega⟩
    rw [retF, retF]
    cases hc : ((nd T (topN T a)).kind != 3 || containsB H (topN T a))
    · obtain ⟨_, _, hspl⟩ := sup_split hm ha
      rcases hspl with ⟨hk, _⟩ | ⟨hk, g, hgl, hh, heq⟩
      · simp [hk] at hc
      · have := upsL_host heq
        rw [hh, Int.toNat_natCast, retF_stable hm H hgl (k := k) (by omega) j (by omega)]
    · rfl
theorem ret_stop {T : List Nd} {H : List Int} {a : Nat} (h : ((nd T (topN T a)).kind != 3 || containsB H (topN T a)) = true) : ret T H a = a := by rw [ret, retF, h]; rfl
theorem ret_step {T : List Nd} (hm : mayB T = true) {H : List Int} {a g : Nat} (h : ((nd T (topN T a)).kind != 3 || containsB H (topN T a)) = false) (hgl : g < T.length) (hh : (nd T (topN T a)).host = (g : Int)) (hlt : (upsL T g).length < (upsL T a).length) : ret T H a = ret T H g := by
  have hle := upsL_le T a
  rw [ret, retF, h, hh, Int.toNat_natCast, ret, retF_stable hm H hgl (k := T.length) (by omega) (T.length + 1) (by omega)]
  rfl
def retI (T : List Nd) (a b : Int) : Int := if knownB T [a] && knownB T [b] then (ret T (supI T b) a.toNat : Int) else -1

end Go.Proofs.Ytoolkpjbbngdpaa
