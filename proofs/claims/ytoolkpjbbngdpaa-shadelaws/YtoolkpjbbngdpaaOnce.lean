/- TreeOnce: each node is a kid of one parent at most, and a shadow its host's. -/
import Derived.Test.YtoolkpjbbngdpaaLive1
namespace Go.Proofs.Ytoolkpjbbngdpaa
open Go.RowKit

theorem small_sane {T : List Nd} (h : smallB T = true) : Sane T := fun n hn => by have := (smallB_at h).2 n hn; omega

def cntK (T : List Nd) (n : Int) : Nat → Nat
  | 0 => 0
  | k + 1 => cntK T n k + countN (nd T k).kids n
def cntH (T : List Nd) (n : Int) : Nat → Nat
  | 0 => 0
  | k + 1 => cntH T n k + (if (nd T k).root == n then 1 else 0)

theorem cntK_none {T : List Nd} (hF : Fine T) {n : Nat} (e : (nd T n).parent = -1) : ∀ k, k ≤ T.length → cntK T n k = 0
  | 0, _ => rfl
  | k + 1, hk => by
    rw [cntK, cntK_none hF e k (by omega), countN_zero (fun hm => by
      have := (hF.kid k (by omega) _ hm).2.2
      rw [Int.toNat_natCast, e] at this
      omega)]
theorem cntK_one {T : List Nd} (hF : Fine T) {n q : Nat} (e : (nd T n).parent = (q : Int)) (hq : q < T.length) (hm : (n : Int) ∈ (nd T q).kids) : ∀ k, k ≤ T.length → cntK T n k = if q < k then 1 else 0
  | 0, _ => rfl
  | k + 1, hk => by
    rw [cntK, cntK_one hF e hq hm k (by omega)]
    by_cases h : k = q
    · subst h
      rw [countN_one (hF.nodup k hq) hm]
      simp
    · rw [countN_zero (fun hm' => by
        have := (hF.kid k (by omega) _ hm').2.2
        rw [Int.toNat_natCast, e] at this
        omega)]
      by_cases h2 : q < k
      · rw [if_pos h2, if_pos (by omega)]
      · rw [if_neg h2, if_neg (by omega)]
theorem fine_root {T : List Nd} (hF : Fine T) {k n : Nat} (hk : k < T.length) (e : (nd T k).root = (n : Int)) : n < T.length ∧ (nd T n).kind = 3 ∧ (nd T n).host = (k : Int) := by
  have h := hF.root k hk
  rw [rootFitsB] at h
  have hne : ((n : Int) == -1) = false := by simp
  rw [e, hne] at h
  cases hc : ((nd T k).kind != 1)
  · rw [hc] at h
    simp only [Bool.or_self, Bool.false_eq_true, if_false, Int.toNat_natCast, Bool.and_eq_true, beq_iff_eq] at h
    obtain ⟨⟨h1, h2⟩, h3⟩ := h
    obtain ⟨m, hm, hl⟩ := isNodeB_true h1
    exact ⟨by omega, h2, h3⟩
  · rw [hc] at h
    simp at h
theorem fine_host {T : List Nd} (hF : Fine T) {n : Nat} (hn : n < T.length) (e : (nd T n).kind = 3) : ∃ h : Nat, h < T.length ∧ (nd T n).host = (h : Int) ∧ (nd T h).kind = 1 ∧ (nd T h).root = (n : Int) := by
  have h := hF.host n hn
  rw [hostFitsB, e] at h
  simp only [bne_self_eq_false, Bool.false_eq_true, if_false, Bool.and_eq_true, beq_iff_eq] at h
  obtain ⟨⟨h1, h2⟩, h3⟩ := h
  obtain ⟨m, hm, hl⟩ := isNodeB_true h1
  rw [hm, Int.toNat_natCast] at h2 h3
  exact ⟨m, hl, hm, h2, h3⟩
theorem cntH_none {T : List Nd} (hF : Fine T) {n : Nat} (e : (nd T n).kind ≠ 3) : ∀ k, k ≤ T.length → cntH T n k = 0
  | 0, _ => rfl
  | k + 1, hk => by
    rw [cntH, cntH_none hF e k (by omega)]
    rw [if_neg (fun hr => e (fine_root hF (k := k) (by omega) (by simpa using hr)).2.1)]
theorem cntH_one {T : List Nd} (hF : Fine T) {n h : Nat} (hh : (nd T n).host = (h : Int)) (hr : (nd T h).root = (n : Int)) : ∀ k, k ≤ T.length → cntH T n k = if h < k then 1 else 0
  | 0, _ => rfl
  | k + 1, hk => by
    rw [cntH, cntH_one hF hh hr k (by omega)]
    by_cases e : k = h
    · subst e
      rw [hr]
      simp
    · rw [if_neg (c := ((nd T k).root == (n : Int)) = true) (fun hx => by
        have := (fine_root hF (k := k) (by omega) (by simpa using hx)).2.2
        rw [hh] at this
        omega)]
      by_cases h2 : h < k
      · rw [if_pos h2, if_pos (by omega)]
      · rw [if_neg h2, if_neg (by omega)]
theorem cntK_le {T : List Nd} (hF : Fine T) {n : Nat} (hn : n < T.length) {k : Nat} (hk : k ≤ T.length) : cntK T n k ≤ 1 := by
  rcases hF.par n hn with e | ⟨q, hq, e, hm⟩
  · rw [cntK_none hF e k hk]; omega
  · rw [cntK_one hF e hq hm k hk]; split <;> omega
theorem cntH_le {T : List Nd} (hF : Fine T) {n : Nat} (hn : n < T.length) {k : Nat} (hk : k ≤ T.length) : cntH T n k ≤ 1 := by
  by_cases e : (nd T n).kind = 3
  · obtain ⟨h, hl, h1, _, h3⟩ := fine_host hF hn e
    rw [cntH_one hF h1 h3 k hk]; split <;> omega
  · rw [cntH_none hF e k hk]; omega

set_option maxRecDepth 100000 in
set_option maxHeartbeats 4000000 in
theorem once_walk (T : List Nd) (v : Value) (w : World) (hT : TreeAt w v T) :
    Calls Try.prog 7 #[v] w fun e w' => e = .returned (.bool true) ∧ Below w.heap.size w w' := by
  obtain ⟨a, cap, rfl⟩ := hT.shape
  have HT := hideG hT
  clear hT
  cases hs : smallB T
  · go_enter Try.func7, Try.ntmps7
    go_wp2_with (first | (go_at_call 19; refine (refSmall_any T _ _ HT.out).mono ?_; rintro e w1 ⟨rfl, rfl⟩) | (go_at_call 20; refine (live1_any _).mono ?_; rintro e w2 ⟨rfl, hb2⟩))
    go_ret
    exact ⟨rfl, hb2⟩
  · have hS := small_sane hs
    have HS := hideG hS
    clear hS
    cases hm : mayB T
    · have hck : checkE T = 1 := by simp only [checkE, hm, Bool.false_eq_true, if_false]
      go_enter Try.func7, Try.ntmps7
      go_wp2_with (first | (go_at_call 19; refine (refSmall_any T _ _ HT.out).mono ?_; rintro e w1 ⟨rfl, rfl⟩) | (go_at_call 35; refine (check_any T HS.out _ _ HT.out).mono ?_; rintro e w3 ⟨rfl, hb3⟩) | (go_at_call 20; refine (live1_any _).mono ?_; rintro e w2 ⟨rfl, hb2⟩))
      go_ret
      exact ⟨rfl, hb3.trans (hb2.mono hb3.size)⟩
    · have hck : checkE T = 0 := by simp only [checkE, hm, if_true]
      have HF := hideG (mayB_fine hm)
      have hpos := mayB_pos hm
      obtain ⟨b, off, cap', hv, hc⟩ := HT.out.at (by omega)
      simp only [Value.slice.injEq, true_and] at hv
      obtain ⟨rfl, rfl⟩ := hv
      have HC := hideG hc
      clear hc
      go_enter Try.func7, Try.ntmps7
      go_wp2_with (first | (go_at_call 19; refine (refSmall_any T _ _ HT.out).mono ?_; rintro e w1 ⟨rfl, rfl⟩) | (go_at_call 35; refine (check_any T HS.out _ _ HT.out).mono ?_; rintro e w3 ⟨rfl, hb3⟩))
      have HB3 := hideG hb3
      clear hb3
      go_loopw [3] (fun i wr => ∃ n : Nat, n ≤ T.length ∧ i = .int .i64 n ∧ wr = w3) (fun i _ => T.length - (intOf i).toNat)
      case atStart => exact ⟨0, Nat.zero_le _, rfl, rfl⟩
      case round =>
        obtain ⟨n, hn, rfl, rfl⟩ := hrel
        by_cases hlt : n < T.length
        · go_wp2_with fail
          go_loopw [4, 5, 6] (fun pa ho i wr' => ∃ k : Nat, k ≤ T.length ∧ i = .int .i64 k ∧ wr' = wr ∧ pa = .int .i64 (cntK T n k) ∧ ho = .int .i64 (cntH T n k)) (fun _ _ i _ => T.length - (intOf i).toNat)
          case atStart => exact ⟨0, Nat.zero_le _, rfl, rfl, rfl, rfl⟩
          case round =>
            obtain ⟨k, hk, rfl, rfl, rfl, rfl⟩ := hrel
            by_cases hkl : k < T.length
            · obtain ⟨kv, av, hN⟩ := HC.out k hkl
              have hN' := hN.below HB3.out
              have g3 := hN'.kidsc
              have g5 := hN'.root
              obtain ⟨ka, kc, rfl⟩ := hN'.kids.shape
              have HK := hideG hN'.kids
              have hle := cntK_le HF.out hlt hk
              have hleH := cntH_le HF.out hlt hk
              have h64 := fine_short HF.out hkl
              clear hN hN'
              generalize hcK : cntK T n k = cK at *
              generalize hcH : cntH T n k = cH at *
              have HcK := hideG hcK
              have HcH := hideG hcH
              clear hcK hcH
              go_wp2_with fail
              go_loopw [4, 7] (fun pa i wr' => ∃ m : Nat, m ≤ (nd T k).kids.length ∧ i = .int .i64 m ∧ wr' = wr ∧ pa = .int .i64 ((cK + countN ((nd T k).kids.take m) n : Nat) : Int)) (fun _ i _ => (nd T k).kids.length - (intOf i).toNat)
              case atStart => exact ⟨0, Nat.zero_le _, rfl, rfl, by simp [countN]⟩
              case round =>
                obtain ⟨m, hm', rfl, rfl, rfl⟩ := hrel
                by_cases hml : m < (nd T k).kids.length
                · obtain ⟨a', cap', hv', hd'⟩ := HK.out
                  simp only [Value.slice.injEq, true_and] at hv'
                  obtain ⟨rfl, rfl⟩ := hv'
                  obtain ⟨b', off', rfl, hd⟩ := hd' (by omega)
                  have c1 := hd m hml
                  have hst := countN_take hml (n : Int)
                  have hcl := countN_le ((nd T k).kids.take m) (n : Int)
                  rw [List.length_take] at hcl
                  clear hd hd'
                  generalize (nd T k).kids.getD m 0 = x at *
                  have HSt := hideG hst
                  clear hst
                  generalize hcc : countN ((nd T k).kids.take m) (n : Int) = c at *
                  clear hcc
                  have hc6 : c ≤ 64 := by omega
                  cases hx : (x == (n : Int))
                  · go_wp2_with fail
                    go_roundw
                    case rel => exact ⟨m + 1, by omega, by go_num, by rw [HSt.out, hx]; simp⟩
                    case measure => simp [intOf]; omega
                  · go_wp2_with fail
                    go_roundw
                    case rel => exact ⟨m + 1, by omega, by go_num, by rw [HSt.out, hx, if_pos rfl]; go_num⟩
                    case measure => simp [intOf]; omega
                · have hme : m = (nd T k).kids.length := by omega
                  subst hme
                  rw [List.take_length]
                  have HcK1 := hideG (show cntK T n (k + 1) = cK + countN (nd T k).kids n by rw [cntK, HcK.out])
                  have hle1 := cntK_le HF.out hlt (k := k + 1) (by omega)
                  rw [HcK1.out] at hle1
                  generalize hc2 : cK + countN (nd T k).kids n = c2 at *
                  cases hr : ((nd T k).root == (n : Int))
                  · have HcH1 := hideG (show cntH T n (k + 1) = cH by rw [cntH, HcH.out, hr]; simp)
                    go_wp2_with fail
                    go_roundw
                    case rel => exact ⟨k + 1, by omega, by go_num, trivial, by rw [HcK1.out], by rw [HcH1.out]⟩
                    case measure => simp [intOf]; omega
                  · have HcH1 := hideG (show cntH T n (k + 1) = cH + 1 by rw [cntH, HcH.out, hr]; simp)
                    go_wp2_with fail
                    go_roundw
                    case rel => exact ⟨k + 1, by omega, by go_num, trivial, by rw [HcK1.out], by rw [HcH1.out]; go_num⟩
                    case measure => simp [intOf]; omega
            · have hke : k = T.length := by omega
              subst hke
              obtain ⟨kv, av, hN⟩ := HC.out n hlt
              have hN' := hN.below HB3.out
              have g0 := hN'.kind
              have g2 := hN'.parent
              clear hN hN'
              have hKK : (((nd T n).parent == -1) = true ∧ ((cntK T n T.length : Nat) : Int) = 0) ∨ (((nd T n).parent == -1) = false ∧ ((cntK T n T.length : Nat) : Int) = 1) := by
                rcases HF.out.par n hlt with e | ⟨q, hq, e, hmem⟩
                · exact .inl ⟨by simp [e], by rw [cntK_none HF.out e _ (Nat.le_refl _)]; rfl⟩
                · exact .inr ⟨by simp [e], by rw [cntK_one HF.out e hq hmem _ (Nat.le_refl _), if_pos hq]; rfl⟩
              have hHH : (((nd T n).kind == 3) = true ∧ ((cntH T n T.length : Nat) : Int) = 1) ∨ (((nd T n).kind == 3) = false ∧ ((cntH T n T.length : Nat) : Int) = 0) := by
                by_cases e : (nd T n).kind = 3
                · obtain ⟨h, hl, h1, _, h3⟩ := fine_host HF.out hlt e
                  exact .inl ⟨by simp [e], by rw [cntH_one HF.out h1 h3 _ (Nat.le_refl _), if_pos hl]; rfl⟩
                · exact .inr ⟨by simp [e], by rw [cntH_none HF.out e _ (Nat.le_refl _)]; rfl⟩
              rcases hKK with ⟨hp, hK⟩ | ⟨hp, hK⟩ <;> rcases hHH with ⟨hq, hH⟩ | ⟨hq, hH⟩
              all_goals
                rw [hK, hH]
                clear hK hH
                go_wp2_with fail
                go_roundw
                case rel => exact ⟨n + 1, by omega, by go_num, trivial⟩
                case measure => simp [intOf]; omega
        · go_wp2_with (go_at_call 20; refine (live1_any _).mono ?_; rintro e w2 ⟨rfl, hb2⟩)
          go_ret
          exact ⟨rfl, HB3.out.trans (hb2.mono HB3.out.size)⟩
end Go.Proofs.Ytoolkpjbbngdpaa
