/- The document's own layer 6. -/
import Derived.Test.YtahnkhgaopaaoaaFlat5
namespace Go.Proofs.Ytahnkhgaopaaoaa
open Go.RowKit

set_option maxRecDepth 100000 in
set_option maxHeartbeats 2000000 in
theorem refKids6_at (T : List Nd) (hm : mayB T = true) (hS : Sane T) (v : Value) (n : Nat) (hn : n < T.length) (W w : World) (hT : TreeAt W v T) (hW : Below W.heap.size W w) :
    Calls Try.prog 28 #[v, .int .i64 (n : Int)] w fun e w' => ∃ a c, e = .returned (.slice a (kidsF T n).length c) ∧ (IntsAt W (.slice a (kidsF T n).length c) (kidsF T n) ∨ w'.ownsRow w.heap.size 3 1 (.slice a (kidsF T n).length c) (kidsF T n).length (intCells (kidsF T n))) ∧ Below w.heap.size w w' := by
  have HT := hideG (hT.below hW)
  have HS := hideG hS
  have HM := hideG hm
  obtain ⟨tb, to, tc, rfl, hct⟩ := hT.at (by omega)
  obtain ⟨kv, av, hN⟩ := hct n hn
  have g0 := cell_below hW hN.kind
  have g3 := cell_below hW hN.kidsc
  have g5 := cell_below hW hN.root
  have HK := hideG hN.kids
  obtain ⟨ka, kc, hkv⟩ := hN.kids.shape
  subst hkv
  have hn0 : (0 : Int) ≤ (n : Int) := by omega
  have htb : tb < w.heap.size := below_of_cell g0
  cases hk : ((nd T n).kind == 3)
  · cases hr : ((nd T n).root == -1)
    · obtain ⟨r, hrr, hrl, _⟩ := root_facts (mayB_fine hm) hn hr
      have hq : kidsF T n = (nd T r).kids := by unfold kidsF; rw [hk, hr, hrr, Int.toNat_natCast]; rfl
      rw [hq]
      obtain ⟨kv', av', hR⟩ := hct r hrl
      have r3 := cell_below hW hR.kidsc
      have HK' := hideG hR.kids
      obtain ⟨ka', kc', hkv'⟩ := hR.kids.shape
      subst hkv'
      have hr0 : (0 : Int) ≤ (r : Int) := by omega
      have hrn : ((r : Int) == -1) = false := by simp
      rw [hrr] at g5
      clear hT hW hS hct hN hm hq hR hr hrr
      go_enter Try.func28, Try.ntmps28
      go_wp2_with fail
      go_ret
      exact ⟨ka', kc', rfl, Or.inl HK'.out, Below.refl _ _⟩
    · have hr1 : (nd T n).root = -1 := by simpa using hr
      rw [hr1] at g5
      cases he : ((asgI T (n : Int)).length == 0)
      · have hq : kidsF T n = asgI T (n : Int) := by unfold kidsF; rw [hk, hr, he]; rfl
        rw [hq]
        have hpos : (0 : Int) < ((asgI T (n : Int)).length : Int) := by
          have : (asgI T (n : Int)).length ≠ 0 := by simpa using he
          omega
        clear hT hW hS hct hN hm hq hr he hr1
        go_enter Try.func28, Try.ntmps28
        go_wp2_with fail
        refine (refAsg5_any T HM.out HS.out _ n hn _ HT.out).mono ?_
        rintro e w1 ⟨a, c, rfl, ho, hb⟩
        have HI := hideG ho
        have HB := hideG hb
        clear ho hb g0 g3 g5
        go_wp2_with fail
        go_ret
        exact ⟨a, c, rfl, Or.inr HI.out, HB.out⟩
      · have hq : kidsF T n = (nd T n).kids := by unfold kidsF; rw [hk, hr, he]; rfl
        rw [hq]
        have hz : (asgI T (n : Int)).length = 0 := by simpa using he
        clear hT hW hS hct hN hm hq hr he hr1
        generalize (nd T n).kids = KL at *
        go_enter Try.func28, Try.ntmps28
        go_wp2_with fail
        refine (refAsg5_any T HM.out HS.out _ n hn _ HT.out).mono ?_
        rintro e w1 ⟨a, c, rfl, ho, hb⟩
        rw [hz]
        have HB := hideG hb
        have q3 := cell_below hb g3
        clear ho hb hz g0 g3 g5
        go_wp2_with fail
        go_ret
        exact ⟨ka, kc, rfl, Or.inl HK.out, HB.out⟩
  · have hq : kidsF T n = [] := by unfold kidsF; rw [hk]; rfl
    rw [hq]
    clear hT hW hS hct hN hm hq
    go_enter Try.func28, Try.ntmps28
    go_wp2_with fail
    go_ret
    exact ⟨none, 0, rfl, Or.inl ⟨none, 0, rfl, fun h => by simp at h⟩, Below.refl _ _⟩
theorem refKids6_any (T : List Nd) (hm : mayB T = true) (hS : Sane T) (v : Value) (n : Nat) (hn : n < T.length) (w : World) (hT : TreeAt w v T) :
    Calls Try.prog 28 #[v, .int .i64 (n : Int)] w fun e w' => ∃ a c, e = .returned (.slice a (kidsF T n).length c) ∧ IntsAt w' (.slice a (kidsF T n).length c) (kidsF T n) ∧ Below w.heap.size w w' := by
  refine (refKids6_at T hm hS v n hn w w hT (Below.refl _ _)).mono ?_
  rintro e w' ⟨a, c, rfl, h, hb⟩
  rcases h with h | h
  · exact ⟨a, c, rfl, h.below hb, hb⟩
  · exact ⟨a, c, rfl, ownsRow_ints h, hb⟩

theorem kid_par {T : List Nd} (hm : mayB T = true) {p n : Nat} (hp : p < T.length) (hn : n < T.length) : containsB (kidsF T p) (n : Int) = (parF T n == (p : Int)) := by
  unfold containsB
  cases h : (parF T n == (p : Int))
  · refine decide_eq_false (fun hx => ?_)
    rw [parF_kid hm hp hn hx] at h
    simp at h
  · refine decide_eq_true ?_
    have h1 : parF T n = (p : Int) := by simpa using h
    rcases parF_cases hm hn with e | ⟨q, _, e, hmem⟩
    · omega
    · have : q = p := by omega
      subst this
      exact hmem

set_option maxRecDepth 100000 in
set_option maxHeartbeats 2000000 in
theorem refParent6_any (T : List Nd) (hm : mayB T = true) (hS : Sane T) (v : Value) (n : Nat) (hn : n < T.length) (w : World) (hT : TreeAt w v T) :
    Calls Try.prog 29 #[v, .int .i64 (n : Int)] w fun e w' => e = .returned (.int .i64 (parF T n)) ∧ Below w.heap.size w w' := by
  have HT := hideG hT
  have HS := hideG hS
  have HM := hideG hm
  obtain ⟨ta, tc, rfl⟩ := hT.shape
  have hpos := mayB_pos hm
  clear hT hS hm
  go_enter Try.func29, Try.ntmps29
  go_wp2_with fail
  go_loopw [5] (fun i wr => ∃ k : Nat, k ≤ T.length ∧ i = .int .i64 k ∧ (∀ q, q < k → (parF T n == (q : Int)) = false) ∧ Below w.heap.size w wr) (fun i _ => T.length - (intOf i).toNat)
  case atStart => exact ⟨0, Nat.zero_le _, rfl, fun q h => by omega, Below.refl _ _⟩
  case round =>
    obtain ⟨k, hk, rfl, hno, hB⟩ := hrel
    have HNO := hideG hno
    have HB := hideG hB
    clear hno hB
    by_cases hlt : k < T.length
    · have HC := hideG (kid_par HM.out hlt hn)
      have h64 := kidsF_le HM.out hlt
      have h6 : (kidsF T k).length ≤ 1000000 := by omega
      have H6 := hideG h6
      clear h64 h6
      go_wp2_with fail
      refine (refKids6_any T HM.out HS.out _ k hlt _ (HT.out.below HB.out)).mono ?_
      rintro e w1 ⟨a1, c1, rfl, hI, hb1⟩
      have HI := hideG hI
      have HB1 := hideG (HB.out.trans (hb1.mono HB.out.size))
      clear hI hb1
      go_wp2_with fail
      refine (refIn_any (kidsF T k) _ _ _ HI.out H6.out).mono ?_
      rintro e w2 ⟨rfl, hw2⟩
      subst hw2
      rw [HC.out]
      cases hpk : (parF T n == (k : Int))
      · have HP := hideG hpk
        clear hpk
        go_wp2_with fail
        go_roundw
        case rel => exact ⟨k + 1, by omega, by go_num, fun q hq => by
          by_cases e : q = k
          · subst e; exact HP.out
          · exact HNO.out q (by omega), HB1.out⟩
        case measure => simp [intOf]; omega
      · have HQ := hideG (show parF T n = (k : Int) by simpa using hpk)
        clear hpk
        go_wp2_with fail
        go_ret
        exact ⟨ret_int HQ.out.symm, HB1.out⟩
    · have HQ := hideG (show parF T n = -1 by
        rcases parF_cases HM.out hn with e | ⟨q, hq, e, _⟩
        · exact e
        · have := HNO.out q (by omega)
          rw [e] at this; simp at this)
      go_wp2_with fail
      go_ret
      exact ⟨ret_int HQ.out.symm, HB.out⟩

set_option maxRecDepth 100000 in
set_option maxHeartbeats 2000000 in
theorem refUp6_any (T : List Nd) (hm : mayB T = true) (hS : Sane T) (v : Value) (n : Nat) (hn : n < T.length) (w : World) (hT : TreeAt w v T) :
    Calls Try.prog 30 #[v, .int .i64 (n : Int)] w fun e w' => ∃ a c, e = .returned (.slice a (castL (upF T n)).length c) ∧ w'.ownsRow w.heap.size 3 1 (.slice a (castL (upF T n)).length c) (castL (upF T n)).length (intCells (castL (upF T n))) ∧ Below w.heap.size w w' := by
  obtain ⟨i3, hi3, hz30, hz31, hz32⟩ := info_parts infoT3
  have HT := hideG hT
  have HS := hideG hS
  have HM := hideG hm
  have hpos := mayB_pos hm
  obtain ⟨ta, tc, rfl⟩ := hT.shape
  clear hT hm hS
  go_enter Try.func30, Try.ntmps30
  go_wp2_with fail
  go_loopw [1, 5] (fun t o wr => ∃ (pre : List Nat) (oa : Option Addr) (oc : Nat), o = .slice oa (castL pre).length oc ∧ wr.ownsRow w.heap.size 3 1 (.slice oa (castL pre).length oc) (castL pre).length (intCells (castL pre)) ∧ Below w.heap.size w wr ∧ ((∃ q : Nat, q < T.length ∧ t = .int .i64 (q : Int) ∧ upF T n = pre ++ upF T q) ∨ (t = .int .i64 (-1) ∧ upF T n = pre)))
    (fun t _ _ => if intOf t = -1 then 0 else rkF T (intOf t).toNat + 1)
  case atStart => exact ⟨[], none, 0, rfl, World.ownsRow_nil _ _ _ _, Below.refl _ _, .inl ⟨n, hn, rfl, rfl⟩⟩
  case round =>
    obtain ⟨pre, oa, oc, rfl, hown, hB, hrel⟩ := hrel
    have HOW := hideG hown
    have HB := hideG hB
    clear hown hB
    rcases hrel with ⟨q, hq, rfl, hp⟩ | ⟨rfl, hp⟩
    · have HP := hideG hp
      have hplen : (castL pre).length ≤ 100 := by
        have h1 := upF_le HM.out hn
        rw [hp, List.length_append] at h1
        rw [castL_length]; omega
      have hq1 : ((q : Int) != -1) = true := by simp
      clear hp
      have hsnoc : castL pre ++ [(q : Int)] = castL (pre ++ [q]) := by simp [castL]
      have HSN := hideG hsnoc
      clear hsnoc
      generalize hcur : castL pre = cur at *
      have hor : ∃ nx : Int, parF T q = nx ∧ ((∃ m : Nat, m < T.length ∧ nx = (m : Int) ∧ upF T q = q :: upF T m ∧ rkF T m < rkF T q) ∨ (nx = -1 ∧ upF T q = [q])) := by
        rcases parF_cases HM.out hq with e | ⟨m, hml, e, _⟩
        · exact ⟨-1, e, .inr ⟨rfl, upF_none hq e⟩⟩
        · have := upF_some HM.out hq e
          exact ⟨m, e, .inl ⟨m, hml, rfl, this.2.1, this.2.2⟩⟩
      obtain ⟨nx, hnx, hor⟩ := hor
      have HOR := hideG hor
      have HNX := hideG hnx
      clear hnx hor
      go_wp2_with (at_builtin; refine wpList_append_any rfl (.tmp 8) (.tmp 10) 27 rfl w.heap.size 3 i3 _ 1 8 Try.underlying27 hi3 hz30 hz31 hz32 rfl (by decide) _ cur.length (intCells cur) rfl (HOW.out.alloc _) _ 1 [.int .i64 (q : Int)] rfl (row_new1 _ _) rfl ?h2 ?h3 ?h4 ?h5 ?_)
      case h2 => intro y hy; simp at hy; subst hy; rfl
      case h3 => simp only [maxLen]; omega
      case h4 => omega
      case h5 => have := HB.out.size; simp; omega
      intro v4 w4 ho4 hg4 hf4
      obtain ⟨a4, c4, rfl⟩ := ownsRow_shape ho4
      rw [intCells_snoc, HSN.out] at ho4
      have HB4 := hideG ((HB.out.alloc HB.out.size (.cells #[.int .i64 (q : Int)] 3)).grown hg4 (by have := HB.out.size; simp; omega) (fun j e => (HOW.out.lt j e).1))
      have hl4 : (castL (pre ++ [q])).length = cur.length + 1 := by rw [← HSN.out]; simp
      have HL4 := hideG hl4
      have HO4 := hideG ho4
      clear ho4 hg4 hf4 hl4
      go_wp2_with fail
      refine (refParent6_any T HM.out HS.out _ q hq _ (HT.out.below HB4.out)).mono ?_
      rintro e w5 ⟨rfl, hb5⟩
      rw [HNX.out]
      have HB5 := hideG (HB4.out.trans (hb5.mono HB4.out.size))
      have HO5 := hideG (ownsRow_below HO4.out hb5 (fun j e => (HO4.out.lt j e).2))
      clear hb5
      go_wp2_with fail
      go_roundw
      case rel =>
        refine ⟨pre ++ [q], a4, c4, by rw [HL4.out], by rw [HL4.out]; exact HO5.out, HB5.out, ?_⟩
        rcases HOR.out with ⟨m, hml, rfl, hpm, _⟩ | ⟨rfl, hpm⟩
        · exact .inl ⟨m, hml, rfl, by rw [HP.out, hpm]; simp⟩
        · exact .inr ⟨rfl, by rw [HP.out, hpm]⟩
      case measure =>
        have h2 : ¬ ((q : Int) = -1) := by omega
        rcases HOR.out with ⟨m, hml, rfl, hpm, hlt⟩ | ⟨rfl, hpm⟩
        · have h1 : ¬ ((m : Int) = -1) := by omega
          simp only [intOf, h1, h2, if_false, Int.toNat_natCast]; omega
        · simp [intOf, h2]
    · have HP := hideG hp
      clear hp
      go_wp2_with fail
      go_ret
      rw [HP.out]
      exact ⟨oa, oc, rfl, HOW.out, HB.out⟩

theorem fabv_contains {T : List Nd} {a : Int} {n : Nat} : containsB (castL (upF T n)) a = fabvB T a n := by
  unfold containsB fabvB castL
  rw [Bool.eq_iff_iff, decide_eq_true_iff, List.any_eq_true]
  constructor
  · intro h
    obtain ⟨x, hx, e⟩ := List.mem_map.mp h
    exact ⟨x, hx, by simp [e]⟩
  · rintro ⟨x, hx, e⟩
    exact List.mem_map.mpr ⟨x, hx, by simpa using e⟩
theorem castUp_le {T : List Nd} (hm : mayB T = true) {n : Nat} (hn : n < T.length) : (castL (upF T n)).length ≤ 1000000 := by
  have h1 := upF_le hm hn
  have h2 := (mayB_fine hm).le
  rw [castL_length]; omega

set_option maxHeartbeats 1000000 in
theorem refAbove6_any (T : List Nd) (hm : mayB T = true) (hS : Sane T) (v : Value) (a : Int) (n : Nat) (hn : n < T.length) (w : World) (hT : TreeAt w v T) :
    Calls Try.prog 32 #[v, .int .i64 a, .int .i64 (n : Int)] w fun e w' => e = .returned (.bool (fabvB T a n)) ∧ Below w.heap.size w w' := by
  have HT := hideG hT
  have HS := hideG hS
  have HM := hideG hm
  have HL := hideG (castUp_le hm hn)
  obtain ⟨ta, tc, rfl⟩ := hT.shape
  clear hT hS hm
  go_enter Try.func32, Try.ntmps32
  go_wp2_with fail
  refine (refUp6_any T HM.out HS.out _ n hn _ HT.out).mono ?_
  rintro e w1 ⟨a1, c1, rfl, ho1, hb1⟩
  have HI := hideG (ownsRow_ints ho1)
  have HB1 := hideG hb1
  clear ho1 hb1
  go_wp2_with fail
  refine (refIn_any (castL (upF T n)) _ _ _ HI.out HL.out).mono ?_
  rintro e w2 ⟨rfl, hw2⟩
  subst hw2
  rw [fabv_contains]
  go_wp2_with fail
  go_ret
  exact ⟨rfl, HB1.out⟩

set_option maxHeartbeats 1000000 in
theorem refHas6_any (T : List Nd) (hm : mayB T = true) (hS : Sane T) (v : Value) (n : Nat) (hn : n < T.length) (w : World) (hT : TreeAt w v T) :
    Calls Try.prog 31 #[v, .int .i64 (n : Int)] w fun e w' => e = .returned (.bool (fabvB T 0 n)) ∧ Below w.heap.size w w' := by
  have HT := hideG hT
  have HS := hideG hS
  have HM := hideG hm
  have HL := hideG (castUp_le hm hn)
  obtain ⟨ta, tc, rfl⟩ := hT.shape
  clear hT hS hm
  go_enter Try.func31, Try.ntmps31
  go_wp2_with fail
  refine (refUp6_any T HM.out HS.out _ n hn _ HT.out).mono ?_
  rintro e w1 ⟨a1, c1, rfl, ho1, hb1⟩
  have HI := hideG (ownsRow_ints ho1)
  have HB1 := hideG hb1
  clear ho1 hb1
  go_wp2_with fail
  refine (refIn_any (castL (upF T n)) _ _ _ HI.out HL.out).mono ?_
  rintro e w2 ⟨rfl, hw2⟩
  subst hw2
  rw [fabv_contains]
  go_wp2_with fail
  go_ret
  exact ⟨rfl, HB1.out⟩
end Go.Proofs.Ytahnkhgaopaaoaa
