/- Package flat, the small functions: known, laidInto, slotThatShows, kids, parent. -/
import Derived.Test.YtahnkhgaopaaoaaFlatMath
namespace Go.Proofs.Ytahnkhgaopaaoaa
open Go.RowKit

set_option maxRecDepth 100000 in
set_option maxHeartbeats 1000000 in
theorem fknown_any (T : List Nd) (hS : Sane T) (v : Value) (n : Int) (w : World) (hT : TreeAt w v T) :
    Calls Try.prog 58 #[v, .int .i64 n] w fun e w' => e = .returned (.bool (knownB T [n])) ∧ Below w.heap.size w w' := by
  have HT := hideG hT
  have HS := hideG hS
  obtain ⟨ta, tc, rfl⟩ := hT.shape
  cases hk : knownB T [n]
  · have E1 := hideG (show topI T n = -1 by simp [topI, hk])
    clear hT hS hk
    go_enter Try.func58, Try.ntmps58
    go_wp2_with (go_at_call 55; refine (orderTop_any T HS.out _ _ _ HT.out).mono ?_; rintro e w1 ⟨rfl, hb1⟩; rw [E1.out]; have HB1 := hideG hb1; clear hb1)
    go_ret
    exact ⟨rfl, HB1.out⟩
  · have E1 := hideG (show topI T n = (topN T n.toNat : Int) by simp [topI, hk])
    have hnt : ((topN T n.toNat : Int) == -1) = false := by simp
    clear hT hS hk
    go_enter Try.func58, Try.ntmps58
    go_wp2_with (go_at_call 55; refine (orderTop_any T HS.out _ _ _ HT.out).mono ?_; rintro e w1 ⟨rfl, hb1⟩; rw [E1.out]; have HB1 := hideG hb1; clear hb1)
    go_ret
    refine ⟨ret_bool ?_, HB1.out⟩
    simp

set_option maxRecDepth 100000 in
set_option maxHeartbeats 1000000 in
theorem laidInto_any (T : List Nd) (_hm : mayB T = true) (hS : Sane T) (v : Value) (n : Nat) (hn : n < T.length) (w : World) (hT : TreeAt w v T) :
    Calls Try.prog 89 #[v, .int .i64 (n : Int)] w fun e w' => ∃ a c, e = .returned (.slice a (asgI T (n : Int)).length c) ∧ w'.ownsRow w.heap.size 3 1 (.slice a (asgI T (n : Int)).length c) (asgI T (n : Int)).length (intCells (asgI T (n : Int))) ∧ Below w.heap.size w w' := by
  have HT := hideG hT
  have HS := hideG hS
  obtain ⟨tb, to, tc, rfl, hct⟩ := hT.at (by omega)
  obtain ⟨kv, av, hN⟩ := hct n hn
  have g1 := hN.tag
  have hn0 : (0 : Int) ≤ (n : Int) := by omega
  cases ht : ((nd T n).tag == 3)
  · have hq : asgI T (n : Int) = [] := by simp [asgI, ht]
    have hne : ((nd T n).tag != 3) = true := by simp only [bne, ht]; rfl
    rw [hq]
    clear hT hS hct hN ht hq
    go_enter Try.func89, Try.ntmps89
    go_wp2_with fail
    go_ret
    exact ⟨none, 0, rfl, World.ownsRow_nil _ _ _ _, Below.refl _ _⟩
  · have hne : ((nd T n).tag != 3) = false := by simp only [bne, ht]; rfl
    clear hT hS hct hN ht
    go_enter Try.func89, Try.ntmps89
    go_wp2_with fail
    refine (assigned_any T HS.out _ _ _ HT.out).mono ?_
    rintro e w1 ⟨a, c, rfl, ho, hb⟩
    have HO := hideG ho
    have HB := hideG hb
    clear ho hb
    go_wp2_with fail
    go_ret
    exact ⟨a, c, rfl, HO.out, HB.out⟩

theorem ofI_nat {T : List Nd} (hm : mayB T = true) {n : Nat} (hn : n < T.length) : ofI T (n : Int) = ofN T n := by
  unfold ofI; rw [known_of hm hn, Int.toNat_natCast]; rfl

set_option maxRecDepth 100000 in
set_option maxHeartbeats 1000000 in
theorem slotShows_any (T : List Nd) (hm : mayB T = true) (hS : Sane T) (v : Value) (n : Nat) (hn : n < T.length) (w : World) (hT : TreeAt w v T) :
    Calls Try.prog 90 #[v, .int .i64 (n : Int)] w fun e w' => e = .returned (.int .i64 (showF T n)) ∧ Below w.heap.size w w' := by
  have HT := hideG hT
  have HS := hideG hS
  have E0 := ofI_nat hm hn
  obtain ⟨tb, to, tc, rfl, hct⟩ := hT.at (by omega)
  rcases ofN_cases hm hn with h | ⟨s, _, _, hs, hsl, _⟩
  · have E1 := hideG (show ofI T (n : Int) = -1 by rw [E0, h])
    have HQ := hideG (show showF T n = -1 by unfold showF; rw [h]; rfl)
    clear hT hS hct hm E0 h
    go_enter Try.func90, Try.ntmps90
    go_wp2_with (go_at_call 54; refine (slotOf_any T HS.out _ _ _ HT.out).mono ?_; rintro e w1 ⟨rfl, hb1⟩; rw [E1.out]; have HB1 := hideG hb1; clear hb1)
    go_ret
    exact ⟨ret_int HQ.out.symm, HB1.out⟩
  · have E1 := hideG (show ofI T (n : Int) = (s : Int) by rw [E0, hs])
    obtain ⟨kv, av, hN⟩ := hct s hsl
    have G5 := hideG hN.root
    have hs0 : (0 : Int) ≤ (s : Int) := by omega
    have hsn : ((s : Int) == -1) = false := by simp
    cases hr : ((nd T s).root == -1)
    · have HQ := hideG (show showF T n = -1 by unfold showF; rw [hs, hsn, Int.toNat_natCast, hr]; rfl)
      have hne : ((nd T s).root != -1) = true := by simp only [bne, hr]; rfl
      clear hT hS hct hm E0 hs hr hN
      go_enter Try.func90, Try.ntmps90
      go_wp2_with (go_at_call 54; refine (slotOf_any T HS.out _ _ _ HT.out).mono ?_; rintro e w1 ⟨rfl, hb1⟩; rw [E1.out]; have HB1 := hideG hb1; have g5 := cell_below hb1 G5.out; clear hb1)
      go_ret
      exact ⟨ret_int HQ.out.symm, HB1.out⟩
    · have HQ := hideG (show showF T n = (s : Int) by unfold showF; rw [hs, hsn, Int.toNat_natCast, hr]; rfl)
      have hne : ((nd T s).root != -1) = false := by simp only [bne, hr]; rfl
      clear hT hS hct hm E0 hs hr hN
      go_enter Try.func90, Try.ntmps90
      go_wp2_with (go_at_call 54; refine (slotOf_any T HS.out _ _ _ HT.out).mono ?_; rintro e w1 ⟨rfl, hb1⟩; rw [E1.out]; have HB1 := hideG hb1; have g5 := cell_below hb1 G5.out; clear hb1)
      go_ret
      exact ⟨ret_int HQ.out.symm, HB1.out⟩

set_option maxRecDepth 100000 in
set_option maxHeartbeats 2000000 in
theorem fkids_at (T : List Nd) (hm : mayB T = true) (hS : Sane T) (v : Value) (n : Nat) (hn : n < T.length) (W w : World) (hT : TreeAt W v T) (hW : Below W.heap.size W w) :
    Calls Try.prog 61 #[v, .int .i64 (n : Int)] w fun e w' => ∃ a c, e = .returned (.slice a (kidsF T n).length c) ∧ (IntsAt W (.slice a (kidsF T n).length c) (kidsF T n) ∨ w'.ownsRow w.heap.size 3 1 (.slice a (kidsF T n).length c) (kidsF T n).length (intCells (kidsF T n))) ∧ Below w.heap.size w w' := by
  have HT := hideG (hT.below hW)
  have HS := hideG hS
  have HM := hideG hm
  obtain ⟨tb, to, tc, rfl, hct⟩ := hT.at (by omega)
  obtain ⟨kv, av, hN⟩ := hct n hn
  have g0 := cell_below hW hN.kind
  have g1 := cell_below hW hN.tag
  have g2 := cell_below hW hN.parent
  have g3 := cell_below hW hN.kidsc
  have g4 := cell_below hW hN.host
  have g5 := cell_below hW hN.root
  have g6 := cell_below hW hN.attrsc
  have HK := hideG hN.kids
  obtain ⟨ka, kc, hkv⟩ := hN.kids.shape
  subst hkv
  obtain ⟨aa, ac, hav, _⟩ := hN.attrs
  subst hav
  have hn0 : (0 : Int) ≤ (n : Int) := by omega
  have htb : tb < w.heap.size := below_of_cell g0
  cases hk : ((nd T n).kind == 3)
  · cases hr : ((nd T n).root == -1)
    · obtain ⟨r, hrr, hrl, _⟩ := root_facts (mayB_fine hm) hn hr
      have hq : kidsF T n = (nd T r).kids := by unfold kidsF; rw [hk, hr, hrr, Int.toNat_natCast]; rfl
      rw [hq]
      obtain ⟨kv', av', hR⟩ := hct r hrl
      have r3 := cell_below hW hR.kidsc
      have HK' := hideG hR.kids
      obtain ⟨ka', kc', hkv'⟩ := hR.kids.shape
      subst hkv'
      have hr0 : (0 : Int) ≤ (r : Int) := by omega
      have hrn : ((r : Int) == -1) = false := by simp
      rw [hrr] at g5
      clear hT hW hS hct hN hm hq hR hr hrr
      generalize (nd T n).kids.length = kl at *
      generalize (nd T n).attrs.length = al at *
      go_enter Try.func61, Try.ntmps61
      go_wp2_with fail
      go_ret
      exact ⟨ka', kc', rfl, Or.inl HK'.out, (Below.refl _ w).alloc (Nat.le_refl _) _⟩
    · have hr1 : (nd T n).root = -1 := by simpa using hr
      rw [hr1] at g5
      cases he : ((asgI T (n : Int)).length == 0)
      · have hq : kidsF T n = asgI T (n : Int) := by unfold kidsF; rw [hk, hr, he]; rfl
        rw [hq]
        have hpos : (0 : Int) < ((asgI T (n : Int)).length : Int) := by
          have : (asgI T (n : Int)).length ≠ 0 := by simpa using he
          omega
        clear hT hW hS hct hN hm hq hr he hr1
        generalize (nd T n).kids.length = kl at *
        generalize (nd T n).attrs.length = al at *
        obtain ⟨W0, hW0⟩ : ∃ W0, w.alloc (.cells #[.int .i64 (nd T n).kind, .int .i64 (nd T n).tag, .int .i64 (nd T n).parent, .slice ka kl kc, .int .i64 (nd T n).host, .int .i64 (-1), .slice aa al ac] 31) = W0 := ⟨_, rfl⟩
        have HB0 := hideG (show Below w.heap.size w W0 by rw [← hW0]; exact (Below.refl _ w).alloc (Nat.le_refl _) _)
        have HW0 := hideG hW0
        clear hW0
        go_enter Try.func61, Try.ntmps61
        go_wp2_with fail
        rw [HW0.out]
        refine (laidInto_any T HM.out HS.out _ n hn _ (HT.out.below HB0.out)).mono ?_
        rintro e w1 ⟨a, c, rfl, ho, hb⟩
        have HI := hideG (ownsRow_base ho HB0.out.size)
        have HB := hideG (HB0.out.trans (hb.mono HB0.out.size))
        clear ho hb g0 g1 g2 g3 g4 g5 g6
        go_wp2_with fail
        go_ret
        exact ⟨a, c, rfl, Or.inr HI.out, HB.out⟩
      · have hq : kidsF T n = (nd T n).kids := by unfold kidsF; rw [hk, hr, he]; rfl
        rw [hq]
        have hz : (asgI T (n : Int)).length = 0 := by simpa using he
        clear hT hW hS hct hN hm hq hr he hr1
        generalize (nd T n).attrs.length = al at *
        generalize (nd T n).kids = KL at *
        obtain ⟨W0, hW0⟩ : ∃ W0, w.alloc (.cells #[.int .i64 (nd T n).kind, .int .i64 (nd T n).tag, .int .i64 (nd T n).parent, .slice ka KL.length kc, .int .i64 (nd T n).host, .int .i64 (-1), .slice aa al ac] 31) = W0 := ⟨_, rfl⟩
        have HB0 := hideG (show Below w.heap.size w W0 by rw [← hW0]; exact (Below.refl _ w).alloc (Nat.le_refl _) _)
        have q3 : W0.cell? ⟨w.heap.size, 3, none⟩ = some (.slice ka KL.length kc) := by
          rw [← hW0]; exact cell_of_cells (World.alloc_heap_new w _) (j := 3) (u := .slice ka KL.length kc) rfl
        have HW0 := hideG hW0
        clear hW0
        go_enter Try.func61, Try.ntmps61
        go_wp2_with fail
        rw [HW0.out]
        refine (laidInto_any T HM.out HS.out _ n hn _ (HT.out.below HB0.out)).mono ?_
        rintro e w1 ⟨a, c, rfl, ho, hb⟩
        rw [hz]
        have HB := hideG (HB0.out.trans (hb.mono HB0.out.size))
        have q3' := cell_below hb q3
        clear ho hb hz q3 g0 g1 g2 g3 g4 g5 g6
        go_wp2_with fail
        go_ret
        exact ⟨ka, kc, rfl, Or.inl HK.out, HB.out⟩
  · have hq : kidsF T n = [] := by unfold kidsF; rw [hk]; rfl
    rw [hq]
    clear hT hW hS hct hN hm hq
    generalize (nd T n).kids.length = kl at *
    generalize (nd T n).attrs.length = al at *
    go_enter Try.func61, Try.ntmps61
    go_wp2_with fail
    go_ret
    exact ⟨none, 0, rfl, Or.inl ⟨none, 0, rfl, fun h => by simp at h⟩, (Below.refl _ w).alloc (Nat.le_refl _) _⟩

theorem fkids_any (T : List Nd) (hm : mayB T = true) (hS : Sane T) (v : Value) (n : Nat) (hn : n < T.length) (w : World) (hT : TreeAt w v T) :
    Calls Try.prog 61 #[v, .int .i64 (n : Int)] w fun e w' => ∃ a c, e = .returned (.slice a (kidsF T n).length c) ∧ IntsAt w' (.slice a (kidsF T n).length c) (kidsF T n) ∧ Below w.heap.size w w' := by
  refine (fkids_at T hm hS v n hn w w hT (Below.refl _ _)).mono ?_
  rintro e w' ⟨a, c, rfl, h, hb⟩
  rcases h with h | h
  · exact ⟨a, c, rfl, h.below hb, hb⟩
  · exact ⟨a, c, rfl, ownsRow_ints h, hb⟩

set_option maxRecDepth 100000 in
set_option maxHeartbeats 2000000 in
theorem fparent_any (T : List Nd) (hm : mayB T = true) (hS : Sane T) (v : Value) (n : Nat) (hn : n < T.length) (w : World) (hT : TreeAt w v T) :
    Calls Try.prog 62 #[v, .int .i64 (n : Int)] w fun e w' => e = .returned (.int .i64 (parF T n)) ∧ Below w.heap.size w w' := by
  have HT := hideG hT
  have HS := hideG hS
  have HM := hideG hm
  obtain ⟨tb, to, tc, rfl, hct⟩ := hT.at (by omega)
  obtain ⟨kv, av, hN⟩ := hct n hn
  have g2 := hN.parent
  have hn0 : (0 : Int) ≤ (n : Int) := by omega
  rcases (mayB_fine hm).par n hn with e | ⟨p, hpl, e, _⟩
  · have HQ := hideG (show parF T n = -1 by unfold parF; rw [e]; rfl)
    rw [e] at g2
    clear hT hS hct hN hm e
    go_enter Try.func62, Try.ntmps62
    go_wp2_with fail
    go_ret
    exact ⟨ret_int HQ.out.symm, Below.refl _ _⟩
  · have e1 : ((nd T n).parent == -1) = false := by rw [e]; simp
    obtain ⟨kv', av', hP⟩ := hct p hpl
    have p0 := hP.kind
    have p5 := hP.root
    have hp0 : (0 : Int) ≤ (p : Int) := by omega
    have hpn : ((p : Int) == -1) = false := by simp
    cases hk : ((nd T p).kind == 3)
    · cases hr : ((nd T p).root == -1)
      · have HQ := hideG (show parF T n = showF T n by unfold parF; rw [e1, e, Int.toNat_natCast, hk, hr]; rfl)
        have hne : ((nd T p).root != -1) = true := by simp only [bne, hr]; rfl
        rw [e] at g2
        clear hT hS hct hN hm e hP e1 hr
        go_enter Try.func62, Try.ntmps62
        go_wp2_with fail
        refine (slotShows_any T HM.out HS.out _ n hn _ HT.out).mono ?_
        rintro e w1 ⟨rfl, hb1⟩
        have HB := hideG hb1
        clear hb1
        go_wp2_with fail
        go_ret
        exact ⟨ret_int HQ.out.symm, HB.out⟩
      · have hne : ((nd T p).root != -1) = false := by simp only [bne, hr]; rfl
        cases ha : ((asgI T (p : Int)).length == 0)
        · have HQ := hideG (show parF T n = -1 by unfold parF; rw [e1, e, Int.toNat_natCast, hk, hr, ha]; rfl)
          have hpos : (0 : Int) < ((asgI T (p : Int)).length : Int) := by
            have : (asgI T (p : Int)).length ≠ 0 := by simpa using ha
            omega
          rw [e] at g2
          clear hT hS hct hN hm e hP e1 hr ha
          go_enter Try.func62, Try.ntmps62
          go_wp2_with fail
          refine (laidInto_any T HM.out HS.out _ p hpl _ HT.out).mono ?_
          rintro e w1 ⟨a, c, rfl, ho, hb1⟩
          have HB := hideG hb1
          clear hb1 ho
          generalize asgI T (p : Int) = L at *
          go_wp2_with fail
          go_ret
          exact ⟨ret_int HQ.out.symm, HB.out⟩
        · have HQ := hideG (show parF T n = (p : Int) by unfold parF; rw [e1, e, Int.toNat_natCast, hk, hr, ha]; rfl)
          have hz : (asgI T (p : Int)).length = 0 := by simpa using ha
          rw [e] at g2
          clear hT hS hct hN hm e hP e1 hr ha
          go_enter Try.func62, Try.ntmps62
          go_wp2_with fail
          refine (laidInto_any T HM.out HS.out _ p hpl _ HT.out).mono ?_
          rintro e w1 ⟨a, c, rfl, ho, hb1⟩
          rw [hz]
          have HB := hideG hb1
          clear hb1 ho hz
          go_wp2_with fail
          go_ret
          exact ⟨ret_int HQ.out.symm, HB.out⟩
    · have HQ := hideG (show parF T n = hostS T (n : Int) by unfold parF; rw [e1, e, Int.toNat_natCast, hk]; rfl)
      rw [e] at g2
      clear hT hS hct hN hm e hP e1
      go_enter Try.func62, Try.ntmps62
      go_wp2_with fail
      refine (shadeHost_any T HS.out _ _ _ HT.out).mono ?_
      rintro e w1 ⟨rfl, hb1⟩
      have HB := hideG hb1
      clear hb1
      go_wp2_with fail
      go_ret
      exact ⟨ret_int HQ.out.symm, HB.out⟩
end Go.Proofs.Ytahnkhgaopaaoaa
