/- FlatUp: contracts of another seat, turned. -/
import Derived.WalkMore
import Derived.ScopeJumps
import Derived.Lib.AppendZeros
import Derived.Lib.Overlaps
import Derived.Laws.CopyOwn
import Derived.Deep.RegionLaw
import Derived.Deep.QuietTactic
import Derived.BigQuiet
import Derived.Laws.AppendOwnNone
import Derived.Deep.RegionWith
import Derived.RangeFuncCalls
import Derived.Deep.RegionHeld3
import Derived.Test.YtclhimodopgeoaaGreatTC3
import Derived.Test.YtclhimodopgeoaaGreatTC4
import Derived.Test.YtclhimodopgeoaaGreatTC10
import Derived.Test.YtclhimodopgeoaaGreatXLHigh
namespace Go.Proofs.YtclhimodopgeoaaGreat
open Go.RowKit

section
attribute [local go_sem] Oper.semAt_some
end
section
attribute [local go_sem] Oper.semAt_some
end
section
attribute [local go_sem] Oper.semAt_some
theorem laid_in (a : Option Addr) (len cap : Nat) (n : Int) (m : Nat) (w : World) :
    CallsIn Fence.wide m Tryz.prog 208 #[.slice a len cap, .int .i64 n] w fun e w' => e = .returned (.func (.func 219) #[] #[.pointer (some ⟨w.heap.size, 0, none⟩), .pointer (some ⟨w.heap.size + 1, 0, none⟩)]) ∧ w' = (w.alloc (.cells #[.slice a len cap] 23)).alloc (.cells #[.int .i64 n] 3) := by
  refine callsIn_of_wp Tryz.func208 rfl trivial ?_ rfl
  simp only [Tryz.ntmps208, List.size_toArray, List.length_cons, List.length_nil, Nat.reduceAdd, Nat.reduceSub, Array.replicate_succ, Array.replicate_zero, List.push_toArray, List.append_toArray, List.nil_append, List.cons_append]
  gi_wp2
  go_ret
  exact ⟨rfl, rfl⟩
set_option maxRecDepth 100000 in
set_option maxHeartbeats 4000000 in
theorem laid1_in (T : List Nd) (hm : mayB T = true) (hS : Sane T) (tb to tc : Nat) (w0 : World) (hT : TreeAt w0 (.slice (some ⟨tb, to, none⟩) T.length tc) T) (X r h : Nat) (hr : r < T.length) (hh : h < T.length) (hho : hostS T (r : Int) = (h : Int))
    (E : Nat → Prop) (M Bt Br : Nat) (W : World) (hE : ∀ k, E k → w0.heap.size ≤ k ∧ k < M) (hMW : M ≤ W.heap.size) (hXM : X < M) (hB : Below w0.heap.size w0 W) (hown : ∀ g, ownX X W = some g → w0.heap.size ≤ g ∧ g < W.heap.size)
    (hBt : Held E X W Bt) (hBr : Held E X W Br) (ct : W.cell? ⟨Bt, 0, none⟩ = some (.slice (some ⟨tb, to, none⟩) T.length tc)) (cr : W.cell? ⟨Br, 0, none⟩ = some (.int .i64 (r : Int))) :
    DeepSeq Tryz.prog 219 #[.pointer (some ⟨Bt, 0, none⟩), .pointer (some ⟨Br, 0, none⟩)] (fun p : Int × Int => #[Value.int .i64 p.1, .int .i64 p.2]) X M E (pairsI T r h) W := by
  intro m l J Jx hJ hJx hY h0
  refine callsIn_wide.2 ((callsIn_wide (n := 5)).1 ?_)
  have hF := mayB_fine hm
  have hpos := mayB_pos hm
  have hsl := slotsN_le hm hr
  have h64 := fine_short hF hh
  have HT := hideG hT
  have HS := hideG hS
  have HM := hideG hm
  have HY := hideG hY
  have HHO := hideG hho
  have HE0 := hideG (show ∀ k, E k → w0.heap.size ≤ k from fun k e => (hE k e).1)
  have HBB := hideG (show ∀ V, Kd E X W V → Below w0.heap.size w0 V from fun V hV => hB.trans (hV.below (fun k e => (hE k e).1) (fun g hg => (hown g hg).1) hB.size))
  have HOWN := hideG hown
  have hXW : X < W.heap.size := by omega
  clear hT hS hm hY hho
  refine callsIn_of_wp Tryz.func219 rfl trivial ?_ rfl
  simp only [Tryz.ntmps219, List.size_toArray, List.length_cons, List.length_nil, Nat.reduceAdd, Nat.reduceSub, Array.replicate_succ, Array.replicate_zero, List.push_toArray, List.append_toArray, List.nil_append, List.cons_append]
  gi_wp2_with fail
  refine ⟨trivial, ?_⟩
  gi_at_call 206
  refine CallsIn.mono (callsIn_wide.2 (shelfOf_any T HM.out HS.out _ r hr _ (HT.out.below hB))) ?_
  rintro e W1 ⟨a1, c1, a2, c2, rfl, ho1, ho2, hb1⟩
  have hk1 : Kd E X W W1 := Kd.of_below hXW hb1
  have hJ1 : J [] W1 := ownFrom_below' hJ h0 hb1
  have hs1 := hb1.size
  have hox1 : ownX X W1 = ownX X W := ownX_block (hb1.block X hXW)
  have HO1 := hideG ho1
  have HO2 := hideG ho2
  have HBt1 := hideG (hBt.kd hk1)
  have HBr1 := hideG (hBr.kd hk1)
  have ct1 := hBt.cell hk1 ct
  have cr1 := hBr.cell hk1 cr
  have HK1 := hideG hk1
  have HJ1 := hideG hJ1
  have hlc : (castL (slotsN T r)).length ≤ 1000 := by rw [castL_length]; omega
  have HNL := hideG (show manB T (r : Int) = false → (if manB T (r : Int) then [] else namesI T r).length = (castL (slotsN T r)).length from fun e => by rw [e, castL_length, ← namesI_len]; rfl)
  generalize hNL : (if manB T (r : Int) then [] else namesI T r) = NL at *
  generalize hLL : castL (slotsN T r) = LL at *
  generalize hMM : manB T (r : Int) = mm at *
  have HPL := hideG (show ∀ k, placeI T r k = placeV T mm LL NL k from fun k => by unfold placeI; rw [hMM, hLL, hNL])
  clear ho1 ho2 hk1 hJ1 hb1 ct cr hNL hLL hMM
  gi_wp2_with fail
  have hbV := (Below.refl W1.heap.size W1).alloc (Nat.le_refl _) (.cells #[.bool mm, .slice a1 LL.length c1, .slice a2 NL.length c2] 134)
  have b0 := cell_of_cells (World.alloc_heap_new W1 (.cells #[.bool mm, .slice a1 LL.length c1, .slice a2 NL.length c2] 134)) (j := 0) (u := .bool mm) rfl
  have b1 := cell_of_cells (World.alloc_heap_new W1 (.cells #[.bool mm, .slice a1 LL.length c1, .slice a2 NL.length c2] 134)) (j := 1) (u := .slice a1 LL.length c1) rfl
  have b2 := cell_of_cells (World.alloc_heap_new W1 (.cells #[.bool mm, .slice a1 LL.length c1, .slice a2 NL.length c2] 134)) (j := 2) (u := .slice a2 NL.length c2) rfl
  obtain ⟨V, hV⟩ : ∃ V, W1.alloc (.cells #[.bool mm, .slice a1 LL.length c1, .slice a2 NL.length c2] 134) = V := ⟨_, rfl⟩
  have hsV : V.heap.size = W1.heap.size + 1 := by rw [← hV]; simp
  rw [hV] at hbV b0 b1 b2 ⊢
  clear hV
  have hKV : Kd E X W V := HK1.out.trans (Kd.of_below (by omega) hbV)
  have HTV := hideG (HT.out.below (HBB.out V hKV))
  have ctV := cell_below hbV ct1
  have crV := cell_below hbV cr1
  have hbt : Bt < V.heap.size := below_of_cell ctV
  have hbr : Br < V.heap.size := below_of_cell crV
  obtain ⟨tb', to', tc', htv, hct⟩ := HTV.out.at (by omega)
  simp only [Value.slice.injEq, Option.some.injEq, Addr.mk.injEq, and_true, true_and] at htv
  obtain ⟨⟨rfl, rfl⟩, rfl⟩ := htv
  obtain ⟨kv, av, hN⟩ := hct h hh
  have g3 := hN.kidsc
  have htb : tb < V.heap.size := below_of_cell g3
  obtain ⟨ka, kc, hkv⟩ := hN.kids.shape
  subst hkv
  have HKI := hideG (show IntsAt V (.slice ka (nd T h).kids.length kc) (nd T h).kids from hN.kids)
  have HKI0 := hideG (show ∀ U, Kd E X W U → IntsAt U (.slice ka (nd T h).kids.length kc) (nd T h).kids from fun U hU => by
    obtain ⟨b2', o2', c2', htv, hct0⟩ := HT.out.at (by omega)
    simp only [Value.slice.injEq, Option.some.injEq, Addr.mk.injEq, and_true, true_and] at htv
    obtain ⟨⟨rfl, rfl⟩, rfl⟩ := htv
    obtain ⟨kv0, av0, hN0⟩ := hct0 h hh
    have e1 := cell_below (HBB.out V hKV) hN0.kidsc
    rw [g3] at e1
    injection e1 with e1
    rw [e1]
    exact hN0.kids.below (HBB.out U hU))
  have HHOST := hideG (show ∀ U, Below V.heap.size V U → Calls Tryz.prog 175 #[.slice (some ⟨tb, to, none⟩) T.length tc, .int .i64 (r : Int)] U (fun e w' => e = .returned (.int .i64 (h : Int)) ∧ Below V.heap.size V w') from fun U hU => by
    refine (shadeHost_any T HS.out _ _ _ (HTV.out.below hU)).mono ?_
    rintro e w' ⟨rfl, hb⟩
    exact ⟨by rw [HHO.out], hU.trans (hb.mono hU.size)⟩)
  have hcc : ∀ (d : Calm V) (b o : Nat), b < V.heap.size → d.to.cell? ⟨b, o, none⟩ = V.cell? ⟨b, o, none⟩ := calmCell
  have hh0 : (0 : Int) ≤ (h : Int) := by omega
  have HSV := hideG hsV
  clear hct hN hsV
  refine wpIn_wide.2 ?_
  refine wp_region_calm (by kernel_rfl) (by kernel_rfl) ?_
  repeat (go_big_quiet_step (first | (go_at_call 175; refine Calls.mono (HHOST.out _ (Calm.below _)) ?_; rintro e w1 ⟨rfl, hb⟩; exact ⟨rfl, ⟨w1, hb⟩, rfl⟩)))
  refine wpQuiet_nil ?_
  intro _ hw'
  obtain ⟨dq, hw''⟩ := hw'
  subst hw''
  have hbD := dq.below
  generalize dq.to = V2 at *
  clear dq hcc HHOST
  have hsV := HSV.out
  have hs2 := hbD.size
  have hbV2 := hbV.trans (hbD.mono (by omega))
  have HK2 := hideG (show Kd E X W V2 from hKV.trans (Kd.of_below (by omega) hbD))
  have HJ2 := hideG (show J [] V2 from ownFrom_below' hJ (ownFrom_below' hJ HJ1.out hbV) hbD)
  have hox2 : ownX X V2 = ownX X W := (ownX_block (hbV2.block X (by omega))).trans hox1
  have HNew := hideG (show ∀ g, W.heap.size ≤ g → g < V2.heap.size → Held E X V2 g from fun g h1 h2 => ⟨h2, fun e => by have := (hE g e).2; omega, by rw [hox2]; intro e; have := (HOWN.out g e).2; omega⟩)
  have HBt2 := hideG ((HBt1.out.kd (Kd.of_below (by omega) hbV)).kd (Kd.of_below (E := E) (by omega) hbD))
  have b0' := cell_below hbD b0
  have b1' := cell_below hbD b1
  have b2' := cell_below hbD b2
  have ct2 := cell_below hbD ctV
  have HO12 := hideG (ownsRow_below HO1.out hbV2 (fun j e => (HO1.out.lt j e).2))
  have HO22 := hideG (ownsRow_below HO2.out hbV2 (fun j e => (HO2.out.lt j e).2))
  have HB0 := hideG b0'
  have HB1 := hideG b1'
  have HB2 := hideG b2'
  have HCT2 := hideG ct2
  clear b0 b1 b2 b0' b1' b2' ct2 ctV crV g3 ct1 cr1 hbV hbD hbV2 hKV HBt1 HBr1 HTV HKI hbt hbr htb
  have HPR := hideG (show ∀ k, k < (nd T h).kids.length → (pairsI T r h).take (k + 1) = (pairsI T r h).take k ++ [((nd T h).kids.getD k 0, placeV T mm LL NL ((nd T h).kids.getD k 0))] from fun k hk => by
    have hk' : k < (pairsI T r h).length := by simp [pairsI]; exact hk
    rw [List.take_succ_eq_append_getElem hk']
    congr 2
    simp [pairsI, List.getElem?_eq_getElem hk, HPL.out])
  have HPLn := hideG (show (pairsI T r h).length = (nd T h).kids.length by simp [pairsI])
  gi_wp2_with fail
  gi_loopw [18] (fun i wr => ∃ k : Nat, k ≤ (nd T h).kids.length ∧ i = .int .i64 k ∧ J ((pairsI T r h).take k) wr ∧ Kd E X V2 wr) (fun i _ => (nd T h).kids.length - (intOf i).toNat)
  case atStart => exact ⟨0, Nat.zero_le _, rfl, by simpa using HJ2.out, Kd.refl _ _ _⟩
  case round =>
    obtain ⟨k, hk, rfl, hJk, hKk⟩ := hrel
    have HJk := hideG hJk
    have HKk := hideG hKk
    clear hJk hKk
    by_cases hlt : k < (nd T h).kids.length
    · obtain ⟨_, _, hsh, hd⟩ := HKI0.out wr (HK2.out.trans HKk.out)
      simp only [Value.slice.injEq, true_and] at hsh
      obtain ⟨rfl, rfl⟩ := hsh
      obtain ⟨kb, koff, rfl, hdd⟩ := hd (by omega)
      have ck := hdd k hlt
      have HPk := hideG (HPR.out k hlt)
      have e0 := (HNew.out W1.heap.size (by omega) (by omega)).cell HKk.out HB0.out
      have e1 := (HNew.out W1.heap.size (by omega) (by omega)).cell HKk.out HB1.out
      have e2 := (HNew.out W1.heap.size (by omega) (by omega)).cell HKk.out HB2.out
      have et := HBt2.out.cell HKk.out HCT2.out
      have HTk := hideG (HT.out.below (HBB.out wr (HK2.out.trans HKk.out)))
      have HI1 := hideG (ownsRow_ints (rowHeld HO12.out (fun g e => HNew.out g (HO12.out.lt g e).1 (HO12.out.lt g e).2) HKk.out))
      have HI2 := hideG (ownsRow_ints (rowHeld HO22.out (fun g e => HNew.out g (HO22.out.lt g e).1 (HO22.out.lt g e).2) HKk.out))
      have hXr : X < wr.heap.size := by have := HKk.out.size; omega
      have hlen : ((pairsI T r h).take k).length < (pairsI T r h).length := by rw [List.length_take, HPLn.out]; omega
      generalize (nd T h).kids.getD k 0 = x at *
      clear hd hdd
      gi_wp2_with fail
      refine ⟨trivial, ?_⟩
      gi_at_call 207
      refine CallsIn.mono (callsIn_wide.2 (place_any T HS.out _ _ _ mm LL NL x _ HTk.out HI1.out HI2.out hlc HNL.out)) ?_
      rintro e U ⟨rfl, hbU⟩
      have hJU : J ((pairsI T r h).take k) U := ownFrom_below' hJ HJk.out hbU
      have HKU := hideG (HKk.out.trans (Kd.of_below (E := E) hXr hbU))
      obtain ⟨fn, tmps, assign, body, hy, hR⟩ := HY.out 4 ((pairsI T r h).take k) (x, placeV T mm LL NL x) U hJU hlen
      have HR := hideG hR
      clear hR hJU hbU
      gi_wp2_with fail
      refine HR.out.mono ?_
      rintro e U2 (⟨rfl, hJ3, hk3⟩ | ⟨rfl, hJ3, hk3⟩)
      · have HJ3 := hideG hJ3
        have HK3 := hideG (HKU.out.trans hk3)
        clear hJ3 hk3
        gi_wp2_with fail
        go_roundw
        case rel => exact ⟨k + 1, by omega, by go_num, by rw [HPk.out]; exact HJ3.out, HK3.out⟩
        case measure => simp [intOf]; omega
      · gi_wp2_with fail
        refine bodyPost_ret (results_none rfl _ _ _) rfl ?_
        refine ⟨⟨_, rfl⟩, .inr ⟨(pairsI T r h).take k ++ [(x, placeV T mm LL NL x)], ⟨(pairsI T r h).drop (k + 1), ?_⟩, hJ3⟩⟩
        rw [← HPk.out]
        exact List.take_append_drop ..
    · have hke : (pairsI T r h).take k = pairsI T r h := List.take_of_length_le (by rw [HPLn.out]; omega)
      rw [hke] at HJk
      gi_wp2_with fail
      go_end0
      exact ⟨⟨_, rfl⟩, .inl HJk.out⟩
set_option maxRecDepth 100000 in
set_option maxHeartbeats 4000000 in
theorem assigned_in (T : List Nd) (hm : mayB T = true) (hS : Sane T) (tb to tc : Nat) (s : Nat) (hs : s < T.length) (h : Nat) (hh : h < T.length) (hho : hostS T (topN T s : Int) = (h : Int)) (hk3 : (nd T (topN T s)).kind = 3) (ht3 : (nd T s).tag = 3) (w : World) (hT : TreeAt w (.slice (some ⟨tb, to, none⟩) T.length tc) T) :
    CallsIn Fence.wide 6 Tryz.prog 190 #[.slice (some ⟨tb, to, none⟩) T.length tc, .int .i64 (s : Int)] w fun e W' => ∃ a c, e = .returned (.slice a (asgN T (topN T s) h (s : Int)).length c) ∧ W'.ownsRow w.heap.size 3 1 (.slice a (asgN T (topN T s) h (s : Int)).length c) (asgN T (topN T s) h (s : Int)).length (intCells (asgN T (topN T s) h (s : Int))) ∧ Below w.heap.size w W' := by
  obtain ⟨i3, hi3, hz30, hz31, hz32⟩ := info_parts infoT3
  have hpos := mayB_pos hm
  have htl := top_lt hm hs
  have h64 := fine_short (mayB_fine hm) hh
  have HT := hideG hT
  have HS := hideG hS
  have HM := hideG hm
  have E1 := hideG (topI_known hm hs)
  obtain ⟨_, _, _, htv, hct⟩ := hT.at (by omega)
  simp only [Value.slice.injEq, Option.some.injEq, Addr.mk.injEq, and_true, true_and] at htv
  obtain ⟨⟨rfl, rfl⟩, rfl⟩ := htv
  obtain ⟨kt, at_, hNt⟩ := hct _ htl
  obtain ⟨ks, as_, hNs⟩ := hct _ hs
  have G0 := hideG hNt.kind
  rw [hk3] at G0
  have G1 := hideG hNs.tag
  rw [ht3] at G1
  obtain ⟨W0, hW0⟩ : ∃ W0, w.alloc (.cells #[.int .i64 (s : Int)] 3) = W0 := ⟨_, rfl⟩
  have HB0 := hideG (show Below w.heap.size w W0 by rw [← hW0]; exact (Below.refl _ w).alloc (Nat.le_refl _) _)
  have q0 : W0.cell? ⟨w.heap.size, 0, none⟩ = some (.int .i64 (s : Int)) := by rw [← hW0]; exact (cell_new_l w _ _).1
  have hsz0 : w.heap.size < W0.heap.size := below_of_cell q0

  have hnt : ((topN T s : Int) == -1) = false := by simp
  have hs0 : (0 : Int) ≤ (s : Int) := by omega
  have ht0 : (0 : Int) ≤ (topN T s : Int) := by omega
  have HHO := hideG hho
  clear hT hS hm hct hNt hNs hk3 ht3 hho
  refine callsIn_of_wp_marks Tryz.func190 rfl trivial ?_ rfl
  simp only [Tryz.ntmps190, List.size_toArray, List.length_cons, List.length_nil, Nat.reduceAdd, Nat.reduceSub, Array.replicate_succ, Array.replicate_zero, List.push_toArray, List.append_toArray, List.nil_append, List.cons_append]
  gi_wp2_with fail
  clear hW0
  refine ⟨trivial, ?_⟩
  gi_at_call 146
  refine CallsIn.mono (callsIn_wide.2 (orderTop_any T HS.out _ _ _ (HT.out.below HB0.out))) ?_
  rintro e w1 ⟨rfl, hb1⟩
  rw [E1.out]
  have HB1 := hideG (HB0.out.trans (hb1.mono HB0.out.size))
  have q1 := cell_below hb1 q0
  have g0 := cell_below HB1.out G0.out
  have g1 := cell_below HB1.out G1.out
  have hs1 : w.heap.size < w1.heap.size := below_of_cell q1
  clear hb1 q0 hsz0
  gi_wp2_with fail
  refine ⟨trivial, ?_⟩
  gi_at_call 208
  refine (laid_in _ _ _ _ _ _).mono ?_
  rintro e w2 ⟨rfl, rfl⟩
  gi_wp2_with fail
  obtain ⟨V, hV⟩ : ∃ V, ((w1.alloc (.cells #[.slice none 0 0] 24)).alloc (.cells #[.slice (some ⟨tb, to, none⟩) T.length tc] 23)).alloc (.cells #[.int .i64 (topN T s : Int)] 3) = V := ⟨_, rfl⟩
  have d0 := cell_new_l w1 (.slice none 0 0) 24
  have d1 := cell_new_l (w1.alloc (.cells #[.slice none 0 0] 24)) (.slice (some ⟨tb, to, none⟩) T.length tc) 23
  have d2 := cell_new_l ((w1.alloc (.cells #[.slice none 0 0] 24)).alloc (.cells #[.slice (some ⟨tb, to, none⟩) T.length tc] 23)) (.int .i64 (topN T s : Int)) 3
  simp only [World.size_alloc] at d1 d2
  have c0 : V.cell? ⟨w1.heap.size, 0, none⟩ = some (.slice none 0 0) := by rw [← hV]; exact cell_alloc_l _ (cell_alloc_l _ d0.1)
  have f0 : V.frozen? ⟨w1.heap.size, 0, none⟩ = false := by rw [← hV]; exact frozen_alloc_l _ (cell_alloc_l _ d0.1) (frozen_alloc_l _ d0.1 d0.2)
  have cT : V.cell? ⟨w1.heap.size + 1, 0, none⟩ = some (.slice (some ⟨tb, to, none⟩) T.length tc) := by rw [← hV]; exact cell_alloc_l _ d1.1
  have cR : V.cell? ⟨w1.heap.size + 1 + 1, 0, none⟩ = some (.int .i64 (topN T s : Int)) := by rw [← hV]; exact d2.1
  have hsV : V.heap.size = w1.heap.size + 3 := by rw [← hV]; simp
  have hbV : Below w1.heap.size w1 V := by rw [← hV]; exact (((Below.refl _ w1).alloc (Nat.le_refl _) _).alloc (by simp) _).alloc (by simp; omega) _
  rw [hV]
  clear hV d0 d1 d2
  have hBV : Below w.heap.size w V := HB1.out.trans (hbV.mono HB1.out.size)
  have qV := cell_below hbV q1
  have hx0 : ownX w1.heap.size V = none := by unfold ownX; rw [c0]; rfl
  have HSV := hideG hsV
  refine range_deep rfl (enters_of Tryz.func219 (by kernel_rfl) rfl) (fun p : Int × Int => #[Value.int .i64 p.1, .int .i64 p.2]) (fun _ => rfl) w1.heap.size (fun k => k = w1.heap.size) (fun k e => by omega) (by omega) (fun g hg => by rw [hx0] at hg; cases hg) (pairsI T (topN T s) h) ?seq
    (fun pre W => ((∃ v, W.cell? ⟨w1.heap.size, 0, none⟩ = some v ∧ W.frozen? ⟨w1.heap.size, 0, none⟩ = false ∧ W.ownsRow (w1.heap.size + 1) 3 1 v ((pre.filter fun q => q.2 == (s : Int)).map (·.1)).length (intCells ((pre.filter fun q => q.2 == (s : Int)).map (·.1)))) ∧ W.cell? ⟨w.heap.size, 0, none⟩ = some (.int .i64 (s : Int))) ∧ Below w.heap.size w W)
    (fun _ _ _ => False)
    (OwnFrom.and (Own.from (fun s A B row hs hg hr => by
      obtain ⟨⟨v, h1, h2, h3⟩, h4⟩ := hs
      exact ⟨⟨v, cell_kept h1 hg hr, (frozen_kept h1 hg hr).trans h2, ownsRow_walk h3 hg hr⟩, cell_kept h4 hg hr⟩) _) (ownFrom_below (Nat.le_refl _) hBV.size))
    (fun c => fun s A B row hs _ _ => hs.elim)
    ⟨⟨⟨.slice none 0 0, c0, f0, by exact World.ownsRow_nil _ _ _ _⟩, qV⟩, hBV⟩
    (fun p => { tmps := #[.slice (some ⟨tb, to, none⟩) T.length tc, .int .i64 (s : Int), undef, .pointer (some ⟨w.heap.size, 0, none⟩), .slice none 0 0, .int .i64 (topN T s : Int), .pointer (some ⟨w1.heap.size, 0, none⟩), .int .i64 p.1, .int .i64 p.2, .slice (some ⟨tb, to, none⟩) T.length tc, .int .i64 (s : Int), .int .i64 (topN T s : Int), .int .i64 (topN T s : Int), .bool false, .bool false, .slice (some ⟨tb, to, none⟩) T.length tc, .int .i64 (topN T s : Int), .pointer (some ⟨tb, to + topN T s * 7, none⟩), .pointer (some ⟨tb, to + topN T s * 7, none⟩), .int .i64 3, .bool false, .bool false, .bool false, .slice (some ⟨tb, to, none⟩) T.length tc, .int .i64 (s : Int), .pointer (some ⟨tb, to + s * 7, none⟩), .pointer (some ⟨tb, to + s * 7 + 1, none⟩), .int .i64 3, .bool false, .bool false, .slice (some ⟨tb, to, none⟩) T.length tc, .int .i64 (topN T s : Int), .func (.func 219) #[] #[.pointer (some ⟨w1.heap.size + 1, 0, none⟩), .pointer (some ⟨w1.heap.size + 1 + 1, 0, none⟩)], .int .i64 p.1, .int .i64 p.2, undef, undef, undef, undef, undef, undef, undef, undef], defers := [] }) ?assign ?body ?done ?stop
  case seq =>
    intro U hBU hsU
    have hoU : ownX w1.heap.size U = none := by rw [ownX_block (hBU.block w1.heap.size (by omega))]; exact hx0
    have hhd : ∀ k, w1.heap.size < k → k < V.heap.size → Held (fun k => k = w1.heap.size ∨ k = V.heap.size + 1) w1.heap.size U k := fun k h1 h2 => ⟨by omega, by omega, by rw [hoU]; intro e; cases e⟩
    exact laid1_in T HM.out HS.out tb to tc w HT.out w1.heap.size (topN T s) h htl hh HHO.out _ _ (w1.heap.size + 1) (w1.heap.size + 1 + 1) U (fun k e => by omega) (by omega) (by omega) (hBV.trans (hBU.mono hBV.size)) (fun g hg => by rw [hoU] at hg; cases hg) (hhd _ (by omega) (by omega)) (hhd _ (by omega) (by omega)) (cell_below hBU cT) (cell_below hBU cR)
  case assign =>
    intro l m p W K hK
    clear hsV
    gi_wp2
    exact hK
  case body =>
    rintro l m pre p W ⟨⟨⟨v, hc, hf, hown⟩, hq⟩, hB⟩ hlen'
    obtain ⟨va, vc, rfl⟩ := ownsRow_shape hown
    have HOW := hideG hown
    have HB := hideG hB
    have hsz := hB.size
    have hlt : w1.heap.size < W.heap.size := below_of_cell hc
    have hoW : ownX w1.heap.size W = Value.ownBlock (.slice va ((pre.filter fun q => q.2 == (s : Int)).map (·.1)).length vc) := by unfold ownX; rw [hc]; rfl
    have HST := hideG (asg_take (s := (s : Int)) pre p)
    have hpl : ((pre.filter fun q => q.2 == (s : Int)).map (·.1)).length ≤ 64 := by
      rw [List.length_map]
      have h1 := List.length_filter_le (fun q : Int × Int => q.2 == (s : Int)) pre
      have h2 : (pairsI T (topN T s) h).length = (nd T h).kids.length := by simp [pairsI]
      omega
    clear hown hB c0 f0 cT cR qV q1 g0 g1 hx0 hBV hbV
    cases hps : (p.2 == (s : Int))
    · rw [hps] at HST
      simp only [Bool.false_eq_true, if_false, List.append_nil] at HST
      gi_wp2_with fail
      refine ⟨Kd.refl _ _ _, ⟨⟨_, hc, hf, ?_⟩, hq⟩, HB.out⟩
      have hl := congrArg List.length HST.out
      simp only [List.length_map] at hl
      rw [HST.out]
      simp only [List.length_map]
      first | (rw [hl]; simpa only [List.length_map] using HOW.out) | (simpa only [List.length_map] using HOW.out)
    · rw [hps] at HST
      simp only [if_true] at HST
      generalize (pre.filter fun q => q.2 == (s : Int)).map (·.1) = cur at *
      gi_wp2_with (gi_at_builtin; refine wpListIn_append_any rfl _ _ 24 rfl (w1.heap.size + 1) 3 i3 _ 1 8 Tryz.underlying24 hi3 hz30 hz31 hz32 rfl (by decide) _ cur.length (intCells cur) rfl (HOW.out.alloc _) _ 1 [.int .i64 p.1] rfl (row_new1 _ _) rfl ?h2 ?h3 ?h4 ?h5 ?_)
      case h2 => intro u hu; simp at hu; subst hu; rfl
      case h3 => simp only [maxLen]; omega
      case h4 => omega
      case h5 => simp; omega
      intro v' w' hown' hg' hfr
      obtain ⟨a4, c4, rfl⟩ := ownsRow_shape hown'
      rw [intCells_snoc] at hown'
      have hneX : ∀ j, j < w1.heap.size + 1 → some j ≠ Value.ownBlock (.slice va cur.length vc) := fun j hj e => by have := (HOW.out.lt _ e.symm).1; omega
      have hkk : ∀ j, j < w1.heap.size + 1 → w'.heap[j]? = W.heap[j]? := fun j hj => (hg'.block j (by simp; omega) (hneX j hj)).trans (((Below.refl W.heap.size W).alloc (Nat.le_refl _) (.cells #[.int .i64 p.1] 3)).block j (by omega))
      have hc' : w'.cell? ⟨w1.heap.size, 0, none⟩ = some (.slice va cur.length vc) := (World.cell?_of_block (a := ⟨w1.heap.size, 0, none⟩) (hkk w1.heap.size (by omega))).trans hc
      have hf' : w'.frozen? ⟨w1.heap.size, 0, none⟩ = false := (World.frozen?_of_block (a := ⟨w1.heap.size, 0, none⟩) (hkk w1.heap.size (by omega))).trans hf
      have hq' : w'.cell? ⟨w.heap.size, 0, none⟩ = some (.int .i64 (s : Int)) := (World.cell?_of_block (a := ⟨w.heap.size, 0, none⟩) (hkk w.heap.size (by omega))).trans hq
      have HO' := hideG hown'
      have hBa := (Below.refl W.heap.size W).alloc (Nat.le_refl _) (.cells #[.int .i64 p.1] 3)
      have HB' := hideG ((HB.out.alloc hsz (.cells #[.int .i64 p.1] 3)).grown hg' (by simp; omega) (fun j e => by have := (HOW.out.lt j e).1; omega))
      have hsz' := hg'.size
      have HKD := hideG (show Kd (fun k => k = w1.heap.size) w1.heap.size W (w'.setCell ⟨w1.heap.size, 0, none⟩ (.slice a4 (cur.length + 1) c4)) from by
        simp only [World.size_alloc] at hsz'
        refine ⟨hg'.os.trans hBa.os, hg'.tape.trans hBa.tape, hg'.output.trans hBa.output, by simp; omega, fun k hk hne ho => ?_, fun g hg => ?_⟩
        · rw [hoW] at ho
          exact (heap_setCell_other w' ⟨w1.heap.size, 0, none⟩ k _ (fun e => hne e)).trans ((hg'.block k (by simp; omega) (fun e => ho e.symm)).trans (hBa.block k hk))
        · have hown2 : ownX w1.heap.size (w'.setCell ⟨w1.heap.size, 0, none⟩ (.slice a4 (cur.length + 1) c4)) = Value.ownBlock (.slice a4 (cur.length + 1) c4) := by
            unfold ownX
            rw [World.cell?_setCell_same' _ _ _ (by rw [hc']; rfl)]; rfl
          rw [hown2] at hg
          have hl := HO'.out.lt g hg
          rcases hfr g hg with e | e
          · exact .inl (by rw [hoW]; exact e)
          · have e' : W.heap.size + 1 ≤ g := by simpa using e
            exact .inr ⟨by omega, by simpa using hl.2⟩)
      clear hown' hg' hfr hBa hsz' hkk hneX hoW
      gi_wp2_with fail
      refine ⟨HKD.out, ⟨⟨.slice a4 (cur.length + 1) c4, World.cell?_setCell_same' _ _ _ (by rw [hc']; rfl), by rw [World.frozen?_setCell]; exact hf', ?_⟩, ?_⟩, HB'.out.setCell (p := ⟨w1.heap.size, 0, none⟩) (by simp; omega) _⟩
      · rw [HST.out]
        have hkept := ownsRow_kept_set (g := w1.heap.size) (j := 0) (u := .slice a4 (cur.length + 1) c4) HO'.out (fun e => by have := (HO'.out.lt _ e).1; omega)
        simpa using hkept
      · exact (World.cell?_setCell_other _ _ _ _ (fun e => by have e' := congrArg Addr.block e; dsimp only at e'; omega)).trans hq'
  case done =>
    rintro W ⟨⟨⟨v, hc, hf, hown⟩, _⟩, hB⟩ hK _
    rw [asg_all] at hown
    obtain ⟨va, vc, rfl⟩ := ownsRow_shape hown
    have hxx := ownsRow_walk (B := W.putObj V.heap.size (.deferred none)) hown (grownBy_putObj' W V.heap.size (.deferred none)) (fun r e => by cases e; exact ⟨_, hK, rfl⟩)
    gi_wp2
    refine ⟨by simp, .inl ⟨_, _, rfl, run_takeDeferred hK, ?_⟩⟩
    refine ⟨.slice va (asgN T (topN T s) h (s : Int)).length vc, ?_, va, vc, rfl, ownsRow_base hxx (by omega), hB.trans (belowK_b (w := w) (Nat.le_refl _) _ V.heap.size _ _ hBV.size hK rfl rfl)⟩
    simp [results, Tryz.f190, go_sem]
  case stop =>
    rintro c pre W _ h _ _
    exact h.elim
set_option maxRecDepth 100000 in
set_option maxHeartbeats 2000000 in
theorem assigned_any (T : List Nd) (hS : Sane T) (v : Value) (s : Int) (w : World) (hT : TreeAt w v T) :
    Calls Tryz.prog 190 #[v, .int .i64 s] w fun e w' => ∃ a c, e = .returned (.slice a (asgI T s).length c) ∧ w'.ownsRow w.heap.size 3 1 (.slice a (asgI T s).length c) (asgI T s).length (intCells (asgI T s)) ∧ Below w.heap.size w w' := by
  have HT := hideG hT
  have HS := hideG hS
  cases hk : knownB T [s]
  · obtain ⟨ta, tc, rfl⟩ := hT.shape
    have hq : asgI T s = [] := by simp [asgI, hk]
    rw [hq]
    have E1 := hideG (show topI T s = -1 by simp [topI, hk])
    clear hT hS hq
    obtain ⟨W0, hW0⟩ : ∃ W0, w.alloc (.cells #[.int .i64 s] 3) = W0 := ⟨_, rfl⟩
    have HB0 := hideG (show Below w.heap.size w W0 by rw [← hW0]; exact (Below.refl _ w).alloc (Nat.le_refl _) _)
    have q0 : W0.cell? ⟨w.heap.size, 0, none⟩ = some (.int .i64 s) := by rw [← hW0]; exact (cell_new_l w _ _).1
    have hsz0 : w.heap.size < W0.heap.size := below_of_cell q0
    refine (callsIn_wide (n := 6)).1 ?_
    refine callsIn_of_wp_marks Tryz.func190 rfl trivial ?_ rfl
    simp only [Tryz.ntmps190, List.size_toArray, List.length_cons, List.length_nil, Nat.reduceAdd, Nat.reduceSub, Array.replicate_succ, Array.replicate_zero, List.push_toArray, List.append_toArray, List.nil_append, List.cons_append]
    gi_wp2_with fail
    clear hW0
    refine ⟨trivial, ?_⟩
    gi_at_call 146
    refine CallsIn.mono (callsIn_wide.2 (orderTop_any T HS.out _ _ _ (HT.out.below HB0.out))) ?_
    rintro e w1 ⟨rfl, hb1⟩
    rw [E1.out]
    have HB1 := hideG (HB0.out.trans (hb1.mono HB0.out.size))
    have q1 := cell_below hb1 q0
    clear hb1 q0 hsz0
    gi_wp2_with fail
    refine ⟨.slice none 0 0, by simp [results, Tryz.f190, go_sem], none, 0, rfl, World.ownsRow_nil _ _ _ _, HB1.out⟩
  · obtain ⟨hm, n, rfl, hn⟩ := known_one hk
    obtain ⟨tb, to, tc, rfl, hct⟩ := hT.at (by omega)
    have htl := top_lt hm hn
    obtain ⟨kt, at_, hNt⟩ := hct _ htl
    obtain ⟨ks, as_, hNs⟩ := hct _ hn
    have G0 := hideG hNt.kind
    have G1 := hideG hNs.tag
    have E1 := hideG (topI_known hm hn)
    have hpos := mayB_pos hm
    have hnt : ((topN T n : Int) == -1) = false := by simp
    have hn0 : (0 : Int) ≤ (n : Int) := by omega
    have ht0 : (0 : Int) ≤ (topN T n : Int) := by omega
    cases hk3 : ((nd T (topN T n)).kind == 3)
    · have hq : asgI T (n : Int) = [] := by simp [asgI, hk3]
      have hne : ((nd T (topN T n)).kind != 3) = true := by simp only [bne, hk3]; rfl
      rw [hq]
      clear hT hS hct hNt hNs hm hk hk3 hq
      obtain ⟨W0, hW0⟩ : ∃ W0, w.alloc (.cells #[.int .i64 (n : Int)] 3) = W0 := ⟨_, rfl⟩
      have HB0 := hideG (show Below w.heap.size w W0 by rw [← hW0]; exact (Below.refl _ w).alloc (Nat.le_refl _) _)
      have q0 : W0.cell? ⟨w.heap.size, 0, none⟩ = some (.int .i64 (n : Int)) := by rw [← hW0]; exact (cell_new_l w _ _).1
      have hsz0 : w.heap.size < W0.heap.size := below_of_cell q0
      refine (callsIn_wide (n := 6)).1 ?_
      refine callsIn_of_wp_marks Tryz.func190 rfl trivial ?_ rfl
      simp only [Tryz.ntmps190, List.size_toArray, List.length_cons, List.length_nil, Nat.reduceAdd, Nat.reduceSub, Array.replicate_succ, Array.replicate_zero, List.push_toArray, List.append_toArray, List.nil_append, List.cons_append]
      gi_wp2_with fail
      clear hW0
      refine ⟨trivial, ?_⟩
      gi_at_call 146
      refine CallsIn.mono (callsIn_wide.2 (orderTop_any T HS.out _ _ _ (HT.out.below HB0.out))) ?_
      rintro e w1 ⟨rfl, hb1⟩
      rw [E1.out]
      have HB1 := hideG (HB0.out.trans (hb1.mono HB0.out.size))
      have q1 := cell_below hb1 q0
      have g0 := cell_below HB1.out G0.out
      clear hb1 q0 hsz0
      gi_wp2_with fail
      refine ⟨.slice none 0 0, by simp [results, Tryz.f190, go_sem], none, 0, rfl, World.ownsRow_nil _ _ _ _, HB1.out⟩
    · cases ht3 : ((nd T n).tag == 3)
      · have hq : asgI T (n : Int) = [] := by simp [asgI, ht3]
        have hne : ((nd T (topN T n)).kind != 3) = false := by simp only [bne, hk3]; rfl
        have hne2 : ((nd T n).tag != 3) = true := by simp only [bne, ht3]; rfl
        rw [hq]
        clear hT hS hct hNt hNs hm hk hk3 ht3 hq
        obtain ⟨W0, hW0⟩ : ∃ W0, w.alloc (.cells #[.int .i64 (n : Int)] 3) = W0 := ⟨_, rfl⟩
        have HB0 := hideG (show Below w.heap.size w W0 by rw [← hW0]; exact (Below.refl _ w).alloc (Nat.le_refl _) _)
        have q0 : W0.cell? ⟨w.heap.size, 0, none⟩ = some (.int .i64 (n : Int)) := by rw [← hW0]; exact (cell_new_l w _ _).1
        have hsz0 : w.heap.size < W0.heap.size := below_of_cell q0
        refine (callsIn_wide (n := 6)).1 ?_
        refine callsIn_of_wp_marks Tryz.func190 rfl trivial ?_ rfl
        simp only [Tryz.ntmps190, List.size_toArray, List.length_cons, List.length_nil, Nat.reduceAdd, Nat.reduceSub, Array.replicate_succ, Array.replicate_zero, List.push_toArray, List.append_toArray, List.nil_append, List.cons_append]
        gi_wp2_with fail
        clear hW0
        refine ⟨trivial, ?_⟩
        gi_at_call 146
        refine CallsIn.mono (callsIn_wide.2 (orderTop_any T HS.out _ _ _ (HT.out.below HB0.out))) ?_
        rintro e w1 ⟨rfl, hb1⟩
        rw [E1.out]
        have HB1 := hideG (HB0.out.trans (hb1.mono HB0.out.size))
        have q1 := cell_below hb1 q0
        have g0 := cell_below HB1.out G0.out
        have g1 := cell_below HB1.out G1.out
        clear hb1 q0 hsz0
        gi_wp2_with fail
        refine ⟨.slice none 0 0, by simp [results, Tryz.f190, go_sem], none, 0, rfl, World.ownsRow_nil _ _ _ _, HB1.out⟩
      · have hk' : (nd T (topN T n)).kind = 3 := by simpa using hk3
        have ht' : (nd T n).tag = 3 := by simpa using ht3
        obtain ⟨h, hhl, hho, _, _⟩ := fine_host (mayB_fine hm) htl hk'
        have hq : asgI T (n : Int) = asgN T (topN T n) h (n : Int) := by
          unfold asgI; rw [hk, Int.toNat_natCast, hk3, ht3, hho, Int.toNat_natCast]; rfl
        have hhs : hostS T (topN T n : Int) = (h : Int) := by
          unfold hostS
          rw [known_of hm htl, if_pos rfl, Int.toNat_natCast, top_eq hm hn (top_in hm hn)]
          exact hho
        rw [hq]
        exact callsIn_wide.1 (assigned_in T hm hS tb to tc n hn h hhl hhs hk' ht' w hT)
end
set_option maxRecDepth 100000 in
set_option maxHeartbeats 4000000 in
theorem refAsg5_yes (T : List Nd) (hm : mayB T = true) (hS : Sane T) (v : Value) (s : Nat) (hs : s < T.length) (his : isSlotB T s = true) (h : Nat) (hh : h < T.length) (hk3 : (nd T (topN T s)).kind = 3) (hho : (nd T (topN T s)).host = (h : Int)) (w : World) (hT : TreeAt w v T) :
    Calls Tryz.prog 138 #[v, .int .i64 (s : Int)] w fun e w' => ∃ a c, e = .returned (.slice a (asgN T (topN T s) h (s : Int)).length c) ∧ w'.ownsRow w.heap.size 3 1 (.slice a (asgN T (topN T s) h (s : Int)).length c) (asgN T (topN T s) h (s : Int)).length (intCells (asgN T (topN T s) h (s : Int))) ∧ Below w.heap.size w w' := by
  obtain ⟨i3, hi3, hz30, hz31, hz32⟩ := info_parts infoT3
  obtain ⟨tb, to, tc, rfl, hct⟩ := hT.at (by omega)
  have htl := top_lt hm hs
  obtain ⟨kt, at_, hNt⟩ := hct _ htl
  obtain ⟨kh, ah, hNh⟩ := hct _ hh
  have G4 := hideG hNt.host
  rw [hho] at G4
  have G3 := hideG hNh.kidsc
  obtain ⟨kka, kkc, hkv⟩ := hNh.kids.shape
  subst hkv
  have HKC : Hid (0 < (nd T h).kids.length → ∃ b off, kka = some ⟨b, off, none⟩ ∧ ∀ j, j < (nd T h).kids.length → w.cell? ⟨b, off + j, none⟩ = some (.int .i64 ((nd T h).kids.getD j 0))) := by
    obtain ⟨a', cap', hv', hd'⟩ := hNh.kids
    simp only [Value.slice.injEq, true_and] at hv'
    obtain ⟨rfl, rfl⟩ := hv'
    exact hd'
  have HT := hideG hT
  have HS := hideG hS
  have HM := hideG hm
  have hpos := mayB_pos hm
  have h64 := fine_short (mayB_fine hm) hh
  have HOF := hideG (show ∀ k ∈ (nd T h).kids, ∃ m : Nat, k = m ∧ m < T.length ∧ ofN T m = placeI T (topN T s) k from fun k hkk => of_kid hm htl hk3 hho hh hkk)
  have hs0 : (0 : Int) ≤ (s : Int) := by omega
  have ht0 : (0 : Int) ≤ (topN T s : Int) := by omega
  have hh0 : (0 : Int) ≤ (h : Int) := by omega
  have HIS := hideG his
  clear hT hS hm hct hNt hNh his hk3 hho
  go_enter Tryz.func138, Tryz.ntmps138
  go_wp2_with fail
  refine (refIs5_any T HM.out _ s hs _ HT.out).mono ?_
  rintro e w1 ⟨rfl, hb1⟩
  rw [HIS.out]
  have HB1 := hideG hb1
  have HT1 := hideG (HT.out.below hb1)
  clear hb1
  go_wp2_with fail
  refine (refTop3_any T HM.out _ s hs _ HT1.out).mono ?_
  rintro e w2 ⟨rfl, hb2⟩
  have HB2 := hideG (HB1.out.trans (hb2.mono HB1.out.size))
  have HT2 := hideG (HT1.out.below hb2)
  have g4 := cell_below HB2.out G4.out
  have HG3 := hideG (cell_below HB2.out G3.out)
  clear hb2
  go_wp2_with fail
  go_loopw [5, 7] (fun o i wr => ∃ (k : Nat) (oa : Option Addr) (oc : Nat), k ≤ (nd T h).kids.length ∧ i = .int .i64 k ∧ o = .slice oa (((nd T h).kids.take k).filter fun x => placeI T (topN T s) x == (s : Int)).length oc ∧ wr.ownsRow w2.heap.size 3 1 (.slice oa (((nd T h).kids.take k).filter fun x => placeI T (topN T s) x == (s : Int)).length oc) (((nd T h).kids.take k).filter fun x => placeI T (topN T s) x == (s : Int)).length (intCells (((nd T h).kids.take k).filter fun x => placeI T (topN T s) x == (s : Int))) ∧ Below w2.heap.size w2 wr) (fun _ i _ => (nd T h).kids.length - (intOf i).toNat)
  case atStart => exact ⟨0, none, 0, Nat.zero_le _, rfl, rfl, World.ownsRow_nil _ _ _ _, Below.refl _ _⟩
  case round =>
    obtain ⟨k, oa, oc, hk, rfl, rfl, hown, hB⟩ := hrel
    have HOk := hideG hown
    have HBk := hideG hB
    have g3 := cell_below hB HG3.out
    clear hown hB
    by_cases hlt : k < (nd T h).kids.length
    · obtain ⟨kb, koff, rfl, hdd⟩ := HKC.out (by omega)
      have c1 := cell_below HBk.out (cell_below HB2.out (hdd k hlt))
      have hxk : (nd T h).kids.getD k 0 ∈ (nd T h).kids := by
        rw [List.getD_eq_getElem?_getD, List.getElem?_eq_getElem hlt]; exact List.getElem_mem hlt
      obtain ⟨m, hxm, hml, hof⟩ := HOF.out _ hxk
      have hft := filter_takeI hlt (fun x => placeI T (topN T s) x == (s : Int))
      have hcb : (((nd T h).kids.take k).filter fun x => placeI T (topN T s) x == (s : Int)).length ≤ 64 := by
        have h1 := List.length_filter_le (fun x => placeI T (topN T s) x == (s : Int)) ((nd T h).kids.take k)
        have h2 : ((nd T h).kids.take k).length ≤ (nd T h).kids.length := List.length_take_le' ..
        omega
      rw [hxm] at c1 hft hof
      have hm0 : (0 : Int) ≤ (m : Int) := by omega
      clear hdd hxk hxm
      cases hpl : (placeI T (topN T s) (m : Int) == (s : Int))
      · have he : ((nd T h).kids.take (k + 1)).filter (fun x => placeI T (topN T s) x == (s : Int)) = ((nd T h).kids.take k).filter fun x => placeI T (topN T s) x == (s : Int) := by
          rw [hft, hpl]; simp
        have HE := hideG he
        have HOFM := hideG hof
        clear he hft hof
        generalize ((nd T h).kids.take k).filter (fun x => placeI T (topN T s) x == (s : Int)) = cur at *
        generalize placeI T (topN T s) (m : Int) = pl at *
        go_wp2_with (go_at_call 162; refine (refOf5_any T HM.out HS.out _ m hml _ (HT2.out.below HBk.out)).mono ?_; rintro e w5 ⟨rfl, hb5⟩; rw [HOFM.out]; have HB5 := hideG (HBk.out.trans (hb5.mono HBk.out.size)); have HO5 := hideG (ownsRow_below HOk.out hb5 (fun j e => (HOk.out.lt j e).2)); clear hb5)
        go_roundw
        case rel => exact ⟨k + 1, oa, oc, by omega, by go_num, by rw [HE.out], by rw [HE.out]; exact HO5.out, HB5.out⟩
        case measure => simp [intOf]; omega
      · have he : ((nd T h).kids.take (k + 1)).filter (fun x => placeI T (topN T s) x == (s : Int)) = (((nd T h).kids.take k).filter fun x => placeI T (topN T s) x == (s : Int)) ++ [(m : Int)] := by
          rw [hft, hpl]; simp
        have HE := hideG he
        have HOFM := hideG hof
        clear he hft hof
        generalize ((nd T h).kids.take k).filter (fun x => placeI T (topN T s) x == (s : Int)) = cur at *
        generalize placeI T (topN T s) (m : Int) = pl at *
        go_wp2_with (first | (go_at_call 162; refine (refOf5_any T HM.out HS.out _ m hml _ (HT2.out.below HBk.out)).mono ?_; rintro e w5 ⟨rfl, hb5⟩; rw [HOFM.out]; have HB5 := hideG (HBk.out.trans (hb5.mono HBk.out.size)); have HO5 := hideG (ownsRow_below HOk.out hb5 (fun j e => (HOk.out.lt j e).2)); have c1' := cell_below hb5 c1; have g3' := cell_below hb5 g3; clear hb5) | (at_builtin; refine wpList_append_any rfl (.tmp 42) (.tmp 51) 24 rfl w2.heap.size 3 i3 _ 1 8 Tryz.underlying24 hi3 hz30 hz31 hz32 rfl (by decide) _ cur.length (intCells cur) rfl (HO5.out.alloc _) _ 1 [.int .i64 (m : Int)] rfl (row_new1 _ _) rfl ?h2 ?h3 ?h4 ?h5 ?_))
        case h2 => intro y hy; simp at hy; subst hy; rfl
        case h3 => simp only [maxLen]; omega
        case h4 => omega
        case h5 => have := HB5.out.size; simp; omega
        intro v4 w4 ho4 hg4 hf4
        obtain ⟨a4, c4, rfl⟩ := ownsRow_shape ho4
        rw [intCells_snoc] at ho4
        have HB4 := hideG ((HB5.out.alloc HB5.out.size (.cells #[.int .i64 (m : Int)] 3)).grown hg4 (by have := HB5.out.size; simp; omega) (fun j e => (HO5.out.lt j e).1))
        have hl4 : (cur ++ [(m : Int)]).length = cur.length + 1 := by simp
        have HL4 := hideG hl4
        have HO4 := hideG ho4
        clear ho4 hg4 hf4 hl4
        go_wp2_with fail
        go_roundw
        case rel => exact ⟨k + 1, a4, c4, by omega, by go_num, by rw [HE.out, HL4.out], by rw [HE.out, HL4.out]; exact HO4.out, HB4.out⟩
        case measure => simp [intOf]; omega
    · have hke : (nd T h).kids.take k = (nd T h).kids := List.take_of_length_le (by omega)
      rw [hke] at HOk ⊢
      have HBE := hideG (HB2.out.trans (HBk.out.mono HB2.out.size))
      have HOE := hideG (show wr.ownsRow w.heap.size 3 1 _ _ _ from ownsRow_base HOk.out HB2.out.size)
      clear hke
      go_wp2_with fail
      go_ret
      exact ⟨oa, oc, rfl, HOE.out, HBE.out⟩
set_option maxHeartbeats 1000000 in
theorem refAsg5_any (T : List Nd) (hm : mayB T = true) (hS : Sane T) (v : Value) (s : Nat) (hs : s < T.length) (w : World) (hT : TreeAt w v T) :
    Calls Tryz.prog 138 #[v, .int .i64 (s : Int)] w fun e w' => ∃ a c, e = .returned (.slice a (asgI T (s : Int)).length c) ∧ w'.ownsRow w.heap.size 3 1 (.slice a (asgI T (s : Int)).length c) (asgI T (s : Int)).length (intCells (asgI T (s : Int))) ∧ Below w.heap.size w w' := by
  cases his : isSlotB T s
  · obtain ⟨tb, to, tc, rfl, _⟩ := hT.at (by omega)
    have hq : asgI T (s : Int) = [] := by
      rw [isSlot_iff hm hs] at his
      unfold asgI
      rw [known_of hm hs, Int.toNat_natCast, Bool.true_and, his]; rfl
    rw [hq]
    have HT := hideG hT
    have HM := hideG hm
    have HIS := hideG his
    clear hT hm hq his
    go_enter Tryz.func138, Tryz.ntmps138
    go_wp2_with (go_at_call 160; refine (refIs5_any T HM.out _ s hs _ HT.out).mono ?_; rintro e w1 ⟨rfl, hb1⟩; rw [HIS.out]; have HB1 := hideG hb1; clear hb1)
    go_ret
    exact ⟨none, 0, rfl, World.ownsRow_nil _ _ _ _, HB1.out⟩
  · have h2 := his
    rw [isSlot_iff hm hs, Bool.and_eq_true] at h2
    have htl := top_lt hm hs
    have hk' : (nd T (topN T s)).kind = 3 := by simpa using h2.1
    obtain ⟨h, hhl, hho, _, _⟩ := fine_host (mayB_fine hm) htl hk'
    have hq : asgI T (s : Int) = asgN T (topN T s) h (s : Int) := by
      unfold asgI; rw [known_of hm hs, Int.toNat_natCast, h2.1, h2.2, hho, Int.toNat_natCast]; rfl
    rw [hq]
    exact refAsg5_yes T hm hS v s hs his h hhl hk' hho w hT
set_option maxRecDepth 100000 in
set_option maxHeartbeats 1000000 in
theorem fknown_any (T : List Nd) (hS : Sane T) (v : Value) (n : Int) (w : World) (hT : TreeAt w v T) :
    Calls Tryz.prog 128 #[v, .int .i64 n] w fun e w' => e = .returned (.bool (knownB T [n])) ∧ Below w.heap.size w w' := by
  have HT := hideG hT
  have HS := hideG hS
  obtain ⟨ta, tc, rfl⟩ := hT.shape
  cases hk : knownB T [n]
  · have E1 := hideG (show topI T n = -1 by simp [topI, hk])
    clear hT hS hk
    go_enter Tryz.func128, Tryz.ntmps128
    go_wp2_with (go_at_call 146; refine (orderTop_any T HS.out _ _ _ HT.out).mono ?_; rintro e w1 ⟨rfl, hb1⟩; rw [E1.out]; have HB1 := hideG hb1; clear hb1)
    go_ret
    exact ⟨rfl, HB1.out⟩
  · have E1 := hideG (show topI T n = (topN T n.toNat : Int) by simp [topI, hk])
    have hnt : ((topN T n.toNat : Int) == -1) = false := by simp
    clear hT hS hk
    go_enter Tryz.func128, Tryz.ntmps128
    go_wp2_with (go_at_call 146; refine (orderTop_any T HS.out _ _ _ HT.out).mono ?_; rintro e w1 ⟨rfl, hb1⟩; rw [E1.out]; have HB1 := hideG hb1; clear hb1)
    go_ret
    refine ⟨ret_bool ?_, HB1.out⟩
    simp
set_option maxRecDepth 100000 in
set_option maxHeartbeats 1000000 in
theorem laidInto_any (T : List Nd) (_hm : mayB T = true) (hS : Sane T) (v : Value) (n : Nat) (hn : n < T.length) (w : World) (hT : TreeAt w v T) :
    Calls Tryz.prog 177 #[v, .int .i64 (n : Int)] w fun e w' => ∃ a c, e = .returned (.slice a (asgI T (n : Int)).length c) ∧ w'.ownsRow w.heap.size 3 1 (.slice a (asgI T (n : Int)).length c) (asgI T (n : Int)).length (intCells (asgI T (n : Int))) ∧ Below w.heap.size w w' := by
  have HT := hideG hT
  have HS := hideG hS
  obtain ⟨tb, to, tc, rfl, hct⟩ := hT.at (by omega)
  obtain ⟨kv, av, hN⟩ := hct n hn
  have g1 := hN.tag
  have hn0 : (0 : Int) ≤ (n : Int) := by omega
  cases ht : ((nd T n).tag == 3)
  · have hq : asgI T (n : Int) = [] := by simp [asgI, ht]
    have hne : ((nd T n).tag != 3) = true := by simp only [bne, ht]; rfl
    rw [hq]
    clear hT hS hct hN ht hq
    go_enter Tryz.func177, Tryz.ntmps177
    go_wp2_with fail
    go_ret
    exact ⟨none, 0, rfl, World.ownsRow_nil _ _ _ _, Below.refl _ _⟩
  · have hne : ((nd T n).tag != 3) = false := by simp only [bne, ht]; rfl
    clear hT hS hct hN ht
    go_enter Tryz.func177, Tryz.ntmps177
    go_wp2_with fail
    refine (assigned_any T HS.out _ _ _ HT.out).mono ?_
    rintro e w1 ⟨a, c, rfl, ho, hb⟩
    have HO := hideG ho
    have HB := hideG hb
    clear ho hb
    go_wp2_with fail
    go_ret
    exact ⟨a, c, rfl, HO.out, HB.out⟩
set_option maxRecDepth 100000 in
set_option maxHeartbeats 1000000 in
theorem slotShows_any (T : List Nd) (hm : mayB T = true) (hS : Sane T) (v : Value) (n : Nat) (hn : n < T.length) (w : World) (hT : TreeAt w v T) :
    Calls Tryz.prog 176 #[v, .int .i64 (n : Int)] w fun e w' => e = .returned (.int .i64 (showF T n)) ∧ Below w.heap.size w w' := by
  have HT := hideG hT
  have HS := hideG hS
  have E0 := ofI_nat hm hn
  obtain ⟨tb, to, tc, rfl, hct⟩ := hT.at (by omega)
  rcases ofN_cases hm hn with h | ⟨s, _, _, hs, hsl, _⟩
  · have E1 := hideG (show ofI T (n : Int) = -1 by rw [E0, h])
    have HQ := hideG (show showF T n = -1 by unfold showF; rw [h]; rfl)
    clear hT hS hct hm E0 h
    go_enter Tryz.func176, Tryz.ntmps176
    go_wp2_with (go_at_call 189; refine (slotOf_any T HS.out _ _ _ HT.out).mono ?_; rintro e w1 ⟨rfl, hb1⟩; rw [E1.out]; have HB1 := hideG hb1; clear hb1)
    go_ret
    exact ⟨ret_int HQ.out.symm, HB1.out⟩
  · have E1 := hideG (show ofI T (n : Int) = (s : Int) by rw [E0, hs])
    obtain ⟨kv, av, hN⟩ := hct s hsl
    have G5 := hideG hN.root
    have hs0 : (0 : Int) ≤ (s : Int) := by omega
    have hsn : ((s : Int) == -1) = false := by simp
    cases hr : ((nd T s).root == -1)
    · have HQ := hideG (show showF T n = -1 by unfold showF; rw [hs, hsn, Int.toNat_natCast, hr]; rfl)
      have hne : ((nd T s).root != -1) = true := by simp only [bne, hr]; rfl
      clear hT hS hct hm E0 hs hr hN
      go_enter Tryz.func176, Tryz.ntmps176
      go_wp2_with (go_at_call 189; refine (slotOf_any T HS.out _ _ _ HT.out).mono ?_; rintro e w1 ⟨rfl, hb1⟩; rw [E1.out]; have HB1 := hideG hb1; have g5 := cell_below hb1 G5.out; clear hb1)
      go_ret
      exact ⟨ret_int HQ.out.symm, HB1.out⟩
    · have HQ := hideG (show showF T n = (s : Int) by unfold showF; rw [hs, hsn, Int.toNat_natCast, hr]; rfl)
      have hne : ((nd T s).root != -1) = false := by simp only [bne, hr]; rfl
      clear hT hS hct hm E0 hs hr hN
      go_enter Tryz.func176, Tryz.ntmps176
      go_wp2_with (go_at_call 189; refine (slotOf_any T HS.out _ _ _ HT.out).mono ?_; rintro e w1 ⟨rfl, hb1⟩; rw [E1.out]; have HB1 := hideG hb1; have g5 := cell_below hb1 G5.out; clear hb1)
      go_ret
      exact ⟨ret_int HQ.out.symm, HB1.out⟩
set_option maxRecDepth 100000 in
set_option maxHeartbeats 2000000 in
theorem fparent_any (T : List Nd) (hm : mayB T = true) (hS : Sane T) (v : Value) (n : Nat) (hn : n < T.length) (w : World) (hT : TreeAt w v T) :
    Calls Tryz.prog 156 #[v, .int .i64 (n : Int)] w fun e w' => e = .returned (.int .i64 (parF T n)) ∧ Below w.heap.size w w' := by
  have HT := hideG hT
  have HS := hideG hS
  have HM := hideG hm
  obtain ⟨tb, to, tc, rfl, hct⟩ := hT.at (by omega)
  obtain ⟨kv, av, hN⟩ := hct n hn
  have g2 := hN.parent
  have hn0 : (0 : Int) ≤ (n : Int) := by omega
  rcases (mayB_fine hm).par n hn with e | ⟨p, hpl, e, _⟩
  · have HQ := hideG (show parF T n = -1 by unfold parF; rw [e]; rfl)
    rw [e] at g2
    clear hT hS hct hN hm e
    go_enter Tryz.func156, Tryz.ntmps156
    go_wp2_with fail
    go_ret
    exact ⟨ret_int HQ.out.symm, Below.refl _ _⟩
  · have e1 : ((nd T n).parent == -1) = false := by rw [e]; simp
    obtain ⟨kv', av', hP⟩ := hct p hpl
    have p0 := hP.kind
    have p5 := hP.root
    have hp0 : (0 : Int) ≤ (p : Int) := by omega
    have hpn : ((p : Int) == -1) = false := by simp
    cases hk : ((nd T p).kind == 3)
    · cases hr : ((nd T p).root == -1)
      · have HQ := hideG (show parF T n = showF T n by unfold parF; rw [e1, e, Int.toNat_natCast, hk, hr]; rfl)
        have hne : ((nd T p).root != -1) = true := by simp only [bne, hr]; rfl
        rw [e] at g2
        clear hT hS hct hN hm e hP e1 hr
        go_enter Tryz.func156, Tryz.ntmps156
        go_wp2_with fail
        refine (slotShows_any T HM.out HS.out _ n hn _ HT.out).mono ?_
        rintro e w1 ⟨rfl, hb1⟩
        have HB := hideG hb1
        clear hb1
        go_wp2_with fail
        go_ret
        exact ⟨ret_int HQ.out.symm, HB.out⟩
      · have hne : ((nd T p).root != -1) = false := by simp only [bne, hr]; rfl
        cases ha : ((asgI T (p : Int)).length == 0)
        · have HQ := hideG (show parF T n = -1 by unfold parF; rw [e1, e, Int.toNat_natCast, hk, hr, ha]; rfl)
          have hpos : (0 : Int) < ((asgI T (p : Int)).length : Int) := by
            have : (asgI T (p : Int)).length ≠ 0 := by simpa using ha
            omega
          rw [e] at g2
          clear hT hS hct hN hm e hP e1 hr ha
          go_enter Tryz.func156, Tryz.ntmps156
          go_wp2_with fail
          refine (laidInto_any T HM.out HS.out _ p hpl _ HT.out).mono ?_
          rintro e w1 ⟨a, c, rfl, ho, hb1⟩
          have HB := hideG hb1
          clear hb1 ho
          generalize asgI T (p : Int) = L at *
          go_wp2_with fail
          go_ret
          exact ⟨ret_int HQ.out.symm, HB.out⟩
        · have HQ := hideG (show parF T n = (p : Int) by unfold parF; rw [e1, e, Int.toNat_natCast, hk, hr, ha]; rfl)
          have hz : (asgI T (p : Int)).length = 0 := by simpa using ha
          rw [e] at g2
          clear hT hS hct hN hm e hP e1 hr ha
          go_enter Tryz.func156, Tryz.ntmps156
          go_wp2_with fail
          refine (laidInto_any T HM.out HS.out _ p hpl _ HT.out).mono ?_
          rintro e w1 ⟨a, c, rfl, ho, hb1⟩
          rw [hz]
          have HB := hideG hb1
          clear hb1 ho hz
          go_wp2_with fail
          go_ret
          exact ⟨ret_int HQ.out.symm, HB.out⟩
    · have HQ := hideG (show parF T n = hostS T (n : Int) by unfold parF; rw [e1, e, Int.toNat_natCast, hk]; rfl)
      rw [e] at g2
      clear hT hS hct hN hm e hP e1
      go_enter Tryz.func156, Tryz.ntmps156
      go_wp2_with fail
      refine (shadeHost_any T HS.out _ _ _ HT.out).mono ?_
      rintro e w1 ⟨rfl, hb1⟩
      have HB := hideG hb1
      clear hb1
      go_wp2_with fail
      go_ret
      exact ⟨ret_int HQ.out.symm, HB.out⟩
section
attribute [local go_sem] Oper.semAt_some
theorem upF_none {T : List Nd} {n : Nat} (hn : n < T.length) (h : parF T n = -1) : upF T n = [n] := by
  unfold upF
  obtain ⟨k, hk⟩ : ∃ k, T.length = k + 1 := ⟨T.length - 1, by omega⟩
  rw [hk, upG, h]; rfl
theorem upF_some {T : List Nd} (hm : mayB T = true) {n m : Nat} (hn : n < T.length) (h : parF T n = (m : Int)) : m < T.length ∧ upF T n = n :: upF T m ∧ rkF T m < rkF T n := by
  rcases (fitsF hm).par n hn with e | ⟨p, hp, e, hmem⟩
  · omega
  · have : p = m := by omega
    subst this
    exact ⟨hp, (forest6 hm).up p hp n hmem, (forest6 hm).rank p hp n hmem⟩
theorem upF_le {T : List Nd} (hm : mayB T = true) {n : Nat} (hn : n < T.length) : (upF T n).length ≤ T.length := (forest6 hm).u_len hn
theorem upF_ne (T : List Nd) (n : Nat) : ∃ r, upF T n = n :: r := by
  unfold upF
  cases T.length with
  | zero => exact ⟨[], rfl⟩
  | succ k => exact ⟨_, rfl⟩
theorem fup_in (a : Option Addr) (len cap : Nat) (n : Int) (m : Nat) (w : World) :
    CallsIn Fence.wide m Tryz.prog 130 #[.slice a len cap, .int .i64 n] w fun e w' => e = .returned (.func (.func 155) #[] #[.pointer (some ⟨w.heap.size + 1, 0, none⟩), .pointer (some ⟨w.heap.size, 0, none⟩)]) ∧ w' = (w.alloc (.cells #[.slice a len cap] 23)).alloc (.cells #[.int .i64 n] 3) := by
  refine callsIn_of_wp Tryz.func130 rfl trivial ?_ rfl
  simp only [Tryz.ntmps130, List.size_toArray, List.length_cons, List.length_nil, Nat.reduceAdd, Nat.reduceSub, Array.replicate_succ, Array.replicate_zero, List.push_toArray, List.append_toArray, List.nil_append, List.cons_append]
  gi_wp2
  go_ret
  exact ⟨rfl, rfl⟩
set_option maxRecDepth 100000 in
set_option maxHeartbeats 2000000 in
theorem fup1_in (T : List Nd) (hm : mayB T = true) (hS : Sane T) (v : Value) (n : Nat) (hn : n < T.length) (l Bn Bt : Nat) (w2 : World) (R : World → World → Prop) (hRt : ∀ {A B C : World}, R A B → R B C → R A C) (hRb : ∀ {A B : World}, R w2 A → Below A.heap.size A B → R A B) (hF : Reads R w2 v T n Bn Bt)
    (hv : ∃ b off cap, v = .slice (some ⟨b, off, none⟩) T.length cap) (J Jx : List Nat → World → Prop) (hJb : ∀ {s : List Nat} {A B : World}, J s A → Below A.heap.size A B → J s B)
    (hY : ∀ pre x W, J pre W → pre.length < T.length + 1 → YieldAt Fence.wide 4 Tryz.prog l #[.int .i64 ((x : Nat) : Int)] W fun e W' =>
      (e = .returned (.bool true) ∧ J (pre ++ [x]) W' ∧ R W W') ∨ (e = .returned (.bool false) ∧ Jx (pre ++ [x]) W'))
    (W : World) (hW : R w2 W) (h0 : J [] W) :
    CallsIn Fence.wide 5 Tryz.prog 155 #[.func (.yield l) #[] #[], .pointer (some ⟨Bn, 0, none⟩), .pointer (some ⟨Bt, 0, none⟩)] W fun e W' => (∃ v, e = .returned v) ∧
      ((∃ ys, ys = upF T n ∧ J ys W') ∨ (∃ pre, pre <+: upF T n ∧ Jx pre W')) := by
  obtain ⟨b, off, cap, rfl⟩ := hv
  have cBn := (hF W hW).2.1
  have HF : Hid (Reads R w2 (.slice (some ⟨b, off, none⟩) T.length cap) T n Bn Bt) := hF
  have HM : Hid (mayB T = true) := hm
  have HS := hideG hS
  have hpos := mayB_pos hm
  clear hF hm hS
  refine callsIn_of_wp Tryz.func155 rfl trivial ?_ rfl
  simp only [Tryz.ntmps155, List.size_toArray, List.length_cons, List.length_nil, Nat.reduceAdd, Nat.reduceSub, Array.replicate_succ, Array.replicate_zero, List.push_toArray, List.append_toArray, List.nil_append, List.cons_append]
  gi_wp2
  gi_loopw [4] (fun t wr => ∃ pre : List Nat, J pre wr ∧ R w2 wr ∧ ((∃ at_ : Nat, at_ < T.length ∧ t = .int .i64 (at_ : Int) ∧ upF T n = pre ++ upF T at_) ∨ (t = .int .i64 (-1) ∧ upF T n = pre)))
    (fun t _ => if intOf t = -1 then 0 else rkF T (intOf t).toNat + 1)
  case atStart => exact ⟨[], h0, hW, .inl ⟨n, hn, rfl, rfl⟩⟩
  case round =>
    obtain ⟨pre, hJs, hB, hrel⟩ := hrel
    rcases hrel with ⟨at_, hat, rfl, hpars⟩ | ⟨rfl, hpars⟩
    · have HP : Hid (upF T n = pre ++ upF T at_) := hpars
      clear hpars cBn
      have hat1 : ((at_ : Int) != -1) = true := by simp
      have hlenp : pre.length < T.length + 1 := by
        have h1 := upF_le HM.out hn
        rw [HP.out, List.length_append] at h1
        omega
      obtain ⟨fn, tmps, assign, body, hy, hR⟩ := hY pre at_ _ hJs hlenp
      gi_wp2_with fail
      refine hR.mono ?_
      rintro e W3 (⟨rfl, hJ3, hk3⟩ | ⟨rfl, hJx3⟩)
      · have hB3 := hRt hB hk3
        obtain ⟨hT3, _, cBt'⟩ := HF.out W3 hB3
        have HT3 := hideG hT3
        clear hT3
        gi_wp2_with fail
        refine ⟨trivial, ?_⟩
        gi_at_call 156
        refine CallsIn.mono (callsIn_wide.2 (fparent_any T HM.out HS.out _ at_ hat _ HT3.out)) ?_
        rintro e W4 ⟨rfl, hb4⟩
        have hJ4 := hJb hJ3 hb4
        have hB4 := hRt hB3 (hRb hB3 hb4)
        clear hb4 hJ3 hk3 cBt'
        rcases parF_cases HM.out hat with e | ⟨m, hml, e, _⟩
        · have HQ := hideG (upF_none hat e)
          rw [e]
          clear e
          gi_wp2_with fail
          go_roundw
          case rel => exact ⟨pre ++ [at_], hJ4, hB4, .inr ⟨rfl, by rw [HP.out, HQ.out]⟩⟩
          case measure =>
            have h2 : ¬ ((at_ : Int) = -1) := by omega
            simp [intOf, h2]
        · have HQ := hideG (upF_some HM.out hat e)
          rw [e]
          clear e
          gi_wp2_with fail
          go_roundw
          case rel => exact ⟨pre ++ [at_], hJ4, hB4, .inl ⟨m, hml, rfl, by rw [HP.out, HQ.out.2.1]; simp⟩⟩
          case measure =>
            have := HQ.out.2.2
            simp [intOf]
            omega
      · gi_wp2_with fail
        refine bodyPost_ret (results_none rfl _ _ _) rfl ?_
        refine ⟨⟨_, rfl⟩, .inr ⟨pre ++ [at_], ?_, hJx3⟩⟩
        rw [HP.out]
        obtain ⟨r, hr⟩ := upF_ne T at_
        exact ⟨r, by rw [hr]; simp⟩
    · gi_wp2_with fail
      go_end0
      exact ⟨⟨_, rfl⟩, .inl ⟨pre, hpars.symm, hJs⟩⟩
theorem abides_below {β : Type} {M : Nat} {J : β → World → Prop} (hJ : AbidesFrom M J) {s : β} {A B : World} (h : J s A) (hb : Below A.heap.size A B) : J s B :=
  hJ s A B none h ⟨hb.os, hb.tape, hb.output, hb.size, fun k hk _ => hb.block k hk⟩ (fun r e => by cases e)
theorem fup_stops (T : List Nd) (hm : mayB T = true) (hS : Sane T) (v : Value) (n : Nat) (hn : n < T.length) (Bn Bt : Nat) (w2 : World) (R : World → World → Prop) (hRt : ∀ {A B C : World}, R A B → R B C → R A C) (hR0 : ∀ W, Below w2.heap.size w2 W → R w2 W) (hRb : ∀ {A B : World}, R w2 A → Below A.heap.size A B → R A B) (hF : Reads R w2 v T n Bn Bt)
    (hv : ∃ b off cap, v = .slice (some ⟨b, off, none⟩) T.length cap) :
    SeqStopsK Fence.wide 5 Tryz.prog 155 #[.pointer (some ⟨Bn, 0, none⟩), .pointer (some ⟨Bt, 0, none⟩)] (fun x : Nat => #[Value.int .i64 (x : Int)]) R (fun ys => ys = upF T n) (fun pre => pre <+: upF T n) (T.length + 1) w2 :=
  fun l J Jx W hW hJ _ hY h0 => fup1_in T hm hS v n hn l Bn Bt w2 R hRt hRb hF hv J Jx (fun h hb => abides_below hJ h hb) hY W (hR0 W hW) h0
set_option maxRecDepth 100000 in
set_option maxHeartbeats 2000000 in
theorem fappendSeq_in (T : List Nd) (hm : mayB T = true) (hS : Sane T) (n : Nat) (hn : n < T.length) (b off cap Bn Bt : Nat) (w : World) (hT : TreeAt w (.slice (some ⟨b, off, none⟩) T.length cap) T) (hBn : w.cell? ⟨Bn, 0, none⟩ = some (.int .i64 (n : Int))) (hBt : w.cell? ⟨Bt, 0, none⟩ = some (.slice (some ⟨b, off, none⟩) T.length cap)) :
    CallsIn Fence.wide 6 Tryz.prog 154 #[.slice none 0 0, .func (.func 155) #[] #[.pointer (some ⟨Bn, 0, none⟩), .pointer (some ⟨Bt, 0, none⟩)]] w fun e W' => ∃ a c, e = .returned (.slice a (upF T n).length c) ∧ W'.ownsRow w.heap.size 3 1 (.slice a (upF T n).length c) (upF T n).length (natCells (upF T n)) ∧ Below w.heap.size w W' := by
  obtain ⟨i3, hi3, hz30, hz31, hz32⟩ := info_parts infoT3
  have HT : Hid (TreeAt w (.slice (some ⟨b, off, none⟩) T.length cap) T) := hT
  have hpos := mayB_pos hm
  have hbn : Bn < w.heap.size := below_of_cell hBn
  have hbt : Bt < w.heap.size := below_of_cell hBt
  clear hT
  refine callsIn_of_wp_marks Tryz.func154 rfl trivial ?_ rfl
  simp only [Tryz.ntmps154, List.size_toArray, List.length_cons, List.length_nil, Nat.reduceAdd, Nat.reduceSub, Array.replicate_succ, Array.replicate_zero, List.push_toArray, List.append_toArray, List.nil_append, List.cons_append]
  gi_wp2
  have c0 := cell_new_l w (.slice none 0 0) 24
  have hB0 : Below w.heap.size w (w.alloc (.cells #[.slice none 0 0] 24)) := (Below.refl _ w).alloc (Nat.le_refl _) _
  have hsz : (w.alloc (.cells #[.slice none 0 0] 24)).heap.size = w.heap.size + 1 := by simp
  have hF : Reads (But (w.alloc (.cells #[.slice none 0 0] 24)).heap.size w.heap.size) (w.alloc (.cells #[.slice none 0 0] 24)) (.slice (some ⟨b, off, none⟩) T.length cap) T n Bn Bt := fun W hW => ⟨HT.out.but hB0 hW (by omega) (Nat.le_refl _), (hW.cell (by omega) (by omega)).trans (cell_below hB0 hBn), (hW.cell (by omega) (by omega)).trans (cell_below hB0 hBt)⟩
  refine wpIn_rangeFunc_ownF rfl (by omega) (gf := 155) (lb := #[.pointer (some ⟨Bn, 0, none⟩), .pointer (some ⟨Bt, 0, none⟩)]) rfl trivial (enters_of Tryz.func155 (by kernel_rfl) rfl)
    (fup_stops T hm hS _ n hn Bn Bt _ (But (w.alloc (.cells #[.slice none 0 0] 24)).heap.size w.heap.size) But.trans (fun W hW => But.of_below hW (Nat.le_refl _)) (fun hA hb => But.of_below hb (by have := hA.size; omega)) hF ⟨b, off, cap, rfl⟩) But.trans (but_b (Nat.le_refl _)) (Below.refl _ _) (fun _ => rfl)
    (fun pre W => (∃ v, W.cell? ⟨w.heap.size, 0, none⟩ = some v ∧ W.frozen? ⟨w.heap.size, 0, none⟩ = false ∧ W.ownsRow (w.heap.size + 1) 3 1 v pre.length (natCells pre)) ∧ Below w.heap.size w W)
    (fun _ _ _ => False)
    (OwnFrom.and (Own.from (fun s A B row hs hg hr => by
      obtain ⟨v, h1, h2, h3⟩ := hs
      exact ⟨v, cell_kept h1 hg hr, (frozen_kept h1 hg hr).trans h2, ownsRow_walk h3 hg hr⟩) _) (ownFrom_below (Nat.le_refl _) (by simp)))
    (fun c => fun s A B row hs _ _ => hs.elim)
    ⟨⟨.slice none 0 0, c0.1, c0.2, by exact World.ownsRow_nil _ _ _ _⟩, hB0⟩
    (fun x => { tmps := #[.slice none 0 0, .func (.func 155) #[] #[.pointer (some ⟨Bn, 0, none⟩), .pointer (some ⟨Bt, 0, none⟩)], .pointer (some ⟨w.heap.size, 0, none⟩), undef, .slice none 0 0, .int .i64 (x : Int), .func (.func 155) #[] #[.pointer (some ⟨Bn, 0, none⟩), .pointer (some ⟨Bt, 0, none⟩)], .int .i64 (x : Int), undef, undef, undef, undef, undef], defers := [] }) ?assign ?body ?done ?stop
  case assign =>
    intro l x W K hK
    gi_wp2
    exact hK
  case body =>
    rintro l pre x W ⟨⟨v, hc, hf, hown⟩, hB⟩ hlen
    obtain ⟨va, vc, rfl⟩ := ownsRow_shape hown
    have HOW := hideG hown
    have HB := hideG hB
    have hs := hB.size
    have hlt : w.heap.size < W.heap.size := below_of_cell hc
    clear hown hB
    have hcl : pre.length ≤ 100 := by omega
    gi_wp2_with (gi_at_builtin; refine wpListIn_append_own _ rfl _ _ 24 rfl (w.heap.size + 1) 3 i3 _ 1 8 Tryz.underlying24 hi3 hz30 hz31 hz32 rfl (by decide) _ pre.length (natCells pre) rfl (HOW.out.alloc _) ⟨W.heap.size, 0, none⟩ 1 1 [.int .i64 (x : Int)] rfl rfl ?h1 ?h2 ?h3 ?h4 ?h5 ?_)
    case h1 =>
      intro j u hj
      rw [addr_add, Nat.zero_add, World.cell?_alloc_at _ _ _ _ (by simp)]
      simpa using hj
    case h2 => intro u hu; simp at hu; subst hu; rfl
    case h3 => simp only [maxLen]; omega
    case h4 => omega
    case h5 => simp; omega
    intro v' w' hown' hg' _
    obtain ⟨a4, c4, rfl⟩ := ownsRow_shape hown'
    rw [natCells_snoc] at hown'
    have hne0 : some w.heap.size ≠ Value.ownBlock (.slice va pre.length vc) := fun e => by have := (HOW.out.lt _ e.symm).1; omega
    have hc' : w'.cell? ⟨w.heap.size, 0, none⟩ = some (.slice va pre.length vc) := (World.cell?_of_block (a := ⟨w.heap.size, 0, none⟩) (hg'.block w.heap.size (by simp; omega) hne0)).trans ((World.cell?_alloc_past _ _ _ hlt).trans hc)
    have hf' : w'.frozen? ⟨w.heap.size, 0, none⟩ = false := (World.frozen?_of_block (a := ⟨w.heap.size, 0, none⟩) (hg'.block w.heap.size (by simp; omega) hne0)).trans ((World.frozen?_alloc_past _ _ _ hlt).trans hf)
    have HO' := hideG hown'
    have HKO := hideG (show KeepsOthers W w' from (KeepsOthers.alloc W (.cells #[.int .i64 (x : Int)] 3)).trans (KeepsOthers.of_grownBy hg' (fun j o e ho => by
      rcases (HOW.out.alloc (.cells #[.int .i64 (x : Int)] 3)).2 with ⟨e0, _⟩ | ⟨g, cap, cur, e0, _, hcur, _⟩
      · rw [e0] at e; cases e
      · rw [e0] at e; cases e
        rw [hcur] at ho; cases ho; rfl)))
    have HB' := hideG ((HB.out.alloc hs (.cells #[.int .i64 (x : Int)] 3)).grown hg' (by simp; omega) (fun j e => by have := (HOW.out.lt j e).1; omega))
    have HBut := hideG (show But (w.heap.size + 1) w.heap.size W w' from ⟨by have := hg'.size; simp at this; omega, fun j hj hx => (hg'.block j (by simp; omega) (fun e => by have := (HOW.out.lt j e.symm).1; omega)).trans ((Below.refl W.heap.size W).alloc (Nat.le_refl _) (.cells #[.int .i64 (x : Int)] 3) |>.block j (by omega))⟩)
    clear hown' hg'
    gi_wp2
    refine ⟨HKO.out.trans (KeepsOthers.setCell _ _ _), ?_, ⟨.slice a4 (pre.length + 1) c4, World.cell?_setCell_same' _ _ _ (by rw [hc']; rfl), by rw [World.frozen?_setCell]; exact hf', ?_⟩, HB'.out.setCell (p := ⟨w.heap.size, 0, none⟩) (by simp) _⟩
    · rw [hsz]; exact HBut.out.setCell _
    · have hkept := ownsRow_kept_set (g := w.heap.size) (j := 0) (u := .slice a4 (pre.length + 1) c4) HO'.out (fun e => by have := (HO'.out.lt _ e).1; omega)
      simpa using hkept
  case done =>
    rintro D ys W hD rfl ⟨⟨v, hc, hf, hown⟩, hB⟩ hK
    obtain ⟨va, vc, rfl⟩ := ownsRow_shape hown
    have hxx := ownsRow_walk (B := W.putObj D (.deferred none)) hown (grownBy_putObj' W D (.deferred none)) (fun r e => by cases e; exact ⟨_, hK, rfl⟩)
    gi_wp2
    refine ⟨by simp, .inl ⟨_, _, rfl, run_takeDeferred hK, ?_⟩⟩
    refine ⟨.slice va (upF T n).length vc, ?_, va, vc, rfl, ownsRow_base hxx (by omega), hB.trans (belowK_b (w := w) (Nat.le_refl _) _ D _ _ (by simp at hD; omega) hK rfl rfl)⟩
    simp [results, Tryz.f154, go_sem]
  case stop =>
    rintro D c pre W hD hpre h hK
    exact h.elim
theorem fcollect_any (T : List Nd) (hm : mayB T = true) (hS : Sane T) (n : Nat) (hn : n < T.length) (b off cap Bn Bt : Nat) (w : World) (hT : TreeAt w (.slice (some ⟨b, off, none⟩) T.length cap) T) (hBn : w.cell? ⟨Bn, 0, none⟩ = some (.int .i64 (n : Int))) (hBt : w.cell? ⟨Bt, 0, none⟩ = some (.slice (some ⟨b, off, none⟩) T.length cap)) :
    Calls Tryz.prog 129 #[.func (.func 155) #[] #[.pointer (some ⟨Bn, 0, none⟩), .pointer (some ⟨Bt, 0, none⟩)]] w fun e W' => ∃ a c, e = .returned (.slice a (upF T n).length c) ∧ W'.ownsRow w.heap.size 3 1 (.slice a (upF T n).length c) (upF T n).length (natCells (upF T n)) ∧ Below w.heap.size w W' := by
  have H := hideG (callsIn_wide.1 (fappendSeq_in T hm hS n hn b off cap Bn Bt w hT hBn hBt))
  clear hT hBn hBt
  go_enter Tryz.func129, Tryz.ntmps129
  go_wp2_with (go_at_call 154; refine H.out.mono ?_; rintro e w1 ⟨a, c, rfl, ho, hb⟩)
  go_ret
  exact ⟨a, c, rfl, ho, hb⟩
/-- flat.Up. -/
def fupI (T : List Nd) (n : Int) : List Int := if knownB T [n] then castL (upF T n.toNat) else []
set_option maxRecDepth 100000 in
set_option maxHeartbeats 2000000 in
theorem flatUp_any (T : List Nd) (hS : Sane T) (v : Value) (n : Int) (w : World) (hT : TreeAt w v T) :
    Calls Tryz.prog 96 #[v, .int .i64 n] w fun e w' => ∃ a c, e = .returned (.slice a (fupI T n).length c) ∧ w'.ownsRow w.heap.size 3 1 (.slice a (fupI T n).length c) (fupI T n).length (intCells (fupI T n)) ∧ Below w.heap.size w w' := by
  have HS := hideG hS
  have HT0 := hideG hT
  cases hk : knownB T [n]
  · obtain ⟨a, cap, rfl⟩ := hT.shape
    clear hT hS
    have hq : fupI T n = [] := by simp [fupI, hk]
    rw [hq]
    have HK := hideG hk
    clear hk hq
    go_enter Tryz.func96, Tryz.ntmps96
    go_wp2_with (go_at_call 128; refine (fknown_any T HS.out _ n _ HT0.out).mono ?_; rintro e w1 ⟨rfl, hb1⟩; rw [HK.out]; have HB1 := hideG hb1; clear hb1)
    go_ret
    exact ⟨none, 0, rfl, World.ownsRow_nil _ _ _ _, HB1.out⟩
  · obtain ⟨hm, m, rfl, hml⟩ := known_one hk
    obtain ⟨b, off, cap, rfl, _⟩ := hT.at (by omega)
    clear hT hS
    have hq : fupI T m = castL (upF T m) := by simp [fupI, hk]
    rw [hq]
    have HM := hideG hm
    have HK := hideG hk
    clear hm hq hk
    go_enter Tryz.func96, Tryz.ntmps96
    go_wp2_with (first | (go_at_call 128; refine (fknown_any T HS.out _ _ _ HT0.out).mono ?_; rintro e w1 ⟨rfl, hb1⟩; rw [HK.out]; have HB1 := hideG hb1; clear hb1) | (go_at_call 130; refine (callsIn_wide.1 (fup_in _ _ _ _ 0 _)).mono ?_; rintro e w2 ⟨rfl, hw2⟩; have HW2 := hideG hw2; clear hw2))
    have d1 := cell_new_l w1 (.slice (some ⟨b, off, none⟩) T.length cap) 23
    have d2 := cell_new_l (w1.alloc (.cells #[.slice (some ⟨b, off, none⟩) T.length cap] 23)) (.int .i64 (m : Int)) 3
    simp only [World.size_alloc] at d2
    have hBB : Below w1.heap.size w1 ((w1.alloc (.cells #[.slice (some ⟨b, off, none⟩) T.length cap] 23)).alloc (.cells #[.int .i64 (m : Int)] 3)) := ((Below.refl _ w1).alloc (Nat.le_refl _) _).alloc (by simp) _
    have hw := HW2.out
    subst hw
    refine (fcollect_any T HM.out HS.out m hml b off cap (w1.heap.size + 1) w1.heap.size _ (HT0.out.below (HB1.out.trans (hBB.mono HB1.out.size))) d2.1 (cell_alloc_l _ d1.1)).mono ?_
    rintro e w3 ⟨a3, c3, rfl, ho3, hb3⟩
    have HB3 := hideG ((HB1.out.trans (hBB.mono HB1.out.size)).trans (hb3.mono (HB1.out.trans (hBB.mono HB1.out.size)).size))
    have HO3 := hideG (ownsRow_base ho3 (HB1.out.trans (hBB.mono HB1.out.size)).size)
    clear ho3 hb3 d1 d2 hBB
    go_wp2_with fail
    go_ret
    exact ⟨a3, c3, by simp [castL], by simpa [natCells, castL] using HO3.out, HB3.out⟩
/-- Is somebody above, in the flat tree? -/
def fabvB (T : List Nd) (a : Int) (n : Nat) : Bool := (upF T n).any fun x => (x : Int) == a
def faboveI (T : List Nd) (a b : Int) : Bool := knownB T [b] && fabvB T a b.toNat
end
theorem kidsF_le {T : List Nd} (hm : mayB T = true) {n : Nat} (hn : n < T.length) : (kidsF T n).length ≤ 64 := by
  have h1 := pigeonF T.length (chF T n) ((fitsF hm).nd n hn) (fun x hx => (fitsF hm).lt n hn x hx)
  have h2 := (mayB_fine hm).le
  have h3 : (chF T n).length = (kidsF T n).length := by simp [chF]
  omega
/-- A row that grows, and may move: all else stays. -/
structure Moved (v : Value) (w : World) (v' : Value) (w' : World) : Prop where
  size : w.heap.size ≤ w'.heap.size
  block : ∀ k, k < w.heap.size → v.ownBlock ≠ some k → w'.heap[k]? = w.heap[k]?
  own : ∀ k, v'.ownBlock = some k → v.ownBlock = some k ∨ w.heap.size ≤ k
theorem Moved.refl (v : Value) (w : World) : Moved v w v w := ⟨Nat.le_refl _, fun _ _ _ => rfl, fun _ h => .inl h⟩
theorem Moved.trans {v v' v'' : Value} {w w' w'' : World} (h : Moved v w v' w') (k : Moved v' w' v'' w'') : Moved v w v'' w'' := by
  refine ⟨Nat.le_trans h.size k.size, fun j hj hx => ?_, fun j hj => ?_⟩
  · have hs := h.size
    refine (k.block j (by omega) (fun e => ?_)).trans (h.block j hj hx)
    rcases h.own j e with h1 | h1
    · exact hx h1
    · omega
  · rcases k.own j hj with h1 | h1
    · exact h.own j h1
    · have := h.size
      exact .inr (by omega)
theorem Moved.below {v v' : Value} {w w' w'' : World} (h : Moved v w v' w') (_hv : ∀ k, v'.ownBlock = some k → k < w'.heap.size) (hb : Below w'.heap.size w' w'') : Moved v w v' w'' :=
  ⟨Nat.le_trans h.size hb.size, fun k hk hx => (hb.block k (by have := h.size; omega)).trans (h.block k hk hx), h.own⟩
set_option maxRecDepth 100000 in
set_option maxHeartbeats 2000000 in
theorem refKids6_at (T : List Nd) (hm : mayB T = true) (hS : Sane T) (v : Value) (n : Nat) (hn : n < T.length) (W w : World) (hT : TreeAt W v T) (hW : Below W.heap.size W w) :
    Calls Tryz.prog 104 #[v, .int .i64 (n : Int)] w fun e w' => ∃ a c, e = .returned (.slice a (kidsF T n).length c) ∧ (IntsAt W (.slice a (kidsF T n).length c) (kidsF T n) ∨ w'.ownsRow w.heap.size 3 1 (.slice a (kidsF T n).length c) (kidsF T n).length (intCells (kidsF T n))) ∧ Below w.heap.size w w' := by
  have HT := hideG (hT.below hW)
  have HS := hideG hS
  have HM := hideG hm
  obtain ⟨tb, to, tc, rfl, hct⟩ := hT.at (by omega)
  obtain ⟨kv, av, hN⟩ := hct n hn
  have g0 := cell_below hW hN.kind
  have g3 := cell_below hW hN.kidsc
  have g5 := cell_below hW hN.root
  have HK := hideG hN.kids
  obtain ⟨ka, kc, hkv⟩ := hN.kids.shape
  subst hkv
  have hn0 : (0 : Int) ≤ (n : Int) := by omega
  have htb : tb < w.heap.size := below_of_cell g0
  cases hk : ((nd T n).kind == 3)
  · cases hr : ((nd T n).root == -1)
    · obtain ⟨r, hrr, hrl, _⟩ := root_facts (mayB_fine hm) hn hr
      have hq : kidsF T n = (nd T r).kids := by unfold kidsF; rw [hk, hr, hrr, Int.toNat_natCast]; rfl
      rw [hq]
      obtain ⟨kv', av', hR⟩ := hct r hrl
      have r3 := cell_below hW hR.kidsc
      have HK' := hideG hR.kids
      obtain ⟨ka', kc', hkv'⟩ := hR.kids.shape
      subst hkv'
      have hr0 : (0 : Int) ≤ (r : Int) := by omega
      have hrn : ((r : Int) == -1) = false := by simp
      rw [hrr] at g5
      clear hT hW hS hct hN hm hq hR hr hrr
      go_enter Tryz.func104, Tryz.ntmps104
      go_wp2_with fail
      go_ret
      exact ⟨ka', kc', rfl, Or.inl HK'.out, Below.refl _ _⟩
    · have hr1 : (nd T n).root = -1 := by simpa using hr
      rw [hr1] at g5
      cases he : ((asgI T (n : Int)).length == 0)
      · have hq : kidsF T n = asgI T (n : Int) := by unfold kidsF; rw [hk, hr, he]; rfl
        rw [hq]
        have hpos : (0 : Int) < ((asgI T (n : Int)).length : Int) := by
          have : (asgI T (n : Int)).length ≠ 0 := by simpa using he
          omega
        clear hT hW hS hct hN hm hq hr he hr1
        go_enter Tryz.func104, Tryz.ntmps104
        go_wp2_with fail
        refine (refAsg5_any T HM.out HS.out _ n hn _ HT.out).mono ?_
        rintro e w1 ⟨a, c, rfl, ho, hb⟩
        have HI := hideG ho
        have HB := hideG hb
        clear ho hb g0 g3 g5
        go_wp2_with fail
        go_ret
        exact ⟨a, c, rfl, Or.inr HI.out, HB.out⟩
      · have hq : kidsF T n = (nd T n).kids := by unfold kidsF; rw [hk, hr, he]; rfl
        rw [hq]
        have hz : (asgI T (n : Int)).length = 0 := by simpa using he
        clear hT hW hS hct hN hm hq hr he hr1
        generalize (nd T n).kids = KL at *
        go_enter Tryz.func104, Tryz.ntmps104
        go_wp2_with fail
        refine (refAsg5_any T HM.out HS.out _ n hn _ HT.out).mono ?_
        rintro e w1 ⟨a, c, rfl, ho, hb⟩
        rw [hz]
        have HB := hideG hb
        have q3 := cell_below hb g3
        clear ho hb hz g0 g3 g5
        go_wp2_with fail
        go_ret
        exact ⟨ka, kc, rfl, Or.inl HK.out, HB.out⟩
  · have hq : kidsF T n = [] := by unfold kidsF; rw [hk]; rfl
    rw [hq]
    clear hT hW hS hct hN hm hq
    go_enter Tryz.func104, Tryz.ntmps104
    go_wp2_with fail
    go_ret
    exact ⟨none, 0, rfl, Or.inl ⟨none, 0, rfl, fun h => by simp at h⟩, Below.refl _ _⟩
theorem refKids6_any (T : List Nd) (hm : mayB T = true) (hS : Sane T) (v : Value) (n : Nat) (hn : n < T.length) (w : World) (hT : TreeAt w v T) :
    Calls Tryz.prog 104 #[v, .int .i64 (n : Int)] w fun e w' => ∃ a c, e = .returned (.slice a (kidsF T n).length c) ∧ IntsAt w' (.slice a (kidsF T n).length c) (kidsF T n) ∧ Below w.heap.size w w' := by
  refine (refKids6_at T hm hS v n hn w w hT (Below.refl _ _)).mono ?_
  rintro e w' ⟨a, c, rfl, h, hb⟩
  rcases h with h | h
  · exact ⟨a, c, rfl, h.below hb, hb⟩
  · exact ⟨a, c, rfl, ownsRow_ints h, hb⟩
theorem kid_par {T : List Nd} (hm : mayB T = true) {p n : Nat} (hp : p < T.length) (hn : n < T.length) : containsB (kidsF T p) (n : Int) = (parF T n == (p : Int)) := by
  unfold containsB
  cases h : (parF T n == (p : Int))
  · refine decide_eq_false (fun hx => ?_)
    rw [parF_kid hm hp hn hx] at h
    simp at h
  · refine decide_eq_true ?_
    have h1 : parF T n = (p : Int) := by simpa using h
    rcases parF_cases hm hn with e | ⟨q, _, e, hmem⟩
    · omega
    · have : q = p := by omega
      subst this
      exact hmem
set_option maxRecDepth 100000 in
set_option maxHeartbeats 2000000 in
theorem refParent6_any (T : List Nd) (hm : mayB T = true) (hS : Sane T) (v : Value) (n : Nat) (hn : n < T.length) (w : World) (hT : TreeAt w v T) :
    Calls Tryz.prog 51 #[v, .int .i64 (n : Int)] w fun e w' => e = .returned (.int .i64 (parF T n)) ∧ Below w.heap.size w w' := by
  have HT := hideG hT
  have HS := hideG hS
  have HM := hideG hm
  obtain ⟨ta, tc, rfl⟩ := hT.shape
  have hpos := mayB_pos hm
  clear hT hS hm
  go_enter Tryz.func51, Tryz.ntmps51
  go_wp2_with fail
  go_loopw [5] (fun i wr => ∃ k : Nat, k ≤ T.length ∧ i = .int .i64 k ∧ (∀ q, q < k → (parF T n == (q : Int)) = false) ∧ Below w.heap.size w wr) (fun i _ => T.length - (intOf i).toNat)
  case atStart => exact ⟨0, Nat.zero_le _, rfl, fun q h => by omega, Below.refl _ _⟩
  case round =>
    obtain ⟨k, hk, rfl, hno, hB⟩ := hrel
    have HNO := hideG hno
    have HB := hideG hB
    clear hno hB
    by_cases hlt : k < T.length
    · have HC := hideG (kid_par HM.out hlt hn)
      have h64 := kidsF_le HM.out hlt
      have h6 : (kidsF T k).length ≤ 1000000 := by omega
      have H6 := hideG h6
      clear h64 h6
      go_wp2_with fail
      refine (refKids6_any T HM.out HS.out _ k hlt _ (HT.out.below HB.out)).mono ?_
      rintro e w1 ⟨a1, c1, rfl, hI, hb1⟩
      have HI := hideG hI
      have HB1 := hideG (HB.out.trans (hb1.mono HB.out.size))
      clear hI hb1
      go_wp2_with fail
      refine (refIn_any (kidsF T k) _ _ _ HI.out H6.out).mono ?_
      rintro e w2 ⟨rfl, hw2⟩
      subst hw2
      rw [HC.out]
      cases hpk : (parF T n == (k : Int))
      · have HP := hideG hpk
        clear hpk
        go_wp2_with fail
        go_roundw
        case rel => exact ⟨k + 1, by omega, by go_num, fun q hq => by
          by_cases e : q = k
          · subst e; exact HP.out
          · exact HNO.out q (by omega), HB1.out⟩
        case measure => simp [intOf]; omega
      · have HQ := hideG (show parF T n = (k : Int) by simpa using hpk)
        clear hpk
        go_wp2_with fail
        go_ret
        exact ⟨ret_int HQ.out.symm, HB1.out⟩
    · have HQ := hideG (show parF T n = -1 by
        rcases parF_cases HM.out hn with e | ⟨q, hq, e, _⟩
        · exact e
        · have := HNO.out q (by omega)
          rw [e] at this; simp at this)
      go_wp2_with fail
      go_ret
      exact ⟨ret_int HQ.out.symm, HB.out⟩
set_option maxRecDepth 100000 in
set_option maxHeartbeats 2000000 in
theorem refUp6_any (T : List Nd) (hm : mayB T = true) (hS : Sane T) (v : Value) (n : Nat) (hn : n < T.length) (w : World) (hT : TreeAt w v T) :
    Calls Tryz.prog 101 #[v, .int .i64 (n : Int)] w fun e w' => ∃ a c, e = .returned (.slice a (castL (upF T n)).length c) ∧ w'.ownsRow w.heap.size 3 1 (.slice a (castL (upF T n)).length c) (castL (upF T n)).length (intCells (castL (upF T n))) ∧ Below w.heap.size w w' := by
  obtain ⟨i3, hi3, hz30, hz31, hz32⟩ := info_parts infoT3
  have HT := hideG hT
  have HS := hideG hS
  have HM := hideG hm
  have hpos := mayB_pos hm
  obtain ⟨ta, tc, rfl⟩ := hT.shape
  clear hT hm hS
  go_enter Tryz.func101, Tryz.ntmps101
  go_wp2_with fail
  go_loopw [1, 5] (fun t o wr => ∃ (pre : List Nat) (oa : Option Addr) (oc : Nat), o = .slice oa (castL pre).length oc ∧ wr.ownsRow w.heap.size 3 1 (.slice oa (castL pre).length oc) (castL pre).length (intCells (castL pre)) ∧ Below w.heap.size w wr ∧ ((∃ q : Nat, q < T.length ∧ t = .int .i64 (q : Int) ∧ upF T n = pre ++ upF T q) ∨ (t = .int .i64 (-1) ∧ upF T n = pre)))
    (fun t _ _ => if intOf t = -1 then 0 else rkF T (intOf t).toNat + 1)
  case atStart => exact ⟨[], none, 0, rfl, World.ownsRow_nil _ _ _ _, Below.refl _ _, .inl ⟨n, hn, rfl, rfl⟩⟩
  case round =>
    obtain ⟨pre, oa, oc, rfl, hown, hB, hrel⟩ := hrel
    have HOW := hideG hown
    have HB := hideG hB
    clear hown hB
    rcases hrel with ⟨q, hq, rfl, hp⟩ | ⟨rfl, hp⟩
    · have HP := hideG hp
      have hplen : (castL pre).length ≤ 100 := by
        have h1 := upF_le HM.out hn
        rw [hp, List.length_append] at h1
        rw [castL_length]; omega
      have hq1 : ((q : Int) != -1) = true := by simp
      clear hp
      have hsnoc : castL pre ++ [(q : Int)] = castL (pre ++ [q]) := by simp [castL]
      have HSN := hideG hsnoc
      clear hsnoc
      generalize hcur : castL pre = cur at *
      have hor : ∃ nx : Int, parF T q = nx ∧ ((∃ m : Nat, m < T.length ∧ nx = (m : Int) ∧ upF T q = q :: upF T m ∧ rkF T m < rkF T q) ∨ (nx = -1 ∧ upF T q = [q])) := by
        rcases parF_cases HM.out hq with e | ⟨m, hml, e, _⟩
        · exact ⟨-1, e, .inr ⟨rfl, upF_none hq e⟩⟩
        · have := upF_some HM.out hq e
          exact ⟨m, e, .inl ⟨m, hml, rfl, this.2.1, this.2.2⟩⟩
      obtain ⟨nx, hnx, hor⟩ := hor
      have HOR := hideG hor
      have HNX := hideG hnx
      clear hnx hor
      go_wp2_with (at_builtin; refine wpList_append_any rfl (.tmp 8) (.tmp 10) 24 rfl w.heap.size 3 i3 _ 1 8 Tryz.underlying24 hi3 hz30 hz31 hz32 rfl (by decide) _ cur.length (intCells cur) rfl (HOW.out.alloc _) _ 1 [.int .i64 (q : Int)] rfl (row_new1 _ _) rfl ?h2 ?h3 ?h4 ?h5 ?_)
      case h2 => intro y hy; simp at hy; subst hy; rfl
      case h3 => simp only [maxLen]; omega
      case h4 => omega
      case h5 => have := HB.out.size; simp; omega
      intro v4 w4 ho4 hg4 hf4
      obtain ⟨a4, c4, rfl⟩ := ownsRow_shape ho4
      rw [intCells_snoc, HSN.out] at ho4
      have HB4 := hideG ((HB.out.alloc HB.out.size (.cells #[.int .i64 (q : Int)] 3)).grown hg4 (by have := HB.out.size; simp; omega) (fun j e => (HOW.out.lt j e).1))
      have hl4 : (castL (pre ++ [q])).length = cur.length + 1 := by rw [← HSN.out]; simp
      have HL4 := hideG hl4
      have HO4 := hideG ho4
      clear ho4 hg4 hf4 hl4
      go_wp2_with fail
      refine (refParent6_any T HM.out HS.out _ q hq _ (HT.out.below HB4.out)).mono ?_
      rintro e w5 ⟨rfl, hb5⟩
      rw [HNX.out]
      have HB5 := hideG (HB4.out.trans (hb5.mono HB4.out.size))
      have HO5 := hideG (ownsRow_below HO4.out hb5 (fun j e => (HO4.out.lt j e).2))
      clear hb5
      go_wp2_with fail
      go_roundw
      case rel =>
        refine ⟨pre ++ [q], a4, c4, by rw [HL4.out], by rw [HL4.out]; exact HO5.out, HB5.out, ?_⟩
        rcases HOR.out with ⟨m, hml, rfl, hpm, _⟩ | ⟨rfl, hpm⟩
        · exact .inl ⟨m, hml, rfl, by rw [HP.out, hpm]; simp⟩
        · exact .inr ⟨rfl, by rw [HP.out, hpm]⟩
      case measure =>
        have h2 : ¬ ((q : Int) = -1) := by omega
        rcases HOR.out with ⟨m, hml, rfl, hpm, hlt⟩ | ⟨rfl, hpm⟩
        · have h1 : ¬ ((m : Int) = -1) := by omega
          simp only [intOf, h1, h2, if_false, Int.toNat_natCast]; omega
        · simp [intOf, h2]
    · have HP := hideG hp
      clear hp
      go_wp2_with fail
      go_ret
      rw [HP.out]
      exact ⟨oa, oc, rfl, HOW.out, HB.out⟩
theorem fabv_contains {T : List Nd} {a : Int} {n : Nat} : containsB (castL (upF T n)) a = fabvB T a n := by
  unfold containsB fabvB castL
  rw [Bool.eq_iff_iff, decide_eq_true_iff, List.any_eq_true]
  constructor
  · intro h
    obtain ⟨x, hx, e⟩ := List.mem_map.mp h
    exact ⟨x, hx, by simp [e]⟩
  · rintro ⟨x, hx, e⟩
    exact List.mem_map.mpr ⟨x, hx, by simpa using e⟩
theorem castUp_le {T : List Nd} (hm : mayB T = true) {n : Nat} (hn : n < T.length) : (castL (upF T n)).length ≤ 1000000 := by
  have h1 := upF_le hm hn
  have h2 := (mayB_fine hm).le
  rw [castL_length]; omega
set_option maxHeartbeats 1000000 in
theorem refAbove6_any (T : List Nd) (hm : mayB T = true) (hS : Sane T) (v : Value) (a : Int) (n : Nat) (hn : n < T.length) (w : World) (hT : TreeAt w v T) :
    Calls Tryz.prog 53 #[v, .int .i64 a, .int .i64 (n : Int)] w fun e w' => e = .returned (.bool (fabvB T a n)) ∧ Below w.heap.size w w' := by
  have HT := hideG hT
  have HS := hideG hS
  have HM := hideG hm
  have HL := hideG (castUp_le hm hn)
  obtain ⟨ta, tc, rfl⟩ := hT.shape
  clear hT hS hm
  go_enter Tryz.func53, Tryz.ntmps53
  go_wp2_with fail
  refine (refUp6_any T HM.out HS.out _ n hn _ HT.out).mono ?_
  rintro e w1 ⟨a1, c1, rfl, ho1, hb1⟩
  have HI := hideG (ownsRow_ints ho1)
  have HB1 := hideG hb1
  clear ho1 hb1
  go_wp2_with fail
  refine (refIn_any (castL (upF T n)) _ _ _ HI.out HL.out).mono ?_
  rintro e w2 ⟨rfl, hw2⟩
  subst hw2
  rw [fabv_contains]
  go_wp2_with fail
  go_ret
  exact ⟨rfl, HB1.out⟩
set_option maxHeartbeats 1000000 in
theorem refHas6_any (T : List Nd) (hm : mayB T = true) (hS : Sane T) (v : Value) (n : Nat) (hn : n < T.length) (w : World) (hT : TreeAt w v T) :
    Calls Tryz.prog 102 #[v, .int .i64 (n : Int)] w fun e w' => e = .returned (.bool (fabvB T 0 n)) ∧ Below w.heap.size w w' := by
  have HT := hideG hT
  have HS := hideG hS
  have HM := hideG hm
  have HL := hideG (castUp_le hm hn)
  obtain ⟨ta, tc, rfl⟩ := hT.shape
  clear hT hS hm
  go_enter Tryz.func102, Tryz.ntmps102
  go_wp2_with fail
  refine (refUp6_any T HM.out HS.out _ n hn _ HT.out).mono ?_
  rintro e w1 ⟨a1, c1, rfl, ho1, hb1⟩
  have HI := hideG (ownsRow_ints ho1)
  have HB1 := hideG hb1
  clear ho1 hb1
  go_wp2_with fail
  refine (refIn_any (castL (upF T n)) _ _ _ HI.out HL.out).mono ?_
  rintro e w2 ⟨rfl, hw2⟩
  subst hw2
  rw [fabv_contains]
  go_wp2_with fail
  go_ret
  exact ⟨rfl, HB1.out⟩
end Go.Proofs.YtclhimodopgeoaaGreat

