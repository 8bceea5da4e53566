/- Part 3 of what the laws of layer 10 lean on. -/
import Derived.RangeFuncCalls
import Derived.Deep.RegionHeld3
import Derived.Deep.QuietTactic
import Derived.Test.YtclhimodopgeoaaGreatTE1
import Derived.Test.YtclhimodopgeoaaGreatTE2
namespace Go.Proofs.YtclhimodopgeoaaGreat
open Go.RowKit Go.Shelf

attribute [local go_sem] Oper.semAt_some

def dnF (T : List Nd) : Nat → Nat → List Nat
  | 0, _ => []
  | k + 1, n => n :: (nd T n).kids.flatMap fun x => dnF T k x.toNat
/-- A node, and all below its kids. -/
def dn (T : List Nd) (n : Nat) : List Nat := dnF T (T.length + 1) n

theorem dnF_stable {T : List Nd} (hm : mayB T = true) : ∀ {k n : Nat}, n < T.length → T.length < k + (upsL T n).length → ∀ j, k ≤ j → dnF T j n = dnF T k n
  | 0, n, _, h, _, _ => by have := upsL_le T n; omega
  | k + 1, n, hn, h, j, hj => by
    obtain ⟨j, rfl⟩ : ∃ j', j = j' + 1 := ⟨j - 1, by omega⟩
    rw [dnF, dnF, List.flatMap_def, List.flatMap_def]
    congr 2
    apply List.map_congr_left
    intro x hx
    obtain ⟨m, rfl, hml, ho⟩ := over_kid (mayB_fine hm) hn hx
    have hs := (upsL_some hm hml ho).1
    rw [Int.toNat_natCast]
    refine dnF_stable hm hml ?_ j (by omega)
    rw [hs, List.length_cons]; omega
theorem dn_eq {T : List Nd} (hm : mayB T = true) {n : Nat} (hn : n < T.length) : dn T n = n :: (nd T n).kids.flatMap fun x => dn T x.toNat := by
  rw [dn, dnF, List.flatMap_def, List.flatMap_def]
  congr 2
  apply List.map_congr_left
  intro x hx
  obtain ⟨m, rfl, hml, ho⟩ := over_kid (mayB_fine hm) hn hx
  have hs := (upsL_some hm hml ho).1
  rw [Int.toNat_natCast]
  refine (dnF_stable hm hml ?_ (T.length + 1) (by omega)).symm
  rw [hs, List.length_cons]; omega

theorem odown_in (a : Option Addr) (len cap : Nat) (n : Int) (m : Nat) (w : World) :
    CallsIn Fence.wide m Tryz.prog 222 #[.slice a len cap, .int .i64 n] w fun e w' => e = .returned (.func (.func 223) #[] #[.pointer (some ⟨w.heap.size + 1, 0, none⟩), .pointer (some ⟨w.heap.size, 0, none⟩)]) ∧ w' = (w.alloc (.cells #[.slice a len cap] 23)).alloc (.cells #[.int .i64 n] 3) := by
  refine callsIn_of_wp Tryz.func222 rfl trivial ?_ rfl
  simp only [Tryz.ntmps222, List.size_toArray, List.length_cons, List.length_nil, Nat.reduceAdd, Nat.reduceSub, Array.replicate_succ, Array.replicate_zero, List.push_toArray, List.append_toArray, List.nil_append, List.cons_append]
  gi_wp2
  go_ret
  exact ⟨rfl, rfl⟩

/-- A mark of a range over a function. -/
def mark (D : Nat) : Deferred := { target := .collected D, args := #[] }

set_option maxRecDepth 100000 in
set_option maxHeartbeats 4000000 in
theorem down1_in (T : List Nd) (hm : mayB T = true) (tb to tc : Nat) (w0 : World) (hT : TreeAt w0 (.slice (some ⟨tb, to, none⟩) T.length tc) T) (X : Nat) : ∀ (d n : Nat), n < T.length → T.length < d + (upsL T n).length →
    ∀ (E : Nat → Prop) (M Bn Bt : Nat) (W : World), (∀ k, E k → w0.heap.size ≤ k ∧ k < M) → M ≤ W.heap.size → X < M → Below w0.heap.size w0 W → (∀ g, ownX X W = some g → w0.heap.size ≤ g ∧ g < W.heap.size) →
    Held E X W Bn → Held E X W Bt → W.cell? ⟨Bn, 0, none⟩ = some (.int .i64 (n : Int)) → W.cell? ⟨Bt, 0, none⟩ = some (.slice (some ⟨tb, to, none⟩) T.length tc) →
    DeepSeq Tryz.prog 223 #[.pointer (some ⟨Bn, 0, none⟩), .pointer (some ⟨Bt, 0, none⟩)] (fun x : Nat => #[Value.int .i64 (x : Int)]) X M E (dn T n) W
  | 0, n, hn, h => by have := upsL_le T n; omega
  | d + 1, n, hn, hd => by
    intro E M Bn Bt W hE hMW hXM hB hown hBn hBt cn ct m l J Jx hJ hJx hY h0
    refine callsIn_wide.2 ((callsIn_wide (n := 5)).1 ?_)
    have hF := mayB_fine hm
    have hdn := dn_eq hm hn
    have hpos := mayB_pos hm
    have ih := down1_in T hm tb to tc w0 hT X d
    -- the box of yield
    obtain ⟨Wa, hWa⟩ : ∃ Wa, W.alloc (.cells #[.func (.yield l) #[] #[]] 69) = Wa := ⟨_, rfl⟩
    have hka : Kd E X W Wa := by rw [← hWa]; exact Kd.alloc W _ (by omega)
    have hsa : Wa.heap.size = W.heap.size + 1 := by rw [← hWa]; simp
    have hoa : ownX X Wa = ownX X W := by rw [← hWa]; exact ownX_block (((Below.refl W.heap.size W).alloc (Nat.le_refl _) _).block X (by omega))
    have hyb : Held E X Wa W.heap.size := ⟨by omega, fun e => by have := hE _ e; omega, by rw [hoa]; intro e; have := hown _ e; omega⟩
    have cya : Wa.cell? ⟨W.heap.size, 0, none⟩ = some (.func (.yield l) #[] #[]) := by rw [← hWa]; exact (cell_new_l W _ _).1
    have cna := hBn.cell hka cn
    have cta := hBt.cell hka ct
    have hBna := hBn.kd hka
    have hBta := hBt.kd hka
    have hBa : Below w0.heap.size w0 Wa := by rw [← hWa]; exact hB.alloc hB.size _
    have hJa : J [] Wa := by rw [← hWa]; exact hJ.alloc _ h0
    have h1l : ([] : List Nat).length < (dn T n).length := by rw [hdn]; simp
    obtain ⟨fn, tmps, assign, body, hy, hR⟩ := hY 4 [] n Wa hJa h1l
    have HR := hideG hR
    clear hR
    refine callsIn_of_wp_marks Tryz.func223 rfl trivial ?_ rfl
    simp only [Tryz.ntmps223, List.size_toArray, List.length_cons, List.length_nil, Nat.reduceAdd, Nat.reduceSub, Array.replicate_succ, Array.replicate_zero, List.push_toArray, List.append_toArray, List.nil_append, List.cons_append]
    gi_wp2
    refine HR.out.mono ?_
    clear HR hy
    rintro e W1 (⟨rfl, hJ1, hk1⟩ | ⟨rfl, hJx1, hk1⟩)
    · have ct1 := hBta.cell hk1 cta
      have cn1 := hBna.cell hk1 cna
      have hE0 : ∀ k, E k → w0.heap.size ≤ k := fun k e => (hE k e).1
      have hb0 := hB.size
      have hBB : ∀ V, Kd E X Wa V → Below w0.heap.size w0 V := fun V hV => hBa.trans (hV.below hE0 (fun g hg => by rw [hoa] at hg; exact (hown g hg).1) (by omega))
      have HBB := hideG hBB
      have hOV : ∀ V, Kd E X Wa V → ∀ g, ownX X V = some g → w0.heap.size ≤ g ∧ g < V.heap.size := fun V hV g hg => by
        have hs := hV.size
        rcases hV.own g hg with e | ⟨e1, e2⟩
        · rw [hoa] at e
          have := hown g e
          omega
        · omega
      have HOV := hideG hOV
      have hT1 := hT.below (hBB W1 hk1)
      obtain ⟨tb', to', tc', htv, hct⟩ := hT1.at (by omega)
      simp only [Value.slice.injEq, Option.some.injEq, Addr.mk.injEq, and_true, true_and] at htv
      obtain ⟨⟨rfl, rfl⟩, rfl⟩ := htv
      obtain ⟨kv, av, hN⟩ := hct n hn
      have g3 := hN.kidsc
      obtain ⟨kka, kkc, hkv⟩ := hN.kids.shape
      subst hkv
      have h64 := fine_short hF hn
      have HKI := hideG (show ∀ V, Kd E X W1 V → IntsAt V (.slice kka (nd T n).kids.length kkc) (nd T n).kids from fun V hV => by
        obtain ⟨b2, o2, c2, htv, hct⟩ := hT.at (by omega)
        simp only [Value.slice.injEq, Option.some.injEq, Addr.mk.injEq, and_true, true_and] at htv
        obtain ⟨⟨rfl, rfl⟩, rfl⟩ := htv
        obtain ⟨kv0, av0, hN0⟩ := hct n hn
        have e1 := cell_below (HBB.out W1 hk1) hN0.kidsc
        rw [g3] at e1
        injection e1 with e1
        rw [e1]
        exact hN0.kids.below (HBB.out V (hk1.trans hV)))
      clear hct hN hT1 hBB hOV
      have HK1 := hideG hk1
      have HJ1 := hideG hJ1
      have HIH := hideG ih
      clear hk1 hJ1 ih
      gi_wp2
      clear g3 ct1 cn1
      refine wpIn_loop (fun a' V => ∃ (k : Nat) (Ds : List Nat) (u4 u5 u6 u7 u8 u9 u10 u11 u12 u13 u14 u18 u19 u20 u21 u22 u23 u24 u25 u26 u27 u28 u29 : Value), a' = { tmps := #[.func (.yield l) #[] #[], .pointer (some ⟨Bn, 0, none⟩), .pointer (some ⟨Bt, 0, none⟩), .pointer (some ⟨W.heap.size, 0, none⟩), u4, u5, u6, u7, u8, u9, u10, u11, u12, u13, u14, .slice kka (nd T n).kids.length kkc, .int .i64 ((nd T n).kids.length : Int), .int .i64 (k : Int), u18, u19, u20, u21, u22, u23, u24, u25, u26, u27, u28, u29], defers := Ds.map mark } ∧ k ≤ (nd T n).kids.length ∧ J (n :: ((nd T n).kids.take k).flatMap fun x => dn T x.toNat) V ∧ Kd E X W1 V ∧ Ds.Nodup ∧ ∀ D ∈ Ds, W.heap.size ≤ D ∧ Held E X V D ∧ V.heap[D]? = some (.deferred (some []))) (fun a' _ => (nd T n).kids.length - (intOf (a'.tmps.getD 17 undef)).toNat) ?_ ?_
      · exact ⟨0, [], _, _, _, _, _, _, _, _, _, _, _, _, _, _, _, _, _, _, _, _, _, _, _, rfl, Nat.zero_le _, by simpa using HJ1.out, Kd.refl _ _ _, List.nodup_nil, fun D h => by cases h⟩
      · rintro a' V ⟨k, Ds, u4, u5, u6, u7, u8, u9, u10, u11, u12, u13, u14, u18, u19, u20, u21, u22, u23, u24, u25, u26, u27, u28, u29, rfl, hkl, hJV, hKV, hnd, hDs⟩
        have HJV := hideG hJV
        have HKV := hideG hKV
        have HND := hideG hnd
        have HDS := hideG hDs
        have hKaV := HK1.out.trans hKV
        have HKaV := hideG hKaV
        have ctV := hBta.cell hKaV cta
        have cyV := hyb.cell hKaV cya
        have hsV := hKaV.size
        have hXV : X < V.heap.size := by omega
        have hEV : ∀ k, E k → k < V.heap.size := fun k e => by have := (hE k e).2; omega
        have HEV := hideG hEV
        clear hJV hKV hnd hDs hKaV hEV
        by_cases hlt : k < (nd T n).kids.length
        · have hki := HKI.out V HKV.out
          obtain ⟨a1, c1, hv1, hd1⟩ := hki
          simp only [Value.slice.injEq, true_and] at hv1
          obtain ⟨rfl, rfl⟩ := hv1
          obtain ⟨kb, koff, rfl, hdd⟩ := hd1 (by omega)
          have ck := hdd k hlt
          have hst := flat_take hlt (fun x => dn T x.toNat)
          have hxk : (nd T n).kids.getD k 0 ∈ (nd T n).kids := by
            rw [List.getD_eq_getElem?_getD, List.getElem?_eq_getElem hlt]; exact List.getElem_mem hlt
          obtain ⟨q, hxq, hql, hoq⟩ := over_kid hF hn hxk
          rw [hxq] at ck
          rw [hxq, Int.toNat_natCast] at hst
          have hpre : ∃ post, dn T n = (n :: ((nd T n).kids.take k).flatMap fun x => dn T x.toNat) ++ dn T q ++ post := by
            refine ⟨((nd T n).kids.drop (k + 1)).flatMap fun x => dn T x.toNat, ?_⟩
            rw [hdn]
            conv => lhs; rw [← List.take_append_drop (k + 1) (nd T n).kids, List.flatMap_append, hst]
            simp
          obtain ⟨post, hpost⟩ := hpre
          have HP := hideG hpost
          have HST := hideG hst
          have hsq := (upsL_some hm hql hoq).1
          have hdq : T.length < d + (upsL T q).length := by rw [hsq, List.length_cons]; omega
          clear hd1 hdd hxk hxq hst hpost hsq
          generalize hpre0 : (n :: ((nd T n).kids.take k).flatMap fun x => dn T x.toNat) = pre0 at *
          gi_wp2_with (refine ⟨trivial, ?_⟩; gi_at_call 222; refine (odown_in _ _ _ _ _ _).mono ?_; rintro e w' ⟨rfl, rfl⟩)
          obtain ⟨V2, hV2⟩ : ∃ V2, (V.alloc (.cells #[.slice (some ⟨tb, to, none⟩) T.length tc] 23)).alloc (.cells #[.int .i64 (q : Int)] 3) = V2 := ⟨_, rfl⟩
          have hs2 : V2.heap.size = V.heap.size + 2 := by rw [← hV2]; simp
          have hk2 : Kd E X V V2 := by rw [← hV2]; exact (Kd.alloc V _ hXV).trans (Kd.alloc _ _ (by simp; omega))
          have hJ2 : J pre0 V2 := by rw [← hV2]; exact hJ.alloc _ (hJ.alloc _ HJV.out)
          have d1 := cell_new_l V (.slice (some ⟨tb, to, none⟩) T.length tc) 23
          have d2 := cell_new_l (V.alloc (.cells #[.slice (some ⟨tb, to, none⟩) T.length tc] 23)) (.int .i64 (q : Int)) 3
          simp only [World.size_alloc] at d2
          have cT2 : V2.cell? ⟨V.heap.size, 0, none⟩ = some (.slice (some ⟨tb, to, none⟩) T.length tc) := by rw [← hV2]; exact cell_alloc_l _ d1.1
          have cN2 : V2.cell? ⟨V.heap.size + 1, 0, none⟩ = some (.int .i64 (q : Int)) := by rw [← hV2]; exact d2.1
          have hB2 : Below V.heap.size V V2 := by rw [← hV2]; exact ((Below.refl _ V).alloc (Nat.le_refl _) _).alloc (by simp) _
          have hx2 : ownX X V2 = ownX X V := ownX_block (hB2.block X hXV)
          rw [hV2]
          clear d1 d2 hV2
          have hKa2 := HKaV.out.trans hk2
          have hO2 := HOV.out V2 hKa2
          have hOV' := HOV.out V HKaV.out
          refine range_deep rfl (enters_of Tryz.func223 (by kernel_rfl) rfl) (fun x : Nat => #[Value.int .i64 (x : Int)]) (fun _ => rfl) X E (fun k e => by have := HEV.out k e; omega) (by omega) (fun g hg => (hO2 g hg).2) (dn T q) ?seq
            (fun pre U => J (pre0 ++ pre) U ∧ Kd E X V2 U) (fun c pre U => c = .ret ∧ Jx (pre0 ++ pre) U ∧ Kd E X V2 U) ?hI ?hIx ⟨by simpa using hJ2, Kd.refl _ _ _⟩
            (fun x => { tmps := #[.func (.yield l) #[] #[], .pointer (some ⟨Bn, 0, none⟩), .pointer (some ⟨Bt, 0, none⟩), .pointer (some ⟨W.heap.size, 0, none⟩), u4, .int .i64 (q : Int), .int .i64 (x : Int), u7, u8, u9, u10, u11, u12, u13, u14, .slice (some ⟨kb, koff, none⟩) (nd T n).kids.length kkc, .int .i64 ((nd T n).kids.length : Int), .int .i64 (k : Int), .bool true, .pointer (some ⟨kb, koff + k, none⟩), .int .i64 (q : Int), .slice (some ⟨tb, to, none⟩) T.length tc, .int .i64 (q : Int), .func (.func 223) #[] #[.pointer (some ⟨V.heap.size + 1, 0, none⟩), .pointer (some ⟨V.heap.size, 0, none⟩)], .int .i64 (x : Int), u25, u26, u27, u28, u29], defers := [] }) ?assign ?body ?done ?stop
          case seq =>
            intro U hBU hsU
            have hoU : ownX X U = ownX X V2 := ownX_block (hBU.block X (by omega))
            have hno : ∀ j, V.heap.size ≤ j → j < V.heap.size + 2 → Held (fun k => E k ∨ k = V2.heap.size + 1) X U j := fun j h1 h2 => by
              refine ⟨by omega, ?_, ?_⟩
              · rintro (e | e)
                · have := HEV.out j e; omega
                · omega
              · rw [hoU, hx2]; intro e; have := hOV' j e; omega
            refine HIH.out q hql hdq _ _ (V.heap.size + 1) V.heap.size U ?_ (by omega) (by omega) ((HBB.out V2 hKa2).trans (hBU.mono (by omega))) ?_ (hno _ (by omega) (by omega)) (hno _ (by omega) (by omega)) (cell_below hBU cN2) (cell_below hBU cT2)
            · rintro j (e | e)
              · have := hE j e; have := HEV.out j e; omega
              · omega
            · intro g hg
              rw [hoU] at hg
              have := hO2 g hg
              omega
          case hI =>
            exact OwnFrom.and (fun s A B row h hg hr => hJ (pre0 ++ s) A B row h hg (fun r e => ⟨by have := (hr r e).1; omega, (hr r e).2⟩)) (kd_own (by omega))
          case hIx =>
            rintro c s A B row ⟨h1, h2, h3⟩ hg hr
            exact ⟨h1, hJx (pre0 ++ s) A B row h2 hg (fun r e => ⟨by have := (hr r e).1; omega, (hr r e).2⟩), kd_own (β := Unit) (by omega) () A B row h3 hg hr⟩
          case assign =>
            intro l' m' x U K hK
            gi_wp2
            exact hK
          case body =>
            rintro l' m' pre x U ⟨hJU, hKU⟩ hlen
            have hlen2 : (pre0 ++ pre).length < (dn T n).length := by rw [HP.out]; simp; omega
            have cyU := hyb.cell (hKa2.trans hKU) cya
            obtain ⟨fn', tmps', assign', body', hy', hR'⟩ := hY (m' - 1) (pre0 ++ pre) x U hJU hlen2
            have HR' := hideG hR'
            clear hR'
            gi_wp2
            refine ⟨fun h => (by cases h), RoundIn.mono (F := Fence.wide.inRound l') HR'.out ?_⟩
            rintro e U3 (⟨rfl, hJ3, hk3⟩ | ⟨rfl, hJ3, hk3⟩)
            · gi_wp2
              exact ⟨hk3, by rw [← List.append_assoc]; exact hJ3, hKU.trans hk3⟩
            · gi_wp2
              exact ⟨hk3, rfl, by rw [← List.append_assoc]; exact hJ3, hKU.trans hk3⟩
          case done =>
            rintro U ⟨hJU, hKU⟩ hD hoD
            have hDU : ∀ D ∈ V2.heap.size :: Ds, W.heap.size ≤ D ∧ Held E X U D ∧ U.heap[D]? = some (.deferred (some [])) := by
              intro D hD'
              rcases List.mem_cons.mp hD' with rfl | hD'
              · exact ⟨by omega, ⟨(Array.getElem?_eq_some_iff.1 hD).1, fun e => by have := HEV.out _ e; omega, hoD⟩, hD⟩
              · obtain ⟨h1, h2, h3⟩ := HDS.out D hD'
                have h2' := h2.kd hk2
                exact ⟨h1, h2'.kd hKU, (hKU.block D h2'.1 h2'.2.1 h2'.2.2).trans ((hk2.block D h2.1 h2.2.1 h2.2.2).trans h3)⟩
            have hnd' : (V2.heap.size :: Ds).Nodup := List.nodup_cons.mpr ⟨fun h => by have := (HDS.out _ h).2.1.1; omega, HND.out⟩
            have hfl : n :: ((nd T n).kids.take (k + 1)).flatMap (fun x => dn T x.toNat) = pre0 ++ dn T q := by rw [HST.out, ← hpre0]; simp
            have HDU := hideG hDU
            have HND' := hideG hnd'
            have HFL := hideG hfl
            clear hDU hnd' hfl
            gi_wp2
            have e1 : (k : Int) + 1 = ((k + 1 : Nat) : Int) := by omega
            rw [e1]
            refine ⟨⟨k + 1, V2.heap.size :: Ds, _, _, _, _, _, _, _, _, _, _, _, _, _, _, _, _, _, _, _, _, _, _, _, rfl, by omega, by rw [HFL.out]; exact hJU, (HKV.out.trans hk2).trans hKU, HND'.out, HDU.out⟩, ?_⟩
            simp [intOf]; omega
          case stop =>
            rintro c pre U hpp ⟨rfl, hJU, hKU⟩ hD hoD
            have hDU : ∀ D ∈ V2.heap.size :: Ds, U.heap[D]? = some (.deferred (some [])) := by
              intro D hD'
              rcases List.mem_cons.mp hD' with rfl | hD'
              · exact hD
              · obtain ⟨h1, h2, h3⟩ := HDS.out D hD'
                have h2' := h2.kd hk2
                exact (hKU.block D h2'.1 h2'.2.1 h2'.2.2).trans ((hk2.block D h2.1 h2.2.1 h2.2.2).trans h3)
            have hge : ∀ D ∈ V2.heap.size :: Ds, M ≤ D := by
              intro D hD'
              rcases List.mem_cons.mp hD' with rfl | hD'
              · omega
              · have := (HDS.out D hD').1; omega
            have hnd' : (V2.heap.size :: Ds).Nodup := List.nodup_cons.mpr ⟨fun h => by have := (HDS.out _ h).2.1.1; omega, HND.out⟩
            have hpx : pre0 ++ pre <+: dn T n := by
              obtain ⟨r, hr⟩ := hpp
              exact ⟨r ++ post, by rw [HP.out, ← hr]; simp⟩
            gi_wp2
            exact leaves_marks (fun w => Jx (pre0 ++ pre) w) (V2.heap.size :: Ds) U hnd' hDU (fun D w hD' ho hK => hJx.putObj _ hK (hge D hD') ho rfl) hJU (fun w hK => ⟨_, results_none rfl _ _ _, ⟨_, rfl⟩, .inr ⟨pre0 ++ pre, hpx, hK⟩⟩)
        · have hke : k = (nd T n).kids.length := by omega
          subst hke
          have hall : n :: ((nd T n).kids.take (nd T n).kids.length).flatMap (fun x => dn T x.toNat) = dn T n := by rw [List.take_length, hdn]
          rw [hall] at HJV
          have hDV : ∀ D ∈ Ds, V.heap[D]? = some (.deferred (some [])) := fun D h => (HDS.out D h).2.2
          have hge : ∀ D ∈ Ds, M ≤ D := fun D h => by have := (HDS.out D h).1; omega
          have HDV := hideG hDV
          have HGE := hideG hge
          clear hDV hge hall
          gi_wp2
          exact leaves_marks (fun w => J (dn T n) w) Ds V HND.out HDV.out (fun D w hD' ho hK => hJ.putObj _ hK (HGE.out D hD') ho rfl) HJV.out (fun w hK => ⟨_, results_none rfl _ _ _, ⟨_, rfl⟩, .inl hK⟩)
    · gi_wp2
      exact ⟨_, results_none rfl _ _ _, ⟨_, rfl⟩, .inr ⟨[n], ⟨(nd T n).kids.flatMap fun x => dn T x.toNat, by rw [hdn]; rfl⟩, hJx1⟩⟩
end Go.Proofs.YtclhimodopgeoaaGreat

namespace Go.Proofs.YtclhimodopgeoaaGreat
open Go.RowKit

end Go.Proofs.YtclhimodopgeoaaGreat
namespace Go.Proofs.YtclhimodopgeoaaGreat
open Go.RowKit

/-- A node, and all above it. -/
def supN (T : List Nd) (n : Nat) : List Nat := n :: upsL T n

theorem supI_known {T : List Nd} (hm : mayB T = true) {n : Nat} (hn : n < T.length) : supI T (n : Int) = castL (supN T n) := by
  unfold supI
  rw [known_of hm hn, if_pos rfl, Int.toNat_natCast]; rfl
theorem mem_castL {l : List Nat} {x : Nat} : (x : Int) ∈ castL l ↔ x ∈ l := by
  unfold castL
  rw [List.mem_map]
  constructor
  · rintro ⟨y, hy, e⟩
    have : y = x := by omega
    exact this ▸ hy
  · intro h; exact ⟨x, h, rfl⟩
theorem above_iff {T : List Nd} (hm : mayB T = true) {a b : Nat} (hb : b < T.length) : aboveS T (a : Int) (b : Int) = true ↔ a ∈ supN T b := by
  unfold aboveS containsB
  rw [supI_known hm hb, decide_eq_true_eq, mem_castL]
theorem over_cases {T : List Nd} (hm : mayB T = true) {n : Nat} (hn : n < T.length) : ((overI (nd T n) == -1) = true) ∨ ∃ m : Nat, m < T.length ∧ overI (nd T n) = (m : Int) := by
  rcases mayB_upOk hm n hn with h | h
  · exact .inl h
  · obtain ⟨m, e, hl⟩ := isNodeB_true h
    exact .inr ⟨m, hl, e⟩
theorem fine_hostroot {T : List Nd} (hm : mayB T = true) {t g : Nat} (ht : t < T.length) (hk : (nd T t).kind = 3) (hh : (nd T t).host = (g : Int)) : (nd T g).root = (t : Int) := by
  obtain ⟨h, hl, e1, _, e2⟩ := fine_host (mayB_fine hm) ht hk
  have : h = g := by omega
  exact this ▸ e2

end Go.Proofs.YtclhimodopgeoaaGreat

namespace Go.Proofs.YtclhimodopgeoaaGreat

theorem pigeonF : ∀ (n : Nat) (l : List Nat), l.Nodup → (∀ x ∈ l, x < n) → l.length ≤ n := by
  intro n
  induction n with
  | zero =>
    intro l _ h
    cases l with
    | nil => simp
    | cons a l => exact absurd (h a (List.mem_cons_self ..)) (by omega)
  | succ n ih =>
    intro l hl h
    by_cases hn : n ∈ l
    · have h1 : (l.erase n).length = l.length - 1 := List.length_erase_of_mem hn
      have h2 : (l.erase n).Nodup := hl.erase n
      have h3 := ih (l.erase n) h2 (fun x hx => by
        have hx1 := List.mem_of_mem_erase hx
        have hne : x ≠ n := fun e => by
          subst e
          exact (List.Nodup.not_mem_erase hl) hx
        have := h x hx1
        omega)
      have : 0 < l.length := List.length_pos_of_mem hn
      omega
    · have := ih l hl (fun x hx => by
        have h1 := h x hx
        have h2 : x ≠ n := fun e => hn (e ▸ hx)
        omega)
      omega

/-- ch: a node's kids; D: a node and all below it; U: a node and all above it; rk: how deep. -/
structure Forest (L : Nat) (ch D U : Nat → List Nat) (rk : Nat → Nat) : Prop where
  deq : ∀ n, n < L → D n = n :: (ch n).flatMap D
  lt : ∀ n, n < L → ∀ m, m ∈ ch n → m < L
  nd : ∀ n, n < L → (ch n).Nodup
  up : ∀ n, n < L → ∀ m, m ∈ ch n → U m = m :: U n
  top : ∀ n, n < L → U n = [n] ∨ ∃ m, m < L ∧ n ∈ ch m
  rank : ∀ n, n < L → ∀ m, m ∈ ch n → rk n < rk m

namespace Forest
variable {L : Nat} {ch D U : Nat → List Nat} {rk : Nat → Nat}

theorem u_cases (F : Forest L ch D U rk) {n : Nat} (hn : n < L) : U n = [n] ∨ ∃ m, m < L ∧ n ∈ ch m ∧ U n = n :: U m := by
  rcases F.top n hn with h | ⟨m, hm, h⟩
  · exact .inl h
  · exact .inr ⟨m, hm, h, F.up m hm n h⟩
theorem u_self (F : Forest L ch D U rk) {n : Nat} (hn : n < L) : n ∈ U n := by
  rcases F.u_cases hn with h | ⟨m, _, _, h⟩ <;> rw [h] <;> exact List.mem_cons_self ..
theorem u_suffix (F : Forest L ch D U rk) {n x : Nat} (hn : n < L) (hx : x ∈ U n) : ∃ p, U n = p ++ U x ∧ x < L ∧ rk x ≤ rk n := by
  generalize hk : rk n = k
  induction k using Nat.strongRecOn generalizing n with
  | _ k ih =>
    rcases F.u_cases hn with h | ⟨m, hm, hc, h⟩
    · rw [h] at hx
      have : x = n := by simpa using hx
      subst this
      exact ⟨[], rfl, hn, by omega⟩
    · rw [h] at hx
      rcases List.mem_cons.mp hx with rfl | hx
      · exact ⟨[], rfl, hn, by omega⟩
      · have hr := F.rank m hm n hc
        obtain ⟨p, hp, h2, h3⟩ := ih (rk m) (by omega) hm hx rfl
        exact ⟨n :: p, by rw [h, hp]; rfl, h2, by omega⟩
theorem u_lt (F : Forest L ch D U rk) {n x : Nat} (hn : n < L) (hx : x ∈ U n) : x < L := by
  obtain ⟨_, _, h, _⟩ := F.u_suffix hn hx; exact h
theorem u_trans (F : Forest L ch D U rk) {a b c : Nat} (hc : c < L) (h1 : a ∈ U b) (h2 : b ∈ U c) : a ∈ U c := by
  obtain ⟨p, hp, _⟩ := F.u_suffix hc h2
  rw [hp]; exact List.mem_append.mpr (.inr h1)
theorem u_rank (F : Forest L ch D U rk) {a b : Nat} (hb : b < L) (h : a ∈ U b) : a = b ∨ rk a < rk b := by
  rcases F.u_cases hb with e | ⟨m, hm, hc, e⟩
  · rw [e] at h; exact .inl (by simpa using h)
  · rw [e] at h
    rcases List.mem_cons.mp h with rfl | h
    · exact .inl rfl
    · obtain ⟨_, _, _, h3⟩ := F.u_suffix hm h
      have := F.rank m hm b hc
      exact .inr (by omega)
theorem u_nodup (F : Forest L ch D U rk) {n : Nat} (hn : n < L) : (U n).Nodup := by
  generalize hk : rk n = k
  induction k using Nat.strongRecOn generalizing n with
  | _ k ih =>
    rcases F.u_cases hn with h | ⟨m, hm, hc, h⟩
    · rw [h]; simp
    · rw [h, List.nodup_cons]
      have hr := F.rank m hm n hc
      refine ⟨fun e => ?_, ih (rk m) (by omega) hm rfl⟩
      obtain ⟨_, _, _, h3⟩ := F.u_suffix hm e
      omega
theorem u_kid (F : Forest L ch D U rk) {n m : Nat} (hn : n < L) (hm : m ∈ ch n) : n ∈ U m := by
  rw [F.up n hn m hm]; exact List.mem_cons_of_mem _ (F.u_self hn)
/-- Of two above one node one is above the other. -/
theorem u_linear (F : Forest L ch D U rk) {a b x : Nat} (hx : x < L) (ha : a ∈ U x) (hb : b ∈ U x) : a ∈ U b ∨ b ∈ U a := by
  obtain ⟨p, hp, hal, _⟩ := F.u_suffix hx ha
  obtain ⟨q, hq, hbl, _⟩ := F.u_suffix hx hb
  rw [hp] at hq
  have h1 : a ∈ U a := F.u_self hal
  have h2 : b ∈ U b := F.u_self hbl
  rcases List.append_eq_append_iff.mp hq with ⟨r, _, h⟩ | ⟨r, _, h⟩
  · exact .inr (by rw [h]; exact List.mem_append.mpr (.inr h2))
  · exact .inl (by rw [h]; exact List.mem_append.mpr (.inr h1))

/-- What may be shown of kids first may be shown of all. -/
theorem down_ind (F : Forest L ch D U rk) (hB : ∃ B, ∀ n, n < L → rk n ≤ B) {P : Nat → Prop} (h : ∀ n, n < L → (∀ m, m ∈ ch n → P m) → P n) {n : Nat} (hn : n < L) : P n := by
  obtain ⟨B, hB⟩ := hB
  generalize hk : B - rk n = k
  induction k using Nat.strongRecOn generalizing n with
  | _ k ih =>
    refine h n hn (fun m hm => ?_)
    have h1 := F.lt n hn m hm
    have h2 := F.rank n hn m hm
    have h3 := hB m h1
    exact ih (B - rk m) (by omega) h1 rfl

theorem bounded (rk : Nat → Nat) (L : Nat) : ∃ B, ∀ n, n < L → rk n ≤ B := by
  induction L with
  | zero => exact ⟨0, fun n h => by omega⟩
  | succ L ih =>
    obtain ⟨B, hB⟩ := ih
    refine ⟨B + rk L, fun n h => ?_⟩
    by_cases e : n = L
    · subst e; omega
    · have := hB n (by omega); omega

/-- Whoever is below lies there with all below it, one behind the other. -/
theorem d_segment (F : Forest L ch D U rk) {n : Nat} (hn : n < L) : ∀ {x : Nat}, x ∈ D n → x < L ∧ n ∈ U x ∧ ∃ p s, D n = p ++ D x ++ s := by
  refine F.down_ind (P := fun n => ∀ {x : Nat}, x ∈ D n → x < L ∧ n ∈ U x ∧ ∃ p s, D n = p ++ D x ++ s) (bounded rk L) ?_ hn
  intro n hn ih x hx
  rw [F.deq n hn] at hx
  rcases List.mem_cons.mp hx with rfl | hx
  · exact ⟨hn, F.u_self hn, [], [], by simp⟩
  · obtain ⟨q, hq, hxq⟩ := List.mem_flatMap.mp hx
    obtain ⟨h1, h2, p, s, h3⟩ := ih q hq hxq
    refine ⟨h1, F.u_trans h1 (F.u_kid hn hq) h2, ?_⟩
    obtain ⟨l1, l2, hl⟩ := List.append_of_mem hq
    refine ⟨n :: l1.flatMap D ++ p, s ++ l2.flatMap D, ?_⟩
    rw [F.deq n hn, hl, List.flatMap_append, List.flatMap_cons, h3]
    simp
theorem d_lt (F : Forest L ch D U rk) {n x : Nat} (hn : n < L) (hx : x ∈ D n) : x < L := (F.d_segment hn hx).1
theorem d_self (F : Forest L ch D U rk) {n : Nat} (hn : n < L) : n ∈ D n := by rw [F.deq n hn]; exact List.mem_cons_self ..
theorem d_trans (F : Forest L ch D U rk) {n m x : Nat} (hn : n < L) (h1 : m ∈ D n) (h2 : x ∈ D m) : x ∈ D n := by
  obtain ⟨_, _, p, s, h⟩ := F.d_segment hn h1
  rw [h]; simp [h2]
/-- A node is below just those that are above it. -/
theorem mem_d (F : Forest L ch D U rk) {n x : Nat} (hn : n < L) (hx : x < L) : x ∈ D n ↔ n ∈ U x := by
  refine ⟨fun h => (F.d_segment hn h).2.1, fun h => ?_⟩
  generalize hk : rk x = k
  induction k using Nat.strongRecOn generalizing x with
  | _ k ih =>
    rcases F.u_cases hx with e | ⟨m, hm, hc, e⟩
    · rw [e] at h
      have : n = x := by simpa using h
      subst this
      exact F.d_self hn
    · rw [e] at h
      rcases List.mem_cons.mp h with rfl | h
      · exact F.d_self hn
      · have hr := F.rank m hm x hc
        have h1 := ih (rk m) (by omega) hm h rfl
        refine F.d_trans hn h1 ?_
        rw [F.deq m hm]
        exact List.mem_cons_of_mem _ (List.mem_flatMap.mpr ⟨x, hc, F.d_self hx⟩)
theorem d_nodup (F : Forest L ch D U rk) {n : Nat} (hn : n < L) : (D n).Nodup := by
  refine F.down_ind (P := fun n => (D n).Nodup) (bounded rk L) ?_ hn
  intro n hn ih
  rw [F.deq n hn, List.nodup_cons]
  refine ⟨fun h => ?_, ?_⟩
  · obtain ⟨q, hq, hx⟩ := List.mem_flatMap.mp h
    have h1 := (F.d_segment (F.lt n hn q hq) hx).2.1
    have hr := F.rank n hn q hq
    rcases F.u_rank hn h1 with e | e
    · subst e; omega
    · omega
  · show List.Pairwise _ _
    rw [List.pairwise_flatMap]
    refine ⟨fun q hq => ih q hq, ?_⟩
    have hnd := F.nd n hn
    refine List.Pairwise.imp_of_mem (fun {a b} ha hb hab x hx y hy => ?_) hnd
    rintro rfl
    have hal := F.lt n hn a ha
    have hbl := F.lt n hn b hb
    obtain ⟨hxl, h1, _⟩ := F.d_segment hal hx
    obtain ⟨_, h2, _⟩ := F.d_segment hbl hy
    have key : ∀ {c d : Nat}, c ∈ ch n → d ∈ ch n → c ≠ d → c ∈ U d → False := fun {c d} hc hd hcd h => by
      rw [F.up n hn d hd] at h
      rcases List.mem_cons.mp h with e | h
      · exact hcd e
      · have := F.u_rank hn h
        have hr := F.rank n hn c hc
        rcases this with e | e
        · subst e; omega
        · omega
    rcases F.u_linear hxl h1 h2 with h | h
    · exact key ha hb hab h
    · exact key hb ha (fun e => hab e.symm) h
theorem d_len (F : Forest L ch D U rk) {n : Nat} (hn : n < L) : (D n).length ≤ L := pigeonF L _ (F.d_nodup hn) (fun _ hx => F.d_lt hn hx)
theorem u_len (F : Forest L ch D U rk) {n : Nat} (hn : n < L) : (U n).length ≤ L := pigeonF L _ (F.u_nodup hn) (fun _ hx => F.u_lt hn hx)
end Forest
end Go.Proofs.YtclhimodopgeoaaGreat
namespace Go.Proofs.YtclhimodopgeoaaGreat

/-- The first place of x; the length, if it is not there. -/
def pos (x : Nat) : List Nat → Nat
  | [] => 0
  | a :: l => if x = a then 0 else pos x l + 1
theorem pos_mem {x : Nat} : ∀ {l : List Nat}, x ∈ l ↔ pos x l < l.length
  | [] => by simp [pos]
  | a :: l => by
    have ih := pos_mem (x := x) (l := l)
    by_cases e : x = a
    · subst e; simp [pos]
    · simp [pos, e, ih]
theorem pos_left {x : Nat} : ∀ {p : List Nat} (s : List Nat), x ∈ p → pos x (p ++ s) = pos x p
  | [], s, h => by simp at h
  | a :: p, s, h => by
    by_cases e : x = a
    · subst e; simp [pos]
    · have := pos_left (x := x) (p := p) s (by simpa [e] using h)
      simp [pos, e, this]
theorem pos_right {x : Nat} : ∀ {p : List Nat} (s : List Nat), x ∉ p → pos x (p ++ s) = p.length + pos x s
  | [], s, h => by simp
  | a :: p, s, h => by
    have e : x ≠ a := fun e => h (e ▸ List.mem_cons_self ..)
    have := pos_right (x := x) (p := p) s (fun h' => h (List.mem_cons_of_mem _ h'))
    simp [pos, e, this]; omega
theorem pos_ahead {a b : Nat} {p r : List Nat} (hn : (p ++ a :: r).Nodup) (hb : b ∈ r) : pos a (p ++ a :: r) < pos b (p ++ a :: r) := by
  rw [List.nodup_append] at hn
  obtain ⟨_, h2, h3⟩ := hn
  have ha : a ∉ p := fun h => h3 a h a (List.mem_cons_self ..) rfl
  have hbp : b ∉ p := fun h => h3 b h b (List.mem_cons_of_mem _ hb) rfl
  rw [List.nodup_cons] at h2
  have hne : b ≠ a := fun e => h2.1 (e ▸ hb)
  rw [pos_right _ ha, pos_right _ hbp]
  simp [pos, hne]
end Go.Proofs.YtclhimodopgeoaaGreat
namespace Go.Proofs.YtclhimodopgeoaaGreat
open Go.RowKit

def chK (T : List Nd) (n : Nat) : List Nat := (nd T n).kids.map Int.toNat
theorem map_nodup : ∀ {l : List Int}, l.Nodup → (∀ k ∈ l, 0 ≤ k) → (l.map Int.toNat).Nodup
  | [], _, _ => by simp
  | a :: l, hl, hp => by
    rw [List.nodup_cons] at hl
    rw [List.map_cons, List.nodup_cons]
    refine ⟨fun hm => ?_, map_nodup hl.2 (fun k hk => hp k (List.mem_cons_of_mem _ hk))⟩
    obtain ⟨x, hx, he⟩ := List.mem_map.mp hm
    have h1 := hp a (List.mem_cons_self ..)
    have h2 := hp x (List.mem_cons_of_mem _ hx)
    have : x = a := by omega
    exact hl.1 (this ▸ hx)
theorem mem_chK {T : List Nd} (hF : Fine T) {n m : Nat} (hn : n < T.length) (h : m ∈ chK T n) : m < T.length ∧ (m : Int) ∈ (nd T n).kids ∧ canBeKidB (nd T m).kind = true ∧ (nd T m).parent = (n : Int) := by
  obtain ⟨x, hx, rfl⟩ := List.mem_map.mp h
  obtain ⟨q, rfl, hql, hk, hp⟩ := kidP_iff.mp (hF.kid n hn x hx)
  rw [Int.toNat_natCast]
  exact ⟨hql, hx, hk, hp⟩
theorem chK_nodup {T : List Nd} (hF : Fine T) {n : Nat} (hn : n < T.length) : (chK T n).Nodup :=
  map_nodup (hF.nodup n hn) (fun k hk => by obtain ⟨q, rfl, _⟩ := kidP_iff.mp (hF.kid n hn k hk); omega)
theorem forest3 {T : List Nd} (hm : mayB T = true) : Forest T.length (chK T) (dn T) (pars T) (fun n => (upsL T n).length) := by
  have hF := mayB_fine hm
  refine ⟨fun n hn => ?_, fun n hn m h => (mem_chK hF hn h).1, fun n hn => chK_nodup hF hn, fun n hn m h => ?_, fun n hn => ?_, fun n hn m h => ?_⟩
  · rw [dn_eq hm hn, chK, List.flatMap_map]
  · obtain ⟨h1, _, _, h4⟩ := mem_chK hF hn h
    exact pars_some hm h1 h4
  · rcases hF.par n hn with e | ⟨p, hp, e, hmem⟩
    · exact .inl (pars_none (by rw [e]; rfl))
    · exact .inr ⟨p, hp, List.mem_map.mpr ⟨(n : Int), hmem, by simp⟩⟩
  · obtain ⟨h1, _, h3, h4⟩ := mem_chK hF hn h
    have := (upsL_some hm h1 (over_of_parent hF h1 h4)).1
    simp [this]

def chS (T : List Nd) (n : Nat) : List Nat := (if (nd T n).root == -1 then [] else [(nd T n).root.toNat]) ++ chK T n
theorem root_facts {T : List Nd} (hF : Fine T) {n : Nat} (hn : n < T.length) (hr : ((nd T n).root == -1) = false) : ∃ m : Nat, (nd T n).root = (m : Int) ∧ m < T.length ∧ (nd T m).kind = 3 ∧ (nd T m).host = (n : Int) := by
  rcases rootP_iff.mp (hF.root n hn) with e | ⟨_, r, hrl, e, hk, hh⟩
  · rw [e] at hr; simp at hr
  · exact ⟨r, e, hrl, hk, hh⟩
theorem mem_chS {T : List Nd} (hF : Fine T) {n m : Nat} (hn : n < T.length) (h : m ∈ chS T n) : m < T.length ∧ overI (nd T m) = (n : Int) := by
  rcases List.mem_append.mp h with h | h
  · cases hr : ((nd T n).root == -1)
    · rw [hr] at h
      obtain ⟨q, e, hql, hk, hh⟩ := root_facts hF hn hr
      have : m = q := by simpa [e] using h
      subst this
      exact ⟨hql, by unfold overI; rw [hk]; exact hh⟩
    · rw [hr] at h; simp at h
  · obtain ⟨h1, _, h3, h4⟩ := mem_chK hF hn h
    exact ⟨h1, by rw [over_parent (kid_not_shadow h3)]; exact h4⟩
theorem forest4 {T : List Nd} (hm : mayB T = true) : Forest T.length (chS T) (sl T) (supN T) (fun n => (upsL T n).length) := by
  have hF := mayB_fine hm
  refine ⟨fun n hn => ?_, fun n hn m h => (mem_chS hF hn h).1, fun n hn => ?_, fun n hn m h => ?_, fun n hn => ?_, fun n hn m h => ?_⟩
  · rw [sl_eq hm hn, chS, chK, List.flatMap_append, List.flatMap_map]
    cases hr : ((nd T n).root == -1) <;> simp
  · unfold chS
    cases hr : ((nd T n).root == -1)
    · obtain ⟨q, e, hql, hk, hh⟩ := root_facts hF hn hr
      simp only [Bool.false_eq_true, if_false, List.singleton_append, List.nodup_cons, e, Int.toNat_natCast]
      refine ⟨fun h => ?_, chK_nodup hF hn⟩
      exact kid_not_shadow (mem_chK hF hn h).2.2.1 hk
    · simpa using chK_nodup hF hn
  · obtain ⟨h1, h2⟩ := mem_chS hF hn h
    show m :: upsL T m = m :: (n :: upsL T n)
    rw [(upsL_some hm h1 h2).1]
  · rcases over_cases hm hn with e | ⟨p, hp, e⟩
    · exact .inl (by show n :: upsL T n = [n]; rw [upsL_none e])
    · refine .inr ⟨p, hp, ?_⟩
      unfold chS
      rw [List.mem_append]
      by_cases hk : (nd T n).kind = 3
      · obtain ⟨h, hl, h1, _, h2⟩ := fine_host hF hn hk
        have hph : h = p := by unfold overI at e; rw [hk] at e; simp at e; omega
        subst hph
        left
        rw [h2]
        have : ((n : Int) == -1) = false := by simp
        simp [this]
      · right
        rw [over_parent hk] at e
        rcases hF.par n hn with e' | ⟨q, hq, e', hmem⟩
        · omega
        · have : q = p := by omega
          subst this
          exact List.mem_map.mpr ⟨(n : Int), hmem, by simp⟩
  · obtain ⟨h1, h2⟩ := mem_chS hF hn h
    simp [(upsL_some hm h1 h2).1]

theorem top_in {T : List Nd} (hm : mayB T = true) {a : Nat} (ha : a < T.length) : topN T a ∈ pars T a := by
  obtain ⟨_, ⟨i, hi⟩, _⟩ := sup_split hm ha
  rw [hi]; simp
theorem top_lt {T : List Nd} (hm : mayB T = true) {a : Nat} (ha : a < T.length) : topN T a < T.length := (sup_split hm ha).1
theorem top_eq {T : List Nd} (hm : mayB T = true) {a x : Nat} (ha : a < T.length) (hx : x ∈ pars T a) : topN T x = topN T a := by
  obtain ⟨p, hp, hxl, _⟩ := (forest3 hm).u_suffix ha hx
  obtain ⟨_, ⟨i, hi⟩, _⟩ := sup_split hm ha
  obtain ⟨_, ⟨j, hj⟩, _⟩ := sup_split hm hxl
  rw [hi, hj, ← List.append_assoc] at hp
  have := congrArg List.getLast? hp
  simp at this
  exact this.symm
end Go.Proofs.YtclhimodopgeoaaGreat

namespace Go.Proofs.YtclhimodopgeoaaGreat
open Go.RowKit

def allocs (w : World) (os : List Obj) : World := os.foldl World.alloc w
theorem allocs_below (w : World) (os : List Obj) : Below w.heap.size w (allocs w os) := by
  induction os generalizing w with
  | nil => exact Below.refl _ _
  | cons o os ih => exact ((Below.refl _ w).alloc (Nat.le_refl _) o).trans ((ih (w.alloc o)).mono (by simp))
theorem allocs_at (w : World) (os : List Obj) (i : Nat) (o : Obj) (h : os[i]? = some o) : (allocs w os).heap[w.heap.size + i]? = some o := by
  induction os generalizing w i with
  | nil => simp at h
  | cons p os ih =>
    cases i with
    | zero =>
      simp at h; subst h
      have hb := (allocs_below (w.alloc p) os).block w.heap.size (by simp)
      exact hb.trans (World.alloc_heap_new w p)
    | succ i =>
      have := ih (w.alloc p) i (by simpa using h)
      rw [World.size_alloc] at this
      rw [show w.heap.size + (i + 1) = w.heap.size + 1 + i by omega]
      exact this

theorem cell_of_cells {U : World} {g : Nat} {cs : Array Value} {t : TypeId} (h : U.heap[g]? = some (.cells cs t)) {j : Nat} {u : Value} (hj : cs[j]? = some u) : U.cell? ⟨g, j, none⟩ = some u := by
  simp [World.cell?, h, hj]
theorem ints_lit {U : World} {g : Nat} (l : List Int) {cs : Array Value} (h : U.heap[g]? = some (.cells cs 3)) (hc : cs = (intCells l).toArray) : IntsAt U (.slice (some ⟨g, 0, none⟩) l.length l.length) l := by
  refine ⟨_, l.length, rfl, fun _ => ⟨g, 0, rfl, fun j hj => ?_⟩⟩
  subst hc
  rw [Nat.zero_add]
  exact cell_of_cells h (by simp [intCells_at hj])
theorem attrs_lit {U : World} {g : Nat} {t : TypeId} (l : List (Int × Int)) {cs : Array Value} (h : U.heap[g]? = some (.cells cs t)) (hc : cs = (attrCells l).toArray) : AttrsAt U (.slice (some ⟨g, 0, none⟩) l.length l.length) l := by
  refine ⟨_, l.length, rfl, fun _ => ⟨g, 0, rfl, fun j hj => ?_⟩⟩
  subst hc
  have := attrCells_at hj
  rw [Nat.zero_add]
  exact ⟨cell_of_cells h (by simp [this.1]), cell_of_cells h (by simp [this.2])⟩
theorem ints_none (U : World) : IntsAt U (.slice none 0 0) [] := ⟨none, 0, rfl, fun h => by simp at h⟩
theorem attrs_none (U : World) : AttrsAt U (.slice none 0 0) [] := ⟨none, 0, rfl, fun h => by simp at h⟩

def nodesL : List (Nd × Value × Value) → List Value
  | [] => []
  | (x, kv, av) :: r => .int .i64 x.kind :: .int .i64 x.tag :: .int .i64 x.parent :: kv :: .int .i64 x.host :: .int .i64 x.root :: av :: nodesL r
theorem nodesL_at : ∀ (r : List (Nd × Value × Value)) (n : Nat) (x : Nd) (kv av : Value), r[n]? = some (x, kv, av) →
    (nodesL r)[n * 7]? = some (.int .i64 x.kind) ∧ (nodesL r)[n * 7 + 1]? = some (.int .i64 x.tag) ∧ (nodesL r)[n * 7 + 2]? = some (.int .i64 x.parent) ∧ (nodesL r)[n * 7 + 3]? = some kv ∧ (nodesL r)[n * 7 + 4]? = some (.int .i64 x.host) ∧ (nodesL r)[n * 7 + 5]? = some (.int .i64 x.root) ∧ (nodesL r)[n * 7 + 6]? = some av
  | [], n, x, kv, av, h => by simp at h
  | (y, kv', av') :: r, 0, x, kv, av, h => by
    simp only [List.getElem?_cons_zero, Option.some.injEq, Prod.mk.injEq] at h
    obtain ⟨rfl, rfl, rfl⟩ := h
    simp [nodesL]
  | (y, kv', av') :: r, n + 1, x, kv, av, h => by
    have ih := nodesL_at r n x kv av (by simpa using h)
    have e : ∀ j, (n + 1) * 7 + j = n * 7 + j + 1 + 1 + 1 + 1 + 1 + 1 + 1 := fun j => by omega
    have e0 : (n + 1) * 7 = n * 7 + 1 + 1 + 1 + 1 + 1 + 1 + 1 := by omega
    rw [e, e, e, e, e, e, e0]
    simpa only [nodesL, List.getElem?_cons_succ] using ih
/-- The tree whose nodes a block holds. -/
theorem tree_lit {U : World} {g : Nat} {cs : Array Value} (r : List (Nd × Value × Value)) (h : U.heap[g]? = some (.cells cs 57)) (hc : cs = (nodesL r).toArray) (hr : ∀ p ∈ r, IntsAt U p.2.1 p.1.kids ∧ AttrsAt U p.2.2 p.1.attrs) :
    TreeAt U (.slice (some ⟨g, 0, none⟩) r.length r.length) (r.map (·.1)) := by
  subst hc
  refine ⟨_, r.length, by simp, fun _ => ⟨g, 0, rfl, fun n hn => ?_⟩⟩
  have hn' : n < r.length := by simpa using hn
  obtain ⟨x, kv, av⟩ : Nd × Value × Value := r[n]
  obtain ⟨x, kv, av, hx⟩ : ∃ x kv av, r[n]? = some (x, kv, av) := ⟨r[n].1, r[n].2.1, r[n].2.2, List.getElem?_eq_getElem hn'⟩
  have hnd : nd (r.map (·.1)) n = x := by
    unfold nd
    rw [List.getD_eq_getElem?_getD, List.getElem?_map, hx]; rfl
  obtain ⟨h0, h1, h2, h3, h4, h5, h6⟩ := nodesL_at r n x kv av hx
  obtain ⟨hk, ha⟩ := hr (x, kv, av) (List.mem_of_getElem? hx)
  rw [hnd, Nat.zero_add]
  have f : ∀ {j : Nat} {u : Value}, (nodesL r)[j]? = some u → U.cell? ⟨g, j, none⟩ = some u := fun hj => cell_of_cells h (by simpa using hj)
  exact ⟨kv, av, f h0, f h1, f h2, f h3, f h4, f h5, f h6, hk, ha⟩
end Go.Proofs.YtclhimodopgeoaaGreat

namespace Go.Proofs.YtclhimodopgeoaaGreat
open Go.RowKit

theorem ownsRow_new1 (w : World) (x : Int) : (w.alloc (.cells #[.int .i64 x] 3)).ownsRow w.heap.size 3 1 (.slice (some ⟨w.heap.size, 0, none⟩) 1 1) 1 (intCells [x]) :=
  ⟨by simp [intCells], .inr ⟨w.heap.size, 1, #[.int .i64 x], rfl, Nat.le_refl _, World.alloc_heap_new w _, Nat.le_refl _, by simp [maxLen], rfl, by simp [intCells]⟩⟩

end Go.Proofs.YtclhimodopgeoaaGreat
namespace Go.Proofs.YtclhimodopgeoaaGreat
open Go.RowKit Go.Shelf

attribute [local go_sem] Oper.semAt_some

end Go.Proofs.YtclhimodopgeoaaGreat
namespace Go.Proofs.YtclhimodopgeoaaGreat
open Go.RowKit Go.Shelf

attribute [local go_sem] Oper.semAt_some

end Go.Proofs.YtclhimodopgeoaaGreat
namespace Go.Proofs.YtclhimodopgeoaaGreat
open Go.RowKit Go.Shelf

attribute [local go_sem] Oper.semAt_some

theorem wpListIn_append_any {F : Fence} {N : Nat} {P : Program} {w : World} {ops : Array Oper} {rest : List Oper} {o : Oper} {a : Act} {Q : Exit → Act → World → Prop} (hgd : o.guard = none) (s x : Operand) (t : TypeId)
    (ho : o.op = .call { callee := .builtin .append, args := #[s, x], argTypes := #[t, t] })
    (base : Nat) (e : TypeId) (i : TypeInfo) (z : Value) (size bytes : Nat) (ht : P.underlying t = some (.slice e)) (hi : P.info? e = some i) (hz : i.zero = some z)
    (hsize : i.size = size) (hby : i.bytes = bytes) (hzs : z.cells.size = size) (hsz : 0 < size)
    (v : Value) (n : Nat) (xs : List Value) (hs : a.eval s = v) (hown : w.ownsRow base e size v n xs)
    (u : Value) (m : Nat) (news : List Value) (hx : a.eval x = u) (hu : Holds w u m news) (hl : news.length = m * size) (h1 : ∀ x ∈ news, x.oneCell' = true)
    (h63 : n + m ≤ maxLen) (hbytes : (n + m) * bytes ≤ 140737488355328) (hbase : base ≤ w.heap.size)
    (h : ∀ v' w', w'.ownsRow base e size v' (n + m) (xs ++ news) → w.grownBy w' v.ownBlock → (∀ k, v'.ownBlock = some k → v.ownBlock = some k ∨ w.heap.size ≤ k) → wpListIn F N P ops Q rest (a.put o.dst v') w') : wpListIn F N P ops Q (o :: rest) a w := by
  refine wpListIn_plain hgd fun K hK => ?_
  obtain ⟨v', w', hrun, h2, h3, h4⟩ := append_any (P := P) w base t o.type e i z size bytes ht hi hz hsize hby hzs hsz v n xs hown u m news hu hl h1 h63 hbytes hbase
  unfold Oper.wpIn
  refine ⟨?_, ?_⟩
  · simp [Oper.about, ho, resolve, Target.leads, Sem.run_pure]
  · rw [Oper.semAt_plain F _ _ (by rw [ho]; intro c hc'; cases hc')]
    simp [execOp, ho, resolve, invoke, builtin, hs, hx, hrun, Result.andThen]
    exact hK _ _ (h v' w' h2 h3 h4)

set_option maxRecDepth 100000 in
set_option maxHeartbeats 2000000 in
theorem appendDown_in (T : List Nd) (hm : mayB T = true) (n : Nat) (hn : n < T.length) (b off cap Bn Bt : Nat) (w : World) (hT : TreeAt w (.slice (some ⟨b, off, none⟩) T.length cap) T) (hBn : w.cell? ⟨Bn, 0, none⟩ = some (.int .i64 (n : Int))) (hBt : w.cell? ⟨Bt, 0, none⟩ = some (.slice (some ⟨b, off, none⟩) T.length cap)) (hlen : (dn T n).length ≤ 1000) :
    CallsIn Fence.wide 6 Tryz.prog 154 #[.slice none 0 0, .func (.func 223) #[] #[.pointer (some ⟨Bn, 0, none⟩), .pointer (some ⟨Bt, 0, none⟩)]] w fun e W' => ∃ a c, e = .returned (.slice a (dn T n).length c) ∧ W'.ownsRow w.heap.size 3 1 (.slice a (dn T n).length c) (dn T n).length (natCells (dn T n)) ∧ Below w.heap.size w W' := by
  obtain ⟨i3, hi3, hz30, hz31, hz32⟩ := info_parts infoT3
  have hpos := mayB_pos hm
  have hbn : Bn < w.heap.size := below_of_cell hBn
  have hbt : Bt < w.heap.size := below_of_cell hBt
  refine callsIn_of_wp_marks Tryz.func154 rfl trivial ?_ rfl
  simp only [Tryz.ntmps154, List.size_toArray, List.length_cons, List.length_nil, Nat.reduceAdd, Nat.reduceSub, Array.replicate_succ, Array.replicate_zero, List.push_toArray, List.append_toArray, List.nil_append, List.cons_append]
  gi_wp2
  have c0 := cell_new_l w (.slice none 0 0) 24
  have hB0 : Below w.heap.size w (w.alloc (.cells #[.slice none 0 0] 24)) := (Below.refl _ w).alloc (Nat.le_refl _) _
  obtain ⟨V, hV⟩ : ∃ V, w.alloc (.cells #[.slice none 0 0] 24) = V := ⟨_, rfl⟩
  rw [hV] at c0 hB0 ⊢
  have hsV : V.heap.size = w.heap.size + 1 := by rw [← hV]; simp
  clear hV
  have hx0 : ownX w.heap.size V = none := by unfold ownX; rw [c0.1]; rfl
  have hBnV := cell_below hB0 hBn
  have hBtV := cell_below hB0 hBt
  refine range_deep rfl (enters_of Tryz.func223 (by kernel_rfl) rfl) (fun x : Nat => #[Value.int .i64 (x : Int)]) (fun _ => rfl) w.heap.size (fun k => k = w.heap.size) (fun k e => by omega) (by omega) (fun g hg => by rw [hx0] at hg; cases hg) (dn T n) ?seq
    (fun pre W => (∃ v, W.cell? ⟨w.heap.size, 0, none⟩ = some v ∧ W.frozen? ⟨w.heap.size, 0, none⟩ = false ∧ W.ownsRow (w.heap.size + 1) 3 1 v pre.length (natCells pre)) ∧ Below w.heap.size w W)
    (fun _ _ _ => False)
    (OwnFrom.and (Own.from (fun s A B row hs hg hr => by
      obtain ⟨v, h1, h2, h3⟩ := hs
      exact ⟨v, cell_kept h1 hg hr, (frozen_kept h1 hg hr).trans h2, ownsRow_walk h3 hg hr⟩) _) (ownFrom_below (Nat.le_refl _) (by omega)))
    (fun c => fun s A B row hs _ _ => hs.elim)
    ⟨⟨.slice none 0 0, c0.1, c0.2, by exact World.ownsRow_nil _ _ _ _⟩, hB0⟩
    (fun x => { tmps := #[.slice none 0 0, .func (.func 223) #[] #[.pointer (some ⟨Bn, 0, none⟩), .pointer (some ⟨Bt, 0, none⟩)], .pointer (some ⟨w.heap.size, 0, none⟩), undef, .slice none 0 0, .int .i64 (x : Int), .func (.func 223) #[] #[.pointer (some ⟨Bn, 0, none⟩), .pointer (some ⟨Bt, 0, none⟩)], .int .i64 (x : Int), undef, undef, undef, undef, undef], defers := [] }) ?assign ?body ?done ?stop
  case seq =>
    intro U hBU hsU
    have hoU : ownX w.heap.size U = none := by rw [ownX_block (hBU.block w.heap.size (by omega))]; exact hx0
    have hh : ∀ k, k < w.heap.size → Held (fun k => k = w.heap.size ∨ k = V.heap.size + 1) w.heap.size U k := fun k hk => ⟨by omega, by omega, by rw [hoU]; intro e; cases e⟩
    exact down1_in T hm b off cap w hT w.heap.size (T.length + 1) n hn (by omega) _ _ Bn Bt U (fun k e => by omega) (by omega) (by omega) (hB0.trans (hBU.mono (by omega))) (fun g hg => by rw [hoU] at hg; cases hg) (hh _ hbn) (hh _ hbt) (cell_below hBU hBnV) (cell_below hBU hBtV)
  case assign =>
    intro l m x W K hK
    gi_wp2
    exact hK
  case body =>
    rintro l m pre x W ⟨⟨v, hc, hf, hown⟩, hB⟩ hlen'
    obtain ⟨va, vc, rfl⟩ := ownsRow_shape hown
    have HOW := hideG hown
    have HB := hideG hB
    have hs := hB.size
    have hlt : w.heap.size < W.heap.size := below_of_cell hc
    have hoW : ownX w.heap.size W = Value.ownBlock (.slice va pre.length vc) := by unfold ownX; rw [hc]; rfl
    clear hown hB hT hBn hBt hBnV hBtV
    have hcl : pre.length ≤ 1000 := by omega
    gi_wp2_with (gi_at_builtin; refine wpListIn_append_any rfl _ _ 24 rfl (w.heap.size + 1) 3 i3 _ 1 8 Tryz.underlying24 hi3 hz30 hz31 hz32 rfl (by decide) _ pre.length (natCells pre) rfl (HOW.out.alloc _) _ 1 [.int .i64 (x : Int)] rfl (row_new1 _ _) rfl ?h2 ?h3 ?h4 ?h5 ?_)
    case h2 => intro u hu; simp at hu; subst hu; rfl
    case h3 => simp only [maxLen]; omega
    case h4 => omega
    case h5 => simp; omega
    intro v' w' hown' hg' hfr
    obtain ⟨a4, c4, rfl⟩ := ownsRow_shape hown'
    rw [natCells_snoc] at hown'
    have hne0 : some w.heap.size ≠ Value.ownBlock (.slice va pre.length vc) := fun e => by have := (HOW.out.lt _ e.symm).1; omega
    have hc' : w'.cell? ⟨w.heap.size, 0, none⟩ = some (.slice va pre.length vc) := (World.cell?_of_block (a := ⟨w.heap.size, 0, none⟩) (hg'.block w.heap.size (by simp; omega) hne0)).trans ((World.cell?_alloc_past _ _ _ hlt).trans hc)
    have hf' : w'.frozen? ⟨w.heap.size, 0, none⟩ = false := (World.frozen?_of_block (a := ⟨w.heap.size, 0, none⟩) (hg'.block w.heap.size (by simp; omega) hne0)).trans ((World.frozen?_alloc_past _ _ _ hlt).trans hf)
    have HO' := hideG hown'
    have hBa := (Below.refl W.heap.size W).alloc (Nat.le_refl _) (.cells #[.int .i64 (x : Int)] 3)
    have HB' := hideG ((HB.out.alloc hs (.cells #[.int .i64 (x : Int)] 3)).grown hg' (by simp; omega) (fun j e => by have := (HOW.out.lt j e).1; omega))
    have hsz := hg'.size
    have HKD := hideG (show Kd (fun k => k = w.heap.size) w.heap.size W (w'.setCell ⟨w.heap.size, 0, none⟩ (.slice a4 (pre.length + 1) c4)) from by
      simp only [World.size_alloc] at hsz
      refine ⟨hg'.os.trans hBa.os, hg'.tape.trans hBa.tape, hg'.output.trans hBa.output, by simp; omega, fun k hk hne ho => ?_, fun g hg => ?_⟩
      · rw [hoW] at ho
        exact (heap_setCell_other w' ⟨w.heap.size, 0, none⟩ k _ (fun e => hne e)).trans ((hg'.block k (by simp; omega) (fun e => ho e.symm)).trans (hBa.block k hk))
      · have hown2 : ownX w.heap.size (w'.setCell ⟨w.heap.size, 0, none⟩ (.slice a4 (pre.length + 1) c4)) = Value.ownBlock (.slice a4 (pre.length + 1) c4) := by
          unfold ownX
          rw [World.cell?_setCell_same' _ _ _ (by rw [hc']; rfl)]; rfl
        rw [hown2] at hg
        have hl := HO'.out.lt g hg
        rcases hfr g hg with e | e
        · exact .inl (by rw [hoW]; exact e)
        · have e' : W.heap.size + 1 ≤ g := by simpa using e
          exact .inr ⟨by omega, by simpa using hl.2⟩)
    clear hown' hg' hfr hBa hsz
    gi_wp2
    refine ⟨HKD.out, ⟨.slice a4 (pre.length + 1) c4, World.cell?_setCell_same' _ _ _ (by rw [hc']; rfl), by rw [World.frozen?_setCell]; exact hf', ?_⟩, HB'.out.setCell (p := ⟨w.heap.size, 0, none⟩) (by simp) _⟩
    have hkept := ownsRow_kept_set (g := w.heap.size) (j := 0) (u := .slice a4 (pre.length + 1) c4) HO'.out (fun e => by have := (HO'.out.lt _ e).1; omega)
    simpa using hkept
  case done =>
    rintro W ⟨⟨v, hc, hf, hown⟩, hB⟩ hK _
    obtain ⟨va, vc, rfl⟩ := ownsRow_shape hown
    have hxx := ownsRow_walk (B := W.putObj V.heap.size (.deferred none)) hown (grownBy_putObj' W V.heap.size (.deferred none)) (fun r e => by cases e; exact ⟨_, hK, rfl⟩)
    gi_wp2
    refine ⟨by simp, .inl ⟨_, _, rfl, run_takeDeferred hK, ?_⟩⟩
    refine ⟨.slice va (dn T n).length vc, ?_, va, vc, rfl, ownsRow_base hxx (by omega), hB.trans (belowK_b (w := w) (Nat.le_refl _) _ V.heap.size _ _ (by omega) hK rfl rfl)⟩
    simp [results, Tryz.f154, go_sem]
  case stop =>
    rintro c pre W _ h _ _
    exact h.elim

theorem collectDown_any (T : List Nd) (hm : mayB T = true) (n : Nat) (hn : n < T.length) (b off cap Bn Bt : Nat) (w : World) (hT : TreeAt w (.slice (some ⟨b, off, none⟩) T.length cap) T) (hBn : w.cell? ⟨Bn, 0, none⟩ = some (.int .i64 (n : Int))) (hBt : w.cell? ⟨Bt, 0, none⟩ = some (.slice (some ⟨b, off, none⟩) T.length cap)) (hlen : (dn T n).length ≤ 1000) :
    Calls Tryz.prog 129 #[.func (.func 223) #[] #[.pointer (some ⟨Bn, 0, none⟩), .pointer (some ⟨Bt, 0, none⟩)]] w fun e W' => ∃ a c, e = .returned (.slice a (dn T n).length c) ∧ W'.ownsRow w.heap.size 3 1 (.slice a (dn T n).length c) (dn T n).length (natCells (dn T n)) ∧ Below w.heap.size w W' := by
  have H := hideG (callsIn_wide.1 (appendDown_in T hm n hn b off cap Bn Bt w hT hBn hBt hlen))
  clear hT hBn hBt
  go_enter Tryz.func129, Tryz.ntmps129
  go_wp2_with (go_at_call 154; refine H.out.mono ?_; rintro e w1 ⟨a, c, rfl, ho, hb⟩)
  go_ret
  exact ⟨a, c, rfl, ho, hb⟩

/-- order.List. -/
def dnI (T : List Nd) (n : Int) : List Int := if knownB T [n] then castL (dn T n.toNat) else []

set_option maxRecDepth 100000 in
set_option maxHeartbeats 2000000 in
theorem orderList_any (T : List Nd) (hS : Sane T) (v : Value) (n : Int) (w : World) (hT : TreeAt w v T) (hlen : ∀ m : Nat, mayB T = true → m < T.length → (dn T m).length ≤ 1000) :
    Calls Tryz.prog 221 #[v, .int .i64 n] w fun e w' => ∃ a c, e = .returned (.slice a (dnI T n).length c) ∧ w'.ownsRow w.heap.size 3 1 (.slice a (dnI T n).length c) (dnI T n).length (intCells (dnI T n)) ∧ Below w.heap.size w w' := by
  have HA := hideG ((Below.refl _ w).alloc (Nat.le_refl _) (.cells #[.int .i64 n] 3))
  have HT := hideG (hT.below HA.out)
  have HS := hideG hS
  have HT0 := hideG hT
  cases hk : knownB T [n]
  · obtain ⟨a, cap, rfl⟩ := hT.shape
    clear hT hS hlen
    have hq : dnI T n = [] := by simp [dnI, hk]
    rw [hq]
    go_enter Tryz.func221, Tryz.ntmps221
    go_wp2_with (go_at_call 168; refine (known_any T HS.out _ [n] _ _ HT.out (ints_new1 _ _) (by simp)).mono ?_; rintro e w1 ⟨rfl, hb1⟩; simp only [World.size_alloc] at hb1)
    go_ret
    exact ⟨none, 0, rfl, World.ownsRow_nil _ _ _ _, HA.out.trans (hb1.mono (by omega))⟩
  · have hk' := hk
    simp only [knownB, List.all_cons, List.all_nil, Bool.and_true, Bool.and_eq_true] at hk'
    obtain ⟨hm, hi⟩ := hk'
    obtain ⟨m, rfl, hml⟩ := isNodeB_true hi
    obtain ⟨b, off, cap, rfl, _⟩ := hT.at (by omega)
    have hl := hlen m hm hml
    clear hT hS hlen
    have hq : dnI T m = castL (dn T m) := by simp [dnI, hk]
    rw [hq]
    have HM := hideG hm
    clear hm hi hq
    go_enter Tryz.func221, Tryz.ntmps221
    go_wp2_with (first | (go_at_call 168; refine (known_any T HS.out _ [(m : Int)] _ _ HT.out (ints_new1 _ _) (by simp)).mono ?_; rintro e w1 ⟨rfl, hb1⟩; simp only [World.size_alloc] at hb1; have HB1 := hideG (HA.out.trans (hb1.mono (by omega))); clear hb1) | (go_at_call 222; refine (callsIn_wide.1 (odown_in _ _ _ _ 0 _)).mono ?_; rintro e w2 ⟨rfl, hw2⟩; have HW2 := hideG hw2; clear hw2))
    have d1 := cell_new_l w1 (.slice (some ⟨b, off, none⟩) T.length cap) 23
    have d2 := cell_new_l (w1.alloc (.cells #[.slice (some ⟨b, off, none⟩) T.length cap] 23)) (.int .i64 (m : Int)) 3
    simp only [World.size_alloc] at d2
    have hBB : Below w1.heap.size w1 ((w1.alloc (.cells #[.slice (some ⟨b, off, none⟩) T.length cap] 23)).alloc (.cells #[.int .i64 (m : Int)] 3)) := ((Below.refl _ w1).alloc (Nat.le_refl _) _).alloc (by simp) _
    have hw := HW2.out
    subst hw
    refine (collectDown_any T HM.out m hml b off cap (w1.heap.size + 1) w1.heap.size _ (HT0.out.below (HB1.out.trans (hBB.mono HB1.out.size))) d2.1 (cell_alloc_l _ d1.1) hl).mono ?_
    rintro e w3 ⟨a3, c3, rfl, ho3, hb3⟩
    have HB3 := hideG ((HB1.out.trans (hBB.mono HB1.out.size)).trans (hb3.mono (HB1.out.trans (hBB.mono HB1.out.size)).size))
    have HO3 := hideG (ownsRow_base ho3 (HB1.out.trans (hBB.mono HB1.out.size)).size)
    clear ho3 hb3 d1 d2 hBB
    go_wp2_with fail
    go_ret
    exact ⟨a3, c3, congrArg (fun k => Ending.returned (.slice a3 k c3)) (castL_length _).symm, by rw [castL_length]; exact HO3.out, HB3.out⟩
end Go.Proofs.YtclhimodopgeoaaGreat
namespace Go.Proofs.YtclhimodopgeoaaGreat
open Go.RowKit Go.Shelf

attribute [local go_sem] Oper.semAt_some

end Go.Proofs.YtclhimodopgeoaaGreat
namespace Go.Proofs.YtclhimodopgeoaaGreat
open Go.RowKit

theorem contains_castL {l : List Nat} {x : Nat} : containsB (castL l) (x : Int) = decide (x ∈ l) := by
  unfold containsB; exact decide_eq_decide.mpr mem_castL
end Go.Proofs.YtclhimodopgeoaaGreat
namespace Go.Proofs.YtclhimodopgeoaaGreat
open Go.RowKit

theorem dn_short {T : List Nd} (m : Nat) (hm : mayB T = true) (h : m < T.length) : (dn T m).length ≤ 1000 := by
  have h1 := (forest3 hm).d_len h
  have h2 := mayB_pos hm
  omega
theorem listO_any (T : List Nd) (hS : Sane T) (v : Value) (n : Int) (w : World) (hT : TreeAt w v T) :
    Calls Tryz.prog 221 #[v, .int .i64 n] w fun e w' => ∃ a c, e = .returned (.slice a (dnI T n).length c) ∧ w'.ownsRow w.heap.size 3 1 (.slice a (dnI T n).length c) (dnI T n).length (intCells (dnI T n)) ∧ Below w.heap.size w w' :=
  orderList_any T hS v n w hT (fun m => dn_short m)
end Go.Proofs.YtclhimodopgeoaaGreat
namespace Go.Proofs.YtclhimodopgeoaaGreat
open Go.RowKit

theorem dnI_known {T : List Nd} (hm : mayB T = true) {n : Nat} (hn : n < T.length) : dnI T (n : Int) = castL (dn T n) := by
  unfold dnI; rw [known_of hm hn, if_pos rfl, Int.toNat_natCast]
theorem topI_known {T : List Nd} (hm : mayB T = true) {n : Nat} (hn : n < T.length) : topI T (n : Int) = (topN T n : Int) := by
  unfold topI; rw [known_of hm hn, if_pos rfl, Int.toNat_natCast]
end Go.Proofs.YtclhimodopgeoaaGreat
namespace Go.Proofs.YtclhimodopgeoaaGreat
open Go.RowKit

theorem below_drewN {B : Nat} {a w : World} (h : Below B a w) (n : Nat) : Below B a (w.drewN n) := h.trans ⟨rfl, rfl, rfl, Nat.le_refl _, fun _ _ => rfl⟩

end Go.Proofs.YtclhimodopgeoaaGreat
namespace Go.Proofs.YtclhimodopgeoaaGreat
open Go.RowKit

theorem castL_getD (l : List Nat) {j : Nat} (h : j < l.length) : (castL l).getD j 0 = ((l.getD j 0 : Nat) : Int) := by
  unfold castL
  rw [List.getD_eq_getElem?_getD, List.getElem?_map, List.getD_eq_getElem?_getD, List.getElem?_eq_getElem h]; rfl
theorem getD_mem {l : List Nat} {j : Nat} (h : j < l.length) : l.getD j 0 ∈ l := by
  rw [List.getD_eq_getElem?_getD, List.getElem?_eq_getElem h]; exact List.getElem_mem h

end Go.Proofs.YtclhimodopgeoaaGreat

