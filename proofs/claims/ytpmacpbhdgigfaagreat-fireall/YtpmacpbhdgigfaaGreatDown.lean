/- A node and all below it, in the order of the tree; the function down of package order, an iterator that ranges over itself. -/
import Derived.Test.YtpmacpbhdgigfaaGreatDeep
import Derived.Test.YtpmacpbhdgigfaaGreatShade
namespace Go.Proofs.YtpmacpbhdgigfaaGreat
open Go.RowKit Go.Shelf

attribute [local go_sem] Oper.semAt_some

def dnF (T : List Nd) : Nat → Nat → List Nat
  | 0, _ => []
  | k + 1, n => n :: (nd T n).kids.flatMap fun x => dnF T k x.toNat
/-- A node, and all below its kids. -/
def dn (T : List Nd) (n : Nat) : List Nat := dnF T (T.length + 1) n

theorem dnF_stable {T : List Nd} (hm : mayB T = true) : ∀ {k n : Nat}, n < T.length → T.length < k + (upsL T n).length → ∀ j, k ≤ j → dnF T j n = dnF T k n
  | 0, n, _, h, _, _ => by have := upsL_le T n; omega
  | k + 1, n, hn, h, j, hj => by
    obtain ⟨j, rfl⟩ : ∃ j', j = j' + 1 := ⟨j - 1, by omega⟩
    rw [dnF, dnF, List.flatMap_def, List.flatMap_def]
    congr 2
    apply List.map_congr_left
    intro x hx
    obtain ⟨m, rfl, hml, ho⟩ := over_kid (mayB_fine hm) hn hx
    have hs := (upsL_some hm hml ho).1
    rw [Int.toNat_natCast]
    refine dnF_stable hm hml ?_ j (by omega)
    rw [hs, List.length_cons]; omega
theorem dn_eq {T : List Nd} (hm : mayB T = true) {n : Nat} (hn : n < T.length) : dn T n = n :: (nd T n).kids.flatMap fun x => dn T x.toNat := by
  rw [dn, dnF, List.flatMap_def, List.flatMap_def]
  congr 2
  apply List.map_congr_left
  intro x hx
  obtain ⟨m, rfl, hml, ho⟩ := over_kid (mayB_fine hm) hn hx
  have hs := (upsL_some hm hml ho).1
  rw [Int.toNat_natCast]
  refine (dnF_stable hm hml ?_ (T.length + 1) (by omega)).symm
  rw [hs, List.length_cons]; omega

theorem odown_in (a : Option Addr) (len cap : Nat) (n : Int) (m : Nat) (w : World) :
    CallsIn Fence.wide m Tryz.prog 266 #[.slice a len cap, .int .i64 n] w fun e w' => e = .returned (.func (.func 267) #[] #[.pointer (some ⟨w.heap.size + 1, 0, none⟩), .pointer (some ⟨w.heap.size, 0, none⟩)]) ∧ w' = (w.alloc (.cells #[.slice a len cap] 23)).alloc (.cells #[.int .i64 n] 3) := by
  refine callsIn_of_wp Tryz.func266 rfl trivial ?_ rfl
  simp only [Tryz.ntmps266, List.size_toArray, List.length_cons, List.length_nil, Nat.reduceAdd, Nat.reduceSub, Array.replicate_succ, Array.replicate_zero, List.push_toArray, List.append_toArray, List.nil_append, List.cons_append]
  gi_wp2
  go_ret
  exact ⟨rfl, rfl⟩

/-- A mark of a range over a function. -/
def mark (D : Nat) : Deferred := { target := .collected D, args := #[] }

set_option maxRecDepth 100000 in
set_option maxHeartbeats 4000000 in
theorem down1_in (T : List Nd) (hm : mayB T = true) (tb to tc : Nat) (w0 : World) (hT : TreeAt w0 (.slice (some ⟨tb, to, none⟩) T.length tc) T) (X : Nat) : ∀ (d n : Nat), n < T.length → T.length < d + (upsL T n).length →
    ∀ (E : Nat → Prop) (M Bn Bt : Nat) (W : World), (∀ k, E k → w0.heap.size ≤ k ∧ k < M) → M ≤ W.heap.size → X < M → Below w0.heap.size w0 W → (∀ g, ownX X W = some g → w0.heap.size ≤ g ∧ g < W.heap.size) →
    Held E X W Bn → Held E X W Bt → W.cell? ⟨Bn, 0, none⟩ = some (.int .i64 (n : Int)) → W.cell? ⟨Bt, 0, none⟩ = some (.slice (some ⟨tb, to, none⟩) T.length tc) →
    DeepSeq Tryz.prog 267 #[.pointer (some ⟨Bn, 0, none⟩), .pointer (some ⟨Bt, 0, none⟩)] (fun x : Nat => #[Value.int .i64 (x : Int)]) X M E (dn T n) W
  | 0, n, hn, h => by have := upsL_le T n; omega
  | d + 1, n, hn, hd => by
    intro E M Bn Bt W hE hMW hXM hB hown hBn hBt cn ct m l J Jx hJ hJx hY h0
    refine callsIn_wide.2 ((callsIn_wide (n := 5)).1 ?_)
    have hF := mayB_fine hm
    have hdn := dn_eq hm hn
    have hpos := mayB_pos hm
    have ih := down1_in T hm tb to tc w0 hT X d
    -- the box of yield
    obtain ⟨Wa, hWa⟩ : ∃ Wa, W.alloc (.cells #[.func (.yield l) #[] #[]] 104) = Wa := ⟨_, rfl⟩
    have hka : Kd E X W Wa := by rw [← hWa]; exact Kd.alloc W _ (by omega)
    have hsa : Wa.heap.size = W.heap.size + 1 := by rw [← hWa]; simp
    have hoa : ownX X Wa = ownX X W := by rw [← hWa]; exact ownX_block (((Below.refl W.heap.size W).alloc (Nat.le_refl _) _).block X (by omega))
    have hyb : Held E X Wa W.heap.size := ⟨by omega, fun e => by have := hE _ e; omega, by rw [hoa]; intro e; have := hown _ e; omega⟩
    have cya : Wa.cell? ⟨W.heap.size, 0, none⟩ = some (.func (.yield l) #[] #[]) := by rw [← hWa]; exact (cell_new_l W _ _).1
    have cna := hBn.cell hka cn
    have cta := hBt.cell hka ct
    have hBna := hBn.kd hka
    have hBta := hBt.kd hka
    have hBa : Below w0.heap.size w0 Wa := by rw [← hWa]; exact hB.alloc hB.size _
    have hJa : J [] Wa := by rw [← hWa]; exact hJ.alloc _ h0
    have h1l : ([] : List Nat).length < (dn T n).length := by rw [hdn]; simp
    obtain ⟨fn, tmps, assign, body, hy, hR⟩ := hY 4 [] n Wa hJa h1l
    have HR := hideG hR
    clear hR
    refine callsIn_of_wp_marks Tryz.func267 rfl trivial ?_ rfl
    simp only [Tryz.ntmps267, List.size_toArray, List.length_cons, List.length_nil, Nat.reduceAdd, Nat.reduceSub, Array.replicate_succ, Array.replicate_zero, List.push_toArray, List.append_toArray, List.nil_append, List.cons_append]
    gi_wp2
    refine HR.out.mono ?_
    clear HR hy
    rintro e W1 (⟨rfl, hJ1, hk1⟩ | ⟨rfl, hJx1, hk1⟩)
    · have ct1 := hBta.cell hk1 cta
      have cn1 := hBna.cell hk1 cna
      have hE0 : ∀ k, E k → w0.heap.size ≤ k := fun k e => (hE k e).1
      have hb0 := hB.size
      have hBB : ∀ V, Kd E X Wa V → Below w0.heap.size w0 V := fun V hV => hBa.trans (hV.below hE0 (fun g hg => by rw [hoa] at hg; exact (hown g hg).1) (by omega))
      have HBB := hideG hBB
      have hOV : ∀ V, Kd E X Wa V → ∀ g, ownX X V = some g → w0.heap.size ≤ g ∧ g < V.heap.size := fun V hV g hg => by
        have hs := hV.size
        rcases hV.own g hg with e | ⟨e1, e2⟩
        · rw [hoa] at e
          have := hown g e
          omega
        · omega
      have HOV := hideG hOV
      have hT1 := hT.below (hBB W1 hk1)
      obtain ⟨tb', to', tc', htv, hct⟩ := hT1.at (by omega)
      simp only [Value.slice.injEq, Option.some.injEq, Addr.mk.injEq, and_true, true_and] at htv
      obtain ⟨⟨rfl, rfl⟩, rfl⟩ := htv
      obtain ⟨kv, av, hN⟩ := hct n hn
      have g3 := hN.kidsc
      obtain ⟨kka, kkc, hkv⟩ := hN.kids.shape
      subst hkv
      have h64 := fine_short hF hn
      have HKI := hideG (show ∀ V, Kd E X W1 V → IntsAt V (.slice kka (nd T n).kids.length kkc) (nd T n).kids from fun V hV => by
        obtain ⟨b2, o2, c2, htv, hct⟩ := hT.at (by omega)
        simp only [Value.slice.injEq, Option.some.injEq, Addr.mk.injEq, and_true, true_and] at htv
        obtain ⟨⟨rfl, rfl⟩, rfl⟩ := htv
        obtain ⟨kv0, av0, hN0⟩ := hct n hn
        have e1 := cell_below (HBB.out W1 hk1) hN0.kidsc
        rw [g3] at e1
        injection e1 with e1
        rw [e1]
        exact hN0.kids.below (HBB.out V (hk1.trans hV)))
      clear hct hN hT1 hBB hOV
      have HK1 := hideG hk1
      have HJ1 := hideG hJ1
      have HIH := hideG ih
      clear hk1 hJ1 ih
      gi_wp2
      clear g3 ct1 cn1
      refine wpIn_loop (fun a' V => ∃ (k : Nat) (Ds : List Nat) (u4 u5 u6 u7 u8 u9 u10 u11 u12 u13 u14 u18 u19 u20 u21 u22 u23 u24 u25 u26 u27 u28 u29 : Value), a' = { tmps := #[.func (.yield l) #[] #[], .pointer (some ⟨Bn, 0, none⟩), .pointer (some ⟨Bt, 0, none⟩), .pointer (some ⟨W.heap.size, 0, none⟩), u4, u5, u6, u7, u8, u9, u10, u11, u12, u13, u14, .slice kka (nd T n).kids.length kkc, .int .i64 ((nd T n).kids.length : Int), .int .i64 (k : Int), u18, u19, u20, u21, u22, u23, u24, u25, u26, u27, u28, u29], defers := Ds.map mark } ∧ k ≤ (nd T n).kids.length ∧ J (n :: ((nd T n).kids.take k).flatMap fun x => dn T x.toNat) V ∧ Kd E X W1 V ∧ Ds.Nodup ∧ ∀ D ∈ Ds, W.heap.size ≤ D ∧ Held E X V D ∧ V.heap[D]? = some (.deferred (some []))) (fun a' _ => (nd T n).kids.length - (intOf (a'.tmps.getD 17 undef)).toNat) ?_ ?_
      · exact ⟨0, [], _, _, _, _, _, _, _, _, _, _, _, _, _, _, _, _, _, _, _, _, _, _, _, rfl, Nat.zero_le _, by simpa using HJ1.out, Kd.refl _ _ _, List.nodup_nil, fun D h => by cases h⟩
      · rintro a' V ⟨k, Ds, u4, u5, u6, u7, u8, u9, u10, u11, u12, u13, u14, u18, u19, u20, u21, u22, u23, u24, u25, u26, u27, u28, u29, rfl, hkl, hJV, hKV, hnd, hDs⟩
        have HJV := hideG hJV
        have HKV := hideG hKV
        have HND := hideG hnd
        have HDS := hideG hDs
        have hKaV := HK1.out.trans hKV
        have HKaV := hideG hKaV
        have ctV := hBta.cell hKaV cta
        have cyV := hyb.cell hKaV cya
        have hsV := hKaV.size
        have hXV : X < V.heap.size := by omega
        have hEV : ∀ k, E k → k < V.heap.size := fun k e => by have := (hE k e).2; omega
        have HEV := hideG hEV
        clear hJV hKV hnd hDs hKaV hEV
        by_cases hlt : k < (nd T n).kids.length
        · have hki := HKI.out V HKV.out
          obtain ⟨a1, c1, hv1, hd1⟩ := hki
          simp only [Value.slice.injEq, true_and] at hv1
          obtain ⟨rfl, rfl⟩ := hv1
          obtain ⟨kb, koff, rfl, hdd⟩ := hd1 (by omega)
          have ck := hdd k hlt
          have hst := flat_take hlt (fun x => dn T x.toNat)
          have hxk : (nd T n).kids.getD k 0 ∈ (nd T n).kids := by
            rw [List.getD_eq_getElem?_getD, List.getElem?_eq_getElem hlt]; exact List.getElem_mem hlt
          obtain ⟨q, hxq, hql, hoq⟩ := over_kid hF hn hxk
          rw [hxq] at ck
          rw [hxq, Int.toNat_natCast] at hst
          have hpre : ∃ post, dn T n = (n :: ((nd T n).kids.take k).flatMap fun x => dn T x.toNat) ++ dn T q ++ post := by
            refine ⟨((nd T n).kids.drop (k + 1)).flatMap fun x => dn T x.toNat, ?_⟩
            rw [hdn]
            conv => lhs; rw [← List.take_append_drop (k + 1) (nd T n).kids, List.flatMap_append, hst]
            simp
          obtain ⟨post, hpost⟩ := hpre
          have HP := hideG hpost
          have HST := hideG hst
          have hsq := (upsL_some hm hql hoq).1
          have hdq : T.length < d + (upsL T q).length := by rw [hsq, List.length_cons]; omega
          clear hd1 hdd hxk hxq hst hpost hsq
          generalize hpre0 : (n :: ((nd T n).kids.take k).flatMap fun x => dn T x.toNat) = pre0 at *
          gi_wp2_with (refine ⟨trivial, ?_⟩; gi_at_call 266; refine (odown_in _ _ _ _ _ _).mono ?_; rintro e w' ⟨rfl, rfl⟩)
          obtain ⟨V2, hV2⟩ : ∃ V2, (V.alloc (.cells #[.slice (some ⟨tb, to, none⟩) T.length tc] 23)).alloc (.cells #[.int .i64 (q : Int)] 3) = V2 := ⟨_, rfl⟩
          have hs2 : V2.heap.size = V.heap.size + 2 := by rw [← hV2]; simp
          have hk2 : Kd E X V V2 := by rw [← hV2]; exact (Kd.alloc V _ hXV).trans (Kd.alloc _ _ (by simp; omega))
          have hJ2 : J pre0 V2 := by rw [← hV2]; exact hJ.alloc _ (hJ.alloc _ HJV.out)
          have d1 := cell_new_l V (.slice (some ⟨tb, to, none⟩) T.length tc) 23
          have d2 := cell_new_l (V.alloc (.cells #[.slice (some ⟨tb, to, none⟩) T.length tc] 23)) (.int .i64 (q : Int)) 3
          simp only [World.size_alloc] at d2
          have cT2 : V2.cell? ⟨V.heap.size, 0, none⟩ = some (.slice (some ⟨tb, to, none⟩) T.length tc) := by rw [← hV2]; exact cell_alloc_l _ d1.1
          have cN2 : V2.cell? ⟨V.heap.size + 1, 0, none⟩ = some (.int .i64 (q : Int)) := by rw [← hV2]; exact d2.1
          have hB2 : Below V.heap.size V V2 := by rw [← hV2]; exact ((Below.refl _ V).alloc (Nat.le_refl _) _).alloc (by simp) _
          have hx2 : ownX X V2 = ownX X V := ownX_block (hB2.block X hXV)
          rw [hV2]
          clear d1 d2 hV2
          have hKa2 := HKaV.out.trans hk2
          have hO2 := HOV.out V2 hKa2
          have hOV' := HOV.out V HKaV.out
          refine range_deep rfl (enters_of Tryz.func267 (by kernel_rfl) rfl) (fun x : Nat => #[Value.int .i64 (x : Int)]) (fun _ => rfl) X E (fun k e => by have := HEV.out k e; omega) (by omega) (fun g hg => (hO2 g hg).2) (dn T q) ?seq
            (fun pre U => J (pre0 ++ pre) U ∧ Kd E X V2 U) (fun c pre U => c = .ret ∧ Jx (pre0 ++ pre) U ∧ Kd E X V2 U) ?hI ?hIx ⟨by simpa using hJ2, Kd.refl _ _ _⟩
            (fun x => { tmps := #[.func (.yield l) #[] #[], .pointer (some ⟨Bn, 0, none⟩), .pointer (some ⟨Bt, 0, none⟩), .pointer (some ⟨W.heap.size, 0, none⟩), u4, .int .i64 (q : Int), .int .i64 (x : Int), u7, u8, u9, u10, u11, u12, u13, u14, .slice (some ⟨kb, koff, none⟩) (nd T n).kids.length kkc, .int .i64 ((nd T n).kids.length : Int), .int .i64 (k : Int), .bool true, .pointer (some ⟨kb, koff + k, none⟩), .int .i64 (q : Int), .slice (some ⟨tb, to, none⟩) T.length tc, .int .i64 (q : Int), .func (.func 267) #[] #[.pointer (some ⟨V.heap.size + 1, 0, none⟩), .pointer (some ⟨V.heap.size, 0, none⟩)], .int .i64 (x : Int), u25, u26, u27, u28, u29], defers := [] }) ?assign ?body ?done ?stop
          case seq =>
            intro U hBU hsU
            have hoU : ownX X U = ownX X V2 := ownX_block (hBU.block X (by omega))
            have hno : ∀ j, V.heap.size ≤ j → j < V.heap.size + 2 → Held (fun k => E k ∨ k = V2.heap.size + 1) X U j := fun j h1 h2 => by
              refine ⟨by omega, ?_, ?_⟩
              · rintro (e | e)
                · have := HEV.out j e; omega
                · omega
              · rw [hoU, hx2]; intro e; have := hOV' j e; omega
            refine HIH.out q hql hdq _ _ (V.heap.size + 1) V.heap.size U ?_ (by omega) (by omega) ((HBB.out V2 hKa2).trans (hBU.mono (by omega))) ?_ (hno _ (by omega) (by omega)) (hno _ (by omega) (by omega)) (cell_below hBU cN2) (cell_below hBU cT2)
            · rintro j (e | e)
              · have := hE j e; have := HEV.out j e; omega
              · omega
            · intro g hg
              rw [hoU] at hg
              have := hO2 g hg
              omega
          case hI =>
            exact OwnFrom.and (fun s A B row h hg hr => hJ (pre0 ++ s) A B row h hg (fun r e => ⟨by have := (hr r e).1; omega, (hr r e).2⟩)) (kd_own (by omega))
          case hIx =>
            rintro c s A B row ⟨h1, h2, h3⟩ hg hr
            exact ⟨h1, hJx (pre0 ++ s) A B row h2 hg (fun r e => ⟨by have := (hr r e).1; omega, (hr r e).2⟩), kd_own (β := Unit) (by omega) () A B row h3 hg hr⟩
          case assign =>
            intro l' m' x U K hK
            gi_wp2
            exact hK
          case body =>
            rintro l' m' pre x U ⟨hJU, hKU⟩ hlen
            have hlen2 : (pre0 ++ pre).length < (dn T n).length := by rw [HP.out]; simp; omega
            have cyU := hyb.cell (hKa2.trans hKU) cya
            obtain ⟨fn', tmps', assign', body', hy', hR'⟩ := hY (m' - 1) (pre0 ++ pre) x U hJU hlen2
            have HR' := hideG hR'
            clear hR'
            gi_wp2
            refine ⟨fun h => (by cases h), RoundIn.mono (F := Fence.wide.inRound l') HR'.out ?_⟩
            rintro e U3 (⟨rfl, hJ3, hk3⟩ | ⟨rfl, hJ3, hk3⟩)
            · gi_wp2
              exact ⟨hk3, by rw [← List.append_assoc]; exact hJ3, hKU.trans hk3⟩
            · gi_wp2
              exact ⟨hk3, rfl, by rw [← List.append_assoc]; exact hJ3, hKU.trans hk3⟩
          case done =>
            rintro U ⟨hJU, hKU⟩ hD hoD
            have hDU : ∀ D ∈ V2.heap.size :: Ds, W.heap.size ≤ D ∧ Held E X U D ∧ U.heap[D]? = some (.deferred (some [])) := by
              intro D hD'
              rcases List.mem_cons.mp hD' with rfl | hD'
              · exact ⟨by omega, ⟨(Array.getElem?_eq_some_iff.1 hD).1, fun e => by have := HEV.out _ e; omega, hoD⟩, hD⟩
              · obtain ⟨h1, h2, h3⟩ := HDS.out D hD'
                have h2' := h2.kd hk2
                exact ⟨h1, h2'.kd hKU, (hKU.block D h2'.1 h2'.2.1 h2'.2.2).trans ((hk2.block D h2.1 h2.2.1 h2.2.2).trans h3)⟩
            have hnd' : (V2.heap.size :: Ds).Nodup := List.nodup_cons.mpr ⟨fun h => by have := (HDS.out _ h).2.1.1; omega, HND.out⟩
            have hfl : n :: ((nd T n).kids.take (k + 1)).flatMap (fun x => dn T x.toNat) = pre0 ++ dn T q := by rw [HST.out, ← hpre0]; simp
            have HDU := hideG hDU
            have HND' := hideG hnd'
            have HFL := hideG hfl
            clear hDU hnd' hfl
            gi_wp2
            have e1 : (k : Int) + 1 = ((k + 1 : Nat) : Int) := by omega
            rw [e1]
            refine ⟨⟨k + 1, V2.heap.size :: Ds, _, _, _, _, _, _, _, _, _, _, _, _, _, _, _, _, _, _, _, _, _, _, _, rfl, by omega, by rw [HFL.out]; exact hJU, (HKV.out.trans hk2).trans hKU, HND'.out, HDU.out⟩, ?_⟩
            simp [intOf]; omega
          case stop =>
            rintro c pre U hpp ⟨rfl, hJU, hKU⟩ hD hoD
            have hDU : ∀ D ∈ V2.heap.size :: Ds, U.heap[D]? = some (.deferred (some [])) := by
              intro D hD'
              rcases List.mem_cons.mp hD' with rfl | hD'
              · exact hD
              · obtain ⟨h1, h2, h3⟩ := HDS.out D hD'
                have h2' := h2.kd hk2
                exact (hKU.block D h2'.1 h2'.2.1 h2'.2.2).trans ((hk2.block D h2.1 h2.2.1 h2.2.2).trans h3)
            have hge : ∀ D ∈ V2.heap.size :: Ds, M ≤ D := by
              intro D hD'
              rcases List.mem_cons.mp hD' with rfl | hD'
              · omega
              · have := (HDS.out D hD').1; omega
            have hnd' : (V2.heap.size :: Ds).Nodup := List.nodup_cons.mpr ⟨fun h => by have := (HDS.out _ h).2.1.1; omega, HND.out⟩
            have hpx : pre0 ++ pre <+: dn T n := by
              obtain ⟨r, hr⟩ := hpp
              exact ⟨r ++ post, by rw [HP.out, ← hr]; simp⟩
            gi_wp2
            exact leaves_marks (fun w => Jx (pre0 ++ pre) w) (V2.heap.size :: Ds) U hnd' hDU (fun D w hD' ho hK => hJx.putObj _ hK (hge D hD') ho rfl) hJU (fun w hK => ⟨_, results_none rfl _ _ _, ⟨_, rfl⟩, .inr ⟨pre0 ++ pre, hpx, hK⟩⟩)
        · have hke : k = (nd T n).kids.length := by omega
          subst hke
          have hall : n :: ((nd T n).kids.take (nd T n).kids.length).flatMap (fun x => dn T x.toNat) = dn T n := by rw [List.take_length, hdn]
          rw [hall] at HJV
          have hDV : ∀ D ∈ Ds, V.heap[D]? = some (.deferred (some [])) := fun D h => (HDS.out D h).2.2
          have hge : ∀ D ∈ Ds, M ≤ D := fun D h => by have := (HDS.out D h).1; omega
          have HDV := hideG hDV
          have HGE := hideG hge
          clear hDV hge hall
          gi_wp2
          exact leaves_marks (fun w => J (dn T n) w) Ds V HND.out HDV.out (fun D w hD' ho hK => hJ.putObj _ hK (HGE.out D hD') ho rfl) HJV.out (fun w hK => ⟨_, results_none rfl _ _ _, ⟨_, rfl⟩, .inl hK⟩)
    · gi_wp2
      exact ⟨_, results_none rfl _ _ _, ⟨_, rfl⟩, .inr ⟨[n], ⟨(nd T n).kids.flatMap fun x => dn T x.toNat, by rw [hdn]; rfl⟩, hJx1⟩⟩
end Go.Proofs.YtpmacpbhdgigfaaGreat
