/- shade.List: a node, its shadow, its kids. -/
import Derived.Test.YtoolkpjbbngdpaaShade3
namespace Go.Proofs.Ytoolkpjbbngdpaa
open Go.RowKit

def slF (T : List Nd) : Nat → Nat → List Nat
  | 0, _ => []
  | k + 1, n => n :: ((if (nd T n).root == -1 then [] else slF T k (nd T n).root.toNat) ++ (nd T n).kids.flatMap fun x => slF T k x.toNat)
/-- A node, all in its shadow, all below its kids. -/
def sl (T : List Nd) (n : Nat) : List Nat := slF T (T.length + 1) n

theorem over_kid {T : List Nd} (h : Fine T) {n : Nat} (hn : n < T.length) {x : Int} (hx : x ∈ (nd T n).kids) : ∃ m : Nat, x = m ∧ m < T.length ∧ overI (nd T m) = (n : Int) := by
  obtain ⟨m, rfl, hml, hk, hp⟩ := kidP_iff.mp (h.kid n hn x hx)
  exact ⟨m, rfl, hml, by rw [over_parent (kid_not_shadow hk)]; exact hp⟩
theorem over_root {T : List Nd} (h : Fine T) {n : Nat} (hn : n < T.length) (hr : ((nd T n).root == -1) = false) : ∃ m : Nat, (nd T n).root = m ∧ m < T.length ∧ overI (nd T m) = (n : Int) := by
  rcases rootP_iff.mp (h.root n hn) with e | ⟨_, r, hrl, e, hk, hh⟩
  · rw [e] at hr; simp at hr
  · exact ⟨r, e, hrl, by unfold overI; rw [hk]; exact hh⟩

theorem slF_stable {T : List Nd} (hm : mayB T = true) : ∀ {k n : Nat}, n < T.length → T.length < k + (upsL T n).length → ∀ j, k ≤ j → slF T j n = slF T k n
  | 0, n, _, h, _, _ => by have := upsL_le T n; omega
  | k + 1, n, hn, h, j, hj => by
    obtain ⟨j, rfl⟩ : ∃ j', j = j' + 1 := ⟨j - 1, by omega⟩
    have hF := mayB_fine hm
    have step : ∀ m : Nat, m < T.length → overI (nd T m) = (n : Int) → slF T j m = slF T k m := fun m hml ho => by
      have hs := (upsL_some hm hml ho).1
      refine slF_stable hm hml ?_ j (by omega)
      rw [hs, List.length_cons]; omega
    rw [slF, slF]
    congr 1
    congr 1
    · cases hr : ((nd T n).root == -1)
      · obtain ⟨m, e, hml, ho⟩ := over_root hF hn hr
        rw [e, Int.toNat_natCast, step m hml ho]
      · rfl
    · rw [List.flatMap_def, List.flatMap_def]
      congr 1
      apply List.map_congr_left
      intro x hx
      obtain ⟨m, rfl, hml, ho⟩ := over_kid hF hn hx
      rw [Int.toNat_natCast, step m hml ho]
theorem sl_eq {T : List Nd} (hm : mayB T = true) {n : Nat} (hn : n < T.length) : sl T n = n :: ((if (nd T n).root == -1 then [] else sl T (nd T n).root.toNat) ++ (nd T n).kids.flatMap fun x => sl T x.toNat) := by
  have hF := mayB_fine hm
  have step : ∀ m : Nat, m < T.length → overI (nd T m) = (n : Int) → slF T T.length m = sl T m := fun m hml ho => by
    have hs := (upsL_some hm hml ho).1
    refine (slF_stable hm hml ?_ (T.length + 1) (by omega)).symm
    rw [hs, List.length_cons]; omega
  rw [sl, slF]
  congr 1
  congr 1
  · cases hr : ((nd T n).root == -1)
    · obtain ⟨m, e, hml, ho⟩ := over_root hF hn hr
      rw [e, Int.toNat_natCast, step m hml ho]
    · rfl
  · rw [List.flatMap_def, List.flatMap_def]
    congr 1
    apply List.map_congr_left
    intro x hx
    obtain ⟨m, rfl, hml, ho⟩ := over_kid hF hn hx
    rw [Int.toNat_natCast, step m hml ho]

theorem flat_take {l : List Int} {k : Nat} (h : k < l.length) (f : Int → List Nat) : (l.take (k + 1)).flatMap f = (l.take k).flatMap f ++ f (l.getD k 0) := by
  rw [List.take_add_one, List.getElem?_eq_getElem h, List.flatMap_append, List.getD_eq_getElem?_getD, List.getElem?_eq_getElem h]
  simp
theorem flat_le {l : List Int} (k : Nat) (f : Int → List Nat) : ((l.take k).flatMap f).length ≤ (l.flatMap f).length := by
  conv => rhs; rw [← List.take_append_drop k l, List.flatMap_append, List.length_append]
  omega

set_option maxRecDepth 100000 in
set_option maxHeartbeats 4000000 in
theorem list_in (T : List Nd) (hm : mayB T = true) (tb to tc : Nat) (W : World) (hT : TreeAt W (.slice (some ⟨tb, to, none⟩) T.length tc) T) : ∀ (d n : Nat), n < T.length → T.length < d + (upsL T n).length → ∀ (A : List Int) (aa : Option Addr) (ac : Nat) (w : World), w.ownsRow W.heap.size 3 1 (.slice aa A.length ac) A.length (intCells A) → Below W.heap.size W w → A.length + (sl T n).length ≤ 1000 →
    Calls Try.prog 90 #[.slice aa A.length ac, .slice (some ⟨tb, to, none⟩) T.length tc, .int .i64 (n : Int)] w fun e w' => ∃ a c, e = .returned (.slice a (A ++ castL (sl T n)).length c) ∧ w'.ownsRow W.heap.size 3 1 (.slice a (A ++ castL (sl T n)).length c) (A ++ castL (sl T n)).length (intCells (A ++ castL (sl T n))) ∧ Below W.heap.size W w'
  | 0, n, hn, h => by have := upsL_le T n; omega
  | d + 1, n, hn, hd => by
    intro A aa ac w hown hB hlen
    have hF := mayB_fine hm
    obtain ⟨i3, hi3, hz30, hz31, hz32⟩ := info_parts infoT3
    have ih := list_in T hm tb to tc W hT d
    have HSTEP := hideG (show ∀ m : Nat, m < T.length → overI (nd T m) = (n : Int) → ∀ (A : List Int) (aa : Option Addr) (ac : Nat) (w : World), w.ownsRow W.heap.size 3 1 (.slice aa A.length ac) A.length (intCells A) → Below W.heap.size W w → A.length + (sl T m).length ≤ 1000 →
        Calls Try.prog 90 #[.slice aa A.length ac, .slice (some ⟨tb, to, none⟩) T.length tc, .int .i64 (m : Int)] w fun e w' => ∃ a c, e = .returned (.slice a (A ++ castL (sl T m)).length c) ∧ w'.ownsRow W.heap.size 3 1 (.slice a (A ++ castL (sl T m)).length c) (A ++ castL (sl T m)).length (intCells (A ++ castL (sl T m))) ∧ Below W.heap.size W w' from fun m hml ho => by
      have hs := (upsL_some hm hml ho).1
      exact ih m hml (by rw [hs, List.length_cons]; omega))
    have hsl := sl_eq hm hn
    have hpos := mayB_pos hm
    obtain ⟨tb', to', tc', htv, hct⟩ := hT.at (by omega)
    simp only [Value.slice.injEq, Option.some.injEq, Addr.mk.injEq, and_true, true_and] at htv
    obtain ⟨⟨rfl, rfl⟩, rfl⟩ := htv
    obtain ⟨kv, av, hN⟩ := hct n hn
    have HN := hideG hN
    have HOW := hideG hown
    have HB := hideG hB
    have HSL := hideG hsl
    have HFi := hideG hF
    have h64 := fine_short hF hn
    clear ih hsl hct hown hB hT hm hF hd
    go_enter Try.func90, Try.ntmps90
    go_wp2_with (at_builtin; refine wpList_append_any rfl (.tmp 10) (.tmp 12) 46 rfl W.heap.size 3 i3 _ 1 8 Try.underlying46 hi3 hz30 hz31 hz32 rfl (by decide) _ A.length (intCells A) rfl (HOW.out.alloc _) _ 1 [.int .i64 (n : Int)] rfl (row_new1 _ _) rfl ?h2 ?h3 ?h4 ?h5 ?_)
    case h2 => intro y hy; simp at hy; subst hy; rfl
    case h3 => simp only [maxLen]; omega
    case h4 => omega
    case h5 => have := HB.out.size; simp; omega
    intro v4 w4 ho4 hg4 hf4
    obtain ⟨a4, c4, rfl⟩ := ownsRow_shape ho4
    rw [intCells_snoc] at ho4
    have HB4 := hideG ((HB.out.alloc HB.out.size (.cells #[.int .i64 (n : Int)] 3)).grown hg4 (by have := HB.out.size; simp; omega) (fun j e => (HOW.out.lt j e).1))
    have hl1 : (A ++ [(n : Int)]).length = A.length + 1 := by simp
    have HO4 := hideG (show w4.ownsRow W.heap.size 3 1 (.slice a4 (A ++ [(n : Int)]).length c4) (A ++ [(n : Int)]).length (intCells (A ++ [(n : Int)])) by rw [hl1]; exact ho4)
    have g5 := cell_below HB4.out HN.out.root
    rw [← hl1]
    clear ho4 hg4 hf4 hl1
    obtain ⟨kka, kkc, hkv⟩ := hN.kids.shape
    subst hkv
    have HKC : Hid (0 < (nd T n).kids.length → ∃ b off, kka = some ⟨b, off, none⟩ ∧ ∀ j, j < (nd T n).kids.length → W.cell? ⟨b, off + j, none⟩ = some (.int .i64 ((nd T n).kids.getD j 0))) := by
      obtain ⟨a', cap', hv', hd'⟩ := hN.kids
      simp only [Value.slice.injEq, true_and] at hv'
      obtain ⟨rfl, rfl⟩ := hv'
      exact hd'
    have g3 := HN.out.kidsc
    have hsn : (sl T n).length = 1 + (if (nd T n).root == -1 then 0 else (sl T (nd T n).root.toNat).length) + ((nd T n).kids.flatMap (fun x => sl T x.toNat)).length := by
      rw [HSL.out]
      cases ((nd T n).root == -1) <;> simp <;> omega
    clear hN
    cases hr : ((nd T n).root == -1)
    · obtain ⟨r, hrr, hrl, hro⟩ := over_root HFi.out hn hr
      have HFIN0 := hideG (show (A ++ [(n : Int)]) ++ castL (sl T r) ++ castL ((nd T n).kids.flatMap (fun x => sl T x.toNat)) = A ++ castL (sl T n) by
        rw [HSL.out, hr, hrr, Int.toNat_natCast]; simp [castL])
      rw [hr, hrr, Int.toNat_natCast] at hsn
      simp only [Bool.false_eq_true, if_false] at hsn
      rw [hrr] at g5 hr
      have hbnd0 : (A ++ [(n : Int)]).length + (sl T r).length ≤ 1000 := by simp; omega
      have hB1l : ((A ++ [(n : Int)]) ++ castL (sl T r)).length + ((nd T n).kids.flatMap (fun x => sl T x.toNat)).length ≤ 1000 := by rw [List.length_append, castL_length]; simp only [List.length_append, List.length_cons, List.length_nil]; omega
      clear hrr
      have HSN := hideG hsn
      clear hsn
      generalize A ++ [(n : Int)] = A1 at *
      go_wp2_with (go_at_call 90; refine (HSTEP.out r hrl hro A1 a4 c4 _ HO4.out HB4.out hbnd0).mono ?_; rintro e w5 ⟨a5, c5, rfl, ho5, hb5⟩; have HO5 := hideG ho5; have HB5 := hideG hb5; have g3' := cell_below hb5 g3; clear ho5 hb5; generalize A1 ++ castL (sl T r) = B1 at *)
      have HFIN := HFIN0
      go_loopw [0, 31] (fun o i wr => ∃ (k : Nat) (oa : Option Addr) (oc : Nat), k ≤ (nd T n).kids.length ∧ i = .int .i64 k ∧ o = .slice oa (B1 ++ castL (((nd T n).kids.take k).flatMap (fun x => sl T x.toNat))).length oc ∧ wr.ownsRow W.heap.size 3 1 (.slice oa (B1 ++ castL (((nd T n).kids.take k).flatMap (fun x => sl T x.toNat))).length oc) (B1 ++ castL (((nd T n).kids.take k).flatMap (fun x => sl T x.toNat))).length (intCells (B1 ++ castL (((nd T n).kids.take k).flatMap (fun x => sl T x.toNat)))) ∧ Below W.heap.size W wr) (fun _ i _ => (nd T n).kids.length - (intOf i).toNat)
      case atStart => exact ⟨0, a5, c5, Nat.zero_le _, rfl, by simp [castL], by simpa [castL] using HO5.out, HB5.out⟩
      case round =>
        obtain ⟨k, oa, oc, hk, rfl, rfl, hown, hB⟩ := hrel
        have HOk := hideG hown
        have HBk := hideG hB
        clear hown hB
        by_cases hlt : k < (nd T n).kids.length
        · obtain ⟨kb, koff, rfl, hdd⟩ := HKC.out (by omega)
          have c1 := cell_below HBk.out (hdd k hlt)
          have hst := flat_take hlt (fun x => sl T x.toNat)
          have hle := flat_le (l := (nd T n).kids) (k + 1) (fun x => sl T x.toNat)
          have hxk : (nd T n).kids.getD k 0 ∈ (nd T n).kids := by
            rw [List.getD_eq_getElem?_getD, List.getElem?_eq_getElem hlt]; exact List.getElem_mem hlt
          obtain ⟨m, hxm, hml, ho⟩ := over_kid HFi.out hn hxk
          rw [hxm] at c1
          rw [hxm, Int.toNat_natCast] at hst
          have hbnd : (B1 ++ castL (((nd T n).kids.take k).flatMap (fun x => sl T x.toNat))).length + (sl T m).length ≤ 1000 := by
            rw [hst, List.length_append] at hle
            rw [List.length_append, castL_length]
            omega
          have HST := hideG hst
          clear hdd hst hle hxk hxm
          generalize hcur : B1 ++ castL (((nd T n).kids.take k).flatMap (fun x => sl T x.toNat)) = cur at *
          have HCUR := hideG hcur
          clear hcur
          go_wp2_with (go_at_call 90; refine (HSTEP.out m hml ho cur oa oc _ HOk.out HBk.out hbnd).mono ?_; rintro e w7 ⟨a7, c7, rfl, ho7, hb7⟩; have HO7 := hideG ho7; have HB7 := hideG hb7; clear ho7 hb7)
          have he : cur ++ castL (sl T m) = B1 ++ castL (((nd T n).kids.take (k + 1)).flatMap (fun x => sl T x.toNat)) := by rw [HST.out, castL_append, ← HCUR.out, List.append_assoc]
          have HE := hideG he
          clear he
          go_roundw
          case rel =>
            refine ⟨k + 1, a7, c7, by omega, by go_num, by rw [← HE.out, List.length_append], ?_, HB7.out⟩
            rw [← HE.out]; exact HO7.out
          case measure => simp [intOf]; omega
        · have hke : k = (nd T n).kids.length := by omega
          subst hke
          rw [List.take_length] at HOk ⊢
          go_wp2_with fail
          go_ret
          exact ⟨oa, oc, congrArg (fun l => Ending.returned (.slice oa (List.length l) oc)) HFIN.out, by rw [← HFIN.out]; exact HOk.out, HBk.out⟩
    · have HFIN := hideG (show (A ++ [(n : Int)]) ++ castL ((nd T n).kids.flatMap (fun x => sl T x.toNat)) = A ++ castL (sl T n) by
        rw [HSL.out, hr]; simp [castL])
      rw [hr] at hsn
      simp only [if_true] at hsn
      have hB1l : (A ++ [(n : Int)]).length + ((nd T n).kids.flatMap (fun x => sl T x.toNat)).length ≤ 1000 := by simp only [List.length_append, List.length_cons, List.length_nil]; omega
      have hr1 : (nd T n).root = -1 := by simpa using hr
      rw [hr1] at g5
      have HSN := hideG hsn
      clear hsn hr hr1
      have g3' := cell_below HB4.out g3
      generalize A ++ [(n : Int)] = B1 at *
      go_wp2_with fail
      have a5 := a4
      have c5 := c4
      have HO5 := HO4
      have HB5 := HB4
      go_loopw [0, 31] (fun o i wr => ∃ (k : Nat) (oa : Option Addr) (oc : Nat), k ≤ (nd T n).kids.length ∧ i = .int .i64 k ∧ o = .slice oa (B1 ++ castL (((nd T n).kids.take k).flatMap (fun x => sl T x.toNat))).length oc ∧ wr.ownsRow W.heap.size 3 1 (.slice oa (B1 ++ castL (((nd T n).kids.take k).flatMap (fun x => sl T x.toNat))).length oc) (B1 ++ castL (((nd T n).kids.take k).flatMap (fun x => sl T x.toNat))).length (intCells (B1 ++ castL (((nd T n).kids.take k).flatMap (fun x => sl T x.toNat)))) ∧ Below W.heap.size W wr) (fun _ i _ => (nd T n).kids.length - (intOf i).toNat)
      case atStart => exact ⟨0, a4, c4, Nat.zero_le _, rfl, by simp [castL], by simpa [castL] using HO5.out, HB5.out⟩
      case round =>
        obtain ⟨k, oa, oc, hk, rfl, rfl, hown, hB⟩ := hrel
        have HOk := hideG hown
        have HBk := hideG hB
        clear hown hB
        by_cases hlt : k < (nd T n).kids.length
        · obtain ⟨kb, koff, rfl, hdd⟩ := HKC.out (by omega)
          have c1 := cell_below HBk.out (hdd k hlt)
          have hst := flat_take hlt (fun x => sl T x.toNat)
          have hle := flat_le (l := (nd T n).kids) (k + 1) (fun x => sl T x.toNat)
          have hxk : (nd T n).kids.getD k 0 ∈ (nd T n).kids := by
            rw [List.getD_eq_getElem?_getD, List.getElem?_eq_getElem hlt]; exact List.getElem_mem hlt
          obtain ⟨m, hxm, hml, ho⟩ := over_kid HFi.out hn hxk
          rw [hxm] at c1
          rw [hxm, Int.toNat_natCast] at hst
          have hbnd : (B1 ++ castL (((nd T n).kids.take k).flatMap (fun x => sl T x.toNat))).length + (sl T m).length ≤ 1000 := by
            rw [hst, List.length_append] at hle
            rw [List.length_append, castL_length]
            omega
          have HST := hideG hst
          clear hdd hst hle hxk hxm
          generalize hcur : B1 ++ castL (((nd T n).kids.take k).flatMap (fun x => sl T x.toNat)) = cur at *
          have HCUR := hideG hcur
          clear hcur
          go_wp2_with (go_at_call 90; refine (HSTEP.out m hml ho cur oa oc _ HOk.out HBk.out hbnd).mono ?_; rintro e w7 ⟨a7, c7, rfl, ho7, hb7⟩; have HO7 := hideG ho7; have HB7 := hideG hb7; clear ho7 hb7)
          have he : cur ++ castL (sl T m) = B1 ++ castL (((nd T n).kids.take (k + 1)).flatMap (fun x => sl T x.toNat)) := by rw [HST.out, castL_append, ← HCUR.out, List.append_assoc]
          have HE := hideG he
          clear he
          go_roundw
          case rel =>
            refine ⟨k + 1, a7, c7, by omega, by go_num, by rw [← HE.out, List.length_append], ?_, HB7.out⟩
            rw [← HE.out]; exact HO7.out
          case measure => simp [intOf]; omega
        · have hke : k = (nd T n).kids.length := by omega
          subst hke
          rw [List.take_length] at HOk ⊢
          go_wp2_with fail
          go_ret
          exact ⟨oa, oc, congrArg (fun l => Ending.returned (.slice oa (List.length l) oc)) HFIN.out, by rw [← HFIN.out]; exact HOk.out, HBk.out⟩
end Go.Proofs.Ytoolkpjbbngdpaa
