/- The document's own Place, In, List, Before and Common of layer 3. -/
import Derived.Test.YtnbnijhdmnoelaaOrdMath
namespace Go.Proofs.Ytnbnijhdmnoelaa
open Go.RowKit

set_option maxRecDepth 100000 in
set_option maxHeartbeats 1000000 in
theorem refPlace_any (l : List Int) (v : Value) (x : Int) (w : World) (hI : IntsAt w v l) (hl : l.length ≤ 1000000) :
    Calls Try.prog 41 #[v, .int .i64 x] w fun e w' => e = .returned (.int .i64 (indexI l x)) ∧ w' = w := by
  obtain ⟨a, cap, rfl, hc⟩ := hI
  have HC := hideG hc
  clear hc
  go_enter Try.func41, Try.ntmps41
  go_wp2_with fail
  go_loopw [5] (fun i wr => ∃ k : Nat, k ≤ l.length ∧ i = .int .i64 k ∧ wr = w ∧ ∀ j, j < k → (x == l.getD j 0) = false) (fun i _ => l.length - (intOf i).toNat)
  case atStart => exact ⟨0, Nat.zero_le _, rfl, rfl, fun j h => by omega⟩
  case round =>
    obtain ⟨k, hk, rfl, rfl, hno⟩ := hrel
    have HN := hideG hno
    clear hno
    by_cases hlt : k < l.length
    · obtain ⟨b, off, rfl, hd⟩ := HC.out (by omega)
      have c1 := hd k hlt
      clear hd
      cases hx : (x == l.getD k 0)
      · have HX := hideG hx
        have hx' : (l.getD k 0 == x) = false := by
          have : ¬ x = l.getD k 0 := by simpa using hx
          rw [beq_eq_false_iff_ne]; exact fun e => this e.symm
        generalize l.getD k 0 = y at hx' c1
        clear hx
        go_wp2_with fail
        go_roundw
        case rel =>
          refine ⟨k + 1, by omega, by go_num, trivial, fun j hj => ?_⟩
          by_cases e : j = k
          · rw [e]; exact HX.out
          · exact HN.out j (by omega)
        case measure => simp [intOf]; omega
      · have HX := hideG (idx_hit hlt HN.out hx)
        have hx' : (l.getD k 0 == x) = true := by
          have : x = l.getD k 0 := by simpa using hx
          rw [← this]; simp
        generalize l.getD k 0 = y at hx' c1
        clear hx
        go_wp2_with fail
        go_ret
        exact ⟨ret_int (by rw [indexI, HX.out, if_pos hlt]), rfl⟩
    · have hke : k = l.length := by omega
      subst hke
      go_wp2_with fail
      go_ret
      exact ⟨ret_int (by rw [indexI, idx_miss HN.out, if_neg (by omega)]), rfl⟩

set_option maxHeartbeats 800000 in
theorem refIn_any (l : List Int) (v : Value) (x : Int) (w : World) (hI : IntsAt w v l) (hl : l.length ≤ 1000000) :
    Calls Try.prog 38 #[v, .int .i64 x] w fun e w' => e = .returned (.bool (containsB l x)) ∧ w' = w := by
  obtain ⟨a, cap, rfl⟩ := hI.shape
  have H := hideG hI
  have HQ := hideG (index_ge (l := l) (x := x))
  clear hI
  go_enter Try.func38, Try.ntmps38
  go_wp2_with (go_at_call 41; refine (refPlace_any l _ _ _ H.out hl).mono ?_; rintro e w1 ⟨rfl, rfl⟩)
  go_ret
  exact ⟨ret_bool HQ.out, rfl⟩

theorem ownsRow_new1 (w : World) (x : Int) : (w.alloc (.cells #[.int .i64 x] 3)).ownsRow w.heap.size 3 1 (.slice (some ⟨w.heap.size, 0, none⟩) 1 1) 1 (intCells [x]) :=
  ⟨by simp [intCells], .inr ⟨w.heap.size, 1, #[.int .i64 x], rfl, Nat.le_refl _, World.alloc_heap_new w _, Nat.le_refl _, by simp [maxLen], rfl, by simp [intCells]⟩⟩

set_option maxRecDepth 100000 in
set_option maxHeartbeats 4000000 in
theorem refList3_in (T : List Nd) (hm : mayB T = true) (tb to tc : Nat) : ∀ (d n : Nat), n < T.length → T.length < d + (upsL T n).length → ∀ (w : World), TreeAt w (.slice (some ⟨tb, to, none⟩) T.length tc) T →
    Calls Try.prog 36 #[.slice (some ⟨tb, to, none⟩) T.length tc, .int .i64 (n : Int)] w fun e w' => ∃ a c, e = .returned (.slice a (castL (dn T n)).length c) ∧ w'.ownsRow w.heap.size 3 1 (.slice a (castL (dn T n)).length c) (castL (dn T n)).length (intCells (castL (dn T n))) ∧ Below w.heap.size w w'
  | 0, n, hn, h => by have := upsL_le T n; omega
  | d + 1, n, hn, hd => by
    intro w hT
    have hF := mayB_fine hm
    obtain ⟨i3, hi3, hz30, hz31, hz32⟩ := info_parts infoT3
    have ih := refList3_in T hm tb to tc d
    have HSTEP := hideG (show ∀ m : Nat, m < T.length → overI (nd T m) = (n : Int) → ∀ (w : World), TreeAt w (.slice (some ⟨tb, to, none⟩) T.length tc) T →
        Calls Try.prog 36 #[.slice (some ⟨tb, to, none⟩) T.length tc, .int .i64 (m : Int)] w fun e w' => ∃ a c, e = .returned (.slice a (castL (dn T m)).length c) ∧ w'.ownsRow w.heap.size 3 1 (.slice a (castL (dn T m)).length c) (castL (dn T m)).length (intCells (castL (dn T m))) ∧ Below w.heap.size w w' from fun m hml ho => by
      have hs := (upsL_some hm hml ho).1
      exact ih m hml (by rw [hs, List.length_cons]; omega))
    have hdl : (dn T n).length ≤ T.length := (forest3 hm).d_len hn
    have hdq : ∀ q, q < T.length → (dn T q).length ≤ T.length := fun q hq => (forest3 hm).d_len hq
    have hdn := dn_eq hm hn
    have hpos := mayB_pos hm
    obtain ⟨tb', to', tc', htv, hct⟩ := hT.at (by omega)
    simp only [Value.slice.injEq, Option.some.injEq, Addr.mk.injEq, and_true, true_and] at htv
    obtain ⟨⟨rfl, rfl⟩, rfl⟩ := htv
    obtain ⟨kv, av, hN⟩ := hct n hn
    obtain ⟨kka, kkc, hkv⟩ := hN.kids.shape
    subst hkv
    have HKC : Hid (0 < (nd T n).kids.length → ∃ b off, kka = some ⟨b, off, none⟩ ∧ ∀ j, j < (nd T n).kids.length → w.cell? ⟨b, off + j, none⟩ = some (.int .i64 ((nd T n).kids.getD j 0))) := by
      obtain ⟨a', cap', hv', hd'⟩ := hN.kids
      simp only [Value.slice.injEq, true_and] at hv'
      obtain ⟨rfl, rfl⟩ := hv'
      exact hd'
    have G3 := hideG hN.kidsc
    have HT := hideG hT
    have HFi := hideG hF
    have HDN := hideG hdn
    have HDQ := hideG hdq
    have h64 := fine_short hF hn
    have hdlN : (n :: (nd T n).kids.flatMap fun x => dn T x.toNat).length ≤ 64 := by rw [← hdn]; omega
    clear ih hdn hct hT hm hF hd hN hdl hdq
    go_enter Try.func36, Try.ntmps36
    go_wp2_with fail
    go_loopw [5, 6] (fun o i wr => ∃ (k : Nat) (oa : Option Addr) (oc : Nat), k ≤ (nd T n).kids.length ∧ i = .int .i64 k ∧ o = .slice oa (castL (n :: ((nd T n).kids.take k).flatMap fun x => dn T x.toNat)).length oc ∧ wr.ownsRow w.heap.size 3 1 (.slice oa (castL (n :: ((nd T n).kids.take k).flatMap fun x => dn T x.toNat)).length oc) (castL (n :: ((nd T n).kids.take k).flatMap fun x => dn T x.toNat)).length (intCells (castL (n :: ((nd T n).kids.take k).flatMap fun x => dn T x.toNat))) ∧ Below w.heap.size w wr) (fun _ i _ => (nd T n).kids.length - (intOf i).toNat)
    case atStart => exact ⟨0, some ⟨w.heap.size, 0, none⟩, 1, Nat.zero_le _, rfl, by simp [castL], by simpa [castL] using ownsRow_new1 w n, (Below.refl _ w).alloc (Nat.le_refl _) _⟩
    case round =>
      obtain ⟨k, oa, oc, hk, rfl, rfl, hown, hB⟩ := hrel
      have HOk := hideG hown
      have HBk := hideG hB
      have g3 := cell_below hB G3.out
      clear hown hB
      by_cases hlt : k < (nd T n).kids.length
      · obtain ⟨kb, koff, rfl, hdd⟩ := HKC.out (by omega)
        have c1 := cell_below HBk.out (hdd k hlt)
        have hst := flat_take hlt (fun x => dn T x.toNat)
        have hle := flat_le (l := (nd T n).kids) (k + 1) (fun x => dn T x.toNat)
        have hxk : (nd T n).kids.getD k 0 ∈ (nd T n).kids := by
          rw [List.getD_eq_getElem?_getD, List.getElem?_eq_getElem hlt]; exact List.getElem_mem hlt
        obtain ⟨m, hxm, hml, ho⟩ := over_kid HFi.out hn hxk
        rw [hxm] at c1
        rw [hxm, Int.toNat_natCast] at hst
        have hbnd : (castL (n :: ((nd T n).kids.take k).flatMap fun x => dn T x.toNat)).length + (castL (dn T m)).length ≤ 64 := by
          rw [hst, List.length_append] at hle
          simp only [castL_length, List.length_cons] at hdlN ⊢
          omega
        have he : castL (n :: ((nd T n).kids.take k).flatMap fun x => dn T x.toNat) ++ castL (dn T m) = castL (n :: ((nd T n).kids.take (k + 1)).flatMap fun x => dn T x.toNat) := by
          rw [hst]; simp [castL]
        have HE := hideG he
        clear hdd hst hle hxk hxm he
        generalize hcur : castL (n :: ((nd T n).kids.take k).flatMap fun x => dn T x.toNat) = cur at *
        clear hcur
        go_wp2_with (first | (go_at_call 36; refine (HSTEP.out m hml ho _ (HT.out.below HBk.out)).mono ?_; rintro e w7 ⟨a7, c7, rfl, ho7, hb7⟩; have HO7 := hideG ho7; have HB7 := hideG (HBk.out.trans (hb7.mono HBk.out.size)); have HOA := hideG (ownsRow_below HOk.out hb7 (fun j e => (HOk.out.lt j e).2)); generalize hsub : castL (dn T m) = sub at *; clear ho7 hb7 hsub) | (at_builtin; refine wpList_append_any rfl (.tmp 19) (.tmp 29) 28 rfl w.heap.size 3 i3 _ 1 8 Try.underlying28 hi3 hz30 hz31 hz32 rfl (by decide) _ cur.length (intCells cur) rfl HOA.out _ sub.length (intCells sub) rfl (ints_holds (ownsRow_ints HO7.out)) (intCells_length _) (intCells_one _) ?h3 ?h4 ?h5 ?_))
        case h3 => simp only [maxLen]; omega
        case h4 => omega
        case h5 => exact HB7.out.size
        intro v4 w4 ho4 hg4 hf4
        have ecells : intCells cur ++ intCells sub = intCells (cur ++ sub) := by simp [intCells]
        rw [ecells, HE.out] at ho4
        have hl4 : (castL (n :: ((nd T n).kids.take (k + 1)).flatMap fun x => dn T x.toNat)).length = cur.length + sub.length := by rw [← HE.out, List.length_append]
        obtain ⟨a4, c4, rfl⟩ := ownsRow_shape ho4
        have HB4 := hideG (HB7.out.grown hg4 HB7.out.size (fun j e => (HOA.out.lt j e).1))
        have HO4 := hideG ho4
        have HL4 := hideG hl4
        clear ho4 hg4 hf4 hl4 ecells
        go_wp2_with fail
        go_roundw
        case rel =>
          exact ⟨k + 1, a4, c4, by omega, by go_num, by rw [HL4.out], by rw [HL4.out]; exact HO4.out, HB4.out⟩
        case measure => simp [intOf]; omega
      · have hke : k = (nd T n).kids.length := by omega
        subst hke
        rw [List.take_length, ← HDN.out] at HOk ⊢
        go_wp2_with fail
        go_ret
        exact ⟨oa, oc, rfl, HOk.out, HBk.out⟩

theorem refList3_any (T : List Nd) (hm : mayB T = true) (v : Value) (n : Nat) (hn : n < T.length) (w : World) (hT : TreeAt w v T) :
    Calls Try.prog 36 #[v, .int .i64 (n : Int)] w fun e w' => ∃ a c, e = .returned (.slice a (castL (dn T n)).length c) ∧ w'.ownsRow w.heap.size 3 1 (.slice a (castL (dn T n)).length c) (castL (dn T n)).length (intCells (castL (dn T n))) ∧ Below w.heap.size w w' := by
  obtain ⟨tb, to, tc, rfl, _⟩ := hT.at (by omega)
  exact refList3_in T hm tb to tc (T.length + 1) n hn (by omega) w hT
end Go.Proofs.Ytnbnijhdmnoelaa
