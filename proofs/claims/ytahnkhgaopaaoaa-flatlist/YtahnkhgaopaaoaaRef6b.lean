/- The document's own list of the flat tree. -/
import Derived.Test.YtahnkhgaopaaoaaRef6
namespace Go.Proofs.Ytahnkhgaopaaoaa
open Go.RowKit

theorem Moved.of_grown {v v' : Value} {w w' : World} (hg : w.grownBy w' v.ownBlock) (hf : ∀ k, v'.ownBlock = some k → v.ownBlock = some k ∨ w.heap.size ≤ k) : Moved v w v' w' :=
  ⟨hg.size, fun k hk hx => hg.block k hk (fun e => hx e.symm), hf⟩

set_option maxRecDepth 100000 in
set_option maxHeartbeats 4000000 in
theorem refBelow6_in (T : List Nd) (hm : mayB T = true) (hS : Sane T) (tb to tc : Nat) : ∀ (d n : Nat), n < T.length → T.length ≤ d + rkF T n → ∀ (w : World), TreeAt w (.slice (some ⟨tb, to, none⟩) T.length tc) T →
    Calls Try.prog 71 #[.slice (some ⟨tb, to, none⟩) T.length tc, .int .i64 (n : Int)] w fun e w' => ∃ a c, e = .returned (.slice a (castL (dnFl T n)).length c) ∧ w'.ownsRow w.heap.size 3 1 (.slice a (castL (dnFl T n)).length c) (castL (dnFl T n)).length (intCells (castL (dnFl T n))) ∧ Below w.heap.size w w'
  | 0, n, hn, h => by have := (fitsF hm).le n hn; omega
  | d + 1, n, hn, hd => by
    intro w hT
    obtain ⟨i3, hi3, hz30, hz31, hz32⟩ := info_parts infoT3
    have ih := refBelow6_in T hm hS tb to tc d
    have HSTEP := hideG (show ∀ m : Nat, m < T.length → (m : Int) ∈ kidsF T n → ∀ (w : World), TreeAt w (.slice (some ⟨tb, to, none⟩) T.length tc) T →
        Calls Try.prog 71 #[.slice (some ⟨tb, to, none⟩) T.length tc, .int .i64 (m : Int)] w fun e w' => ∃ a c, e = .returned (.slice a (castL (dnFl T m)).length c) ∧ w'.ownsRow w.heap.size 3 1 (.slice a (castL (dnFl T m)).length c) (castL (dnFl T m)).length (intCells (castL (dnFl T m))) ∧ Below w.heap.size w w' from fun m hml ho => by
      have hr := rkF_kid hm hn hml ho
      exact ih m hml (by omega))
    have hdn := dnFl_eq hm hn
    have h64 := kidsF_le hm hn
    have hdl := dnFl_le hm hn
    have hdlN : (n :: (kidsF T n).flatMap (fun x => dnFl T x.toNat)).length ≤ 64 := by rw [← hdn]; omega
    have HT := hideG hT
    have HM := hideG hm
    have HS := hideG hS
    have HDN := hideG hdn
    have HKM := hideG (show ∀ x ∈ kidsF T n, ∃ m : Nat, x = (m : Int) ∧ m < T.length ∧ (m : Int) ∈ kidsF T n from fun x hx => by
      obtain ⟨m, rfl, hml, _⟩ := kidsF_cases hm hn hx
      exact ⟨m, rfl, hml, hx⟩)
    obtain ⟨W0, hW0⟩ : ∃ W0, w.alloc (.cells #[.int .i64 (n : Int)] 3) = W0 := ⟨_, rfl⟩
    have HB0 := hideG (show Below w.heap.size w W0 by rw [← hW0]; exact (Below.refl _ w).alloc (Nat.le_refl _) _)
    have HO0 := hideG (show W0.ownsRow w.heap.size 3 1 (.slice (some ⟨w.heap.size, 0, none⟩) 1 1) 1 (intCells [(n : Int)]) by rw [← hW0]; exact ownsRow_new1 w n)
    have HW0 := hideG hW0
    clear ih hdn hT hm hd hS hdl hW0
    go_enter Try.func71, Try.ntmps71
    go_wp2_with fail
    rw [HW0.out]
    clear HW0
    refine (refKids6_at T HM.out HS.out _ n hn w _ HT.out HB0.out).mono ?_
    rintro e w5 ⟨ka, kc, rfl, hki, hb5⟩
    have HB5 := hideG (HB0.out.trans (hb5.mono HB0.out.size))
    have HO5 := hideG (ownsRow_below HO0.out hb5 (fun j e => (HO0.out.lt j e).2))
    have HKI := hideG (show ∀ (u : Value) (wr : World), Moved (.slice (some ⟨w.heap.size, 0, none⟩) 1 1) w5 u wr → Below w.heap.size w wr → IntsAt wr (.slice ka (kidsF T n).length kc) (kidsF T n) from fun u wr hmv hbw => by
      rcases hki with h | h
      · exact h.below hbw
      · refine ownsRow_ints (base := W0.heap.size) ⟨h.1, ?_⟩
        rcases h.2 with h2 | ⟨g, cap, cur, e, hg, hcur, r⟩
        · exact .inl h2
        · have hgl : g < w5.heap.size := (h.lt g (by rw [e]; rfl)).2
          refine .inr ⟨g, cap, cur, e, hg, ?_, r⟩
          rw [hmv.block g hgl (fun e' => by have := (HO0.out.lt g e').2; omega)]
          exact hcur)
    clear hki hb5
    go_wp2_with fail
    go_loopw [5, 7] (fun o i wr => ∃ (k : Nat) (oa : Option Addr) (oc : Nat), k ≤ (kidsF T n).length ∧ i = .int .i64 k ∧ o = .slice oa (castL (n :: ((kidsF T n).take k).flatMap (fun x => dnFl T x.toNat))).length oc ∧ wr.ownsRow w.heap.size 3 1 (.slice oa (castL (n :: ((kidsF T n).take k).flatMap (fun x => dnFl T x.toNat))).length oc) (castL (n :: ((kidsF T n).take k).flatMap (fun x => dnFl T x.toNat))).length (intCells (castL (n :: ((kidsF T n).take k).flatMap (fun x => dnFl T x.toNat)))) ∧ Below w.heap.size w wr ∧ Moved (.slice (some ⟨w.heap.size, 0, none⟩) 1 1) w5 (.slice oa (castL (n :: ((kidsF T n).take k).flatMap (fun x => dnFl T x.toNat))).length oc) wr) (fun _ i _ => (kidsF T n).length - (intOf i).toNat)
    case atStart => exact ⟨0, some ⟨w.heap.size, 0, none⟩, 1, Nat.zero_le _, rfl, by simp [castL], by simpa [castL] using HO5.out, HB5.out, by simpa [castL] using Moved.refl (.slice (some ⟨w.heap.size, 0, none⟩) 1 1) w5⟩
    case round =>
      obtain ⟨k, oa, oc, hk, rfl, rfl, hown, hB, hmv⟩ := hrel
      have HOk := hideG hown
      have HBk := hideG hB
      have HMk := hideG hmv
      clear hown hB hmv
      by_cases hlt : k < (kidsF T n).length
      · obtain ⟨_, _, hsh, hdk⟩ := HKI.out _ _ HMk.out HBk.out
        simp only [Value.slice.injEq, true_and] at hsh
        obtain ⟨rfl, rfl⟩ := hsh
        obtain ⟨kb, koff, rfl, hdd⟩ := hdk (by omega)
        have c1 := hdd k hlt
        have hst := flat_take hlt (fun x => dnFl T x.toNat)
        have hle := flat_le (l := kidsF T n) (k + 1) (fun x => dnFl T x.toNat)
        have hxk : (kidsF T n).getD k 0 ∈ kidsF T n := by
          rw [List.getD_eq_getElem?_getD, List.getElem?_eq_getElem hlt]; exact List.getElem_mem hlt
        obtain ⟨m, hxm, hml, ho⟩ := HKM.out _ hxk
        rw [hxm] at c1
        rw [hxm, Int.toNat_natCast] at hst
        have hbnd : (castL (n :: ((kidsF T n).take k).flatMap (fun x => dnFl T x.toNat))).length + (castL (dnFl T m)).length ≤ 64 := by
          rw [hst, List.length_append] at hle
          simp only [castL_length, List.length_cons] at hdlN ⊢
          omega
        have he : castL (n :: ((kidsF T n).take k).flatMap (fun x => dnFl T x.toNat)) ++ castL (dnFl T m) = castL (n :: ((kidsF T n).take (k + 1)).flatMap (fun x => dnFl T x.toNat)) := by
          rw [hst]; simp [castL]
        have HE := hideG he
        have HMEM := hideG ho
        clear hdd hdk hst hle hxk hxm he ho
        generalize hcur : castL (n :: ((kidsF T n).take k).flatMap (fun x => dnFl T x.toNat)) = cur at *
        clear hcur
        go_wp2_with (first | (go_at_call 71; refine (HSTEP.out m hml HMEM.out _ (HT.out.below HBk.out)).mono ?_; rintro e w7 ⟨a7, c7, rfl, ho7, hb7⟩; have HO7 := hideG ho7; have HB7 := hideG (HBk.out.trans (hb7.mono HBk.out.size)); have HOA := hideG (ownsRow_below HOk.out hb7 (fun j e => (HOk.out.lt j e).2)); have HM7 := hideG (HMk.out.below (fun j e => (HOk.out.lt j e).2) hb7); generalize hsub : castL (dnFl T m) = sub at *; clear ho7 hb7 hsub) | (at_builtin; refine wpList_append_any rfl (.tmp 19) (.tmp 25) 27 rfl w.heap.size 3 i3 _ 1 8 Try.underlying27 hi3 hz30 hz31 hz32 rfl (by decide) _ cur.length (intCells cur) rfl HOA.out _ sub.length (intCells sub) rfl (ints_holds (ownsRow_ints HO7.out)) (intCells_length _) (intCells_one _) ?h3 ?h4 ?h5 ?_))
        case h3 => simp only [maxLen]; omega
        case h4 => omega
        case h5 => exact HB7.out.size
        intro v4 w4 ho4 hg4 hf4
        have ecells : intCells cur ++ intCells sub = intCells (cur ++ sub) := by simp [intCells]
        rw [ecells, HE.out] at ho4
        have hl4 : (castL (n :: ((kidsF T n).take (k + 1)).flatMap (fun x => dnFl T x.toNat))).length = cur.length + sub.length := by rw [← HE.out, List.length_append]
        obtain ⟨a4, c4, rfl⟩ := ownsRow_shape ho4
        have HB4 := hideG (HB7.out.grown hg4 HB7.out.size (fun j e => (HOA.out.lt j e).1))
        have HM4 := hideG (HM7.out.trans (Moved.of_grown hg4 hf4))
        have HO4 := hideG ho4
        have HL4 := hideG hl4
        clear ho4 hg4 hf4 hl4 ecells
        go_wp2_with fail
        go_roundw
        case rel =>
          exact ⟨k + 1, a4, c4, by omega, by go_num, by rw [HL4.out], by rw [HL4.out]; exact HO4.out, HB4.out, by rw [HL4.out]; exact HM4.out⟩
        case measure => simp [intOf]; omega
      · have hke : k = (kidsF T n).length := by omega
        subst hke
        rw [List.take_length, ← HDN.out] at HOk ⊢
        go_wp2_with fail
        go_ret
        exact ⟨oa, oc, rfl, HOk.out, HBk.out⟩

set_option maxHeartbeats 1000000 in
theorem refList6_any (T : List Nd) (hm : mayB T = true) (hS : Sane T) (v : Value) (w : World) (hT : TreeAt w v T) :
    Calls Try.prog 35 #[v] w fun e w' => ∃ a c, e = .returned (.slice a (castL (dnFl T 0)).length c) ∧ w'.ownsRow w.heap.size 3 1 (.slice a (castL (dnFl T 0)).length c) (castL (dnFl T 0)).length (intCells (castL (dnFl T 0))) ∧ Below w.heap.size w w' := by
  have hpos := mayB_pos hm
  obtain ⟨tb, to, tc, rfl, _⟩ := hT.at (by omega)
  have H := hideG (refBelow6_in T hm hS tb to tc T.length 0 (by omega) (by omega) w hT)
  clear hT hm hS
  go_enter Try.func35, Try.ntmps35
  go_wp2_with (go_at_call 71; refine H.out.mono ?_; rintro e w1 ⟨a, c, rfl, ho, hb⟩)
  go_ret
  exact ⟨a, c, rfl, ho, hb⟩
end Go.Proofs.Ytahnkhgaopaaoaa
