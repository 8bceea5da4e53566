/- flat.list, List. -/
import Derived.Test.YtahnkhgaopaaoaaFlat4
namespace Go.Proofs.Ytahnkhgaopaaoaa
open Go.RowKit

/-- A row that grows, and may move: all else stays. -/
structure Moved (v : Value) (w : World) (v' : Value) (w' : World) : Prop where
  size : w.heap.size ≤ w'.heap.size
  block : ∀ k, k < w.heap.size → v.ownBlock ≠ some k → w'.heap[k]? = w.heap[k]?
  own : ∀ k, v'.ownBlock = some k → v.ownBlock = some k ∨ w.heap.size ≤ k
theorem Moved.refl (v : Value) (w : World) : Moved v w v w := ⟨Nat.le_refl _, fun _ _ _ => rfl, fun _ h => .inl h⟩
theorem Moved.trans {v v' v'' : Value} {w w' w'' : World} (h : Moved v w v' w') (k : Moved v' w' v'' w'') : Moved v w v'' w'' := by
  refine ⟨Nat.le_trans h.size k.size, fun j hj hx => ?_, fun j hj => ?_⟩
  · have hs := h.size
    refine (k.block j (by omega) (fun e => ?_)).trans (h.block j hj hx)
    rcases h.own j e with h1 | h1
    · exact hx h1
    · omega
  · rcases k.own j hj with h1 | h1
    · exact h.own j h1
    · have := h.size
      exact .inr (by omega)
theorem Moved.below {v v' : Value} {w w' w'' : World} (h : Moved v w v' w') (_hv : ∀ k, v'.ownBlock = some k → k < w'.heap.size) (hb : Below w'.heap.size w' w'') : Moved v w v' w'' :=
  ⟨Nat.le_trans h.size hb.size, fun k hk hx => (hb.block k (by have := h.size; omega)).trans (h.block k hk hx), h.own⟩
theorem Moved.of_append {v v' : Value} {w w' : World} {o : Obj} (hg : (w.alloc o).grownBy w' v.ownBlock) (hf : ∀ k, v'.ownBlock = some k → v.ownBlock = some k ∨ w.heap.size + 1 ≤ k) : Moved v w v' w' := by
  refine ⟨?_, fun k hk hx => ?_, fun k hk => ?_⟩
  · have := hg.size; simp at this; omega
  · refine (hg.block k (by simp; omega) (fun e => hx e.symm)).trans ?_
    exact ((Below.refl w.heap.size w).alloc (Nat.le_refl _) o).block k hk
  · rcases hf k hk with h | h
    · exact .inl h
    · exact .inr (by omega)

theorem dnFl_eq {T : List Nd} (hm : mayB T = true) {n : Nat} (hn : n < T.length) : dnFl T n = n :: (kidsF T n).flatMap (fun x => dnFl T x.toNat) := by
  rw [(forest6 hm).deq n hn, chF, List.flatMap_map]

set_option maxRecDepth 100000 in
set_option maxHeartbeats 4000000 in
theorem flist_in (T : List Nd) (hm : mayB T = true) (hS : Sane T) (tb to tc : Nat) (W : World) (hT : TreeAt W (.slice (some ⟨tb, to, none⟩) T.length tc) T) : ∀ (d n : Nat), n < T.length → T.length ≤ d + rkF T n → ∀ (A : List Int) (aa : Option Addr) (ac : Nat) (w : World), w.ownsRow W.heap.size 3 1 (.slice aa A.length ac) A.length (intCells A) → Below W.heap.size W w → A.length + (dnFl T n).length ≤ 1000 →
    Calls Try.prog 70 #[.slice aa A.length ac, .slice (some ⟨tb, to, none⟩) T.length tc, .int .i64 (n : Int)] w fun e w' => ∃ a c, e = .returned (.slice a (A ++ castL (dnFl T n)).length c) ∧ w'.ownsRow W.heap.size 3 1 (.slice a (A ++ castL (dnFl T n)).length c) (A ++ castL (dnFl T n)).length (intCells (A ++ castL (dnFl T n))) ∧ Below W.heap.size W w' ∧ Moved (.slice aa A.length ac) w (.slice a (A ++ castL (dnFl T n)).length c) w'
  | 0, n, hn, h => by have := (fitsF hm).le n hn; omega
  | d + 1, n, hn, hd => by
    intro A aa ac w hown hB hlen
    obtain ⟨i3, hi3, hz30, hz31, hz32⟩ := info_parts infoT3
    have ih := flist_in T hm hS tb to tc W hT d
    have HSTEP := hideG (show ∀ m : Nat, m < T.length → (m : Int) ∈ kidsF T n → ∀ (A : List Int) (aa : Option Addr) (ac : Nat) (w : World), w.ownsRow W.heap.size 3 1 (.slice aa A.length ac) A.length (intCells A) → Below W.heap.size W w → A.length + (dnFl T m).length ≤ 1000 →
        Calls Try.prog 70 #[.slice aa A.length ac, .slice (some ⟨tb, to, none⟩) T.length tc, .int .i64 (m : Int)] w fun e w' => ∃ a c, e = .returned (.slice a (A ++ castL (dnFl T m)).length c) ∧ w'.ownsRow W.heap.size 3 1 (.slice a (A ++ castL (dnFl T m)).length c) (A ++ castL (dnFl T m)).length (intCells (A ++ castL (dnFl T m))) ∧ Below W.heap.size W w' ∧ Moved (.slice aa A.length ac) w (.slice a (A ++ castL (dnFl T m)).length c) w' from fun m hml ho => by
      have hr := rkF_kid hm hn hml ho
      exact ih m hml (by omega))
    have hsl := dnFl_eq hm hn
    have h64 := kidsF_le hm hn
    have HT := hideG hT
    have HOW := hideG hown
    have HB := hideG hB
    have HSL := hideG hsl
    have HM := hideG hm
    have HS := hideG hS
    have hsn : (dnFl T n).length = 1 + ((kidsF T n).flatMap (fun x => dnFl T x.toNat)).length := by
      rw [hsl]; simp; omega
    have HSN := hideG hsn
    have hal : A.length ≤ 1000 := by omega
    have HKM := hideG (show ∀ x ∈ kidsF T n, ∃ m : Nat, x = (m : Int) ∧ m < T.length ∧ (m : Int) ∈ kidsF T n from fun x hx => by
      obtain ⟨m, rfl, hml, _⟩ := kidsF_cases hm hn hx
      exact ⟨m, rfl, hml, hx⟩)
    clear ih hsl hown hB hT hm hd hS hsn
    go_enter Try.func70, Try.ntmps70
    go_wp2_with (at_builtin; refine wpList_append_any rfl (.tmp 9) (.tmp 11) 27 rfl W.heap.size 3 i3 _ 1 8 Try.underlying27 hi3 hz30 hz31 hz32 rfl (by decide) _ A.length (intCells A) rfl (HOW.out.alloc _) _ 1 [.int .i64 (n : Int)] rfl (row_new1 _ _) rfl ?h2 ?h3 ?h4 ?h5 ?_)
    case h2 => intro y hy; simp at hy; subst hy; rfl
    case h3 => simp only [maxLen]; omega
    case h4 => omega
    case h5 => have := HB.out.size; simp; omega
    intro v4 w4 ho4 hg4 hf4
    obtain ⟨a4, c4, rfl⟩ := ownsRow_shape ho4
    rw [intCells_snoc] at ho4
    have HB4 := hideG ((HB.out.alloc HB.out.size (.cells #[.int .i64 (n : Int)] 3)).grown hg4 (by have := HB.out.size; simp; omega) (fun j e => (HOW.out.lt j e).1))
    have hl1 : (A ++ [(n : Int)]).length = A.length + 1 := by simp
    have HMV := hideG (Moved.of_append hg4 hf4)
    have HO4 := hideG (show w4.ownsRow W.heap.size 3 1 (.slice a4 (A ++ [(n : Int)]).length c4) (A ++ [(n : Int)]).length (intCells (A ++ [(n : Int)])) by rw [hl1]; exact ho4)
    rw [← hl1] at HMV ⊢
    clear ho4 hg4 hf4
    have HFIN := hideG (show (A ++ [(n : Int)]) ++ castL ((kidsF T n).flatMap (fun x => dnFl T x.toNat)) = A ++ castL (dnFl T n) by
      rw [HSL.out]; simp [castL])
    have hB1l : (A ++ [(n : Int)]).length + ((kidsF T n).flatMap (fun x => dnFl T x.toNat)).length ≤ 1000 := by
      rw [HSN.out] at hlen; rw [hl1]; omega
    clear hl1
    generalize A ++ [(n : Int)] = B1 at *
    go_wp2_with fail
    refine (fkids_at T HM.out HS.out _ n hn W _ HT.out HB4.out).mono ?_
    rintro e w5 ⟨ka, kc, rfl, hki, hb5⟩
    have hs45 := hb5.size
    have HB5 := hideG (HB4.out.trans (hb5.mono HB4.out.size))
    have HO5 := hideG (ownsRow_below HO4.out hb5 (fun j e => (HO4.out.lt j e).2))
    have HMV5 := hideG (HMV.out.below (fun k e => (HO4.out.lt k e).2) hb5)
    have HKI := hideG (show ∀ (u : Value) (wr : World), Moved (.slice a4 B1.length c4) w5 u wr → Below W.heap.size W wr → IntsAt wr (.slice ka (kidsF T n).length kc) (kidsF T n) from fun u wr hmv hbw => by
      rcases hki with h | h
      · exact h.below hbw
      · refine ownsRow_ints (base := w4.heap.size) ⟨h.1, ?_⟩
        rcases h.2 with h2 | ⟨g, cap, cur, e, hg, hcur, r⟩
        · exact .inl h2
        · have hgl : g < w5.heap.size := (h.lt g (by rw [e]; rfl)).2
          refine .inr ⟨g, cap, cur, e, hg, ?_, r⟩
          rw [hmv.block g hgl (fun e' => by have := (HO4.out.lt g e').2; omega)]
          exact hcur)
    clear hki hb5
    go_wp2_with fail
    go_loopw [0, 17] (fun o i wr => ∃ (k : Nat) (oa : Option Addr) (oc : Nat), k ≤ (kidsF T n).length ∧ i = .int .i64 k ∧ o = .slice oa (B1 ++ castL (((kidsF T n).take k).flatMap (fun x => dnFl T x.toNat))).length oc ∧ wr.ownsRow W.heap.size 3 1 (.slice oa (B1 ++ castL (((kidsF T n).take k).flatMap (fun x => dnFl T x.toNat))).length oc) (B1 ++ castL (((kidsF T n).take k).flatMap (fun x => dnFl T x.toNat))).length (intCells (B1 ++ castL (((kidsF T n).take k).flatMap (fun x => dnFl T x.toNat)))) ∧ Below W.heap.size W wr ∧ Moved (.slice a4 B1.length c4) w5 (.slice oa (B1 ++ castL (((kidsF T n).take k).flatMap (fun x => dnFl T x.toNat))).length oc) wr) (fun _ i _ => (kidsF T n).length - (intOf i).toNat)
    case atStart => exact ⟨0, a4, c4, Nat.zero_le _, rfl, by simp [castL], by simpa [castL] using HO5.out, HB5.out, by simpa [castL] using Moved.refl (.slice a4 B1.length c4) w5⟩
    case round =>
      obtain ⟨k, oa, oc, hk, rfl, rfl, hown, hB, hmv⟩ := hrel
      have HOk := hideG hown
      have HBk := hideG hB
      have HMk := hideG hmv
      clear hown hB hmv
      by_cases hlt : k < (kidsF T n).length
      · obtain ⟨_, _, hsh, hdk⟩ := HKI.out _ _ HMk.out HBk.out
        simp only [Value.slice.injEq, true_and] at hsh
        obtain ⟨rfl, rfl⟩ := hsh
        obtain ⟨kb, koff, rfl, hdd⟩ := hdk (by omega)
        have c1 := hdd k hlt
        have hst := flat_take hlt (fun x => dnFl T x.toNat)
        have hle := flat_le (l := kidsF T n) (k + 1) (fun x => dnFl T x.toNat)
        have hxk : (kidsF T n).getD k 0 ∈ kidsF T n := by
          rw [List.getD_eq_getElem?_getD, List.getElem?_eq_getElem hlt]; exact List.getElem_mem hlt
        obtain ⟨m, hxm, hml, ho⟩ := HKM.out _ hxk
        rw [hxm] at c1
        rw [hxm, Int.toNat_natCast] at hst
        have hbnd : (B1 ++ castL (((kidsF T n).take k).flatMap (fun x => dnFl T x.toNat))).length + (dnFl T m).length ≤ 1000 := by
          rw [hst, List.length_append] at hle
          rw [List.length_append, castL_length]
          omega
        have HST := hideG hst
        have HMEM := hideG ho
        clear hdd hdk hst hle hxk hxm ho
        generalize hcur : B1 ++ castL (((kidsF T n).take k).flatMap (fun x => dnFl T x.toNat)) = cur at *
        have HCUR := hideG hcur
        clear hcur
        go_wp2_with (go_at_call 70; refine (HSTEP.out m hml HMEM.out cur oa oc _ HOk.out HBk.out hbnd).mono ?_; rintro e w7 ⟨a7, c7, rfl, ho7, hb7, hm7⟩; have HO7 := hideG ho7; have HB7 := hideG hb7; have HM7 := hideG (HMk.out.trans hm7); clear ho7 hb7 hm7)
        have he : cur ++ castL (dnFl T m) = B1 ++ castL (((kidsF T n).take (k + 1)).flatMap (fun x => dnFl T x.toNat)) := by rw [HST.out, castL_append, ← HCUR.out, List.append_assoc]
        have HE := hideG he
        clear he
        go_roundw
        case rel =>
          refine ⟨k + 1, a7, c7, by omega, by go_num, by rw [← HE.out, List.length_append], ?_, HB7.out, ?_⟩
          · rw [← HE.out]; exact HO7.out
          · rw [← HE.out]; exact HM7.out
        case measure => simp [intOf]; omega
      · have hke : k = (kidsF T n).length := by omega
        subst hke
        rw [List.take_length] at HOk HMk ⊢
        go_wp2_with fail
        go_ret
        exact ⟨oa, oc, congrArg (fun l => Ending.returned (.slice oa (List.length l) oc)) HFIN.out, by rw [← HFIN.out]; exact HOk.out, HBk.out, by rw [← HFIN.out]; exact HMV5.out.trans HMk.out⟩

/-- flat.List. -/
def flistI (T : List Nd) : List Int := if knownB T [0] then castL (dnFl T 0) else []
theorem dnFl_le {T : List Nd} (hm : mayB T = true) {n : Nat} (hn : n < T.length) : (dnFl T n).length ≤ 64 := by
  have h1 := (forest6 hm).d_len hn
  have h2 := (mayB_fine hm).le
  omega
set_option maxRecDepth 100000 in
set_option maxHeartbeats 2000000 in
theorem flatList_any (T : List Nd) (hS : Sane T) (v : Value) (w : World) (hT : TreeAt w v T) :
    Calls Try.prog 34 #[v] w fun e w' => ∃ a c, e = .returned (.slice a (flistI T).length c) ∧ w'.ownsRow w.heap.size 3 1 (.slice a (flistI T).length c) (flistI T).length (intCells (flistI T)) ∧ Below w.heap.size w w' := by
  have HS := hideG hS
  have HT := hideG hT
  cases hk : knownB T [0]
  · obtain ⟨ta, tc, rfl⟩ := hT.shape
    have hq : flistI T = [] := by simp [flistI, hk]
    rw [hq]
    have HK := hideG hk
    clear hT hS hk hq
    go_enter Try.func34, Try.ntmps34
    go_wp2_with (go_at_call 58; refine (fknown_any T HS.out _ _ _ HT.out).mono ?_; rintro e w1 ⟨rfl, hb1⟩; rw [HK.out])
    go_ret
    exact ⟨none, 0, rfl, World.ownsRow_nil _ _ _ _, hb1⟩
  · obtain ⟨hm, m, h0, hml⟩ := known_one hk
    have hm0 : m = 0 := by omega
    subst hm0
    obtain ⟨tb, to, tc, rfl, _⟩ := hT.at (by omega)
    have HQ := hideG (show flistI T = castL (dnFl T 0) by simp [flistI, hk])
    have HM := hideG hm
    have HK := hideG hk
    have hll : ([] : List Int).length + (dnFl T 0).length ≤ 1000 := by have := dnFl_le hm hml; simp; omega
    clear hT hS hk hm h0
    go_enter Try.func34, Try.ntmps34
    go_wp2_with fail
    refine (fknown_any T HS.out _ _ _ HT.out).mono ?_
    rintro e w1 ⟨rfl, hb1⟩
    rw [HK.out]
    have HB1 := hideG hb1
    clear hb1
    go_wp2_with fail
    refine (flist_in T HM.out HS.out tb to tc w HT.out T.length 0 hml (by omega) [] none 0 _ (World.ownsRow_nil _ _ _ _) HB1.out hll).mono ?_
    rintro e w2 ⟨a2, c2, rfl, ho2, hb2, _⟩
    rw [List.nil_append, ← HQ.out] at ho2 ⊢
    have HO2 := hideG ho2
    have HB2 := hideG hb2
    clear ho2 hb2
    go_wp2_with fail
    go_ret
    exact ⟨a2, c2, rfl, HO2.out, HB2.out⟩
end Go.Proofs.Ytahnkhgaopaaoaa
