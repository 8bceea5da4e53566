/- The document's own without and wrong. -/
import Derived.Test.YtoolkpjbbngdpaaUpL
import Derived.Test.YtoolkpjbbngdpaaRefMake
import Derived.Test.YtoolkpjbbngdpaaCalm
namespace Go.Proofs.Ytoolkpjbbngdpaa
open Go.RowKit

def withoutL (l : List Int) (n : Int) : List Int := l.filter fun x => x != n
theorem without_take {l : List Int} {k : Nat} (h : k < l.length) (n : Int) : withoutL (l.take (k + 1)) n = withoutL (l.take k) n ++ (if l.getD k 0 != n then [l.getD k 0] else []) := by
  unfold withoutL
  rw [List.take_add_one, List.getElem?_eq_getElem h, List.filter_append, List.getD_eq_getElem?_getD, List.getElem?_eq_getElem h]
  simp [List.filter_cons]
theorem withoutL_le (l : List Int) (n : Int) : (withoutL l n).length ≤ l.length := List.length_filter_le _ _
theorem withoutL_none {l : List Int} {n : Int} (h : n ∉ l) : withoutL l n = l := by
  unfold withoutL
  rw [List.filter_eq_self]
  intro x hx
  simp only [bne_iff_ne, ne_eq]
  rintro rfl
  exact h hx
theorem withoutL_cut {n : Int} : ∀ {l : List Int}, l.Nodup → n ∈ l → withoutL l n = cutL l (idxL n l)
  | [], _, h => by simp at h
  | a :: l, hn, h => by
    rw [List.nodup_cons] at hn
    unfold cutL
    simp only [idxL]
    cases e : (n == a)
    · have hne : n ≠ a := by simpa using e
      have hm : n ∈ l := by
        rcases List.mem_cons.mp h with h | h
        · exact absurd h hne
        · exact h
      have ih := withoutL_cut hn.2 hm
      unfold withoutL cutL at ih
      unfold withoutL
      simp only [Bool.false_eq_true, if_false, List.take_succ_cons, List.drop_succ_cons, List.cons_append]
      rw [List.filter_cons, if_pos (by simpa using (Ne.symm hne)), ih]
    · have he : n = a := by simpa using e
      subst he
      have := withoutL_none hn.1
      unfold withoutL at this ⊢
      simp only [if_true, List.take_zero, Nat.zero_add, List.drop_succ_cons, List.drop_zero, List.nil_append]
      rw [List.filter_cons, if_neg (by simp)]
      exact this

theorem intCells_snoc (l : List Int) (x : Int) : intCells l ++ [.int .i64 x] = intCells (l ++ [x]) := by simp [intCells]
theorem row_new1 (w : World) (x : Int) : Holds (w.alloc (.cells #[.int .i64 x] 3)) (.slice (some ⟨w.heap.size, 0, none⟩) 1 1) 1 [.int .i64 x] := by
  refine .inl ⟨⟨w.heap.size, 0, none⟩, 1, rfl, fun j u hj => ?_⟩
  rw [addr_add, Nat.zero_add, World.cell?_alloc_at _ _ _ _ (by simp)]
  simpa using hj

set_option maxRecDepth 100000 in
set_option maxHeartbeats 2000000 in
theorem refWithout_any (l : List Int) (v : Value) (n : Int) (w : World) (hI : IntsAt w v l) (hl : l.length ≤ 100000) :
    Calls Try.prog 76 #[v, .int .i64 n] w fun e w' => ∃ a c, e = .returned (.slice a (withoutL l n).length c) ∧ w'.ownsRow w.heap.size 3 1 (.slice a (withoutL l n).length c) (withoutL l n).length (intCells (withoutL l n)) ∧ Below w.heap.size w w' := by
  obtain ⟨i3, hi3, hz30, hz31, hz32⟩ := info_parts infoT3
  obtain ⟨a, cap, rfl, hc⟩ := hI
  have HC := hideG hc
  clear hc
  have hown0 : (w.alloc (.cells #[] 3)).ownsRow w.heap.size 3 1 (.slice (some ⟨w.heap.size, 0, none⟩) 0 0) 0 [] := by
    have := World.ownsRow_made w (base := w.heap.size) (e := 3) (size := 1) #[] 0 (by simp) (by simp [maxLen]) rfl
    simpa using this
  have HO := hideG hown0
  clear hown0
  go_enter Try.func76, Try.ntmps76
  go_wp2_with fail
  go_loopw [5, 6] (fun o i wr => ∃ (k : Nat) (oa : Option Addr) (oc : Nat), k ≤ l.length ∧ i = .int .i64 k ∧ o = .slice oa (withoutL (l.take k) n).length oc ∧ wr.ownsRow w.heap.size 3 1 (.slice oa (withoutL (l.take k) n).length oc) (withoutL (l.take k) n).length (intCells (withoutL (l.take k) n)) ∧ Below w.heap.size w wr) (fun _ i _ => l.length - (intOf i).toNat)
  case atStart => exact ⟨0, some ⟨w.heap.size, 0, none⟩, 0, Nat.zero_le _, rfl, rfl, HO.out, (Below.refl _ w).alloc (Nat.le_refl _) _⟩
  case round =>
    obtain ⟨k, oa, oc, hk, rfl, rfl, hown, hB⟩ := hrel
    have HOW := hideG hown
    have HB := hideG hB
    have hle := withoutL_le (l.take k) n
    rw [List.length_take] at hle
    clear hown hB
    by_cases hlt : k < l.length
    · obtain ⟨b, off, rfl, hd⟩ := HC.out (by omega)
      have c1 := cell_below HB.out (hd k hlt)
      have hst := without_take hlt n
      clear hd
      generalize l.getD k 0 = x at *
      have HST := hideG hst
      clear hst
      generalize hcur : withoutL (l.take k) n = cur at *
      cases hx : (x != n)
      · have HS2 := hideG (show withoutL (l.take (k + 1)) n = cur by rw [HST.out, hx]; simp)
        go_wp2_with fail
        go_roundw
        case rel => exact ⟨k + 1, oa, oc, by omega, by go_num, by rw [HS2.out], by rw [HS2.out]; exact HOW.out, HB.out⟩
        case measure => simp [intOf]; omega
      · have HS2 := hideG (show withoutL (l.take (k + 1)) n = cur ++ [x] by rw [HST.out, hx]; simp)
        have hcl : cur.length ≤ 100000 := by omega
        go_wp2_with (at_builtin; refine wpList_append_any rfl (.tmp 20) (.tmp 25) 46 rfl w.heap.size 3 i3 _ 1 8 Try.underlying46 hi3 hz30 hz31 hz32 rfl (by decide) _ cur.length (intCells cur) rfl (HOW.out.alloc _) _ 1 [.int .i64 x] rfl (row_new1 _ _) rfl ?h2 ?h3 ?h4 ?h5 ?_)
        case h2 => intro y hy; simp at hy; subst hy; rfl
        case h3 => simp only [maxLen]; omega
        case h4 => omega
        case h5 => have := HB.out.size; simp; omega
        intro v4 w4 ho4 hg4 hf4
        obtain ⟨a4, c4, rfl⟩ := ownsRow_shape ho4
        rw [intCells_snoc] at ho4
        have HO4 := hideG ho4
        have HB4 := hideG ((HB.out.alloc HB.out.size (.cells #[.int .i64 x] 3)).grown hg4 (by have := HB.out.size; simp; omega) (fun j e => (HOW.out.lt j e).1))
        clear ho4 hg4 hf4
        go_wp2_with fail
        go_roundw
        case rel =>
          refine ⟨k + 1, a4, c4, by omega, by go_num, ?_, ?_, HB4.out⟩
          · rw [HS2.out]; simp
          · rw [HS2.out]; have := HO4.out; simpa using this
        case measure => simp [intOf]; omega
    · have hke : k = l.length := by omega
      subst hke
      rw [List.take_length] at HOW
      go_wp2_with fail
      go_ret
      rw [List.take_length]
      exact ⟨oa, oc, rfl, HOW.out, HB.out⟩
theorem kind_kid {T : List Nd} (h : Fine T) {c : Nat} (hc : c < T.length) : (canBeKidB (nd T c).kind = true ∧ ((nd T c).kind == 0) = false ∧ ((nd T c).kind == 3) = false) ∨ (canBeKidB (nd T c).kind = false ∧ ((nd T c).kind == 0) = true) ∨ (canBeKidB (nd T c).kind = false ∧ ((nd T c).kind == 0) = false ∧ ((nd T c).kind == 3) = true) := by
  have hk := h.kind c hc
  unfold kindFitsB at hk
  split at hk
  · have : (nd T c).kind = 0 := by simp only [Bool.and_eq_true, beq_iff_eq] at hk; exact hk.1
    rw [this]; exact .inr (.inl ⟨rfl, rfl⟩)
  · simp only [Bool.and_eq_true, Bool.or_eq_true, beq_iff_eq] at hk
    rcases hk.1 with h1 | h1
    · left
      refine ⟨h1, ?_, ?_⟩
      · unfold canBeKidB at h1; simp only [Bool.or_eq_true, beq_iff_eq] at h1; rcases h1 with h1 | h1 <;> rw [h1] <;> rfl
      · unfold canBeKidB at h1; simp only [Bool.or_eq_true, beq_iff_eq] at h1; rcases h1 with h1 | h1 <;> rw [h1] <;> rfl
    · rw [h1]; exact .inr (.inr ⟨rfl, rfl, rfl⟩)

set_option maxRecDepth 100000 in
set_option maxHeartbeats 4000000 in
theorem refWrong_any (T : List Nd) (hmay : mayB T = true) (v : Value) (p c b : Int) (w : World) (hT : TreeAt w v T) :
    Calls Try.prog 75 #[v, .agg #[.int .i64 p, .int .i64 c, .int .i64 b]] w fun e w' => e = .returned (.int .i64 (insertF T p c b)) ∧ Below w.heap.size w w' := by
  have HB := hideG ((Below.refl _ w).alloc (Nat.le_refl _) (.cells #[.int .i64 p, .int .i64 c, .int .i64 b] 33))
  have HM := hideG hmay
  have hpos := mayB_pos hmay
  clear hmay
  cases hip : isNodeB T.length p
  · obtain ⟨a, cap, rfl⟩ := hT.shape
    clear hT
    have HF := hideG (show insertF T p c b = 2 by simp only [insertF, hip, Bool.not_false, Bool.true_or, if_true])
    go_enter Try.func75, Try.ntmps75
    go_wp2_with (go_at_call 34; refine (refIs_any _ _ _ _ _).mono ?_; rintro e w1 ⟨rfl, hw⟩; subst hw)
    go_ret
    exact ⟨ret_int HF.out.symm, HB.out⟩
  · cases hic : isNodeB T.length c
    · obtain ⟨a, cap, rfl⟩ := hT.shape
      clear hT
      have HF := hideG (show insertF T p c b = 2 by simp only [insertF, hip, hic, Bool.not_false, Bool.true_or, Bool.or_true, if_true])
      go_enter Try.func75, Try.ntmps75
      go_wp2_with (go_at_call 34; refine (refIs_any _ _ _ _ _).mono ?_; rintro e w1 ⟨rfl, hw⟩; subst hw)
      go_ret
      exact ⟨ret_int HF.out.symm, HB.out⟩
    · cases hbad : (b != -1 && !isNodeB T.length b)
      · obtain ⟨p, rfl, hpl⟩ := isNodeB_true hip
        obtain ⟨c, rfl, hcl⟩ := isNodeB_true hic
        have hkk := kind_kid (mayB_fine HM.out) hcl
        obtain ⟨ba, off, cap, rfl, hc⟩ := hT.at (by omega)
        have HT := hideG (hT.below HB.out)
        have HC := hideG hc
        obtain ⟨kvp, avp, hNp⟩ := hc p hpl
        obtain ⟨kvc, avc, hNc⟩ := hc c hcl
        have g0 := hNp.kind
        have k0 := hNc.kind
        have hbz : ba < w.heap.size := below_of_cell g0
        clear hNp hNc hc hT
        have hor : (b != -1) = false ∨ ∃ q : Nat, b = q ∧ q < T.length ∧ ((q : Int) != -1) = true ∧ isNodeB T.length (q : Int) = true := by
          cases e : (b != -1)
          · exact .inl rfl
          · rw [e, Bool.true_and, Bool.not_eq_false'] at hbad
            obtain ⟨q, rfl, hq⟩ := isNodeB_true hbad
            exact .inr ⟨q, rfl, hq, e, hbad⟩
        have HAB0 := hideG (show aboveB T c p = ((c : Int) == p || isAncB T c p) by unfold aboveB; rw [show ((p : Int) == (c : Int)) = ((c : Int) == (p : Int)) from Bool.beq_comm])
        have H0 := hideG (show insertF T p c b = if (nd T p).kind == 2 || !canBeKidB (nd T c).kind then 3 else if (c : Int) == p || isAncB T c p then 5 else if b != -1 && (nd T b.toNat).parent != p then 2 else 0 by
          simp only [insertF, hip, hic, hbad, Bool.not_true, Bool.or_self, Bool.false_eq_true, if_false, Int.toNat_natCast])
        clear hbad
        cases hk2 : ((nd T p).kind == 2)
        · rcases hkk with ⟨hck, hc0, hc3⟩ | ⟨hck, hc0⟩ | ⟨hck, hc0, hc3⟩
          · cases han : ((c : Int) == p || isAncB T c p)
            · have HAB := hideG (show aboveB T c p = false by rw [HAB0.out, han])
              rcases hor with hb1 | ⟨q, rfl, hq, hb1, hbn⟩
              · have HF := hideG (show insertF T p c b = 0 by rw [H0.out]; simp only [hk2, hck, han, hb1, Bool.not_true, Bool.or_self, Bool.false_and, Bool.false_eq_true, if_false])
                go_enter Try.func75, Try.ntmps75
                go_wp2_with (first | (go_at_call 34; refine (refIs_any _ _ _ _ _).mono ?_; rintro e w1 ⟨rfl, hw⟩; subst hw) | (go_at_call 106; refine (refAbove_any T HM.out _ _ p _ HT.out hpl).mono ?_; rintro e w1 ⟨rfl, hw⟩; subst hw; rw [HAB.out]))
                go_ret
                exact ⟨ret_int HF.out.symm, HB.out⟩
              · obtain ⟨kvq, avq, hNq⟩ := HC.out q hq
                have hq2 := hNq.parent
                clear hNq
                cases hpa : ((nd T q).parent != (p : Int))
                · have HF := hideG (show insertF T p c q = 0 by rw [H0.out]; simp only [hk2, hck, han, hpa, Bool.not_true, Bool.or_self, Bool.and_false, Bool.false_eq_true, if_false, Int.toNat_natCast])
                  go_enter Try.func75, Try.ntmps75
                  go_wp2_with (first | (go_at_call 34; refine (refIs_any _ _ _ _ _).mono ?_; rintro e w1 ⟨rfl, hw⟩; subst hw) | (go_at_call 106; refine (refAbove_any T HM.out _ _ p _ HT.out hpl).mono ?_; rintro e w1 ⟨rfl, hw⟩; subst hw; rw [HAB.out]))
                  go_quiet (fail)
                  go_wp2_with fail
                  go_ret
                  exact ⟨ret_int HF.out.symm, below_drewN HB.out _⟩
                · have HF := hideG (show insertF T p c q = 2 by rw [H0.out]; simp only [hk2, hck, han, hpa, hb1, Bool.not_true, Bool.or_self, Bool.and_self, Bool.false_eq_true, if_false, if_true, Int.toNat_natCast])
                  go_enter Try.func75, Try.ntmps75
                  go_wp2_with (first | (go_at_call 34; refine (refIs_any _ _ _ _ _).mono ?_; rintro e w1 ⟨rfl, hw⟩; subst hw) | (go_at_call 106; refine (refAbove_any T HM.out _ _ p _ HT.out hpl).mono ?_; rintro e w1 ⟨rfl, hw⟩; subst hw; rw [HAB.out]))
                  go_quiet (fail)
                  go_wp2_with fail
                  go_ret
                  exact ⟨ret_int HF.out.symm, below_drewN HB.out _⟩
            · have HAB := hideG (show aboveB T c p = true by rw [HAB0.out, han])
              have HF := hideG (show insertF T p c b = 5 by rw [H0.out]; simp only [hk2, hck, han, Bool.not_true, Bool.or_self, Bool.false_eq_true, if_false, if_true])
              rcases hor with hb1 | ⟨q, rfl, hq, hb1, hbn⟩
              all_goals
                go_enter Try.func75, Try.ntmps75
                go_wp2_with (first | (go_at_call 34; refine (refIs_any _ _ _ _ _).mono ?_; rintro e w1 ⟨rfl, hw⟩; subst hw) | (go_at_call 106; refine (refAbove_any T HM.out _ _ p _ HT.out hpl).mono ?_; rintro e w1 ⟨rfl, hw⟩; subst hw; rw [HAB.out]))
                go_ret
                exact ⟨ret_int HF.out.symm, HB.out⟩
          · have HF := hideG (show insertF T p c b = 3 by rw [H0.out]; simp only [hck, Bool.not_false, Bool.or_true, if_true])
            rcases hor with hb1 | ⟨q, rfl, hq, hb1, hbn⟩
            all_goals
              go_enter Try.func75, Try.ntmps75
              go_wp2_with (go_at_call 34; refine (refIs_any _ _ _ _ _).mono ?_; rintro e w1 ⟨rfl, hw⟩; subst hw)
              go_ret
              exact ⟨ret_int HF.out.symm, HB.out⟩
          · have HF := hideG (show insertF T p c b = 3 by rw [H0.out]; simp only [hck, Bool.not_false, Bool.or_true, if_true])
            rcases hor with hb1 | ⟨q, rfl, hq, hb1, hbn⟩
            all_goals
              go_enter Try.func75, Try.ntmps75
              go_wp2_with (go_at_call 34; refine (refIs_any _ _ _ _ _).mono ?_; rintro e w1 ⟨rfl, hw⟩; subst hw)
              go_ret
              exact ⟨ret_int HF.out.symm, HB.out⟩
        · have HF := hideG (show insertF T p c b = 3 by rw [H0.out]; simp only [hk2, Bool.true_or, if_true])
          rcases hor with hb1 | ⟨q, rfl, hq, hb1, hbn⟩
          all_goals
            go_enter Try.func75, Try.ntmps75
            go_wp2_with (go_at_call 34; refine (refIs_any _ _ _ _ _).mono ?_; rintro e w1 ⟨rfl, hw⟩; subst hw)
            go_ret
            exact ⟨ret_int HF.out.symm, HB.out⟩
      · obtain ⟨a, cap, rfl⟩ := hT.shape
        clear hT
        have HF := hideG (show insertF T p c b = 2 by simp only [insertF, hip, hic, hbad, Bool.not_true, Bool.or_true, if_true])
        rw [Bool.and_eq_true, Bool.not_eq_true'] at hbad
        obtain ⟨hb1, hbn⟩ := hbad
        go_enter Try.func75, Try.ntmps75
        go_wp2_with (go_at_call 34; refine (refIs_any _ _ _ _ _).mono ?_; rintro e w1 ⟨rfl, hw⟩; subst hw)
        go_ret
        exact ⟨ret_int HF.out.symm, HB.out⟩
end Go.Proofs.Ytoolkpjbbngdpaa
