/- For every list of attributes: the law AttrOrder of package limelightlaw02 returns true, and nothing that was there has turned. No condition. -/
import Derived.Test.YtbfomnkapnlgeaaAttrBack
import Derived.Test.YtbfomnkapnlgeaaOrderMath
import Derived.Test.YtbfomnkapnlgeaaSetOwn
namespace Go.Proofs.Ytbfomnkapnlgeaa
open Go.ChangeShapes Go.WideShapes Go.ChangeAt Go.RowKit

theorem sane_TA {s : List (Int × Int)} (h : s.length ≤ 1000) : Sane (TA s) := by
  intro n hn
  match n, hn with
  | 0, _ => exact ⟨by simp [TA, nd], by simp [TA, nd]⟩
  | 1, _ => exact ⟨by simp [TA, nd], by rw [TA_attrs]; omega⟩
theorem small_TA {s : List (Int × Int)} (h : s.length ≤ 1000) : ∀ m, m < (TA s).length → (nd (TA s) m).attrs.length ≤ 900000 := by
  intro n hn
  match n, hn with
  | 0, _ => simp [TA, nd]
  | 1, _ => rw [TA_attrs]; omega

theorem ta_set {s : List (Int × Int)} (hs : attrsFrom 1 (-1) s = true) (hl : s.length ≤ 1000) (v : Value) {p q : Int} (hx : attrFitsB 1 p q = true) (w : World) (hT : TreeAt w v (TA s)) :
    Calls Try.prog 36 #[v, .int .i64 1, .agg #[.int .i64 p, .int .i64 q]] w fun e w' => ∃ a' c', e = .returned (.tuple #[.slice a' 2 c', .int .i64 0]) ∧ Hid (Below w.heap.size w w') ∧ Hid (∀ B, B < w.heap.size → Away B w' (.slice a' 2 c') (TA (putL s (p, q)))) := by
  refine Calls.mono (set_own (TA s) (sane_TA hl) v 1 p q w hT (by rw [TA_fault hs]; rfl) rfl (by show (nd (TA s) 1).attrs.length ≤ _; rw [TA_attrs]; omega) ?_) ?_
  · show mayB (withAttrs (TA s) 1 (putL (nd (TA s) 1).attrs (p, q))) = true
    rw [TA_with, TA_attrs, TA_may]
    exact put_fits (x := (p, q)) hx (by have := fits_name hx; show (-1 : Int) < p; omega) hs
  · rintro e w' ⟨a', c', rfl, hb, ha⟩
    exact ⟨a', c', rfl, hb, ha⟩
theorem ta_not {s : List (Int × Int)} (hs : attrsFrom 1 (-1) s = true) (hl : s.length ≤ 1000) (v : Value) {p q : Int} (hx : attrFitsB 1 p q = false) (w : World) (hT : TreeAt w v (TA s)) :
    Calls Try.prog 36 #[v, .int .i64 1, .agg #[.int .i64 p, .int .i64 q]] w fun e w' => ∃ a' c', e = .returned (.tuple #[.slice a' 2 c', .int .i64 7]) ∧ Hid (Below w.heap.size w w') := by
  refine Calls.mono (set_any (TA s) (sane_TA hl) v 1 p q w hT (small_TA hl)) ?_
  rintro e w' ⟨v', rfl, hb, ht⟩
  rw [TA_setR hs (x := (p, q)) hx] at ht
  obtain ⟨a', c', rfl⟩ := ht.shape
  have e7 : setE (TA s) 1 (p, q) = 7 := by rw [TA_setE hs, hx]; rfl
  rw [e7]
  exact ⟨a', c', rfl, hb⟩

structure OrdInv (W w : World) (v0 : Value) (L : Nat → Nat) : Prop where
  below : Below W.heap.size W w
  size : W.heap.size + 1 < w.heap.size
  cell : ∀ j, j < 10 → w.cell? ⟨W.heap.size + 1, j, none⟩ = some (.int .i64 (L j))
  frozen : ∀ j, j < 10 → w.frozen? ⟨W.heap.size + 1, j, none⟩ = false
  base : Away (W.heap.size + 1) w v0 (TA [])
theorem OrdInv.step {W w w' : World} {v0 : Value} {L : Nat → Nat} (h : OrdInv W w v0 L) (hb : Below w.heap.size w w') : OrdInv W w' v0 L :=
  ⟨h.below.trans (hb.mono h.below.size), by have := hb.size; have := h.size; omega, fun j hj => cell_below hb (h.cell j hj), fun j hj => (hb.frozen (p := ⟨W.heap.size + 1, j, none⟩) h.size).trans (h.frozen j hj), h.base.below hb⟩
theorem OrdInv.store {W w : World} {v0 : Value} {L : Nat → Nat} (h : OrdInv W w v0 L) {p k : Nat} (hp : p < 10) : OrdInv W (w.setCell ⟨W.heap.size + 1, p, none⟩ (.int .i64 ((k : Int) + 1))) v0 (fun j => if j = p then k + 1 else L j) := by
  refine ⟨h.below.setCell (p := ⟨W.heap.size + 1, p, none⟩) (by simp) _, by simpa using h.size, fun j hj => ?_, fun j hj => ?_, h.base.setCell⟩
  · by_cases e : j = p
    · subst e
      rw [World.cell?_setCell_same _ _ _ (h.cell j hj)]
      simp
    · rw [World.cell?_setCell_other _ _ _ _ (fun e2 => e (by injection e2 with _ e3; exact e3.symm)), h.cell j hj, if_neg e]
  · rw [World.frozen?_setCell]; exact h.frozen j hj

def ordO1 : Obj := .cells #[.int .i64 0, .int .i64 0, .int .i64 (-1), .slice none 0 0, .int .i64 (-1), .int .i64 (-1), .slice none 0 0, .int .i64 1, .int .i64 0, .int .i64 (-1), .slice none 0 0, .int .i64 (-1), .int .i64 (-1), .slice none 0 0] 49
def ordO2 : Obj := .cells #[.int .i64 0, .int .i64 0, .int .i64 0, .int .i64 0, .int .i64 0, .int .i64 0, .int .i64 0, .int .i64 0, .int .i64 0, .int .i64 0] 64

theorem ord_tree (W : World) : Away (W.heap.size + 1) ((W.alloc ordO1).alloc ordO2) (.slice (some ⟨W.heap.size, 0, none⟩) 2 2) (TA []) := fun w'' hw => by
  have c : ∀ o, w''.cell? ⟨W.heap.size, o, none⟩ = (W.alloc ordO1).cell? ⟨W.heap.size, o, none⟩ := fun o => (hw W.heap.size o (by omega) (by simp; omega)).trans (World.cell?_alloc_past _ _ _ (by simp))
  have nilI : IntsAt w'' (.slice none 0 0) [] := ⟨none, 0, rfl, fun h => by simp at h⟩
  have nilA : AttrsAt w'' (.slice none 0 0) [] := ⟨none, 0, rfl, fun h => by simp at h⟩
  refine ⟨_, 2, rfl, fun _ => ⟨W.heap.size, 0, rfl, fun n hn => ?_⟩⟩
  match n, hn with
  | 0, _ => exact ⟨.slice none 0 0, .slice none 0 0, (c 0).trans (by simp [ordO1]; rfl), (c 1).trans (by simp [ordO1]; rfl), (c 2).trans (by simp [ordO1]; rfl), (c 3).trans (by simp [ordO1]), (c 4).trans (by simp [ordO1]; rfl), (c 5).trans (by simp [ordO1]; rfl), (c 6).trans (by simp [ordO1]), nilI, nilA⟩
  | 1, _ => exact ⟨.slice none 0 0, .slice none 0 0, (c 7).trans (by simp [ordO1]; rfl), (c 8).trans (by simp [ordO1]; rfl), (c 9).trans (by simp [ordO1]; rfl), (c 10).trans (by simp [ordO1]), (c 11).trans (by simp [ordO1]; rfl), (c 12).trans (by simp [ordO1]; rfl), (c 13).trans (by simp [ordO1]), nilI, nilA⟩

theorem ord_inv (W : World) : OrdInv W ((W.alloc ordO1).alloc ordO2) (.slice (some ⟨W.heap.size, 0, none⟩) 2 2) (fun _ => 0) := by
  refine ⟨((Below.refl _ W).alloc (Nat.le_refl _) _).alloc (by simp) _, by simp, fun j hj => ?_, fun j hj => ?_, ord_tree W⟩
  · match j, hj with
    | 0, _ | 1, _ | 2, _ | 3, _ | 4, _ | 5, _ | 6, _ | 7, _ | 8, _ | 9, _ => simp [ordO2]
  · match j, hj with
    | 0, _ | 1, _ | 2, _ | 3, _ | 4, _ | 5, _ | 6, _ | 7, _ | 8, _ | 9, _ => simp [ordO2]

set_option maxRecDepth 100000 in
set_option maxHeartbeats 8000000 in
theorem order_walk (l : List (Int × Int)) (v : Value) (W : World) (hA : AttrsAt W v l) :
    Calls Try.prog 13 #[v] W fun e w' => e = .returned (.bool true) ∧ Below W.heap.size W w' := by
  obtain ⟨a, cap, rfl, hc⟩ := hA
  have HC := hideG hc
  clear hc
  by_cases h20 : l.length ≤ 20
  · go_enter Try.func13, Try.ntmps13
    go_wp2_with fail
    go_loopw [4, 7] (fun x i wr => ∃ (k : Nat) (s : List (Int × Int)) (L : Nat → Nat) (a' : Option Addr) (c' : Nat), k ≤ l.length ∧ i = .int .i64 k ∧ x = .slice a' 2 c' ∧ Hid (OrdInv W wr (.slice (some ⟨W.heap.size, 0, none⟩) 2 2) L) ∧
        Hid (Away (W.heap.size + 1) wr (.slice a' 2 c') (TA s)) ∧ Hid (OrderOk l k s L) ∧ s.length ≤ k) (fun _ i _ => l.length - (intOf i).toNat)
    case atStart => exact ⟨0, [], fun _ => 0, _, _, Nat.zero_le _, rfl, rfl, ord_inv W, ord_tree W, order_start l, by simp⟩
    case round =>
      obtain ⟨k, s, L, a', c', hk, rfl, rfl, HI, HAw, HOk, hsl⟩ := hrel
      by_cases hlt : k < l.length
      · obtain ⟨b, off, rfl, hd⟩ := HC.out (by omega)
        obtain ⟨c1, c2⟩ := hd k hlt
        have hbz : b < W.heap.size := below_of_cell c1
        have d1 := cell_below HI.out.below c1
        have d2 := cell_below HI.out.below c2
        clear hd
        generalize hA : l.getD k (0, 0) = A at *
        obtain ⟨p, q⟩ := A
        have HX := hideG hA
        clear hA
        dsimp only at c1 c2 d1 d2
        cases hx : attrFitsB 1 p q
        · have HN := hideG (ta_not HOk.out.1 (by omega) (.slice a' 2 c') hx wr HAw.out.treeAt)
          go_wp2_with (go_at_call 36; refine Calls.mono HN.out ?_; rintro e w2 ⟨a2, e2, rfl, hb2⟩)
          go_roundw
          case rel => exact ⟨k + 1, s, L, a', c', by omega, by go_num, rfl, HI.out.step hb2.out, HAw.out.below hb2.out, order_skip HOk.out, by omega⟩
          case measure => simp [intOf]; omega
        · obtain ⟨hp0, hp10⟩ := fits_name hx
          obtain ⟨pn, rfl⟩ : ∃ m : Nat, p = m := ⟨p.toNat, by omega⟩
          have hpn : pn < 10 := by omega
          have HN := hideG (ta_set HOk.out.1 (by omega) (.slice a' 2 c') hx wr HAw.out.treeAt)
          have HBB := hideG (show W.heap.size + 1 < wr.heap.size from HI.out.size)
          go_wp2_with (go_at_call 36; refine Calls.mono HN.out ?_; rintro e w2 ⟨a2, e2, rfl, hb2, HA2⟩; have f1 := cell_below hb2.out d1; have f2 := cell_below hb2.out d2; have g1 := (HI.out.step hb2.out).cell pn hpn; have g2 := (HI.out.step hb2.out).frozen pn hpn)
          go_roundw
          case rel => exact ⟨k + 1, _, _, a2, e2, by omega, by go_num, rfl, (HI.out.step hb2.out).store hpn, (HA2.out _ HBB.out).setCell, order_put HOk.out HX.out hx, by have := put_len s ((pn : Int), q); omega⟩
          case measure => simp [intOf]; omega
      · have hke : k = l.length := by omega
        subst hke
        have HW1 := hideG (Below.refl wr.heap.size wr)
        go_wp2_with fail
        go_loopw [5, 10] (fun x i ws => ∃ (j : Nat) (t : List (Int × Int)) (a2 : Option Addr) (e2 : Nat), j ≤ 10 ∧ i = .int .i64 ((j : Int) - 1) ∧ x = .slice a2 2 e2 ∧ Hid (Below wr.heap.size wr ws) ∧
            Hid (TreeAt ws (.slice a2 2 e2) (TA t)) ∧ Hid (AgainOk j s t) ∧ t.length ≤ 10 - j) (fun _ i _ => (intOf i + 1).toNat)
        case atStart => exact ⟨10, [], _, _, by omega, rfl, rfl, Below.refl _ _, HI.out.base.treeAt, again_start s, by simp⟩
        case round =>
          obtain ⟨j, t, a2, e2, hj, rfl, rfl, HB2, HT2, HAg, htl⟩ := hrel
          by_cases hj0 : j = 0
          · subst hj0
            have hst := again_end HOk.out.1 HAg.out
            subst hst
            have HAW := hideG (HAw.out.below HB2.out)
            have HBW := hideG ((HI.out.step HB2.out).below)
            have HSAME := hideG (refSame_any (TA s) (TA s) (sane_TA (by omega)) (.slice a' 2 c') (.slice a2 2 e2) _ HAW.out.treeAt HT2.out (by show 2 ≤ 1000000; omega))
            rw [decide_eq_true rfl] at HSAME
            have HMAY : Hid (∀ w3, Below W.heap.size W w3 → TreeAt w3 (.slice a' 2 c') (TA s) → Calls Try.prog 29 #[.slice a' 2 c'] w3 fun e w' => e = .returned (.bool true) ∧ Below W.heap.size W w') := fun w3 hb ht => by
              have := refMay_any (TA s) (sane_TA (by omega)) (.slice a' 2 c') w3 ht
              rw [refMay_of_may (by rw [TA_may]; exact HOk.out.1)] at this
              exact after hb this
            rw [show ((0 : Nat) : Int) - 1 = -1 from rfl]
            go_wp2_with (first | (go_at_call 21; refine Calls.mono HSAME.out ?_; rintro e w5 ⟨rfl, hb5⟩; have hb5W := HBW.out.trans (hb5.mono HBW.out.size); have HT5 := hideG (HAW.out.treeAt.below hb5)) | (go_at_call 29; refine Calls.mono (HMAY.out _ hb5W HT5.out) ?_; rintro e w6 ⟨rfl, hb6⟩) | (go_at_call 33; refine Calls.mono (after hb6 (live2_any _)) ?_; rintro e w7 ⟨rfl, hb7⟩))
            go_ret
            exact ⟨rfl, hb7⟩
          · obtain ⟨m, rfl⟩ : ∃ m, j = m + 1 := ⟨j - 1, by omega⟩
            have em : ((m + 1 : Nat) : Int) - 1 = (m : Int) := by omega
            rw [em]
            have hm10 : m < 10 := by omega
            have g1 := (HI.out.step HB2.out).cell m hm10
            rcases HOk.out.2 m hm10 with ⟨h0, hlook⟩ | ⟨r, hr, hrl, hrn, hrf, hlook⟩
            · rw [h0] at g1
              have HNX := hideG (again_skip HAg.out hlook)
              go_wp2_with fail
              go_roundw
              case rel => exact ⟨m, t, a2, e2, by omega, by go_num, rfl, HB2, HT2, HNX.out, by omega⟩
              case measure => simp [intOf]
            · rw [hr] at g1
              obtain ⟨b, off, rfl, hd⟩ := HC.out (by omega)
              obtain ⟨c1, c2⟩ := hd r hrl
              have hbz : b < W.heap.size := below_of_cell c1
              have d1 := cell_below HB2.out (cell_below HI.out.below c1)
              have d2 := cell_below HB2.out (cell_below HI.out.below c2)
              clear hd c1 c2
              generalize hA : l.getD r (0, 0) = A at *
              obtain ⟨p, q⟩ := A
              dsimp only at d1 d2 hrn hrf hlook
              subst hrn
              have HNX := hideG (again_put HAg.out hlook hrf)
              have HN := hideG (ta_set HAg.out.1 (by omega) (.slice a2 2 e2) hrf _ HT2.out)
              clear hA hlook
              have hrr : ((r + 1 : Nat) : Int) - 1 = (r : Int) := by omega
              go_wp2_with (go_at_call 36; refine Calls.mono HN.out ?_; rintro e w4 ⟨a4, e4, rfl, hb4, HA4⟩)
              go_roundw
              case rel => exact ⟨m, _, a4, e4, by omega, by go_num, rfl, HB2.out.trans (hb4.out.mono HB2.out.size), (HA4.out 0 (by have := HI.out.size; have := HB2.out.size; omega)).treeAt, HNX.out, by have := put_len t ((m : Int), q); omega⟩
              case measure => simp [intOf]
  · go_enter Try.func13, Try.ntmps13
    go_wp2_with (go_at_call 33; refine (live2_any _).mono ?_; rintro e w2 ⟨rfl, hb2⟩)
    go_ret
    exact ⟨rfl, hb2⟩

section
variable {H : Type} {enc : TypeId × Value → H} {w : World} {base : Nat} {spare : Nat → Bool} {held : Bool}
set_option maxRecDepth 100000 in
theorem open_attrs {r : Reach} {b0 : Nat} {v : Value} {d : DataW H} {ps : List MemPlace} (hval : Value.okWide Try.prog w r b0 47 v) (h : DataW.Trod enc Try.prog w base spare held 47 v d ps) : ∃ l, AttrsAt w v l := by
  obtain ⟨a, len, cap, rfl⟩ := okWide_slice Try.underlying47 hval
  obtain ⟨fuel, hf⟩ := h
  obtain ⟨v, l, hv, hl⟩ := trod_attrsAt hf
  simp only [Value.cells, List.cons.injEq, and_true] at hv
  exact ⟨l, by rw [hv]; exact hl⟩
end

set_option maxRecDepth 100000 in
theorem order_lifted (os : Os) (started : os.Started) (H : Type) (enc : TypeId × Value → H) :
    ReturnsInHanded {} Try.checked os 13 .any (Rows.attrOrderSpec.pre6 enc Try.prog Try.f13 Rows.attrOrderRow.domain false) (Rows.attrOrderSpec.post enc Try.prog Try.f13 false true false false) := by
  refine returnsInHanded_of_change (C := Try.checked) (by kernel_rfl) started (by kernel_rfl) Try.func13
    (ChangeSpec.witness6 (enc := enc) (C := Try.checked) false ⟨#[], #[.slice none 0 0], []⟩ 8 (by kernel_rfl) (by kernel_rfl) (by kernel_rfl) (by kernel_rfl)) ?_
  intro W base args ds gs before hval0 hW _ _
  have hval : ∀ (j : Nat) t v, Try.f13.params[j]? = some t → args[j]? = some v → Value.okWide Try.prog W .any base t v := hval0
  have hW' := hW
  obtain ⟨p, q, hA0, hV, rfl, hfz, hnd⟩ := hW
  have hA : DataW.TrodAll enc Try.prog W 0 (fun _ => true) true Try.f13.params.toList args.toList ds p := hA0
  rw [Try.params13] at hA hval
  obtain ⟨v0, vs0, d0, ds0, p0, q0, hargs, rfl, rfl, h0, r0⟩ := trodAll_cons hA
  obtain ⟨rfl, rfl, rfl⟩ := trodAll_nil r0
  obtain rfl : args = #[v0] := by cases args; simp_all
  obtain ⟨rfl, rfl⟩ := trodVars_none hV
  obtain ⟨l, hl⟩ := open_attrs (hval 0 47 v0 rfl rfl) h0
  clear hA0 hval0
  simp only [List.append_nil] at hW'
  have hlt : ∀ x, x ∈ p0 → x.block < W.heap.size := fun x hx => by simpa using hW'.lt x hx
  refine (order_walk l v0 W hl).mono fun e W' ⟨he, hg⟩ => ?_
  subst he
  have k0 := Below.trod laidOut' (by kernel_rfl) (of_decide_eq_true (by kernel_rfl)) h0 hg hlt
  exact ⟨_, rfl, _, _, _, [], p0 ++ [], [], hW', trodAll_cons_mk (shut_bool Try.underlying4 _) trodAll_mk0, trodAll_cons_mk k0 trodAll_mk0, rfl, hg.frame _, fun h => by cases h⟩

/-- THE STATEMENT. -/
theorem attrOrder_holds : Rows.AttrOrderSaid :=
  OpenClaim.holds_of_wide 13 Try.f13 rfl rfl rfl rfl rfl rfl rfl ⟨rfl, rfl, rfl, rfl, rfl⟩ rfl rfl rfl rfl rfl (by kernel_rfl) Try.func13 (by kernel_rfl)
    (of_decide_eq_true (by kernel_rfl)) (by unfold Func.isWrapper; first | (rw [if_pos (by decide +kernel)]; kernel_rfl) | (rw [if_neg (by decide +kernel)]; exact ⟨rfl, rfl⟩))
    (fun os started H enc _ => order_lifted os started H enc)
#print axioms attrOrder_holds
end Go.Proofs.Ytbfomnkapnlgeaa
