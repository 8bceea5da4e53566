/- For every tree, number and attribute: the law AttrTells of package limelightlaw02 returns true, and nothing that was there has turned. No condition. -/
import Derived.Test.YtbfomnkapnlgeaaRefDrop
import Derived.Test.YtbfomnkapnlgeaaAttrBack
namespace Go.Proofs.Ytbfomnkapnlgeaa
open Go.ChangeShapes Go.WideShapes Go.ChangeAt Go.RowKit

theorem getL_none {T : List Nd} (h : mayB T = false) (n nm : Int) : getL T n nm = (0, false) := by
  rw [getL, faultE, h]; rfl

theorem sane_set {T : List Nd} (hS : Sane T) (hal : ∀ m, m < T.length → (nd T m).attrs.length ≤ 1000) (n : Int) (a : Int × Int) : Sane (setR T n a) ∧ (setR T n a).length ≤ T.length := by
  rw [setR]
  split
  · exact ⟨fun m hm => by simp at hm, by simp⟩
  · split
    · rename_i h1 h2
      have h3 : setE T n a = 0 := by simpa using h2
      have hf : (faultE T n != 0) = false := by
        cases hf : (faultE T n != 0)
        · rfl
        · rw [setE, hf, if_pos rfl] at h3
          simp [h3] at hf
      obtain ⟨_, k, rfl, hk⟩ := faultE_zero hf
      rw [Int.toNat_natCast]
      exact ⟨sane_withAttrs hS hk (by have := putL_length (nd T k).attrs a; have := hal k hk; omega), by rw [withAttrs_length]; exact Nat.le_refl _⟩
    · exact ⟨hS, Nat.le_refl _⟩
theorem sane_drop {T : List Nd} (hS : Sane T) (hal : ∀ m, m < T.length → (nd T m).attrs.length ≤ 1000) (n nm : Int) : Sane (dropR T n nm) ∧ (dropR T n nm).length ≤ T.length := by
  rw [dropR]
  split
  · exact ⟨fun m hm => by simp at hm, by simp⟩
  · split
    · rename_i h1 h2
      have h3 : dropE T n nm = 0 := by simpa using h2
      have hf : (faultE T n != 0) = false := by
        cases hf : (faultE T n != 0)
        · rfl
        · rw [dropE, hf, if_pos rfl] at h3
          simp [h3] at hf
      obtain ⟨_, k, rfl, hk⟩ := faultE_zero hf
      rw [Int.toNat_natCast]
      exact ⟨sane_withAttrs hS hk (by have := dropL_length (nd T k).attrs (searchL nm (nd T k).attrs).1; have := hal k hk; omega), by rw [withAttrs_length]; exact Nat.le_refl _⟩
    · exact ⟨hS, Nat.le_refl _⟩

/-- The box, and two trees more. -/
structure TellInv (W w : World) (nm vl : Int) : Prop where
  below : Below W.heap.size W w
  box0 : w.cell? ⟨W.heap.size, 0, none⟩ = some (.int .i64 nm)
  box1 : w.cell? ⟨W.heap.size, 1, none⟩ = some (.int .i64 vl)
theorem TellInv.step {W w w' : World} {nm vl : Int} (h : TellInv W w nm vl) (hb : Below w.heap.size w w') : TellInv W w' nm vl :=
  ⟨h.below.trans (hb.mono h.below.size), cell_below hb h.box0, cell_below hb h.box1⟩

set_option maxRecDepth 100000 in
set_option maxHeartbeats 8000000 in
theorem tells_bad (T : List Nd) (v : Value) (n nm vl : Int) (W : World) (hT : TreeAt W v T) (hs : smallB T = false) :
    Calls Try.prog 9 #[v, .int .i64 n, .agg #[.int .i64 nm, .int .i64 vl]] W fun e w' => e = .returned (.bool true) ∧ Below W.heap.size W w' := by
  have HT := hideG hT
  obtain ⟨a, cap, rfl⟩ := hT.shape
  clear hT
  have hb0 : ∀ o, Below W.heap.size W (W.alloc o) := fun o => (Below.refl _ W).alloc (Nat.le_refl _) o
  have HB := hideG hb0
  clear hb0
  go_enter Try.func9, Try.ntmps9
  go_wp2_with (first | (go_at_call 15; refine (refSmall_any T _ _ (HT.out.below (HB.out _))).mono ?_; rw [hs]; rintro e w1 ⟨rfl, rfl⟩) | (go_at_call 33; refine (after (HB.out _) (live2_any _)).mono ?_; rintro e w2 ⟨rfl, hb2⟩))
  go_ret
  exact ⟨rfl, hb2⟩

set_option maxRecDepth 100000 in
set_option maxHeartbeats 8000000 in
theorem tells_good (T : List Nd) (v : Value) (n nm vl : Int) (W : World) (hT : TreeAt W v T) (hs : smallB T = true) :
    Calls Try.prog 9 #[v, .int .i64 n, .agg #[.int .i64 nm, .int .i64 vl]] W fun e w' => e = .returned (.bool true) ∧ Below W.heap.size W w' := by
  have hS := sane_of_small hs
  have h20 := (smallB_at hs).2
  have h70 := (smallB_at hs).1
  have hal : ∀ m, m < T.length → (nd T m).attrs.length ≤ 1000 := fun m hm => by have := h20 m hm; omega
  have hal9 : ∀ m, m < T.length → (nd T m).attrs.length ≤ 900000 := fun m hm => by have := h20 m hm; omega
  have hb0 : ∀ o, Below W.heap.size W (W.alloc o) := fun o => (Below.refl _ W).alloc (Nat.le_refl _) o
  have HI0 : Hid (TellInv W (W.alloc (.cells #[.int .i64 nm, .int .i64 vl] 54)) nm vl) := ⟨hb0 _, by simp, by simp⟩
  have HGET : Hid (∀ w2, TellInv W w2 nm vl → Calls Try.prog 34 #[v, .int .i64 n, .int .i64 nm] w2 fun e w' => e = .returned (.tuple #[.int .i64 (getL T n nm).1, .bool (getL T n nm).2]) ∧ Hid (TellInv W w' nm vl)) := fun w2 hi => by
    refine Calls.mono (get_any T hS v n nm w2 (hT.below hi.below)) ?_
    rintro e w' ⟨rfl, hb'⟩
    exact ⟨rfl, hi.step hb'⟩
  have HMAY : Hid (∀ w2, TellInv W w2 nm vl → Calls Try.prog 29 #[v] w2 fun e w' => e = .returned (.bool (mayB T)) ∧ Hid (TellInv W w' nm vl)) := fun w2 hi => by
    have := refMay_any T hS v w2 (hT.below hi.below)
    rw [refMay_eq] at this
    refine Calls.mono this ?_
    rintro e w' ⟨rfl, hb'⟩
    exact ⟨rfl, hi.step hb'⟩
  have HRGET : Hid (∀ w2, mayB T = true → TellInv W w2 nm vl → Calls Try.prog 35 #[v, .int .i64 n, .int .i64 nm] w2 fun e w' => e = .returned (.tuple #[.int .i64 (getL T n nm).1, .bool (getL T n nm).2]) ∧ w' = w2) := fun w2 hm hi => by
    have := refGet_any T hS v n nm w2 (hT.below hi.below)
    rwa [refGet_eq hm] at this
  have HSET : Hid (∀ w2, TellInv W w2 nm vl → Calls Try.prog 36 #[v, .int .i64 n, .agg #[.int .i64 nm, .int .i64 vl]] w2 fun e w' => ∃ a' c', e = .returned (.tuple #[.slice a' (setR T n (nm, vl)).length c', .int .i64 (setE T n (nm, vl))]) ∧ Hid (TellInv W w' nm vl) ∧ Hid (TreeAt w' (.slice a' (setR T n (nm, vl)).length c') (setR T n (nm, vl)))) := fun w2 hi => by
    refine Calls.mono (set_any T hS v n nm vl w2 (hT.below hi.below) hal9) ?_
    rintro e w' ⟨v', rfl, hb', ht'⟩
    obtain ⟨a', c', rfl⟩ := ht'.shape
    exact ⟨a', c', rfl, hi.step hb', ht'⟩
  have HRSET : Hid (∀ w2 u, TellInv W w2 nm vl → TreeAt w2 u (setR T n (nm, vl)) → Calls Try.prog 37 #[v, .int .i64 n, .agg #[.int .i64 nm, .int .i64 vl]] w2 fun e w' => ∃ a' c', e = .returned (.tuple #[.slice a' (setR T n (nm, vl)).length c', .int .i64 (setE T n (nm, vl))]) ∧ Hid (TellInv W w' nm vl) ∧ Hid (TreeAt w' u (setR T n (nm, vl)) ∧ TreeAt w' (.slice a' (setR T n (nm, vl)).length c') (setR T n (nm, vl)))) := fun w2 u hi hu => by
    refine Calls.mono (refSet_any T hS v n nm vl w2 (hT.below hi.below) hal) ?_
    rintro e w' ⟨v', rfl, hb', ht'⟩
    obtain ⟨a', c', rfl⟩ := ht'.shape
    exact ⟨a', c', rfl, hi.step hb', hu.below hb', ht'⟩
  have HDROP : Hid (∀ w2, TellInv W w2 nm vl → Calls Try.prog 38 #[v, .int .i64 n, .int .i64 nm] w2 fun e w' => ∃ a' c', e = .returned (.tuple #[.slice a' (dropR T n nm).length c', .int .i64 (dropE T n nm)]) ∧ Hid (TellInv W w' nm vl) ∧ Hid (Below w2.heap.size w2 w') ∧ Hid (TreeAt w' (.slice a' (dropR T n nm).length c') (dropR T n nm))) := fun w2 hi => by
    refine Calls.mono (drop_any T hS v n nm w2 (hT.below hi.below) hal9) ?_
    rintro e w' ⟨v', rfl, hb', ht'⟩
    obtain ⟨a', c', rfl⟩ := ht'.shape
    exact ⟨a', c', rfl, hi.step hb', hb', ht'⟩
  have HRDROP : Hid (∀ w2, TellInv W w2 nm vl → Calls Try.prog 39 #[v, .int .i64 n, .int .i64 nm] w2 fun e w' => ∃ a' c', e = .returned (.tuple #[.slice a' (dropR T n nm).length c', .int .i64 (dropE T n nm)]) ∧ Hid (TellInv W w' nm vl) ∧ Hid (Below w2.heap.size w2 w') ∧ Hid (TreeAt w' (.slice a' (dropR T n nm).length c') (dropR T n nm))) := fun w2 hi => by
    refine Calls.mono (refDrop_any T hS v n nm w2 (hT.below hi.below) hal) ?_
    rintro e w' ⟨v', rfl, hb', ht'⟩
    obtain ⟨a', c', rfl⟩ := ht'.shape
    exact ⟨a', c', rfl, hi.step hb', hb', ht'⟩
  have HHAS : Hid (∀ w2, TellInv W w2 nm vl → Calls Try.prog 40 #[v, .int .i64 n, .int .i64 nm] w2 fun e w' => e = .returned (.bool (getL T n nm).2) ∧ Hid (TellInv W w' nm vl) ∧ Hid (Below w2.heap.size w2 w')) := fun w2 hi => by
    refine Calls.mono (has_any T hS v n nm w2 (hT.below hi.below)) ?_
    rintro e w' ⟨rfl, hb'⟩
    exact ⟨rfl, hi.step hb', hb'⟩
  have HSAME1 : Hid (∀ w2 u u', TellInv W w2 nm vl → TreeAt w2 u (setR T n (nm, vl)) → TreeAt w2 u' (setR T n (nm, vl)) → Calls Try.prog 21 #[u, u'] w2 fun e w' => e = .returned (.bool true) ∧ Hid (TellInv W w' nm vl) ∧ Hid (Below w2.heap.size w2 w')) := fun w2 u u' hi h1 h2 => by
    have hss := sane_set hS hal n (nm, vl)
    have := refSame_any _ _ hss.1 u u' w2 h1 h2 (by omega)
    rw [decide_eq_true rfl] at this
    refine Calls.mono this ?_
    rintro e w' ⟨rfl, hb'⟩
    exact ⟨rfl, hi.step hb', hb'⟩
  have HSAME2 : Hid (∀ w2 u u', TellInv W w2 nm vl → TreeAt w2 u (dropR T n nm) → TreeAt w2 u' (dropR T n nm) → Calls Try.prog 21 #[u, u'] w2 fun e w' => e = .returned (.bool true) ∧ Hid (TellInv W w' nm vl)) := fun w2 u u' hi h1 h2 => by
    have hss := sane_drop hS hal n nm
    have := refSame_any _ _ hss.1 u u' w2 h1 h2 (by omega)
    rw [decide_eq_true rfl] at this
    refine Calls.mono this ?_
    rintro e w' ⟨rfl, hb'⟩
    exact ⟨rfl, hi.step hb'⟩
  have HB := hideG hb0
  have HT := hideG hT
  obtain ⟨a, cap, rfl⟩ := hT.shape
  have hnone := fun h => getL_none (T := T) h n nm
  have HNONE := hideG hnone
  clear hT hb0 hS h20 hal hal9 hnone
  generalize setE T n (nm, vl) = E1 at *
  generalize dropE T n nm = E2 at *
  generalize hG : getL T n nm = G at *
  clear hG
  obtain ⟨G1, G2⟩ := G
  dsimp only at HGET HRGET HHAS HNONE
  cases hm : mayB T
  · rw [hm] at HMAY
    have hg := HNONE.out hm
    simp only [Prod.mk.injEq] at hg
    obtain ⟨rfl, rfl⟩ := hg
    clear HRGET HNONE
    go_enter Try.func9, Try.ntmps9
    go_wp2_with (first | (go_at_call 15; refine (refSmall_any T _ _ (HT.out.below (HB.out _))).mono ?_; rw [hs]; rintro e w1 ⟨rfl, hw1⟩; subst hw1) | (go_at_call 34; refine Calls.mono (HGET.out _ HI0.out) ?_; rintro e w2 ⟨rfl, HI2⟩; have p20 := HI2.out.box0; have p21 := HI2.out.box1) | (go_at_call 29; refine Calls.mono (HMAY.out _ HI2.out) ?_; rintro e w3 ⟨rfl, HI3⟩; have p30 := HI3.out.box0; have p31 := HI3.out.box1) | (go_at_call 36; refine Calls.mono (HSET.out _ HI3.out) ?_; rintro e w6 ⟨a6, c6, rfl, HI6, HT6⟩; have p60 := HI6.out.box0; have p61 := HI6.out.box1) | (go_at_call 37; refine Calls.mono (HRSET.out _ _ HI6.out HT6.out) ?_; rintro e w7 ⟨a7, c7, rfl, HI7, HT7⟩; have p70 := HI7.out.box0; have p71 := HI7.out.box1) | (go_at_call 38; refine Calls.mono (HDROP.out _ HI7.out) ?_; rintro e w8 ⟨a8, c8, rfl, HI8, HB8, HT8⟩; have p80 := HI8.out.box0; have p81 := HI8.out.box1) | (go_at_call 39; refine Calls.mono (HRDROP.out _ HI8.out) ?_; rintro e w9 ⟨a9, c9, rfl, HI9, HB9, HT9⟩; have p90 := HI9.out.box0; have p91 := HI9.out.box1) | (go_at_call 40; refine Calls.mono (HHAS.out _ HI9.out) ?_; rintro e w10 ⟨rfl, HI10, HB10⟩) | (go_at_call_of 21 (Value.slice a6 (setR T n (nm, vl)).length c6); refine Calls.mono (HSAME1.out _ _ _ HI10.out (((HT7.out.1.below HB8.out).below HB9.out).below HB10.out) (((HT7.out.2.below HB8.out).below HB9.out).below HB10.out)) ?_; rintro e w11 ⟨rfl, HI11, HB11⟩) | (go_at_call_of 21 (Value.slice a8 (dropR T n nm).length c8); refine Calls.mono (HSAME2.out _ _ _ HI11.out (((HT8.out.below HB9.out).below HB10.out).below HB11.out) ((HT9.out.below HB10.out).below HB11.out)) ?_; rintro e w12 ⟨rfl, HI12⟩) | (go_at_call 33; refine Calls.mono (after HI12.out.below (live2_any _)) ?_; rintro e w13 ⟨rfl, hb13⟩))
    go_ret
    exact ⟨rfl, hb13⟩
  · rw [hm] at HMAY
    clear HNONE
    go_enter Try.func9, Try.ntmps9
    go_wp2_with (first | (go_at_call 15; refine (refSmall_any T _ _ (HT.out.below (HB.out _))).mono ?_; rw [hs]; rintro e w1 ⟨rfl, hw1⟩; subst hw1) | (go_at_call 34; refine Calls.mono (HGET.out _ HI0.out) ?_; rintro e w2 ⟨rfl, HI2⟩; have p20 := HI2.out.box0; have p21 := HI2.out.box1) | (go_at_call 29; refine Calls.mono (HMAY.out _ HI2.out) ?_; rintro e w3 ⟨rfl, HI3⟩; have p30 := HI3.out.box0; have p31 := HI3.out.box1) | (go_at_call 35; refine Calls.mono (HRGET.out _ hm HI3.out) ?_; rintro e w4 ⟨rfl, hw4⟩; subst hw4) | (go_at_call 36; refine Calls.mono (HSET.out _ HI3.out) ?_; rintro e w6 ⟨a6, c6, rfl, HI6, HT6⟩; have p60 := HI6.out.box0; have p61 := HI6.out.box1) | (go_at_call 37; refine Calls.mono (HRSET.out _ _ HI6.out HT6.out) ?_; rintro e w7 ⟨a7, c7, rfl, HI7, HT7⟩; have p70 := HI7.out.box0; have p71 := HI7.out.box1) | (go_at_call 38; refine Calls.mono (HDROP.out _ HI7.out) ?_; rintro e w8 ⟨a8, c8, rfl, HI8, HB8, HT8⟩; have p80 := HI8.out.box0; have p81 := HI8.out.box1) | (go_at_call 39; refine Calls.mono (HRDROP.out _ HI8.out) ?_; rintro e w9 ⟨a9, c9, rfl, HI9, HB9, HT9⟩; have p90 := HI9.out.box0; have p91 := HI9.out.box1) | (go_at_call 40; refine Calls.mono (HHAS.out _ HI9.out) ?_; rintro e w10 ⟨rfl, HI10, HB10⟩) | (go_at_call_of 21 (Value.slice a6 (setR T n (nm, vl)).length c6); refine Calls.mono (HSAME1.out _ _ _ HI10.out (((HT7.out.1.below HB8.out).below HB9.out).below HB10.out) (((HT7.out.2.below HB8.out).below HB9.out).below HB10.out)) ?_; rintro e w11 ⟨rfl, HI11, HB11⟩) | (go_at_call_of 21 (Value.slice a8 (dropR T n nm).length c8); refine Calls.mono (HSAME2.out _ _ _ HI11.out (((HT8.out.below HB9.out).below HB10.out).below HB11.out) ((HT9.out.below HB10.out).below HB11.out)) ?_; rintro e w12 ⟨rfl, HI12⟩) | (go_at_call 33; refine Calls.mono (after HI12.out.below (live2_any _)) ?_; rintro e w13 ⟨rfl, hb13⟩))
    go_ret
    exact ⟨rfl, hb13⟩

theorem tells_walk (T : List Nd) (v : Value) (n nm vl : Int) (W : World) (hT : TreeAt W v T) :
    Calls Try.prog 9 #[v, .int .i64 n, .agg #[.int .i64 nm, .int .i64 vl]] W fun e w' => e = .returned (.bool true) ∧ Below W.heap.size W w' := by
  cases hs : smallB T
  · exact tells_bad T v n nm vl W hT hs
  · exact tells_good T v n nm vl W hT hs

set_option maxRecDepth 100000 in
theorem tells_lifted (os : Os) (started : os.Started) (H : Type) (enc : TypeId × Value → H) :
    ReturnsInHanded {} Try.checked os 9 .any (Rows.attrTellsSpec.pre6 enc Try.prog Try.f9 Rows.attrTellsRow.domain false) (Rows.attrTellsSpec.post enc Try.prog Try.f9 false true false false) := by
  refine returnsInHanded_of_change (C := Try.checked) (by kernel_rfl) started (by kernel_rfl) Try.func9
    (ChangeSpec.witness6 (enc := enc) (C := Try.checked) false ⟨#[], #[.slice none 0 0, .int .i64 0, .agg #[.int .i64 0, .int .i64 0]], []⟩ 8 (by kernel_rfl) (by kernel_rfl) (by kernel_rfl) (by kernel_rfl)) ?_
  intro W base args ds gs before hval0 hW _ _
  have hval : ∀ (j : Nat) t v, Try.f9.params[j]? = some t → args[j]? = some v → Value.okWide Try.prog W .any base t v := hval0
  have hW' := hW
  obtain ⟨p, q, hA0, hV, rfl, hfz, hnd⟩ := hW
  have hA : DataW.TrodAll enc Try.prog W 0 (fun _ => true) true Try.f9.params.toList args.toList ds p := hA0
  rw [Try.params9] at hA hval
  obtain ⟨v0, vs0, d0, ds0, p0, q0, hargs, rfl, rfl, h0, r0⟩ := trodAll_cons hA
  obtain ⟨v1, vs1, d1, ds1, p1, q1, rfl, rfl, rfl, h1, r1⟩ := trodAll_cons r0
  obtain ⟨v2, vs2, d2, ds2, p2, q2, rfl, rfl, rfl, h2, r2⟩ := trodAll_cons r1
  obtain ⟨rfl, rfl, rfl⟩ := trodAll_nil r2
  obtain rfl : args = #[v0, v1, v2] := by cases args; simp_all
  obtain ⟨rfl, rfl⟩ := trodVars_none hV
  obtain ⟨T, hT⟩ := open_tree (hval 0 23 v0 rfl rfl) h0
  obtain ⟨n, rfl, rfl, rfl, wn⟩ := open_int Try.underlying3 (hval 1 3 v1 rfl rfl) h1
  obtain ⟨nm, vl, rfl⟩ := open_attr (hval 2 54 v2 rfl rfl) h2
  clear hA0 hval0
  simp only [List.append_nil, List.nil_append] at hW'
  have hlt : ∀ x, x ∈ p0 ++ p2 → x.block < W.heap.size := fun x hx => by simpa using hW'.lt x hx
  refine (tells_walk T v0 n nm vl W hT).mono fun e W' ⟨he, hg⟩ => ?_
  subst he
  have k0 := Below.trod laidOut' (by kernel_rfl) (of_decide_eq_true (by kernel_rfl)) h0 hg (fun x hx => hlt x (by simp [hx]))
  have k2 := Below.trod laidOut' (by kernel_rfl) (of_decide_eq_true (by kernel_rfl)) h2 hg (fun x hx => hlt x (by simp [hx]))
  exact ⟨_, rfl, _, _, _, [], p0 ++ ([] ++ (p2 ++ [])), [], hW', trodAll_cons_mk (shut_bool Try.underlying4 _) trodAll_mk0, trodAll_cons_mk k0 (trodAll_cons_mk (shut_int Try.underlying3 wn) (trodAll_cons_mk k2 trodAll_mk0)), rfl, hg.frame _, fun h => by cases h⟩

/-- THE STATEMENT. -/
theorem attrTells_holds : Rows.AttrTellsSaid :=
  OpenClaim.holds_of_wide 9 Try.f9 rfl rfl rfl rfl rfl rfl rfl ⟨rfl, rfl, rfl, rfl, rfl⟩ rfl rfl rfl rfl rfl (by kernel_rfl) Try.func9 (by kernel_rfl)
    (of_decide_eq_true (by kernel_rfl)) (by unfold Func.isWrapper; first | (rw [if_pos (by decide +kernel)]; kernel_rfl) | (rw [if_neg (by decide +kernel)]; exact ⟨rfl, rfl⟩))
    (fun os started H enc _ => tells_lifted os started H enc)
#print axioms attrTells_holds
end Go.Proofs.Ytbfomnkapnlgeaa
