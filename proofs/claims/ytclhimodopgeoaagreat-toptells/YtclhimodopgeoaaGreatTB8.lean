/- Part 8 of what the laws of layer 10 lean on. -/
import Derived.Laws.EntriesVeiled
import Derived.Test.YtclhimodopgeoaaGreatTB2
import Derived.Test.YtclhimodopgeoaaGreatTB4
import Derived.Test.YtclhimodopgeoaaGreatTB6
import Derived.Test.YtclhimodopgeoaaGreatTB7
namespace Go.Proofs.YtclhimodopgeoaaGreat
open Go.RowKit
structure PopS (W0 : World) (B X : Nat) (tv ov mv pv qv : Value) (x : Sh) (U : World) : Prop where
  bel : Below W0.heap.size W0 U
  c0 : U.cell? ⟨B, 0, none⟩ = some tv
  c1 : U.cell? ⟨B, 1, none⟩ = some ov
  c2 : U.cell? ⟨B, 2, none⟩ = some mv
  c3 : U.cell? ⟨B, 3, none⟩ = some pv
  c4 : U.cell? ⟨B, 4, none⟩ = some qv
  x0 : U.cell? ⟨X, 0, none⟩ = some (.int .i64 x.node)
  x1 : U.cell? ⟨X, 1, none⟩ = some (.int .i64 x.inv)
theorem PopS.below {W0 U U' : World} {B X : Nat} {tv ov mv pv qv : Value} {x : Sh} (h : PopS W0 B X tv ov mv pv qv x U) (hb : Below U.heap.size U U') : PopS W0 B X tv ov mv pv qv x U' :=
  ⟨h.bel.trans (hb.mono h.bel.size), cell_below hb h.c0, cell_below hb h.c1, cell_below hb h.c2, cell_below hb h.c3, cell_below hb h.c4, cell_below hb h.x0, cell_below hb h.x1⟩
theorem PopS.start {W0 : World} {B X : Nat} {tv ov mv pv qv : Value} {x : Sh} (h0 : W0.cell? ⟨B, 0, none⟩ = some tv) (h1 : W0.cell? ⟨B, 1, none⟩ = some ov) (h2 : W0.cell? ⟨B, 2, none⟩ = some mv) (h3 : W0.cell? ⟨B, 3, none⟩ = some pv) (h4 : W0.cell? ⟨B, 4, none⟩ = some qv) (h5 : W0.cell? ⟨X, 0, none⟩ = some (.int .i64 x.node)) (h6 : W0.cell? ⟨X, 1, none⟩ = some (.int .i64 x.inv)) : PopS W0 B X tv ov mv pv qv x W0.drew :=
  ⟨below_drewS _, h0, h1, h2, h3, h4, h5, h6⟩
structure NumS (W0 : World) (B X : Nat) (tv ov mv pv qv : Value) (n : Int) (U : World) : Prop where
  bel : Below W0.heap.size W0 U
  c0 : U.cell? ⟨B, 0, none⟩ = some tv
  c1 : U.cell? ⟨B, 1, none⟩ = some ov
  c2 : U.cell? ⟨B, 2, none⟩ = some mv
  c3 : U.cell? ⟨B, 3, none⟩ = some pv
  c4 : U.cell? ⟨B, 4, none⟩ = some qv
  x0 : U.cell? ⟨X, 0, none⟩ = some (.int .i64 n)
theorem NumS.below {W0 U U' : World} {B X : Nat} {tv ov mv pv qv : Value} {n : Int} (h : NumS W0 B X tv ov mv pv qv n U) (hb : Below U.heap.size U U') : NumS W0 B X tv ov mv pv qv n U' :=
  ⟨h.bel.trans (hb.mono h.bel.size), cell_below hb h.c0, cell_below hb h.c1, cell_below hb h.c2, cell_below hb h.c3, cell_below hb h.c4, cell_below hb h.x0⟩
theorem NumS.start {W0 : World} {B X : Nat} {tv ov mv pv qv : Value} {n : Int} (h0 : W0.cell? ⟨B, 0, none⟩ = some tv) (h1 : W0.cell? ⟨B, 1, none⟩ = some ov) (h2 : W0.cell? ⟨B, 2, none⟩ = some mv) (h3 : W0.cell? ⟨B, 3, none⟩ = some pv) (h4 : W0.cell? ⟨B, 4, none⟩ = some qv) (h5 : W0.cell? ⟨X, 0, none⟩ = some (.int .i64 n)) : NumS W0 B X tv ov mv pv qv n W0.drew :=
  ⟨below_drewS _, h0, h1, h2, h3, h4, h5⟩
def ConnAt (U : World) (s tv : Value) (T : List Nd) : Prop := ∃ ca cc, s = .agg #[tv, .slice ca (slI T 0).length cc] ∧ IntsAt U (.slice ca (slI T 0).length cc) (slI T 0)
theorem ConnAt.below {U U' : World} {s tv : Value} {T : List Nd} (h : ConnAt U s tv T) (hb : Below U.heap.size U U') : ConnAt U' s tv T := by
  obtain ⟨ca, cc, e, h⟩ := h
  exact ⟨ca, cc, e, h.below hb⟩
/-- All but some blocks lie as they lay. -/
structure Sb (Bad : Nat → Prop) (A B : World) : Prop where
  size : A.heap.size ≤ B.heap.size
  old : ∀ j, j < A.heap.size → ¬ Bad j → B.heap[j]? = A.heap[j]?
theorem Sb.of_below {Bad : Nat → Prop} {A B : World} (h : Below A.heap.size A B) : Sb Bad A B := ⟨h.size, fun j hj _ => h.block j hj⟩
theorem Sb.trans {Bad : Nat → Prop} {A B C : World} (h : Sb Bad A B) (h2 : Sb Bad B C) : Sb Bad A C := ⟨Nat.le_trans h.size h2.size, fun j hj hb => (h2.old j (by have := h.size; omega) hb).trans (h.old j hj hb)⟩
theorem Sb.set {Bad : Nat → Prop} {A : World} {b o : Nat} {v : Value} (hb : Bad b) : Sb Bad A (A.setCell ⟨b, o, none⟩ v) := ⟨by simp, fun j _ hn => setc_block (fun e => hn (e ▸ hb))⟩
theorem Sb.set5 {Bad : Nat → Prop} {A : World} {b : Nat} {v0 v1 v2 v3 v4 : Value} (hb : Bad b) : Sb Bad A (set5 A b v0 v1 v2 v3 v4) := ⟨by rw [set5_size]; exact Nat.le_refl _, fun j _ hn => set5_block (fun e => hn (e ▸ hb))⟩
theorem RowIn.sb {Bad : Nat → Prop} {A B : World} {I : Nat × Nat} {e : TypeId} {sz : Nat} {v : Value} {n : Nat} {xs : List Value} (h : RowIn A I e sz v n xs) (hI : I.2 ≤ A.heap.size) (hoff : ∀ j, I.1 ≤ j → j < I.2 → ¬ Bad j) (hs : Sb Bad A B) : RowIn B I e sz v n xs :=
  h.keep (fun j h1 h2 => hs.old j (by omega) (hoff j h1 h2))
theorem TreeIn.sb {Bad : Nat → Prop} {A B : World} {I : Nat × Nat} {v : Value} {T : List Nd} (h : TreeIn A I v T) (hI : I.2 ≤ A.heap.size) (hoff : ∀ j, I.1 ≤ j → j < I.2 → ¬ Bad j) (hs : Sb Bad A B) : TreeIn B I v T :=
  h.keep (fun j h1 h2 => hs.old j (by omega) (hoff j h1 h2))
end Go.Proofs.YtclhimodopgeoaaGreat

namespace Go.Proofs.YtclhimodopgeoaaGreat
open Go.RowKit

set_option maxRecDepth 100000 in
set_option maxHeartbeats 4000000 in
theorem part72 (p : Int → Bool) (bv : Value) (l : List Int) (v : Value) (w : World) (HD : Hid (∀ (x : Int) U, Below w.heap.size w U → Calls Tryz.prog 72 #[.int .i64 x, bv] U (fun e w' => e = .returned (.bool (p x)) ∧ Below U.heap.size U w'))) (hL : IntsAt w v l) (hl : l.length ≤ 1000000) :
    Calls Tryz.prog 65 #[v, .func (.func 72) #[] #[bv]] w fun e w' => ∃ a1 c1 a2 c2, e = .returned (.tuple #[.slice a1 (l.filter p).length c1, .slice a2 (l.filter (notB p)).length c2]) ∧
      w'.ownsRow w.heap.size 3 1 (.slice a1 (l.filter p).length c1) (l.filter p).length (intCells (l.filter p)) ∧ w'.ownsRow w.heap.size 3 1 (.slice a2 (l.filter (notB p)).length c2) (l.filter (notB p)).length (intCells (l.filter (notB p))) ∧
      Apart (.slice a1 (l.filter p).length c1) (.slice a2 (l.filter (notB p)).length c2) ∧ Below w.heap.size w w' := by
  obtain ⟨i3, hi3, hz30, hz31, hz32⟩ := info_parts infoT3
  obtain ⟨a, cap, rfl, hc⟩ := hL
  have HC := hideG hc
  clear hc
  go_enter Tryz.func65, Tryz.ntmps65
  go_wp2_with fail
  go_loopw [4, 5, 10] (fun s g i wr => ∃ (k : Nat) (S G : List Int) (sa ga : Option Addr) (sc gc : Nat), k ≤ l.length ∧ i = .int .i64 (k : Int) ∧ s = .slice sa S.length sc ∧ g = .slice ga G.length gc ∧ S = (l.take k).filter p ∧ G = (l.take k).filter (notB p) ∧
      wr.ownsRow w.heap.size 3 1 (.slice sa S.length sc) S.length (intCells S) ∧ wr.ownsRow w.heap.size 3 1 (.slice ga G.length gc) G.length (intCells G) ∧ Apart (.slice sa S.length sc) (.slice ga G.length gc) ∧ Below w.heap.size w wr) (fun _ _ i _ => l.length - (intOf i).toNat)
  case atStart => exact ⟨0, [], [], none, none, 0, 0, Nat.zero_le _, rfl, rfl, rfl, rfl, rfl, World.ownsRow_nil _ _ _ _, World.ownsRow_nil _ _ _ _, fun k h => by simp [Value.ownBlock] at h, Below.refl _ _⟩
  case round =>
    obtain ⟨k, S, G, sa, ga, sc, gc, hk, rfl, rfl, rfl, hSe, hGe, hoS, hoG, hap, hB⟩ := hrel
    have HOS := hideG hoS
    have HOG := hideG hoG
    have HAP := hideG hap
    have HB := hideG hB
    have HSE := hideG hSe
    have HGE := hideG hGe
    have hSl : S.length ≤ 1000000 := by
      have h1 := List.length_filter_le p (l.take k)
      rw [← hSe, List.length_take] at h1
      omega
    have hGl : G.length ≤ 1000000 := by
      have h1 := List.length_filter_le (notB p) (l.take k)
      rw [← hGe, List.length_take] at h1
      omega
    clear hoS hoG hap hB hSe hGe
    by_cases hlt : k < l.length
    · obtain ⟨b, off, rfl, hd⟩ := HC.out (by omega)
      have hk0 : (0 : Int) ≤ (k : Int) := by omega
      have HTS0 := hideG (show l.take (k + 1) = l.take k ++ [l.getD k 0] by
        rw [List.take_succ_eq_append_getElem hlt, List.getD_eq_getElem?_getD, List.getElem?_eq_getElem hlt]; rfl)
      have c0 := cell_below HB.out (hd k hlt)
      have hbl : b < wr.heap.size := below_of_cell c0
      generalize hx : l.getD k 0 = x at *
      have HTS := HTS0
      have HCALL := hideG (HD.out x wr (HB.out))
      clear hd hx HTS0
      cases hp : p x
      · skip
        have HP := hideG hp
        clear hp
        go_wp2_with fail
        refine HCALL.out.mono ?_
        rintro ex w1 ⟨rfl, hb1⟩
        rw [HP.out]
        have HB1 := hideG ((HB.out).trans (hb1.mono (HB.out).size))
        have HRA := hideG (ownsRow_below HOG.out hb1 (fun j e => (HOG.out.lt j e).2))
        have HRB := hideG (ownsRow_below HOS.out hb1 (fun j e => (HOS.out.lt j e).2))
        have hqq : w.heap.size ≤ w1.heap.size := HB1.out.size
        clear c0 hb1
        go_wp2_with (at_builtin; refine wpList_append_any rfl (.tmp 21) (.tmp 23) 24 rfl w.heap.size 3 i3 _ 1 8 Tryz.underlying24 hi3 hz30 hz31 hz32 rfl (by decide) _ G.length (intCells G) rfl (HRA.out.alloc _) _ 1 [.int .i64 x] rfl (row_new1 _ _) rfl ?h2 ?h3 ?h4 ?h5 ?_)
        case h2 => intro y hy; simp at hy; subst hy; rfl
        case h3 => simp only [maxLen]; omega
        case h4 => omega
        case h5 => simp; omega
        intro v4 w4 ho4 hg4 hf4
        obtain ⟨a4, c4, rfl⟩ := ownsRow_shape ho4
        rw [intCells_snoc] at ho4
        have HB4 := hideG ((HB1.out.alloc HB1.out.size (.cells #[.int .i64 x] 3)).grown hg4 (by simp; omega) (fun j e => (HRA.out.lt j e).1))
        have HO4 := hideG (show w4.ownsRow w.heap.size 3 1 (.slice a4 (G ++ [x]).length c4) (G ++ [x]).length (intCells (G ++ [x])) by rw [List.length_append]; exact ho4)
        have HO5 := hideG ((HRB.out.alloc (.cells #[.int .i64 x] 3)).kept hg4 (Apart.hne HAP.out))
        have HAP4 := hideG (show Apart (.slice sa S.length sc) (.slice a4 (G ++ [x]).length c4) from fun j e1 e2 => by
          rcases hf4 j (by simpa [Value.ownBlock] using e2) with e3 | e3
          · exact HAP.out j e1 e3
          · have := (HRB.out.lt j e1).2; have e4 := hg4.size; (try simp only [World.size_alloc] at e3); omega)
        clear ho4 hg4 hf4
        go_wp2_with fail
        go_roundw
        case rel => exact ⟨k + 1, S, G ++ [x], sa, a4, sc, c4, by omega, by go_num, rfl, by simp, by rw [HTS.out, List.filter_append, ← HSE.out]; simp [HP.out], by rw [HTS.out, List.filter_append, ← HGE.out]; simp [notB, HP.out], HO5.out, HO4.out, HAP4.out, HB4.out⟩
        case measure => simp [intOf]; omega
      · skip
        have HP := hideG hp
        clear hp
        go_wp2_with fail
        refine HCALL.out.mono ?_
        rintro ex w1 ⟨rfl, hb1⟩
        rw [HP.out]
        have HB1 := hideG ((HB.out).trans (hb1.mono (HB.out).size))
        have HRA := hideG (ownsRow_below HOS.out hb1 (fun j e => (HOS.out.lt j e).2))
        have HRB := hideG (ownsRow_below HOG.out hb1 (fun j e => (HOG.out.lt j e).2))
        have hqq : w.heap.size ≤ w1.heap.size := HB1.out.size
        clear c0 hb1
        go_wp2_with (at_builtin; refine wpList_append_any rfl (.tmp 17) (.tmp 19) 24 rfl w.heap.size 3 i3 _ 1 8 Tryz.underlying24 hi3 hz30 hz31 hz32 rfl (by decide) _ S.length (intCells S) rfl (HRA.out.alloc _) _ 1 [.int .i64 x] rfl (row_new1 _ _) rfl ?h2 ?h3 ?h4 ?h5 ?_)
        case h2 => intro y hy; simp at hy; subst hy; rfl
        case h3 => simp only [maxLen]; omega
        case h4 => omega
        case h5 => simp; omega
        intro v4 w4 ho4 hg4 hf4
        obtain ⟨a4, c4, rfl⟩ := ownsRow_shape ho4
        rw [intCells_snoc] at ho4
        have HB4 := hideG ((HB1.out.alloc HB1.out.size (.cells #[.int .i64 x] 3)).grown hg4 (by simp; omega) (fun j e => (HRA.out.lt j e).1))
        have HO4 := hideG (show w4.ownsRow w.heap.size 3 1 (.slice a4 (S ++ [x]).length c4) (S ++ [x]).length (intCells (S ++ [x])) by rw [List.length_append]; exact ho4)
        have HO5 := hideG ((HRB.out.alloc (.cells #[.int .i64 x] 3)).kept hg4 (Apart.hne HAP.out.symm))
        have HAP4 := hideG (show Apart (.slice a4 (S ++ [x]).length c4) (.slice ga G.length gc) from fun j e2 e1 => by
          rcases hf4 j (by simpa [Value.ownBlock] using e2) with e3 | e3
          · exact HAP.out j e3 e1
          · have := (HRB.out.lt j e1).2; have e4 := hg4.size; (try simp only [World.size_alloc] at e3); omega)
        clear ho4 hg4 hf4
        go_wp2_with fail
        go_roundw
        case rel => exact ⟨k + 1, S ++ [x], G, a4, ga, c4, gc, by omega, by go_num, by simp, rfl, by rw [HTS.out, List.filter_append, ← HSE.out]; simp [HP.out], by rw [HTS.out, List.filter_append, ← HGE.out]; simp [notB, HP.out], HO4.out, HO5.out, HAP4.out, HB4.out⟩
        case measure => simp [intOf]; omega
    · have hke : k = l.length := by omega
      subst hke
      have hS' : S = l.filter p := by rw [HSE.out, List.take_length]
      have hG' : G = l.filter (notB p) := by rw [HGE.out, List.take_length]
      clear HSE HGE
      subst hS' hG'
      go_wp2_with fail
      go_ret2
      exact ⟨sa, sc, ga, gc, rfl, HOS.out, HOG.out, HAP.out, HB.out⟩

set_option maxRecDepth 100000 in
set_option maxHeartbeats 4000000 in
theorem part86 (p : Int → Bool) (bv : Value) (l : List Int) (v : Value) (w : World) (HD : Hid (∀ (x : Int) U, Below w.heap.size w U → Calls Tryz.prog 86 #[.int .i64 x, bv] U (fun e w' => e = .returned (.bool (p x)) ∧ Below U.heap.size U w'))) (hL : IntsAt w v l) (hl : l.length ≤ 1000000) :
    Calls Tryz.prog 65 #[v, .func (.func 86) #[] #[bv]] w fun e w' => ∃ a1 c1 a2 c2, e = .returned (.tuple #[.slice a1 (l.filter p).length c1, .slice a2 (l.filter (notB p)).length c2]) ∧
      w'.ownsRow w.heap.size 3 1 (.slice a1 (l.filter p).length c1) (l.filter p).length (intCells (l.filter p)) ∧ w'.ownsRow w.heap.size 3 1 (.slice a2 (l.filter (notB p)).length c2) (l.filter (notB p)).length (intCells (l.filter (notB p))) ∧
      Apart (.slice a1 (l.filter p).length c1) (.slice a2 (l.filter (notB p)).length c2) ∧ Below w.heap.size w w' := by
  obtain ⟨i3, hi3, hz30, hz31, hz32⟩ := info_parts infoT3
  obtain ⟨a, cap, rfl, hc⟩ := hL
  have HC := hideG hc
  clear hc
  go_enter Tryz.func65, Tryz.ntmps65
  go_wp2_with fail
  go_loopw [4, 5, 10] (fun s g i wr => ∃ (k : Nat) (S G : List Int) (sa ga : Option Addr) (sc gc : Nat), k ≤ l.length ∧ i = .int .i64 (k : Int) ∧ s = .slice sa S.length sc ∧ g = .slice ga G.length gc ∧ S = (l.take k).filter p ∧ G = (l.take k).filter (notB p) ∧
      wr.ownsRow w.heap.size 3 1 (.slice sa S.length sc) S.length (intCells S) ∧ wr.ownsRow w.heap.size 3 1 (.slice ga G.length gc) G.length (intCells G) ∧ Apart (.slice sa S.length sc) (.slice ga G.length gc) ∧ Below w.heap.size w wr) (fun _ _ i _ => l.length - (intOf i).toNat)
  case atStart => exact ⟨0, [], [], none, none, 0, 0, Nat.zero_le _, rfl, rfl, rfl, rfl, rfl, World.ownsRow_nil _ _ _ _, World.ownsRow_nil _ _ _ _, fun k h => by simp [Value.ownBlock] at h, Below.refl _ _⟩
  case round =>
    obtain ⟨k, S, G, sa, ga, sc, gc, hk, rfl, rfl, rfl, hSe, hGe, hoS, hoG, hap, hB⟩ := hrel
    have HOS := hideG hoS
    have HOG := hideG hoG
    have HAP := hideG hap
    have HB := hideG hB
    have HSE := hideG hSe
    have HGE := hideG hGe
    have hSl : S.length ≤ 1000000 := by
      have h1 := List.length_filter_le p (l.take k)
      rw [← hSe, List.length_take] at h1
      omega
    have hGl : G.length ≤ 1000000 := by
      have h1 := List.length_filter_le (notB p) (l.take k)
      rw [← hGe, List.length_take] at h1
      omega
    clear hoS hoG hap hB hSe hGe
    by_cases hlt : k < l.length
    · obtain ⟨b, off, rfl, hd⟩ := HC.out (by omega)
      have hk0 : (0 : Int) ≤ (k : Int) := by omega
      have HTS0 := hideG (show l.take (k + 1) = l.take k ++ [l.getD k 0] by
        rw [List.take_succ_eq_append_getElem hlt, List.getD_eq_getElem?_getD, List.getElem?_eq_getElem hlt]; rfl)
      have c0 := cell_below HB.out (hd k hlt)
      have hbl : b < wr.heap.size := below_of_cell c0
      generalize hx : l.getD k 0 = x at *
      have HTS := HTS0
      have HCALL := hideG (HD.out x wr (HB.out))
      clear hd hx HTS0
      cases hp : p x
      · skip
        have HP := hideG hp
        clear hp
        go_wp2_with fail
        refine HCALL.out.mono ?_
        rintro ex w1 ⟨rfl, hb1⟩
        rw [HP.out]
        have HB1 := hideG ((HB.out).trans (hb1.mono (HB.out).size))
        have HRA := hideG (ownsRow_below HOG.out hb1 (fun j e => (HOG.out.lt j e).2))
        have HRB := hideG (ownsRow_below HOS.out hb1 (fun j e => (HOS.out.lt j e).2))
        have hqq : w.heap.size ≤ w1.heap.size := HB1.out.size
        clear c0 hb1
        go_wp2_with (at_builtin; refine wpList_append_any rfl (.tmp 21) (.tmp 23) 24 rfl w.heap.size 3 i3 _ 1 8 Tryz.underlying24 hi3 hz30 hz31 hz32 rfl (by decide) _ G.length (intCells G) rfl (HRA.out.alloc _) _ 1 [.int .i64 x] rfl (row_new1 _ _) rfl ?h2 ?h3 ?h4 ?h5 ?_)
        case h2 => intro y hy; simp at hy; subst hy; rfl
        case h3 => simp only [maxLen]; omega
        case h4 => omega
        case h5 => simp; omega
        intro v4 w4 ho4 hg4 hf4
        obtain ⟨a4, c4, rfl⟩ := ownsRow_shape ho4
        rw [intCells_snoc] at ho4
        have HB4 := hideG ((HB1.out.alloc HB1.out.size (.cells #[.int .i64 x] 3)).grown hg4 (by simp; omega) (fun j e => (HRA.out.lt j e).1))
        have HO4 := hideG (show w4.ownsRow w.heap.size 3 1 (.slice a4 (G ++ [x]).length c4) (G ++ [x]).length (intCells (G ++ [x])) by rw [List.length_append]; exact ho4)
        have HO5 := hideG ((HRB.out.alloc (.cells #[.int .i64 x] 3)).kept hg4 (Apart.hne HAP.out))
        have HAP4 := hideG (show Apart (.slice sa S.length sc) (.slice a4 (G ++ [x]).length c4) from fun j e1 e2 => by
          rcases hf4 j (by simpa [Value.ownBlock] using e2) with e3 | e3
          · exact HAP.out j e1 e3
          · have := (HRB.out.lt j e1).2; have e4 := hg4.size; (try simp only [World.size_alloc] at e3); omega)
        clear ho4 hg4 hf4
        go_wp2_with fail
        go_roundw
        case rel => exact ⟨k + 1, S, G ++ [x], sa, a4, sc, c4, by omega, by go_num, rfl, by simp, by rw [HTS.out, List.filter_append, ← HSE.out]; simp [HP.out], by rw [HTS.out, List.filter_append, ← HGE.out]; simp [notB, HP.out], HO5.out, HO4.out, HAP4.out, HB4.out⟩
        case measure => simp [intOf]; omega
      · skip
        have HP := hideG hp
        clear hp
        go_wp2_with fail
        refine HCALL.out.mono ?_
        rintro ex w1 ⟨rfl, hb1⟩
        rw [HP.out]
        have HB1 := hideG ((HB.out).trans (hb1.mono (HB.out).size))
        have HRA := hideG (ownsRow_below HOS.out hb1 (fun j e => (HOS.out.lt j e).2))
        have HRB := hideG (ownsRow_below HOG.out hb1 (fun j e => (HOG.out.lt j e).2))
        have hqq : w.heap.size ≤ w1.heap.size := HB1.out.size
        clear c0 hb1
        go_wp2_with (at_builtin; refine wpList_append_any rfl (.tmp 17) (.tmp 19) 24 rfl w.heap.size 3 i3 _ 1 8 Tryz.underlying24 hi3 hz30 hz31 hz32 rfl (by decide) _ S.length (intCells S) rfl (HRA.out.alloc _) _ 1 [.int .i64 x] rfl (row_new1 _ _) rfl ?h2 ?h3 ?h4 ?h5 ?_)
        case h2 => intro y hy; simp at hy; subst hy; rfl
        case h3 => simp only [maxLen]; omega
        case h4 => omega
        case h5 => simp; omega
        intro v4 w4 ho4 hg4 hf4
        obtain ⟨a4, c4, rfl⟩ := ownsRow_shape ho4
        rw [intCells_snoc] at ho4
        have HB4 := hideG ((HB1.out.alloc HB1.out.size (.cells #[.int .i64 x] 3)).grown hg4 (by simp; omega) (fun j e => (HRA.out.lt j e).1))
        have HO4 := hideG (show w4.ownsRow w.heap.size 3 1 (.slice a4 (S ++ [x]).length c4) (S ++ [x]).length (intCells (S ++ [x])) by rw [List.length_append]; exact ho4)
        have HO5 := hideG ((HRB.out.alloc (.cells #[.int .i64 x] 3)).kept hg4 (Apart.hne HAP.out.symm))
        have HAP4 := hideG (show Apart (.slice a4 (S ++ [x]).length c4) (.slice ga G.length gc) from fun j e2 e1 => by
          rcases hf4 j (by simpa [Value.ownBlock] using e2) with e3 | e3
          · exact HAP.out j e3 e1
          · have := (HRB.out.lt j e1).2; have e4 := hg4.size; (try simp only [World.size_alloc] at e3); omega)
        clear ho4 hg4 hf4
        go_wp2_with fail
        go_roundw
        case rel => exact ⟨k + 1, S ++ [x], G, a4, ga, c4, gc, by omega, by go_num, by simp, rfl, by rw [HTS.out, List.filter_append, ← HSE.out]; simp [HP.out], by rw [HTS.out, List.filter_append, ← HGE.out]; simp [notB, HP.out], HO4.out, HO5.out, HAP4.out, HB4.out⟩
        case measure => simp [intOf]; omega
    · have hke : k = l.length := by omega
      subst hke
      have hS' : S = l.filter p := by rw [HSE.out, List.take_length]
      have hG' : G = l.filter (notB p) := by rw [HGE.out, List.take_length]
      clear HSE HGE
      subst hS' hG'
      go_wp2_with fail
      go_ret2
      exact ⟨sa, sc, ga, gc, rfl, HOS.out, HOG.out, HAP.out, HB.out⟩

set_option maxRecDepth 100000 in
set_option maxHeartbeats 4000000 in
theorem part87 (p : Sh → Bool) (bv : Value) (l : List Sh) (v : Value) (w : World) (HD : Hid (∀ (x : Sh) U, Below w.heap.size w U → Calls Tryz.prog 87 #[.agg #[.int .i64 x.node, .int .i64 x.inv], bv] U (fun e w' => e = .returned (.bool (p x)) ∧ Below U.heap.size U w'))) (hL : ShsAt w v l) (hl : l.length ≤ 1000000) :
    Calls Tryz.prog 67 #[v, .func (.func 87) #[] #[bv]] w fun e w' => ∃ a1 c1 a2 c2, e = .returned (.tuple #[.slice a1 (l.filter p).length c1, .slice a2 (l.filter (notB p)).length c2]) ∧
      w'.ownsRow w.heap.size 39 2 (.slice a1 (l.filter p).length c1) (l.filter p).length (shCells (l.filter p)) ∧ w'.ownsRow w.heap.size 39 2 (.slice a2 (l.filter (notB p)).length c2) (l.filter (notB p)).length (shCells (l.filter (notB p))) ∧
      Apart (.slice a1 (l.filter p).length c1) (.slice a2 (l.filter (notB p)).length c2) ∧ Below w.heap.size w w' := by
  obtain ⟨i3, hi3, hz30, hz31, hz32⟩ := info_parts infoT39
  obtain ⟨a, cap, rfl, hcp, hc⟩ := hL
  have HC := hideG hc
  clear hc hcp
  go_enter Tryz.func67, Tryz.ntmps67
  go_wp2_with fail
  go_loopw [4, 5, 10] (fun s g i wr => ∃ (k : Nat) (S G : List Sh) (sa ga : Option Addr) (sc gc : Nat), k ≤ l.length ∧ i = .int .i64 (k : Int) ∧ s = .slice sa S.length sc ∧ g = .slice ga G.length gc ∧ S = (l.take k).filter p ∧ G = (l.take k).filter (notB p) ∧
      wr.ownsRow w.heap.size 39 2 (.slice sa S.length sc) S.length (shCells S) ∧ wr.ownsRow w.heap.size 39 2 (.slice ga G.length gc) G.length (shCells G) ∧ Apart (.slice sa S.length sc) (.slice ga G.length gc) ∧ Below w.heap.size w wr) (fun _ _ i _ => l.length - (intOf i).toNat)
  case atStart => exact ⟨0, [], [], none, none, 0, 0, Nat.zero_le _, rfl, rfl, rfl, rfl, rfl, World.ownsRow_nil _ _ _ _, World.ownsRow_nil _ _ _ _, fun k h => by simp [Value.ownBlock] at h, Below.refl _ _⟩
  case round =>
    obtain ⟨k, S, G, sa, ga, sc, gc, hk, rfl, rfl, rfl, hSe, hGe, hoS, hoG, hap, hB⟩ := hrel
    have HOS := hideG hoS
    have HOG := hideG hoG
    have HAP := hideG hap
    have HB := hideG hB
    have HSE := hideG hSe
    have HGE := hideG hGe
    have hSl : S.length ≤ 1000000 := by
      have h1 := List.length_filter_le p (l.take k)
      rw [← hSe, List.length_take] at h1
      omega
    have hGl : G.length ≤ 1000000 := by
      have h1 := List.length_filter_le (notB p) (l.take k)
      rw [← hGe, List.length_take] at h1
      omega
    clear hoS hoG hap hB hSe hGe
    by_cases hlt : k < l.length
    · obtain ⟨b, off, rfl, hd⟩ := HC.out (by omega)
      have hk0 : (0 : Int) ≤ (k : Int) := by omega
      have HTS0 := hideG (show l.take (k + 1) = l.take k ++ [l.getD k shD] by
        rw [List.take_succ_eq_append_getElem hlt, List.getD_eq_getElem?_getD, List.getElem?_eq_getElem hlt]; rfl)
      have hH := (hd k hlt).below HB.out
      generalize hx : l.getD k shD = x at *
      have c0 := hH.node
      have c1 := hH.inv
      have hbl : b < wr.heap.size := below_of_cell c0
      clear hH
      have HTS := HTS0
      have HCALL := hideG (HD.out x (wr.alloc (.cells #[.int .i64 x.node, .int .i64 x.inv] 39)) (HB.out.alloc HB.out.size (.cells #[.int .i64 x.node, .int .i64 x.inv] 39)))
      clear hd hx HTS0
      cases hp : p x
      · skip
        have HP := hideG hp
        clear hp
        go_wp2_with fail
        refine HCALL.out.mono ?_
        rintro ex w1 ⟨rfl, hb1⟩
        rw [HP.out]
        have HB1 := hideG ((HB.out.alloc HB.out.size (.cells #[.int .i64 x.node, .int .i64 x.inv] 39)).trans (hb1.mono (HB.out.alloc HB.out.size (.cells #[.int .i64 x.node, .int .i64 x.inv] 39)).size))
        have HRA := hideG (ownsRow_below (HOG.out.alloc (.cells #[.int .i64 x.node, .int .i64 x.inv] 39)) hb1 (fun j e => ((HOG.out.alloc (.cells #[.int .i64 x.node, .int .i64 x.inv] 39)).lt j e).2))
        have HRB := hideG (ownsRow_below (HOS.out.alloc (.cells #[.int .i64 x.node, .int .i64 x.inv] 39)) hb1 (fun j e => ((HOS.out.alloc (.cells #[.int .i64 x.node, .int .i64 x.inv] 39)).lt j e).2))
        have d0 : w1.cell? ⟨wr.heap.size, 0, none⟩ = some (.int .i64 x.node) := cell_below hb1 (by simp)
        have d1 : w1.cell? ⟨wr.heap.size, 1, none⟩ = some (.int .i64 x.inv) := cell_below hb1 (by simp)
        clear c1
        have hqq : w.heap.size ≤ w1.heap.size := HB1.out.size
        clear c0 hb1
        go_wp2_with (at_builtin; refine wpList_append_any rfl (.tmp 21) (.tmp 23) 25 rfl w.heap.size 39 i3 _ 2 16 Tryz.underlying25 hi3 hz30 hz31 hz32 rfl (by decide) _ G.length (shCells G) rfl (HRA.out.alloc _) _ 1 [.int .i64 x.node, .int .i64 x.inv] rfl (row_newS _ _) rfl ?h2 ?h3 ?h4 ?h5 ?_)
        case h2 => intro y hy; simp at hy; rcases hy with rfl | rfl <;> rfl
        case h3 => simp only [maxLen]; omega
        case h4 => omega
        case h5 => simp; omega
        intro v4 w4 ho4 hg4 hf4
        obtain ⟨a4, c4, rfl⟩ := ownsRow_shape ho4
        rw [shCells_snoc] at ho4
        have HB4 := hideG ((HB1.out.alloc HB1.out.size (.cells #[.int .i64 x.node, .int .i64 x.inv] 39)).grown hg4 (by simp; omega) (fun j e => (HRA.out.lt j e).1))
        have HO4 := hideG (show w4.ownsRow w.heap.size 39 2 (.slice a4 (G ++ [x]).length c4) (G ++ [x]).length (shCells (G ++ [x])) by rw [List.length_append]; exact ho4)
        have HO5 := hideG ((HRB.out.alloc (.cells #[.int .i64 x.node, .int .i64 x.inv] 39)).kept hg4 (Apart.hne HAP.out))
        have HAP4 := hideG (show Apart (.slice sa S.length sc) (.slice a4 (G ++ [x]).length c4) from fun j e1 e2 => by
          rcases hf4 j (by simpa [Value.ownBlock] using e2) with e3 | e3
          · exact HAP.out j e1 e3
          · have := (HRB.out.lt j e1).2; have e4 := hg4.size; (try simp only [World.size_alloc] at e3); omega)
        clear ho4 hg4 hf4 d0 d1
        go_wp2_with fail
        go_roundw
        case rel => exact ⟨k + 1, S, G ++ [x], sa, a4, sc, c4, by omega, by go_num, rfl, by simp, by rw [HTS.out, List.filter_append, ← HSE.out]; simp [HP.out], by rw [HTS.out, List.filter_append, ← HGE.out]; simp [notB, HP.out], HO5.out, HO4.out, HAP4.out, HB4.out⟩
        case measure => simp [intOf]; omega
      · skip
        have HP := hideG hp
        clear hp
        go_wp2_with fail
        refine HCALL.out.mono ?_
        rintro ex w1 ⟨rfl, hb1⟩
        rw [HP.out]
        have HB1 := hideG ((HB.out.alloc HB.out.size (.cells #[.int .i64 x.node, .int .i64 x.inv] 39)).trans (hb1.mono (HB.out.alloc HB.out.size (.cells #[.int .i64 x.node, .int .i64 x.inv] 39)).size))
        have HRA := hideG (ownsRow_below (HOS.out.alloc (.cells #[.int .i64 x.node, .int .i64 x.inv] 39)) hb1 (fun j e => ((HOS.out.alloc (.cells #[.int .i64 x.node, .int .i64 x.inv] 39)).lt j e).2))
        have HRB := hideG (ownsRow_below (HOG.out.alloc (.cells #[.int .i64 x.node, .int .i64 x.inv] 39)) hb1 (fun j e => ((HOG.out.alloc (.cells #[.int .i64 x.node, .int .i64 x.inv] 39)).lt j e).2))
        have d0 : w1.cell? ⟨wr.heap.size, 0, none⟩ = some (.int .i64 x.node) := cell_below hb1 (by simp)
        have d1 : w1.cell? ⟨wr.heap.size, 1, none⟩ = some (.int .i64 x.inv) := cell_below hb1 (by simp)
        clear c1
        have hqq : w.heap.size ≤ w1.heap.size := HB1.out.size
        clear c0 hb1
        go_wp2_with (at_builtin; refine wpList_append_any rfl (.tmp 17) (.tmp 19) 25 rfl w.heap.size 39 i3 _ 2 16 Tryz.underlying25 hi3 hz30 hz31 hz32 rfl (by decide) _ S.length (shCells S) rfl (HRA.out.alloc _) _ 1 [.int .i64 x.node, .int .i64 x.inv] rfl (row_newS _ _) rfl ?h2 ?h3 ?h4 ?h5 ?_)
        case h2 => intro y hy; simp at hy; rcases hy with rfl | rfl <;> rfl
        case h3 => simp only [maxLen]; omega
        case h4 => omega
        case h5 => simp; omega
        intro v4 w4 ho4 hg4 hf4
        obtain ⟨a4, c4, rfl⟩ := ownsRow_shape ho4
        rw [shCells_snoc] at ho4
        have HB4 := hideG ((HB1.out.alloc HB1.out.size (.cells #[.int .i64 x.node, .int .i64 x.inv] 39)).grown hg4 (by simp; omega) (fun j e => (HRA.out.lt j e).1))
        have HO4 := hideG (show w4.ownsRow w.heap.size 39 2 (.slice a4 (S ++ [x]).length c4) (S ++ [x]).length (shCells (S ++ [x])) by rw [List.length_append]; exact ho4)
        have HO5 := hideG ((HRB.out.alloc (.cells #[.int .i64 x.node, .int .i64 x.inv] 39)).kept hg4 (Apart.hne HAP.out.symm))
        have HAP4 := hideG (show Apart (.slice a4 (S ++ [x]).length c4) (.slice ga G.length gc) from fun j e2 e1 => by
          rcases hf4 j (by simpa [Value.ownBlock] using e2) with e3 | e3
          · exact HAP.out j e3 e1
          · have := (HRB.out.lt j e1).2; have e4 := hg4.size; (try simp only [World.size_alloc] at e3); omega)
        clear ho4 hg4 hf4 d0 d1
        go_wp2_with fail
        go_roundw
        case rel => exact ⟨k + 1, S ++ [x], G, a4, ga, c4, gc, by omega, by go_num, by simp, rfl, by rw [HTS.out, List.filter_append, ← HSE.out]; simp [HP.out], by rw [HTS.out, List.filter_append, ← HGE.out]; simp [notB, HP.out], HO4.out, HO5.out, HAP4.out, HB4.out⟩
        case measure => simp [intOf]; omega
    · have hke : k = l.length := by omega
      subst hke
      have hS' : S = l.filter p := by rw [HSE.out, List.take_length]
      have hG' : G = l.filter (notB p) := by rw [HGE.out, List.take_length]
      clear HSE HGE
      subst hS' hG'
      go_wp2_with fail
      go_ret2
      exact ⟨sa, sc, ga, gc, rfl, HOS.out, HOG.out, HAP.out, HB.out⟩
end Go.Proofs.YtclhimodopgeoaaGreat

namespace Go.Proofs.YtclhimodopgeoaaGreat
open Go.RowKit

set_option maxHeartbeats 1000000 in
theorem close1_any (n x : Int) (b : Nat) (w : World) (hc : w.cell? ⟨b, 0, none⟩ = some (.int .i64 n)) :
    Calls Tryz.prog 86 #[.int .i64 x, .pointer (some ⟨b, 0, none⟩)] w fun e w' => e = .returned (.bool (x != n)) ∧ Below w.heap.size w w' := by
  go_enter Tryz.func86, Tryz.ntmps86
  go_wp2_with fail
  go_ret
  exact ⟨rfl, Below.refl _ _⟩
set_option maxHeartbeats 1000000 in
theorem close2_any (n : Int) (x : Sh) (b c : Nat) (w : World) (hf : w.cell? ⟨c, 0, none⟩ = some (.func (.func 86) #[] #[.pointer (some ⟨b, 0, none⟩)])) (hc : w.cell? ⟨b, 0, none⟩ = some (.int .i64 n)) :
    Calls Tryz.prog 87 #[.agg #[.int .i64 x.node, .int .i64 x.inv], .pointer (some ⟨c, 0, none⟩)] w fun e w' => e = .returned (.bool (x.node != n)) ∧ Below w.heap.size w w' := by
  have hbc : c < w.heap.size := below_of_cell hf
  have hA : Below w.heap.size w (w.alloc (.cells #[.int .i64 x.node, .int .i64 x.inv] 39)) := (Below.refl _ w).alloc (Nat.le_refl _) _
  have HC := hideG (close1_any n x.node b _ (cell_below hA hc))
  have HA := hideG hA
  clear hc hA
  go_enter Tryz.func87, Tryz.ntmps87
  go_wp2_with fail
  refine HC.out.mono ?_
  rintro e w1 ⟨rfl, hb1⟩
  have HB1 := hideG hb1
  clear hb1 hf
  go_wp2_with fail
  go_ret
  exact ⟨rfl, HA.out.trans (HB1.out.mono HA.out.size)⟩
def closeL (V : Vw) (n : Int) : Vw := { tree := V.tree, op := V.op.filter (fun x => x != n), modal := V.modal.filter (fun x => x != n), pops := V.pops.filter (fun x => x.node != n), top := V.top.filter (fun x => x != n) }

set_option maxRecDepth 100000 in
set_option maxHeartbeats 4000000 in
theorem closeBad (tv ov mv pv qv : Value) (V : Vw) (w : World) (hV : ViewAt w tv ov mv pv qv V) (hS : Sane V.tree) (hl : smallL V) (n : Int) (hne : checkV V ≠ 0) :
    Calls Tryz.prog 33 #[.agg #[tv, ov, mv, pv, qv], .int .i64 n] w fun x w' => ∃ t o m p q, x = .returned (.tuple #[.agg #[t, o, m, p, q], .int .i64 (checkV V)]) ∧ ViewAt w' t o m p q emptyV ∧ Below w.heap.size w w' := by
  obtain ⟨hT, hO, hM, hP, hQ⟩ := hV
  obtain ⟨ta, tc, rfl⟩ := hT.shape
  obtain ⟨oa, oc, rfl⟩ := hO.shape
  obtain ⟨ma, mc, rfl⟩ := hM.shape
  obtain ⟨pa, pc, rfl⟩ := hP.shape
  obtain ⟨qa, qc, rfl⟩ := hQ.shape
  obtain ⟨W0, hW0⟩ : ∃ W0, ((w.alloc (.cells #[.slice ta V.tree.length tc, .slice oa V.op.length oc, .slice ma V.modal.length mc, .slice pa V.pops.length pc, .slice qa V.top.length qc] 27)).alloc (.cells #[.int .i64 n] 3)).alloc (.cells #[.slice none 0 0, .slice none 0 0, .slice none 0 0, .slice none 0 0, .slice none 0 0] 27) = W0 := ⟨_, rfl⟩
  have hbw : Below w.heap.size w W0 := by rw [← hW0]; exact (((Below.refl _ w).alloc (Nat.le_refl _) _).alloc (by simp) _).alloc (by simp; omega) _
  have HB0 := hideG hbw
  have P0 := hideG (show W0.cell? ⟨w.heap.size, 0, none⟩ = some (.slice ta V.tree.length tc) by rw [← hW0]; exact cell_alloc_l _ (cell_alloc_l _ (by simp)))
  have P1 := hideG (show W0.cell? ⟨w.heap.size, 1, none⟩ = some (.slice oa V.op.length oc) by rw [← hW0]; exact cell_alloc_l _ (cell_alloc_l _ (by simp)))
  have P2 := hideG (show W0.cell? ⟨w.heap.size, 2, none⟩ = some (.slice ma V.modal.length mc) by rw [← hW0]; exact cell_alloc_l _ (cell_alloc_l _ (by simp)))
  have P3 := hideG (show W0.cell? ⟨w.heap.size, 3, none⟩ = some (.slice pa V.pops.length pc) by rw [← hW0]; exact cell_alloc_l _ (cell_alloc_l _ (by simp)))
  have P4 := hideG (show W0.cell? ⟨w.heap.size, 4, none⟩ = some (.slice qa V.top.length qc) by rw [← hW0]; exact cell_alloc_l _ (cell_alloc_l _ (by simp)))
  obtain ⟨Wx, hWx⟩ : ∃ Wx, (w.alloc (.cells #[.slice ta V.tree.length tc, .slice oa V.op.length oc, .slice ma V.modal.length mc, .slice pa V.pops.length pc, .slice qa V.top.length qc] 27)).alloc (.cells #[.int .i64 n] 3) = Wx := ⟨_, rfl⟩
  have hx1 := World.alloc_heap_new (w.alloc (.cells #[.slice ta V.tree.length tc, .slice oa V.op.length oc, .slice ma V.modal.length mc, .slice pa V.pops.length pc, .slice qa V.top.length qc] 27)) (.cells #[.int .i64 n] 3)
  rw [World.size_alloc, hWx] at hx1
  have S0 := hideG (show W0.cell? ⟨w.heap.size + 1, 0, none⟩ = some (.int .i64 n) by rw [← hW0, hWx]; exact cell_alloc_l _ (by simp [World.cell?, hx1]))
  clear hx1 hWx
  have HR := hideG (show ∀ j, j < 5 → ∃ u, W0.cell? ⟨w.heap.size + 2, j, none⟩ = some u ∧ W0.frozen? ⟨w.heap.size + 2, j, none⟩ = false from by
    have h1 := World.alloc_heap_new ((w.alloc (.cells #[.slice ta V.tree.length tc, .slice oa V.op.length oc, .slice ma V.modal.length mc, .slice pa V.pops.length pc, .slice qa V.top.length qc] 27)).alloc (.cells #[.int .i64 n] 3)) (.cells #[.slice none 0 0, .slice none 0 0, .slice none 0 0, .slice none 0 0, .slice none 0 0] 27)
    rw [World.size_alloc, World.size_alloc, hW0] at h1
    intro j hj
    obtain rfl | rfl | rfl | rfl | rfl : j = 0 ∨ j = 1 ∨ j = 2 ∨ j = 3 ∨ j = 4 := by omega
    all_goals exact ⟨.slice none 0 0, by simp [World.cell?, h1], by simp [World.frozen?, h1]⟩)
  have hs0 : W0.heap.size = w.heap.size + 3 := by rw [← hW0]; simp
  have HS0 := hideG hs0
  have HV := hideG (show ViewAt w _ _ _ _ _ V from ⟨hT, hO, hM, hP, hQ⟩)
  have HV0 := hideG (HV.out.below hbw)
  have HW0 := hideG hW0
  have HS := hideG hS
  have HL := hideG hl
  have HC := hideG (checkV_any _ _ _ _ _ V W0 HV0.out HS.out HL.out)
  have h1l : V.op.length ≤ 500 := hl.1
  have h2l : V.modal.length ≤ 500 := hl.2.1
  have h3l : V.pops.length ≤ 500 := hl.2.2.1
  have h4l : V.top.length ≤ 1000 := hl.2.2.2
  have p0 := P0.out
  have p1 := P1.out
  have p2 := P2.out
  have p3 := P3.out
  have p4 := P4.out
  clear hW0 hT hO hM hP hQ hS hl hbw hs0
  have hcd := check_bad hne
  generalize checkV V = c at *
  clear hne
  go_enter Tryz.func33, Tryz.ntmps33
  go_wp2_with fail
  rw [HW0.out]
  refine HC.out.mono ?_
  rintro ex w1 ⟨rfl, hb1⟩
  have HX1 := hideG hb1
  clear hb1 p0 p1 p2 p3 p4
  have p0 := cell_below HX1.out P0.out
  have p1 := cell_below HX1.out P1.out
  have p2 := cell_below HX1.out P2.out
  have p3 := cell_below HX1.out P3.out
  have p4 := cell_below HX1.out P4.out
  have hwb : w.heap.size < w1.heap.size := below_of_cell p0
  have HRk := hideG (show ∀ j, j < 5 → ∃ u, w1.cell? ⟨w.heap.size + 2, j, none⟩ = some u ∧ w1.frozen? ⟨w.heap.size + 2, j, none⟩ = false from fun j hj => let ⟨u, h1, h2⟩ := HR.out j hj; ⟨u, cell_below HX1.out h1, frozen_below HX1.out h1 h2⟩)
  obtain ⟨u0, rc0, rf0⟩ := HRk.out 0 (by decide)
  obtain ⟨u1, rc1, rf1⟩ := HRk.out 1 (by decide)
  obtain ⟨u2, rc2, rf2⟩ := HRk.out 2 (by decide)
  obtain ⟨u3, rc3, rf3⟩ := HRk.out 3 (by decide)
  obtain ⟨u4, rc4, rf4⟩ := HRk.out 4 (by decide)
  have x0 := cell_below HX1.out S0.out
  have HB := hideG (HB0.out.trans (HX1.out.mono HB0.out.size))
  rcases hcd with rfl | rfl
  · go_wp2_with fail
    have hat := set5_at (U := w1) (R := w.heap.size + 2) (v0 := .slice none 0 0) (v1 := .slice none 0 0) (v2 := .slice none 0 0) (v3 := .slice none 0 0) (v4 := .slice none 0 0) HRk.out
    unfold set5 at hat
    obtain ⟨t0, t1, t2, t3, t4⟩ := hat
    refine bodyPost_ret (v := .tuple #[.agg #[.slice none 0 0, .slice none 0 0, .slice none 0 0, .slice none 0 0, .slice none 0 0], .int .i64 (1)]) (by simp [results, Tryz.f33, go_sem, t0, t1, t2, t3, t4]) rfl ?_
    refine ⟨_, _, _, _, _, rfl, ?_, set5_below HB.out (by omega)⟩
    exact emptyV_at _
  · go_wp2_with fail
    have hat := set5_at (U := w1) (R := w.heap.size + 2) (v0 := .slice none 0 0) (v1 := .slice none 0 0) (v2 := .slice none 0 0) (v3 := .slice none 0 0) (v4 := .slice none 0 0) HRk.out
    unfold set5 at hat
    obtain ⟨t0, t1, t2, t3, t4⟩ := hat
    refine bodyPost_ret (v := .tuple #[.agg #[.slice none 0 0, .slice none 0 0, .slice none 0 0, .slice none 0 0, .slice none 0 0], .int .i64 (9)]) (by simp [results, Tryz.f33, go_sem, t0, t1, t2, t3, t4]) rfl ?_
    refine ⟨_, _, _, _, _, rfl, ?_, set5_below HB.out (by omega)⟩
    exact emptyV_at _

set_option maxRecDepth 100000 in
set_option maxHeartbeats 4000000 in
theorem closeNode (tv ov mv pv qv : Value) (V : Vw) (w : World) (hV : ViewAt w tv ov mv pv qv V) (hS : Sane V.tree) (hl : smallL V) (n : Int) (hck : checkV V = 0) (hn : isNodeB V.tree.length n = false) :
    Calls Tryz.prog 33 #[.agg #[tv, ov, mv, pv, qv], .int .i64 n] w fun x w' => ∃ t o m p q, x = .returned (.tuple #[.agg #[t, o, m, p, q], .int .i64 (2)]) ∧ ViewAt w' t o m p q V ∧ Below w.heap.size w w' := by
  obtain ⟨hT, hO, hM, hP, hQ⟩ := hV
  obtain ⟨ta, tc, rfl⟩ := hT.shape
  obtain ⟨oa, oc, rfl⟩ := hO.shape
  obtain ⟨ma, mc, rfl⟩ := hM.shape
  obtain ⟨pa, pc, rfl⟩ := hP.shape
  obtain ⟨qa, qc, rfl⟩ := hQ.shape
  obtain ⟨W0, hW0⟩ : ∃ W0, ((w.alloc (.cells #[.slice ta V.tree.length tc, .slice oa V.op.length oc, .slice ma V.modal.length mc, .slice pa V.pops.length pc, .slice qa V.top.length qc] 27)).alloc (.cells #[.int .i64 n] 3)).alloc (.cells #[.slice none 0 0, .slice none 0 0, .slice none 0 0, .slice none 0 0, .slice none 0 0] 27) = W0 := ⟨_, rfl⟩
  have hbw : Below w.heap.size w W0 := by rw [← hW0]; exact (((Below.refl _ w).alloc (Nat.le_refl _) _).alloc (by simp) _).alloc (by simp; omega) _
  have HB0 := hideG hbw
  have P0 := hideG (show W0.cell? ⟨w.heap.size, 0, none⟩ = some (.slice ta V.tree.length tc) by rw [← hW0]; exact cell_alloc_l _ (cell_alloc_l _ (by simp)))
  have P1 := hideG (show W0.cell? ⟨w.heap.size, 1, none⟩ = some (.slice oa V.op.length oc) by rw [← hW0]; exact cell_alloc_l _ (cell_alloc_l _ (by simp)))
  have P2 := hideG (show W0.cell? ⟨w.heap.size, 2, none⟩ = some (.slice ma V.modal.length mc) by rw [← hW0]; exact cell_alloc_l _ (cell_alloc_l _ (by simp)))
  have P3 := hideG (show W0.cell? ⟨w.heap.size, 3, none⟩ = some (.slice pa V.pops.length pc) by rw [← hW0]; exact cell_alloc_l _ (cell_alloc_l _ (by simp)))
  have P4 := hideG (show W0.cell? ⟨w.heap.size, 4, none⟩ = some (.slice qa V.top.length qc) by rw [← hW0]; exact cell_alloc_l _ (cell_alloc_l _ (by simp)))
  obtain ⟨Wx, hWx⟩ : ∃ Wx, (w.alloc (.cells #[.slice ta V.tree.length tc, .slice oa V.op.length oc, .slice ma V.modal.length mc, .slice pa V.pops.length pc, .slice qa V.top.length qc] 27)).alloc (.cells #[.int .i64 n] 3) = Wx := ⟨_, rfl⟩
  have hx1 := World.alloc_heap_new (w.alloc (.cells #[.slice ta V.tree.length tc, .slice oa V.op.length oc, .slice ma V.modal.length mc, .slice pa V.pops.length pc, .slice qa V.top.length qc] 27)) (.cells #[.int .i64 n] 3)
  rw [World.size_alloc, hWx] at hx1
  have S0 := hideG (show W0.cell? ⟨w.heap.size + 1, 0, none⟩ = some (.int .i64 n) by rw [← hW0, hWx]; exact cell_alloc_l _ (by simp [World.cell?, hx1]))
  clear hx1 hWx
  have HR := hideG (show ∀ j, j < 5 → ∃ u, W0.cell? ⟨w.heap.size + 2, j, none⟩ = some u ∧ W0.frozen? ⟨w.heap.size + 2, j, none⟩ = false from by
    have h1 := World.alloc_heap_new ((w.alloc (.cells #[.slice ta V.tree.length tc, .slice oa V.op.length oc, .slice ma V.modal.length mc, .slice pa V.pops.length pc, .slice qa V.top.length qc] 27)).alloc (.cells #[.int .i64 n] 3)) (.cells #[.slice none 0 0, .slice none 0 0, .slice none 0 0, .slice none 0 0, .slice none 0 0] 27)
    rw [World.size_alloc, World.size_alloc, hW0] at h1
    intro j hj
    obtain rfl | rfl | rfl | rfl | rfl : j = 0 ∨ j = 1 ∨ j = 2 ∨ j = 3 ∨ j = 4 := by omega
    all_goals exact ⟨.slice none 0 0, by simp [World.cell?, h1], by simp [World.frozen?, h1]⟩)
  have hs0 : W0.heap.size = w.heap.size + 3 := by rw [← hW0]; simp
  have HS0 := hideG hs0
  have HV := hideG (show ViewAt w _ _ _ _ _ V from ⟨hT, hO, hM, hP, hQ⟩)
  have HV0 := hideG (HV.out.below hbw)
  have HW0 := hideG hW0
  have HS := hideG hS
  have HL := hideG hl
  have HC := hideG (checkV_any _ _ _ _ _ V W0 HV0.out HS.out HL.out)
  have h1l : V.op.length ≤ 500 := hl.1
  have h2l : V.modal.length ≤ 500 := hl.2.1
  have h3l : V.pops.length ≤ 500 := hl.2.2.1
  have h4l : V.top.length ≤ 1000 := hl.2.2.2
  have p0 := P0.out
  have p1 := P1.out
  have p2 := P2.out
  have p3 := P3.out
  have p4 := P4.out
  rw [hck] at HC
  clear hW0 hT hO hM hP hQ hS hl hbw hs0 hck
  have HN := hideG hn
  clear hn
  go_enter Tryz.func33, Tryz.ntmps33
  go_wp2_with fail
  rw [HW0.out]
  refine HC.out.mono ?_
  rintro ex w1 ⟨rfl, hb1⟩
  have HX1 := hideG hb1
  clear hb1 p0 p1 p2 p3 p4
  have p0 := cell_below HX1.out P0.out
  have p1 := cell_below HX1.out P1.out
  have p2 := cell_below HX1.out P2.out
  have p3 := cell_below HX1.out P3.out
  have p4 := cell_below HX1.out P4.out
  have hwb : w.heap.size < w1.heap.size := below_of_cell p0
  have HRk := hideG (show ∀ j, j < 5 → ∃ u, w1.cell? ⟨w.heap.size + 2, j, none⟩ = some u ∧ w1.frozen? ⟨w.heap.size + 2, j, none⟩ = false from fun j hj => let ⟨u, h1, h2⟩ := HR.out j hj; ⟨u, cell_below HX1.out h1, frozen_below HX1.out h1 h2⟩)
  obtain ⟨u0, rc0, rf0⟩ := HRk.out 0 (by decide)
  obtain ⟨u1, rc1, rf1⟩ := HRk.out 1 (by decide)
  obtain ⟨u2, rc2, rf2⟩ := HRk.out 2 (by decide)
  obtain ⟨u3, rc3, rf3⟩ := HRk.out 3 (by decide)
  obtain ⟨u4, rc4, rf4⟩ := HRk.out 4 (by decide)
  have x0 := cell_below HX1.out S0.out
  go_wp2_with (go_at_call 83; refine (isNode10_any _ _ _ _ _).mono ?_; rintro e wz ⟨rfl, hwz⟩; obtain rfl : _ = wz := hwz.symm; rw [HN.out])
  have HB := hideG (HB0.out.trans (HX1.out.mono HB0.out.size))
  have hat := set5_at (U := w1) (R := w.heap.size + 2) (v0 := .slice ta V.tree.length tc) (v1 := .slice oa V.op.length oc) (v2 := .slice ma V.modal.length mc) (v3 := .slice pa V.pops.length pc) (v4 := .slice qa V.top.length qc) HRk.out
  unfold set5 at hat
  obtain ⟨t0, t1, t2, t3, t4⟩ := hat
  refine bodyPost_ret (v := .tuple #[.agg #[.slice ta V.tree.length tc, .slice oa V.op.length oc, .slice ma V.modal.length mc, .slice pa V.pops.length pc, .slice qa V.top.length qc], .int .i64 (2)]) (by simp [results, Tryz.f33, go_sem, t0, t1, t2, t3, t4]) rfl ?_
  refine ⟨_, _, _, _, _, rfl, ?_, set5_below HB.out (by omega)⟩
  exact HV.out.below (set5_below HB.out (by omega))

set_option maxRecDepth 100000 in
set_option maxHeartbeats 4000000 in
theorem closeState (tv ov mv pv qv : Value) (V : Vw) (w : World) (hV : ViewAt w tv ov mv pv qv V) (hS : Sane V.tree) (hl : smallL V) (n : Int) (hck : checkV V = 0) (hn : isNodeB V.tree.length n = true) (ho : containsB (openedL V) n = false) :
    Calls Tryz.prog 33 #[.agg #[tv, ov, mv, pv, qv], .int .i64 n] w fun x w' => ∃ t o m p q, x = .returned (.tuple #[.agg #[t, o, m, p, q], .int .i64 (9)]) ∧ ViewAt w' t o m p q V ∧ Below w.heap.size w w' := by
  obtain ⟨hT, hO, hM, hP, hQ⟩ := hV
  obtain ⟨ta, tc, rfl⟩ := hT.shape
  obtain ⟨oa, oc, rfl⟩ := hO.shape
  obtain ⟨ma, mc, rfl⟩ := hM.shape
  obtain ⟨pa, pc, rfl⟩ := hP.shape
  obtain ⟨qa, qc, rfl⟩ := hQ.shape
  obtain ⟨W0, hW0⟩ : ∃ W0, ((w.alloc (.cells #[.slice ta V.tree.length tc, .slice oa V.op.length oc, .slice ma V.modal.length mc, .slice pa V.pops.length pc, .slice qa V.top.length qc] 27)).alloc (.cells #[.int .i64 n] 3)).alloc (.cells #[.slice none 0 0, .slice none 0 0, .slice none 0 0, .slice none 0 0, .slice none 0 0] 27) = W0 := ⟨_, rfl⟩
  have hbw : Below w.heap.size w W0 := by rw [← hW0]; exact (((Below.refl _ w).alloc (Nat.le_refl _) _).alloc (by simp) _).alloc (by simp; omega) _
  have HB0 := hideG hbw
  have P0 := hideG (show W0.cell? ⟨w.heap.size, 0, none⟩ = some (.slice ta V.tree.length tc) by rw [← hW0]; exact cell_alloc_l _ (cell_alloc_l _ (by simp)))
  have P1 := hideG (show W0.cell? ⟨w.heap.size, 1, none⟩ = some (.slice oa V.op.length oc) by rw [← hW0]; exact cell_alloc_l _ (cell_alloc_l _ (by simp)))
  have P2 := hideG (show W0.cell? ⟨w.heap.size, 2, none⟩ = some (.slice ma V.modal.length mc) by rw [← hW0]; exact cell_alloc_l _ (cell_alloc_l _ (by simp)))
  have P3 := hideG (show W0.cell? ⟨w.heap.size, 3, none⟩ = some (.slice pa V.pops.length pc) by rw [← hW0]; exact cell_alloc_l _ (cell_alloc_l _ (by simp)))
  have P4 := hideG (show W0.cell? ⟨w.heap.size, 4, none⟩ = some (.slice qa V.top.length qc) by rw [← hW0]; exact cell_alloc_l _ (cell_alloc_l _ (by simp)))
  obtain ⟨Wx, hWx⟩ : ∃ Wx, (w.alloc (.cells #[.slice ta V.tree.length tc, .slice oa V.op.length oc, .slice ma V.modal.length mc, .slice pa V.pops.length pc, .slice qa V.top.length qc] 27)).alloc (.cells #[.int .i64 n] 3) = Wx := ⟨_, rfl⟩
  have hx1 := World.alloc_heap_new (w.alloc (.cells #[.slice ta V.tree.length tc, .slice oa V.op.length oc, .slice ma V.modal.length mc, .slice pa V.pops.length pc, .slice qa V.top.length qc] 27)) (.cells #[.int .i64 n] 3)
  rw [World.size_alloc, hWx] at hx1
  have S0 := hideG (show W0.cell? ⟨w.heap.size + 1, 0, none⟩ = some (.int .i64 n) by rw [← hW0, hWx]; exact cell_alloc_l _ (by simp [World.cell?, hx1]))
  clear hx1 hWx
  have HR := hideG (show ∀ j, j < 5 → ∃ u, W0.cell? ⟨w.heap.size + 2, j, none⟩ = some u ∧ W0.frozen? ⟨w.heap.size + 2, j, none⟩ = false from by
    have h1 := World.alloc_heap_new ((w.alloc (.cells #[.slice ta V.tree.length tc, .slice oa V.op.length oc, .slice ma V.modal.length mc, .slice pa V.pops.length pc, .slice qa V.top.length qc] 27)).alloc (.cells #[.int .i64 n] 3)) (.cells #[.slice none 0 0, .slice none 0 0, .slice none 0 0, .slice none 0 0, .slice none 0 0] 27)
    rw [World.size_alloc, World.size_alloc, hW0] at h1
    intro j hj
    obtain rfl | rfl | rfl | rfl | rfl : j = 0 ∨ j = 1 ∨ j = 2 ∨ j = 3 ∨ j = 4 := by omega
    all_goals exact ⟨.slice none 0 0, by simp [World.cell?, h1], by simp [World.frozen?, h1]⟩)
  have hs0 : W0.heap.size = w.heap.size + 3 := by rw [← hW0]; simp
  have HS0 := hideG hs0
  have HV := hideG (show ViewAt w _ _ _ _ _ V from ⟨hT, hO, hM, hP, hQ⟩)
  have HV0 := hideG (HV.out.below hbw)
  have HW0 := hideG hW0
  have HS := hideG hS
  have HL := hideG hl
  have HC := hideG (checkV_any _ _ _ _ _ V W0 HV0.out HS.out HL.out)
  have h1l : V.op.length ≤ 500 := hl.1
  have h2l : V.modal.length ≤ 500 := hl.2.1
  have h3l : V.pops.length ≤ 500 := hl.2.2.1
  have h4l : V.top.length ≤ 1000 := hl.2.2.2
  have p0 := P0.out
  have p1 := P1.out
  have p2 := P2.out
  have p3 := P3.out
  have p4 := P4.out
  rw [hck] at HC
  clear hW0 hT hO hM hP hQ hS hl hbw hs0 hck
  have HN := hideG hn
  have HO := hideG ho
  clear hn ho
  go_enter Tryz.func33, Tryz.ntmps33
  go_wp2_with fail
  rw [HW0.out]
  refine HC.out.mono ?_
  rintro ex w1 ⟨rfl, hb1⟩
  have HX1 := hideG hb1
  clear hb1 p0 p1 p2 p3 p4
  have p0 := cell_below HX1.out P0.out
  have p1 := cell_below HX1.out P1.out
  have p2 := cell_below HX1.out P2.out
  have p3 := cell_below HX1.out P3.out
  have p4 := cell_below HX1.out P4.out
  have hwb : w.heap.size < w1.heap.size := below_of_cell p0
  have HRk := hideG (show ∀ j, j < 5 → ∃ u, w1.cell? ⟨w.heap.size + 2, j, none⟩ = some u ∧ w1.frozen? ⟨w.heap.size + 2, j, none⟩ = false from fun j hj => let ⟨u, h1, h2⟩ := HR.out j hj; ⟨u, cell_below HX1.out h1, frozen_below HX1.out h1 h2⟩)
  obtain ⟨u0, rc0, rf0⟩ := HRk.out 0 (by decide)
  obtain ⟨u1, rc1, rf1⟩ := HRk.out 1 (by decide)
  obtain ⟨u2, rc2, rf2⟩ := HRk.out 2 (by decide)
  obtain ⟨u3, rc3, rf3⟩ := HRk.out 3 (by decide)
  obtain ⟨u4, rc4, rf4⟩ := HRk.out 4 (by decide)
  have x0 := cell_below HX1.out S0.out
  have hS0 := NumS.start p0 p1 p2 p3 p4 x0
  have HV1 := hideG (HV0.out.below HX1.out)
  have HOL := hideG (opened_len V)
  go_wp2_with (go_at_call 83; refine (isNode10_any _ _ _ _ _).mono ?_; rintro e wz ⟨rfl, hwz⟩; obtain rfl : _ = wz := hwz.symm; rw [HN.out])
  clear x0 p0 p1 p2 p3 p4 hwb rc0 rc1 rc2 rc3 rc4 rf0 rf1 rf2 rf3 rf4 HRk
  refine wp_region_inv (fun l a U => ∃ (f : Nat → Nat × Nat) (s23 s24 s25 s26 s27 s22 : Value), a = { tmps := #[.agg #[.slice ta V.tree.length tc, .slice oa V.op.length oc, .slice ma V.modal.length mc, .slice pa V.pops.length pc, .slice qa V.top.length qc], .int .i64 n, .pointer (some ⟨w.heap.size, 0, none⟩), .pointer (some ⟨w.heap.size + 1, 0, none⟩), .pointer (some ⟨w.heap.size + 2, 0, none⟩), .int .i64 0, .int .i64 0, undef, undef, .agg #[.slice ta V.tree.length tc, .slice oa V.op.length oc, .slice ma V.modal.length mc, .slice pa V.pops.length pc, .slice qa V.top.length qc], .int .i64 0, .int .i64 0, .bool false, undef, undef, .bool (!true), .pointer (some ⟨w.heap.size, 0, none⟩), .slice ta V.tree.length tc, .int .i64 n, .bool true, .bool (!true), undef, s22, s23, s24, s25, s26, s27, undef, undef, undef, undef, undef, undef, undef, undef, undef, undef, undef, undef, undef, undef, undef, undef, undef, undef, undef, undef, undef, undef, undef, undef, undef, undef, undef, undef, undef, undef, undef, undef, undef, undef, undef, undef, undef, undef, undef], defers := [] } ∧ NumS w1 (w.heap.size) (w.heap.size + 1) (.slice ta V.tree.length tc) (.slice oa V.op.length oc) (.slice ma V.modal.length mc) (.slice pa V.pops.length pc) (.slice qa V.top.length qc) n U ∧ IvL l f 6 w1.heap.size U.heap.size ∧ (l.getD 0 true = true → s23 = .agg #[.slice ta V.tree.length tc, .slice oa V.op.length oc, .slice ma V.modal.length mc, .slice pa V.pops.length pc, .slice qa V.top.length qc]) ∧ (l.getD 1 true = true → RowIn U (f 1) 3 1 s24 (openedL V).length (intCells (openedL V))) ∧ (l.getD 2 true = true → s25 = .int .i64 n) ∧ (l.getD 3 true = true → s26 = .bool false) ∧ (l.getD 4 true = true → s27 = .bool (!false)) ∧ (l.getD 5 true = true → s22 = .bool (!false))) (by kernel_rfl) (by kernel_rfl) ?_ ?_ ?_
  · exact ⟨fun _ => (0, 0), _, _, _, _, _, _, rfl, hS0, IvL.start 6 _ _ _, fun h => by simp at h, fun h => by simp at h, fun h => by simp at h, fun h => by simp at h, fun h => by simp at h, fun h => by simp at h⟩
  · rintro i l a U hi ⟨f, s23, s24, s25, s26, s27, s22, rfl, hS, hIv, h0, h1, h2, h3, h4, h5⟩
    obtain ⟨hun, o, ho, _⟩ := mem_ready.mp hi
    have hlt := (Array.getElem?_eq_some_iff.mp ho).1
    clear ho
    simp only [List.size_toArray, List.length_cons, List.length_nil, Nat.reduceAdd] at hlt
    obtain rfl | rfl | rfl | rfl | rfl | rfl : i = 0 ∨ i = 1 ∨ i = 2 ∨ i = 3 ∨ i = 4 ∨ i = 5 := by omega
    · have pc0 := hS.c0
      have pc1 := hS.c1
      have pc2 := hS.c2
      have pc3 := hS.c3
      have pc4 := hS.c4
      refine inv_step (by rfl) (fun K hK => ?_)
      go_simp
      exact hK.out _ _ ⟨upPart f 0 (U.heap.size, _), _, _, _, _, _, _, rfl, hS, hIv.step (i := 0) hun (by decide) (Nat.le_refl _), fun _ => rfl, fun h => h1 (set_getD (i := 0) (by decide) h), fun h => h2 (set_getD (i := 0) (by decide) h), fun h => h3 (set_getD (i := 0) (by decide) h), fun h => h4 (set_getD (i := 0) (by decide) h), fun h => h5 (set_getD (i := 0) (by decide) h)⟩
    · have e0 := h0 (dep_of hi (d := 0) (by kernel_rfl))
      subst e0
      refine inv_step (by rfl) (fun K hK => ?_)
      go_simp
      (go_at_call 84; refine Calls.mono (opened_any _ _ _ _ _ V U (HV1.out.below hS.bel) ⟨by omega, by omega, by omega⟩) ?_; rintro e w1' ⟨va, vc, rfl, hgot, hb⟩)
      go_wp2_with fail
      have hk : ∀ m, w1.heap.size ≤ m → m < U.heap.size → w1'.heap[m]? = U.heap[m]? := fun m _ h2 => hb.block m h2
      exact hK.out _ _ ⟨upPart f 1 (U.heap.size, _), _, _, _, _, _, _, rfl, hS.below hb, hIv.step (i := 1) hun (by decide) hb.size, fun _ => rfl, fun _ => rowIn_of hgot, fun h => h2 (set_getD (i := 1) (by decide) h), fun h => h3 (set_getD (i := 1) (by decide) h), fun h => h4 (set_getD (i := 1) (by decide) h), fun h => h5 (set_getD (i := 1) (by decide) h)⟩
    · have xc0 := hS.x0
      refine inv_step (by rfl) (fun K hK => ?_)
      go_simp
      exact hK.out _ _ ⟨upPart f 2 (U.heap.size, _), _, _, _, _, _, _, rfl, hS, hIv.step (i := 2) hun (by decide) (Nat.le_refl _), fun h => h0 (set_getD (i := 2) (by decide) h), fun h => h1 (set_getD (i := 2) (by decide) h), fun _ => rfl, fun h => h3 (set_getD (i := 2) (by decide) h), fun h => h4 (set_getD (i := 2) (by decide) h), fun h => h5 (set_getD (i := 2) (by decide) h)⟩
    · have e2 := h2 (dep_of hi (d := 2) (by kernel_rfl))
      subst e2
      have q1 := dep_of hi (d := 1) (by kernel_rfl)
      have r1 := h1 q1
      refine inv_step (by rfl) (fun K hK => ?_)
      go_simp
      (go_at_call 73; refine Calls.mono (contains_any (openedL V) _ n U (rowInts r1) (by have := HOL.out; omega)) ?_; rintro e w1' ⟨rfl, hwz⟩)
      obtain rfl : _ = w1' := hwz.symm
      have hb := Below.refl U.heap.size U
      rw [HO.out]
      go_wp2_with fail
      have hk : ∀ m, w1.heap.size ≤ m → m < U.heap.size → U.heap[m]? = U.heap[m]? := fun m _ h2 => hb.block m h2
      exact hK.out _ _ ⟨upPart f 3 (U.heap.size, _), _, _, _, _, _, _, rfl, hS.below hb, hIv.step (i := 3) hun (by decide) hb.size, fun h => h0 (set_getD (i := 3) (by decide) h), fun h => (h1 (set_getD (i := 3) (by decide) h)).keep (hIv.old (set_getD (i := 3) (by decide) h) (by decide) hk), fun _ => rfl, fun _ => rfl, fun h => h4 (set_getD (i := 3) (by decide) h), fun h => h5 (set_getD (i := 3) (by decide) h)⟩
    · have e3 := h3 (dep_of hi (d := 3) (by kernel_rfl))
      subst e3
      refine inv_step (by rfl) (fun K hK => ?_)
      go_simp
      exact hK.out _ _ ⟨upPart f 4 (U.heap.size, _), _, _, _, _, _, _, rfl, hS, hIv.step (i := 4) hun (by decide) (Nat.le_refl _), fun h => h0 (set_getD (i := 4) (by decide) h), fun h => h1 (set_getD (i := 4) (by decide) h), fun h => h2 (set_getD (i := 4) (by decide) h), fun _ => rfl, fun _ => rfl, fun h => h5 (set_getD (i := 4) (by decide) h)⟩
    · have e4 := h4 (dep_of hi (d := 4) (by kernel_rfl))
      subst e4
      refine inv_step (by rfl) (fun K hK => ?_)
      go_simp
      exact hK.out _ _ ⟨upPart f 5 (U.heap.size, _), _, _, _, _, _, _, rfl, hS, hIv.step (i := 5) hun (by decide) (Nat.le_refl _), fun h => h0 (set_getD (i := 5) (by decide) h), fun h => h1 (set_getD (i := 5) (by decide) h), fun h => h2 (set_getD (i := 5) (by decide) h), fun h => h3 (set_getD (i := 5) (by decide) h), fun _ => rfl, fun _ => rfl⟩
  · rintro l a w2 hall ⟨f, s23, s24, s25, s26, s27, s22, rfl, hS, hIv, h0, h1, h2, h3, h4, h5⟩
    have e0 := h0 (hall 0 (by decide))
    have e1 := h1 (hall 1 (by decide))
    have e2 := h2 (hall 2 (by decide))
    have e3 := h3 (hall 3 (by decide))
    have e4 := h4 (hall 4 (by decide))
    have e5 := h5 (hall 5 (by decide))
    have HIV := hideG (hIv.all hall)
    clear hIv hall h0 h1 h2 h3 h4 h5
    subst e0
    subst e2
    subst e3
    subst e4
    subst e5
    obtain ⟨oa', oc', rfl, _⟩ := e1.cap
    have HX2 := hideG (HX1.out.trans (hS.bel.mono HX1.out.size))
    clear hS
    have p0 := cell_below HX2.out P0.out
    have p1 := cell_below HX2.out P1.out
    have p2 := cell_below HX2.out P2.out
    have p3 := cell_below HX2.out P3.out
    have p4 := cell_below HX2.out P4.out
    have hwb : w.heap.size < w2.heap.size := below_of_cell p0
    have HRk := hideG (show ∀ j, j < 5 → ∃ u, w2.cell? ⟨w.heap.size + 2, j, none⟩ = some u ∧ w2.frozen? ⟨w.heap.size + 2, j, none⟩ = false from fun j hj => let ⟨u, h1, h2⟩ := HR.out j hj; ⟨u, cell_below HX2.out h1, frozen_below HX2.out h1 h2⟩)
    obtain ⟨u0, rc0, rf0⟩ := HRk.out 0 (by decide)
    obtain ⟨u1, rc1, rf1⟩ := HRk.out 1 (by decide)
    obtain ⟨u2, rc2, rf2⟩ := HRk.out 2 (by decide)
    obtain ⟨u3, rc3, rf3⟩ := HRk.out 3 (by decide)
    obtain ⟨u4, rc4, rf4⟩ := HRk.out 4 (by decide)
    have x0 := cell_below HX2.out S0.out
    go_wp2_with fail
    have HB := hideG (HB0.out.trans (HX2.out.mono HB0.out.size))
    have hat := set5_at (U := w2) (R := w.heap.size + 2) (v0 := .slice ta V.tree.length tc) (v1 := .slice oa V.op.length oc) (v2 := .slice ma V.modal.length mc) (v3 := .slice pa V.pops.length pc) (v4 := .slice qa V.top.length qc) HRk.out
    unfold set5 at hat
    obtain ⟨t0, t1, t2, t3, t4⟩ := hat
    refine bodyPost_ret (v := .tuple #[.agg #[.slice ta V.tree.length tc, .slice oa V.op.length oc, .slice ma V.modal.length mc, .slice pa V.pops.length pc, .slice qa V.top.length qc], .int .i64 (9)]) (by simp [results, Tryz.f33, go_sem, t0, t1, t2, t3, t4]) rfl ?_
    refine ⟨_, _, _, _, _, rfl, ?_, set5_below HB.out (by omega)⟩
    exact HV.out.below (set5_below HB.out (by omega))
end Go.Proofs.YtclhimodopgeoaaGreat

namespace Go.Proofs.YtclhimodopgeoaaGreat
open Go.RowKit

set_option maxRecDepth 100000 in
set_option maxHeartbeats 8000000 in
theorem concat3_any (l m r : List Int) (v u x : Value) (B : Nat) (w : World) (hL : IntsAt w v l) (hM : IntsAt w u m) (hN : IntsAt w x r) (c0 : w.cell? ⟨B, 0, none⟩ = some v) (c1 : w.cell? ⟨B, 1, none⟩ = some u) (c2 : w.cell? ⟨B, 2, none⟩ = some x) (hll : l.length ≤ 1500) (hml : m.length ≤ 1500) (hrl : r.length ≤ 1500) :
    Calls Tryz.prog 74 #[.slice (some ⟨B, 0, none⟩) 3 3] w fun e w' => ∃ a c, e = .returned (.slice a (l ++ m ++ r).length c) ∧ w'.ownsRow w.heap.size 3 1 (.slice a (l ++ m ++ r).length c) (l ++ m ++ r).length (intCells (l ++ m ++ r)) ∧ Below w.heap.size w w' := by
  obtain ⟨i3, hi3, hz30, hz31, hz32⟩ := info_parts infoT3
  have HL := hideG hL
  have HM := hideG hM
  have HN := hideG hN
  obtain ⟨la, lc, rfl⟩ := hL.shape
  obtain ⟨ma, mc, rfl⟩ := hM.shape
  obtain ⟨ra, rc, rfl⟩ := hN.shape
  have P0 := hideG c0
  have P1 := hideG c1
  have P2 := hideG c2
  have hg := growNil_any (l.length + m.length + r.length) w (by omega)
  rw [Int.natCast_add, Int.natCast_add] at hg
  have HG := hideG hg
  have hl0 : (0 : Int) ≤ (l.length : Int) := by omega
  have hm0 : (0 : Int) ≤ (m.length : Int) := by omega
  have hr0 : (0 : Int) ≤ (r.length : Int) := by omega
  clear hg hL hM hN
  go_enter Tryz.func74, Tryz.ntmps74
  go_wp2_with fail
  go_loop [3, 11] (fun s i => (i = .int .i64 0 ∧ s = .int .i64 (0)) ∨ (i = .int .i64 1 ∧ s = .int .i64 ((l.length : Int))) ∨ (i = .int .i64 2 ∧ s = .int .i64 ((l.length : Int) + (m.length : Int))) ∨ (i = .int .i64 3 ∧ s = .int .i64 ((l.length : Int) + (m.length : Int) + (r.length : Int)))) (fun _ i => (3 - intOf i).toNat)
  case atStart => exact .inl ⟨rfl, rfl⟩
  case round =>
    rcases hrel with ⟨rfl, rfl⟩ | ⟨rfl, rfl⟩ | ⟨rfl, rfl⟩ | ⟨rfl, rfl⟩
    · go_wp2_with fail
      go_round
      case rel => exact .inr (.inl ⟨rfl, by go_num⟩)
      case measure => simp [intOf]
    · go_wp2_with fail
      go_round
      case rel => exact .inr (.inr (.inl ⟨rfl, by go_num⟩))
      case measure => simp [intOf]
    · go_wp2_with fail
      go_round
      case rel => exact .inr (.inr (.inr (⟨rfl, by go_num⟩)))
      case measure => simp [intOf]
    · clear c0 c1 c2
      go_wp2_with fail
      refine HG.out.mono ?_
      rintro ex w1 ⟨a1, k1, rfl, ho1, hb1⟩
      have HO1 := hideG ho1
      have HB1 := hideG hb1
      clear ho1 hb1
      go_wp2_with fail
      go_loopw [6, 27] (fun o i wr => ∃ (a : Option Addr) (c : Nat) (done : List Int), o = .slice a done.length c ∧ wr.ownsRow w.heap.size 3 1 (.slice a done.length c) done.length (intCells done) ∧ Below w.heap.size w wr ∧ ((i = .int .i64 0 ∧ done = ([] : List Int)) ∨ (i = .int .i64 1 ∧ done = l) ∨ (i = .int .i64 2 ∧ done = (l ++ m)) ∨ (i = .int .i64 3 ∧ done = (l ++ m ++ r)))) (fun _ i _ => (3 - intOf i).toNat)
      case atStart => exact ⟨a1, k1, [], rfl, HO1.out, HB1.out, .inl ⟨rfl, rfl⟩⟩
      case round =>
        obtain ⟨a, c, done, rfl, ho, hB, hcase⟩ := hrel
        have HO := hideG ho
        have HB := hideG hB
        have p0 := cell_below HB.out P0.out
        have p1 := cell_below HB.out P1.out
        have p2 := cell_below HB.out P2.out
        clear ho hB
        rcases hcase with ⟨rfl, hdn⟩ | ⟨rfl, hdn⟩ | ⟨rfl, hdn⟩ | ⟨rfl, hdn⟩
        · have HDN := hideG hdn
          clear hdn
          have hdl : done.length ≤ 3000 := by rw [HDN.out]; first | omega | (simp; done) | (simp; omega)
          have hqq : w.heap.size ≤ wr.heap.size := HB.out.size
          go_wp2_with (at_builtin; refine wpList_append_any rfl (.tmp 31) (.tmp 32) 24 rfl w.heap.size 3 i3 _ 1 8 Tryz.underlying24 hi3 hz30 hz31 hz32 rfl (by decide) _ done.length (intCells done) rfl HO.out _ l.length (intCells l) rfl (ints_holds (HL.out.below HB.out)) (by simp [intCells]) (intCells_one _) ?h3 ?h4 ?h5 ?_)
          case h3 => first | (simp only [maxLen]; omega) | (simp only [maxLen]; simp; omega)
          case h4 => first | omega | (simp; omega)
          case h5 => exact HB.out.size
          intro v4 w4 ho4 hg4 hf4
          obtain ⟨a4, c4, rfl⟩ := ownsRow_shape ho4
          have HB4 := hideG (show Below w.heap.size w w4 from HB.out.grown hg4 HB.out.size (fun j e => (HO.out.lt j e).1))
          have e4 : intCells done ++ intCells l = intCells (done ++ l) := by simp [intCells]
          have el : done.length + l.length = (done ++ l).length := by simp
          rw [e4] at ho4
          try rw [el] at ho4
          have HO4 := hideG ho4
          have HEL := hideG el
          clear ho4 hg4 hf4 e4 el p0 p1 p2
          go_wp2_with fail
          go_roundw
          case rel => exact ⟨a4, c4, done ++ l, by first | rfl | rw [← HEL.out], HO4.out, HB4.out, .inr (.inl ⟨rfl, by rw [HDN.out] <;> first | rfl | simp⟩)⟩
          case measure => simp [intOf]
        · have HDN := hideG hdn
          clear hdn
          have hdl : done.length ≤ 3000 := by rw [HDN.out]; first | omega | (simp; done) | (simp; omega)
          have hqq : w.heap.size ≤ wr.heap.size := HB.out.size
          go_wp2_with (at_builtin; refine wpList_append_any rfl (.tmp 31) (.tmp 32) 24 rfl w.heap.size 3 i3 _ 1 8 Tryz.underlying24 hi3 hz30 hz31 hz32 rfl (by decide) _ done.length (intCells done) rfl HO.out _ m.length (intCells m) rfl (ints_holds (HM.out.below HB.out)) (by simp [intCells]) (intCells_one _) ?h3 ?h4 ?h5 ?_)
          case h3 => first | (simp only [maxLen]; omega) | (simp only [maxLen]; simp; omega)
          case h4 => first | omega | (simp; omega)
          case h5 => exact HB.out.size
          intro v4 w4 ho4 hg4 hf4
          obtain ⟨a4, c4, rfl⟩ := ownsRow_shape ho4
          have HB4 := hideG (show Below w.heap.size w w4 from HB.out.grown hg4 HB.out.size (fun j e => (HO.out.lt j e).1))
          have e4 : intCells done ++ intCells m = intCells (done ++ m) := by simp [intCells]
          have el : done.length + m.length = (done ++ m).length := by simp
          rw [e4] at ho4
          try rw [el] at ho4
          have HO4 := hideG ho4
          have HEL := hideG el
          clear ho4 hg4 hf4 e4 el p0 p1 p2
          go_wp2_with fail
          go_roundw
          case rel => exact ⟨a4, c4, done ++ m, by first | rfl | rw [← HEL.out], HO4.out, HB4.out, .inr (.inr (.inl ⟨rfl, by rw [HDN.out] <;> first | rfl | simp⟩))⟩
          case measure => simp [intOf]
        · have HDN := hideG hdn
          clear hdn
          have hdl : done.length ≤ 3000 := by rw [HDN.out]; first | omega | (simp; done) | (simp; omega)
          have hqq : w.heap.size ≤ wr.heap.size := HB.out.size
          go_wp2_with (at_builtin; refine wpList_append_any rfl (.tmp 31) (.tmp 32) 24 rfl w.heap.size 3 i3 _ 1 8 Tryz.underlying24 hi3 hz30 hz31 hz32 rfl (by decide) _ done.length (intCells done) rfl HO.out _ r.length (intCells r) rfl (ints_holds (HN.out.below HB.out)) (by simp [intCells]) (intCells_one _) ?h3 ?h4 ?h5 ?_)
          case h3 => first | (simp only [maxLen]; omega) | (simp only [maxLen]; simp; omega)
          case h4 => first | omega | (simp; omega)
          case h5 => exact HB.out.size
          intro v4 w4 ho4 hg4 hf4
          obtain ⟨a4, c4, rfl⟩ := ownsRow_shape ho4
          have HB4 := hideG (show Below w.heap.size w w4 from HB.out.grown hg4 HB.out.size (fun j e => (HO.out.lt j e).1))
          have e4 : intCells done ++ intCells r = intCells (done ++ r) := by simp [intCells]
          have el : done.length + r.length = (done ++ r).length := by simp
          rw [e4] at ho4
          try rw [el] at ho4
          have HO4 := hideG ho4
          have HEL := hideG el
          clear ho4 hg4 hf4 e4 el p0 p1 p2
          go_wp2_with fail
          go_roundw
          case rel => exact ⟨a4, c4, done ++ r, by first | rfl | rw [← HEL.out], HO4.out, HB4.out, .inr (.inr (.inr (⟨rfl, by rw [HDN.out] <;> first | rfl | simp⟩)))⟩
          case measure => simp [intOf]
        · have HDN := hideG hdn
          clear p0 p1 p2 hdn
          go_wp2_with fail
          go_ret
          rw [← HDN.out]
          exact ⟨a, c, rfl, HO.out, HB.out⟩
end Go.Proofs.YtclhimodopgeoaaGreat

namespace Go.Proofs.YtclhimodopgeoaaGreat
open Go.RowKit

theorem ex_imp {α : Sort _} {p : α → Prop} {q : Prop} (h : ∀ x, p x → q) : (∃ x, p x) → q := fun ⟨x, hx⟩ => h x hx
/-- Slots of a frame, that nobody asks any more, by name. -/
theorem wp_slots {P : Program} {c : Code} {Q : Exit → Act → World → Prop} {a : Act} {w : World} (F : (Nat → Value) → Act) (e : a = F (fun n => a.tmps.getD n undef)) (h : ∀ z, c.wp P Q (F z) w) : c.wp P Q a w := by
  rw [e]
  exact h _
theorem shs_nil {U : World} {a : Option Addr} {c : Nat} : ShsAt U (.slice a 0 c) [] := ⟨a, c, rfl, Nat.zero_le _, fun h => by simp at h⟩
theorem ints_nil {U : World} {a : Option Addr} {c : Nat} : IntsAt U (.slice a 0 c) [] := ⟨a, c, rfl, fun h => by simp at h⟩

def fixS (T : List Nd) (x : Sh) : Sh := if fitsB T x then x else ⟨x.node, -1⟩
def fixTo (T : List Nd) (S : List Sh) (k : Nat) : List Sh := (S.take k).map (fixS T) ++ S.drop k
section
variable {T : List Nd} {S : List Sh} {k : Nat}
theorem fixTo_len : (fixTo T S k).length = S.length := by
  unfold fixTo
  rw [List.length_append, List.length_map, ← List.length_append, List.take_append_drop]
theorem fixTo_zero : fixTo T S 0 = S := by simp [fixTo]
theorem fixTo_all : fixTo T S S.length = S.map (fixS T) := by simp [fixTo]
theorem fixTo_here (h : k < S.length) : fixTo T S k = (S.take k).map (fixS T) ++ S.getD k shD :: S.drop (k + 1) := by
  unfold fixTo
  rw [List.drop_eq_getElem_cons h, List.getD_eq_getElem?_getD, List.getElem?_eq_getElem h]
  rfl
theorem fixTo_succ (h : k < S.length) : fixTo T S (k + 1) = (S.take k).map (fixS T) ++ fixS T (S.getD k shD) :: S.drop (k + 1) := by
  unfold fixTo
  rw [List.take_succ_eq_append_getElem h, List.map_append, List.getD_eq_getElem?_getD, List.getElem?_eq_getElem h]
  simp
theorem fixTo_get (h : k < S.length) : (fixTo T S k).getD k shD = S.getD k shD := by
  have hl : ((S.take k).map (fixS T)).length = k := by simp; omega
  rw [fixTo_here h, List.getD_eq_getElem?_getD, List.getElem?_append_right (by omega), hl, Nat.sub_self]
  rfl
theorem fixTo_keep (h : k < S.length) (hf : fitsB T (S.getD k shD) = true) : fixTo T S (k + 1) = fixTo T S k := by
  rw [fixTo_succ h, fixTo_here h, fixS, if_pos hf]
theorem fixTo_set (h : k < S.length) (hf : fitsB T (S.getD k shD) = false) : fixTo T S (k + 1) = (fixTo T S k).set k ⟨(S.getD k shD).node, -1⟩ := by
  have hl : ((S.take k).map (fixS T)).length = k := by simp; omega
  rw [fixTo_succ h, fixTo_here h, fixS, if_neg (by rw [hf]; decide), List.set_append_right _ _ (by omega), hl, Nat.sub_self]
  rfl
end
theorem shCells_set : ∀ (l : List Sh) (k : Nat) (m : Int), k < l.length → (shCells l).set (k * 2 + 1) (.int .i64 m) = shCells (l.set k ⟨(l.getD k shD).node, m⟩)
  | [], k, m, h => by simp at h
  | x :: l, 0, m, _ => by simp [shCells]
  | x :: l, k + 1, m, h => by
    have hk : k < l.length := by simpa using h
    have := shCells_set l k m hk
    rw [List.set_cons_succ, shCells, shCells, show ((x :: l).getD (k + 1) shD) = l.getD k shD from rfl, ← this]
    rw [show (k + 1) * 2 + 1 = (k * 2 + 1) + 1 + 1 by omega]
    rfl

/-- A row of three lists that a region has built; the third one is its own. -/
def BuiltIn (U : World) (base : Nat) (s v0 v1 : Value) (n : Nat) (xs : List Value) : Prop := ∃ (b : Nat) (v2 : Value) (J : Nat × Nat), base ≤ b ∧ b < U.heap.size ∧ s = .slice (some ⟨b, 0, none⟩) 3 3 ∧ U.cell? ⟨b, 0, none⟩ = some v0 ∧ U.cell? ⟨b, 1, none⟩ = some v1 ∧ U.cell? ⟨b, 2, none⟩ = some v2 ∧ base ≤ J.1 ∧ J.2 ≤ U.heap.size ∧ RowIn U J 3 1 v2 n xs
theorem BuiltIn.keepB {U W : World} {base : Nat} {s v0 v1 : Value} {n : Nat} {xs : List Value} (h : BuiltIn U base s v0 v1 n xs) (hk : ∀ j, base ≤ j → j < U.heap.size → W.heap[j]? = U.heap[j]?) (hs : U.heap.size ≤ W.heap.size) : BuiltIn W base s v0 v1 n xs := by
  obtain ⟨b, v2, J, h1, h2, h3, c0, c1, c2, j1, j2, hr⟩ := h
  have e := hk b h1 h2
  exact ⟨b, v2, J, h1, by omega, h3, (World.cell?_of_block (a := ⟨b, 0, none⟩) e).trans c0, (World.cell?_of_block (a := ⟨b, 1, none⟩) e).trans c1, (World.cell?_of_block (a := ⟨b, 2, none⟩) e).trans c2, j1, by omega, hr.keep (fun j q1 q2 => hk j (by omega) (by omega))⟩
theorem built_new {U : World} {base : Nat} {J : Nat × Nat} {n : Nat} {xs : List Value} (v0 v1 v2 : Value) (t : TypeId) (hb : base ≤ U.heap.size) (j1 : base ≤ J.1) (j2 : J.2 ≤ U.heap.size) (hr : RowIn U J 3 1 v2 n xs) : BuiltIn (U.alloc (.cells #[v0, v1, v2] t)) base (.slice (some ⟨U.heap.size, 0, none⟩) 3 3) v0 v1 n xs := by
  have hbl : Below U.heap.size U (U.alloc (.cells #[v0, v1, v2] t)) := (Below.refl _ U).alloc (Nat.le_refl _) _
  exact ⟨U.heap.size, v2, J, hb, by simp, rfl, by simp, by simp, by simp, j1, by simp; omega, hr.keep (fun j _ q2 => hbl.block j (by omega))⟩

def fixOp (V : Vw) : List Int := V.op.filter (dlgB V.tree)
def fixNo (V : Vw) : List Int := V.op.filter (notB (dlgB V.tree))
def fixMd (V : Vw) : List Int := V.modal.filter (dlgB V.tree)
def fixNm (V : Vw) : List Int := V.modal.filter (notB (dlgB V.tree))
def fixSt (V : Vw) : List Sh := V.pops.filter (fun x => popB V.tree x.node)
def fixGo (V : Vw) : List Sh := V.pops.filter (notB (fun x => popB V.tree x.node))
def fixPs (V : Vw) : List Sh := (fixSt V).map (fixS V.tree)
def fixV1 (V : Vw) : Vw := { tree := V.tree, op := fixOp V, modal := fixMd V, pops := fixPs V, top := [] }
def fixTp (V : Vw) : List Int := V.top.filter (containsB (raisedL (fixV1 V)))
def fixL (V : Vw) : Vw := { tree := V.tree, op := fixOp V, modal := fixMd V, pops := fixPs V, top := fixTp V }
def fixG (V : Vw) : List Int := fixNo V ++ fixNm V ++ nodesL' (fixGo V)
theorem fixPs_len (V : Vw) : (fixPs V).length = (fixSt V).length := by simp [fixPs]
theorem nodesL'_len (l : List Sh) : (nodesL' l).length = l.length := by simp [nodesL']
theorem rowShs' {U : World} {I : Nat × Nat} {v : Value} {n : Nat} {l : List Sh} (h : l.length = n) (hr : RowIn U I 39 2 v n (shCells l)) : ShsAt U v l := by
  subst h
  exact rowShs hr
theorem rowInts' {U : World} {I : Nat × Nat} {v : Value} {n : Nat} {l : List Int} (h : l.length = n) (hr : RowIn U I 3 1 v n (intCells l)) : IntsAt U v l := by
  subst h
  exact rowInts hr
theorem shs_len {U : World} {a : Option Addr} {c n : Nat} {l : List Sh} (h : U.ownsRow n 39 2 (.slice a l.length c) l.length (shCells l)) : ShsAt U (.slice a l.length c) l := ownsRow_shs h
set_option maxHeartbeats 1000000 in
theorem fix1_any (l : List Int) (v : Value) (x : Int) (b : Nat) (w : World) (hc : w.cell? ⟨b, 0, none⟩ = some v) (hI : IntsAt w v l) (hl : l.length ≤ 1000000) :
    Calls Tryz.prog 72 #[.int .i64 x, .pointer (some ⟨b, 0, none⟩)] w fun e w' => e = .returned (.bool (containsB l x)) ∧ Below w.heap.size w w' := by
  obtain ⟨la, lc, rfl⟩ := hI.shape
  have HC := hideG (contains_any l _ x w hI hl)
  clear hI
  go_enter Tryz.func72, Tryz.ntmps72
  go_wp2_with fail
  refine HC.out.mono ?_
  rintro e w1 ⟨rfl, hw1⟩
  obtain rfl : _ = w1 := hw1.symm
  go_wp2_with fail
  go_ret
  exact ⟨rfl, Below.refl _ _⟩
theorem part66n (p : Int → Bool) (bv : Value) (l S G : List Int) (hS : l.filter p = S) (hG : l.filter (notB p) = G) (v : Value) (w : World) (HD : Hid (∀ (x : Int) U, Below w.heap.size w U → Calls Tryz.prog 66 #[bv, .int .i64 x] U (fun e w' => e = .returned (.bool (p x)) ∧ Below U.heap.size U w'))) (hL : IntsAt w v l) (hl : l.length ≤ 1000000) :
    Calls Tryz.prog 65 #[v, .func (.func 66) #[bv] #[]] w fun e w' => ∃ a1 c1 a2 c2, e = .returned (.tuple #[.slice a1 S.length c1, .slice a2 G.length c2]) ∧
      w'.ownsRow w.heap.size 3 1 (.slice a1 S.length c1) S.length (intCells S) ∧ w'.ownsRow w.heap.size 3 1 (.slice a2 G.length c2) G.length (intCells G) ∧
      Apart (.slice a1 S.length c1) (.slice a2 G.length c2) ∧ Below w.heap.size w w' := by
  subst hS hG
  exact part66 p bv l v w HD hL hl
theorem part68n (p : Sh → Bool) (bv : Value) (l S G : List Sh) (hS : l.filter p = S) (hG : l.filter (notB p) = G) (v : Value) (w : World) (HD : Hid (∀ (x : Sh) U, Below w.heap.size w U → Calls Tryz.prog 68 #[bv, .agg #[.int .i64 x.node, .int .i64 x.inv]] U (fun e w' => e = .returned (.bool (p x)) ∧ Below U.heap.size U w'))) (hL : ShsAt w v l) (hl : l.length ≤ 1000000) :
    Calls Tryz.prog 67 #[v, .func (.func 68) #[bv] #[]] w fun e w' => ∃ a1 c1 a2 c2, e = .returned (.tuple #[.slice a1 S.length c1, .slice a2 G.length c2]) ∧
      w'.ownsRow w.heap.size 39 2 (.slice a1 S.length c1) S.length (shCells S) ∧ w'.ownsRow w.heap.size 39 2 (.slice a2 G.length c2) G.length (shCells G) ∧
      Apart (.slice a1 S.length c1) (.slice a2 G.length c2) ∧ Below w.heap.size w w' := by
  subst hS hG
  exact part68 p bv l v w HD hL hl
theorem part72n (p : Int → Bool) (bv : Value) (l S G : List Int) (hS : l.filter p = S) (hG : l.filter (notB p) = G) (v : Value) (w : World) (HD : Hid (∀ (x : Int) U, Below w.heap.size w U → Calls Tryz.prog 72 #[.int .i64 x, bv] U (fun e w' => e = .returned (.bool (p x)) ∧ Below U.heap.size U w'))) (hL : IntsAt w v l) (hl : l.length ≤ 1000000) :
    Calls Tryz.prog 65 #[v, .func (.func 72) #[] #[bv]] w fun e w' => ∃ a1 c1 a2 c2, e = .returned (.tuple #[.slice a1 S.length c1, .slice a2 G.length c2]) ∧
      w'.ownsRow w.heap.size 3 1 (.slice a1 S.length c1) S.length (intCells S) ∧ w'.ownsRow w.heap.size 3 1 (.slice a2 G.length c2) G.length (intCells G) ∧
      Apart (.slice a1 S.length c1) (.slice a2 G.length c2) ∧ Below w.heap.size w w' := by
  subst hS hG
  exact part72 p bv l v w HD hL hl
end Go.Proofs.YtclhimodopgeoaaGreat

namespace Go.Proofs.YtclhimodopgeoaaGreat
open Go.RowKit

structure MayS (V : Vw) : Prop where
  op : ∀ x ∈ V.op, dlgB V.tree x = true
  modal : ∀ x ∈ V.modal, dlgB V.tree x = true
  pops : ∀ x ∈ V.pops, popB V.tree x.node = true
  fits : ∀ x ∈ V.pops, fitsB V.tree x = true
  nodup : (openedL V).Nodup
  perm : V.top.Perm (raisedL V)
theorem may_iff {V : Vw} : mayV V = true ↔ MayS V := by
  rw [← mayP_eq]
  unfold mayP
  simp only [Bool.and_eq_true, List.all_eq_true, onceB_iff, sameB_iff]
  exact ⟨fun ⟨a, b, c, d, e, f⟩ => ⟨a, b, c, d, e, f⟩, fun ⟨a, b, c, d, e, f⟩ => ⟨a, b, c, d, e, f⟩⟩
theorem check_iff {V : Vw} : checkV V = 0 ↔ mayB V.tree = true ∧ MayS V := by
  rw [← may_iff]
  unfold checkV
  cases mayB V.tree <;> cases mayV V <;> simp
theorem contains_no {l : List Int} {x : Int} : containsB l x = false ↔ x ∉ l := by simp [containsB]
theorem contains_yes {l : List Int} {x : Int} : containsB l x = true ↔ x ∈ l := by simp [containsB]
theorem mem_opened {V : Vw} {x : Int} : x ∈ openedL V ↔ x ∈ V.op ∨ x ∈ V.modal ∨ x ∈ nodesL' V.pops := by simp [openedL, raisedL]
theorem mem_raised {V : Vw} {x : Int} : x ∈ raisedL V ↔ x ∈ V.modal ∨ x ∈ nodesL' V.pops := by simp [raisedL]
theorem nodes_snoc (l : List Sh) (x : Sh) : nodesL' (l ++ [x]) = nodesL' l ++ [x.node] := by simp [nodesL']
section
variable {V : Vw} {n : Int}
theorem may_modal (h : MayS V) (hd : dlgB V.tree n = true) (ho : n ∉ openedL V) : MayS { V with modal := V.modal ++ [n], top := V.top ++ [n] } := by
  refine ⟨h.op, fun x hx => ?_, h.pops, h.fits, ?_, ?_⟩
  · rcases List.mem_append.mp hx with h1 | h1
    · exact h.modal x h1
    · rw [List.mem_singleton.mp h1]; exact hd
  · show (V.op ++ ((V.modal ++ [n]) ++ nodesL' V.pops)).Nodup
    have hp : (V.op ++ ((V.modal ++ [n]) ++ nodesL' V.pops)).Perm (n :: openedL V) := by
      unfold openedL raisedL
      rw [List.append_assoc, List.singleton_append]
      exact (List.Perm.append_left V.op List.perm_middle).trans List.perm_middle
    exact hp.nodup_iff.mpr (List.nodup_cons.mpr ⟨ho, h.nodup⟩)
  · show (V.top ++ [n]).Perm ((V.modal ++ [n]) ++ nodesL' V.pops)
    have h1 : (V.top ++ [n]).Perm (raisedL V ++ [n]) := h.perm.append_right [n]
    have h3 : ((V.modal ++ [n]) ++ nodesL' V.pops).Perm (n :: raisedL V) := by
      rw [List.append_assoc, List.singleton_append]
      exact List.perm_middle
    exact h1.trans ((List.perm_append_singleton n _).trans h3.symm)
theorem may_open (h : MayS V) (hd : dlgB V.tree n = true) (ho : n ∉ openedL V) : MayS { V with op := V.op ++ [n] } := by
  refine ⟨fun x hx => ?_, h.modal, h.pops, h.fits, ?_, h.perm⟩
  · rcases List.mem_append.mp hx with h1 | h1
    · exact h.op x h1
    · rw [List.mem_singleton.mp h1]; exact hd
  · show ((V.op ++ [n]) ++ raisedL V).Nodup
    have hp : ((V.op ++ [n]) ++ raisedL V).Perm (n :: openedL V) := by
      unfold openedL
      rw [List.append_assoc, List.singleton_append]
      exact List.perm_middle
    exact hp.nodup_iff.mpr (List.nodup_cons.mpr ⟨ho, h.nodup⟩)
theorem may_popup {x : Sh} (h : MayS V) (hf : fitsB V.tree x = true) (hd : popB V.tree x.node = true) (ho : x.node ∉ openedL V) : MayS { V with pops := V.pops ++ [x], top := V.top ++ [x.node] } := by
  have e : raisedL { V with pops := V.pops ++ [x], top := V.top ++ [x.node] } = raisedL V ++ [x.node] := by
    show V.modal ++ nodesL' (V.pops ++ [x]) = (V.modal ++ nodesL' V.pops) ++ [x.node]
    rw [nodes_snoc, List.append_assoc]
  refine ⟨h.op, h.modal, fun y hy => ?_, fun y hy => ?_, ?_, ?_⟩
  · rcases List.mem_append.mp hy with h1 | h1
    · exact h.pops y h1
    · rw [List.mem_singleton.mp h1]; exact hd
  · rcases List.mem_append.mp hy with h1 | h1
    · exact h.fits y h1
    · rw [List.mem_singleton.mp h1]; exact hf
  · show (V.op ++ raisedL { V with pops := V.pops ++ [x], top := V.top ++ [x.node] }).Nodup
    rw [e, ← List.append_assoc]
    exact (List.perm_append_singleton x.node (openedL V)).nodup_iff.mpr (List.nodup_cons.mpr ⟨ho, h.nodup⟩)
  · rw [e]
    exact h.perm.append_right _
theorem top_opened (h : MayS V) {x : Int} (hx : x ∈ V.top) : x ∈ openedL V := List.mem_append_right _ (h.perm.mem_iff.mp hx)
theorem fne {l : List Int} (h : n ∉ l) : l.filter (fun x => x != n) = l := List.filter_eq_self.mpr (fun x hx => by
  rw [bne_iff_ne]
  rintro rfl
  exact h hx)
theorem fneS {l : List Sh} (h : n ∉ nodesL' l) : l.filter (fun x => x.node != n) = l := List.filter_eq_self.mpr (fun x hx => by
  rw [bne_iff_ne]
  rintro rfl
  exact h (List.mem_map_of_mem hx))
theorem fne_snoc {l : List Int} (h : n ∉ l) : (l ++ [n]).filter (fun x => x != n) = l := by
  rw [List.filter_append, fne h]
  simp
theorem close_modal (ho : n ∉ openedL V) (ht : n ∉ V.top) : closeL { V with modal := V.modal ++ [n], top := V.top ++ [n] } n = V := by
  rw [mem_opened, not_or, not_or] at ho
  obtain ⟨t, o, m, p, q⟩ := V
  simp only [closeL, fne ho.1, fne_snoc ho.2.1, fneS ho.2.2, fne_snoc ht]
theorem close_open (ho : n ∉ openedL V) (ht : n ∉ V.top) : closeL { V with op := V.op ++ [n] } n = V := by
  rw [mem_opened, not_or, not_or] at ho
  obtain ⟨t, o, m, p, q⟩ := V
  simp only [closeL, fne_snoc ho.1, fne ho.2.1, fneS ho.2.2, fne ht]
theorem close_popup {x : Sh} (ho : x.node ∉ openedL V) (ht : x.node ∉ V.top) : closeL { V with pops := V.pops ++ [x], top := V.top ++ [x.node] } x.node = V := by
  rw [mem_opened, not_or, not_or] at ho
  obtain ⟨t, o, m, p, q⟩ := V
  have e : (p ++ [x]).filter (fun y => y.node != x.node) = p := by
    rw [List.filter_append, fneS ho.2.2]
    simp
  simp only [closeL, fne ho.1, fne ho.2.1, e, fne_snoc ht]
theorem close_nodes (l : List Sh) : nodesL' (l.filter (fun x => x.node != n)) = (nodesL' l).filter (fun x => x != n) := by
  unfold nodesL'
  rw [List.filter_map]
  rfl
theorem close_raised : raisedL (closeL V n) = (raisedL V).filter (fun x => x != n) := by
  show V.modal.filter _ ++ nodesL' (V.pops.filter _) = _
  rw [close_nodes, raisedL, List.filter_append]
theorem close_opened : openedL (closeL V n) = (openedL V).filter (fun x => x != n) := by
  rw [openedL, close_raised, openedL, List.filter_append]
  rfl
theorem may_close (h : MayS V) : MayS (closeL V n) := by
  refine ⟨fun x hx => h.op x (List.mem_filter.mp hx).1, fun x hx => h.modal x (List.mem_filter.mp hx).1, fun x hx => h.pops x (List.mem_filter.mp hx).1, fun x hx => h.fits x (List.mem_filter.mp hx).1, ?_, ?_⟩
  · rw [close_opened]
    exact h.nodup.filter _
  · rw [close_raised]
    exact h.perm.filter _
theorem close_gone : n ∉ openedL (closeL V n) := by
  rw [close_opened, List.mem_filter]
  simp
theorem close_gone_top : n ∉ (closeL V n).top := by
  show n ∉ V.top.filter _
  rw [List.mem_filter]
  simp
end
section
variable {M T : List Int}
theorem getD_snoc {l : List Int} {x : Int} : (l ++ [x]).getD l.length 0 = x := by
  rw [List.getD_eq_getElem?_getD, List.getElem?_append_right (Nat.le_refl _), Nat.sub_self]
  rfl
theorem getD_left {l : List Int} {x : Int} {j : Nat} (h : j < l.length) : (l ++ [x]).getD j 0 = l.getD j 0 := by
  rw [List.getD_eq_getElem?_getD, List.getElem?_append_left h, List.getD_eq_getElem?_getD]
theorem highF_left {x : Int} : ∀ {k : Nat}, k ≤ T.length → highF M (T ++ [x]) k = highF M T k
  | 0, _ => rfl
  | k + 1, h => by rw [highF, highF, getD_left (by omega), highF_left (by omega)]
theorem high_modal (V : Vw) (n : Int) : highV { V with modal := V.modal ++ [n], top := V.top ++ [n] } = n := by
  show highF (V.modal ++ [n]) (V.top ++ [n]) (V.top ++ [n]).length = n
  rw [List.length_append, List.length_singleton, highF, getD_snoc, if_pos (by simp [containsB])]
theorem high_popup (V : Vw) (x : Sh) (h : x.node ∉ V.modal) : highV { V with pops := V.pops ++ [x], top := V.top ++ [x.node] } = highV V := by
  show highF V.modal (V.top ++ [x.node]) (V.top ++ [x.node]).length = highF V.modal V.top V.top.length
  rw [List.length_append, List.length_singleton, highF, getD_snoc, if_neg (by rw [contains_no.mpr h]; decide), highF_left (Nat.le_refl _)]
theorem high_no (hM : ∀ x ∈ M, (0 : Int) ≤ x) : ∀ {n : Nat}, highF M T n = -1 → ∀ j, j < n → containsB M (T.getD j 0) = false
  | 0, _, j, hj => by omega
  | n + 1, h, j, hj => by
    cases c : containsB M (T.getD n 0)
    · rw [highF, c] at h
      by_cases e : j = n
      · subst e; exact c
      · exact high_no hM h j (by omega)
    · rw [highF, c] at h
      have := hM _ (contains_yes.mp c)
      simp only [if_true] at h
      omega
theorem high_at : ∀ {n : Nat}, highF M T n ≠ -1 → ∃ j, j < n ∧ T.getD j 0 = highF M T n ∧ containsB M (highF M T n) = true ∧ ∀ i, j < i → i < n → containsB M (T.getD i 0) = false
  | 0, h => absurd rfl h
  | n + 1, h => by
    cases c : containsB M (T.getD n 0)
    · have e : highF M T (n + 1) = highF M T n := by rw [highF, c]; rfl
      rw [e] at h ⊢
      obtain ⟨j, h1, h2, h3, h4⟩ := high_at h
      refine ⟨j, by omega, h2, h3, fun i hi hn => ?_⟩
      by_cases q : i = n
      · subst q; exact c
      · exact h4 i hi (by omega)
    · have e : highF M T (n + 1) = T.getD n 0 := by rw [highF, c]; rfl
      rw [e]
      exact ⟨n, by omega, rfl, c, fun i hi hn => by omega⟩
end
theorem dlg_ge {T : List Nd} {x : Int} (h : dlgB T x = true) : 0 ≤ x := by
  unfold dlgB isNodeB at h
  simp only [Bool.and_eq_true, decide_eq_true_eq] at h
  exact h.1.1
theorem mem_getD {l : List Int} {x : Int} (h : x ∈ l) : ∃ j, j < l.length ∧ l.getD j 0 = x := by
  obtain ⟨j, hj, e⟩ := List.mem_iff_getElem.mp h
  exact ⟨j, hj, by rw [List.getD_eq_getElem?_getD, List.getElem?_eq_getElem hj]; exact e⟩
theorem highest_none {V : Vw} (h : MayS V) (hn : highV V = -1) : V.modal.length = 0 := by
  cases e : V.modal with
  | nil => rfl
  | cons x l =>
    exfalso
    have hx : x ∈ V.modal := by rw [e]; exact List.mem_cons_self
    have ht : x ∈ V.top := h.perm.mem_iff.mpr (List.mem_append_left _ hx)
    obtain ⟨j, hj, rfl⟩ := mem_getD ht
    have := high_no (fun y hy => dlg_ge (h.modal y hy)) hn j hj
    rw [contains_yes.mpr hx] at this
    cases this
theorem top_nodup {V : Vw} (h : MayS V) : V.top.Nodup := h.perm.nodup_iff.mpr (List.nodup_append.mp h.nodup).2.1
theorem highest_at {V : Vw} (h : MayS V) (hn : highV V ≠ -1) : ∃ j, j < V.top.length ∧ indexI V.top (highV V) = (j : Int) ∧ containsB V.modal (highV V) = true ∧ ∀ i, j < i → i < V.top.length → containsB V.modal (V.top.getD i 0) = false := by
  obtain ⟨j, h1, h2, h3, h4⟩ := high_at hn
  refine ⟨j, h1, ?_, h3, h4⟩
  have ho := onceB_iff.mpr (top_nodup h)
  have h5 := (List.all_eq_true.mp (by rw [onceB] at ho; exact ho)) j (List.mem_range.mpr h1)
  have h6 := idx_take h1
  rw [h5, beq_iff_eq] at h6
  rw [← h6]
  congr 1
  exact h2.symm

section
variable {V : Vw}
theorem notB_filter {α : Type} (p : α → Bool) (l : List α) : (l.filter p).filter (notB p) = [] := by
  rw [List.filter_filter, List.filter_eq_nil_iff]
  intro x _
  simp [notB]
theorem filter_len {α : Type} (p : α → Bool) : ∀ l : List α, (l.filter p).length + (l.filter (notB p)).length = l.length
  | [] => rfl
  | x :: l => by
    have := filter_len p l
    cases e : p x <;> simp [notB, e] at this ⊢ <;> omega
theorem fixS_node (T : List Nd) (x : Sh) : (fixS T x).node = x.node := by
  unfold fixS
  split <;> rfl
theorem fixS_fits (T : List Nd) (x : Sh) : fitsB T (fixS T x) = true := by
  unfold fixS
  split
  · assumption
  · rfl
theorem fix_nodes : nodesL' (fixPs V) = nodesL' (fixSt V) := by
  unfold nodesL' fixPs
  rw [List.map_map]
  exact List.map_congr_left (fun x _ => fixS_node _ x)
theorem fix_nodes_sub : (nodesL' (fixPs V)).Sublist (nodesL' V.pops) := by
  rw [fix_nodes]
  exact List.Sublist.map _ List.filter_sublist
theorem fix_raised_sub : (raisedL (fixV1 V)).Sublist (raisedL V) := List.Sublist.append List.filter_sublist fix_nodes_sub
theorem fix_opened_sub : (openedL (fixL V)).Sublist (openedL V) := List.Sublist.append List.filter_sublist fix_raised_sub
theorem nodup_sub {α : Type} [BEq α] [LawfulBEq α] {a b : List α} (hs : a.Sublist b) (hb : b.Nodup) : b.filter (fun x => a.contains x) = a := by
  induction hs with
  | slnil => rfl
  | cons x hs ih =>
    rename_i l1 l2
    have hx := (List.nodup_cons.mp hb)
    have hn : x ∉ l1 := fun h => hx.1 (hs.subset h)
    rw [List.filter_cons_of_neg (by simpa using hn)]
    exact ih hx.2
  | cons_cons x hs ih =>
    rename_i l1 l2
    have hx := (List.nodup_cons.mp hb)
    have key : l2.filter (fun y => (x :: l1).contains y) = l2.filter (fun y => l1.contains y) := List.filter_congr (fun y hy => by
      have hne : y ≠ x := fun e => hx.1 (e ▸ hy)
      simp [hne])
    rw [List.filter_cons_of_pos (by simp), key, ih hx.2]
theorem fix_may (hn : (openedL V).Nodup) (ht : V.top.Perm (raisedL V)) : MayS (fixL V) := by
  have hp : ∀ x ∈ fixPs V, ∃ y, y ∈ fixSt V ∧ fixS V.tree y = x := fun x hx => List.mem_map.mp hx
  refine ⟨fun x hx => (List.mem_filter.mp hx).2, fun x hx => (List.mem_filter.mp hx).2, fun x hx => ?_, fun x hx => ?_, fix_opened_sub.nodup hn, ?_⟩
  · obtain ⟨y, hy, rfl⟩ := hp x hx
    have := (List.mem_filter.mp hy).2
    show popB V.tree (fixS V.tree y).node = true
    rw [fixS_node]
    exact this
  · obtain ⟨y, hy, rfl⟩ := hp x hx
    exact fixS_fits _ _
  · show (V.top.filter (containsB (raisedL (fixV1 V)))).Perm (raisedL (fixV1 V))
    have h1 := ht.filter (containsB (raisedL (fixV1 V)))
    have h2 : (raisedL V).filter (containsB (raisedL (fixV1 V))) = raisedL (fixV1 V) := by
      have h3 := nodup_sub (fix_raised_sub (V := V)) (List.nodup_append.mp hn).2.1
      rw [← h3]
      refine List.filter_congr (fun y _ => ?_)
      rw [h3, containsB, List.contains_eq_mem]
    rw [h2] at h1
    exact h1
theorem fix_gone : fixG (fixL V) = [] := by
  have h3 : fixGo (fixL V) = [] := by
    show (fixPs V).filter (notB (fun x => popB V.tree x.node)) = []
    rw [List.filter_eq_nil_iff]
    intro x hx
    obtain ⟨y, hy, rfl⟩ := List.mem_map.mp hx
    have := (List.mem_filter.mp hy).2
    simp only [notB, fixS_node, this]
    decide
  have h1 : fixNo (fixL V) = [] := notB_filter _ _
  have h2 : fixNm (fixL V) = [] := notB_filter _ _
  rw [fixG, h1, h2, h3]
  rfl
theorem filter_idem {α : Type} (p : α → Bool) (l : List α) : (l.filter p).filter p = l.filter p := by
  rw [List.filter_filter]
  exact List.filter_congr (fun x _ => by cases p x <;> rfl)
theorem fix_fix : fixL (fixL V) = fixL V := by
  have h1 : fixOp (fixL V) = fixOp V := filter_idem _ _
  have h2 : fixMd (fixL V) = fixMd V := filter_idem _ _
  have h3 : fixPs (fixL V) = fixPs V := by
    show ((fixPs V).filter (fun x => popB V.tree x.node)).map (fixS V.tree) = fixPs V
    have e : (fixPs V).filter (fun x => popB V.tree x.node) = fixPs V := by
      rw [List.filter_eq_self]
      intro x hx
      obtain ⟨y, hy, rfl⟩ := List.mem_map.mp hx
      rw [fixS_node]
      exact (List.mem_filter.mp hy).2
    rw [e]
    refine (List.map_congr_left (fun x hx => ?_)).trans (List.map_id _)
    obtain ⟨y, hy, rfl⟩ := List.mem_map.mp hx
    rw [fixS, if_pos (fixS_fits _ _)]
    rfl
  have hv : fixV1 (fixL V) = fixV1 V := by
    show ({ tree := V.tree, op := fixOp (fixL V), modal := fixMd (fixL V), pops := fixPs (fixL V), top := [] } : Vw) = _
    rw [h1, h2, h3]
    rfl
  have h4 : fixTp (fixL V) = fixTp V := by
    show (fixTp V).filter (containsB (raisedL (fixV1 (fixL V)))) = fixTp V
    rw [hv]
    exact filter_idem _ _
  show ({ tree := V.tree, op := fixOp (fixL V), modal := fixMd (fixL V), pops := fixPs (fixL V), top := fixTp (fixL V) } : Vw) = _
  rw [h1, h2, h3, h4]
  rfl
theorem fix_len : (fixG V).length + (fixOp V).length + (fixMd V).length + (fixPs V).length = V.op.length + V.modal.length + V.pops.length := by
  have h1 := filter_len (dlgB V.tree) V.op
  have h2 := filter_len (dlgB V.tree) V.modal
  have h3 := filter_len (fun x : Sh => popB V.tree x.node) V.pops
  rw [fixPs_len]
  show (V.op.filter _ ++ V.modal.filter _ ++ nodesL' (V.pops.filter _)).length + (V.op.filter _).length + (V.modal.filter _).length + (V.pops.filter _).length = _
  rw [List.length_append, List.length_append, nodesL'_len]
  omega
end
end Go.Proofs.YtclhimodopgeoaaGreat

namespace Go.Proofs.YtclhimodopgeoaaGreat
open Go.RowKit

/-- A view that lies in a box. -/
structure BoxV (w : World) (b : Nat) (t o m p q : Value) : Prop where
  c0 : w.cell? ⟨b, 0, none⟩ = some t
  c1 : w.cell? ⟨b, 1, none⟩ = some o
  c2 : w.cell? ⟨b, 2, none⟩ = some m
  c3 : w.cell? ⟨b, 3, none⟩ = some p
  c4 : w.cell? ⟨b, 4, none⟩ = some q
theorem BoxV.below {w w' : World} {b : Nat} {t o m p q : Value} (h : BoxV w b t o m p q) (hb : Below w.heap.size w w') : BoxV w' b t o m p q :=
  ⟨cell_below hb h.c0, cell_below hb h.c1, cell_below hb h.c2, cell_below hb h.c3, cell_below hb h.c4⟩
theorem BoxV.new (w : World) (t o m p q : Value) (ty : TypeId) : BoxV (w.alloc (.cells #[t, o, m, p, q] ty)) w.heap.size t o m p q := by
  constructor <;> simp
theorem alB (w : World) (o : Obj) : Below w.heap.size w (w.alloc o) := (Below.refl _ w).alloc (Nat.le_refl _) o
theorem BoxV.lt {w : World} {b : Nat} {t o m p q : Value} (h : BoxV w b t o m p q) : b < w.heap.size := below_of_cell h.c0

theorem shaped {f : Nat} {args : Array Value} {w : World} {er : Int} {V : Vw} (h : Calls Tryz.prog f args w fun x w' => ∃ t o m p q, x = .returned (.tuple #[.agg #[t, o, m, p, q], .int .i64 er]) ∧ ViewAt w' t o m p q V ∧ Below w.heap.size w w')
    (n0 n1 n2 n3 n4 : Nat) (h0 : V.tree.length = n0) (h1 : V.op.length = n1) (h2 : V.modal.length = n2) (h3 : V.pops.length = n3) (h4 : V.top.length = n4) :
    Calls Tryz.prog f args w fun x w' => ∃ a0 c0 a1 c1 a2 c2 a3 c3 a4 c4, x = .returned (.tuple #[.agg #[.slice a0 n0 c0, .slice a1 n1 c1, .slice a2 n2 c2, .slice a3 n3 c3, .slice a4 n4 c4], .int .i64 er]) ∧ ViewAt w' (.slice a0 n0 c0) (.slice a1 n1 c1) (.slice a2 n2 c2) (.slice a3 n3 c3) (.slice a4 n4 c4) V ∧ Below w.heap.size w w' := by
  refine h.mono ?_
  rintro x w' ⟨t, o, m, p, q, rfl, hv, hb⟩
  obtain ⟨a0, c0, rfl⟩ := hv.tree.shape
  obtain ⟨a1, c1, rfl⟩ := hv.op.shape
  obtain ⟨a2, c2, rfl⟩ := hv.modal.shape
  obtain ⟨a3, c3, rfl⟩ := hv.pops.shape
  obtain ⟨a4, c4, rfl⟩ := hv.top.shape
  subst h0 h1 h2 h3 h4
  exact ⟨_, _, _, _, _, _, _, _, _, _, rfl, hv, hb⟩
theorem shapedF {args : Array Value} {w : World} {V : Vw} {G : List Int} (h : Calls Tryz.prog 22 args w fun x w' => ∃ t o m p q a c, x = .returned (.tuple #[.agg #[t, o, m, p, q], .slice a G.length c, .int .i64 0]) ∧ ViewAt w' t o m p q V ∧ IntsAt w' (.slice a G.length c) G ∧ Below w.heap.size w w')
    (n0 n1 n2 n3 n4 n5 : Nat) (h0 : V.tree.length = n0) (h1 : V.op.length = n1) (h2 : V.modal.length = n2) (h3 : V.pops.length = n3) (h4 : V.top.length = n4) (h5 : G.length = n5) :
    Calls Tryz.prog 22 args w fun x w' => ∃ a0 c0 a1 c1 a2 c2 a3 c3 a4 c4 a5 c5, x = .returned (.tuple #[.agg #[.slice a0 n0 c0, .slice a1 n1 c1, .slice a2 n2 c2, .slice a3 n3 c3, .slice a4 n4 c4], .slice a5 n5 c5, .int .i64 0]) ∧ ViewAt w' (.slice a0 n0 c0) (.slice a1 n1 c1) (.slice a2 n2 c2) (.slice a3 n3 c3) (.slice a4 n4 c4) V ∧ IntsAt w' (.slice a5 n5 c5) G ∧ Below w.heap.size w w' := by
  refine h.mono ?_
  rintro x w' ⟨t, o, m, p, q, a5, c5, rfl, hv, hg, hb⟩
  obtain ⟨a0, c0, rfl⟩ := hv.tree.shape
  obtain ⟨a1, c1, rfl⟩ := hv.op.shape
  obtain ⟨a2, c2, rfl⟩ := hv.modal.shape
  obtain ⟨a3, c3, rfl⟩ := hv.pops.shape
  obtain ⟨a4, c4, rfl⟩ := hv.top.shape
  subst h0 h1 h2 h3 h4 h5
  exact ⟨_, _, _, _, _, _, _, _, _, _, _, _, rfl, hv, hg, hb⟩
end Go.Proofs.YtclhimodopgeoaaGreat

