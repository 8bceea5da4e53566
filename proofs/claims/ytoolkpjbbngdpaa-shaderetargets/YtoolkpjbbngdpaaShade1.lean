/- Going up from shadow to shadow; slices.Contains; shade.Up. -/
import Derived.WalkMore
import Derived.ScopeJumps
import Derived.Test.YtoolkpjbbngdpaaOUp
import Derived.Test.YtoolkpjbbngdpaaOnce
namespace Go.Proofs.Ytoolkpjbbngdpaa
open Go.RowKit

theorem topN_none {T : List Nd} {n : Nat} (h : ((nd T n).parent == -1) = true) : topN T n = n := by rw [topN, pars_none h]; rfl
theorem topN_some {T : List Nd} (hm : mayB T = true) {n m : Nat} (hn : n < T.length) (h : (nd T n).parent = (m : Int)) : topN T n = topN T m := by
  rw [topN, pars_some hm hn h, topN]
  have : ∃ r, pars T m = m :: r := by rw [pars, parsF]; exact ⟨_, rfl⟩
  obtain ⟨r, hr⟩ := this
  rw [hr]
  cases r <;> simp [List.getLastD]
theorem fine_nohost {T : List Nd} (h : Fine T) {n : Nat} (hn : n < T.length) (hk : (nd T n).kind ≠ 3) : (nd T n).host = -1 := by
  rcases hostP_iff.mp (h.host n hn) with ⟨_, e⟩ | ⟨e, _⟩
  · exact e
  · exact absurd e hk

/-- All above a node are its parents, and, if the last one is a shadow, its host and all above that. -/
theorem sup_split {T : List Nd} (hm : mayB T = true) : ∀ {n : Nat}, n < T.length → topN T n < T.length ∧ (∃ i, pars T n = i ++ [topN T n]) ∧
    (((nd T (topN T n)).kind ≠ 3 ∧ (nd T (topN T n)).host = -1 ∧ n :: upsL T n = pars T n) ∨ ((nd T (topN T n)).kind = 3 ∧ ∃ h : Nat, h < T.length ∧ (nd T (topN T n)).host = (h : Int) ∧ n :: upsL T n = pars T n ++ (h :: upsL T h))) := by
  intro n hn
  generalize hk : (upsL T n).length = k
  induction k using Nat.strongRecOn generalizing n with
  | _ k ih =>
    have hF := mayB_fine hm
    rcases parent_cases hF hn with e | ⟨e, m, hml, hpm⟩
    · have hp : (nd T n).parent = -1 := by simpa using e
      rw [topN_none e, pars_none e]
      refine ⟨hn, ⟨[], rfl⟩, ?_⟩
      by_cases h3 : (nd T n).kind = 3
      · obtain ⟨h, hl, h1, _, _⟩ := fine_host hF hn h3
        have ho : overI (nd T n) = (h : Int) := by unfold overI; rw [h3]; exact h1
        exact .inr ⟨h3, h, hl, h1, by rw [(upsL_some hm hn ho).1]; rfl⟩
      · have ho : (overI (nd T n) == -1) = true := by rw [over_parent h3, hp]; rfl
        exact .inl ⟨h3, fine_nohost hF hn h3, by rw [upsL_none ho]⟩
    · have hov := over_of_parent hF hn hpm
      have hs := (upsL_some hm hn hov).1
      obtain ⟨h1, ⟨i, h2⟩, h3⟩ := ih (upsL T m).length (by rw [← hk, hs]; simp) hml rfl
      rw [topN_some hm hn hpm, pars_some hm hn hpm, hs]
      refine ⟨h1, ⟨n :: i, by rw [h2]; rfl⟩, ?_⟩
      rcases h3 with ⟨a1, a2, a3⟩ | ⟨a1, h, a2, a3, a4⟩
      · exact .inl ⟨a1, a2, by rw [a3]⟩
      · exact .inr ⟨a1, h, a2, a3, by rw [a4]; rfl⟩
theorem upsL_host {T : List Nd} {n h : Nat} (e : n :: upsL T n = pars T n ++ (h :: upsL T h)) : (upsL T h).length < (upsL T n).length := by
  have h1 := congrArg List.length e
  have h2 := List.length_pos_iff.mpr (pars_ne T n)
  simp at h1
  omega

def castL (l : List Nat) : List Int := l.map fun (x : Nat) => (x : Int)
theorem castL_append (a b : List Nat) : castL (a ++ b) = castL a ++ castL b := by simp [castL]
theorem castL_length (a : List Nat) : (castL a).length = a.length := by simp [castL]
/-- shade.Up. -/
def supI (T : List Nd) (n : Int) : List Int := if knownB T [n] then castL (n.toNat :: upsL T n.toNat) else []

theorem known_one {T : List Nd} {n : Int} (h : knownB T [n] = true) : mayB T = true ∧ ∃ m : Nat, n = m ∧ m < T.length := by
  simp only [knownB, List.all_cons, List.all_nil, Bool.and_true, Bool.and_eq_true] at h
  exact ⟨h.1, isNodeB_true h.2⟩
theorem known_of {T : List Nd} (hm : mayB T = true) {n : Nat} (hn : n < T.length) : knownB T [(n : Int)] = true := by
  simp only [knownB, hm, List.all_cons, List.all_nil, Bool.and_true, Bool.true_and, isNodeB, Bool.and_eq_true, decide_eq_true_eq]
  omega

def containsB (l : List Int) (x : Int) : Bool := decide (x ∈ l)
theorem index_ge {l : List Int} {x : Int} : decide (0 ≤ indexI l x) = containsB l x := by
  unfold indexI containsB
  by_cases h : x ∈ l
  · have := idxL_mem h
    rw [if_pos this]
    simp [h]
  · have : ¬ idxL x l < l.length := fun hlt => h (by
      have : ∀ l : List Int, idxL x l < l.length → x ∈ l := by
        intro l
        induction l with
        | nil => intro h; simp at h
        | cons a l ih =>
          intro h
          simp only [idxL] at h
          cases e : (x == a)
          · rw [e] at h; simp at h; exact List.mem_cons_of_mem _ (ih h)
          · have : x = a := by simpa using e
            rw [this]; exact List.mem_cons_self ..
      exact this l hlt)
    rw [if_neg this]
    simp [h]

set_option maxHeartbeats 800000 in
theorem contains_any (l : List Int) (v : Value) (x : Int) (w : World) (hI : IntsAt w v l) (hl : l.length ≤ 1000000) :
    Calls Try.prog 89 #[v, .int .i64 x] w fun e w' => e = .returned (.bool (containsB l x)) ∧ w' = w := by
  obtain ⟨a, cap, rfl⟩ := hI.shape
  have H := hideG hI
  have HQ := hideG (index_ge (l := l) (x := x))
  clear hI
  go_enter Try.func89, Try.ntmps89
  go_wp2_with (go_at_call 103; refine (sliceIndex_any l _ _ _ H.out hl).mono ?_; rintro e w1 ⟨rfl, rfl⟩)
  go_ret
  exact ⟨ret_bool HQ.out, rfl⟩

set_option maxRecDepth 100000 in
set_option maxHeartbeats 2000000 in
theorem shadeUp_any (T : List Nd) (hS : Sane T) (v : Value) (n : Int) (w : World) (hT : TreeAt w v T) :
    Calls Try.prog 57 #[v, .int .i64 n] w fun e w' => ∃ a c, e = .returned (.slice a (supI T n).length c) ∧ w'.ownsRow w.heap.size 3 1 (.slice a (supI T n).length c) (supI T n).length (intCells (supI T n)) ∧ Below w.heap.size w w' := by
  obtain ⟨i3, hi3, hz30, hz31, hz32⟩ := info_parts infoT3
  obtain ⟨ta, tc, rfl⟩ := hT.shape
  have HT := hideG hT
  have HS := hideG hS
  clear hT hS
  cases hk : knownB T [n]
  · have HU := hideG (show upI T n = [] by simp [upI, hk])
    have hq : supI T n = [] := by simp [supI, hk]
    rw [hq]
    have HBB := hideG (Below.refl w.heap.size w)
    go_enter Try.func57, Try.ntmps57
    go_wp2
    refine wp_scope_jumps 0 (fun _ _ => False) (fun _ _ => 0) rfl ?_ (fun _ _ h => h.elim)
    go_wp2
    go_step3
    go_wp2_with (first | (go_at_call 43; refine (orderUp_any T HS.out _ _ _ (HT.out.below HBB.out)).mono ?_; rintro e w1 ⟨a1, c1, rfl, ho1, hb1⟩; rw [HU.out] at ho1 ⊢; have HO1 := hideG ho1; have HB1 := hideG hb1; clear ho1 hb1) | (at_builtin; refine wpList_append_any rfl (.tmp 6) (.tmp 9) 46 rfl w.heap.size 3 i3 _ 1 8 Try.underlying46 hi3 hz30 hz31 hz32 rfl (by decide) (.slice none 0 0) 0 [] rfl (World.ownsRow_nil _ _ _ _) _ 0 [] rfl (ints_holds (l := []) (ownsRow_ints HO1.out)) rfl (fun x hx => by cases hx) ?h3 ?h4 ?h5 ?_))
    case h3 => simp [maxLen]
    case h4 => omega
    case h5 => exact HB1.out.size
    intro v4 w4 ho4 hg4 hf4
    obtain ⟨a4, c4, rfl⟩ := ownsRow_shape ho4
    have HB4 := hideG (HB1.out.grown hg4 HB1.out.size (fun j e => by cases e))
    clear ho4 hg4 hf4
    go_wp2_with fail
    simp only [Exit.jump]
    go_ret
    exact ⟨none, 0, rfl, World.ownsRow_nil _ _ _ _, HB4.out⟩
  · obtain ⟨hm, m, rfl, hml⟩ := known_one hk
    have HM := hideG hm
    have hpos := mayB_pos hm
    have HE0 := hideG (show ([] : List Int) ++ castL (m :: upsL T m) = supI T (m : Int) by simp [supI, hk])
    have hsup : (supI T (m : Int)).length ≤ 65 := by
      rw [← HE0.out, List.nil_append, castL_length, List.length_cons]
      have := upsL_le T m
      omega
    clear hm hk
    generalize hn0 : (m : Int) = n at HE0 hsup ⊢
    go_enter Try.func57, Try.ntmps57
    go_wp2
    refine wp_scope_jumps 0 (fun a' w' => ∃ (m : Nat) (A : List Int) (aa : Option Addr) (ac : Nat) (u6 u7 u8 u9 u10 u11 u12 u13 u14 u15 u16 u17 u18 u19 u20 u21 u22 u23 u24 u25 : Value), a' = { tmps := #[.slice ta T.length tc, .int .i64 (m : Int), undef, undef, .slice none 0 0, .slice aa A.length ac, u6, u7, u8, u9, u10, u11, u12, u13, u14, u15, u16, u17, u18, u19, u20, u21, u22, u23, u24, u25, undef], defers := [] } ∧ m < T.length ∧ w'.ownsRow w.heap.size 3 1 (.slice aa A.length ac) A.length (intCells A) ∧ Below w.heap.size w w' ∧ A ++ castL (m :: upsL T m) = supI T n ∧ A.length ≤ 200) (fun a' _ => (upsL T (intOf (a'.tmps.getD 1 undef)).toNat).length) rfl ?_ ?_
    · subst hn0
      have HOA := hideG (show w.ownsRow w.heap.size 3 1 (.slice none ([] : List Int).length 0) ([] : List Int).length (intCells []) from World.ownsRow_nil _ _ _ _)
      have HBB := hideG (Below.refl w.heap.size w)
      have HE := HE0
      obtain ⟨htl, ⟨ini, hini⟩, hspl⟩ := sup_split HM.out hml
      have HU := hideG (show upI T (m : Int) = castL (pars T m) by unfold upI; rw [known_of HM.out hml, if_pos rfl, Int.toNat_natCast]; rfl)
      have hplen := pars_le T m
      have HINI := hideG hini
      clear hini
      obtain ⟨tb, to, tcc, htv, hct⟩ := HT.out.at (by omega)
      simp only [Value.slice.injEq, true_and] at htv
      obtain ⟨rfl, rfl⟩ := htv
      obtain ⟨tkv, tav, hNt⟩ := hct (topN T m) htl
      have gh := hNt.host
      clear hNt hct
      go_wp2
      go_step3
      go_wp2_with (first | (go_at_call 43; refine (orderUp_any T HS.out _ _ _ (HT.out.below HBB.out)).mono ?_; rintro e w1 ⟨a1, c1, rfl, ho1, hb1⟩; rw [HU.out] at ho1 ⊢; have HO1 := hideG ho1; have HB1 := hideG (HBB.out.trans (hb1.mono HBB.out.size)); have HOA1 := hideG (ownsRow_below HOA.out hb1 (fun j e => (HOA.out.lt j e).2)); clear ho1 hb1) | (at_builtin; refine wpList_append_any rfl (.tmp 6) (.tmp 9) 46 rfl w.heap.size 3 i3 _ 1 8 Try.underlying46 hi3 hz30 hz31 hz32 rfl (by decide) _ ([] : List Int).length (intCells ([] : List Int)) rfl HOA1.out _ (castL (pars T m)).length (intCells (castL (pars T m))) rfl (ints_holds (ownsRow_ints HO1.out)) (intCells_length _) (intCells_one _) ?h3 ?h4 ?h5 ?_))
      case h3 => rw [castL_length]; simp only [maxLen, List.length_nil]; omega
      case h4 => rw [castL_length]; simp only [List.length_nil]; omega
      case h5 => exact HB1.out.size
      intro v4 w4 ho4 hg4 hf4
      rw [castL_length, HINI.out] at ho4
      have hlen4 : (ini ++ [topN T m]).length = ini.length + 1 := by simp only [List.length_append, List.length_cons, List.length_nil]
      rw [hlen4] at ho4
      have ecells : intCells ([] : List Int) ++ intCells (castL (ini ++ [topN T m])) = intCells (([] : List Int) ++ castL (ini ++ [topN T m])) := by simp [intCells]
      rw [ecells] at ho4
      obtain ⟨g4, c4, rfl⟩ := ownsRow_some ho4 (by omega)
      have HB4 := hideG (HB1.out.grown hg4 HB1.out.size (fun j e => (HOA1.out.lt j e).1))
      have gh4 := cell_below HB4.out gh
      have clast : w4.cell? ⟨g4, ini.length, none⟩ = some (.int .i64 (topN T m : Int)) := by
        rw [ho4.cellAt ini.length (by omega)]
        simp [intCells, castL]
      have HO4 := hideG ho4
      generalize hK : ini.length = K at *
      have hA' : (([] : List Int) ++ castL (ini ++ [topN T m])).length = K + 1 := by rw [List.length_append, castL_length]; simp; omega
      have hK2 : K ≤ 300 := by
        have h1 := congrArg List.length HINI.out
        simp at h1
        omega
      have hne0 : (((K + 1 : Nat) : Int) == 0) = false := by rw [beq_eq_false_iff_ne]; omega
      clear ho4 hg4 hf4 HOA1 HO1 ecells hlen4 gh
      rcases hspl with ⟨hk3, hh, heq⟩ | ⟨hk3, h, hhl, hh, heq⟩
      · rw [hh] at gh4
        have HR := hideG (show ([] : List Int) ++ castL (ini ++ [topN T m]) = supI T (m : Int) by rw [← HINI.out, ← heq]; exact HE.out)
        have hlR : (supI T (m : Int)).length = K + 1 := by rw [← HR.out, hA']
        clear hh heq hk3
        have HLR := hideG hlR
        clear hlR
        go_wp2_with fail
        simp only [Exit.jump]
        go_ret
        exact ⟨some ⟨g4, 0, none⟩, c4, congrArg (fun k => Ending.returned (.slice (some ⟨g4, 0, none⟩) k c4)) HLR.out.symm, by rw [HLR.out, ← HR.out]; exact HO4.out, HB4.out⟩
      · rw [hh] at gh4
        have hh1 : ((h : Int) != -1) = true := by simp
        have HR := hideG (show (([] : List Int) ++ castL (ini ++ [topN T m])) ++ castL (h :: upsL T h) = supI T (m : Int) by rw [List.append_assoc, ← castL_append, ← HINI.out, ← heq]; exact HE.out)
        have HL := hideG (upsL_host heq)
        have hbnd : K + 1 ≤ 200 := by
          have h1 := congrArg List.length HR.out
          rw [List.length_append, hA'] at h1
          omega
        clear hh heq hk3
        have HA' := hideG hA'
        clear hA'
        go_wp2_with fail
        go_step3
        refine ⟨rfl, h, [] ++ castL (ini ++ [topN T m]), some ⟨g4, 0, none⟩, c4, _, _, _, _, _, _, _, _, _, _, _, _, _, _, _, _, _, _, _, _, by rw [HA'.out], hhl, by rw [HA'.out]; exact HO4.out, HB4.out, HR.out, by rw [HA'.out]; exact hbnd⟩
    · rintro a' w' ⟨m, A, aa, ac, u6, u7, u8, u9, u10, u11, u12, u13, u14, u15, u16, u17, u18, u19, u20, u21, u22, u23, u24, u25, rfl, hml, hoA, hB, hE, hA⟩
      have HOA := hideG hoA
      have HBB := hideG hB
      have HE := hideG hE
      clear hoA hB hE
      obtain ⟨htl, ⟨ini, hini⟩, hspl⟩ := sup_split HM.out hml
      have HU := hideG (show upI T (m : Int) = castL (pars T m) by unfold upI; rw [known_of HM.out hml, if_pos rfl, Int.toNat_natCast]; rfl)
      have hplen := pars_le T m
      have HINI := hideG hini
      clear hini
      obtain ⟨tb, to, tcc, htv, hct⟩ := HT.out.at (by omega)
      simp only [Value.slice.injEq, true_and] at htv
      obtain ⟨rfl, rfl⟩ := htv
      obtain ⟨tkv, tav, hNt⟩ := hct (topN T m) htl
      have gh := hNt.host
      clear hNt hct
      go_wp2_with (first | (go_at_call 43; refine (orderUp_any T HS.out _ _ _ (HT.out.below HBB.out)).mono ?_; rintro e w1 ⟨a1, c1, rfl, ho1, hb1⟩; rw [HU.out] at ho1 ⊢; have HO1 := hideG ho1; have HB1 := hideG (HBB.out.trans (hb1.mono HBB.out.size)); have HOA1 := hideG (ownsRow_below HOA.out hb1 (fun j e => (HOA.out.lt j e).2)); clear ho1 hb1) | (at_builtin; refine wpList_append_any rfl (.tmp 6) (.tmp 9) 46 rfl w.heap.size 3 i3 _ 1 8 Try.underlying46 hi3 hz30 hz31 hz32 rfl (by decide) _ A.length (intCells A) rfl HOA1.out _ (castL (pars T m)).length (intCells (castL (pars T m))) rfl (ints_holds (ownsRow_ints HO1.out)) (intCells_length _) (intCells_one _) ?h3 ?h4 ?h5 ?_))
      case h3 => rw [castL_length]; simp only [maxLen]; omega
      case h4 => rw [castL_length]; omega
      case h5 => exact HB1.out.size
      intro v4 w4 ho4 hg4 hf4
      rw [castL_length, HINI.out] at ho4
      have hlen4 : A.length + (ini ++ [topN T m]).length = (A.length + ini.length) + 1 := by simp only [List.length_append, List.length_cons, List.length_nil]; omega
      rw [hlen4] at ho4
      have ecells : intCells A ++ intCells (castL (ini ++ [topN T m])) = intCells (A ++ castL (ini ++ [topN T m])) := by simp [intCells]
      rw [ecells] at ho4
      obtain ⟨g4, c4, rfl⟩ := ownsRow_some ho4 (by omega)
      have HB4 := hideG (HB1.out.grown hg4 HB1.out.size (fun j e => (HOA1.out.lt j e).1))
      have gh4 := cell_below HB4.out gh
      have clast : w4.cell? ⟨g4, A.length + ini.length, none⟩ = some (.int .i64 (topN T m : Int)) := by
        rw [ho4.cellAt (A.length + ini.length) (by omega)]
        simp [intCells, castL]
      have HO4 := hideG ho4
      generalize hK : A.length + ini.length = K at *
      have hA' : (A ++ castL (ini ++ [topN T m])).length = K + 1 := by rw [List.length_append, castL_length]; simp; omega
      have hK2 : K ≤ 300 := by
        have h1 := congrArg List.length HINI.out
        simp at h1
        omega
      have hne0 : (((K + 1 : Nat) : Int) == 0) = false := by rw [beq_eq_false_iff_ne]; omega
      clear ho4 hg4 hf4 HOA1 HO1 ecells hlen4 gh
      rcases hspl with ⟨hk3, hh, heq⟩ | ⟨hk3, h, hhl, hh, heq⟩
      · rw [hh] at gh4
        have HR := hideG (show A ++ castL (ini ++ [topN T m]) = supI T n by rw [← HINI.out, ← heq]; exact HE.out)
        have hlR : (supI T n).length = K + 1 := by rw [← HR.out, hA']
        clear hh heq hk3
        have HLR := hideG hlR
        clear hlR
        go_wp2_with fail
        simp only [Exit.jump]
        go_ret
        exact ⟨some ⟨g4, 0, none⟩, c4, congrArg (fun k => Ending.returned (.slice (some ⟨g4, 0, none⟩) k c4)) HLR.out.symm, by rw [HLR.out, ← HR.out]; exact HO4.out, HB4.out⟩
      · rw [hh] at gh4
        have hh1 : ((h : Int) != -1) = true := by simp
        have HR := hideG (show (A ++ castL (ini ++ [topN T m])) ++ castL (h :: upsL T h) = supI T n by rw [List.append_assoc, ← castL_append, ← HINI.out, ← heq]; exact HE.out)
        have HL := hideG (upsL_host heq)
        have hbnd : K + 1 ≤ 200 := by
          have h1 := congrArg List.length HR.out
          rw [List.length_append, hA'] at h1
          omega
        clear hh heq hk3
        have HA' := hideG hA'
        clear hA'
        go_wp2_with fail
        go_step3
        refine ⟨rfl, ⟨h, A ++ castL (ini ++ [topN T m]), some ⟨g4, 0, none⟩, c4, _, _, _, _, _, _, _, _, _, _, _, _, _, _, _, _, _, _, _, _, by rw [HA'.out], hhl, by rw [HA'.out]; exact HO4.out, HB4.out, HR.out, by rw [HA'.out]; exact hbnd⟩, ?_⟩
        simpa [intOf] using HL.out
end Go.Proofs.Ytoolkpjbbngdpaa
