/- The document's own Remove: it answers as the program's. The document's own Insert: it answers as the program's. The document's own Insert, walked. TreeMoves, walked. -/
import Derived.Test.YtoolkpjbbngdpaaRefWrong
import Derived.Deep.RegionWith
import Derived.Test.YtoolkpjbbngdpaaSame2
import Derived.Test.YtoolkpjbbngdpaaOnce
import Derived.Test.YtoolkpjbbngdpaaBack1
namespace Go.Proofs.Ytoolkpjbbngdpaa
open Go.RowKit

theorem takeL_without {T : List Nd} (h : Fine T) {c q : Nat} (hq : q < T.length) (e : (nd T c).parent = (q : Int)) (hm : (c : Int) ∈ (nd T q).kids) : takeL T c = withParent (withKids T q (withoutL (nd T q).kids c)) c (-1) := by
  unfold takeL
  rw [e, if_neg (by simp), Int.toNat_natCast, withoutL_cut (h.nodup q hq) hm]

set_option maxRecDepth 100000 in
set_option maxHeartbeats 4000000 in
theorem refRemove_any (T : List Nd) (hS : Sane T) (v : Value) (c : Int) (w : World) (hT : TreeAt w v T) :
    Calls Try.prog 31 #[v, .int .i64 c] w fun e w' => ∃ v', e = .returned (.tuple #[v', .int .i64 (removeE T c)]) ∧ Below w.heap.size w w' ∧ TreeAt w' v' (removeR T c) := by
  cases hm : mayB T
  · have hE : removeE T c = 1 := by simp only [removeE, hm, Bool.false_eq_true, if_false]
    rw [removeR_one hE, hE]
    obtain ⟨a, cap, rfl⟩ := hT.shape
    have HT := hideG hT
    have HS := hideG hS
    clear hT hS hE
    go_enter Try.func31, Try.ntmps31
    go_wp2_with (go_at_call 33; refine (refMay_walk T HS.out _ _ HT.out).mono ?_; rintro e w1 ⟨rfl, hb1⟩)
    go_ret2
    exact ⟨_, rfl, hb1, treeAt_nil _⟩
  · cases hi : isNodeB T.length c
    · have hE : removeE T c = 2 := by simp only [removeE, hm, hi, Bool.false_eq_true, if_false, if_true]
      rw [removeR_else (T := T) (by rw [hE]; decide) (by rw [hE]; decide), hE]
      obtain ⟨a, cap, rfl⟩ := hT.shape
      have HT := hideG hT
      have HS := hideG hS
      clear hT hS hE
      go_enter Try.func31, Try.ntmps31
      go_wp2_with (first | (go_at_call 33; refine (refMay_walk T HS.out _ _ HT.out).mono ?_; rintro e w1 ⟨rfl, hb1⟩) | (go_at_call 34; refine (refIs_any _ _ _ _ _).mono ?_; rintro e w2 ⟨rfl, hw⟩; subst hw))
      go_ret2
      exact ⟨_, rfl, hb1, HT.out.below hb1⟩
    · obtain ⟨c, rfl, hc⟩ := isNodeB_true hi
      have hpos := mayB_pos hm
      have h1000 : T.length ≤ 1000 := by omega
      have HFi := hideG (mayB_fine hm)
      have HT := hideG hT
      have HS := hideG hS
      obtain ⟨ba, off, cap, rfl, hcc⟩ := hT.at (by omega)
      obtain ⟨kvc, avc, hNc⟩ := hcc c hc
      have k2 := hNc.parent
      have hbz : ba < w.heap.size := below_of_cell k2
      clear hNc hcc hT hS
      cases hp : ((nd T c).parent == -1)
      · have hE : removeE T c = 0 := by simp only [removeE, hm, hi, hp, Bool.false_eq_true, if_false, if_true, Int.toNat_natCast]
        obtain ⟨q, hq, hqe, hmem⟩ : ∃ q : Nat, q < T.length ∧ (nd T c).parent = (q : Int) ∧ (c : Int) ∈ (nd T q).kids := by
          rcases HFi.out.par c hc with h | h
          · rw [h] at hp; simp at hp
          · exact h
        rw [removeR_zero hE, hE, Int.toNat_natCast, takeL_without HFi.out hq hqe hmem]
        have h64 := fine_short HFi.out hq
        have HQ := hideG hqe
        rw [hqe] at k2 hp
        clear hE hmem hqe
        go_enter Try.func31, Try.ntmps31
        go_wp2_with (first | (go_at_call 33; refine (refMay_walk T HS.out _ _ HT.out).mono ?_; rintro e w1 ⟨rfl, hb1⟩; have y2 := (hb1.cell (p := ⟨ba, off + c * 7 + 2, none⟩) hbz).trans k2) | (go_at_call 34; refine (refIs_any _ _ _ _ _).mono ?_; rintro e w2 ⟨rfl, hw⟩; subst hw) | (go_at_call 26; refine (refCopy_any T HS.out _ _ (HT.out.below hb1) h1000).mono ?_; rintro e w3 ⟨v', kv, av, rfl, ho, hb3⟩; obtain ⟨g, cap', rfl⟩ := ownsRow_some ho.row hpos.1; have hs3 := hb3.size; have hs1 := hb1.size; have HB3 := hideG (hb1.trans (hb3.mono hs1)); have ho' := ho.weaken hs1; have c2 : w3.cell? ⟨g, c * 7 + 2, none⟩ = some (.int .i64 (q : Int)) := (by rw [ho'.row.cellAt (c * 7 + 2) (by omega), rowL_at (by omega), rowCell_at _ _ _ _ _ (by omega), ← HQ.out]; rfl); obtain ⟨ka, kc, hkv⟩ := ownsRow_shape (ho'.kids q hq); have c3 : w3.cell? ⟨g, q * 7 + 3, none⟩ = some (.slice ka (nd T q).kids.length kc) := (by rw [ho'.row.cellAt (q * 7 + 3) (by omega), rowL_at (by omega), rowCell_at _ _ _ _ _ (by omega), ← hkv]; rfl); have f3 := ho'.row.frozenAt (q * 7 + 3); have f2 := ho'.row.frozenAt (c * 7 + 2); have hgl : g < w3.heap.size := (ho'.row.lt g rfl).2; have hgb : w.heap.size ≤ g := (ho'.row.lt g rfl).1; have hki := ownsRow_ints (ho'.kids q hq); rw [hkv] at hki; have HKI := hideG hki; have HO := hideG ho'; clear ho ho' hb3 hkv hki))
        refine (refWithout_any (nd T q).kids _ _ _ HKI.out (by omega)).mono ?_
        rintro e w4 ⟨xa, xc, rfl, hx, hb4⟩
        have hs4 := hb4.size
        have d3 := (hb4.cell (p := ⟨g, q * 7 + 3, none⟩) hgl).trans c3
        have d2 := (hb4.cell (p := ⟨g, c * 7 + 2, none⟩) hgl).trans c2
        have e3 := (World.frozen?_of_block (a := ⟨g, q * 7 + 3, none⟩) (hb4.block g hgl)).trans f3
        have e2 := (World.frozen?_of_block (a := ⟨g, c * 7 + 2, none⟩) (hb4.block g hgl)).trans f2
        have hs13 := HB3.out.size
        have hnew := HO.out.setKids hq (ownsRow_base hx hs13) (toGrown hb4 _) (fun j e => .inr (hx.lt j e).1)
        have HN := hideG (hnew.setParent (n := c) (by rw [withKids_length]; exact hc) (-1))
        have HB4 := hideG (((HB3.out.trans (hb4.mono hs13)).setCell (p := ⟨g, q * 7 + 3, none⟩) hgb (.slice xa (withoutL (nd T q).kids c).length xc)).setCell (p := ⟨g, c * 7 + 2, none⟩) hgb (.int .i64 (-1)))
        have hnn : ¬ (q * 7 + 3 = c * 7 + 2) := by omega
        clear hnew hx hb4
        go_wp2_with fail
        go_ret2
        exact ⟨_, rfl, HB4.out, HN.out.treeAt⟩
      · have hE : removeE T c = 3 := by simp only [removeE, hm, hi, hp, if_true, Int.toNat_natCast]
        rw [removeR_else (T := T) (by rw [hE]; decide) (by rw [hE]; decide), hE]
        clear hE
        go_enter Try.func31, Try.ntmps31
        go_wp2_with (first | (go_at_call 33; refine (refMay_walk T HS.out _ _ HT.out).mono ?_; rintro e w1 ⟨rfl, hb1⟩; have y2 := (hb1.cell (p := ⟨ba, off + c * 7 + 2, none⟩) hbz).trans k2) | (go_at_call 34; refine (refIs_any _ _ _ _ _).mono ?_; rintro e w2 ⟨rfl, hw⟩; subst hw))
        go_ret2
        exact ⟨_, rfl, hb1, HT.out.below hb1⟩
end Go.Proofs.Ytoolkpjbbngdpaa
namespace Go.Proofs.Ytoolkpjbbngdpaa
open Go.RowKit

/-- A list, and c ahead of b in it. -/
def insB (l : List Int) (b c : Int) : List Int := l.flatMap fun k => if k == b then [c, k] else [k]
theorem insB_take {l : List Int} {k : Nat} (h : k < l.length) (b c : Int) : insB (l.take (k + 1)) b c = insB (l.take k) b c ++ (if l.getD k 0 == b then [c, l.getD k 0] else [l.getD k 0]) := by
  unfold insB
  rw [List.take_add_one, List.getElem?_eq_getElem h, List.flatMap_append, List.getD_eq_getElem?_getD, List.getElem?_eq_getElem h]
  simp
theorem insB_none {b c : Int} : ∀ {l : List Int}, b ∉ l → insB l b c = l
  | [], _ => rfl
  | a :: l, h => by
    have hne : (a == b) = false := by
      simp only [List.mem_cons, not_or] at h
      simp only [beq_eq_false_iff_ne, ne_eq]
      exact fun e => h.1 e.symm
    have ih := insB_none (c := c) (l := l) (fun hm => h (List.mem_cons_of_mem _ hm))
    unfold insB at ih ⊢
    rw [List.flatMap_cons, hne, ih]; rfl
theorem insB_some {b c : Int} : ∀ {l : List Int}, l.Nodup → b ∈ l → insB l b c = insL l (idxL b l) c
  | [], _, h => by simp at h
  | a :: l, hn, h => by
    rw [List.nodup_cons] at hn
    cases e : (b == a)
    · have hne : b ≠ a := by simpa using e
      have hab : (a == b) = false := by simp only [beq_eq_false_iff_ne, ne_eq]; exact fun e => hne e.symm
      have hm : b ∈ l := by
        rcases List.mem_cons.mp h with h | h
        · exact absurd h hne
        · exact h
      have ih := insB_some (c := c) hn.2 hm
      unfold insB insL at ih
      unfold insB insL
      simp only [idxL, e, Bool.false_eq_true, if_false, List.take_succ_cons, List.drop_succ_cons, List.cons_append]
      rw [List.flatMap_cons, hab, ih]; rfl
    · have he : b = a := by simpa using e
      subst he
      have := insB_none (c := c) hn.1
      unfold insB at this ⊢
      unfold insL
      simp only [idxL, e, if_true, List.take_zero, List.drop_zero, List.nil_append]
      rw [List.flatMap_cons, this]; simp
theorem insB_len (l : List Int) (b c : Int) : (insB l b c).length ≤ l.length * 2 := by
  unfold insB
  induction l with
  | nil => simp
  | cons a l ih =>
    rw [List.flatMap_cons, List.length_append, List.length_cons]
    split
    · simp only [List.length_cons, List.length_nil]; omega
    · simp only [List.length_cons, List.length_nil]; omega

/-- What the document's Insert makes of a tree in which the child is nobody's kid. -/
def finL (U : List Nd) (p c : Nat) (b : Int) : List Nd := withParent (withKids U p (insB (nd U p).kids b c ++ (if b == -1 then [(c : Int)] else []))) c p

theorem lay_list {l : List Int} (hn : l.Nodup) (h0 : ∀ k ∈ l, 0 ≤ k) {b : Int} (hb : b = -1 ∨ b ∈ l) (c : Int) : insB l b c ++ (if b == -1 then [c] else []) = insL l (if b == -1 then l.length else idxL b l) c := by
  rcases hb with rfl | hb
  · rw [insB_none (fun hm => by have := h0 _ hm; omega)]
    simp [insL]
  · have hne : (b == -1) = false := by
      have := h0 _ hb
      simp only [beq_eq_false_iff_ne, ne_eq]; omega
    rw [hne, insB_some hn hb]; simp

/-- Where the child had no parent. -/
theorem fin_none {T : List Nd} (h : Fine T) {p c : Nat} {b : Int} (e : insertF T p c b = 0) (hbc : (b == (c : Int)) = false) (hpc : (nd T c).parent = -1) : finL T p c b = insertL T p c b := by
  obtain ⟨p', c', e1, e2, hp, hc, h2, hk, hcp, han, hb⟩ := insertF_zero e
  obtain rfl : p = p' := by omega
  obtain rfl : c = c' := by omega
  have hbs := before_stays h hc hcp hb (by simpa using hbc)
  rw [takeL_none hpc] at hbs
  unfold insertL finL
  rw [hbc, takeL_none hpc]
  simp only [Bool.false_eq_true, if_false]
  unfold layL layAt
  rw [lay_list (h.nodup p hp) (fun k hk => by obtain ⟨m, rfl, _⟩ := kidP_iff.mp (h.kid p hp k hk); omega) hbs]
theorem fin_some {T : List Nd} (h : Fine T) {p c q : Nat} {b : Int} (e : insertF T p c b = 0) (hbc : (b == (c : Int)) = false) (hq : q < T.length) (hqe : (nd T c).parent = (q : Int)) (hm : (c : Int) ∈ (nd T q).kids) : finL (withKids T q (withoutL (nd T q).kids c)) p c b = insertL T p c b := by
  obtain ⟨p', c', e1, e2, hp, hc, h2, hk, hcp, han, hb⟩ := insertF_zero e
  obtain rfl : p = p' := by omega
  obtain rfl : c = c' := by omega
  have hbs := before_stays h hc hcp hb (by simpa using hbc)
  have hft := (fine_take h hc).1
  have htl := takeL_length T c
  have hkids : (nd (takeL T c) p).kids = (nd (withKids T q (withoutL (nd T q).kids c)) p).kids := by
    rw [takeL_without h hq hqe hm, nd_withParent _ _ _ (by rw [withKids_length]; exact hc), if_neg (fun e => hcp e.symm)]
  have hlist := lay_list (hft.nodup p (by rw [htl]; exact hp)) (fun k hk => by obtain ⟨m, rfl, _⟩ := kidP_iff.mp (hft.kid p (by rw [htl]; exact hp) k hk); omega) hbs (c : Int)
  unfold insertL finL
  rw [hbc]
  simp only [Bool.false_eq_true, if_false]
  rw [← hkids, hlist]
  unfold layL layAt
  refine tree_ext (by simp only [withParent_length, withKids_length, htl]) (fun n hn => ?_)
  have hlen : (withKids T q (withoutL (nd T q).kids c)).length = T.length := withKids_length _ _ _
  simp only [withParent_length, withKids_length] at hn
  rw [nd_withParent _ _ _ (by rw [withKids_length, hlen]; exact hc), nd_withParent _ _ _ (by rw [withKids_length, htl]; exact hc), nd_withKids _ p _ (by rw [hlen]; exact hp), nd_withKids _ p _ (by rw [hlen]; exact hp), nd_withKids _ p _ (by rw [htl]; exact hp), nd_withKids _ p _ (by rw [htl]; exact hp), if_neg hcp, if_neg hcp]
  have ht : ∀ m, nd (takeL T c) m = if m = c then { nd (withKids T q (withoutL (nd T q).kids c)) c with parent := -1 } else nd (withKids T q (withoutL (nd T q).kids c)) m := fun m => by
    rw [takeL_without h hq hqe hm, nd_withParent _ _ _ (by rw [withKids_length]; exact hc)]
  by_cases h1 : n = c
  · subst h1
    rw [if_pos rfl, if_pos rfl, ht, if_pos rfl]
  · rw [if_neg h1, if_neg h1]
    by_cases h3 : n = p
    · subst h3
      rw [if_pos rfl, if_pos rfl, ht, if_neg h1]
    · rw [if_neg h3, if_neg h3, ht, if_neg h1]
end Go.Proofs.Ytoolkpjbbngdpaa
namespace Go.Proofs.Ytoolkpjbbngdpaa
open Go.RowKit

theorem intCells_two (l : List Int) (x y : Int) : intCells (l ++ [x]) ++ [.int .i64 y] = intCells (l ++ [x, y]) := by simp [intCells]

set_option maxRecDepth 100000 in
set_option maxHeartbeats 4000000 in
theorem refInsert_ok (T : List Nd) (hS : Sane T) (v : Value) (p c : Nat) (b : Int) (w : World) (hT : TreeAt w v T) (hm : mayB T = true) (hF : insertF T p c b = 0) (hbc : (b == (c : Int)) = false) :
    Calls Try.prog 29 #[v, .agg #[.int .i64 p, .int .i64 c, .int .i64 b]] w fun e w' => ∃ v', e = .returned (.tuple #[v', .int .i64 0]) ∧ Below w.heap.size w w' ∧ TreeAt w' v' (insertL T p c b) := by
  obtain ⟨p', c', e1, e2, hp, hc, _, _, hcp, _, hb⟩ := insertF_zero hF
  obtain rfl : p = p' := by omega
  obtain rfl : c = c' := by omega
  clear e1 e2
  obtain ⟨i3, hi3, hz30, hz31, hz32⟩ := info_parts infoT3
  have hpos := mayB_pos hm
  have h1000 : T.length ≤ 1000 := by omega
  obtain ⟨a, cap, rfl⟩ := hT.shape
  have HB0 := hideG ((Below.refl _ w).alloc (Nat.le_refl _) (.cells #[.int .i64 p, .int .i64 c, .int .i64 b] 33))
  have HT := hideG hT
  have HS := hideG hS
  have HM := hideG hm
  have HFi := hideG (mayB_fine hm)
  clear hT hS hb
  -- the rest, from the world in which the child is nobody's kid on
  have hpp : (((nd T c).parent == -1) = true) ∨ ((nd T c).parent == -1) = false := by cases (nd T c).parent == -1 <;> simp
  rcases hpp with hpp | hpp
  · have hpe : (nd T c).parent = -1 := by simpa using hpp
    have hpn : ((nd T c).parent != -1) = false := by simp [hpe]
    have HFin := hideG (fin_none HFi.out hF hbc hpe)
    have h64 := fine_short HFi.out hp
    clear hpp hpe
    go_enter Try.func29, Try.ntmps29
    go_wp2_with (first | (go_at_call 33; refine (refMay_walk T HS.out _ _ (HT.out.below HB0.out)).mono ?_; rintro e w1 ⟨rfl, hb1⟩; simp only [World.size_alloc] at hb1; have x0 := hb1.cell (p := ⟨w.heap.size, 0, none⟩) (by simp); have x1 := hb1.cell (p := ⟨w.heap.size, 1, none⟩) (by simp); have x2 := hb1.cell (p := ⟨w.heap.size, 2, none⟩) (by simp); simp only [World.cell?_alloc_new] at x0 x1 x2; simp at x0 x1 x2; have hs1 := hb1.size; simp only [World.size_alloc] at hs1; have HB1 := hideG (HB0.out.trans (hb1.mono (by omega))); clear hb1) | (go_at_call 75; refine (refWrong_any T HM.out _ _ _ _ _ (HT.out.below HB1.out)).mono ?_; rintro e w2 ⟨rfl, hb2⟩; have y0 := (hb2.cell (p := ⟨w.heap.size, 0, none⟩) (by simp; omega)).trans x0; have y1 := (hb2.cell (p := ⟨w.heap.size, 1, none⟩) (by simp; omega)).trans x1; have y2 := (hb2.cell (p := ⟨w.heap.size, 2, none⟩) (by simp; omega)).trans x2; have hs2 := hb2.size; have HB2 := hideG (HB1.out.trans (hb2.mono (by omega))); clear hb2 x0 x1 x2) | (go_at_call 26; refine (refCopy_any T HS.out _ _ (HT.out.below HB2.out) h1000).mono ?_; rintro e w3 ⟨v', kv, av, rfl, ho, hb3⟩; obtain ⟨g, cap', rfl⟩ := ownsRow_some ho.row hpos.1; have z0 := (hb3.cell (p := ⟨w.heap.size, 0, none⟩) (by simp; omega)).trans y0; have z1 := (hb3.cell (p := ⟨w.heap.size, 1, none⟩) (by simp; omega)).trans y1; have z2 := (hb3.cell (p := ⟨w.heap.size, 2, none⟩) (by simp; omega)).trans y2; have hs3 := hb3.size; have HB3 := hideG (HB2.out.trans (hb3.mono (by omega))); have ho' := ho.weaken HB2.out.size; have c2 : w3.cell? ⟨g, c * 7 + 2, none⟩ = some (.int .i64 (nd T c).parent) := (by rw [ho'.row.cellAt (c * 7 + 2) (by omega), rowL_at (by omega), rowCell_at _ _ _ _ _ (by omega)]; rfl); obtain ⟨ka, kc, hkv⟩ := ownsRow_shape (ho'.kids p hp); have c3 : w3.cell? ⟨g, p * 7 + 3, none⟩ = some (.slice ka (nd T p).kids.length kc) := (by rw [ho'.row.cellAt (p * 7 + 3) (by omega), rowL_at (by omega), rowCell_at _ _ _ _ _ (by omega), ← hkv]; rfl); have f3 := ho'.row.frozenAt (p * 7 + 3); have f2 := ho'.row.frozenAt (c * 7 + 2); have hgl : g < w3.heap.size := (ho'.row.lt g rfl).2; have hgb : w.heap.size ≤ g := (ho'.row.lt g rfl).1; have hki := ownsRow_ints (ho'.kids p hp); rw [hkv] at hki; have HKI := hideG hki; have HO := hideG ho'; clear ho ho' hb3 hkv hki y0 y1 y2))
    have hbw : w.heap.size < w3.heap.size := by omega
    have hown0 : (w3.alloc (.cells #[] 3)).ownsRow w3.heap.size 3 1 (.slice (some ⟨w3.heap.size, 0, none⟩) 0 0) 0 [] := by
      have := World.ownsRow_made w3 (base := w3.heap.size) (e := 3) (size := 1) #[] 0 (by simp) (by simp [maxLen]) rfl
      simpa using this
    have HOl := hideG hown0
    clear hown0
    go_loopw [9, 10] (fun o i wr => ∃ (k : Nat) (oa : Option Addr) (oc : Nat), k ≤ (nd T p).kids.length ∧ i = .int .i64 k ∧ o = .slice oa (insB ((nd T p).kids.take k) b c).length oc ∧ wr.ownsRow w3.heap.size 3 1 (.slice oa (insB ((nd T p).kids.take k) b c).length oc) (insB ((nd T p).kids.take k) b c).length (intCells (insB ((nd T p).kids.take k) b c)) ∧ Below w3.heap.size w3 wr) (fun _ i _ => (nd T p).kids.length - (intOf i).toNat)
    case atStart => exact ⟨0, some ⟨w3.heap.size, 0, none⟩, 0, Nat.zero_le _, rfl, rfl, HOl.out, (Below.refl _ w3).alloc (Nat.le_refl _) _⟩
    case round =>
      obtain ⟨k, oa, oc, hk, rfl, rfl, hown, hB⟩ := hrel
      have HOW := hideG hown
      have HBw := hideG hB
      have hsw := hB.size
      have r0 := (hB.cell (p := ⟨w.heap.size, 0, none⟩) hbw).trans z0
      have r1 := (hB.cell (p := ⟨w.heap.size, 1, none⟩) hbw).trans z1
      have r2 := (hB.cell (p := ⟨w.heap.size, 2, none⟩) hbw).trans z2
      have r3 := (hB.cell (p := ⟨g, p * 7 + 3, none⟩) hgl).trans c3
      have HKw := hideG (HKI.out.below hB)
      have hle := insB_len ((nd T p).kids.take k) b c
      rw [List.length_take] at hle
      clear hown hB
      by_cases hlt : k < (nd T p).kids.length
      · obtain ⟨ia, icap, hiv, hid⟩ := HKw.out
        simp only [Value.slice.injEq, true_and] at hiv
        obtain ⟨rfl, rfl⟩ := hiv
        obtain ⟨kb, koff, rfl, hd⟩ := hid (by omega)
        have c1 := hd k hlt
        have hst := insB_take hlt b c
        have hkb : kb < wr.heap.size := below_of_cell c1
        clear hd hid
        generalize (nd T p).kids.getD k 0 = x at *
        have HST := hideG hst
        clear hst
        generalize hcur : insB ((nd T p).kids.take k) b c = cur at *
        have hcl : cur.length ≤ 200 := by omega
        cases hx : (x == b)
        · have HS2 := hideG (show insB ((nd T p).kids.take (k + 1)) b c = cur ++ [x] by rw [HST.out, hx]; simp)
          go_wp2_with (at_builtin; refine wpList_append_any rfl (.tmp 80) (.tmp 82) 46 rfl w3.heap.size 3 i3 _ 1 8 Try.underlying46 hi3 hz30 hz31 hz32 rfl (by decide) _ cur.length (intCells cur) rfl (HOW.out.alloc _) _ 1 [.int .i64 x] rfl (row_new1 _ _) rfl ?h2 ?h3 ?h4 ?h5 ?_)
          case h2 => intro y hy; simp at hy; subst hy; rfl
          case h3 => simp only [maxLen]; omega
          case h4 => omega
          case h5 => simp; omega
          intro v4 w4 ho4 hg4 hf4
          obtain ⟨a4, c4, rfl⟩ := ownsRow_shape ho4
          rw [intCells_snoc] at ho4
          have HO4 := hideG ho4
          have HB4 := hideG ((HBw.out.alloc hsw (.cells #[.int .i64 x] 3)).grown hg4 (by simp; omega) (fun j e => (HOW.out.lt j e).1))
          clear ho4 hg4 hf4
          go_wp2_with fail
          go_roundw
          case rel =>
            refine ⟨k + 1, a4, c4, by omega, by go_num, ?_, ?_, HB4.out⟩
            · rw [HS2.out]; simp
            · rw [HS2.out]; have := HO4.out; simpa using this
          case measure => simp [intOf]; omega
        · have HS2 := hideG (show insB ((nd T p).kids.take (k + 1)) b c = cur ++ [(c : Int), x] by rw [HST.out, hx]; simp)
          go_wp2_with (at_builtin; refine wpList_append_any rfl (.tmp 75) (.tmp 78) 46 rfl w3.heap.size 3 i3 _ 1 8 Try.underlying46 hi3 hz30 hz31 hz32 rfl (by decide) _ cur.length (intCells cur) rfl (HOW.out.alloc _) _ 1 [.int .i64 (c : Int)] rfl (row_new1 _ _) rfl ?h2 ?h3 ?h4 ?h5 ?_)
          case h2 => intro y hy; simp at hy; subst hy; rfl
          case h3 => simp only [maxLen]; omega
          case h4 => omega
          case h5 => simp; omega
          intro v4 w4 ho4 hg4 hf4
          obtain ⟨a4, c4, rfl⟩ := ownsRow_shape ho4
          rw [intCells_snoc] at ho4
          have HO4 := hideG ho4
          have HB4 := hideG ((HBw.out.alloc hsw (.cells #[.int .i64 (c : Int)] 3)).grown hg4 (by simp; omega) (fun j e => (HOW.out.lt j e).1))
          have hs4 := HB4.out.size
          clear ho4 hg4 hf4
          go_wp2_with (at_builtin; refine wpList_append_any rfl (.tmp 80) (.tmp 82) 46 rfl w3.heap.size 3 i3 _ 1 8 Try.underlying46 hi3 hz30 hz31 hz32 rfl (by decide) _ (cur.length + 1) (intCells (cur ++ [(c : Int)])) rfl (HO4.out.alloc _) _ 1 [.int .i64 x] rfl (row_new1 _ _) rfl ?h2 ?h3 ?h4 ?h5 ?_)
          case h2 => intro y hy; simp at hy; subst hy; rfl
          case h3 => simp only [maxLen]; omega
          case h4 => omega
          case h5 => simp; omega
          intro v5 w5 ho5 hg5 hf5
          obtain ⟨a5, c5, rfl⟩ := ownsRow_shape ho5
          rw [intCells_two] at ho5
          have HO5 := hideG ho5
          have HB5 := hideG ((HB4.out.alloc hs4 (.cells #[.int .i64 x] 3)).grown hg5 (by simp; omega) (fun j e => (HO4.out.lt j e).1))
          clear ho5 hg5 hf5
          go_wp2_with fail
          go_roundw
          case rel =>
            refine ⟨k + 1, a5, c5, by omega, by go_num, ?_, ?_, HB5.out⟩
            · rw [HS2.out]; simp
            · rw [HS2.out]; have := HO5.out; simpa using this
          case measure => simp [intOf]; omega
      · have hke : k = (nd T p).kids.length := by omega
        subst hke
        rw [List.take_length] at HOW ⊢
        have r4 := (HBw.out.cell (p := ⟨g, c * 7 + 2, none⟩) hgl).trans c2
        have e3 := (World.frozen?_of_block (a := ⟨g, p * 7 + 3, none⟩) (HBw.out.block g hgl)).trans f3
        have e2 := (World.frozen?_of_block (a := ⟨g, c * 7 + 2, none⟩) (HBw.out.block g hgl)).trans f2
        have hnn : ¬ (p * 7 + 3 = c * 7 + 2) := by omega
        have hle2 := insB_len (nd T p).kids b c
        generalize hcur : insB (nd T p).kids b c = cur at *
        have hcl : cur.length ≤ 200 := by omega
        cases hb1 : (b == -1)
        · have hfin : finL T p c b = withParent (withKids T p cur) c p := by
            unfold finL; rw [hcur, hb1]; simp
          have HL := hideG hfin
          have hnew := HO.out.setKids (n := p) hp (ownsRow_base HOW.out (by omega)) (toGrown HBw.out _) (fun j e => .inr (HOW.out.lt j e).1)
          have HN := hideG (hnew.setParent (n := c) (by rw [withKids_length]; exact hc) (p : Int))
          have HBf := hideG (((HB3.out.trans (HBw.out.mono (by omega))).setCell (p := ⟨g, p * 7 + 3, none⟩) hgb (.slice oa cur.length oc)).setCell (p := ⟨g, c * 7 + 2, none⟩) hgb (.int .i64 (p : Int)))
          clear hnew hfin
          go_wp2_with fail
          go_ret2
          exact ⟨_, rfl, HBf.out, by rw [← HFin.out, HL.out]; exact HN.out.treeAt⟩
        · have hfin : finL T p c b = withParent (withKids T p (cur ++ [(c : Int)])) c p := by
            unfold finL; rw [hcur, hb1]; simp
          have HL := hideG hfin
          clear hfin
          go_wp2_with (at_builtin; refine wpList_append_any rfl (.tmp 87) (.tmp 90) 46 rfl w3.heap.size 3 i3 _ 1 8 Try.underlying46 hi3 hz30 hz31 hz32 rfl (by decide) _ cur.length (intCells cur) rfl (HOW.out.alloc _) _ 1 [.int .i64 (c : Int)] rfl (row_new1 _ _) rfl ?h2 ?h3 ?h4 ?h5 ?_)
          case h2 => intro y hy; simp at hy; subst hy; rfl
          case h3 => simp only [maxLen]; omega
          case h4 => omega
          case h5 => simp; omega
          intro v4 w4 ho4 hg4 hf4
          obtain ⟨a4, c4, rfl⟩ := ownsRow_shape ho4
          rw [intCells_snoc] at ho4
          have HB4 := hideG ((HBw.out.alloc hsw (.cells #[.int .i64 (c : Int)] 3)).grown hg4 (by simp; omega) (fun j e => (HOW.out.lt j e).1))
          have s0 := (HB4.out.cell (p := ⟨w.heap.size, 0, none⟩) hbw).trans z0
          have s1 := (HB4.out.cell (p := ⟨w.heap.size, 1, none⟩) hbw).trans z1
          have s3 := (HB4.out.cell (p := ⟨g, p * 7 + 3, none⟩) hgl).trans c3
          have s4 := (HB4.out.cell (p := ⟨g, c * 7 + 2, none⟩) hgl).trans c2
          have t3 := (World.frozen?_of_block (a := ⟨g, p * 7 + 3, none⟩) (HB4.out.block g hgl)).trans f3
          have t2 := (World.frozen?_of_block (a := ⟨g, c * 7 + 2, none⟩) (HB4.out.block g hgl)).trans f2
          have hlc : (cur ++ [(c : Int)]).length = cur.length + 1 := by simp
          have hnew := HO.out.setKids (n := p) (l := cur ++ [(c : Int)]) hp (by rw [hlc]; exact ownsRow_base ho4 (by omega)) (toGrown HB4.out _) (fun j e => .inr (ho4.lt j e).1)
          have HN := hideG (hnew.setParent (n := c) (by rw [withKids_length]; exact hc) (p : Int))
          have HBf := hideG (((HB3.out.trans (HB4.out.mono (by omega))).setCell (p := ⟨g, p * 7 + 3, none⟩) hgb (.slice a4 (cur.length + 1) c4)).setCell (p := ⟨g, c * 7 + 2, none⟩) hgb (.int .i64 (p : Int)))
          clear hnew ho4 hg4 hf4
          go_wp2_with fail
          go_ret2
          exact ⟨_, rfl, HBf.out, by rw [← HFin.out, HL.out]; exact HN.out.treeAt⟩
  · obtain ⟨q, hq, hqe, hmem⟩ : ∃ q : Nat, q < T.length ∧ (nd T c).parent = (q : Int) ∧ (c : Int) ∈ (nd T q).kids := by
      rcases HFi.out.par c hc with h | h
      · rw [h] at hpp; simp at hpp
      · exact h
    have hpn : ((q : Int) != -1) = true := by simp
    have hfin0 := fin_some HFi.out hF hbc hq hqe hmem
    have h64q := fine_short HFi.out hq
    have h64p := fine_short HFi.out hp
    have hU64 : (nd (withKids T q (withoutL (nd T q).kids c)) p).kids.length ≤ 64 := by
      rw [nd_withKids _ _ _ hq]
      split
      · have := withoutL_le (nd T q).kids c; simp only; omega
      · exact h64p
    have hUl : (withKids T q (withoutL (nd T q).kids c)).length = T.length := withKids_length _ _ _
    have HQ := hideG hqe
    have HFin0 := hideG hfin0
    clear hpp hmem hqe hfin0
    go_enter Try.func29, Try.ntmps29
    go_wp2_with (first | (go_at_call 33; refine (refMay_walk T HS.out _ _ (HT.out.below HB0.out)).mono ?_; rintro e w1 ⟨rfl, hb1⟩; simp only [World.size_alloc] at hb1; have x0 := hb1.cell (p := ⟨w.heap.size, 0, none⟩) (by simp); have x1 := hb1.cell (p := ⟨w.heap.size, 1, none⟩) (by simp); have x2 := hb1.cell (p := ⟨w.heap.size, 2, none⟩) (by simp); simp only [World.cell?_alloc_new] at x0 x1 x2; simp at x0 x1 x2; have hs1 := hb1.size; simp only [World.size_alloc] at hs1; have HB1 := hideG (HB0.out.trans (hb1.mono (by omega))); clear hb1) | (go_at_call 75; refine (refWrong_any T HM.out _ _ _ _ _ (HT.out.below HB1.out)).mono ?_; rintro e w2 ⟨rfl, hb2⟩; have y0 := (hb2.cell (p := ⟨w.heap.size, 0, none⟩) (by simp; omega)).trans x0; have y1 := (hb2.cell (p := ⟨w.heap.size, 1, none⟩) (by simp; omega)).trans x1; have y2 := (hb2.cell (p := ⟨w.heap.size, 2, none⟩) (by simp; omega)).trans x2; have hs2 := hb2.size; have HB2 := hideG (HB1.out.trans (hb2.mono (by omega))); clear hb2 x0 x1 x2) | (go_at_call 26; refine (refCopy_any T HS.out _ _ (HT.out.below HB2.out) h1000).mono ?_; rintro e w3 ⟨v', kv, av, rfl, ho, hb3⟩; obtain ⟨g, cap', rfl⟩ := ownsRow_some ho.row hpos.1; have z0 := (hb3.cell (p := ⟨w.heap.size, 0, none⟩) (by simp; omega)).trans y0; have z1 := (hb3.cell (p := ⟨w.heap.size, 1, none⟩) (by simp; omega)).trans y1; have z2 := (hb3.cell (p := ⟨w.heap.size, 2, none⟩) (by simp; omega)).trans y2; have hs3 := hb3.size; have HB3 := hideG (HB2.out.trans (hb3.mono (by omega))); have ho' := ho.weaken HB2.out.size; have c2 : w3.cell? ⟨g, c * 7 + 2, none⟩ = some (.int .i64 (q : Int)) := (by rw [ho'.row.cellAt (c * 7 + 2) (by omega), rowL_at (by omega), rowCell_at _ _ _ _ _ (by omega), ← HQ.out]; rfl); obtain ⟨ka, kc, hkv⟩ := ownsRow_shape (ho'.kids q hq); have c3 : w3.cell? ⟨g, q * 7 + 3, none⟩ = some (.slice ka (nd T q).kids.length kc) := (by rw [ho'.row.cellAt (q * 7 + 3) (by omega), rowL_at (by omega), rowCell_at _ _ _ _ _ (by omega), ← hkv]; rfl); have f3 := ho'.row.frozenAt (q * 7 + 3); have f2 := ho'.row.frozenAt (c * 7 + 2); have hgl : g < w3.heap.size := (ho'.row.lt g rfl).2; have hgb : w.heap.size ≤ g := (ho'.row.lt g rfl).1; have hki := ownsRow_ints (ho'.kids q hq); rw [hkv] at hki; have HKI := hideG hki; have HO := hideG ho'; clear ho ho' hb3 hkv hki y0 y1 y2))
    have hD : Below w3.heap.size w3 w3.drew := ⟨rfl, rfl, rfl, Nat.le_refl _, fun _ _ => rfl⟩
    have hwo : Calls Try.prog 76 #[.slice ka (nd T q).kids.length kc, .int .i64 c] w3.drew fun e w5 => ∃ xa xl xc, e = .returned (.slice xa xl xc) ∧ w5.cell? ⟨g, q * 7 + 3, none⟩ = some (.slice ka (nd T q).kids.length kc) ∧ w5.frozen? ⟨g, q * 7 + 3, none⟩ = false ∧ w5.cell? ⟨w.heap.size, 1, none⟩ = some (.int .i64 c) ∧
        Hid (Below w3.heap.size w3 w5 ∧ OwnTree (w5.setCell ⟨g, q * 7 + 3, none⟩ (.slice xa xl xc)) w.heap.size (.slice (some ⟨g, 0, none⟩) T.length cap') (withKids T q (withoutL (nd T q).kids c)) (upd kv q (.slice xa xl xc)) av) := by
      refine (refWithout_any (nd T q).kids _ c w3.drew (HKI.out.below hD) (by omega)).mono ?_
      rintro e w5 ⟨xa, xc, rfl, hx, hb5⟩
      have hb5' : Below w3.heap.size w3 w5 := hD.trans hb5
      refine ⟨xa, _, xc, rfl, (hb5'.cell (p := ⟨g, q * 7 + 3, none⟩) hgl).trans c3, (World.frozen?_of_block (a := ⟨g, q * 7 + 3, none⟩) (hb5'.block g hgl)).trans f3, (hb5'.cell (p := ⟨w.heap.size, 1, none⟩) (by simp; omega)).trans z1, hb5', ?_⟩
      have hx' : w5.ownsRow w.heap.size 3 1 (.slice xa (withoutL (nd T q).kids c).length xc) (withoutL (nd T q).kids c).length (intCells (withoutL (nd T q).kids c)) := ownsRow_base hx (show w.heap.size ≤ w3.heap.size by omega)
      exact HO.out.setKids hq hx' (toGrown hb5' _) (fun j e => .inr (hx.lt j e).1)
    have HWO := hideG hwo
    clear hwo hD
    go_region_with (go_at_call 76; refine HWO.out.mono ?_; rintro e w5 ⟨xa, xl, xc, rfl, d3, e3, q1, HX⟩)
    all_goals
      obtain ⟨hb5, ho5⟩ := HX.out
      have hs5 := hb5.size
      have HB6 : Hid (Below w.heap.size w (w5.setCell ⟨g, q * 7 + 3, none⟩ (.slice xa xl xc))) := (HB3.out.trans (hb5.mono (by omega))).setCell (p := ⟨g, q * 7 + 3, none⟩) hgb _
      have m0 : (w5.setCell ⟨g, q * 7 + 3, none⟩ (.slice xa xl xc)).cell? ⟨w.heap.size, 0, none⟩ = some (.int .i64 p) := (World.cell?_setCell_other _ _ _ _ (by simp <;> omega)).trans ((hb5.cell (p := ⟨w.heap.size, 0, none⟩) (by simp; omega)).trans z0)
      have m1 : (w5.setCell ⟨g, q * 7 + 3, none⟩ (.slice xa xl xc)).cell? ⟨w.heap.size, 1, none⟩ = some (.int .i64 c) := (World.cell?_setCell_other _ _ _ _ (by simp <;> omega)).trans ((hb5.cell (p := ⟨w.heap.size, 1, none⟩) (by simp; omega)).trans z1)
      have m2 : (w5.setCell ⟨g, q * 7 + 3, none⟩ (.slice xa xl xc)).cell? ⟨w.heap.size, 2, none⟩ = some (.int .i64 b) := (World.cell?_setCell_other _ _ _ _ (by simp <;> omega)).trans ((hb5.cell (p := ⟨w.heap.size, 2, none⟩) (by simp; omega)).trans z2)
      have hs6 : w3.heap.size ≤ (w5.setCell ⟨g, q * 7 + 3, none⟩ (.slice xa xl xc)).heap.size := by simp; omega
      clear z0 z1 z2 c2 c3 f2 f3 hgl HKI HB3 hb5 d3 e3 q1 HX HWO HO
      generalize (w5.setCell ⟨g, q * 7 + 3, none⟩ (.slice xa xl xc)) = w6 at *
      have HB3 := HB6
      have z0 := m0
      have z1 := m1
      have z2 := m2
      clear HB6 m0 m1 m2
      have HFin := HFin0
      generalize withKids T q (withoutL (nd T q).kids c) = U at *
      generalize upd kv q (.slice xa xl xc) = kv6 at *
      have hr := ho5.row
      rw [hUl] at hr
      have hpU : p < U.length := by omega
      have hcU : c < U.length := by omega
      have c2 : ∃ z, w6.cell? ⟨g, c * 7 + 2, none⟩ = some z := ⟨_, by rw [hr.cellAt (c * 7 + 2) (by omega), rowL_at (by omega)]⟩
      obtain ⟨zz, c2⟩ := c2
      obtain ⟨ka, kc, hkv⟩ := ownsRow_shape (ho5.kids p hpU)
      have c3 : w6.cell? ⟨g, p * 7 + 3, none⟩ = some (.slice ka (nd U p).kids.length kc) := by
        rw [hr.cellAt (p * 7 + 3) (by omega), rowL_at (by omega), rowCell_at _ _ _ _ _ (by omega), ← hkv]; rfl
      have f3 := hr.frozenAt (p * 7 + 3)
      have f2 := hr.frozenAt (c * 7 + 2)
      have hgl : g < w6.heap.size := (hr.lt g rfl).2
      have hki := ownsRow_ints (ho5.kids p hpU)
      rw [hkv] at hki
      have HKI := hideG hki
      have HO := hideG ho5
      clear hki hkv hr ho5
      go_wp2_with fail
      have hbw : w.heap.size < w6.heap.size := by omega
      have hown0 : (w6.alloc (.cells #[] 3)).ownsRow w6.heap.size 3 1 (.slice (some ⟨w6.heap.size, 0, none⟩) 0 0) 0 [] := by
        have := World.ownsRow_made w6 (base := w6.heap.size) (e := 3) (size := 1) #[] 0 (by simp) (by simp [maxLen]) rfl
        simpa using this
      have HOl := hideG hown0
      clear hown0
      go_loopw [9, 10] (fun o i wr => ∃ (k : Nat) (oa : Option Addr) (oc : Nat), k ≤ (nd U p).kids.length ∧ i = .int .i64 k ∧ o = .slice oa (insB ((nd U p).kids.take k) b c).length oc ∧ wr.ownsRow w6.heap.size 3 1 (.slice oa (insB ((nd U p).kids.take k) b c).length oc) (insB ((nd U p).kids.take k) b c).length (intCells (insB ((nd U p).kids.take k) b c)) ∧ Below w6.heap.size w6 wr) (fun _ i _ => (nd U p).kids.length - (intOf i).toNat)
      case atStart => exact ⟨0, some ⟨w6.heap.size, 0, none⟩, 0, Nat.zero_le _, rfl, rfl, HOl.out, (Below.refl _ w6).alloc (Nat.le_refl _) _⟩
      case round =>
        obtain ⟨k, oa, oc, hk, rfl, rfl, hown, hB⟩ := hrel
        have HOW := hideG hown
        have HBw := hideG hB
        have hsw := hB.size
        have r0 := (hB.cell (p := ⟨w.heap.size, 0, none⟩) hbw).trans z0
        have r1 := (hB.cell (p := ⟨w.heap.size, 1, none⟩) hbw).trans z1
        have r2 := (hB.cell (p := ⟨w.heap.size, 2, none⟩) hbw).trans z2
        have r3 := (hB.cell (p := ⟨g, p * 7 + 3, none⟩) hgl).trans c3
        have HKw := hideG (HKI.out.below hB)
        have hle := insB_len ((nd U p).kids.take k) b c
        rw [List.length_take] at hle
        clear hown hB
        by_cases hlt : k < (nd U p).kids.length
        · obtain ⟨ia, icap, hiv, hid⟩ := HKw.out
          simp only [Value.slice.injEq, true_and] at hiv
          obtain ⟨rfl, rfl⟩ := hiv
          obtain ⟨kb, koff, rfl, hd⟩ := hid (by omega)
          have c1 := hd k hlt
          have hst := insB_take hlt b c
          have hkb : kb < wr.heap.size := below_of_cell c1
          clear hd hid
          generalize (nd U p).kids.getD k 0 = x at *
          have HST := hideG hst
          clear hst
          generalize hcur : insB ((nd U p).kids.take k) b c = cur at *
          have hcl : cur.length ≤ 200 := by omega
          cases hx : (x == b)
          · have HS2 := hideG (show insB ((nd U p).kids.take (k + 1)) b c = cur ++ [x] by rw [HST.out, hx]; simp)
            go_wp2_with (at_builtin; refine wpList_append_any rfl (.tmp 80) (.tmp 82) 46 rfl w6.heap.size 3 i3 _ 1 8 Try.underlying46 hi3 hz30 hz31 hz32 rfl (by decide) _ cur.length (intCells cur) rfl (HOW.out.alloc _) _ 1 [.int .i64 x] rfl (row_new1 _ _) rfl ?h2 ?h3 ?h4 ?h5 ?_)
            case h2 => intro y hy; simp at hy; subst hy; rfl
            case h3 => simp only [maxLen]; omega
            case h4 => omega
            case h5 => simp; omega
            intro v4 w4 ho4 hg4 hf4
            obtain ⟨a4, c4, rfl⟩ := ownsRow_shape ho4
            rw [intCells_snoc] at ho4
            have HO4 := hideG ho4
            have HB4 := hideG ((HBw.out.alloc hsw (.cells #[.int .i64 x] 3)).grown hg4 (by simp; omega) (fun j e => (HOW.out.lt j e).1))
            clear ho4 hg4 hf4
            go_wp2_with fail
            go_roundw
            case rel =>
              refine ⟨k + 1, a4, c4, by omega, by go_num, ?_, ?_, HB4.out⟩
              · rw [HS2.out]; simp
              · rw [HS2.out]; have := HO4.out; simpa using this
            case measure => simp [intOf]; omega
          · have HS2 := hideG (show insB ((nd U p).kids.take (k + 1)) b c = cur ++ [(c : Int), x] by rw [HST.out, hx]; simp)
            go_wp2_with (at_builtin; refine wpList_append_any rfl (.tmp 75) (.tmp 78) 46 rfl w6.heap.size 3 i3 _ 1 8 Try.underlying46 hi3 hz30 hz31 hz32 rfl (by decide) _ cur.length (intCells cur) rfl (HOW.out.alloc _) _ 1 [.int .i64 (c : Int)] rfl (row_new1 _ _) rfl ?h2 ?h3 ?h4 ?h5 ?_)
            case h2 => intro y hy; simp at hy; subst hy; rfl
            case h3 => simp only [maxLen]; omega
            case h4 => omega
            case h5 => simp; omega
            intro v4 w4 ho4 hg4 hf4
            obtain ⟨a4, c4, rfl⟩ := ownsRow_shape ho4
            rw [intCells_snoc] at ho4
            have HO4 := hideG ho4
            have HB4 := hideG ((HBw.out.alloc hsw (.cells #[.int .i64 (c : Int)] 3)).grown hg4 (by simp; omega) (fun j e => (HOW.out.lt j e).1))
            have hs4 := HB4.out.size
            clear ho4 hg4 hf4
            go_wp2_with (at_builtin; refine wpList_append_any rfl (.tmp 80) (.tmp 82) 46 rfl w6.heap.size 3 i3 _ 1 8 Try.underlying46 hi3 hz30 hz31 hz32 rfl (by decide) _ (cur.length + 1) (intCells (cur ++ [(c : Int)])) rfl (HO4.out.alloc _) _ 1 [.int .i64 x] rfl (row_new1 _ _) rfl ?h2 ?h3 ?h4 ?h5 ?_)
            case h2 => intro y hy; simp at hy; subst hy; rfl
            case h3 => simp only [maxLen]; omega
            case h4 => omega
            case h5 => simp; omega
            intro v5 w5 ho5 hg5 hf5
            obtain ⟨a5, c5, rfl⟩ := ownsRow_shape ho5
            rw [intCells_two] at ho5
            have HO5 := hideG ho5
            have HB5 := hideG ((HB4.out.alloc hs4 (.cells #[.int .i64 x] 3)).grown hg5 (by simp; omega) (fun j e => (HO4.out.lt j e).1))
            clear ho5 hg5 hf5
            go_wp2_with fail
            go_roundw
            case rel =>
              refine ⟨k + 1, a5, c5, by omega, by go_num, ?_, ?_, HB5.out⟩
              · rw [HS2.out]; simp
              · rw [HS2.out]; have := HO5.out; simpa using this
            case measure => simp [intOf]; omega
        · have hke : k = (nd U p).kids.length := by omega
          subst hke
          rw [List.take_length] at HOW ⊢
          have r4 := (HBw.out.cell (p := ⟨g, c * 7 + 2, none⟩) hgl).trans c2
          have e3 := (World.frozen?_of_block (a := ⟨g, p * 7 + 3, none⟩) (HBw.out.block g hgl)).trans f3
          have e2 := (World.frozen?_of_block (a := ⟨g, c * 7 + 2, none⟩) (HBw.out.block g hgl)).trans f2
          have hnn : ¬ (p * 7 + 3 = c * 7 + 2) := by omega
          have hle2 := insB_len (nd U p).kids b c
          generalize hcur : insB (nd U p).kids b c = cur at *
          have hcl : cur.length ≤ 200 := by omega
          cases hb1 : (b == -1)
          · have hfin : finL U p c b = withParent (withKids U p cur) c p := by
              unfold finL; rw [hcur, hb1]; simp
            have HL := hideG hfin
            have hnew := HO.out.setKids (n := p) hpU (ownsRow_base HOW.out (by omega)) (toGrown HBw.out _) (fun j e => .inr (HOW.out.lt j e).1)
            have HN := hideG (hnew.setParent (n := c) (by rw [withKids_length]; exact hcU) (p : Int))
            have HBf := hideG (((HB3.out.trans (HBw.out.mono (by omega))).setCell (p := ⟨g, p * 7 + 3, none⟩) hgb (.slice oa cur.length oc)).setCell (p := ⟨g, c * 7 + 2, none⟩) hgb (.int .i64 (p : Int)))
            clear hnew hfin
            go_wp2_with fail
            go_ret2
            exact ⟨_, rfl, HBf.out, by rw [← HFin.out, HL.out]; exact HN.out.treeAt⟩
          · have hfin : finL U p c b = withParent (withKids U p (cur ++ [(c : Int)])) c p := by
              unfold finL; rw [hcur, hb1]; simp
            have HL := hideG hfin
            clear hfin
            go_wp2_with (at_builtin; refine wpList_append_any rfl (.tmp 87) (.tmp 90) 46 rfl w6.heap.size 3 i3 _ 1 8 Try.underlying46 hi3 hz30 hz31 hz32 rfl (by decide) _ cur.length (intCells cur) rfl (HOW.out.alloc _) _ 1 [.int .i64 (c : Int)] rfl (row_new1 _ _) rfl ?h2 ?h3 ?h4 ?h5 ?_)
            case h2 => intro y hy; simp at hy; subst hy; rfl
            case h3 => simp only [maxLen]; omega
            case h4 => omega
            case h5 => simp; omega
            intro v4 w4 ho4 hg4 hf4
            obtain ⟨a4, c4, rfl⟩ := ownsRow_shape ho4
            rw [intCells_snoc] at ho4
            have HB4 := hideG ((HBw.out.alloc hsw (.cells #[.int .i64 (c : Int)] 3)).grown hg4 (by simp; omega) (fun j e => (HOW.out.lt j e).1))
            have s0 := (HB4.out.cell (p := ⟨w.heap.size, 0, none⟩) hbw).trans z0
            have s1 := (HB4.out.cell (p := ⟨w.heap.size, 1, none⟩) hbw).trans z1
            have s3 := (HB4.out.cell (p := ⟨g, p * 7 + 3, none⟩) hgl).trans c3
            have s4 := (HB4.out.cell (p := ⟨g, c * 7 + 2, none⟩) hgl).trans c2
            have t3 := (World.frozen?_of_block (a := ⟨g, p * 7 + 3, none⟩) (HB4.out.block g hgl)).trans f3
            have t2 := (World.frozen?_of_block (a := ⟨g, c * 7 + 2, none⟩) (HB4.out.block g hgl)).trans f2
            have hlc : (cur ++ [(c : Int)]).length = cur.length + 1 := by simp
            have hnew := HO.out.setKids (n := p) (l := cur ++ [(c : Int)]) hpU (by rw [hlc]; exact ownsRow_base ho4 (by omega)) (toGrown HB4.out _) (fun j e => .inr (ho4.lt j e).1)
            have HN := hideG (hnew.setParent (n := c) (by rw [withKids_length]; exact hcU) (p : Int))
            have HBf := hideG (((HB3.out.trans (HB4.out.mono (by omega))).setCell (p := ⟨g, p * 7 + 3, none⟩) hgb (.slice a4 (cur.length + 1) c4)).setCell (p := ⟨g, c * 7 + 2, none⟩) hgb (.int .i64 (p : Int)))
            clear hnew ho4 hg4 hf4
            go_wp2_with fail
            go_ret2
            exact ⟨_, rfl, HBf.out, by rw [← HFin.out, HL.out]; exact HN.out.treeAt⟩
end Go.Proofs.Ytoolkpjbbngdpaa
namespace Go.Proofs.Ytoolkpjbbngdpaa
open Go.RowKit

set_option maxRecDepth 100000 in
set_option maxHeartbeats 4000000 in
theorem refInsert_any (T : List Nd) (hS : Sane T) (v : Value) (p c b : Int) (w : World) (hT : TreeAt w v T) :
    Calls Try.prog 29 #[v, .agg #[.int .i64 p, .int .i64 c, .int .i64 b]] w fun e w' => ∃ v', e = .returned (.tuple #[v', .int .i64 (insertE T p c b)]) ∧ Below w.heap.size w w' ∧ TreeAt w' v' (insertR T p c b) := by
  cases hm : mayB T
  · have hE : insertE T p c b = 1 := by simp only [insertE, hm, Bool.false_eq_true, if_false]
    rw [insertR_one hE, hE]
    obtain ⟨a, cap, rfl⟩ := hT.shape
    have HB0 := hideG ((Below.refl _ w).alloc (Nat.le_refl _) (.cells #[.int .i64 p, .int .i64 c, .int .i64 b] 33))
    have HT := hideG hT
    have HS := hideG hS
    clear hT hS hE
    go_enter Try.func29, Try.ntmps29
    go_wp2_with (go_at_call 33; refine (refMay_walk T HS.out _ _ (HT.out.below HB0.out)).mono ?_; rintro e w1 ⟨rfl, hb1⟩; simp only [World.size_alloc] at hb1; have HB1 := hideG (HB0.out.trans (hb1.mono (by omega))); clear hb1)
    go_ret2
    exact ⟨_, rfl, HB1.out, treeAt_nil _⟩
  · have hE : insertE T p c b = insertF T p c b := by simp only [insertE, hm, if_true]
    have hpos := mayB_pos hm
    have h1000 : T.length ≤ 1000 := by omega
    cases h0 : (insertF T p c b != 0)
    · have h0' : insertF T p c b = 0 := by simpa using h0
      obtain ⟨p, c, rfl, rfl, _⟩ := insertF_zero h0'
      rw [h0'] at hE
      rw [insertR_zero hE, hE, Int.toNat_natCast, Int.toNat_natCast]
      cases hbc : (b == (c : Int))
      · exact refInsert_ok T hS v p c b w hT hm h0' hbc
      · have hR : insertL T p c b = T := by unfold insertL; rw [hbc]; rfl
        rw [hR]
        obtain ⟨a, cap, rfl⟩ := hT.shape
        have HB0 := hideG ((Below.refl _ w).alloc (Nat.le_refl _) (.cells #[.int .i64 p, .int .i64 c, .int .i64 b] 33))
        have HT := hideG hT
        have HS := hideG hS
        have HM := hideG hm
        clear hT hS hE hR
        go_enter Try.func29, Try.ntmps29
        go_wp2_with (first | (go_at_call 33; refine (refMay_walk T HS.out _ _ (HT.out.below HB0.out)).mono ?_; rintro e w1 ⟨rfl, hb1⟩; simp only [World.size_alloc] at hb1; have x0 := hb1.cell (p := ⟨w.heap.size, 0, none⟩) (by simp); have x1 := hb1.cell (p := ⟨w.heap.size, 1, none⟩) (by simp); have x2 := hb1.cell (p := ⟨w.heap.size, 2, none⟩) (by simp); simp only [World.cell?_alloc_new] at x0 x1 x2; simp at x0 x1 x2; have hs1 := hb1.size; simp only [World.size_alloc] at hs1; have HB1 := hideG (HB0.out.trans (hb1.mono (by omega))); clear hb1) | (go_at_call 75; refine (refWrong_any T HM.out _ _ _ _ _ (HT.out.below HB1.out)).mono ?_; rintro e w2 ⟨rfl, hb2⟩; have y1 := (hb2.cell (p := ⟨w.heap.size, 1, none⟩) (by simp; omega)).trans x1; have y2 := (hb2.cell (p := ⟨w.heap.size, 2, none⟩) (by simp; omega)).trans x2; have hs2 := hb2.size; have HB2 := hideG (HB1.out.trans (hb2.mono (by omega))); clear hb2 x0 x1 x2) | (go_at_call 26; refine (refCopy_any T HS.out _ _ (HT.out.below HB2.out) h1000).mono ?_; rintro e w3 ⟨v', kv, av, rfl, ho, hb3⟩; obtain ⟨g, cap', rfl⟩ := ownsRow_some ho.row hpos.1; have z1 := (hb3.cell (p := ⟨w.heap.size, 1, none⟩) (by simp; omega)).trans y1; have z2 := (hb3.cell (p := ⟨w.heap.size, 2, none⟩) (by simp; omega)).trans y2; have HB3 := hideG (HB2.out.trans (hb3.mono (by omega))); have HO := hideG ho; clear ho hb3 y1 y2))
        go_ret2
        exact ⟨_, rfl, HB3.out, HO.out.treeAt⟩
    · rw [insertR_else (T := T) (by rw [hE]; exact insertF_ne) (by rw [hE]; simpa using h0), hE]
      obtain ⟨a, cap, rfl⟩ := hT.shape
      have HB0 := hideG ((Below.refl _ w).alloc (Nat.le_refl _) (.cells #[.int .i64 p, .int .i64 c, .int .i64 b] 33))
      have HT := hideG hT
      have HS := hideG hS
      have HM := hideG hm
      clear hT hS hE
      generalize hz : insertF T p c b = z at *
      have HZ := hideG hz
      clear hz
      go_enter Try.func29, Try.ntmps29
      go_wp2_with (first | (go_at_call 33; refine (refMay_walk T HS.out _ _ (HT.out.below HB0.out)).mono ?_; rintro e w1 ⟨rfl, hb1⟩; simp only [World.size_alloc] at hb1; have x0 := hb1.cell (p := ⟨w.heap.size, 0, none⟩) (by simp); have x1 := hb1.cell (p := ⟨w.heap.size, 1, none⟩) (by simp); have x2 := hb1.cell (p := ⟨w.heap.size, 2, none⟩) (by simp); simp only [World.cell?_alloc_new] at x0 x1 x2; simp at x0 x1 x2; have hs1 := hb1.size; simp only [World.size_alloc] at hs1; have HB1 := hideG (HB0.out.trans (hb1.mono (by omega))); clear hb1) | (go_at_call 75; refine (refWrong_any T HM.out _ _ _ _ _ (HT.out.below HB1.out)).mono ?_; rintro e w2 ⟨rfl, hb2⟩; rw [HZ.out]; have HB2 := hideG (HB1.out.trans (hb2.mono (by omega))); clear hb2 x0 x1 x2))
      go_ret2
      exact ⟨_, rfl, HB2.out, HT.out.below HB2.out⟩

theorem sane_insert {T : List Nd} (hS : Sane T) (p c b : Int) : Sane (insertR T p c b) := by
  by_cases h1 : insertE T p c b = 1
  · rw [insertR_one h1]; exact fun n hn => by simp at hn
  · by_cases h0 : insertE T p c b = 0
    · have hm : mayB T = true := by
        cases e : mayB T
        · exact absurd (by simp only [insertE, e, Bool.false_eq_true, if_false]) h1
        · rfl
      have hF : insertF T p c b = 0 := by simpa only [insertE, hm, if_true] using h0
      rw [insertR_zero h0]
      obtain ⟨p, c, rfl, rfl, _⟩ := insertF_zero hF
      rw [Int.toNat_natCast, Int.toNat_natCast]
      obtain ⟨f1, f2⟩ := fine_insert (mayB_fine hm) hF
      exact f2.sane f1 hS
    · rw [insertR_else h1 h0]; exact hS
theorem sane_remove {T : List Nd} (hS : Sane T) (c : Int) : Sane (removeR T c) := by
  by_cases h1 : removeE T c = 1
  · rw [removeR_one h1]; exact fun n hn => by simp at hn
  · by_cases h0 : removeE T c = 0
    · have hm : mayB T = true := by
        cases e : mayB T
        · exact absurd (by simp only [removeE, e, Bool.false_eq_true, if_false]) h1
        · rfl
      rw [removeR_zero h0]
      cases hi : isNodeB T.length c
      · simp only [removeE, hm, hi, Bool.false_eq_true, if_false, if_true] at h0
        exact absurd h0 (by decide)
      · obtain ⟨c, rfl, hc⟩ := isNodeB_true hi
        rw [Int.toNat_natCast]
        have hF := mayB_fine hm
        exact (takeL_same hc (fine_placed hF hc)).sane (fine_take hF hc).1 hS
    · rw [removeR_else h1 h0]; exact hS
theorem insertR_le (T : List Nd) (p c b : Int) : (insertR T p c b).length ≤ T.length := by
  unfold insertR
  split
  · simp
  · split
    · unfold insertL
      split
      · exact Nat.le_refl _
      · rw [layL_length, takeL_length]; exact Nat.le_refl _
    · exact Nat.le_refl _
theorem removeR_le (T : List Nd) (c : Int) : (removeR T c).length ≤ T.length := by
  unfold removeR
  split
  · simp
  · split
    · rw [takeL_length]; exact Nat.le_refl _
    · exact Nat.le_refl _
set_option maxRecDepth 100000 in
set_option maxHeartbeats 4000000 in
theorem moves_walk (T : List Nd) (v : Value) (p c b : Int) (w : World) (hT : TreeAt w v T) :
    Calls Try.prog 4 #[v, .agg #[.int .i64 p, .int .i64 c, .int .i64 b]] w fun e w' => e = .returned (.bool true) ∧ Below w.heap.size w w' := by
  have HA := hideG ((Below.refl _ w).alloc (Nat.le_refl _) (.cells #[.int .i64 p, .int .i64 c, .int .i64 b] 33))
  have HT0 := hideG hT
  have HT := hideG (hT.below HA.out)
  obtain ⟨a, cap, rfl⟩ := hT.shape
  clear hT
  cases hs : smallB T
  · go_enter Try.func4, Try.ntmps4
    go_wp2_with (first | (go_at_call 19; refine (refSmall_any T _ _ HT.out).mono ?_; rintro e w1 ⟨rfl, rfl⟩) | (go_at_call 20; refine (live1_any _).mono ?_; rintro e w2 ⟨rfl, hb2⟩; simp only [World.size_alloc] at hb2))
    go_ret
    exact ⟨rfl, HA.out.trans (hb2.mono (by omega))⟩
  · have HS := hideG (small_sane hs)
    have h70 := (smallB_at hs).1
    have h1000 : T.length ≤ 1000 := by omega
    have m1 := insertR_le T p c b
    have m2 := removeR_le T c
    have m1' : (insertR T p c b).length ≤ 1000000 := by omega
    have m2' : (removeR T c).length ≤ 1000000 := by omega
    have m3' : T.length ≤ 1000000 := by omega
    clear m1 m2
    generalize hE : insertE T p c b = ze at *
    generalize hE2 : removeE T c = ze2 at *
    have HE := hideG hE
    have HE2 := hideG hE2
    clear hE hE2
    go_enter Try.func4, Try.ntmps4
    go_wp2_with (first | (go_at_call 19; refine (refSmall_any T _ _ HT.out).mono ?_; rintro e w1 ⟨rfl, rfl⟩) | (go_at_call 26; refine (refCopy_any T HS.out _ _ HT.out h1000).mono ?_; rintro e w1 ⟨v1, kv, av, rfl, ho, hb1⟩; obtain ⟨a1, c1, rfl⟩ := ownsRow_shape ho.row; simp only [World.size_alloc] at hb1; have x0 := hb1.cell (p := ⟨w.heap.size, 0, none⟩) (by simp); have x1 := hb1.cell (p := ⟨w.heap.size, 1, none⟩) (by simp); have x2 := hb1.cell (p := ⟨w.heap.size, 2, none⟩) (by simp); simp only [World.cell?_alloc_new] at x0 x1 x2; simp at x0 x1 x2; have hs1 := hb1.size; simp only [World.size_alloc] at hs1; have HB1 := hideG (HA.out.trans (hb1.mono (by omega))); have HWas := hideG ho.treeAt; clear hb1 ho) | (go_at_call 28; refine (own_any _ _ _ _).mono ?_; rintro e w2 ⟨rfl, hb2⟩; have y0 := (hb2.cell (p := ⟨w.heap.size, 0, none⟩) (by simp; omega)).trans x0; have y1 := (hb2.cell (p := ⟨w.heap.size, 1, none⟩) (by simp; omega)).trans x1; have y2 := (hb2.cell (p := ⟨w.heap.size, 2, none⟩) (by simp; omega)).trans x2; have hs2 := hb2.size; have HB2 := hideG (HB1.out.trans (hb2.mono (by omega))); have HWas2 := hideG (HWas.out.below hb2); clear hb2 x0 x1 x2 HWas) | (go_at_call 27; refine (insert_any T HS.out _ _ _ _ _ (HT0.out.below HB2.out)).mono ?_; rintro e w3 ⟨v3, rfl, hb3, ht3⟩; rw [HE.out]; obtain ⟨a3, c3, rfl⟩ := ht3.shape; have z0 := (hb3.cell (p := ⟨w.heap.size, 0, none⟩) (by simp; omega)).trans y0; have z1 := (hb3.cell (p := ⟨w.heap.size, 1, none⟩) (by simp; omega)).trans y1; have z2 := (hb3.cell (p := ⟨w.heap.size, 2, none⟩) (by simp; omega)).trans y2; have hs3 := hb3.size; have HB3 := hideG (HB2.out.trans (hb3.mono (by omega))); have HWas3 := hideG (HWas2.out.below hb3); have HI3 := hideG ht3; clear hb3 ht3 y0 y1 y2 HWas2) | (go_at_call 29; refine (refInsert_any T HS.out _ _ _ _ _ (HT0.out.below HB3.out)).mono ?_; rintro e w4 ⟨v4, rfl, hb4, ht4⟩; rw [HE.out]; obtain ⟨a4, c4, rfl⟩ := ht4.shape; have u1 := (hb4.cell (p := ⟨w.heap.size, 1, none⟩) (by simp; omega)).trans z1; have hs4 := hb4.size; have HB4 := hideG (HB3.out.trans (hb4.mono (by omega))); have HWas4 := hideG (HWas3.out.below hb4); have HI4 := hideG (HI3.out.below hb4); have HJ4 := hideG ht4; clear hb4 ht4 z0 z1 z2 HWas3 HI3) | (go_at_call 30; refine (remove_any T HS.out _ _ _ (HT0.out.below HB4.out)).mono ?_; rintro e w5 ⟨v5, rfl, hb5, ht5⟩; rw [HE2.out]; obtain ⟨a5, c5, rfl⟩ := ht5.shape; have t1 := (hb5.cell (p := ⟨w.heap.size, 1, none⟩) (by simp; omega)).trans u1; have hs5 := hb5.size; have HB5 := hideG (HB4.out.trans (hb5.mono (by omega))); have HWas5 := hideG (HWas4.out.below hb5); have HI5 := hideG (HI4.out.below hb5); have HJ5 := hideG (HJ4.out.below hb5); have HR5 := hideG ht5; clear hb5 ht5 u1 HWas4 HI4 HJ4) | (go_at_call 31; refine (refRemove_any T HS.out _ _ _ (HT0.out.below HB5.out)).mono ?_; rintro e w6 ⟨v6, rfl, hb6, ht6⟩; rw [HE2.out]; obtain ⟨a6, c6, rfl⟩ := ht6.shape; have HB6 := hideG (HB5.out.trans (hb6.mono (by omega))); have HWas6 := hideG (HWas5.out.below hb6); have HI6 := hideG (HI5.out.below hb6); have HJ6 := hideG (HJ5.out.below hb6); have HR6 := hideG (HR5.out.below hb6); have HQ6 := hideG ht6; clear hb6 ht6 t1 HWas5 HI5 HJ5 HR5) | (go_at_call 25; refine (refSame_any (insertR T p c b) (insertR T p c b) (sane_insert HS.out p c b) _ _ _ HI6.out HJ6.out m1').mono ?_; rintro e w7 ⟨rfl, hb7⟩; rw [decide_eq_true rfl]; have HB7 := hideG (HB6.out.trans (hb7.mono HB6.out.size)); have HWas7 := hideG (HWas6.out.below hb7); have HR7 := hideG (HR6.out.below hb7); have HQ7 := hideG (HQ6.out.below hb7); clear hb7 HI6) | (go_at_call 25; refine (refSame_any (removeR T c) (removeR T c) (sane_remove HS.out c) _ _ _ HR7.out HQ7.out m2').mono ?_; rintro e w8 ⟨rfl, hb8⟩; rw [decide_eq_true rfl]; have HB8 := hideG (HB7.out.trans (hb8.mono HB7.out.size)); have HWas8 := hideG (HWas7.out.below hb8); clear hb8 HR7) | (go_at_call 25; refine (refSame_any T T HS.out _ _ _ (HT0.out.below HB8.out) HWas8.out m3').mono ?_; rintro e w9 ⟨rfl, hb9⟩; rw [decide_eq_true rfl]; have HB9 := hideG (HB8.out.trans (hb9.mono HB8.out.size)); clear hb9) | (go_at_call 20; refine (live1_any _).mono ?_; rintro e w10 ⟨rfl, hb10⟩))
    go_ret
    exact ⟨rfl, HB9.out.trans (hb10.mono HB9.out.size)⟩
end Go.Proofs.Ytoolkpjbbngdpaa
