/- tree.Insert and tree.Remove. -/
import Derived.Test.YtoolkpjbbngdpaaInsF
import Derived.Test.YtoolkpjbbngdpaaLay
namespace Go.Proofs.Ytoolkpjbbngdpaa
open Go.RowKit

def insertE (T : List Nd) (p c b : Int) : Int := if mayB T then insertF T p c b else 1
def insertL (T : List Nd) (p c : Nat) (b : Int) : List Nd := if b == (c : Int) then T else layL (takeL T c) p c b
def insertR (T : List Nd) (p c b : Int) : List Nd :=
  if insertE T p c b == 1 then [] else if insertE T p c b == 0 then insertL T p.toNat c.toNat b else T
def removeE (T : List Nd) (c : Int) : Int := if mayB T then (if isNodeB T.length c then (if (nd T c.toNat).parent == -1 then 3 else 0) else 2) else 1
def removeR (T : List Nd) (c : Int) : List Nd :=
  if removeE T c == 1 then [] else if removeE T c == 0 then takeL T c.toNat else T

theorem insertR_one {T : List Nd} {p c b : Int} (e : insertE T p c b = 1) : insertR T p c b = [] := by simp [insertR, e]
theorem insertR_zero {T : List Nd} {p c b : Int} (e : insertE T p c b = 0) : insertR T p c b = insertL T p.toNat c.toNat b := by simp [insertR, e]
theorem insertR_else {T : List Nd} {p c b : Int} (h1 : insertE T p c b ≠ 1) (h0 : insertE T p c b ≠ 0) : insertR T p c b = T := by simp [insertR, h1, h0]
theorem removeR_one {T : List Nd} {c : Int} (e : removeE T c = 1) : removeR T c = [] := by simp [removeR, e]
theorem removeR_zero {T : List Nd} {c : Int} (e : removeE T c = 0) : removeR T c = takeL T c.toNat := by simp [removeR, e]
theorem removeR_else {T : List Nd} {c : Int} (h1 : removeE T c ≠ 1) (h0 : removeE T c ≠ 0) : removeR T c = T := by simp [removeR, h1, h0]

theorem fine_placed {T : List Nd} (h : Fine T) {c : Nat} (hc : c < T.length) : Placed1 T c := by
  rcases h.par c hc with e | ⟨p, hp, e, hm⟩
  · exact .inl e
  · exact .inr ⟨p, hp, e, hm⟩
/-- No list of kids is long. -/
theorem fine_short {T : List Nd} (h : Fine T) {n : Nat} (hn : n < T.length) : (nd T n).kids.length ≤ 64 := by
  have hnd := h.nodup n hn
  have hk := h.kid n hn
  have h1 : ((nd T n).kids.map Int.toNat).Nodup := by
    have : ∀ l : List Int, l.Nodup → (∀ k ∈ l, 0 ≤ k) → (l.map Int.toNat).Nodup := by
      intro l hl hp
      induction l with
      | nil => simp
      | cons a l ih =>
        rw [List.nodup_cons] at hl
        rw [List.map_cons, List.nodup_cons]
        refine ⟨fun hm => ?_, ih hl.2 (fun k hk => hp k (List.mem_cons_of_mem _ hk))⟩
        obtain ⟨x, hx, he⟩ := List.mem_map.mp hm
        have h1 := hp a (List.mem_cons_self ..)
        have h2 := hp x (List.mem_cons_of_mem _ hx)
        have : x = a := by omega
        exact hl.1 (this ▸ hx)
    exact this _ hnd (fun k hk' => by
      obtain ⟨m, hm, _⟩ := isNodeB_true (hk k hk').1
      omega)
  have h2 := pigeon T.length _ h1 (fun x hx => by
    obtain ⟨k, hk', rfl⟩ := List.mem_map.mp hx
    obtain ⟨m, hm, hl⟩ := isNodeB_true (hk k hk').1
    omega)
  rw [List.length_map] at h2
  have := h.le
  omega
theorem takeL_length (T : List Nd) (c : Nat) : (takeL T c).length = T.length := by
  unfold takeL
  split
  · rfl
  · rw [withParent_length, withKids_length]
theorem layL_length (T : List Nd) (p c : Nat) (b : Int) : (layL T p c b).length = T.length := by
  unfold layL
  rw [withParent_length, withKids_length]

theorem insertF_zero {T : List Nd} {p c b : Int} (e : insertF T p c b = 0) : ∃ p' c' : Nat, p = p' ∧ c = c' ∧ p' < T.length ∧ c' < T.length ∧ (nd T p').kind ≠ 2 ∧ canBeKidB (nd T c').kind = true ∧ c' ≠ p' ∧ isAncB T c' p' = false ∧ (b = -1 ∨ ∃ q : Nat, b = q ∧ q < T.length ∧ (nd T q).parent = (p' : Int)) := by
  unfold insertF at e
  cases h1 : (!isNodeB T.length p || (!isNodeB T.length c || (b != -1 && !isNodeB T.length b)))
  · rw [h1] at e
    simp only [Bool.or_eq_false_iff, Bool.not_eq_false'] at h1
    obtain ⟨hp, hc, hb⟩ := h1
    obtain ⟨p', rfl, hp'⟩ := isNodeB_true hp
    obtain ⟨c', rfl, hc'⟩ := isNodeB_true hc
    simp only [Bool.false_eq_true, if_false, Int.toNat_natCast] at e
    cases h2 : ((nd T p').kind == 2 || !canBeKidB (nd T c').kind)
    · rw [h2] at e
      simp only [Bool.or_eq_false_iff, Bool.not_eq_false'] at h2
      simp only [Bool.false_eq_true, if_false] at e
      cases h3 : ((c' : Int) == p' || isAncB T c' p')
      · simp only [h3, Bool.false_eq_true, if_false] at e
        simp only [Bool.or_eq_false_iff] at h3
        cases h4 : (b != -1 && (nd T b.toNat).parent != (p' : Int))
        · refine ⟨p', c', rfl, rfl, hp', hc', by simpa using h2.1, h2.2, by have := h3.1; simp at this; omega, h3.2, ?_⟩
          cases hb1 : (b != -1)
          · exact .inl (by simpa using hb1)
          · rw [hb1, Bool.true_and, Bool.not_eq_false'] at hb
            obtain ⟨q, rfl, hq⟩ := isNodeB_true hb
            rw [hb1, Bool.true_and, Int.toNat_natCast] at h4
            exact .inr ⟨q, rfl, hq, by simpa using h4⟩
        · simp [h4] at e
      · simp [h3] at e
    · rw [h2] at e; simp at e
  · rw [h1] at e; simp at e

theorem takeL_nd {T : List Nd} {c q : Nat} (hc : c < T.length) (hq : q < T.length) (e : (nd T c).parent = (q : Int)) (m : Nat) :
    nd (takeL T c) m = if m = c then { (if c = q then { nd T q with kids := cutL (nd T q).kids (idxL c (nd T q).kids) } else nd T c) with parent := -1 } else if m = q then { nd T q with kids := cutL (nd T q).kids (idxL c (nd T q).kids) } else nd T m := by
  unfold takeL
  rw [e, if_neg (by simp), Int.toNat_natCast, nd_withParent _ _ _ (by rw [withKids_length]; exact hc), nd_withKids _ _ _ hq, nd_withKids _ _ _ hq]
theorem takeL_none {T : List Nd} {c : Nat} (e : (nd T c).parent = -1) : takeL T c = T := by
  unfold takeL
  rw [e]; rfl

theorem mem_cutL_of_ne {l : List Int} {x c : Int} (h : x ∈ l) (hne : x ≠ c) : x ∈ cutL l (idxL c l) := by
  unfold cutL
  have h' : x ∈ l.take (idxL c l) ++ l.drop (idxL c l) := by rw [List.take_append_drop]; exact h
  clear h
  rcases List.mem_append.mp h' with h | h
  · exact List.mem_append.mpr (.inl h)
  · refine List.mem_append.mpr (.inr ?_)
    clear h'
    induction l with
    | nil => simp at h
    | cons a l ih =>
      simp only [idxL] at h ⊢
      cases e : (c == a)
      · rw [e] at h
        simp only [Bool.false_eq_true, if_false, List.drop_succ_cons] at h ⊢
        exact ih h
      · rw [e] at h
        simp only [if_true, List.drop_zero, Nat.zero_add, List.drop_succ_cons] at h ⊢
        rcases List.mem_cons.mp h with rfl | h
        · exact absurd (by simpa using e) (fun e' : c = x => hne e'.symm)
        · exact h
theorem mem_of_cutL {l : List Int} {x : Int} {k : Nat} (h : x ∈ cutL l k) : x ∈ l := by
  unfold cutL at h
  rcases List.mem_append.mp h with h | h
  · exact List.mem_of_mem_take h
  · exact List.mem_of_mem_drop h

/-- Whoever the child is put ahead of is a kid of the parent, also once the child has been taken out. -/
theorem before_stays {T : List Nd} (hF : Fine T) {p c : Nat} {b : Int} (hc : c < T.length) (hcp : c ≠ p) (hb : b = -1 ∨ ∃ q : Nat, b = q ∧ q < T.length ∧ (nd T q).parent = (p : Int)) (hbc : b ≠ c) :
    b = -1 ∨ b ∈ (nd (takeL T c) p).kids := by
  rcases hb with h | ⟨q, rfl, hq, hqp⟩
  · exact .inl h
  · right
    have hmem : (q : Int) ∈ (nd T p).kids := by
      rcases hF.par q hq with h | ⟨i, hi, h, hm⟩
      · rw [hqp] at h; omega
      · have : i = p := by omega
        exact this ▸ hm
    rcases hF.par c hc with h | ⟨i, hi, h, hm⟩
    · rw [takeL_none h]; exact hmem
    · rw [takeL_nd hc hi h, if_neg (fun e => hcp e.symm)]
      by_cases e : p = i
      · subst e
        rw [if_pos rfl]
        exact mem_cutL_of_ne hmem hbc
      · rw [if_neg e]; exact hmem
theorem takeL_kids_len {T : List Nd} (hF : Fine T) {c : Nat} (hc : c < T.length) {n : Nat} (hn : n < T.length) : (nd (takeL T c) n).kids.length ≤ 900000 := by
  have h64 := fine_short hF hn
  rcases hF.par c hc with h | ⟨i, hi, h, hm⟩
  · rw [takeL_none h]; omega
  · have hcut : ∀ l : List Int, ∀ k, (cutL l k).length ≤ l.length := fun l k => by unfold cutL; simp; omega
    rw [takeL_nd hc hi h]
    have hi64 := fine_short hF hi
    have := hcut (nd T i).kids (idxL c (nd T i).kids)
    split
    · rename_i e; subst e
      split
      · simp only; omega
      · simp only; omega
    · split
      · simp only; omega
      · omega

set_option maxRecDepth 100000 in
set_option maxHeartbeats 4000000 in
theorem insert_ok (T : List Nd) (hS : Sane T) (v : Value) (p c : Nat) (b : Int) (w : World) (hT : TreeAt w v T) (hm : mayB T = true) (hF : insertF T p c b = 0) :
    Calls Try.prog 27 #[v, .agg #[.int .i64 p, .int .i64 c, .int .i64 b]] w fun e w' => ∃ v' kv av, e = .returned (.tuple #[v', .int .i64 0]) ∧ Below w.heap.size w w' ∧ OwnTree w' w.heap.size v' (insertL T p c b) kv av := by
  obtain ⟨p', c', e1, e2, hp, hc, _, _, hcp, _, hb⟩ := insertF_zero hF
  obtain rfl : p = p' := by omega
  obtain rfl : c = c' := by omega
  clear e1 e2
  have hfine := mayB_fine hm
  have hpos := mayB_pos hm
  have h1000 : T.length ≤ 1000 := by omega
  obtain ⟨a, cap, rfl⟩ := hT.shape
  have HB0 := hideG ((Below.refl _ w).alloc (Nat.le_refl _) (.cells #[.int .i64 p, .int .i64 c, .int .i64 b] 37))
  have HT := hideG hT
  have HS := hideG hS
  have HM := hideG hm
  have HFi := hideG hfine
  have HBS := hideG hb
  clear hT hS hfine hb
  cases hbc : (b == (c : Int))
  · have hne : (b != (c : Int)) = true := by simp only [bne, hbc, Bool.not_false]
    have hbc' : b ≠ (c : Int) := by simpa using hbc
    have HR := hideG (show insertL T p c b = layL (takeL T c) p c b by simp only [insertL, hbc, Bool.false_eq_true, if_false])
    clear hbc
    go_enter Try.func27, Try.ntmps27
    go_wp2_with (first | (go_at_call 67; refine (mayBe_any T HS.out _ _ (HT.out.below HB0.out)).mono ?_; rintro e w1 ⟨rfl, hb1⟩; simp only [World.size_alloc] at hb1; have x0 := hb1.cell (p := ⟨w.heap.size, 0, none⟩) (by simp); have x1 := hb1.cell (p := ⟨w.heap.size, 1, none⟩) (by simp); have x2 := hb1.cell (p := ⟨w.heap.size, 2, none⟩) (by simp); simp only [World.cell?_alloc_new] at x0 x1 x2; simp at x0 x1 x2; have hs1 := hb1.size; simp only [World.size_alloc] at hs1; have HB1 := hideG (HB0.out.trans (hb1.mono (by omega))); clear hb1) | (go_at_call 72; refine (insertFault_any T HM.out _ _ _ _ _ (HT.out.below HB1.out)).mono ?_; rintro e w2 ⟨rfl, hb2⟩; have y0 := (hb2.cell (p := ⟨w.heap.size, 0, none⟩) (by simp; omega)).trans x0; have y1 := (hb2.cell (p := ⟨w.heap.size, 1, none⟩) (by simp; omega)).trans x1; have y2 := (hb2.cell (p := ⟨w.heap.size, 2, none⟩) (by simp; omega)).trans x2; have hs2 := hb2.size; have HB2 := hideG (HB1.out.trans (hb2.mono (by omega))); clear hb2 x0 x1 x2) | (go_at_call 69; refine (copy_any T HS.out _ _ (HT.out.below HB2.out) hpos.1 h1000).mono ?_; rintro e w3 ⟨v', kv, av, rfl, ho, hb3⟩; obtain ⟨g, cap', rfl⟩ := ownsRow_some ho.row hpos.1; have z0 := (hb3.cell (p := ⟨w.heap.size, 0, none⟩) (by simp; omega)).trans y0; have z1 := (hb3.cell (p := ⟨w.heap.size, 1, none⟩) (by simp; omega)).trans y1; have z2 := (hb3.cell (p := ⟨w.heap.size, 2, none⟩) (by simp; omega)).trans y2; have hs3 := hb3.size; have HB3 := hideG (HB2.out.trans (hb3.mono (by omega))); have HO := hideG ho; clear ho hb3 y0 y1 y2) | (go_at_call 73; refine (takeOut_any _ T (fun n hn => by have := fine_short HFi.out hn; omega) g cap' kv av c _ HO.out hs3 hc (by omega) (fine_placed HFi.out hc)).mono ?_; rintro e w4 ⟨rfl, hb4, kv4, ho4⟩; have u0 := (hb4.cell (p := ⟨w.heap.size, 0, none⟩) (by simp; omega)).trans z0; have u1 := (hb4.cell (p := ⟨w.heap.size, 1, none⟩) (by simp; omega)).trans z1; have u2 := (hb4.cell (p := ⟨w.heap.size, 2, none⟩) (by simp; omega)).trans z2; have hs4 := hb4.size; have HB4 := hideG (HB3.out.trans (hb4.mono (by omega))); have HO4 := hideG ho4; clear ho4 hb4 z0 z1 z2) | (go_at_call 74; rw [← takeL_length T c]; refine (layIn_any _ (takeL T c) (fun n hn => takeL_kids_len HFi.out hc (by rwa [takeL_length] at hn)) g cap' kv4 av p c b _ (by rw [takeL_length]; exact HO4.out) (by omega) (by rw [takeL_length]; exact hp) (by rw [takeL_length]; exact hc) (by rw [takeL_length]; omega) (before_stays HFi.out hc hcp HBS.out hbc')).mono ?_; rintro e w5 ⟨rfl, hb5, kv5, ho5⟩; rw [takeL_length] at ho5 ⊢; have HB5 := hideG (HB4.out.trans (hb5.mono (by omega))); have HO5 := hideG ho5; clear ho5 hb5))
    go_ret2
    exact ⟨_, _, _, rfl, HB5.out, by rw [HR.out]; exact HO5.out.weaken (by omega)⟩
  · have hne : (b != (c : Int)) = false := by simp only [bne, hbc, Bool.not_true]
    have HR := hideG (show insertL T p c b = T by simp only [insertL, hbc, if_true])
    clear hbc
    go_enter Try.func27, Try.ntmps27
    go_wp2_with (first | (go_at_call 67; refine (mayBe_any T HS.out _ _ (HT.out.below HB0.out)).mono ?_; rintro e w1 ⟨rfl, hb1⟩; simp only [World.size_alloc] at hb1; have x0 := hb1.cell (p := ⟨w.heap.size, 0, none⟩) (by simp); have x1 := hb1.cell (p := ⟨w.heap.size, 1, none⟩) (by simp); have x2 := hb1.cell (p := ⟨w.heap.size, 2, none⟩) (by simp); simp only [World.cell?_alloc_new] at x0 x1 x2; simp at x0 x1 x2; have hs1 := hb1.size; simp only [World.size_alloc] at hs1; have HB1 := hideG (HB0.out.trans (hb1.mono (by omega))); clear hb1) | (go_at_call 72; refine (insertFault_any T HM.out _ _ _ _ _ (HT.out.below HB1.out)).mono ?_; rintro e w2 ⟨rfl, hb2⟩; have y0 := (hb2.cell (p := ⟨w.heap.size, 0, none⟩) (by simp; omega)).trans x0; have y1 := (hb2.cell (p := ⟨w.heap.size, 1, none⟩) (by simp; omega)).trans x1; have y2 := (hb2.cell (p := ⟨w.heap.size, 2, none⟩) (by simp; omega)).trans x2; have hs2 := hb2.size; have HB2 := hideG (HB1.out.trans (hb2.mono (by omega))); clear hb2 x0 x1 x2) | (go_at_call 69; refine (copy_any T HS.out _ _ (HT.out.below HB2.out) hpos.1 h1000).mono ?_; rintro e w3 ⟨v', kv, av, rfl, ho, hb3⟩; obtain ⟨g, cap', rfl⟩ := ownsRow_some ho.row hpos.1; have z0 := (hb3.cell (p := ⟨w.heap.size, 0, none⟩) (by simp; omega)).trans y0; have z1 := (hb3.cell (p := ⟨w.heap.size, 1, none⟩) (by simp; omega)).trans y1; have z2 := (hb3.cell (p := ⟨w.heap.size, 2, none⟩) (by simp; omega)).trans y2; have hs3 := hb3.size; have HB3 := hideG (HB2.out.trans (hb3.mono (by omega))); have HO := hideG ho; clear ho hb3 y0 y1 y2))
    go_ret2
    exact ⟨_, _, _, rfl, HB3.out, by rw [HR.out]; exact HO.out.weaken (by omega)⟩

set_option maxRecDepth 100000 in
set_option maxHeartbeats 4000000 in
theorem insert_any (T : List Nd) (hS : Sane T) (v : Value) (p c b : Int) (w : World) (hT : TreeAt w v T) :
    Calls Try.prog 27 #[v, .agg #[.int .i64 p, .int .i64 c, .int .i64 b]] w fun e w' => ∃ v', e = .returned (.tuple #[v', .int .i64 (insertE T p c b)]) ∧ Below w.heap.size w w' ∧ TreeAt w' v' (insertR T p c b) := by
  cases hm : mayB T
  · have hE : insertE T p c b = 1 := by simp only [insertE, hm, Bool.false_eq_true, if_false]
    rw [insertR_one hE, hE]
    obtain ⟨a, cap, rfl⟩ := hT.shape
    have HB0 := hideG ((Below.refl _ w).alloc (Nat.le_refl _) (.cells #[.int .i64 p, .int .i64 c, .int .i64 b] 37))
    have HT := hideG hT
    have HS := hideG hS
    clear hT hS hE
    go_enter Try.func27, Try.ntmps27
    go_wp2_with (go_at_call 67; refine (mayBe_any T HS.out _ _ (HT.out.below HB0.out)).mono ?_; rintro e w1 ⟨rfl, hb1⟩; simp only [World.size_alloc] at hb1; have HB1 := hideG (HB0.out.trans (hb1.mono (by omega))); clear hb1)
    go_ret2
    exact ⟨_, rfl, HB1.out, treeAt_nil _⟩
  · have hE : insertE T p c b = insertF T p c b := by simp only [insertE, hm, if_true]
    cases h0 : (insertF T p c b != 0)
    · have h0' : insertF T p c b = 0 := by simpa using h0
      obtain ⟨p, c, rfl, rfl, _⟩ := insertF_zero h0'
      rw [h0'] at hE
      rw [insertR_zero hE, hE, Int.toNat_natCast, Int.toNat_natCast]
      refine (insert_ok T hS v p c b w hT hm h0').mono ?_
      rintro e w' ⟨v', kv, av, rfl, hb, ho⟩
      exact ⟨v', rfl, hb, ho.treeAt⟩
    · rw [insertR_else (T := T) (by rw [hE]; exact insertF_ne) (by rw [hE]; simpa using h0), hE]
      obtain ⟨a, cap, rfl⟩ := hT.shape
      have HB0 := hideG ((Below.refl _ w).alloc (Nat.le_refl _) (.cells #[.int .i64 p, .int .i64 c, .int .i64 b] 37))
      have HT := hideG hT
      have HS := hideG hS
      have HM := hideG hm
      clear hT hS hE
      generalize hz : insertF T p c b = z at *
      have HZ := hideG hz
      clear hz
      go_enter Try.func27, Try.ntmps27
      go_wp2_with (first | (go_at_call 67; refine (mayBe_any T HS.out _ _ (HT.out.below HB0.out)).mono ?_; rintro e w1 ⟨rfl, hb1⟩; simp only [World.size_alloc] at hb1; have x0 := hb1.cell (p := ⟨w.heap.size, 0, none⟩) (by simp); have x1 := hb1.cell (p := ⟨w.heap.size, 1, none⟩) (by simp); have x2 := hb1.cell (p := ⟨w.heap.size, 2, none⟩) (by simp); simp only [World.cell?_alloc_new] at x0 x1 x2; simp at x0 x1 x2; have hs1 := hb1.size; simp only [World.size_alloc] at hs1; have HB1 := hideG (HB0.out.trans (hb1.mono (by omega))); clear hb1) | (go_at_call 72; refine (insertFault_any T HM.out _ _ _ _ _ (HT.out.below HB1.out)).mono ?_; rintro e w2 ⟨rfl, hb2⟩; rw [HZ.out]; have hs2 := hb2.size; have HB2 := hideG (HB1.out.trans (hb2.mono (by omega))); clear hb2 x0 x1 x2))
      go_ret2
      exact ⟨_, rfl, HB2.out, HT.out.below HB2.out⟩

set_option maxRecDepth 100000 in
set_option maxHeartbeats 4000000 in
theorem remove_any (T : List Nd) (hS : Sane T) (v : Value) (c : Int) (w : World) (hT : TreeAt w v T) :
    Calls Try.prog 30 #[v, .int .i64 c] w fun e w' => ∃ v', e = .returned (.tuple #[v', .int .i64 (removeE T c)]) ∧ Below w.heap.size w w' ∧ TreeAt w' v' (removeR T c) := by
  cases hm : mayB T
  · have hE : removeE T c = 1 := by simp only [removeE, hm, Bool.false_eq_true, if_false]
    rw [removeR_one hE, hE]
    obtain ⟨a, cap, rfl⟩ := hT.shape
    have HT := hideG hT
    have HS := hideG hS
    clear hT hS hE
    go_enter Try.func30, Try.ntmps30
    go_wp2_with (go_at_call 67; refine (mayBe_any T HS.out _ _ HT.out).mono ?_; rintro e w1 ⟨rfl, hb1⟩)
    go_ret2
    exact ⟨_, rfl, hb1, treeAt_nil _⟩
  · cases hi : isNodeB T.length c
    · have hE : removeE T c = 2 := by simp only [removeE, hm, hi, Bool.false_eq_true, if_false, if_true]
      rw [removeR_else (T := T) (by rw [hE]; decide) (by rw [hE]; decide), hE]
      obtain ⟨a, cap, rfl⟩ := hT.shape
      have HT := hideG hT
      have HS := hideG hS
      clear hT hS hE
      go_enter Try.func30, Try.ntmps30
      go_wp2_with (first | (go_at_call 67; refine (mayBe_any T HS.out _ _ HT.out).mono ?_; rintro e w1 ⟨rfl, hb1⟩) | (go_at_call 77; refine (isNode_any _ _ _ _ _).mono ?_; rintro e w2 ⟨rfl, rfl⟩))
      go_ret2
      exact ⟨_, rfl, hb1, HT.out.below hb1⟩
    · obtain ⟨c, rfl, hc⟩ := isNodeB_true hi
      have hpos := mayB_pos hm
      have h1000 : T.length ≤ 1000 := by omega
      have HFi := hideG (mayB_fine hm)
      have HT := hideG hT
      have HS := hideG hS
      obtain ⟨ba, off, cap, rfl, hcc⟩ := hT.at (by omega)
      obtain ⟨kvc, avc, hNc⟩ := hcc c hc
      have k2 := hNc.parent
      have hbz : ba < w.heap.size := below_of_cell k2
      clear hNc hcc hT hS
      cases hp : ((nd T c).parent == -1)
      · have hE : removeE T c = 0 := by simp only [removeE, hm, hi, hp, Bool.false_eq_true, if_false, if_true, Int.toNat_natCast]
        rw [removeR_zero hE, hE, Int.toNat_natCast]
        clear hE
        go_enter Try.func30, Try.ntmps30
        go_wp2_with (first | (go_at_call 67; refine (mayBe_any T HS.out _ _ HT.out).mono ?_; rintro e w1 ⟨rfl, hb1⟩; have y2 := (hb1.cell (p := ⟨ba, off + c * 7 + 2, none⟩) hbz).trans k2) | (go_at_call 77; refine (isNode_any _ _ _ _ _).mono ?_; rintro e w2 ⟨rfl, rfl⟩) | (go_at_call 69; refine (copy_any T HS.out _ _ (HT.out.below hb1) hpos.1 h1000).mono ?_; rintro e w3 ⟨v', kv, av, rfl, ho, hb3⟩; obtain ⟨g, cap', rfl⟩ := ownsRow_some ho.row hpos.1; have hs3 := hb3.size; have HB3 := hideG (hb1.trans (hb3.mono hb1.size)); have HO := hideG ho; clear ho hb3) | (go_at_call 73; refine (takeOut_any _ T (fun n hn => by have := fine_short HFi.out hn; omega) g cap' kv av c _ HO.out hs3 hc (by omega) (fine_placed HFi.out hc)).mono ?_; rintro e w4 ⟨rfl, hb4, kv4, ho4⟩; have HB4 := hideG (HB3.out.trans (hb4.mono hb1.size)); have HO4 := hideG ho4; clear ho4 hb4))
        go_ret2
        exact ⟨_, rfl, HB4.out, HO4.out.treeAt⟩
      · have hE : removeE T c = 3 := by simp only [removeE, hm, hi, hp, if_true, Int.toNat_natCast]
        rw [removeR_else (T := T) (by rw [hE]; decide) (by rw [hE]; decide), hE]
        clear hE
        go_enter Try.func30, Try.ntmps30
        go_wp2_with (first | (go_at_call 67; refine (mayBe_any T HS.out _ _ HT.out).mono ?_; rintro e w1 ⟨rfl, hb1⟩; have y2 := (hb1.cell (p := ⟨ba, off + c * 7 + 2, none⟩) hbz).trans k2) | (go_at_call 77; refine (isNode_any _ _ _ _ _).mono ?_; rintro e w2 ⟨rfl, rfl⟩))
        go_ret2
        exact ⟨_, rfl, hb1, HT.out.below hb1⟩
end Go.Proofs.Ytoolkpjbbngdpaa
