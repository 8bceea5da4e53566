/- A tree that may be stays one: laid in, made, attached. -/
import Derived.Test.YtoolkpjbbngdpaaStays1
namespace Go.Proofs.Ytoolkpjbbngdpaa
open Go.RowKit

theorem mem_insL {l : List Int} {k : Nat} {x y : Int} : y ∈ insL l k x ↔ y = x ∨ y ∈ l := by
  unfold insL
  have h : y ∈ l ↔ y ∈ l.take k ∨ y ∈ l.drop k := by
    rw [← List.mem_append, List.take_append_drop]
  rw [h]
  simp only [List.mem_append, List.mem_singleton]
  constructor
  · rintro ((h | h) | h)
    · exact .inr (.inl h)
    · exact .inl h
    · exact .inr (.inr h)
  · rintro (h | h | h)
    · exact .inl (.inr h)
    · exact .inl (.inl h)
    · exact .inr h
theorem nodup_insL {l : List Int} (h : l.Nodup) {x : Int} (hx : x ∉ l) (k : Nat) : (insL l k x).Nodup := by
  unfold insL
  have h' : (l.take k ++ l.drop k).Nodup := by rw [List.take_append_drop]; exact h
  rw [List.nodup_append] at h'
  obtain ⟨h1, h2, h3⟩ := h'
  have hm : ∀ y, y ∈ l.take k ∨ y ∈ l.drop k → y ≠ x := fun y hy e => hx (e ▸ (by rw [← List.take_append_drop k l]; exact List.mem_append.mpr hy))
  rw [List.nodup_append, List.nodup_append]
  refine ⟨⟨h1, by simp, fun a ha b hb => ?_⟩, h2, fun a ha b hb => ?_⟩
  · rw [List.mem_singleton] at hb; subst hb; exact hm a (.inl ha)
  · rcases List.mem_append.mp ha with ha | ha
    · exact h3 a ha b hb
    · rw [List.mem_singleton] at ha; subst ha; exact (hm b (.inr hb)).symm

theorem layL_nd {T : List Nd} {p c : Nat} {b : Int} (hp : p < T.length) (hc : c < T.length) (hne : c ≠ p) (m : Nat) :
    nd (layL T p c b) m = if m = c then { nd T c with parent := (p : Int) } else if m = p then { nd T p with kids := insL (nd T p).kids (layAt T p b) c } else nd T m := by
  unfold layL
  rw [nd_withParent _ _ _ (by rw [withKids_length]; exact hc), nd_withKids _ _ _ hp, nd_withKids _ _ _ hp, if_neg hne]
theorem layL_same {T : List Nd} {p c : Nat} {b : Int} (hp : p < T.length) (hc : c < T.length) (hne : c ≠ p) : SameBut T (layL T p c b) := by
  refine ⟨layL_length T p c b, fun n hn => ?_⟩
  rw [layL_nd hp hc hne]
  by_cases h1 : n = c
  · subst h1; rw [if_pos rfl]; exact ⟨rfl, rfl, rfl, rfl, rfl⟩
  · rw [if_neg h1]
    by_cases h2 : n = p
    · subst h2; rw [if_pos rfl]; exact ⟨rfl, rfl, rfl, rfl, rfl⟩
    · rw [if_neg h2]; exact ⟨rfl, rfl, rfl, rfl, rfl⟩

theorem fine_lay {T : List Nd} (h : Fine T) {p c : Nat} {b : Int} (hp : p < T.length) (hc : c < T.length) (hne : c ≠ p) (h2 : (nd T p).kind ≠ 2) (hk : canBeKidB (nd T c).kind = true) (hpc : (nd T c).parent = -1) (hsub : ¬ Sub T c p) : Fine (layL T p c b) := by
  have hs := layL_same (b := b) hp hc hne
  have hnd := layL_nd (T := T) (b := b) hp hc hne
  have h3 := kid_not_shadow hk
  have hnot : ∀ q, q < T.length → (c : Int) ∉ (nd T q).kids := fun q hq hm => by
    obtain ⟨m, e1, _, _, e2⟩ := kidP_iff.mp (h.kid q hq _ hm)
    obtain rfl : c = m := by omega
    rw [hpc] at e2; omega
  have hpar : ∀ n, n ≠ c → (nd (layL T p c b) n).parent = (nd T n).parent := fun n h1 => by
    rw [hnd, if_neg h1]
    by_cases e : n = p
    · rw [if_pos e, e]
    · rw [if_neg e]
  have hpar1 : (nd (layL T p c b) c).parent = (p : Int) := by rw [hnd, if_pos rfl]
  have hkids : ∀ q, (nd (layL T p c b) q).kids = if q = p then insL (nd T p).kids (layAt T p b) c else (nd T q).kids := fun q => by
    rw [hnd]
    by_cases h1 : q = c
    · subst h1; rw [if_pos rfl, if_neg hne]
    · rw [if_neg h1]
      by_cases e : q = p
      · rw [if_pos e, if_pos e]
      · rw [if_neg e, if_neg e]
  refine h.of_same hs ?_ ?_ ?_ ?_ ?_
  · intro n hn hkn
    rw [hkids, if_neg (show ¬ n = p from fun e => h2 (by rw [← e]; exact hkn))]
    exact h.text n hn hkn
  · intro q hq k hk'
    have old : k ∈ (nd T q).kids → KidP (layL T p c b) q k := fun hm => by
      obtain ⟨m, rfl, hml, hkk, hmp⟩ := kidP_iff.mp (h.kid q hq k hm)
      have hmc : m ≠ c := fun e => hnot q hq (e ▸ hm)
      exact ⟨m, rfl, by rw [hs.len]; exact hml, by rw [(hs.at_ m hml).1]; exact hkk, by rw [hpar m hmc]; exact hmp⟩
    rw [hkids] at hk'
    by_cases e : q = p
    · subst e
      rw [if_pos rfl] at hk'
      rcases mem_insL.mp hk' with rfl | hm
      · exact ⟨c, rfl, by rw [hs.len]; exact hc, by rw [(hs.at_ c hc).1]; exact hk, hpar1⟩
      · exact old hm
    · rw [if_neg e] at hk'; exact old hk'
  · intro q hq
    rw [hkids]
    by_cases e : q = p
    · rw [if_pos e]; exact nodup_insL (h.nodup p hp) (hnot p hp) _
    · rw [if_neg e]; exact h.nodup q hq
  · intro n hn
    by_cases h1 : n = c
    · subst h1
      exact .inr ⟨p, hp, hpar1, by rw [hkids, if_pos rfl]; exact mem_insL.mpr (.inl rfl)⟩
    · rw [hpar n h1]
      rcases h.par n hn with e | ⟨q, hq, e, hm⟩
      · exact .inl e
      · refine .inr ⟨q, hq, e, ?_⟩
        rw [hkids]
        by_cases e' : q = p
        · subst e'; rw [if_pos rfl]; exact mem_insL.mpr (.inr hm)
        · rw [if_neg e']; exact hm
  · obtain ⟨r, hr⟩ := h.rank
    refine ⟨fun x => open Classical in if Sub T c x then r x + r p + 1 else r x, fun n m hn hm he => ?_⟩
    show (open Classical in if Sub T c m then r m + r p + 1 else r m) < (open Classical in if Sub T c n then r n + r p + 1 else r n)
    by_cases h1 : n = c
    · subst h1
      have hmp : m = p := by
        rw [hnd, if_pos rfl, over_parent (x := { nd T n with parent := (p : Int) }) h3] at he
        simp only at he
        omega
      subst hmp
      rw [if_neg hsub, if_pos Sub.refl]
      omega
    · have he' : overI (nd T n) = (m : Int) := by
        rw [hnd, if_neg h1] at he
        by_cases e : n = p
        · subst e; rw [if_pos rfl] at he; exact he
        · rw [if_neg e] at he; exact he
      have hlt := hr n m hn hm he'
      by_cases hS : Sub T c m
      · rw [if_pos hS, if_pos (Sub.step he' hS)]; omega
      · have : ¬ Sub T c n := fun hx => by
          cases hx with
          | refl => exact h1 rfl
          | step he2 hS2 =>
            rw [he'] at he2
            have := Int.ofNat.inj he2
            subst this
            exact hS hS2
        rw [if_neg hS, if_neg this]; exact hlt

theorem sub_take {T : List Nd} (h : Fine T) {c : Nat} (hc : c < T.length) {x : Nat} (hs : Sub (takeL T c) c x) : Sub T c x := by
  have hov := (fine_take h hc).2.2
  induction hs with
  | refl => exact Sub.refl
  | step he _ ih => exact Sub.step (hov _ _ he) ih

theorem fine_insert {T : List Nd} (h : Fine T) {p c : Nat} {b : Int} (e : insertF T p c b = 0) : Fine (insertL T p c b) ∧ SameBut T (insertL T p c b) := by
  obtain ⟨p', c', e1, e2, hp, hc, h2, hk, hcp, han, _⟩ := insertF_zero e
  obtain rfl : p = p' := by omega
  obtain rfl : c = c' := by omega
  unfold insertL
  cases hb : (b == (c : Int))
  · simp only [Bool.false_eq_true, if_false]
    obtain ⟨h1, h3, _⟩ := fine_take h hc
    have hs := takeL_same hc (fine_placed h hc)
    have hsub : ¬ Sub (takeL T c) c p := fun hx => by
      rcases sub_anc (fine_mayB h) (sub_take h hc hx) hp with e' | e'
      · exact hcp e'.symm
      · rw [han] at e'; cases e'
    exact ⟨fine_lay h1 (by rw [takeL_length]; exact hp) (by rw [takeL_length]; exact hc) hcp (by rw [(hs.at_ p hp).1]; exact h2) (by rw [(hs.at_ c hc).1]; exact hk) h3 hsub,
      hs.trans (layL_same (by rw [takeL_length]; exact hp) (by rw [takeL_length]; exact hc) hcp)⟩
  · simp only [if_true]
    exact ⟨h, SameBut.refl T⟩

/-- One node more, which nobody knows but its host. -/
theorem fine_make {T : List Nd} (h : Fine T) {k t : Int} (hk : ((k != 1 && k != 2) || !tagFitsB k t) = false) (hl : T.length ≠ 64) : Fine (T ++ [lonex k t]) := by
  have len : (T ++ [lonex k t]).length = T.length + 1 := by simp
  rw [Bool.or_eq_false_iff, Bool.not_eq_false'] at hk
  obtain ⟨hk1, ht⟩ := hk
  have hk12 : k = 1 ∨ k = 2 := by
    by_cases e : k = 1
    · exact .inl e
    · by_cases e2 : k = 2
      · exact .inr e2
      · simp [e, e2] at hk1
  have old : ∀ n, n < T.length → nd (T ++ [lonex k t]) n = nd T n := fun n hn => nd_snoc_lt T _ hn
  have new : nd (T ++ [lonex k t]) T.length = lonex k t := nd_snoc_eq T _
  have split : ∀ n, n < T.length + 1 → n < T.length ∨ n = T.length := fun n hn => by omega
  have hpos := h.pos
  have hle := h.le
  refine ⟨by omega, by omega, ?_, ?_, ?_, ?_, ?_, ?_, ?_, ?_, ?_⟩
  · intro n hn; rw [len] at hn
    rcases split n hn with hl' | rfl
    · rw [old n hl']; exact h.kind n hl'
    · rw [new]
      have e0 : ((T.length : Int) == 0) = false := by rw [beq_eq_false_iff_ne]; omega
      unfold kindFitsB
      rw [e0]
      show ((canBeKidB k || k == 3) && tagFitsB k t) = true
      rw [ht]
      rcases hk12 with rfl | rfl <;> rfl
  · intro n hn; rw [len] at hn
    rw [hostP_iff]
    rcases split n hn with hl' | rfl
    · rcases hostP_iff.mp (h.host n hl') with ⟨e1, e2⟩ | ⟨e1, g, hg, e2, e3, e4⟩
      · exact .inl ⟨by rw [old n hl']; exact e1, by rw [old n hl']; exact e2⟩
      · exact .inr ⟨by rw [old n hl']; exact e1, g, by omega, by rw [old n hl']; exact e2, by rw [old g hg]; exact e3, by rw [old g hg]; exact e4⟩
    · refine .inl ⟨?_, by rw [new]; rfl⟩
      rw [new]
      show k ≠ 3
      rcases hk12 with rfl | rfl <;> decide
  · intro n hn; rw [len] at hn
    rw [rootP_iff]
    rcases split n hn with hl' | rfl
    · rcases rootP_iff.mp (h.root n hl') with e1 | ⟨e1, g, hg, e2, e3, e4⟩
      · exact .inl (by rw [old n hl']; exact e1)
      · exact .inr ⟨by rw [old n hl']; exact e1, g, by omega, by rw [old n hl']; exact e2, by rw [old g hg]; exact e3, by rw [old g hg]; exact e4⟩
    · exact .inl (by rw [new]; rfl)
  · intro n hn; rw [len] at hn
    rcases split n hn with hl' | rfl
    · rw [old n hl']; exact h.attrs n hl'
    · rw [new]; rfl
  · intro n hn hkn; rw [len] at hn
    rcases split n hn with hl' | rfl
    · rw [old n hl'] at hkn ⊢; exact h.text n hl' hkn
    · rw [new]; rfl
  · intro p hp q hq; rw [len] at hp
    rw [kidP_iff]
    rcases split p hp with hl' | rfl
    · rw [old p hl'] at hq
      obtain ⟨m, rfl, hml, hkk, hmp⟩ := kidP_iff.mp (h.kid p hl' q hq)
      exact ⟨m, rfl, by omega, by rw [old m hml]; exact hkk, by rw [old m hml]; exact hmp⟩
    · rw [new] at hq; simp [lonex] at hq
  · intro p hp; rw [len] at hp
    rcases split p hp with hl' | rfl
    · rw [old p hl']; exact h.nodup p hl'
    · rw [new]; simp [lonex]
  · intro n hn; rw [len] at hn
    rcases split n hn with hl' | rfl
    · rw [old n hl']
      rcases h.par n hl' with e | ⟨p, hp, e, hm⟩
      · exact .inl e
      · exact .inr ⟨p, by omega, e, by rw [old p hp]; exact hm⟩
    · exact .inl (by rw [new]; rfl)
  · obtain ⟨r, hr⟩ := h.rank
    refine ⟨r, fun n m hn hm he => ?_⟩
    rw [len] at hn
    rcases split n hn with hl' | rfl
    · rw [old n hl'] at he
      exact hr n m hl' (fine_up h hl' he) he
    · rw [new] at he
      exfalso
      have : overI (lonex k t) = -1 := by
        rw [over_parent (x := lonex k t) (by show k ≠ 3; rcases hk12 with rfl | rfl <;> decide)]; rfl
      omega

theorem attachL_nd {T : List Nd} {h : Nat} (hh : h < T.length) (m : Nat) (hm : m < T.length + 1) :
    nd (attachL T h) m = if m = T.length then ⟨3, 0, -1, [], (h : Int), -1, []⟩ else if m = h then { nd T h with root := (T.length : Int) } else nd T m := by
  unfold attachL
  have len : (T ++ [lonex 3 0]).length = T.length + 1 := by simp
  have hT1 : T.length < (T ++ [lonex 3 0]).length := by rw [len]; omega
  have hh1 : h < (withHost (T ++ [lonex 3 0]) T.length (h : Int)).length := by rw [withHost_length, len]; omega
  rw [nd_withRoot _ _ _ hh1]
  by_cases e2 : m = h
  · subst e2
    rw [if_pos rfl, nd_withHost _ _ _ hT1, if_neg (show ¬ m = T.length by omega), if_neg (show ¬ m = T.length by omega), if_pos rfl, nd_snoc_lt T _ hh]
  · rw [if_neg e2, nd_withHost _ _ _ hT1, nd_snoc_eq]
    by_cases e : m = T.length
    · rw [if_pos e, if_pos e]; rfl
    · rw [if_neg e, if_neg e, if_neg e2, nd_snoc_lt T _ (by omega)]
theorem attachL_length (T : List Nd) (h : Nat) : (attachL T h).length = T.length + 1 := by
  unfold attachL
  rw [withRoot_length, withHost_length]; simp

theorem fine_attach {T : List Nd} (h : Fine T) {g : Nat} (hg : g < T.length) (hk : (nd T g).kind = 1) (hr0 : (nd T g).root = -1) (hl : T.length ≠ 64) : Fine (attachL T g) := by
  have len := attachL_length T g
  have new : nd (attachL T g) T.length = ⟨3, 0, -1, [], (g : Int), -1, []⟩ := by rw [attachL_nd hg _ (by omega), if_pos rfl]
  have old : ∀ n, n < T.length → (nd (attachL T g) n).kind = (nd T n).kind ∧ (nd (attachL T g) n).tag = (nd T n).tag ∧ (nd (attachL T g) n).parent = (nd T n).parent ∧ (nd (attachL T g) n).kids = (nd T n).kids ∧ (nd (attachL T g) n).host = (nd T n).host ∧ (nd (attachL T g) n).attrs = (nd T n).attrs ∧ (nd (attachL T g) n).root = if n = g then (T.length : Int) else (nd T n).root := fun n hn => by
    rw [attachL_nd hg n (by omega), if_neg (by omega)]
    by_cases e : n = g
    · subst e; rw [if_pos rfl, if_pos rfl]; exact ⟨rfl, rfl, rfl, rfl, rfl, rfl, rfl⟩
    · rw [if_neg e, if_neg e]; exact ⟨rfl, rfl, rfl, rfl, rfl, rfl, rfl⟩
  have split : ∀ n, n < T.length + 1 → n < T.length ∨ n = T.length := fun n hn => by omega
  have hpos := h.pos
  have hle := h.le
  refine ⟨by omega, by omega, ?_, ?_, ?_, ?_, ?_, ?_, ?_, ?_, ?_⟩
  · intro n hn; rw [len] at hn
    rcases split n hn with hl' | rfl
    · obtain ⟨o1, o2, _⟩ := old n hl'
      have := h.kind n hl'
      unfold kindFitsB at this ⊢
      rw [o1, o2]; exact this
    · rw [new]
      have e0 : ((T.length : Int) == 0) = false := by rw [beq_eq_false_iff_ne]; omega
      unfold kindFitsB
      rw [e0]; rfl
  · intro n hn; rw [len] at hn
    rw [hostP_iff]
    rcases split n hn with hl' | rfl
    · obtain ⟨o1, o2, o3, o4, o5, o6, o7⟩ := old n hl'
      rcases hostP_iff.mp (h.host n hl') with ⟨e1, e2⟩ | ⟨e1, q, hq, e2, e3, e4⟩
      · exact .inl ⟨by rw [o1]; exact e1, by rw [o5]; exact e2⟩
      · obtain ⟨p1, p2, p3, p4, p5, p6, p7⟩ := old q hq
        refine .inr ⟨by rw [o1]; exact e1, q, by omega, by rw [o5]; exact e2, by rw [p1]; exact e3, ?_⟩
        rw [p7, if_neg (fun e => by rw [e, hr0] at e4; omega)]; exact e4
    · obtain ⟨p1, p2, p3, p4, p5, p6, p7⟩ := old g hg
      refine .inr ⟨by rw [new], g, by omega, by rw [new], by rw [p1]; exact hk, by rw [p7, if_pos rfl]⟩
  · intro n hn; rw [len] at hn
    rw [rootP_iff]
    rcases split n hn with hl' | rfl
    · obtain ⟨o1, o2, o3, o4, o5, o6, o7⟩ := old n hl'
      by_cases e : n = g
      · subst e
        rw [if_pos rfl] at o7
        exact .inr ⟨by rw [o1]; exact hk, T.length, by omega, o7, by rw [new], by rw [new]⟩
      · rw [if_neg e] at o7
        rcases rootP_iff.mp (h.root n hl') with e1 | ⟨e1, q, hq, e2, e3, e4⟩
        · exact .inl (by rw [o7]; exact e1)
        · obtain ⟨p1, p2, p3, p4, p5, p6, p7⟩ := old q hq
          exact .inr ⟨by rw [o1]; exact e1, q, by omega, by rw [o7]; exact e2, by rw [p1]; exact e3, by rw [p5]; exact e4⟩
    · exact .inl (by rw [new])
  · intro n hn; rw [len] at hn
    rcases split n hn with hl' | rfl
    · obtain ⟨o1, o2, o3, o4, o5, o6, o7⟩ := old n hl'
      rw [o1, o6]; exact h.attrs n hl'
    · rw [new]; rfl
  · intro n hn hkn; rw [len] at hn
    rcases split n hn with hl' | rfl
    · obtain ⟨o1, o2, o3, o4, o5, o6, o7⟩ := old n hl'
      rw [o4]; rw [o1] at hkn; exact h.text n hl' hkn
    · rw [new]
  · intro p hp q hq; rw [len] at hp
    rw [kidP_iff]
    rcases split p hp with hl' | rfl
    · rw [(old p hl').2.2.2.1] at hq
      obtain ⟨m, rfl, hml, hkk, hmp⟩ := kidP_iff.mp (h.kid p hl' q hq)
      exact ⟨m, rfl, by omega, by rw [(old m hml).1]; exact hkk, by rw [(old m hml).2.2.1]; exact hmp⟩
    · rw [new] at hq; simp at hq
  · intro p hp; rw [len] at hp
    rcases split p hp with hl' | rfl
    · rw [(old p hl').2.2.2.1]; exact h.nodup p hl'
    · rw [new]; simp
  · intro n hn; rw [len] at hn
    rcases split n hn with hl' | rfl
    · rw [(old n hl').2.2.1]
      rcases h.par n hl' with e | ⟨p, hp, e, hm⟩
      · exact .inl e
      · exact .inr ⟨p, by omega, e, by rw [(old p hp).2.2.2.1]; exact hm⟩
    · exact .inl (by rw [new])
  · obtain ⟨r, hr⟩ := h.rank
    refine ⟨fun x => if x = T.length then r g + 1 else r x, fun n m hn hm he => ?_⟩
    show (if m = T.length then r g + 1 else r m) < (if n = T.length then r g + 1 else r n)
    rw [len] at hn
    rcases split n hn with hl' | rfl
    · have he' : overI (nd T n) = (m : Int) := by
        unfold overI at he ⊢
        rw [(old n hl').1, (old n hl').2.2.1, (old n hl').2.2.2.2.1] at he
        exact he
      have hml := fine_up h hl' he'
      rw [if_neg (by omega), if_neg (by omega)]
      exact hr n m hl' hml he'
    · rw [new] at he
      have : m = g := by
        have e1 : overI (⟨3, 0, -1, [], (g : Int), -1, []⟩ : Nd) = (g : Int) := rfl
        omega
      subst this
      rw [if_neg (by omega), if_pos rfl]
      omega
end Go.Proofs.Ytoolkpjbbngdpaa
