/- A tree that may be stays one: the pure part. -/
import Derived.Test.YtoolkpjbbngdpaaInsert
namespace Go.Proofs.Ytoolkpjbbngdpaa
open Go.RowKit

def HostP (T : List Nd) (n : Nat) : Prop := ((nd T n).kind ≠ 3 ∧ (nd T n).host = -1) ∨ ((nd T n).kind = 3 ∧ ∃ h : Nat, h < T.length ∧ (nd T n).host = (h : Int) ∧ (nd T h).kind = 1 ∧ (nd T h).root = (n : Int))
def RootP (T : List Nd) (n : Nat) : Prop := (nd T n).root = -1 ∨ ((nd T n).kind = 1 ∧ ∃ r : Nat, r < T.length ∧ (nd T n).root = (r : Int) ∧ (nd T r).kind = 3 ∧ (nd T r).host = (n : Int))
def KidP (T : List Nd) (p : Nat) (k : Int) : Prop := ∃ m : Nat, k = m ∧ m < T.length ∧ canBeKidB (nd T m).kind = true ∧ (nd T m).parent = (p : Int)

theorem hostP_iff {T : List Nd} {n : Nat} : hostFitsB T n = true ↔ HostP T n := by
  unfold hostFitsB HostP
  by_cases hk : (nd T n).kind = 3
  · rw [hk]
    simp only [bne_self_eq_false, Bool.false_eq_true, if_false, Bool.and_eq_true, beq_iff_eq]
    constructor
    · rintro ⟨⟨h1, h2⟩, h3⟩
      obtain ⟨m, hm, hl⟩ := isNodeB_true h1
      rw [hm, Int.toNat_natCast] at h2 h3
      exact .inr ⟨trivial, m, hl, hm, h2, h3⟩
    · rintro (⟨h, _⟩ | ⟨_, m, hl, hm, h2, h3⟩)
      · exact absurd rfl h
      · rw [hm, Int.toNat_natCast]
        exact ⟨⟨by simp [isNodeB]; omega, h2⟩, h3⟩
  · have e : ((nd T n).kind != 3) = true := by simpa using hk
    rw [e]
    simp only [if_true, beq_iff_eq]
    constructor
    · intro h; exact .inl ⟨hk, h⟩
    · rintro (⟨_, h⟩ | ⟨h, _⟩)
      · exact h
      · exact absurd h hk
theorem rootP_iff {T : List Nd} {n : Nat} : rootFitsB T n = true ↔ RootP T n := by
  unfold rootFitsB RootP
  by_cases hr : (nd T n).root = -1
  · rw [hr]; simp
  · by_cases hk : (nd T n).kind = 1
    · have e : ((nd T n).kind != 1 || (nd T n).root == -1) = false := by simp [hk, hr]
      rw [e]
      simp only [Bool.false_eq_true, if_false, Bool.and_eq_true, beq_iff_eq]
      constructor
      · rintro ⟨⟨h1, h2⟩, h3⟩
        obtain ⟨m, hm, hl⟩ := isNodeB_true h1
        rw [hm, Int.toNat_natCast] at h2 h3
        exact .inr ⟨hk, m, hl, hm, h2, h3⟩
      · rintro (h | ⟨_, m, hl, hm, h2, h3⟩)
        · exact absurd h hr
        · rw [hm, Int.toNat_natCast]
          exact ⟨⟨by simp [isNodeB]; omega, h2⟩, h3⟩
    · have e : ((nd T n).kind != 1 || (nd T n).root == -1) = true := by simp [hk]
      rw [e]
      simp only [if_true, beq_iff_eq]
      constructor
      · intro h; exact absurd h hr
      · rintro (h | ⟨h, _⟩)
        · exact h
        · exact absurd h hk
theorem kidP_iff {T : List Nd} {p : Nat} {k : Int} : kidFine T p k ↔ KidP T p k := by
  constructor
  · rintro ⟨h1, h2, h3⟩
    obtain ⟨m, rfl, hl⟩ := isNodeB_true h1
    rw [Int.toNat_natCast] at h2 h3
    exact ⟨m, rfl, hl, h2, h3⟩
  · rintro ⟨m, rfl, hl, h2, h3⟩
    exact ⟨by simp [isNodeB]; omega, by rwa [Int.toNat_natCast], by rwa [Int.toNat_natCast]⟩

/-- Two trees of the same nodes, but for kids and parents. -/
structure SameBut (T T' : List Nd) : Prop where
  len : T'.length = T.length
  at_ : ∀ n, n < T.length → (nd T' n).kind = (nd T n).kind ∧ (nd T' n).tag = (nd T n).tag ∧ (nd T' n).host = (nd T n).host ∧ (nd T' n).root = (nd T n).root ∧ (nd T' n).attrs = (nd T n).attrs

theorem SameBut.refl (T : List Nd) : SameBut T T := ⟨rfl, fun _ _ => ⟨rfl, rfl, rfl, rfl, rfl⟩⟩
theorem SameBut.trans {A B C : List Nd} (h : SameBut A B) (k : SameBut B C) : SameBut A C :=
  ⟨k.len.trans h.len, fun n hn => by
    obtain ⟨a1, a2, a3, a4, a5⟩ := h.at_ n hn
    obtain ⟨b1, b2, b3, b4, b5⟩ := k.at_ n (by rw [h.len]; exact hn)
    exact ⟨b1.trans a1, b2.trans a2, b3.trans a3, b4.trans a4, b5.trans a5⟩⟩

theorem Fine.of_same {T T' : List Nd} (h : Fine T) (s : SameBut T T') (text : ∀ n, n < T.length → (nd T n).kind = 2 → (nd T' n).kids = []) (kid : ∀ p, p < T.length → ∀ k, k ∈ (nd T' p).kids → KidP T' p k) (nodup : ∀ p, p < T.length → (nd T' p).kids.Nodup)
    (par : ∀ n, n < T.length → (nd T' n).parent = -1 ∨ ∃ p, p < T.length ∧ (nd T' n).parent = (p : Int) ∧ (n : Int) ∈ (nd T' p).kids)
    (rank : ∃ r : Nat → Nat, ∀ n m : Nat, n < T.length → m < T.length → overI (nd T' n) = (m : Int) → r m < r n) : Fine T' := by
  refine ⟨by rw [s.len]; exact h.pos, by rw [s.len]; exact h.le, ?_, ?_, ?_, ?_, ?_, ?_, ?_, ?_, ?_⟩
  · intro n hn; rw [s.len] at hn
    obtain ⟨a1, a2, _⟩ := s.at_ n hn
    have := h.kind n hn
    unfold kindFitsB at this ⊢
    rw [a1, a2]; exact this
  · intro n hn; rw [s.len] at hn
    rw [hostP_iff]
    obtain ⟨a1, a2, a3, a4, a5⟩ := s.at_ n hn
    rcases hostP_iff.mp (h.host n hn) with ⟨e1, e2⟩ | ⟨e1, g, hg, e2, e3, e4⟩
    · exact .inl ⟨by rw [a1]; exact e1, by rw [a3]; exact e2⟩
    · obtain ⟨b1, b2, b3, b4, b5⟩ := s.at_ g hg
      exact .inr ⟨by rw [a1]; exact e1, g, by rw [s.len]; exact hg, by rw [a3]; exact e2, by rw [b1]; exact e3, by rw [b4]; exact e4⟩
  · intro n hn; rw [s.len] at hn
    rw [rootP_iff]
    obtain ⟨a1, a2, a3, a4, a5⟩ := s.at_ n hn
    rcases rootP_iff.mp (h.root n hn) with e1 | ⟨e1, g, hg, e2, e3, e4⟩
    · exact .inl (by rw [a4]; exact e1)
    · obtain ⟨b1, b2, b3, b4, b5⟩ := s.at_ g hg
      exact .inr ⟨by rw [a1]; exact e1, g, by rw [s.len]; exact hg, by rw [a4]; exact e2, by rw [b1]; exact e3, by rw [b3]; exact e4⟩
  · intro n hn; rw [s.len] at hn
    obtain ⟨a1, a2, a3, a4, a5⟩ := s.at_ n hn
    rw [a1, a5]; exact h.attrs n hn
  · intro n hn hk; rw [s.len] at hn
    exact text n hn (by rw [← (s.at_ n hn).1]; exact hk)
  · intro p hp k hk; rw [s.len] at hp
    exact kidP_iff.mpr (kid p hp k hk)
  · intro p hp; rw [s.len] at hp; exact nodup p hp
  · intro n hn; rw [s.len] at hn
    rcases par n hn with e | ⟨p, hp, e⟩
    · exact .inl e
    · exact .inr ⟨p, by rw [s.len]; exact hp, e⟩
  · obtain ⟨r, hr⟩ := rank
    exact ⟨r, fun n m hn hm e => hr n m (by rwa [s.len] at hn) (by rwa [s.len] at hm) e⟩

theorem fine_up {T : List Nd} (h : Fine T) {n m : Nat} (hn : n < T.length) (e : overI (nd T n) = (m : Int)) : m < T.length := by
  have hup := mayB_upOk (fine_mayB h)
  rcases hup n hn with h1 | h1
  · rw [e] at h1; simp at h1
  · rw [e] at h1
    obtain ⟨q, hq, hl⟩ := isNodeB_true h1
    omega

theorem idxL_drop {c : Int} : ∀ {l : List Int}, l.Nodup → c ∉ cutL l (idxL c l)
  | [], _ => by simp [cutL]
  | a :: l, h => by
    rw [List.nodup_cons] at h
    unfold cutL
    simp only [idxL]
    cases e : (c == a)
    · have hne : c ≠ a := by simpa using e
      simp only [Bool.false_eq_true, if_false, List.take_succ_cons, List.drop_succ_cons, List.cons_append, List.mem_cons, not_or]
      exact ⟨hne, idxL_drop h.2⟩
    · have he : c = a := by simpa using e
      simp only [if_true, List.take_zero, Nat.zero_add, List.drop_succ_cons, List.drop_zero, List.nil_append]
      rw [he]; exact h.1
theorem nodup_cutL {l : List Int} (h : l.Nodup) (k : Nat) : (cutL l k).Nodup := by
  unfold cutL
  have : (l.take k ++ l.drop (k + 1)).Sublist l := by
    conv => rhs; rw [← List.take_append_drop k l]
    exact List.Sublist.append (List.Sublist.refl _) (by rw [show l.drop (k + 1) = (l.drop k).drop 1 by rw [List.drop_drop]]; exact List.drop_sublist _ _)
  exact this.nodup h

theorem takeL_same {T : List Nd} {c : Nat} (hc : c < T.length) (hp : Placed1 T c) : SameBut T (takeL T c) := by
  refine ⟨takeL_length T c, fun n hn => ?_⟩
  rcases hp with e | ⟨q, hq, e, _⟩
  · rw [takeL_none e]; exact ⟨rfl, rfl, rfl, rfl, rfl⟩
  · rw [takeL_nd hc hq e]
    by_cases h1 : n = c
    · subst h1
      rw [if_pos rfl]
      by_cases h2 : n = q
      · subst h2; rw [if_pos rfl]; exact ⟨rfl, rfl, rfl, rfl, rfl⟩
      · rw [if_neg h2]; exact ⟨rfl, rfl, rfl, rfl, rfl⟩
    · rw [if_neg h1]
      by_cases h2 : n = q
      · subst h2; rw [if_pos rfl]; exact ⟨rfl, rfl, rfl, rfl, rfl⟩
      · rw [if_neg h2]; exact ⟨rfl, rfl, rfl, rfl, rfl⟩

theorem over_parent {x : Nd} (h : x.kind ≠ 3) : overI x = x.parent := by
  unfold overI
  have : (x.kind == 3) = false := by simpa using h
  rw [this]; rfl
theorem kid_not_shadow {k : Int} (h : canBeKidB k = true) : k ≠ 3 := by
  rintro rfl
  exact absurd h (by decide)

/-- What taking a child out does, where it had a parent. -/
theorem take_facts {T : List Nd} (h : Fine T) {c q : Nat} (hc : c < T.length) (hq : q < T.length) (e : (nd T c).parent = (q : Int)) (hm : (c : Int) ∈ (nd T q).kids) :
    c ≠ q ∧ (nd T c).kind ≠ 3 ∧ (∀ m, nd (takeL T c) m = if m = c then { nd T c with parent := -1 } else if m = q then { nd T q with kids := cutL (nd T q).kids (idxL c (nd T q).kids) } else nd T m) := by
  obtain ⟨m', e1, _, hk, _⟩ := kidP_iff.mp (h.kid q hq _ hm)
  obtain rfl : c = m' := by omega
  have h3 := kid_not_shadow hk
  have hne : c ≠ q := by
    rintro rfl
    obtain ⟨r, hr⟩ := h.rank
    have := hr c c hc hc (by rw [over_parent h3]; exact e)
    omega
  refine ⟨hne, h3, fun m => ?_⟩
  rw [takeL_nd hc hq e, if_neg hne]

theorem fine_take {T : List Nd} (h : Fine T) {c : Nat} (hc : c < T.length) : Fine (takeL T c) ∧ (nd (takeL T c) c).parent = -1 ∧ (∀ m x : Nat, overI (nd (takeL T c) m) = (x : Int) → overI (nd T m) = (x : Int)) := by
  rcases h.par c hc with e | ⟨q, hq, e, hm⟩
  · rw [takeL_none e]; exact ⟨h, e, fun _ _ he => he⟩
  · obtain ⟨hne, h3, hnd⟩ := take_facts h hc hq e hm
    have hkids : ∀ p k, k ∈ (nd (takeL T c) p).kids → k ∈ (nd T p).kids ∧ (p < T.length → k ≠ (c : Int)) := fun p k hk => by
      rw [hnd] at hk
      by_cases h1 : p = c
      · subst h1
        rw [if_pos rfl] at hk
        refine ⟨hk, fun hp => ?_⟩
        rintro rfl
        obtain ⟨m', e1, _, _, e2⟩ := kidP_iff.mp (h.kid p hp _ hk)
        obtain rfl : p = m' := by omega
        rw [e] at e2
        omega
      · rw [if_neg h1] at hk
        by_cases h2 : p = q
        · subst h2
          rw [if_pos rfl] at hk
          refine ⟨mem_of_cutL hk, fun _ => ?_⟩
          rintro rfl
          exact idxL_drop (h.nodup p hq) hk
        · rw [if_neg h2] at hk
          refine ⟨hk, fun hp => ?_⟩
          rintro rfl
          obtain ⟨m', e1, _, _, e3⟩ := kidP_iff.mp (h.kid p hp _ hk)
          obtain rfl : c = m' := by omega
          rw [e] at e3
          omega
    have hpar : ∀ n, n ≠ c → (nd (takeL T c) n).parent = (nd T n).parent := fun n h1 => by
      rw [hnd, if_neg h1]
      by_cases h2 : n = q
      · rw [if_pos h2, h2]
      · rw [if_neg h2]
    have hs := takeL_same hc (Or.inr ⟨q, hq, e, hm⟩)
    have hover : ∀ m x : Nat, overI (nd (takeL T c) m) = (x : Int) → overI (nd T m) = (x : Int) := fun m x he => by
      rw [hnd] at he
      by_cases h1 : m = c
      · subst h1
        rw [if_pos rfl, over_parent (x := { nd T m with parent := -1 }) h3] at he
        simp only at he
        omega
      · rw [if_neg h1] at he
        by_cases h2 : m = q
        · subst h2; rw [if_pos rfl] at he; exact he
        · rw [if_neg h2] at he; exact he
    refine ⟨h.of_same hs ?_ ?_ ?_ ?_ ?_, by rw [hnd, if_pos rfl], hover⟩
    · intro n hn hk
      have := h.text n hn hk
      cases hl : (nd (takeL T c) n).kids with
      | nil => rfl
      | cons a l =>
        have := (hkids n a (by rw [hl]; exact List.mem_cons_self ..)).1
        rw [h.text n hn hk] at this
        simp at this
    · intro p hp k hk
      obtain ⟨k1, k2⟩ := hkids p k hk
      obtain ⟨m, rfl, hml, hkk, hmp⟩ := kidP_iff.mp (h.kid p hp k k1)
      have hmc : m ≠ c := fun e' => k2 hp (by rw [e'])
      exact ⟨m, rfl, by rw [hs.len]; exact hml, by rw [(hs.at_ m hml).1]; exact hkk, by rw [hpar m hmc]; exact hmp⟩
    · intro p hp
      rw [hnd]
      by_cases h1 : p = c
      · subst h1; rw [if_pos rfl]; exact h.nodup p hp
      · rw [if_neg h1]
        by_cases h2 : p = q
        · subst h2; rw [if_pos rfl]; exact nodup_cutL (h.nodup p hp) _
        · rw [if_neg h2]; exact h.nodup p hp
    · intro n hn
      by_cases h1 : n = c
      · subst h1; left; rw [hnd, if_pos rfl]
      · rw [hpar n h1]
        rcases h.par n hn with e' | ⟨p, hp, e', hm'⟩
        · exact .inl e'
        · refine .inr ⟨p, hp, e', ?_⟩
          rw [hnd]
          by_cases h3 : p = c
          · subst h3; rw [if_pos rfl]; exact hm'
          · rw [if_neg h3]
            by_cases h2 : p = q
            · subst h2; rw [if_pos rfl]; exact mem_cutL_of_ne hm' (by omega)
            · rw [if_neg h2]; exact hm'
    · obtain ⟨r, hr⟩ := h.rank
      exact ⟨r, fun n m hn hm' he => hr n m hn hm' (hover n m he)⟩
end Go.Proofs.Ytoolkpjbbngdpaa
