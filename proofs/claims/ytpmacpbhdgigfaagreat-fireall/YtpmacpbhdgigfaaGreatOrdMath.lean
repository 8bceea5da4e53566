/- Trees as functions: below whom one stands, and whom one stands below. Plain mathematics. Places in a list of numbers. Plain mathematics. The tree by parents, and the tree by parents and hosts, as forests: the pure part of layers 3 and 4. -/
import Derived.Test.YtpmacpbhdgigfaaGreatDown
import Derived.Test.YtpmacpbhdgigfaaGreatRetMath
namespace Go.Proofs.YtpmacpbhdgigfaaGreat

theorem pigeonF : ∀ (n : Nat) (l : List Nat), l.Nodup → (∀ x ∈ l, x < n) → l.length ≤ n := by
  intro n
  induction n with
  | zero =>
    intro l _ h
    cases l with
    | nil => simp
    | cons a l => exact absurd (h a (List.mem_cons_self ..)) (by omega)
  | succ n ih =>
    intro l hl h
    by_cases hn : n ∈ l
    · have h1 : (l.erase n).length = l.length - 1 := List.length_erase_of_mem hn
      have h2 : (l.erase n).Nodup := hl.erase n
      have h3 := ih (l.erase n) h2 (fun x hx => by
        have hx1 := List.mem_of_mem_erase hx
        have hne : x ≠ n := fun e => by
          subst e
          exact (List.Nodup.not_mem_erase hl) hx
        have := h x hx1
        omega)
      have : 0 < l.length := List.length_pos_of_mem hn
      omega
    · have := ih l hl (fun x hx => by
        have h1 := h x hx
        have h2 : x ≠ n := fun e => hn (e ▸ hx)
        omega)
      omega

theorem subset_len {l m : List Nat} (hl : l.Nodup) (h : ∀ x ∈ l, x ∈ m) : l.length ≤ m.length := by
  induction l generalizing m with
  | nil => simp
  | cons a l ih =>
    rw [List.nodup_cons] at hl
    have ha := h a (List.mem_cons_self ..)
    have h1 : (m.erase a).length = m.length - 1 := List.length_erase_of_mem ha
    have h2 := ih (m := m.erase a) hl.2 (fun x hx => by
      have hne : x ≠ a := fun e => hl.1 (e ▸ hx)
      exact (List.mem_erase_of_ne hne).mpr (h x (List.mem_cons_of_mem _ hx)))
    have : 0 < m.length := List.length_pos_of_mem ha
    simp only [List.length_cons]
    omega
/-- Two lists of the same ones, each once, are of one length. -/
theorem same_len {l m : List Nat} (hl : l.Nodup) (hm : m.Nodup) (h : ∀ x, x ∈ l ↔ x ∈ m) : l.length = m.length :=
  Nat.le_antisymm (subset_len hl (fun x hx => (h x).mp hx)) (subset_len hm (fun x hx => (h x).mpr hx))

/-- ch: a node's kids; D: a node and all below it; U: a node and all above it; rk: how deep. -/
structure Forest (L : Nat) (ch D U : Nat → List Nat) (rk : Nat → Nat) : Prop where
  deq : ∀ n, n < L → D n = n :: (ch n).flatMap D
  lt : ∀ n, n < L → ∀ m, m ∈ ch n → m < L
  nd : ∀ n, n < L → (ch n).Nodup
  up : ∀ n, n < L → ∀ m, m ∈ ch n → U m = m :: U n
  top : ∀ n, n < L → U n = [n] ∨ ∃ m, m < L ∧ n ∈ ch m
  rank : ∀ n, n < L → ∀ m, m ∈ ch n → rk n < rk m

namespace Forest
variable {L : Nat} {ch D U : Nat → List Nat} {rk : Nat → Nat}

theorem u_cases (F : Forest L ch D U rk) {n : Nat} (hn : n < L) : U n = [n] ∨ ∃ m, m < L ∧ n ∈ ch m ∧ U n = n :: U m := by
  rcases F.top n hn with h | ⟨m, hm, h⟩
  · exact .inl h
  · exact .inr ⟨m, hm, h, F.up m hm n h⟩
theorem u_self (F : Forest L ch D U rk) {n : Nat} (hn : n < L) : n ∈ U n := by
  rcases F.u_cases hn with h | ⟨m, _, _, h⟩ <;> rw [h] <;> exact List.mem_cons_self ..
theorem u_suffix (F : Forest L ch D U rk) {n x : Nat} (hn : n < L) (hx : x ∈ U n) : ∃ p, U n = p ++ U x ∧ x < L ∧ rk x ≤ rk n := by
  generalize hk : rk n = k
  induction k using Nat.strongRecOn generalizing n with
  | _ k ih =>
    rcases F.u_cases hn with h | ⟨m, hm, hc, h⟩
    · rw [h] at hx
      have : x = n := by simpa using hx
      subst this
      exact ⟨[], rfl, hn, by omega⟩
    · rw [h] at hx
      rcases List.mem_cons.mp hx with rfl | hx
      · exact ⟨[], rfl, hn, by omega⟩
      · have hr := F.rank m hm n hc
        obtain ⟨p, hp, h2, h3⟩ := ih (rk m) (by omega) hm hx rfl
        exact ⟨n :: p, by rw [h, hp]; rfl, h2, by omega⟩
theorem u_lt (F : Forest L ch D U rk) {n x : Nat} (hn : n < L) (hx : x ∈ U n) : x < L := by
  obtain ⟨_, _, h, _⟩ := F.u_suffix hn hx; exact h
theorem u_trans (F : Forest L ch D U rk) {a b c : Nat} (hc : c < L) (h1 : a ∈ U b) (h2 : b ∈ U c) : a ∈ U c := by
  obtain ⟨p, hp, _⟩ := F.u_suffix hc h2
  rw [hp]; exact List.mem_append.mpr (.inr h1)
theorem u_rank (F : Forest L ch D U rk) {a b : Nat} (hb : b < L) (h : a ∈ U b) : a = b ∨ rk a < rk b := by
  rcases F.u_cases hb with e | ⟨m, hm, hc, e⟩
  · rw [e] at h; exact .inl (by simpa using h)
  · rw [e] at h
    rcases List.mem_cons.mp h with rfl | h
    · exact .inl rfl
    · obtain ⟨_, _, _, h3⟩ := F.u_suffix hm h
      have := F.rank m hm b hc
      exact .inr (by omega)
theorem u_antisym (F : Forest L ch D U rk) {a b : Nat} (ha : a < L) (hb : b < L) (h1 : a ∈ U b) (h2 : b ∈ U a) : a = b := by
  rcases F.u_rank hb h1 with e | e
  · exact e
  · rcases F.u_rank ha h2 with e' | e'
    · exact e'.symm
    · omega
theorem u_nodup (F : Forest L ch D U rk) {n : Nat} (hn : n < L) : (U n).Nodup := by
  generalize hk : rk n = k
  induction k using Nat.strongRecOn generalizing n with
  | _ k ih =>
    rcases F.u_cases hn with h | ⟨m, hm, hc, h⟩
    · rw [h]; simp
    · rw [h, List.nodup_cons]
      have hr := F.rank m hm n hc
      refine ⟨fun e => ?_, ih (rk m) (by omega) hm rfl⟩
      obtain ⟨_, _, _, h3⟩ := F.u_suffix hm e
      omega
theorem u_kid (F : Forest L ch D U rk) {n m : Nat} (hn : n < L) (hm : m ∈ ch n) : n ∈ U m := by
  rw [F.up n hn m hm]; exact List.mem_cons_of_mem _ (F.u_self hn)
/-- Of two above one node one is above the other. -/
theorem u_linear (F : Forest L ch D U rk) {a b x : Nat} (hx : x < L) (ha : a ∈ U x) (hb : b ∈ U x) : a ∈ U b ∨ b ∈ U a := by
  obtain ⟨p, hp, hal, _⟩ := F.u_suffix hx ha
  obtain ⟨q, hq, hbl, _⟩ := F.u_suffix hx hb
  rw [hp] at hq
  have h1 : a ∈ U a := F.u_self hal
  have h2 : b ∈ U b := F.u_self hbl
  rcases List.append_eq_append_iff.mp hq with ⟨r, _, h⟩ | ⟨r, _, h⟩
  · exact .inr (by rw [h]; exact List.mem_append.mpr (.inr h2))
  · exact .inl (by rw [h]; exact List.mem_append.mpr (.inr h1))

/-- What may be shown of kids first may be shown of all. -/
theorem down_ind (F : Forest L ch D U rk) (hB : ∃ B, ∀ n, n < L → rk n ≤ B) {P : Nat → Prop} (h : ∀ n, n < L → (∀ m, m ∈ ch n → P m) → P n) {n : Nat} (hn : n < L) : P n := by
  obtain ⟨B, hB⟩ := hB
  generalize hk : B - rk n = k
  induction k using Nat.strongRecOn generalizing n with
  | _ k ih =>
    refine h n hn (fun m hm => ?_)
    have h1 := F.lt n hn m hm
    have h2 := F.rank n hn m hm
    have h3 := hB m h1
    exact ih (B - rk m) (by omega) h1 rfl

theorem bounded (rk : Nat → Nat) (L : Nat) : ∃ B, ∀ n, n < L → rk n ≤ B := by
  induction L with
  | zero => exact ⟨0, fun n h => by omega⟩
  | succ L ih =>
    obtain ⟨B, hB⟩ := ih
    refine ⟨B + rk L, fun n h => ?_⟩
    by_cases e : n = L
    · subst e; omega
    · have := hB n (by omega); omega

theorem d_head (F : Forest L ch D U rk) {n : Nat} (hn : n < L) : ∃ r, D n = n :: r := ⟨_, F.deq n hn⟩
/-- Whoever is below lies there with all below it, one behind the other. -/
theorem d_segment (F : Forest L ch D U rk) {n : Nat} (hn : n < L) : ∀ {x : Nat}, x ∈ D n → x < L ∧ n ∈ U x ∧ ∃ p s, D n = p ++ D x ++ s := by
  refine F.down_ind (P := fun n => ∀ {x : Nat}, x ∈ D n → x < L ∧ n ∈ U x ∧ ∃ p s, D n = p ++ D x ++ s) (bounded rk L) ?_ hn
  intro n hn ih x hx
  rw [F.deq n hn] at hx
  rcases List.mem_cons.mp hx with rfl | hx
  · exact ⟨hn, F.u_self hn, [], [], by simp⟩
  · obtain ⟨q, hq, hxq⟩ := List.mem_flatMap.mp hx
    obtain ⟨h1, h2, p, s, h3⟩ := ih q hq hxq
    refine ⟨h1, F.u_trans h1 (F.u_kid hn hq) h2, ?_⟩
    obtain ⟨l1, l2, hl⟩ := List.append_of_mem hq
    refine ⟨n :: l1.flatMap D ++ p, s ++ l2.flatMap D, ?_⟩
    rw [F.deq n hn, hl, List.flatMap_append, List.flatMap_cons, h3]
    simp
theorem d_lt (F : Forest L ch D U rk) {n x : Nat} (hn : n < L) (hx : x ∈ D n) : x < L := (F.d_segment hn hx).1
theorem d_self (F : Forest L ch D U rk) {n : Nat} (hn : n < L) : n ∈ D n := by rw [F.deq n hn]; exact List.mem_cons_self ..
theorem d_trans (F : Forest L ch D U rk) {n m x : Nat} (hn : n < L) (h1 : m ∈ D n) (h2 : x ∈ D m) : x ∈ D n := by
  obtain ⟨_, _, p, s, h⟩ := F.d_segment hn h1
  rw [h]; simp [h2]
/-- A node is below just those that are above it. -/
theorem mem_d (F : Forest L ch D U rk) {n x : Nat} (hn : n < L) (hx : x < L) : x ∈ D n ↔ n ∈ U x := by
  refine ⟨fun h => (F.d_segment hn h).2.1, fun h => ?_⟩
  generalize hk : rk x = k
  induction k using Nat.strongRecOn generalizing x with
  | _ k ih =>
    rcases F.u_cases hx with e | ⟨m, hm, hc, e⟩
    · rw [e] at h
      have : n = x := by simpa using h
      subst this
      exact F.d_self hn
    · rw [e] at h
      rcases List.mem_cons.mp h with rfl | h
      · exact F.d_self hn
      · have hr := F.rank m hm x hc
        have h1 := ih (rk m) (by omega) hm h rfl
        refine F.d_trans hn h1 ?_
        rw [F.deq m hm]
        exact List.mem_cons_of_mem _ (List.mem_flatMap.mpr ⟨x, hc, F.d_self hx⟩)
theorem d_nodup (F : Forest L ch D U rk) {n : Nat} (hn : n < L) : (D n).Nodup := by
  refine F.down_ind (P := fun n => (D n).Nodup) (bounded rk L) ?_ hn
  intro n hn ih
  rw [F.deq n hn, List.nodup_cons]
  refine ⟨fun h => ?_, ?_⟩
  · obtain ⟨q, hq, hx⟩ := List.mem_flatMap.mp h
    have h1 := (F.d_segment (F.lt n hn q hq) hx).2.1
    have hr := F.rank n hn q hq
    rcases F.u_rank hn h1 with e | e
    · subst e; omega
    · omega
  · show List.Pairwise _ _
    rw [List.pairwise_flatMap]
    refine ⟨fun q hq => ih q hq, ?_⟩
    have hnd := F.nd n hn
    refine List.Pairwise.imp_of_mem (fun {a b} ha hb hab x hx y hy => ?_) hnd
    rintro rfl
    have hal := F.lt n hn a ha
    have hbl := F.lt n hn b hb
    obtain ⟨hxl, h1, _⟩ := F.d_segment hal hx
    obtain ⟨_, h2, _⟩ := F.d_segment hbl hy
    have key : ∀ {c d : Nat}, c ∈ ch n → d ∈ ch n → c ≠ d → c ∈ U d → False := fun {c d} hc hd hcd h => by
      rw [F.up n hn d hd] at h
      rcases List.mem_cons.mp h with e | h
      · exact hcd e
      · have := F.u_rank hn h
        have hr := F.rank n hn c hc
        rcases this with e | e
        · subst e; omega
        · omega
    rcases F.u_linear hxl h1 h2 with h | h
    · exact key ha hb hab h
    · exact key hb ha (fun e => hab e.symm) h
theorem d_len (F : Forest L ch D U rk) {n : Nat} (hn : n < L) : (D n).length ≤ L := pigeonF L _ (F.d_nodup hn) (fun _ hx => F.d_lt hn hx)
theorem u_len (F : Forest L ch D U rk) {n : Nat} (hn : n < L) : (U n).length ≤ L := pigeonF L _ (F.u_nodup hn) (fun _ hx => F.u_lt hn hx)
theorem d_count (F : Forest L ch D U rk) {n : Nat} (hn : n < L) (p : Nat → Bool) (hp : ∀ k, k < L → (p k = true ↔ n ∈ U k)) : (D n).length = ((List.range L).filter p).length := by
  refine same_len (F.d_nodup hn) (List.nodup_range.filter p) (fun x => ?_)
  rw [List.mem_filter, List.mem_range]
  constructor
  · intro h
    have hx := F.d_lt hn h
    exact ⟨hx, (hp x hx).mpr ((F.mem_d hn hx).mp h)⟩
  · rintro ⟨hx, h⟩
    exact (F.mem_d hn hx).mpr ((hp x hx).mp h)
end Forest
end Go.Proofs.YtpmacpbhdgigfaaGreat
namespace Go.Proofs.YtpmacpbhdgigfaaGreat

/-- The first place of x; the length, if it is not there. -/
def pos (x : Nat) : List Nat → Nat
  | [] => 0
  | a :: l => if x = a then 0 else pos x l + 1
theorem pos_mem {x : Nat} : ∀ {l : List Nat}, x ∈ l ↔ pos x l < l.length
  | [] => by simp [pos]
  | a :: l => by
    have ih := pos_mem (x := x) (l := l)
    by_cases e : x = a
    · subst e; simp [pos]
    · simp [pos, e, ih]
theorem pos_not {x : Nat} : ∀ {l : List Nat}, x ∉ l → pos x l = l.length
  | [], _ => rfl
  | a :: l, h => by
    have e : x ≠ a := fun e => h (e ▸ List.mem_cons_self ..)
    have := pos_not (x := x) (l := l) (fun h' => h (List.mem_cons_of_mem _ h'))
    simp [pos, e, this]
theorem pos_left {x : Nat} : ∀ {p : List Nat} (s : List Nat), x ∈ p → pos x (p ++ s) = pos x p
  | [], s, h => by simp at h
  | a :: p, s, h => by
    by_cases e : x = a
    · subst e; simp [pos]
    · have := pos_left (x := x) (p := p) s (by simpa [e] using h)
      simp [pos, e, this]
theorem pos_right {x : Nat} : ∀ {p : List Nat} (s : List Nat), x ∉ p → pos x (p ++ s) = p.length + pos x s
  | [], s, h => by simp
  | a :: p, s, h => by
    have e : x ≠ a := fun e => h (e ▸ List.mem_cons_self ..)
    have := pos_right (x := x) (p := p) s (fun h' => h (List.mem_cons_of_mem _ h'))
    simp [pos, e, this]; omega
theorem pos_get {x : Nat} : ∀ {l : List Nat}, x ∈ l → l[pos x l]? = some x
  | [], h => by simp at h
  | a :: l, h => by
    by_cases e : x = a
    · subst e; simp [pos]
    · have := pos_get (x := x) (l := l) (by simpa [e] using h)
      simp [pos, e, this]
theorem pos_inj {x y : Nat} {l : List Nat} (hx : x ∈ l) (hy : y ∈ l) (h : pos x l = pos y l) : x = y := by
  have h1 := pos_get hx
  have h2 := pos_get hy
  rw [h] at h1
  rw [h1] at h2
  injection h2
/-- Who stands ahead. -/
def scan (a b : Nat) : List Nat → Bool
  | [] => false
  | x :: l => if x = a then true else if x = b then false else scan a b l
theorem scan_pos {a b : Nat} (hab : a ≠ b) : ∀ {l : List Nat}, a ∈ l → scan a b l = decide (pos a l < pos b l)
  | [], h => by simp at h
  | x :: l, h => by
    by_cases e : x = a
    · subst e
      have : b ≠ x := fun e => hab e.symm
      simp [scan, pos, this]
    · by_cases e' : x = b
      · subst e'; simp [scan, pos, e]
      · have ih := scan_pos hab (l := l) (by
          rcases List.mem_cons.mp h with h | h
          · exact absurd h.symm e
          · exact h)
        have e1 : ¬ a = x := fun q => e q.symm
        have e2 : ¬ b = x := fun q => e' q.symm
        simp [scan, pos, e, e', e1, e2, ih]
theorem scan_none {a b : Nat} : ∀ {l : List Nat}, a ∉ l → scan a b l = false
  | [], _ => rfl
  | x :: l, h => by
    have e : x ≠ a := fun e => h (e ▸ List.mem_cons_self ..)
    have ih := scan_none (a := a) (b := b) (l := l) (fun h' => h (List.mem_cons_of_mem _ h'))
    rw [scan, if_neg e, ih]; split <;> rfl
theorem pos_ahead {a b : Nat} {p r : List Nat} (hn : (p ++ a :: r).Nodup) (hb : b ∈ r) : pos a (p ++ a :: r) < pos b (p ++ a :: r) := by
  rw [List.nodup_append] at hn
  obtain ⟨_, h2, h3⟩ := hn
  have ha : a ∉ p := fun h => h3 a h a (List.mem_cons_self ..) rfl
  have hbp : b ∉ p := fun h => h3 b h b (List.mem_cons_of_mem _ hb) rfl
  rw [List.nodup_cons] at h2
  have hne : b ≠ a := fun e => h2.1 (e ▸ hb)
  rw [pos_right _ ha, pos_right _ hbp]
  simp [pos, hne]
end Go.Proofs.YtpmacpbhdgigfaaGreat
namespace Go.Proofs.YtpmacpbhdgigfaaGreat
open Go.RowKit

def chK (T : List Nd) (n : Nat) : List Nat := (nd T n).kids.map Int.toNat
theorem map_nodup : ∀ {l : List Int}, l.Nodup → (∀ k ∈ l, 0 ≤ k) → (l.map Int.toNat).Nodup
  | [], _, _ => by simp
  | a :: l, hl, hp => by
    rw [List.nodup_cons] at hl
    rw [List.map_cons, List.nodup_cons]
    refine ⟨fun hm => ?_, map_nodup hl.2 (fun k hk => hp k (List.mem_cons_of_mem _ hk))⟩
    obtain ⟨x, hx, he⟩ := List.mem_map.mp hm
    have h1 := hp a (List.mem_cons_self ..)
    have h2 := hp x (List.mem_cons_of_mem _ hx)
    have : x = a := by omega
    exact hl.1 (this ▸ hx)
theorem mem_chK {T : List Nd} (hF : Fine T) {n m : Nat} (hn : n < T.length) (h : m ∈ chK T n) : m < T.length ∧ (m : Int) ∈ (nd T n).kids ∧ canBeKidB (nd T m).kind = true ∧ (nd T m).parent = (n : Int) := by
  obtain ⟨x, hx, rfl⟩ := List.mem_map.mp h
  obtain ⟨q, rfl, hql, hk, hp⟩ := kidP_iff.mp (hF.kid n hn x hx)
  rw [Int.toNat_natCast]
  exact ⟨hql, hx, hk, hp⟩
theorem chK_nodup {T : List Nd} (hF : Fine T) {n : Nat} (hn : n < T.length) : (chK T n).Nodup :=
  map_nodup (hF.nodup n hn) (fun k hk => by obtain ⟨q, rfl, _⟩ := kidP_iff.mp (hF.kid n hn k hk); omega)
theorem forest3 {T : List Nd} (hm : mayB T = true) : Forest T.length (chK T) (dn T) (pars T) (fun n => (upsL T n).length) := by
  have hF := mayB_fine hm
  refine ⟨fun n hn => ?_, fun n hn m h => (mem_chK hF hn h).1, fun n hn => chK_nodup hF hn, fun n hn m h => ?_, fun n hn => ?_, fun n hn m h => ?_⟩
  · rw [dn_eq hm hn, chK, List.flatMap_map]
  · obtain ⟨h1, _, _, h4⟩ := mem_chK hF hn h
    exact pars_some hm h1 h4
  · rcases hF.par n hn with e | ⟨p, hp, e, hmem⟩
    · exact .inl (pars_none (by rw [e]; rfl))
    · exact .inr ⟨p, hp, List.mem_map.mpr ⟨(n : Int), hmem, by simp⟩⟩
  · obtain ⟨h1, _, h3, h4⟩ := mem_chK hF hn h
    have := (upsL_some hm h1 (over_of_parent hF h1 h4)).1
    simp [this]

def chS (T : List Nd) (n : Nat) : List Nat := (if (nd T n).root == -1 then [] else [(nd T n).root.toNat]) ++ chK T n
theorem root_facts {T : List Nd} (hF : Fine T) {n : Nat} (hn : n < T.length) (hr : ((nd T n).root == -1) = false) : ∃ m : Nat, (nd T n).root = (m : Int) ∧ m < T.length ∧ (nd T m).kind = 3 ∧ (nd T m).host = (n : Int) := by
  rcases rootP_iff.mp (hF.root n hn) with e | ⟨_, r, hrl, e, hk, hh⟩
  · rw [e] at hr; simp at hr
  · exact ⟨r, e, hrl, hk, hh⟩
theorem mem_chS {T : List Nd} (hF : Fine T) {n m : Nat} (hn : n < T.length) (h : m ∈ chS T n) : m < T.length ∧ overI (nd T m) = (n : Int) := by
  rcases List.mem_append.mp h with h | h
  · cases hr : ((nd T n).root == -1)
    · rw [hr] at h
      obtain ⟨q, e, hql, hk, hh⟩ := root_facts hF hn hr
      have : m = q := by simpa [e] using h
      subst this
      exact ⟨hql, by unfold overI; rw [hk]; exact hh⟩
    · rw [hr] at h; simp at h
  · obtain ⟨h1, _, h3, h4⟩ := mem_chK hF hn h
    exact ⟨h1, by rw [over_parent (kid_not_shadow h3)]; exact h4⟩
theorem forest4 {T : List Nd} (hm : mayB T = true) : Forest T.length (chS T) (sl T) (supN T) (fun n => (upsL T n).length) := by
  have hF := mayB_fine hm
  refine ⟨fun n hn => ?_, fun n hn m h => (mem_chS hF hn h).1, fun n hn => ?_, fun n hn m h => ?_, fun n hn => ?_, fun n hn m h => ?_⟩
  · rw [sl_eq hm hn, chS, chK, List.flatMap_append, List.flatMap_map]
    cases hr : ((nd T n).root == -1) <;> simp
  · unfold chS
    cases hr : ((nd T n).root == -1)
    · obtain ⟨q, e, hql, hk, hh⟩ := root_facts hF hn hr
      simp only [Bool.false_eq_true, if_false, List.singleton_append, List.nodup_cons, e, Int.toNat_natCast]
      refine ⟨fun h => ?_, chK_nodup hF hn⟩
      exact kid_not_shadow (mem_chK hF hn h).2.2.1 hk
    · simpa using chK_nodup hF hn
  · obtain ⟨h1, h2⟩ := mem_chS hF hn h
    show m :: upsL T m = m :: (n :: upsL T n)
    rw [(upsL_some hm h1 h2).1]
  · rcases over_cases hm hn with e | ⟨p, hp, e⟩
    · exact .inl (by show n :: upsL T n = [n]; rw [upsL_none e])
    · refine .inr ⟨p, hp, ?_⟩
      unfold chS
      rw [List.mem_append]
      by_cases hk : (nd T n).kind = 3
      · obtain ⟨h, hl, h1, _, h2⟩ := fine_host hF hn hk
        have hph : h = p := by unfold overI at e; rw [hk] at e; simp at e; omega
        subst hph
        left
        rw [h2]
        have : ((n : Int) == -1) = false := by simp
        simp [this]
      · right
        rw [over_parent hk] at e
        rcases hF.par n hn with e' | ⟨q, hq, e', hmem⟩
        · omega
        · have : q = p := by omega
          subst this
          exact List.mem_map.mpr ⟨(n : Int), hmem, by simp⟩
  · obtain ⟨h1, h2⟩ := mem_chS hF hn h
    simp [(upsL_some hm h1 h2).1]

theorem idx_pos (x : Nat) : ∀ l : List Nat, idxL (x : Int) (castL l) = pos x l
  | [] => rfl
  | a :: l => by
    have ih := idx_pos x l
    by_cases e : x = a
    · subst e; simp [castL, idxL, pos]
    · have : ((x : Int) == (a : Int)) = false := by simp; omega
      simp only [castL, List.map_cons, idxL, this, pos, e, if_false]
      simpa [castL] using ih

theorem top_in {T : List Nd} (hm : mayB T = true) {a : Nat} (ha : a < T.length) : topN T a ∈ pars T a := by
  obtain ⟨_, ⟨i, hi⟩, _⟩ := sup_split hm ha
  rw [hi]; simp
theorem top_lt {T : List Nd} (hm : mayB T = true) {a : Nat} (ha : a < T.length) : topN T a < T.length := (sup_split hm ha).1
theorem top_eq {T : List Nd} (hm : mayB T = true) {a x : Nat} (ha : a < T.length) (hx : x ∈ pars T a) : topN T x = topN T a := by
  obtain ⟨p, hp, hxl, _⟩ := (forest3 hm).u_suffix ha hx
  obtain ⟨_, ⟨i, hi⟩, _⟩ := sup_split hm ha
  obtain ⟨_, ⟨j, hj⟩, _⟩ := sup_split hm hxl
  rw [hi, hj, ← List.append_assoc] at hp
  have := congrArg List.getLast? hp
  simp at this
  exact this.symm
theorem mem_top {T : List Nd} (hm : mayB T = true) {a x : Nat} (ha : a < T.length) (hx : x < T.length) : x ∈ dn T (topN T a) ↔ topN T x = topN T a := by
  rw [(forest3 hm).mem_d (top_lt hm ha) hx]
  constructor
  · intro h
    have h1 := top_eq hm hx h
    have h2 := top_eq hm ha (top_in hm ha)
    omega
  · intro h
    rw [← h]; exact top_in hm hx
/-- A node's place among all of its top. -/
def posT (T : List Nd) (a : Nat) : Nat := pos a (dn T (topN T a))
/-- Before, of two nodes. -/
def befN (T : List Nd) (a b : Nat) : Bool := decide (topN T a = topN T b) && decide (posT T a < posT T b)
theorem posT_inj {T : List Nd} (hm : mayB T = true) {a b : Nat} (ha : a < T.length) (hb : b < T.length) (ht : topN T a = topN T b) (h : posT T a = posT T b) : a = b := by
  unfold posT at h
  rw [← ht] at h
  exact pos_inj ((mem_top hm ha ha).mpr rfl) ((mem_top hm ha hb).mpr ht.symm) h
theorem bef_asym {T : List Nd} {a b : Nat} (h : befN T a b = true) : befN T b a = false := by
  simp only [befN, Bool.and_eq_true, decide_eq_true_eq] at h
  simp [befN]; omega
theorem bef_total {T : List Nd} (hm : mayB T = true) {a b : Nat} (ha : a < T.length) (hb : b < T.length) : (topN T a = topN T b) ↔ (a = b ∨ befN T a b = true ∨ befN T b a = true) := by
  constructor
  · intro h
    by_cases e : a = b
    · exact .inl e
    · right
      have : posT T a ≠ posT T b := fun h' => e (posT_inj hm ha hb h h')
      simp only [befN, Bool.and_eq_true, decide_eq_true_eq]
      omega
  · rintro (rfl | h | h)
    · rfl
    · simp only [befN, Bool.and_eq_true, decide_eq_true_eq] at h; exact h.1
    · simp only [befN, Bool.and_eq_true, decide_eq_true_eq] at h; exact h.1.symm
theorem bef_trans {T : List Nd} {a b c : Nat} (h1 : befN T a b = true) (h2 : befN T b c = true) : befN T a c = true := by
  simp only [befN, Bool.and_eq_true, decide_eq_true_eq] at h1 h2 ⊢
  omega
/-- A node stands ahead of all that it is above. -/
theorem dn_ahead {T : List Nd} (hm : mayB T = true) {a b n : Nat} (hn : n < T.length) (ha : a ∈ dn T n) (hb : b ∈ dn T a) (hne : a ≠ b) : pos a (dn T n) < pos b (dn T n) := by
  have F := forest3 hm
  obtain ⟨hal, _, p, s, h⟩ := F.d_segment hn ha
  have hnd := F.d_nodup hn
  rw [h, F.deq a hal] at hnd ⊢
  rw [F.deq a hal] at hb
  have hbr : b ∈ (chK T a).flatMap (dn T) := by
    rcases List.mem_cons.mp hb with e | hb
    · exact absurd e.symm hne
    · exact hb
  have hsh : p ++ a :: (chK T a).flatMap (dn T) ++ s = p ++ a :: ((chK T a).flatMap (dn T) ++ s) := by simp
  rw [hsh] at hnd ⊢
  exact pos_ahead hnd (List.mem_append.mpr (.inl hbr))
theorem bef_above {T : List Nd} (hm : mayB T = true) {a b : Nat} (ha : a < T.length) (hb : b < T.length) (hne : a ≠ b) (h : a ∈ pars T b) : befN T a b = true := by
  have ht := top_eq hm hb h
  have F := forest3 hm
  have h1 := dn_ahead hm (top_lt hm ha) ((mem_top hm ha ha).mpr rfl) ((F.mem_d ha hb).mpr h) hne
  have h2 : posT T a < posT T b := by
    show pos a (dn T (topN T a)) < pos b (dn T (topN T b))
    rw [← ht]; exact h1
  unfold befN
  rw [decide_eq_true ht, decide_eq_true h2]; rfl
theorem scan_bef {T : List Nd} (hm : mayB T = true) {a b : Nat} (ha : a < T.length) (_hb : b < T.length) (hne : a ≠ b) (ht : topN T a = topN T b) : scan a b (dn T (topN T a)) = befN T a b := by
  rw [scan_pos hne ((mem_top hm ha ha).mpr rfl)]
  unfold befN posT
  rw [decide_eq_true ht, Bool.true_and, ← ht]
/-- The first one above a that is above b, too. -/
def comN (T : List Nd) (a b : Nat) : Option Nat := (pars T a).find? (fun x => decide (x ∈ pars T b))
def comI (T : List Nd) (a b : Nat) : Int := match comN T a b with | some x => (x : Int) | none => -1
theorem com_some {T : List Nd} (hm : mayB T = true) {a b x : Nat} (ha : a < T.length) (h : comN T a b = some x) : x < T.length ∧ x ∈ pars T a ∧ x ∈ pars T b ∧ ∀ y, y ∈ pars T a → y ∈ pars T b → y ∈ pars T x := by
  unfold comN at h
  obtain ⟨h1, xs, ys, h2, h3⟩ := List.find?_eq_some_iff_append.mp h
  have hxa : x ∈ pars T a := by rw [h2]; simp
  refine ⟨(forest3 hm).u_lt ha hxa, hxa, of_decide_eq_true h1, fun y hya hyb => ?_⟩
  obtain ⟨p, hp, hxl, _⟩ := (forest3 hm).u_suffix ha hxa
  rw [hp] at hya
  rcases List.mem_append.mp hya with hy | hy
  · exfalso
    -- p is xs: both stand ahead of the first x
    have hnd := (forest3 hm).u_nodup ha
    have hhead : ∃ r, pars T x = x :: r := ⟨_, rfl⟩
    obtain ⟨r, hr⟩ := hhead
    have he : p ++ x :: r = xs ++ x :: ys := by rw [← hr, ← hp, h2]
    rw [hp, hr] at hnd
    have hpa : p = xs := by
      have q1 : x ∉ p := fun hx => by
        rw [List.nodup_append] at hnd
        exact hnd.2.2 x hx x (List.mem_cons_self ..) rfl
      have q2 : x ∉ xs := fun hx => by
        have := h3 x hx
        rw [h1] at this; simp at this
      have l1 : pos x (p ++ x :: r) = p.length := by rw [pos_right _ q1]; simp [pos]
      have l2 : pos x (xs ++ x :: ys) = xs.length := by rw [pos_right _ q2]; simp [pos]
      rw [he, l2] at l1
      exact List.append_inj_left he l1.symm
    subst hpa
    have := h3 y hy
    simp [hyb] at this
  · exact hy
theorem com_none {T : List Nd} {a b : Nat} (h : comN T a b = none) : ∀ y, y ∈ pars T a → y ∉ pars T b := by
  unfold comN at h
  intro y hy hb
  have := List.find?_eq_none.mp h y hy
  simp [hb] at this
theorem com_symm {T : List Nd} (hm : mayB T = true) {a b : Nat} (ha : a < T.length) (hb : b < T.length) : comN T a b = comN T b a := by
  cases h1 : comN T a b with
  | none =>
    cases h2 : comN T b a with
    | none => rfl
    | some y =>
      obtain ⟨_, q1, q2, _⟩ := com_some hm hb h2
      exact absurd q1 (com_none h1 y q2)
  | some x =>
    obtain ⟨x0, x1, x2, x3⟩ := com_some hm ha h1
    cases h2 : comN T b a with
    | none => exact absurd x1 (com_none h2 x x2)
    | some y =>
      obtain ⟨y0, y1, y2, y3⟩ := com_some hm hb h2
      congr 1
      exact (forest3 hm).u_antisym x0 y0 (y3 x x2 x1) (x3 y y2 y1)
theorem com_top {T : List Nd} (hm : mayB T = true) {a b : Nat} (ha : a < T.length) (hb : b < T.length) : (∃ x, comN T a b = some x) ↔ topN T a = topN T b := by
  constructor
  · rintro ⟨x, h⟩
    obtain ⟨_, x1, x2, _⟩ := com_some hm ha h
    rw [← top_eq hm ha x1, top_eq hm hb x2]
  · intro h
    cases h1 : comN T a b with
    | none => exact absurd (h ▸ top_in hm hb) (com_none h1 _ (top_in hm ha))
    | some x => exact ⟨x, rfl⟩
end Go.Proofs.YtpmacpbhdgigfaaGreat
