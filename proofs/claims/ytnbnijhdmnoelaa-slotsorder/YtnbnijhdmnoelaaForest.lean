/- Trees as functions: below whom one stands, and whom one stands below. Plain mathematics. -/
namespace Go.Proofs.Ytnbnijhdmnoelaa

theorem pigeonF : ∀ (n : Nat) (l : List Nat), l.Nodup → (∀ x ∈ l, x < n) → l.length ≤ n := by
  intro n
  induction n with
  | zero =>
    intro l _ h
    cases l with
    | nil => simp
    | cons a l => exact absurd (h a (List.mem_cons_self ..)) (by omega)
  | succ n ih =>
    intro l hl h
    by_cases hn : n ∈ l
    · have h1 : (l.erase n).length = l.length - 1 := List.length_erase_of_mem hn
      have h2 : (l.erase n).Nodup := hl.erase n
      have h3 := ih (l.erase n) h2 (fun x hx => by
        have hx1 := List.mem_of_mem_erase hx
        have hne : x ≠ n := fun e => by
          subst e
          exact (List.Nodup.not_mem_erase hl) hx
        have := h x hx1
        omega)
      have : 0 < l.length := List.length_pos_of_mem hn
      omega
    · have := ih l hl (fun x hx => by
        have h1 := h x hx
        have h2 : x ≠ n := fun e => hn (e ▸ hx)
        omega)
      omega

theorem subset_len {l m : List Nat} (hl : l.Nodup) (h : ∀ x ∈ l, x ∈ m) : l.length ≤ m.length := by
  induction l generalizing m with
  | nil => simp
  | cons a l ih =>
    rw [List.nodup_cons] at hl
    have ha := h a (List.mem_cons_self ..)
    have h1 : (m.erase a).length = m.length - 1 := List.length_erase_of_mem ha
    have h2 := ih (m := m.erase a) hl.2 (fun x hx => by
      have hne : x ≠ a := fun e => hl.1 (e ▸ hx)
      exact (List.mem_erase_of_ne hne).mpr (h x (List.mem_cons_of_mem _ hx)))
    have : 0 < m.length := List.length_pos_of_mem ha
    simp only [List.length_cons]
    omega
/-- Two lists of the same ones, each once, are of one length. -/
theorem same_len {l m : List Nat} (hl : l.Nodup) (hm : m.Nodup) (h : ∀ x, x ∈ l ↔ x ∈ m) : l.length = m.length :=
  Nat.le_antisymm (subset_len hl (fun x hx => (h x).mp hx)) (subset_len hm (fun x hx => (h x).mpr hx))

/-- ch: a node's kids; D: a node and all below it; U: a node and all above it; rk: how deep. -/
structure Forest (L : Nat) (ch D U : Nat → List Nat) (rk : Nat → Nat) : Prop where
  deq : ∀ n, n < L → D n = n :: (ch n).flatMap D
  lt : ∀ n, n < L → ∀ m, m ∈ ch n → m < L
  nd : ∀ n, n < L → (ch n).Nodup
  up : ∀ n, n < L → ∀ m, m ∈ ch n → U m = m :: U n
  top : ∀ n, n < L → U n = [n] ∨ ∃ m, m < L ∧ n ∈ ch m
  rank : ∀ n, n < L → ∀ m, m ∈ ch n → rk n < rk m

namespace Forest
variable {L : Nat} {ch D U : Nat → List Nat} {rk : Nat → Nat}

theorem u_cases (F : Forest L ch D U rk) {n : Nat} (hn : n < L) : U n = [n] ∨ ∃ m, m < L ∧ n ∈ ch m ∧ U n = n :: U m := by
  rcases F.top n hn with h | ⟨m, hm, h⟩
  · exact .inl h
  · exact .inr ⟨m, hm, h, F.up m hm n h⟩
theorem u_self (F : Forest L ch D U rk) {n : Nat} (hn : n < L) : n ∈ U n := by
  rcases F.u_cases hn with h | ⟨m, _, _, h⟩ <;> rw [h] <;> exact List.mem_cons_self ..
theorem u_suffix (F : Forest L ch D U rk) {n x : Nat} (hn : n < L) (hx : x ∈ U n) : ∃ p, U n = p ++ U x ∧ x < L ∧ rk x ≤ rk n := by
  generalize hk : rk n = k
  induction k using Nat.strongRecOn generalizing n with
  | _ k ih =>
    rcases F.u_cases hn with h | ⟨m, hm, hc, h⟩
    · rw [h] at hx
      have : x = n := by simpa using hx
      subst this
      exact ⟨[], rfl, hn, by omega⟩
    · rw [h] at hx
      rcases List.mem_cons.mp hx with rfl | hx
      · exact ⟨[], rfl, hn, by omega⟩
      · have hr := F.rank m hm n hc
        obtain ⟨p, hp, h2, h3⟩ := ih (rk m) (by omega) hm hx rfl
        exact ⟨n :: p, by rw [h, hp]; rfl, h2, by omega⟩
theorem u_lt (F : Forest L ch D U rk) {n x : Nat} (hn : n < L) (hx : x ∈ U n) : x < L := by
  obtain ⟨_, _, h, _⟩ := F.u_suffix hn hx; exact h
theorem u_trans (F : Forest L ch D U rk) {a b c : Nat} (hc : c < L) (h1 : a ∈ U b) (h2 : b ∈ U c) : a ∈ U c := by
  obtain ⟨p, hp, _⟩ := F.u_suffix hc h2
  rw [hp]; exact List.mem_append.mpr (.inr h1)
theorem u_rank (F : Forest L ch D U rk) {a b : Nat} (hb : b < L) (h : a ∈ U b) : a = b ∨ rk a < rk b := by
  rcases F.u_cases hb with e | ⟨m, hm, hc, e⟩
  · rw [e] at h; exact .inl (by simpa using h)
  · rw [e] at h
    rcases List.mem_cons.mp h with rfl | h
    · exact .inl rfl
    · obtain ⟨_, _, _, h3⟩ := F.u_suffix hm h
      have := F.rank m hm b hc
      exact .inr (by omega)
theorem u_antisym (F : Forest L ch D U rk) {a b : Nat} (ha : a < L) (hb : b < L) (h1 : a ∈ U b) (h2 : b ∈ U a) : a = b := by
  rcases F.u_rank hb h1 with e | e
  · exact e
  · rcases F.u_rank ha h2 with e' | e'
    · exact e'.symm
    · omega
theorem u_nodup (F : Forest L ch D U rk) {n : Nat} (hn : n < L) : (U n).Nodup := by
  generalize hk : rk n = k
  induction k using Nat.strongRecOn generalizing n with
  | _ k ih =>
    rcases F.u_cases hn with h | ⟨m, hm, hc, h⟩
    · rw [h]; simp
    · rw [h, List.nodup_cons]
      have hr := F.rank m hm n hc
      refine ⟨fun e => ?_, ih (rk m) (by omega) hm rfl⟩
      obtain ⟨_, _, _, h3⟩ := F.u_suffix hm e
      omega
theorem u_kid (F : Forest L ch D U rk) {n m : Nat} (hn : n < L) (hm : m ∈ ch n) : n ∈ U m := by
  rw [F.up n hn m hm]; exact List.mem_cons_of_mem _ (F.u_self hn)
/-- Of two above one node one is above the other. -/
theorem u_linear (F : Forest L ch D U rk) {a b x : Nat} (hx : x < L) (ha : a ∈ U x) (hb : b ∈ U x) : a ∈ U b ∨ b ∈ U a := by
  obtain ⟨p, hp, hal, _⟩ := F.u_suffix hx ha
  obtain ⟨q, hq, hbl, _⟩ := F.u_suffix hx hb
  rw [hp] at hq
  have h1 : a ∈ U a := F.u_self hal
  have h2 : b ∈ U b := F.u_self hbl
  rcases List.append_eq_append_iff.mp hq with ⟨r, _, h⟩ | ⟨r, _, h⟩
  · exact .inr (by rw [h]; exact List.mem_append.mpr (.inr h2))
  · exact .inl (by rw [h]; exact List.mem_append.mpr (.inr h1))

/-- What may be shown of kids first may be shown of all. -/
theorem down_ind (F : Forest L ch D U rk) (hB : ∃ B, ∀ n, n < L → rk n ≤ B) {P : Nat → Prop} (h : ∀ n, n < L → (∀ m, m ∈ ch n → P m) → P n) {n : Nat} (hn : n < L) : P n := by
  obtain ⟨B, hB⟩ := hB
  generalize hk : B - rk n = k
  induction k using Nat.strongRecOn generalizing n with
  | _ k ih =>
    refine h n hn (fun m hm => ?_)
    have h1 := F.lt n hn m hm
    have h2 := F.rank n hn m hm
    have h3 := hB m h1
    exact ih (B - rk m) (by omega) h1 rfl

theorem bounded (rk : Nat → Nat) (L : Nat) : ∃ B, ∀ n, n < L → rk n ≤ B := by
  induction L with
  | zero => exact ⟨0, fun n h => by omega⟩
  | succ L ih =>
    obtain ⟨B, hB⟩ := ih
    refine ⟨B + rk L, fun n h => ?_⟩
    by_cases e : n = L
    · subst e; omega
    · have := hB n (by omega); omega

theorem d_head (F : Forest L ch D U rk) {n : Nat} (hn : n < L) : ∃ r, D n = n :: r := ⟨_, F.deq n hn⟩
/-- Whoever is below lies there with all below it, one behind the other. -/
theorem d_segment (F : Forest L ch D U rk) {n : Nat} (hn : n < L) : ∀ {x : Nat}, x ∈ D n → x < L ∧ n ∈ U x ∧ ∃ p s, D n = p ++ D x ++ s := by
  refine F.down_ind (P := fun n => ∀ {x : Nat}, x ∈ D n → x < L ∧ n ∈ U x ∧ ∃ p s, D n = p ++ D x ++ s) (bounded rk L) ?_ hn
  intro n hn ih x hx
  rw [F.deq n hn] at hx
  rcases List.mem_cons.mp hx with rfl | hx
  · exact ⟨hn, F.u_self hn, [], [], by simp⟩
  · obtain ⟨q, hq, hxq⟩ := List.mem_flatMap.mp hx
    obtain ⟨h1, h2, p, s, h3⟩ := ih q hq hxq
    refine ⟨h1, F.u_trans h1 (F.u_kid hn hq) h2, ?_⟩
    obtain ⟨l1, l2, hl⟩ := List.append_of_mem hq
    refine ⟨n :: l1.flatMap D ++ p, s ++ l2.flatMap D, ?_⟩
    rw [F.deq n hn, hl, List.flatMap_append, List.flatMap_cons, h3]
    simp
theorem d_lt (F : Forest L ch D U rk) {n x : Nat} (hn : n < L) (hx : x ∈ D n) : x < L := (F.d_segment hn hx).1
theorem d_self (F : Forest L ch D U rk) {n : Nat} (hn : n < L) : n ∈ D n := by rw [F.deq n hn]; exact List.mem_cons_self ..
theorem d_trans (F : Forest L ch D U rk) {n m x : Nat} (hn : n < L) (h1 : m ∈ D n) (h2 : x ∈ D m) : x ∈ D n := by
  obtain ⟨_, _, p, s, h⟩ := F.d_segment hn h1
  rw [h]; simp [h2]
/-- A node is below just those that are above it. -/
theorem mem_d (F : Forest L ch D U rk) {n x : Nat} (hn : n < L) (hx : x < L) : x ∈ D n ↔ n ∈ U x := by
  refine ⟨fun h => (F.d_segment hn h).2.1, fun h => ?_⟩
  generalize hk : rk x = k
  induction k using Nat.strongRecOn generalizing x with
  | _ k ih =>
    rcases F.u_cases hx with e | ⟨m, hm, hc, e⟩
    · rw [e] at h
      have : n = x := by simpa using h
      subst this
      exact F.d_self hn
    · rw [e] at h
      rcases List.mem_cons.mp h with rfl | h
      · exact F.d_self hn
      · have hr := F.rank m hm x hc
        have h1 := ih (rk m) (by omega) hm h rfl
        refine F.d_trans hn h1 ?_
        rw [F.deq m hm]
        exact List.mem_cons_of_mem _ (List.mem_flatMap.mpr ⟨x, hc, F.d_self hx⟩)
theorem d_nodup (F : Forest L ch D U rk) {n : Nat} (hn : n < L) : (D n).Nodup := by
  refine F.down_ind (P := fun n => (D n).Nodup) (bounded rk L) ?_ hn
  intro n hn ih
  rw [F.deq n hn, List.nodup_cons]
  refine ⟨fun h => ?_, ?_⟩
  · obtain ⟨q, hq, hx⟩ := List.mem_flatMap.mp h
    have h1 := (F.d_segment (F.lt n hn q hq) hx).2.1
    have hr := F.rank n hn q hq
    rcases F.u_rank hn h1 with e | e
    · subst e; omega
    · omega
  · show List.Pairwise _ _
    rw [List.pairwise_flatMap]
    refine ⟨fun q hq => ih q hq, ?_⟩
    have hnd := F.nd n hn
    refine List.Pairwise.imp_of_mem (fun {a b} ha hb hab x hx y hy => ?_) hnd
    rintro rfl
    have hal := F.lt n hn a ha
    have hbl := F.lt n hn b hb
    obtain ⟨hxl, h1, _⟩ := F.d_segment hal hx
    obtain ⟨_, h2, _⟩ := F.d_segment hbl hy
    have key : ∀ {c d : Nat}, c ∈ ch n → d ∈ ch n → c ≠ d → c ∈ U d → False := fun {c d} hc hd hcd h => by
      rw [F.up n hn d hd] at h
      rcases List.mem_cons.mp h with e | h
      · exact hcd e
      · have := F.u_rank hn h
        have hr := F.rank n hn c hc
        rcases this with e | e
        · subst e; omega
        · omega
    rcases F.u_linear hxl h1 h2 with h | h
    · exact key ha hb hab h
    · exact key hb ha (fun e => hab e.symm) h
theorem d_len (F : Forest L ch D U rk) {n : Nat} (hn : n < L) : (D n).length ≤ L := pigeonF L _ (F.d_nodup hn) (fun _ hx => F.d_lt hn hx)
theorem u_len (F : Forest L ch D U rk) {n : Nat} (hn : n < L) : (U n).length ≤ L := pigeonF L _ (F.u_nodup hn) (fun _ hx => F.u_lt hn hx)
theorem d_count (F : Forest L ch D U rk) {n : Nat} (hn : n < L) (p : Nat → Bool) (hp : ∀ k, k < L → (p k = true ↔ n ∈ U k)) : (D n).length = ((List.range L).filter p).length := by
  refine same_len (F.d_nodup hn) (List.nodup_range.filter p) (fun x => ?_)
  rw [List.mem_filter, List.mem_range]
  constructor
  · intro h
    have hx := F.d_lt hn h
    exact ⟨hx, (hp x hx).mpr ((F.mem_d hn hx).mp h)⟩
  · rintro ⟨hx, h⟩
    exact (F.mem_d hn hx).mpr ((hp x hx).mp h)
end Forest
end Go.Proofs.Ytnbnijhdmnoelaa
