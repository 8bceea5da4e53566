/- Part 3 of what the laws of layer 10 lean on. -/
import Derived.RangeFuncCalls
import Derived.Deep.RegionHeld3
import Derived.Deep.QuietTactic
import Derived.BigQuiet
import Derived.Test.YtclhimodopgeoaaGreatTC1
import Derived.Test.YtclhimodopgeoaaGreatTC2
namespace Go.Proofs.YtclhimodopgeoaaGreat
open Go.RowKit

def bothB (T : List Nd) (a b : Int) : Bool := mayB T && isNodeB T.length a && isNodeB T.length b

set_option maxHeartbeats 1000000 in
theorem refBoth_any (T : List Nd) (hS : Sane T) (v : Value) (a b : Int) (w : World) (hT : TreeAt w v T) :
    Calls Tryz.prog 62 #[v, .int .i64 a, .int .i64 b] w fun e w' => e = .returned (.bool (bothB T a b)) ∧ Below w.heap.size w w' := by
  obtain ⟨ta, tc, rfl⟩ := hT.shape
  have HT := hideG hT
  have HS := hideG hS
  clear hT hS
  cases hm : mayB T
  · have HQ := hideG (show bothB T a b = false by simp [bothB, hm])
    go_enter Tryz.func62, Tryz.ntmps62
    go_wp2_with (go_at_call 38; refine (refMay_walk T HS.out _ _ HT.out).mono ?_; rintro e w1 ⟨rfl, hb1⟩)
    go_ret
    exact ⟨ret_bool HQ.out.symm, hb1⟩
  · cases ha : isNodeB T.length a
    · have HQ := hideG (show bothB T a b = false by simp [bothB, ha])
      go_enter Tryz.func62, Tryz.ntmps62
      go_wp2_with (first | (go_at_call 38; refine (refMay_walk T HS.out _ _ HT.out).mono ?_; rintro e w1 ⟨rfl, hb1⟩) | (go_at_call 47; refine (refIs_any _ _ _ _ _).mono ?_; rintro e w2 ⟨rfl, hw⟩; subst hw))
      go_ret
      exact ⟨ret_bool HQ.out.symm, hb1⟩
    · have HQ := hideG (show bothB T a b = isNodeB T.length b by simp [bothB, ha, hm])
      go_enter Tryz.func62, Tryz.ntmps62
      go_wp2_with (first | (go_at_call 38; refine (refMay_walk T HS.out _ _ HT.out).mono ?_; rintro e w1 ⟨rfl, hb1⟩) | (go_at_call 47; refine (refIs_any _ _ _ _ _).mono ?_; rintro e w2 ⟨rfl, hw⟩; subst hw))
      go_ret
      exact ⟨ret_bool HQ.out.symm, hb1⟩

end Go.Proofs.YtclhimodopgeoaaGreat
namespace Go.Proofs.YtclhimodopgeoaaGreat
open Go.RowKit

/-- A node, and all above it. -/
def supN (T : List Nd) (n : Nat) : List Nat := n :: upsL T n

theorem supI_known {T : List Nd} (hm : mayB T = true) {n : Nat} (hn : n < T.length) : supI T (n : Int) = castL (supN T n) := by
  unfold supI
  rw [known_of hm hn, if_pos rfl, Int.toNat_natCast]; rfl
theorem mem_castL {l : List Nat} {x : Nat} : (x : Int) ∈ castL l ↔ x ∈ l := by
  unfold castL
  rw [List.mem_map]
  constructor
  · rintro ⟨y, hy, e⟩
    have : y = x := by omega
    exact this ▸ hy
  · intro h; exact ⟨x, h, rfl⟩
theorem above_iff {T : List Nd} (hm : mayB T = true) {a b : Nat} (hb : b < T.length) : aboveS T (a : Int) (b : Int) = true ↔ a ∈ supN T b := by
  unfold aboveS containsB
  rw [supI_known hm hb, decide_eq_true_eq, mem_castL]
theorem over_cases {T : List Nd} (hm : mayB T = true) {n : Nat} (hn : n < T.length) : ((overI (nd T n) == -1) = true) ∨ ∃ m : Nat, m < T.length ∧ overI (nd T n) = (m : Int) := by
  rcases mayB_upOk hm n hn with h | h
  · exact .inl h
  · obtain ⟨m, e, hl⟩ := isNodeB_true h
    exact .inr ⟨m, hl, e⟩
theorem fine_hostroot {T : List Nd} (hm : mayB T = true) {t g : Nat} (ht : t < T.length) (hk : (nd T t).kind = 3) (hh : (nd T t).host = (g : Int)) : (nd T g).root = (t : Int) := by
  obtain ⟨h, hl, e1, _, e2⟩ := fine_host (mayB_fine hm) ht hk
  have : h = g := by omega
  exact this ▸ e2

end Go.Proofs.YtclhimodopgeoaaGreat

namespace Go.Proofs.YtclhimodopgeoaaGreat

theorem pigeonF : ∀ (n : Nat) (l : List Nat), l.Nodup → (∀ x ∈ l, x < n) → l.length ≤ n := by
  intro n
  induction n with
  | zero =>
    intro l _ h
    cases l with
    | nil => simp
    | cons a l => exact absurd (h a (List.mem_cons_self ..)) (by omega)
  | succ n ih =>
    intro l hl h
    by_cases hn : n ∈ l
    · have h1 : (l.erase n).length = l.length - 1 := List.length_erase_of_mem hn
      have h2 : (l.erase n).Nodup := hl.erase n
      have h3 := ih (l.erase n) h2 (fun x hx => by
        have hx1 := List.mem_of_mem_erase hx
        have hne : x ≠ n := fun e => by
          subst e
          exact (List.Nodup.not_mem_erase hl) hx
        have := h x hx1
        omega)
      have : 0 < l.length := List.length_pos_of_mem hn
      omega
    · have := ih l hl (fun x hx => by
        have h1 := h x hx
        have h2 : x ≠ n := fun e => hn (e ▸ hx)
        omega)
      omega

/-- ch: a node's kids; D: a node and all below it; U: a node and all above it; rk: how deep. -/
structure Forest (L : Nat) (ch D U : Nat → List Nat) (rk : Nat → Nat) : Prop where
  deq : ∀ n, n < L → D n = n :: (ch n).flatMap D
  lt : ∀ n, n < L → ∀ m, m ∈ ch n → m < L
  nd : ∀ n, n < L → (ch n).Nodup
  up : ∀ n, n < L → ∀ m, m ∈ ch n → U m = m :: U n
  top : ∀ n, n < L → U n = [n] ∨ ∃ m, m < L ∧ n ∈ ch m
  rank : ∀ n, n < L → ∀ m, m ∈ ch n → rk n < rk m

namespace Forest
variable {L : Nat} {ch D U : Nat → List Nat} {rk : Nat → Nat}

theorem u_cases (F : Forest L ch D U rk) {n : Nat} (hn : n < L) : U n = [n] ∨ ∃ m, m < L ∧ n ∈ ch m ∧ U n = n :: U m := by
  rcases F.top n hn with h | ⟨m, hm, h⟩
  · exact .inl h
  · exact .inr ⟨m, hm, h, F.up m hm n h⟩
theorem u_self (F : Forest L ch D U rk) {n : Nat} (hn : n < L) : n ∈ U n := by
  rcases F.u_cases hn with h | ⟨m, _, _, h⟩ <;> rw [h] <;> exact List.mem_cons_self ..
theorem u_suffix (F : Forest L ch D U rk) {n x : Nat} (hn : n < L) (hx : x ∈ U n) : ∃ p, U n = p ++ U x ∧ x < L ∧ rk x ≤ rk n := by
  generalize hk : rk n = k
  induction k using Nat.strongRecOn generalizing n with
  | _ k ih =>
    rcases F.u_cases hn with h | ⟨m, hm, hc, h⟩
    · rw [h] at hx
      have : x = n := by simpa using hx
      subst this
      exact ⟨[], rfl, hn, by omega⟩
    · rw [h] at hx
      rcases List.mem_cons.mp hx with rfl | hx
      · exact ⟨[], rfl, hn, by omega⟩
      · have hr := F.rank m hm n hc
        obtain ⟨p, hp, h2, h3⟩ := ih (rk m) (by omega) hm hx rfl
        exact ⟨n :: p, by rw [h, hp]; rfl, h2, by omega⟩
theorem u_lt (F : Forest L ch D U rk) {n x : Nat} (hn : n < L) (hx : x ∈ U n) : x < L := by
  obtain ⟨_, _, h, _⟩ := F.u_suffix hn hx; exact h
theorem u_trans (F : Forest L ch D U rk) {a b c : Nat} (hc : c < L) (h1 : a ∈ U b) (h2 : b ∈ U c) : a ∈ U c := by
  obtain ⟨p, hp, _⟩ := F.u_suffix hc h2
  rw [hp]; exact List.mem_append.mpr (.inr h1)
theorem u_rank (F : Forest L ch D U rk) {a b : Nat} (hb : b < L) (h : a ∈ U b) : a = b ∨ rk a < rk b := by
  rcases F.u_cases hb with e | ⟨m, hm, hc, e⟩
  · rw [e] at h; exact .inl (by simpa using h)
  · rw [e] at h
    rcases List.mem_cons.mp h with rfl | h
    · exact .inl rfl
    · obtain ⟨_, _, _, h3⟩ := F.u_suffix hm h
      have := F.rank m hm b hc
      exact .inr (by omega)
theorem u_nodup (F : Forest L ch D U rk) {n : Nat} (hn : n < L) : (U n).Nodup := by
  generalize hk : rk n = k
  induction k using Nat.strongRecOn generalizing n with
  | _ k ih =>
    rcases F.u_cases hn with h | ⟨m, hm, hc, h⟩
    · rw [h]; simp
    · rw [h, List.nodup_cons]
      have hr := F.rank m hm n hc
      refine ⟨fun e => ?_, ih (rk m) (by omega) hm rfl⟩
      obtain ⟨_, _, _, h3⟩ := F.u_suffix hm e
      omega
theorem u_kid (F : Forest L ch D U rk) {n m : Nat} (hn : n < L) (hm : m ∈ ch n) : n ∈ U m := by
  rw [F.up n hn m hm]; exact List.mem_cons_of_mem _ (F.u_self hn)
/-- Of two above one node one is above the other. -/
theorem u_linear (F : Forest L ch D U rk) {a b x : Nat} (hx : x < L) (ha : a ∈ U x) (hb : b ∈ U x) : a ∈ U b ∨ b ∈ U a := by
  obtain ⟨p, hp, hal, _⟩ := F.u_suffix hx ha
  obtain ⟨q, hq, hbl, _⟩ := F.u_suffix hx hb
  rw [hp] at hq
  have h1 : a ∈ U a := F.u_self hal
  have h2 : b ∈ U b := F.u_self hbl
  rcases List.append_eq_append_iff.mp hq with ⟨r, _, h⟩ | ⟨r, _, h⟩
  · exact .inr (by rw [h]; exact List.mem_append.mpr (.inr h2))
  · exact .inl (by rw [h]; exact List.mem_append.mpr (.inr h1))

/-- What may be shown of kids first may be shown of all. -/
theorem down_ind (F : Forest L ch D U rk) (hB : ∃ B, ∀ n, n < L → rk n ≤ B) {P : Nat → Prop} (h : ∀ n, n < L → (∀ m, m ∈ ch n → P m) → P n) {n : Nat} (hn : n < L) : P n := by
  obtain ⟨B, hB⟩ := hB
  generalize hk : B - rk n = k
  induction k using Nat.strongRecOn generalizing n with
  | _ k ih =>
    refine h n hn (fun m hm => ?_)
    have h1 := F.lt n hn m hm
    have h2 := F.rank n hn m hm
    have h3 := hB m h1
    exact ih (B - rk m) (by omega) h1 rfl

theorem bounded (rk : Nat → Nat) (L : Nat) : ∃ B, ∀ n, n < L → rk n ≤ B := by
  induction L with
  | zero => exact ⟨0, fun n h => by omega⟩
  | succ L ih =>
    obtain ⟨B, hB⟩ := ih
    refine ⟨B + rk L, fun n h => ?_⟩
    by_cases e : n = L
    · subst e; omega
    · have := hB n (by omega); omega

/-- Whoever is below lies there with all below it, one behind the other. -/
theorem d_segment (F : Forest L ch D U rk) {n : Nat} (hn : n < L) : ∀ {x : Nat}, x ∈ D n → x < L ∧ n ∈ U x ∧ ∃ p s, D n = p ++ D x ++ s := by
  refine F.down_ind (P := fun n => ∀ {x : Nat}, x ∈ D n → x < L ∧ n ∈ U x ∧ ∃ p s, D n = p ++ D x ++ s) (bounded rk L) ?_ hn
  intro n hn ih x hx
  rw [F.deq n hn] at hx
  rcases List.mem_cons.mp hx with rfl | hx
  · exact ⟨hn, F.u_self hn, [], [], by simp⟩
  · obtain ⟨q, hq, hxq⟩ := List.mem_flatMap.mp hx
    obtain ⟨h1, h2, p, s, h3⟩ := ih q hq hxq
    refine ⟨h1, F.u_trans h1 (F.u_kid hn hq) h2, ?_⟩
    obtain ⟨l1, l2, hl⟩ := List.append_of_mem hq
    refine ⟨n :: l1.flatMap D ++ p, s ++ l2.flatMap D, ?_⟩
    rw [F.deq n hn, hl, List.flatMap_append, List.flatMap_cons, h3]
    simp
theorem d_lt (F : Forest L ch D U rk) {n x : Nat} (hn : n < L) (hx : x ∈ D n) : x < L := (F.d_segment hn hx).1
theorem d_self (F : Forest L ch D U rk) {n : Nat} (hn : n < L) : n ∈ D n := by rw [F.deq n hn]; exact List.mem_cons_self ..
theorem d_trans (F : Forest L ch D U rk) {n m x : Nat} (hn : n < L) (h1 : m ∈ D n) (h2 : x ∈ D m) : x ∈ D n := by
  obtain ⟨_, _, p, s, h⟩ := F.d_segment hn h1
  rw [h]; simp [h2]
/-- A node is below just those that are above it. -/
theorem mem_d (F : Forest L ch D U rk) {n x : Nat} (hn : n < L) (hx : x < L) : x ∈ D n ↔ n ∈ U x := by
  refine ⟨fun h => (F.d_segment hn h).2.1, fun h => ?_⟩
  generalize hk : rk x = k
  induction k using Nat.strongRecOn generalizing x with
  | _ k ih =>
    rcases F.u_cases hx with e | ⟨m, hm, hc, e⟩
    · rw [e] at h
      have : n = x := by simpa using h
      subst this
      exact F.d_self hn
    · rw [e] at h
      rcases List.mem_cons.mp h with rfl | h
      · exact F.d_self hn
      · have hr := F.rank m hm x hc
        have h1 := ih (rk m) (by omega) hm h rfl
        refine F.d_trans hn h1 ?_
        rw [F.deq m hm]
        exact List.mem_cons_of_mem _ (List.mem_flatMap.mpr ⟨x, hc, F.d_self hx⟩)
theorem d_nodup (F : Forest L ch D U rk) {n : Nat} (hn : n < L) : (D n).Nodup := by
  refine F.down_ind (P := fun n => (D n).Nodup) (bounded rk L) ?_ hn
  intro n hn ih
  rw [F.deq n hn, List.nodup_cons]
  refine ⟨fun h => ?_, ?_⟩
  · obtain ⟨q, hq, hx⟩ := List.mem_flatMap.mp h
    have h1 := (F.d_segment (F.lt n hn q hq) hx).2.1
    have hr := F.rank n hn q hq
    rcases F.u_rank hn h1 with e | e
    · subst e; omega
    · omega
  · show List.Pairwise _ _
    rw [List.pairwise_flatMap]
    refine ⟨fun q hq => ih q hq, ?_⟩
    have hnd := F.nd n hn
    refine List.Pairwise.imp_of_mem (fun {a b} ha hb hab x hx y hy => ?_) hnd
    rintro rfl
    have hal := F.lt n hn a ha
    have hbl := F.lt n hn b hb
    obtain ⟨hxl, h1, _⟩ := F.d_segment hal hx
    obtain ⟨_, h2, _⟩ := F.d_segment hbl hy
    have key : ∀ {c d : Nat}, c ∈ ch n → d ∈ ch n → c ≠ d → c ∈ U d → False := fun {c d} hc hd hcd h => by
      rw [F.up n hn d hd] at h
      rcases List.mem_cons.mp h with e | h
      · exact hcd e
      · have := F.u_rank hn h
        have hr := F.rank n hn c hc
        rcases this with e | e
        · subst e; omega
        · omega
    rcases F.u_linear hxl h1 h2 with h | h
    · exact key ha hb hab h
    · exact key hb ha (fun e => hab e.symm) h
theorem d_len (F : Forest L ch D U rk) {n : Nat} (hn : n < L) : (D n).length ≤ L := pigeonF L _ (F.d_nodup hn) (fun _ hx => F.d_lt hn hx)
theorem u_len (F : Forest L ch D U rk) {n : Nat} (hn : n < L) : (U n).length ≤ L := pigeonF L _ (F.u_nodup hn) (fun _ hx => F.u_lt hn hx)
end Forest
end Go.Proofs.YtclhimodopgeoaaGreat
namespace Go.Proofs.YtclhimodopgeoaaGreat

/-- The first place of x; the length, if it is not there. -/
def pos (x : Nat) : List Nat → Nat
  | [] => 0
  | a :: l => if x = a then 0 else pos x l + 1
theorem pos_mem {x : Nat} : ∀ {l : List Nat}, x ∈ l ↔ pos x l < l.length
  | [] => by simp [pos]
  | a :: l => by
    have ih := pos_mem (x := x) (l := l)
    by_cases e : x = a
    · subst e; simp [pos]
    · simp [pos, e, ih]
theorem pos_left {x : Nat} : ∀ {p : List Nat} (s : List Nat), x ∈ p → pos x (p ++ s) = pos x p
  | [], s, h => by simp at h
  | a :: p, s, h => by
    by_cases e : x = a
    · subst e; simp [pos]
    · have := pos_left (x := x) (p := p) s (by simpa [e] using h)
      simp [pos, e, this]
theorem pos_right {x : Nat} : ∀ {p : List Nat} (s : List Nat), x ∉ p → pos x (p ++ s) = p.length + pos x s
  | [], s, h => by simp
  | a :: p, s, h => by
    have e : x ≠ a := fun e => h (e ▸ List.mem_cons_self ..)
    have := pos_right (x := x) (p := p) s (fun h' => h (List.mem_cons_of_mem _ h'))
    simp [pos, e, this]; omega
theorem pos_ahead {a b : Nat} {p r : List Nat} (hn : (p ++ a :: r).Nodup) (hb : b ∈ r) : pos a (p ++ a :: r) < pos b (p ++ a :: r) := by
  rw [List.nodup_append] at hn
  obtain ⟨_, h2, h3⟩ := hn
  have ha : a ∉ p := fun h => h3 a h a (List.mem_cons_self ..) rfl
  have hbp : b ∉ p := fun h => h3 b h b (List.mem_cons_of_mem _ hb) rfl
  rw [List.nodup_cons] at h2
  have hne : b ≠ a := fun e => h2.1 (e ▸ hb)
  rw [pos_right _ ha, pos_right _ hbp]
  simp [pos, hne]
end Go.Proofs.YtclhimodopgeoaaGreat
namespace Go.Proofs.YtclhimodopgeoaaGreat
open Go.RowKit

def chK (T : List Nd) (n : Nat) : List Nat := (nd T n).kids.map Int.toNat
theorem map_nodup : ∀ {l : List Int}, l.Nodup → (∀ k ∈ l, 0 ≤ k) → (l.map Int.toNat).Nodup
  | [], _, _ => by simp
  | a :: l, hl, hp => by
    rw [List.nodup_cons] at hl
    rw [List.map_cons, List.nodup_cons]
    refine ⟨fun hm => ?_, map_nodup hl.2 (fun k hk => hp k (List.mem_cons_of_mem _ hk))⟩
    obtain ⟨x, hx, he⟩ := List.mem_map.mp hm
    have h1 := hp a (List.mem_cons_self ..)
    have h2 := hp x (List.mem_cons_of_mem _ hx)
    have : x = a := by omega
    exact hl.1 (this ▸ hx)
theorem mem_chK {T : List Nd} (hF : Fine T) {n m : Nat} (hn : n < T.length) (h : m ∈ chK T n) : m < T.length ∧ (m : Int) ∈ (nd T n).kids ∧ canBeKidB (nd T m).kind = true ∧ (nd T m).parent = (n : Int) := by
  obtain ⟨x, hx, rfl⟩ := List.mem_map.mp h
  obtain ⟨q, rfl, hql, hk, hp⟩ := kidP_iff.mp (hF.kid n hn x hx)
  rw [Int.toNat_natCast]
  exact ⟨hql, hx, hk, hp⟩
theorem chK_nodup {T : List Nd} (hF : Fine T) {n : Nat} (hn : n < T.length) : (chK T n).Nodup :=
  map_nodup (hF.nodup n hn) (fun k hk => by obtain ⟨q, rfl, _⟩ := kidP_iff.mp (hF.kid n hn k hk); omega)
theorem forest3 {T : List Nd} (hm : mayB T = true) : Forest T.length (chK T) (dn T) (pars T) (fun n => (upsL T n).length) := by
  have hF := mayB_fine hm
  refine ⟨fun n hn => ?_, fun n hn m h => (mem_chK hF hn h).1, fun n hn => chK_nodup hF hn, fun n hn m h => ?_, fun n hn => ?_, fun n hn m h => ?_⟩
  · rw [dn_eq hm hn, chK, List.flatMap_map]
  · obtain ⟨h1, _, _, h4⟩ := mem_chK hF hn h
    exact pars_some hm h1 h4
  · rcases hF.par n hn with e | ⟨p, hp, e, hmem⟩
    · exact .inl (pars_none (by rw [e]; rfl))
    · exact .inr ⟨p, hp, List.mem_map.mpr ⟨(n : Int), hmem, by simp⟩⟩
  · obtain ⟨h1, _, h3, h4⟩ := mem_chK hF hn h
    have := (upsL_some hm h1 (over_of_parent hF h1 h4)).1
    simp [this]

def chS (T : List Nd) (n : Nat) : List Nat := (if (nd T n).root == -1 then [] else [(nd T n).root.toNat]) ++ chK T n
theorem root_facts {T : List Nd} (hF : Fine T) {n : Nat} (hn : n < T.length) (hr : ((nd T n).root == -1) = false) : ∃ m : Nat, (nd T n).root = (m : Int) ∧ m < T.length ∧ (nd T m).kind = 3 ∧ (nd T m).host = (n : Int) := by
  rcases rootP_iff.mp (hF.root n hn) with e | ⟨_, r, hrl, e, hk, hh⟩
  · rw [e] at hr; simp at hr
  · exact ⟨r, e, hrl, hk, hh⟩
theorem mem_chS {T : List Nd} (hF : Fine T) {n m : Nat} (hn : n < T.length) (h : m ∈ chS T n) : m < T.length ∧ overI (nd T m) = (n : Int) := by
  rcases List.mem_append.mp h with h | h
  · cases hr : ((nd T n).root == -1)
    · rw [hr] at h
      obtain ⟨q, e, hql, hk, hh⟩ := root_facts hF hn hr
      have : m = q := by simpa [e] using h
      subst this
      exact ⟨hql, by unfold overI; rw [hk]; exact hh⟩
    · rw [hr] at h; simp at h
  · obtain ⟨h1, _, h3, h4⟩ := mem_chK hF hn h
    exact ⟨h1, by rw [over_parent (kid_not_shadow h3)]; exact h4⟩
theorem forest4 {T : List Nd} (hm : mayB T = true) : Forest T.length (chS T) (sl T) (supN T) (fun n => (upsL T n).length) := by
  have hF := mayB_fine hm
  refine ⟨fun n hn => ?_, fun n hn m h => (mem_chS hF hn h).1, fun n hn => ?_, fun n hn m h => ?_, fun n hn => ?_, fun n hn m h => ?_⟩
  · rw [sl_eq hm hn, chS, chK, List.flatMap_append, List.flatMap_map]
    cases hr : ((nd T n).root == -1) <;> simp
  · unfold chS
    cases hr : ((nd T n).root == -1)
    · obtain ⟨q, e, hql, hk, hh⟩ := root_facts hF hn hr
      simp only [Bool.false_eq_true, if_false, List.singleton_append, List.nodup_cons, e, Int.toNat_natCast]
      refine ⟨fun h => ?_, chK_nodup hF hn⟩
      exact kid_not_shadow (mem_chK hF hn h).2.2.1 hk
    · simpa using chK_nodup hF hn
  · obtain ⟨h1, h2⟩ := mem_chS hF hn h
    show m :: upsL T m = m :: (n :: upsL T n)
    rw [(upsL_some hm h1 h2).1]
  · rcases over_cases hm hn with e | ⟨p, hp, e⟩
    · exact .inl (by show n :: upsL T n = [n]; rw [upsL_none e])
    · refine .inr ⟨p, hp, ?_⟩
      unfold chS
      rw [List.mem_append]
      by_cases hk : (nd T n).kind = 3
      · obtain ⟨h, hl, h1, _, h2⟩ := fine_host hF hn hk
        have hph : h = p := by unfold overI at e; rw [hk] at e; simp at e; omega
        subst hph
        left
        rw [h2]
        have : ((n : Int) == -1) = false := by simp
        simp [this]
      · right
        rw [over_parent hk] at e
        rcases hF.par n hn with e' | ⟨q, hq, e', hmem⟩
        · omega
        · have : q = p := by omega
          subst this
          exact List.mem_map.mpr ⟨(n : Int), hmem, by simp⟩
  · obtain ⟨h1, h2⟩ := mem_chS hF hn h
    simp [(upsL_some hm h1 h2).1]

theorem top_in {T : List Nd} (hm : mayB T = true) {a : Nat} (ha : a < T.length) : topN T a ∈ pars T a := by
  obtain ⟨_, ⟨i, hi⟩, _⟩ := sup_split hm ha
  rw [hi]; simp
theorem top_lt {T : List Nd} (hm : mayB T = true) {a : Nat} (ha : a < T.length) : topN T a < T.length := (sup_split hm ha).1
theorem top_eq {T : List Nd} (hm : mayB T = true) {a x : Nat} (ha : a < T.length) (hx : x ∈ pars T a) : topN T x = topN T a := by
  obtain ⟨p, hp, hxl, _⟩ := (forest3 hm).u_suffix ha hx
  obtain ⟨_, ⟨i, hi⟩, _⟩ := sup_split hm ha
  obtain ⟨_, ⟨j, hj⟩, _⟩ := sup_split hm hxl
  rw [hi, hj, ← List.append_assoc] at hp
  have := congrArg List.getLast? hp
  simp at this
  exact this.symm
end Go.Proofs.YtclhimodopgeoaaGreat

namespace Go.Proofs.YtclhimodopgeoaaGreat
open Go.RowKit

def allocs (w : World) (os : List Obj) : World := os.foldl World.alloc w
theorem allocs_below (w : World) (os : List Obj) : Below w.heap.size w (allocs w os) := by
  induction os generalizing w with
  | nil => exact Below.refl _ _
  | cons o os ih => exact ((Below.refl _ w).alloc (Nat.le_refl _) o).trans ((ih (w.alloc o)).mono (by simp))
theorem allocs_at (w : World) (os : List Obj) (i : Nat) (o : Obj) (h : os[i]? = some o) : (allocs w os).heap[w.heap.size + i]? = some o := by
  induction os generalizing w i with
  | nil => simp at h
  | cons p os ih =>
    cases i with
    | zero =>
      simp at h; subst h
      have hb := (allocs_below (w.alloc p) os).block w.heap.size (by simp)
      exact hb.trans (World.alloc_heap_new w p)
    | succ i =>
      have := ih (w.alloc p) i (by simpa using h)
      rw [World.size_alloc] at this
      rw [show w.heap.size + (i + 1) = w.heap.size + 1 + i by omega]
      exact this

theorem cell_of_cells {U : World} {g : Nat} {cs : Array Value} {t : TypeId} (h : U.heap[g]? = some (.cells cs t)) {j : Nat} {u : Value} (hj : cs[j]? = some u) : U.cell? ⟨g, j, none⟩ = some u := by
  simp [World.cell?, h, hj]
theorem ints_lit {U : World} {g : Nat} (l : List Int) {cs : Array Value} (h : U.heap[g]? = some (.cells cs 3)) (hc : cs = (intCells l).toArray) : IntsAt U (.slice (some ⟨g, 0, none⟩) l.length l.length) l := by
  refine ⟨_, l.length, rfl, fun _ => ⟨g, 0, rfl, fun j hj => ?_⟩⟩
  subst hc
  rw [Nat.zero_add]
  exact cell_of_cells h (by simp [intCells_at hj])
theorem attrs_lit {U : World} {g : Nat} {t : TypeId} (l : List (Int × Int)) {cs : Array Value} (h : U.heap[g]? = some (.cells cs t)) (hc : cs = (attrCells l).toArray) : AttrsAt U (.slice (some ⟨g, 0, none⟩) l.length l.length) l := by
  refine ⟨_, l.length, rfl, fun _ => ⟨g, 0, rfl, fun j hj => ?_⟩⟩
  subst hc
  have := attrCells_at hj
  rw [Nat.zero_add]
  exact ⟨cell_of_cells h (by simp [this.1]), cell_of_cells h (by simp [this.2])⟩
theorem ints_none (U : World) : IntsAt U (.slice none 0 0) [] := ⟨none, 0, rfl, fun h => by simp at h⟩
theorem attrs_none (U : World) : AttrsAt U (.slice none 0 0) [] := ⟨none, 0, rfl, fun h => by simp at h⟩

def nodesL : List (Nd × Value × Value) → List Value
  | [] => []
  | (x, kv, av) :: r => .int .i64 x.kind :: .int .i64 x.tag :: .int .i64 x.parent :: kv :: .int .i64 x.host :: .int .i64 x.root :: av :: nodesL r
theorem nodesL_at : ∀ (r : List (Nd × Value × Value)) (n : Nat) (x : Nd) (kv av : Value), r[n]? = some (x, kv, av) →
    (nodesL r)[n * 7]? = some (.int .i64 x.kind) ∧ (nodesL r)[n * 7 + 1]? = some (.int .i64 x.tag) ∧ (nodesL r)[n * 7 + 2]? = some (.int .i64 x.parent) ∧ (nodesL r)[n * 7 + 3]? = some kv ∧ (nodesL r)[n * 7 + 4]? = some (.int .i64 x.host) ∧ (nodesL r)[n * 7 + 5]? = some (.int .i64 x.root) ∧ (nodesL r)[n * 7 + 6]? = some av
  | [], n, x, kv, av, h => by simp at h
  | (y, kv', av') :: r, 0, x, kv, av, h => by
    simp only [List.getElem?_cons_zero, Option.some.injEq, Prod.mk.injEq] at h
    obtain ⟨rfl, rfl, rfl⟩ := h
    simp [nodesL]
  | (y, kv', av') :: r, n + 1, x, kv, av, h => by
    have ih := nodesL_at r n x kv av (by simpa using h)
    have e : ∀ j, (n + 1) * 7 + j = n * 7 + j + 1 + 1 + 1 + 1 + 1 + 1 + 1 := fun j => by omega
    have e0 : (n + 1) * 7 = n * 7 + 1 + 1 + 1 + 1 + 1 + 1 + 1 := by omega
    rw [e, e, e, e, e, e, e0]
    simpa only [nodesL, List.getElem?_cons_succ] using ih
/-- The tree whose nodes a block holds. -/
theorem tree_lit {U : World} {g : Nat} {cs : Array Value} (r : List (Nd × Value × Value)) (h : U.heap[g]? = some (.cells cs 57)) (hc : cs = (nodesL r).toArray) (hr : ∀ p ∈ r, IntsAt U p.2.1 p.1.kids ∧ AttrsAt U p.2.2 p.1.attrs) :
    TreeAt U (.slice (some ⟨g, 0, none⟩) r.length r.length) (r.map (·.1)) := by
  subst hc
  refine ⟨_, r.length, by simp, fun _ => ⟨g, 0, rfl, fun n hn => ?_⟩⟩
  have hn' : n < r.length := by simpa using hn
  obtain ⟨x, kv, av⟩ : Nd × Value × Value := r[n]
  obtain ⟨x, kv, av, hx⟩ : ∃ x kv av, r[n]? = some (x, kv, av) := ⟨r[n].1, r[n].2.1, r[n].2.2, List.getElem?_eq_getElem hn'⟩
  have hnd : nd (r.map (·.1)) n = x := by
    unfold nd
    rw [List.getD_eq_getElem?_getD, List.getElem?_map, hx]; rfl
  obtain ⟨h0, h1, h2, h3, h4, h5, h6⟩ := nodesL_at r n x kv av hx
  obtain ⟨hk, ha⟩ := hr (x, kv, av) (List.mem_of_getElem? hx)
  rw [hnd, Nat.zero_add]
  have f : ∀ {j : Nat} {u : Value}, (nodesL r)[j]? = some u → U.cell? ⟨g, j, none⟩ = some u := fun hj => cell_of_cells h (by simpa using hj)
  exact ⟨kv, av, f h0, f h1, f h2, f h3, f h4, f h5, f h6, hk, ha⟩
end Go.Proofs.YtclhimodopgeoaaGreat

namespace Go.Proofs.YtclhimodopgeoaaGreat
open Go.RowKit

theorem ownsRow_new1 (w : World) (x : Int) : (w.alloc (.cells #[.int .i64 x] 3)).ownsRow w.heap.size 3 1 (.slice (some ⟨w.heap.size, 0, none⟩) 1 1) 1 (intCells [x]) :=
  ⟨by simp [intCells], .inr ⟨w.heap.size, 1, #[.int .i64 x], rfl, Nat.le_refl _, World.alloc_heap_new w _, Nat.le_refl _, by simp [maxLen], rfl, by simp [intCells]⟩⟩

end Go.Proofs.YtclhimodopgeoaaGreat
namespace Go.Proofs.YtclhimodopgeoaaGreat
open Go.RowKit Go.Shelf

attribute [local go_sem] Oper.semAt_some

end Go.Proofs.YtclhimodopgeoaaGreat
namespace Go.Proofs.YtclhimodopgeoaaGreat
open Go.RowKit Go.Shelf

attribute [local go_sem] Oper.semAt_some

end Go.Proofs.YtclhimodopgeoaaGreat
namespace Go.Proofs.YtclhimodopgeoaaGreat
open Go.RowKit Go.Shelf

attribute [local go_sem] Oper.semAt_some

theorem wpListIn_append_any {F : Fence} {N : Nat} {P : Program} {w : World} {ops : Array Oper} {rest : List Oper} {o : Oper} {a : Act} {Q : Exit → Act → World → Prop} (hgd : o.guard = none) (s x : Operand) (t : TypeId)
    (ho : o.op = .call { callee := .builtin .append, args := #[s, x], argTypes := #[t, t] })
    (base : Nat) (e : TypeId) (i : TypeInfo) (z : Value) (size bytes : Nat) (ht : P.underlying t = some (.slice e)) (hi : P.info? e = some i) (hz : i.zero = some z)
    (hsize : i.size = size) (hby : i.bytes = bytes) (hzs : z.cells.size = size) (hsz : 0 < size)
    (v : Value) (n : Nat) (xs : List Value) (hs : a.eval s = v) (hown : w.ownsRow base e size v n xs)
    (u : Value) (m : Nat) (news : List Value) (hx : a.eval x = u) (hu : Holds w u m news) (hl : news.length = m * size) (h1 : ∀ x ∈ news, x.oneCell' = true)
    (h63 : n + m ≤ maxLen) (hbytes : (n + m) * bytes ≤ 140737488355328) (hbase : base ≤ w.heap.size)
    (h : ∀ v' w', w'.ownsRow base e size v' (n + m) (xs ++ news) → w.grownBy w' v.ownBlock → (∀ k, v'.ownBlock = some k → v.ownBlock = some k ∨ w.heap.size ≤ k) → wpListIn F N P ops Q rest (a.put o.dst v') w') : wpListIn F N P ops Q (o :: rest) a w := by
  refine wpListIn_plain hgd fun K hK => ?_
  obtain ⟨v', w', hrun, h2, h3, h4⟩ := append_any (P := P) w base t o.type e i z size bytes ht hi hz hsize hby hzs hsz v n xs hown u m news hu hl h1 h63 hbytes hbase
  unfold Oper.wpIn
  refine ⟨?_, ?_⟩
  · simp [Oper.about, ho, resolve, Target.leads, Sem.run_pure]
  · rw [Oper.semAt_plain F _ _ (by rw [ho]; intro c hc'; cases hc')]
    simp [execOp, ho, resolve, invoke, builtin, hs, hx, hrun, Result.andThen]
    exact hK _ _ (h v' w' h2 h3 h4)

set_option maxRecDepth 100000 in
set_option maxHeartbeats 2000000 in
theorem appendDown_in (T : List Nd) (hm : mayB T = true) (n : Nat) (hn : n < T.length) (b off cap Bn Bt : Nat) (w : World) (hT : TreeAt w (.slice (some ⟨b, off, none⟩) T.length cap) T) (hBn : w.cell? ⟨Bn, 0, none⟩ = some (.int .i64 (n : Int))) (hBt : w.cell? ⟨Bt, 0, none⟩ = some (.slice (some ⟨b, off, none⟩) T.length cap)) (hlen : (dn T n).length ≤ 1000) :
    CallsIn Fence.wide 6 Tryz.prog 154 #[.slice none 0 0, .func (.func 223) #[] #[.pointer (some ⟨Bn, 0, none⟩), .pointer (some ⟨Bt, 0, none⟩)]] w fun e W' => ∃ a c, e = .returned (.slice a (dn T n).length c) ∧ W'.ownsRow w.heap.size 3 1 (.slice a (dn T n).length c) (dn T n).length (natCells (dn T n)) ∧ Below w.heap.size w W' := by
  obtain ⟨i3, hi3, hz30, hz31, hz32⟩ := info_parts infoT3
  have hpos := mayB_pos hm
  have hbn : Bn < w.heap.size := below_of_cell hBn
  have hbt : Bt < w.heap.size := below_of_cell hBt
  refine callsIn_of_wp_marks Tryz.func154 rfl trivial ?_ rfl
  simp only [Tryz.ntmps154, List.size_toArray, List.length_cons, List.length_nil, Nat.reduceAdd, Nat.reduceSub, Array.replicate_succ, Array.replicate_zero, List.push_toArray, List.append_toArray, List.nil_append, List.cons_append]
  gi_wp2
  have c0 := cell_new_l w (.slice none 0 0) 24
  have hB0 : Below w.heap.size w (w.alloc (.cells #[.slice none 0 0] 24)) := (Below.refl _ w).alloc (Nat.le_refl _) _
  obtain ⟨V, hV⟩ : ∃ V, w.alloc (.cells #[.slice none 0 0] 24) = V := ⟨_, rfl⟩
  rw [hV] at c0 hB0 ⊢
  have hsV : V.heap.size = w.heap.size + 1 := by rw [← hV]; simp
  clear hV
  have hx0 : ownX w.heap.size V = none := by unfold ownX; rw [c0.1]; rfl
  have hBnV := cell_below hB0 hBn
  have hBtV := cell_below hB0 hBt
  refine range_deep rfl (enters_of Tryz.func223 (by kernel_rfl) rfl) (fun x : Nat => #[Value.int .i64 (x : Int)]) (fun _ => rfl) w.heap.size (fun k => k = w.heap.size) (fun k e => by omega) (by omega) (fun g hg => by rw [hx0] at hg; cases hg) (dn T n) ?seq
    (fun pre W => (∃ v, W.cell? ⟨w.heap.size, 0, none⟩ = some v ∧ W.frozen? ⟨w.heap.size, 0, none⟩ = false ∧ W.ownsRow (w.heap.size + 1) 3 1 v pre.length (natCells pre)) ∧ Below w.heap.size w W)
    (fun _ _ _ => False)
    (OwnFrom.and (Own.from (fun s A B row hs hg hr => by
      obtain ⟨v, h1, h2, h3⟩ := hs
      exact ⟨v, cell_kept h1 hg hr, (frozen_kept h1 hg hr).trans h2, ownsRow_walk h3 hg hr⟩) _) (ownFrom_below (Nat.le_refl _) (by omega)))
    (fun c => fun s A B row hs _ _ => hs.elim)
    ⟨⟨.slice none 0 0, c0.1, c0.2, by exact World.ownsRow_nil _ _ _ _⟩, hB0⟩
    (fun x => { tmps := #[.slice none 0 0, .func (.func 223) #[] #[.pointer (some ⟨Bn, 0, none⟩), .pointer (some ⟨Bt, 0, none⟩)], .pointer (some ⟨w.heap.size, 0, none⟩), undef, .slice none 0 0, .int .i64 (x : Int), .func (.func 223) #[] #[.pointer (some ⟨Bn, 0, none⟩), .pointer (some ⟨Bt, 0, none⟩)], .int .i64 (x : Int), undef, undef, undef, undef, undef], defers := [] }) ?assign ?body ?done ?stop
  case seq =>
    intro U hBU hsU
    have hoU : ownX w.heap.size U = none := by rw [ownX_block (hBU.block w.heap.size (by omega))]; exact hx0
    have hh : ∀ k, k < w.heap.size → Held (fun k => k = w.heap.size ∨ k = V.heap.size + 1) w.heap.size U k := fun k hk => ⟨by omega, by omega, by rw [hoU]; intro e; cases e⟩
    exact down1_in T hm b off cap w hT w.heap.size (T.length + 1) n hn (by omega) _ _ Bn Bt U (fun k e => by omega) (by omega) (by omega) (hB0.trans (hBU.mono (by omega))) (fun g hg => by rw [hoU] at hg; cases hg) (hh _ hbn) (hh _ hbt) (cell_below hBU hBnV) (cell_below hBU hBtV)
  case assign =>
    intro l m x W K hK
    gi_wp2
    exact hK
  case body =>
    rintro l m pre x W ⟨⟨v, hc, hf, hown⟩, hB⟩ hlen'
    obtain ⟨va, vc, rfl⟩ := ownsRow_shape hown
    have HOW := hideG hown
    have HB := hideG hB
    have hs := hB.size
    have hlt : w.heap.size < W.heap.size := below_of_cell hc
    have hoW : ownX w.heap.size W = Value.ownBlock (.slice va pre.length vc) := by unfold ownX; rw [hc]; rfl
    clear hown hB hT hBn hBt hBnV hBtV
    have hcl : pre.length ≤ 1000 := by omega
    gi_wp2_with (gi_at_builtin; refine wpListIn_append_any rfl _ _ 24 rfl (w.heap.size + 1) 3 i3 _ 1 8 Tryz.underlying24 hi3 hz30 hz31 hz32 rfl (by decide) _ pre.length (natCells pre) rfl (HOW.out.alloc _) _ 1 [.int .i64 (x : Int)] rfl (row_new1 _ _) rfl ?h2 ?h3 ?h4 ?h5 ?_)
    case h2 => intro u hu; simp at hu; subst hu; rfl
    case h3 => simp only [maxLen]; omega
    case h4 => omega
    case h5 => simp; omega
    intro v' w' hown' hg' hfr
    obtain ⟨a4, c4, rfl⟩ := ownsRow_shape hown'
    rw [natCells_snoc] at hown'
    have hne0 : some w.heap.size ≠ Value.ownBlock (.slice va pre.length vc) := fun e => by have := (HOW.out.lt _ e.symm).1; omega
    have hc' : w'.cell? ⟨w.heap.size, 0, none⟩ = some (.slice va pre.length vc) := (World.cell?_of_block (a := ⟨w.heap.size, 0, none⟩) (hg'.block w.heap.size (by simp; omega) hne0)).trans ((World.cell?_alloc_past _ _ _ hlt).trans hc)
    have hf' : w'.frozen? ⟨w.heap.size, 0, none⟩ = false := (World.frozen?_of_block (a := ⟨w.heap.size, 0, none⟩) (hg'.block w.heap.size (by simp; omega) hne0)).trans ((World.frozen?_alloc_past _ _ _ hlt).trans hf)
    have HO' := hideG hown'
    have hBa := (Below.refl W.heap.size W).alloc (Nat.le_refl _) (.cells #[.int .i64 (x : Int)] 3)
    have HB' := hideG ((HB.out.alloc hs (.cells #[.int .i64 (x : Int)] 3)).grown hg' (by simp; omega) (fun j e => by have := (HOW.out.lt j e).1; omega))
    have hsz := hg'.size
    have HKD := hideG (show Kd (fun k => k = w.heap.size) w.heap.size W (w'.setCell ⟨w.heap.size, 0, none⟩ (.slice a4 (pre.length + 1) c4)) from by
      simp only [World.size_alloc] at hsz
      refine ⟨hg'.os.trans hBa.os, hg'.tape.trans hBa.tape, hg'.output.trans hBa.output, by simp; omega, fun k hk hne ho => ?_, fun g hg => ?_⟩
      · rw [hoW] at ho
        exact (heap_setCell_other w' ⟨w.heap.size, 0, none⟩ k _ (fun e => hne e)).trans ((hg'.block k (by simp; omega) (fun e => ho e.symm)).trans (hBa.block k hk))
      · have hown2 : ownX w.heap.size (w'.setCell ⟨w.heap.size, 0, none⟩ (.slice a4 (pre.length + 1) c4)) = Value.ownBlock (.slice a4 (pre.length + 1) c4) := by
          unfold ownX
          rw [World.cell?_setCell_same' _ _ _ (by rw [hc']; rfl)]; rfl
        rw [hown2] at hg
        have hl := HO'.out.lt g hg
        rcases hfr g hg with e | e
        · exact .inl (by rw [hoW]; exact e)
        · have e' : W.heap.size + 1 ≤ g := by simpa using e
          exact .inr ⟨by omega, by simpa using hl.2⟩)
    clear hown' hg' hfr hBa hsz
    gi_wp2
    refine ⟨HKD.out, ⟨.slice a4 (pre.length + 1) c4, World.cell?_setCell_same' _ _ _ (by rw [hc']; rfl), by rw [World.frozen?_setCell]; exact hf', ?_⟩, HB'.out.setCell (p := ⟨w.heap.size, 0, none⟩) (by simp) _⟩
    have hkept := ownsRow_kept_set (g := w.heap.size) (j := 0) (u := .slice a4 (pre.length + 1) c4) HO'.out (fun e => by have := (HO'.out.lt _ e).1; omega)
    simpa using hkept
  case done =>
    rintro W ⟨⟨v, hc, hf, hown⟩, hB⟩ hK _
    obtain ⟨va, vc, rfl⟩ := ownsRow_shape hown
    have hxx := ownsRow_walk (B := W.putObj V.heap.size (.deferred none)) hown (grownBy_putObj' W V.heap.size (.deferred none)) (fun r e => by cases e; exact ⟨_, hK, rfl⟩)
    gi_wp2
    refine ⟨by simp, .inl ⟨_, _, rfl, run_takeDeferred hK, ?_⟩⟩
    refine ⟨.slice va (dn T n).length vc, ?_, va, vc, rfl, ownsRow_base hxx (by omega), hB.trans (belowK_b (w := w) (Nat.le_refl _) _ V.heap.size _ _ (by omega) hK rfl rfl)⟩
    simp [results, Tryz.f154, go_sem]
  case stop =>
    rintro c pre W _ h _ _
    exact h.elim

theorem collectDown_any (T : List Nd) (hm : mayB T = true) (n : Nat) (hn : n < T.length) (b off cap Bn Bt : Nat) (w : World) (hT : TreeAt w (.slice (some ⟨b, off, none⟩) T.length cap) T) (hBn : w.cell? ⟨Bn, 0, none⟩ = some (.int .i64 (n : Int))) (hBt : w.cell? ⟨Bt, 0, none⟩ = some (.slice (some ⟨b, off, none⟩) T.length cap)) (hlen : (dn T n).length ≤ 1000) :
    Calls Tryz.prog 129 #[.func (.func 223) #[] #[.pointer (some ⟨Bn, 0, none⟩), .pointer (some ⟨Bt, 0, none⟩)]] w fun e W' => ∃ a c, e = .returned (.slice a (dn T n).length c) ∧ W'.ownsRow w.heap.size 3 1 (.slice a (dn T n).length c) (dn T n).length (natCells (dn T n)) ∧ Below w.heap.size w W' := by
  have H := hideG (callsIn_wide.1 (appendDown_in T hm n hn b off cap Bn Bt w hT hBn hBt hlen))
  clear hT hBn hBt
  go_enter Tryz.func129, Tryz.ntmps129
  go_wp2_with (go_at_call 154; refine H.out.mono ?_; rintro e w1 ⟨a, c, rfl, ho, hb⟩)
  go_ret
  exact ⟨a, c, rfl, ho, hb⟩

/-- order.List. -/
def dnI (T : List Nd) (n : Int) : List Int := if knownB T [n] then castL (dn T n.toNat) else []

set_option maxRecDepth 100000 in
set_option maxHeartbeats 2000000 in
theorem orderList_any (T : List Nd) (hS : Sane T) (v : Value) (n : Int) (w : World) (hT : TreeAt w v T) (hlen : ∀ m : Nat, mayB T = true → m < T.length → (dn T m).length ≤ 1000) :
    Calls Tryz.prog 221 #[v, .int .i64 n] w fun e w' => ∃ a c, e = .returned (.slice a (dnI T n).length c) ∧ w'.ownsRow w.heap.size 3 1 (.slice a (dnI T n).length c) (dnI T n).length (intCells (dnI T n)) ∧ Below w.heap.size w w' := by
  have HA := hideG ((Below.refl _ w).alloc (Nat.le_refl _) (.cells #[.int .i64 n] 3))
  have HT := hideG (hT.below HA.out)
  have HS := hideG hS
  have HT0 := hideG hT
  cases hk : knownB T [n]
  · obtain ⟨a, cap, rfl⟩ := hT.shape
    clear hT hS hlen
    have hq : dnI T n = [] := by simp [dnI, hk]
    rw [hq]
    go_enter Tryz.func221, Tryz.ntmps221
    go_wp2_with (go_at_call 168; refine (known_any T HS.out _ [n] _ _ HT.out (ints_new1 _ _) (by simp)).mono ?_; rintro e w1 ⟨rfl, hb1⟩; simp only [World.size_alloc] at hb1)
    go_ret
    exact ⟨none, 0, rfl, World.ownsRow_nil _ _ _ _, HA.out.trans (hb1.mono (by omega))⟩
  · have hk' := hk
    simp only [knownB, List.all_cons, List.all_nil, Bool.and_true, Bool.and_eq_true] at hk'
    obtain ⟨hm, hi⟩ := hk'
    obtain ⟨m, rfl, hml⟩ := isNodeB_true hi
    obtain ⟨b, off, cap, rfl, _⟩ := hT.at (by omega)
    have hl := hlen m hm hml
    clear hT hS hlen
    have hq : dnI T m = castL (dn T m) := by simp [dnI, hk]
    rw [hq]
    have HM := hideG hm
    clear hm hi hq
    go_enter Tryz.func221, Tryz.ntmps221
    go_wp2_with (first | (go_at_call 168; refine (known_any T HS.out _ [(m : Int)] _ _ HT.out (ints_new1 _ _) (by simp)).mono ?_; rintro e w1 ⟨rfl, hb1⟩; simp only [World.size_alloc] at hb1; have HB1 := hideG (HA.out.trans (hb1.mono (by omega))); clear hb1) | (go_at_call 222; refine (callsIn_wide.1 (odown_in _ _ _ _ 0 _)).mono ?_; rintro e w2 ⟨rfl, hw2⟩; have HW2 := hideG hw2; clear hw2))
    have d1 := cell_new_l w1 (.slice (some ⟨b, off, none⟩) T.length cap) 23
    have d2 := cell_new_l (w1.alloc (.cells #[.slice (some ⟨b, off, none⟩) T.length cap] 23)) (.int .i64 (m : Int)) 3
    simp only [World.size_alloc] at d2
    have hBB : Below w1.heap.size w1 ((w1.alloc (.cells #[.slice (some ⟨b, off, none⟩) T.length cap] 23)).alloc (.cells #[.int .i64 (m : Int)] 3)) := ((Below.refl _ w1).alloc (Nat.le_refl _) _).alloc (by simp) _
    have hw := HW2.out
    subst hw
    refine (collectDown_any T HM.out m hml b off cap (w1.heap.size + 1) w1.heap.size _ (HT0.out.below (HB1.out.trans (hBB.mono HB1.out.size))) d2.1 (cell_alloc_l _ d1.1) hl).mono ?_
    rintro e w3 ⟨a3, c3, rfl, ho3, hb3⟩
    have HB3 := hideG ((HB1.out.trans (hBB.mono HB1.out.size)).trans (hb3.mono (HB1.out.trans (hBB.mono HB1.out.size)).size))
    have HO3 := hideG (ownsRow_base ho3 (HB1.out.trans (hBB.mono HB1.out.size)).size)
    clear ho3 hb3 d1 d2 hBB
    go_wp2_with fail
    go_ret
    exact ⟨a3, c3, congrArg (fun k => Ending.returned (.slice a3 k c3)) (castL_length _).symm, by rw [castL_length]; exact HO3.out, HB3.out⟩
end Go.Proofs.YtclhimodopgeoaaGreat
namespace Go.Proofs.YtclhimodopgeoaaGreat
open Go.RowKit Go.Shelf

attribute [local go_sem] Oper.semAt_some

end Go.Proofs.YtclhimodopgeoaaGreat
namespace Go.Proofs.YtclhimodopgeoaaGreat
open Go.RowKit

theorem contains_castL {l : List Nat} {x : Nat} : containsB (castL l) (x : Int) = decide (x ∈ l) := by
  unfold containsB; exact decide_eq_decide.mpr mem_castL
end Go.Proofs.YtclhimodopgeoaaGreat
namespace Go.Proofs.YtclhimodopgeoaaGreat
open Go.RowKit

theorem dn_short {T : List Nd} (m : Nat) (hm : mayB T = true) (h : m < T.length) : (dn T m).length ≤ 1000 := by
  have h1 := (forest3 hm).d_len h
  have h2 := mayB_pos hm
  omega
theorem listO_any (T : List Nd) (hS : Sane T) (v : Value) (n : Int) (w : World) (hT : TreeAt w v T) :
    Calls Tryz.prog 221 #[v, .int .i64 n] w fun e w' => ∃ a c, e = .returned (.slice a (dnI T n).length c) ∧ w'.ownsRow w.heap.size 3 1 (.slice a (dnI T n).length c) (dnI T n).length (intCells (dnI T n)) ∧ Below w.heap.size w w' :=
  orderList_any T hS v n w hT (fun m => dn_short m)
end Go.Proofs.YtclhimodopgeoaaGreat
namespace Go.Proofs.YtclhimodopgeoaaGreat
open Go.RowKit

theorem dnI_known {T : List Nd} (hm : mayB T = true) {n : Nat} (hn : n < T.length) : dnI T (n : Int) = castL (dn T n) := by
  unfold dnI; rw [known_of hm hn, if_pos rfl, Int.toNat_natCast]
theorem topI_known {T : List Nd} (hm : mayB T = true) {n : Nat} (hn : n < T.length) : topI T (n : Int) = (topN T n : Int) := by
  unfold topI; rw [known_of hm hn, if_pos rfl, Int.toNat_natCast]
end Go.Proofs.YtclhimodopgeoaaGreat
namespace Go.Proofs.YtclhimodopgeoaaGreat
open Go.RowKit

theorem below_drewN {B : Nat} {a w : World} (h : Below B a w) (n : Nat) : Below B a (w.drewN n) := h.trans ⟨rfl, rfl, rfl, Nat.le_refl _, fun _ _ => rfl⟩

end Go.Proofs.YtclhimodopgeoaaGreat
namespace Go.Proofs.YtclhimodopgeoaaGreat
open Go.RowKit

theorem castL_getD (l : List Nat) {j : Nat} (h : j < l.length) : (castL l).getD j 0 = ((l.getD j 0 : Nat) : Int) := by
  unfold castL
  rw [List.getD_eq_getElem?_getD, List.getElem?_map, List.getD_eq_getElem?_getD, List.getElem?_eq_getElem h]; rfl
theorem getD_mem {l : List Nat} {j : Nat} (h : j < l.length) : l.getD j 0 ∈ l := by
  rw [List.getD_eq_getElem?_getD, List.getElem?_eq_getElem h]; exact List.getElem_mem h

end Go.Proofs.YtclhimodopgeoaaGreat

namespace Go.Proofs.YtclhimodopgeoaaGreat
open Go.RowKit
theorem below_drewNA {B : Nat} {a w : World} (h : Below B a w) (n : Nat) : Below B a (w.drewN n) := h.trans ⟨rfl, rfl, rfl, Nat.le_refl _, fun _ _ => rfl⟩

def searchL (name : Int) : List (Int × Int) → Nat × Bool
  | [] => (0, false)
  | a :: l => if name ≤ a.1 then (0, a.1 == name) else ((searchL name l).1 + 1, (searchL name l).2)

theorem search_hit {name : Int} : ∀ {l : List (Int × Int)} {k : Nat}, k < l.length → (∀ j, j < k → (l.getD j (0, 0)).1 < name) → name ≤ (l.getD k (0, 0)).1 → searchL name l = (k, (l.getD k (0, 0)).1 == name)
  | [], k, h, _, _ => by simp at h
  | a :: l, 0, _, _, h => by simp only [searchL]; rw [if_pos (by simpa using h)]; rfl
  | a :: l, k + 1, h, hb, hk => by
    have h0 := hb 0 (by omega)
    simp only [searchL]
    rw [if_neg (by simp at h0; omega), search_hit (l := l) (k := k) (by simpa using h) (fun j hj => by have := hb (j + 1) (by omega); simpa using this) (by simpa using hk)]
    simp
theorem search_miss {name : Int} : ∀ {l : List (Int × Int)}, (∀ j, j < l.length → (l.getD j (0, 0)).1 < name) → searchL name l = (l.length, false)
  | [], _ => rfl
  | a :: l, hb => by
    have h0 := hb 0 (by simp)
    simp only [searchL]
    rw [if_neg (by simp at h0; omega), search_miss (l := l) (fun j hj => by have := hb (j + 1) (by simpa using hj); simpa using this)]
    simp

theorem ret_ib {a a' : Int} {b b' : Bool} (h : a = a') (h' : b = b') : Ending.returned (.tuple #[.int .i64 a, .bool b]) = .returned (.tuple #[.int .i64 a', .bool b']) := by rw [h, h']

set_option maxRecDepth 100000 in
set_option maxHeartbeats 1000000 in
theorem search_any (l : List (Int × Int)) (v : Value) (name : Int) (w : World) (hA : AttrsAt w v l) (hl : l.length ≤ 1000000) :
    Calls Tryz.prog 171 #[v, .int .i64 name] w fun e w' => e = .returned (.tuple #[.int .i64 (searchL name l).1, .bool (searchL name l).2]) ∧ Below w.heap.size w w' := by
  obtain ⟨a, cap, rfl, hc⟩ := hA
  have HC : Hid (0 < l.length → ∃ b off, a = some ⟨b, off, none⟩ ∧ ∀ j, j < l.length → w.cell? ⟨b, off + j * 2, none⟩ = some (.int .i64 (l.getD j (0, 0)).1) ∧ w.cell? ⟨b, off + j * 2 + 1, none⟩ = some (.int .i64 (l.getD j (0, 0)).2)) := hc
  clear hc
  go_enter Tryz.func171, Tryz.ntmps171
  go_wp2_with fail
  go_loopw [10] (fun i wr => ∃ k : Nat, k ≤ l.length ∧ i = .int .i64 k ∧ (∀ j, j < k → (l.getD j (0, 0)).1 < name) ∧ Below w.heap.size w wr) (fun i _ => l.length - (intOf i).toNat)
  case atStart => exact ⟨0, Nat.zero_le _, rfl, fun j h => by omega, Below.refl _ _⟩
  case round =>
    obtain ⟨k, hk, rfl, hno, hB⟩ := hrel
    have HN : Hid (∀ j, j < k → (l.getD j (0, 0)).1 < name) := hno
    clear hno
    by_cases hlt : k < l.length
    · obtain ⟨b, off, rfl, hd⟩ := HC.out (by omega)
      obtain ⟨c1, c2⟩ := hd k hlt
      have hbz : b < w.heap.size := below_of_cell c1
      have g1 := (hB.cell (p := ⟨b, off + k * 2, none⟩) hbz).trans c1
      have g2 := (hB.cell (p := ⟨b, off + k * 2 + 1, none⟩) hbz).trans c2
      have hbz' : b < wr.heap.size := by have := hB.size; omega
      generalize hA : l.getD k (0, 0) = A at *
      obtain ⟨A1, A2⟩ := A
      have HA : Hid (l.getD k (0, 0) = (A1, A2)) := hA
      dsimp only at g1 g2
      clear hd c1 c2 hA
      by_cases hle : name ≤ A1
      · go_wp2_with fail
        go_quiet (fail)
        go_wp2_with fail
        go_ret2
        have e := search_hit hlt HN.out (by rw [HA.out]; exact hle)
        rw [HA.out] at e
        exact ⟨ret_ib (by rw [e]) (by rw [e]), below_drewNA (hB.alloc hB.size _) _⟩
      · go_wp2_with fail
        go_roundw
        case rel =>
          refine ⟨k + 1, by omega, by go_num, fun j hj => ?_, hB.alloc hB.size _⟩
          by_cases e : j = k
          · subst e; rw [HA.out]; show A1 < name; omega
          · exact HN.out j (by omega)
        case measure => simp [intOf]; omega
    · have hke : k = l.length := by omega
      subst hke
      go_wp2_with fail
      go_ret2
      have e := search_miss HN.out
      exact ⟨ret_ib (by rw [e]) (by rw [e]), hB⟩

def faultE (T : List Nd) (n : Int) : Int := if mayB T then (if isNodeB T.length n then 0 else 2) else 1
def getL (T : List Nd) (n : Int) (nm : Int) : Int × Bool :=
  if faultE T n != 0 then (0, false)
  else if (searchL nm (nd T n.toNat).attrs).2 then (((nd T n.toNat).attrs.getD (searchL nm (nd T n.toNat).attrs).1 (0, 0)).2, true) else (0, false)

theorem searchL_lt' {nm : Int} : ∀ {l : List (Int × Int)}, (searchL nm l).2 = true → (searchL nm l).1 < l.length
  | [], h => by simp [searchL] at h
  | a :: l, h => by
    simp only [searchL] at h ⊢
    split at h
    · rename_i hle; rw [if_pos hle]; simp
    · rename_i hle
      rw [if_neg hle]
      have := searchL_lt' h
      simp
      omega

set_option maxHeartbeats 800000 in
theorem fault_any (T : List Nd) (hS : Sane T) (v : Value) (n : Int) (w : World) (hT : TreeAt w v T) :
    Calls Tryz.prog 170 #[v, .int .i64 n] w fun e w' => e = .returned (.int .i64 (faultE T n)) ∧ Below w.heap.size w w' := by
  obtain ⟨a, cap, rfl⟩ := hT.shape
  have HT := hideG hT
  have HS := hideG hS
  clear hT hS
  cases hm : mayB T
  · have hck : checkE T = 1 := by simp only [checkE, hm, Bool.false_eq_true, if_false]
    go_enter Tryz.func170, Tryz.ntmps170
    go_wp2_with (go_at_call 63; refine (check_any T HS.out _ _ HT.out).mono ?_; rintro e w1 ⟨rfl, hb1⟩)
    go_ret
    exact ⟨ret_int (by simp only [faultE, hm, Bool.false_eq_true, if_false]), hb1⟩
  · have hck : checkE T = 0 := by simp only [checkE, hm, if_true]
    have hpos := mayB_pos hm
    have hlen : (T.length : Int) ≤ 64 := by omega
    by_cases h0 : n < 0
    · have hi : isNodeB T.length n = false := by simp [isNodeB]; omega
      go_enter Tryz.func170, Tryz.ntmps170
      go_wp2_with (go_at_call 63; refine (check_any T HS.out _ _ HT.out).mono ?_; rintro e w1 ⟨rfl, hb1⟩)
      go_ret
      exact ⟨ret_int (by simp only [faultE, hm, hi, Bool.false_eq_true, if_true, if_false]), hb1⟩
    · have hd : decide (n < 0) = false := by simpa using h0
      by_cases h1 : (T.length : Int) ≤ n
      · have hi : isNodeB T.length n = false := by simp [isNodeB]; omega
        go_enter Tryz.func170, Tryz.ntmps170
        go_wp2_with (go_at_call 63; refine (check_any T HS.out _ _ HT.out).mono ?_; rintro e w1 ⟨rfl, hb1⟩)
        go_ret
        exact ⟨ret_int (by simp only [faultE, hm, hi, Bool.false_eq_true, if_true, if_false]), hb1⟩
      · have hi : isNodeB T.length n = true := by simp [isNodeB]; omega
        have hd1 : decide ((T.length : Int) ≤ n) = false := by simpa using h1
        go_enter Tryz.func170, Tryz.ntmps170
        go_wp2_with (go_at_call 63; refine (check_any T HS.out _ _ HT.out).mono ?_; rintro e w1 ⟨rfl, hb1⟩)
        go_ret
        exact ⟨ret_int (by simp only [faultE, hm, hi, if_true]), hb1⟩

set_option maxRecDepth 100000 in
set_option maxHeartbeats 800000 in
theorem get_any (T : List Nd) (hS : Sane T) (v : Value) (n nm : Int) (w : World) (hT : TreeAt w v T) :
    Calls Tryz.prog 148 #[v, .int .i64 n, .int .i64 nm] w fun e w' => e = .returned (.tuple #[.int .i64 (getL T n nm).1, .bool (getL T n nm).2]) ∧ Below w.heap.size w w' := by
  obtain ⟨a, cap, rfl⟩ := hT.shape
  have HT := hideG hT
  have HS := hideG hS
  clear hT hS
  cases hf : (faultE T n != 0)
  · have hmn : mayB T = true ∧ isNodeB T.length n = true := by
      simp only [faultE] at hf
      cases hm : mayB T
      · simp [hm] at hf
      · cases hi : isNodeB T.length n
        · simp [hm, hi] at hf
        · exact ⟨rfl, rfl⟩
    obtain ⟨k, rfl, hk⟩ := isNodeB_true hmn.2
    have hg : getL T k nm = if (searchL nm (nd T k).attrs).2 then (((nd T k).attrs.getD (searchL nm (nd T k).attrs).1 (0, 0)).2, true) else (0, false) := by
      simp only [getL, hf, Bool.false_eq_true, if_false, Int.toNat_natCast]
    have HG := hideG hg
    have hs2 := (HS.out k hk).2
    obtain ⟨b, off, cap', hv, hc⟩ := HT.out.at (by omega)
    simp only [Value.slice.injEq, true_and] at hv
    obtain ⟨rfl, rfl⟩ := hv
    obtain ⟨kv, av, hN⟩ := hc k hk
    have c6 := hN.attrsc
    have hAt := hN.attrs
    have hbz : b < w.heap.size := below_of_cell c6
    obtain ⟨aa, ac, rfl⟩ := hN.attrs.shape
    have HA := hideG hAt
    clear hc hN hg hAt hmn
    cases hs : (searchL nm (nd T k).attrs).2
    · go_enter Tryz.func148, Tryz.ntmps148
      go_wp2_with (first | (go_at_call 170; refine (fault_any T HS.out _ _ _ HT.out).mono ?_; rintro e w1 ⟨rfl, hb1⟩; have g6 := (hb1.cell (p := ⟨b, off + k * 7 + 6, none⟩) hbz).trans c6; have HA1 := hideG (HA.out.below hb1)) | (go_at_call 171; refine (search_any (nd T k).attrs _ _ _ HA1.out hs2).mono ?_; rintro e w2 ⟨rfl, hb2⟩; rw [hs]))
      go_ret2
      exact ⟨ret_ib (by rw [HG.out, hs]; rfl) (by rw [HG.out, hs]; rfl), hb1.trans (hb2.mono hb1.size)⟩
    · have hlt := searchL_lt' hs
      obtain ⟨q, hq⟩ : ∃ q, (searchL nm (nd T k).attrs).1 = q := ⟨_, rfl⟩
      rw [hq] at hlt
      have HQ := hideG hq
      clear hq
      obtain ⟨a', c', hv', hd⟩ := HA.out
      simp only [Value.slice.injEq, true_and] at hv'
      obtain ⟨rfl, rfl⟩ := hv'
      obtain ⟨ab, aoff, rfl, hd2⟩ := hd (by omega)
      obtain ⟨_, c2⟩ := hd2 q hlt
      have hab : ab < w.heap.size := below_of_cell c2
      clear hd hd2
      go_enter Tryz.func148, Tryz.ntmps148
      go_wp2_with (first | (go_at_call 170; refine (fault_any T HS.out _ _ _ HT.out).mono ?_; rintro e w1 ⟨rfl, hb1⟩; have g6 := (hb1.cell (p := ⟨b, off + k * 7 + 6, none⟩) hbz).trans c6; have HA1 := hideG (HA.out.below hb1); have g2 := (hb1.cell (p := ⟨ab, aoff + q * 2 + 1, none⟩) hab).trans c2; have hz1 := hb1.size) | (go_at_call 171; refine (search_any (nd T k).attrs _ _ _ HA1.out hs2).mono ?_; rintro e w2 ⟨rfl, hb2⟩; rw [hs, HQ.out]; have i6 := (hb2.cell (p := ⟨b, off + k * 7 + 6, none⟩) (by simp; omega)).trans g6; have i2 := (hb2.cell (p := ⟨ab, aoff + q * 2 + 1, none⟩) (by simp; omega)).trans g2))
      go_ret2
      exact ⟨ret_ib (by rw [HG.out, hs, HQ.out]; simp [hlt]) (by rw [HG.out, hs]; rfl), hb1.trans (hb2.mono hb1.size)⟩
  · go_enter Tryz.func148, Tryz.ntmps148
    go_wp2_with (go_at_call 170; refine (fault_any T HS.out _ _ _ HT.out).mono ?_; rintro e w1 ⟨rfl, hb1⟩)
    go_ret2
    exact ⟨ret_ib (by simp only [getL, hf, if_true]) (by simp only [getL, hf, if_true]), hb1⟩

set_option maxHeartbeats 400000 in
theorem has_any (T : List Nd) (hS : Sane T) (v : Value) (n nm : Int) (w : World) (hT : TreeAt w v T) :
    Calls Tryz.prog 112 #[v, .int .i64 n, .int .i64 nm] w fun e w' => e = .returned (.bool (getL T n nm).2) ∧ Below w.heap.size w w' := by
  obtain ⟨a, cap, rfl⟩ := hT.shape
  have HT := hideG hT
  have HS := hideG hS
  clear hT hS
  go_enter Tryz.func112, Tryz.ntmps112
  go_wp2_with (go_at_call 148; refine (get_any T HS.out _ _ _ _ HT.out).mono ?_; rintro e w1 ⟨rfl, hb1⟩)
  go_ret
  exact ⟨rfl, hb1⟩

def lookL (l : List (Int × Int)) (nm : Int) : Int × Bool :=
  if (searchL nm l).2 then ((l.getD (searchL nm l).1 (0, 0)).2, true) else (0, false)
theorem lookL_cons (a : Int × Int) (l : List (Int × Int)) (nm : Int) : lookL (a :: l) nm = if nm ≤ a.1 then (if a.1 == nm then (a.2, true) else (0, false)) else lookL l nm := by
  rw [lookL, searchL]
  by_cases h : nm ≤ a.1
  · rw [if_pos h, if_pos h]; rfl
  · rw [if_neg h, if_neg h, lookL]; simp
theorem may_attrs {T : List Nd} (hm : mayB T = true) {m : Nat} (hlt : m < T.length) : attrsFrom (nd T m).kind (-1) (nd T m).attrs = true := (mayB_fine hm).attrs m hlt
theorem getL_ok {T : List Nd} {n : Nat} (hm : mayB T = true) (hn : n < T.length) (nm : Int) : getL T n nm = lookL (nd T n).attrs nm := by
  have hi : isNodeB T.length (n : Int) = true := by simp [isNodeB]; omega
  rw [getL, faultE, hm, hi, lookL, Int.toNat_natCast]
  rfl

/-- The first attribute of a name. -/
def firstL (nm : Int) : List (Int × Int) → Int × Bool
  | [] => (0, false)
  | a :: l => if a.1 == nm then (a.2, true) else firstL nm l
theorem first_drop {l : List (Int × Int)} {k : Nat} (h : k < l.length) (nm : Int) : firstL nm (l.drop k) = if (l.getD k (0, 0)).1 == nm then ((l.getD k (0, 0)).2, true) else firstL nm (l.drop (k + 1)) := by
  rw [List.drop_eq_getElem_cons h, firstL, List.getD_eq_getElem?_getD, List.getElem?_eq_getElem h, Option.getD_some]
theorem first_gone {k last nm : Int} (h : nm ≤ last) : ∀ {l : List (Int × Int)}, attrsFrom k last l = true → firstL nm l = (0, false)
  | [], _ => rfl
  | a :: l, hl => by
    rw [attrsFrom, Bool.and_eq_true, Bool.not_eq_true', Bool.or_eq_false_iff, decide_eq_false_iff_not] at hl
    rw [firstL, if_neg (by simp; omega)]
    exact first_gone (by omega) hl.2
theorem first_look {k nm : Int} : ∀ {l : List (Int × Int)} {last : Int}, attrsFrom k last l = true → firstL nm l = lookL l nm
  | [], _, _ => rfl
  | a :: l, last, hl => by
    rw [attrsFrom, Bool.and_eq_true] at hl
    rw [firstL, lookL_cons]
    by_cases e : a.1 = nm
    · rw [if_pos (by simpa using e), if_pos (by omega), if_pos (by simpa using e)]
    · rw [if_neg (by simpa using e)]
      by_cases hn : nm ≤ a.1
      · rw [if_pos hn, if_neg (by simpa using e)]
        exact first_gone hn hl.2
      · rw [if_neg hn]
        exact first_look hl.2

def refGetL (T : List Nd) (n nm : Int) : Int × Bool := if isNodeB T.length n then firstL nm (nd T n.toNat).attrs else (0, false)
theorem refGet_eq {T : List Nd} (hm : mayB T = true) (n nm : Int) : refGetL T n nm = getL T n nm := by
  rw [refGetL]
  cases hi : isNodeB T.length n
  · rw [getL, faultE, hm, hi]; rfl
  · obtain ⟨k, rfl, hk⟩ := isNodeB_true hi
    rw [if_pos rfl, Int.toNat_natCast, getL_ok hm hk]
    exact first_look (may_attrs hm hk)

end Go.Proofs.YtclhimodopgeoaaGreat
namespace Go.Proofs.YtclhimodopgeoaaGreat
open Go.RowKit

def nameI (T : List Nd) (n : Int) : Int := (getL T n 4).1
set_option maxHeartbeats 800000 in
theorem nameOf_any (T : List Nd) (hS : Sane T) (v : Value) (n : Int) (w : World) (hT : TreeAt w v T) :
    Calls Tryz.prog 216 #[v, .int .i64 n] w fun e w' => e = .returned (.int .i64 (nameI T n)) ∧ Below w.heap.size w w' := by
  obtain ⟨a, cap, rfl⟩ := hT.shape
  have HT := hideG hT
  have HS := hideG hS
  clear hT hS
  go_enter Tryz.func216, Tryz.ntmps216
  go_wp2_with (go_at_call 148; refine (get_any T HS.out _ _ _ _ HT.out).mono ?_; rintro e w1 ⟨rfl, hb1⟩)
  go_ret
  exact ⟨rfl, hb1⟩

/-- The slots below a node, in the order of the tree. -/
def slotsN (T : List Nd) (r : Nat) : List Nat := (dn T r).filter fun n => (nd T n).tag == 3
theorem filter_take {l : List Nat} {k : Nat} (h : k < l.length) (p : Nat → Bool) : (l.take (k + 1)).filter p = (l.take k).filter p ++ (if p (l.getD k 0) then [l.getD k 0] else []) := by
  rw [List.take_succ_eq_append_getElem h, List.filter_append, List.getD_eq_getElem?_getD, List.getElem?_eq_getElem h]
  congr 1
  simp only [Option.getD_some, List.filter_cons, List.filter_nil]
theorem slotsN_le {T : List Nd} (hm : mayB T = true) {r : Nat} (hr : r < T.length) : (slotsN T r).length ≤ 64 := by
  have h1 := List.length_filter_le (fun n => (nd T n).tag == 3) (dn T r)
  have h2 := (forest3 hm).d_len hr
  have h3 := mayB_pos hm
  unfold slotsN; omega

set_option maxRecDepth 100000 in
set_option maxHeartbeats 2000000 in
theorem slotsOf_any (T : List Nd) (hm : mayB T = true) (hS : Sane T) (v : Value) (r : Nat) (hr : r < T.length) (w : World) (hT : TreeAt w v T) :
    Calls Tryz.prog 215 #[v, .int .i64 (r : Int)] w fun e w' => ∃ a c, e = .returned (.slice a (castL (slotsN T r)).length c) ∧ w'.ownsRow w.heap.size 3 1 (.slice a (castL (slotsN T r)).length c) (castL (slotsN T r)).length (intCells (castL (slotsN T r))) ∧ Below w.heap.size w w' := by
  obtain ⟨i3, hi3, hz30, hz31, hz32⟩ := info_parts infoT3
  obtain ⟨tb, to, tc, rfl, _⟩ := hT.at (by omega)
  have HT := hideG hT
  have HS := hideG hS
  have E1 := hideG (dnI_known hm hr)
  have hdl := (forest3 hm).d_len hr
  have hpos := mayB_pos hm
  have HLT := hideG (show ∀ x ∈ dn T r, x < T.length from fun x hx => (forest3 hm).d_lt hr hx)
  have HLEN := hideG (castL_length (dn T r))
  clear hT hS hm
  go_enter Tryz.func215, Tryz.ntmps215
  go_wp2_with fail
  refine (listO_any T HS.out _ _ _ HT.out).mono ?_
  rintro e w2 ⟨a2, c2, rfl, ho2, hb2⟩
  rw [E1.out] at ho2 ⊢
  have HL := hideG (ownsRow_ints ho2)
  rw [HLEN.out] at HL ⊢
  have HB2 := hideG hb2
  have HT2 := hideG (HT.out.below hb2)
  clear ho2 hb2
  go_wp2_with fail
  go_loopw [5, 12] (fun o i wr => ∃ (k : Nat) (oa : Option Addr) (oc : Nat), k ≤ (dn T r).length ∧ i = .int .i64 k ∧ o = .slice oa (castL (((dn T r).take k).filter fun n => (nd T n).tag == 3)).length oc ∧ wr.ownsRow w2.heap.size 3 1 (.slice oa (castL (((dn T r).take k).filter fun n => (nd T n).tag == 3)).length oc) (castL (((dn T r).take k).filter fun n => (nd T n).tag == 3)).length (intCells (castL (((dn T r).take k).filter fun n => (nd T n).tag == 3))) ∧ Below w2.heap.size w2 wr) (fun _ i _ => (dn T r).length - (intOf i).toNat)
  case atStart => exact ⟨0, none, 0, Nat.zero_le _, rfl, rfl, World.ownsRow_nil _ _ _ _, Below.refl _ _⟩
  case round =>
    obtain ⟨k, oa, oc, hk, rfl, rfl, hown, hB⟩ := hrel
    have HOk := hideG hown
    have HBk := hideG hB
    clear hown hB
    by_cases hlt : k < (dn T r).length
    · obtain ⟨_, _, hsh, hd⟩ := HL.out.below HBk.out
      simp only [Value.slice.injEq] at hsh
      obtain ⟨rfl, hsq, rfl⟩ := hsh
      clear hsq
      obtain ⟨lb, loff, rfl, hdd⟩ := hd (by rw [HLEN.out]; omega)
      have c1 := hdd k (by rw [HLEN.out]; exact hlt)
      rw [castL_getD _ hlt] at c1
      have hxl := HLT.out _ (getD_mem hlt)
      have hft := filter_take hlt (fun n => (nd T n).tag == 3)
      have hcb : (castL (((dn T r).take k).filter fun n => (nd T n).tag == 3)).length ≤ 64 := by
        rw [castL_length]
        have h1 := List.length_filter_le (fun n => (nd T n).tag == 3) ((dn T r).take k)
        have h2 : ((dn T r).take k).length ≤ (dn T r).length := List.length_take_le' ..
        omega
      generalize (dn T r).getD k 0 = x at *
      obtain ⟨tb', to', tc', htv, hct⟩ := (HT2.out.below HBk.out).at (by omega)
      simp only [Value.slice.injEq, Option.some.injEq, Addr.mk.injEq, and_true, true_and] at htv
      obtain ⟨⟨rfl, rfl⟩, rfl⟩ := htv
      obtain ⟨kv, av, hN⟩ := hct x hxl
      have g1 := hN.tag
      have hx0 : (0 : Int) ≤ (x : Int) := by omega
      clear hd hdd hct hN
      cases htg : ((nd T x).tag == 3)
      · have he : castL (((dn T r).take (k + 1)).filter fun n => (nd T n).tag == 3) = castL (((dn T r).take k).filter fun n => (nd T n).tag == 3) := by
          rw [hft, htg]; simp
        have HE := hideG he
        clear he hft
        generalize castL (((dn T r).take k).filter fun n => (nd T n).tag == 3) = cur at *
        go_wp2_with fail
        go_roundw
        case rel => exact ⟨k + 1, oa, oc, by omega, by go_num, by rw [HE.out], by rw [HE.out]; exact HOk.out, HBk.out⟩
        case measure => simp [intOf]; omega
      · have he : castL (((dn T r).take (k + 1)).filter fun n => (nd T n).tag == 3) = castL (((dn T r).take k).filter fun n => (nd T n).tag == 3) ++ [(x : Int)] := by
          rw [hft, htg]; simp [castL]
        have HE := hideG he
        clear he hft
        generalize castL (((dn T r).take k).filter fun n => (nd T n).tag == 3) = cur at *
        go_wp2_with (at_builtin; refine wpList_append_any rfl (.tmp 22) (.tmp 24) 24 rfl w2.heap.size 3 i3 _ 1 8 Tryz.underlying24 hi3 hz30 hz31 hz32 rfl (by decide) _ cur.length (intCells cur) rfl (HOk.out.alloc _) _ 1 [.int .i64 (x : Int)] rfl (row_new1 _ _) rfl ?h2 ?h3 ?h4 ?h5 ?_)
        case h2 => intro y hy; simp at hy; subst hy; rfl
        case h3 => simp only [maxLen]; omega
        case h4 => omega
        case h5 => have := HBk.out.size; simp; omega
        intro v4 w4 ho4 hg4 hf4
        obtain ⟨a4, c4, rfl⟩ := ownsRow_shape ho4
        rw [intCells_snoc] at ho4
        have HB4 := hideG ((HBk.out.alloc HBk.out.size (.cells #[.int .i64 (x : Int)] 3)).grown hg4 (by have := HBk.out.size; simp; omega) (fun j e => (HOk.out.lt j e).1))
        have hl4 : (cur ++ [(x : Int)]).length = cur.length + 1 := by simp
        have HL4 := hideG hl4
        have HO4 := hideG ho4
        clear ho4 hg4 hf4 hl4
        go_wp2_with fail
        go_roundw
        case rel => exact ⟨k + 1, a4, c4, by omega, by go_num, by rw [HE.out, HL4.out], by rw [HE.out, HL4.out]; exact HO4.out, HB4.out⟩
        case measure => simp [intOf]; omega
    · have hke : (dn T r).take k = dn T r := List.take_of_length_le (by omega)
      rw [hke] at HOk ⊢
      have HBE := hideG (HB2.out.trans (HBk.out.mono HB2.out.size))
      have HOE := hideG (show wr.ownsRow w.heap.size 3 1 _ _ _ from ownsRow_base HOk.out HB2.out.size)
      clear hke
      go_wp2_with fail
      go_ret
      exact ⟨oa, oc, rfl, HOE.out, HBE.out⟩

end Go.Proofs.YtclhimodopgeoaaGreat
namespace Go.Proofs.YtclhimodopgeoaaGreat
open Go.RowKit

def byNumI (T : List Nd) (L : List Int) (kid : Int) : Int := if (getL T kid 9).2 && containsB L (getL T kid 9).1 then (getL T kid 9).1 else -1
def byNameI (T : List Nd) (L NL : List Int) (kid : Int) : Int := if indexI NL (nameI T kid) < 0 then -1 else L.getD (indexI NL (nameI T kid)).toNat 0
def placeV (T : List Nd) (m : Bool) (L NL : List Int) (kid : Int) : Int := if m then byNumI T L kid else byNameI T L NL kid

set_option maxRecDepth 100000 in
set_option maxHeartbeats 2000000 in
theorem byNumber_any (T : List Nd) (hS : Sane T) (v v1 v2 : Value) (m : Bool) (L NL : List Int) (kid : Int) (w : World) (hT : TreeAt w v T) (h1 : IntsAt w v1 L) (h2 : IntsAt w v2 NL) (hl : L.length ≤ 1000000) :
    Calls Tryz.prog 217 #[.agg #[.bool m, v1, v2], v, .int .i64 kid] w fun e w' => e = .returned (.int .i64 (byNumI T L kid)) ∧ Below w.heap.size w w' := by
  obtain ⟨ta, tc, rfl⟩ := hT.shape
  obtain ⟨a1, c1, rfl⟩ := h1.shape
  obtain ⟨a2, c2, rfl⟩ := h2.shape
  have HB0 := hideG ((Below.refl _ w).alloc (Nat.le_refl _) (.cells #[.bool m, .slice a1 L.length c1, .slice a2 NL.length c2] 134))
  have r1 := cell_of_cells (World.alloc_heap_new w (.cells #[.bool m, .slice a1 L.length c1, .slice a2 NL.length c2] 134)) (j := 1) (u := .slice a1 L.length c1) rfl
  have HT := hideG (hT.below HB0.out)
  have HI := hideG (h1.below HB0.out)
  have HS := hideG hS
  clear hT h1 h2 hS
  cases hg2 : (getL T kid 9).2
  · have HQ := hideG (show byNumI T L kid = -1 by simp [byNumI, hg2])
    generalize (getL T kid 9).1 = gv at *
    go_enter Tryz.func217, Tryz.ntmps217
    go_wp2_with fail
    refine (get_any T HS.out _ _ _ _ HT.out).mono ?_
    rintro e w1 ⟨rfl, hb1⟩
    rw [hg2]
    have HB1 := hideG (HB0.out.trans (hb1.mono (by simp)))
    clear hb1
    go_wp2_with fail
    go_ret
    exact ⟨ret_int HQ.out.symm, HB1.out⟩
  · cases hcn : containsB L (getL T kid 9).1
    · have HQ := hideG (show byNumI T L kid = -1 by simp [byNumI, hg2, hcn])
      have HG := hideG hg2
      have HC := hideG hcn
      go_enter Tryz.func217, Tryz.ntmps217
      go_wp2_with fail
      refine (get_any T HS.out _ _ _ _ HT.out).mono ?_
      rintro e w1 ⟨rfl, hb1⟩
      rw [HG.out]
      have HB1 := hideG (HB0.out.trans (hb1.mono (by simp)))
      have HI1 := hideG (HI.out.below hb1)
      have r1' := cell_below hb1 r1
      clear hb1 r1
      generalize (getL T kid 9).1 = gv at *
      clear hg2 hcn
      go_wp2_with (go_at_call 73; refine (contains_any L _ _ _ HI1.out hl).mono ?_; rintro e w2 ⟨rfl, hw2⟩; subst hw2; rw [HC.out])
      go_ret
      exact ⟨ret_int HQ.out.symm, HB1.out⟩
    · have HQ := hideG (show byNumI T L kid = (getL T kid 9).1 by simp [byNumI, hg2, hcn])
      have HG := hideG hg2
      have HC := hideG hcn
      go_enter Tryz.func217, Tryz.ntmps217
      go_wp2_with fail
      refine (get_any T HS.out _ _ _ _ HT.out).mono ?_
      rintro e w1 ⟨rfl, hb1⟩
      rw [HG.out]
      have HB1 := hideG (HB0.out.trans (hb1.mono (by simp)))
      have HI1 := hideG (HI.out.below hb1)
      have r1' := cell_below hb1 r1
      clear hb1 r1
      generalize (getL T kid 9).1 = gv at *
      clear hg2 hcn
      go_wp2_with (go_at_call 73; refine (contains_any L _ _ _ HI1.out hl).mono ?_; rintro e w2 ⟨rfl, hw2⟩; subst hw2; rw [HC.out])
      go_ret
      exact ⟨ret_int HQ.out.symm, HB1.out⟩

set_option maxRecDepth 100000 in
set_option maxHeartbeats 2000000 in
theorem byName_any (T : List Nd) (hS : Sane T) (v v1 v2 : Value) (m : Bool) (L NL : List Int) (kid : Int) (w : World) (hT : TreeAt w v T) (h1 : IntsAt w v1 L) (h2 : IntsAt w v2 NL) (hl : L.length ≤ 1000) (hln : NL.length = L.length) :
    Calls Tryz.prog 218 #[.agg #[.bool m, v1, v2], v, .int .i64 kid] w fun e w' => e = .returned (.int .i64 (byNameI T L NL kid)) ∧ Below w.heap.size w w' := by
  obtain ⟨ta, tc, rfl⟩ := hT.shape
  have hsh1 := h1
  obtain ⟨a1, c1, rfl⟩ := h1.shape
  obtain ⟨a2, c2, rfl⟩ := h2.shape
  have HB0 := hideG ((Below.refl _ w).alloc (Nat.le_refl _) (.cells #[.bool m, .slice a1 L.length c1, .slice a2 NL.length c2] 134))
  have r1 := cell_of_cells (World.alloc_heap_new w (.cells #[.bool m, .slice a1 L.length c1, .slice a2 NL.length c2] 134)) (j := 1) (u := .slice a1 L.length c1) rfl
  have r2 := cell_of_cells (World.alloc_heap_new w (.cells #[.bool m, .slice a1 L.length c1, .slice a2 NL.length c2] 134)) (j := 2) (u := .slice a2 NL.length c2) rfl
  have HT := hideG (hT.below HB0.out)
  have HI1 := hideG (h1.below HB0.out)
  have HI2 := hideG (h2.below HB0.out)
  have HS := hideG hS
  have HLN := hideG hln
  clear hT h1 h2 hS hsh1 hln
  have hsz : w.heap.size < (w.alloc (.cells #[.bool m, .slice a1 L.length c1, .slice a2 NL.length c2] 134)).heap.size := by simp
  by_cases hlt : indexI NL (nameI T kid) < 0
  · have HQ := hideG (show byNameI T L NL kid = -1 by simp [byNameI, hlt])
    go_enter Tryz.func218, Tryz.ntmps218
    go_wp2_with fail
    generalize (w.alloc (.cells #[.bool m, .slice a1 L.length c1, .slice a2 NL.length c2] 134)) = V at *
    have HF1 := hideG (show ∀ U, Below V.heap.size V U → Calls Tryz.prog 216 #[.slice ta T.length tc, .int .i64 kid] U fun e w' => e = .returned (.int .i64 (nameI T kid)) ∧ Below V.heap.size V w' from fun U hU => by
      refine (nameOf_any T HS.out _ _ _ (HT.out.below hU)).mono ?_
      rintro e w' ⟨rfl, hb⟩
      exact ⟨rfl, hU.trans (hb.mono hU.size)⟩)
    have HF2 := hideG (show ∀ U, Below V.heap.size V U → Calls Tryz.prog 115 #[.slice a2 NL.length c2, .int .i64 (nameI T kid)] U fun e w' => e = .returned (.int .i64 (indexI NL (nameI T kid))) ∧ Below V.heap.size V w' from fun U hU => by
      refine (sliceIndex_any NL _ _ _ (HI2.out.below hU) (by rw [HLN.out]; omega)).mono ?_
      rintro e w' ⟨rfl, rfl⟩
      exact ⟨rfl, hU⟩)
    have hcc : ∀ (d : Calm V) (b o : Nat), b < V.heap.size → d.to.cell? ⟨b, o, none⟩ = V.cell? ⟨b, o, none⟩ := calmCell
    generalize indexI NL (nameI T kid) = ix at *
    generalize nameI T kid = nm at *
    refine wp_region_calm (by kernel_rfl) (by kernel_rfl) ?_
    repeat (go_big_quiet_step (first | (go_at_call 216; refine Calls.mono (HF1.out _ (Calm.below _)) ?_; rintro e w1 ⟨rfl, hb⟩; exact ⟨rfl, ⟨w1, hb⟩, rfl⟩) | (go_at_call 115; refine Calls.mono (HF2.out _ (Calm.below _)) ?_; rintro e w1 ⟨rfl, hb⟩; exact ⟨rfl, ⟨w1, hb⟩, rfl⟩)))
    refine wpQuiet_nil ?_
    intro _ hw'
    obtain ⟨dq, hw''⟩ := hw'
    subst hw''
    have HBD := hideG (HB0.out.trans (dq.below.mono HB0.out.size))
    generalize dq.to = w3 at *
    clear dq hcc HF1 HF2
    go_wp2_with fail
    go_ret
    exact ⟨ret_int HQ.out.symm, HBD.out⟩
  · have hge : 0 ≤ indexI NL (nameI T kid) := by omega
    obtain ⟨q, hq⟩ : ∃ q : Nat, indexI NL (nameI T kid) = (q : Int) := ⟨(indexI NL (nameI T kid)).toNat, by omega⟩
    have hql : q < L.length := by
      unfold indexI at hq
      split at hq
      · rename_i h; rw [HLN.out] at h; omega
      · omega
    have HQ := hideG (show byNameI T L NL kid = L.getD q 0 by unfold byNameI; rw [if_neg hlt, hq, Int.toNat_natCast])
    obtain ⟨b1, o1, rfl, hd1⟩ : ∃ b1 o1, a1 = some ⟨b1, o1, none⟩ ∧ (w.alloc (.cells #[.bool m, .slice a1 L.length c1, .slice a2 NL.length c2] 134)).cell? ⟨b1, o1 + q, none⟩ = some (.int .i64 (L.getD q 0)) := by
      obtain ⟨a', c', hv', hd'⟩ := HI1.out
      simp only [Value.slice.injEq, true_and] at hv'
      obtain ⟨rfl, rfl⟩ := hv'
      obtain ⟨b, off, rfl, hd⟩ := hd' (by omega)
      exact ⟨b, off, rfl, hd q hql⟩
    have hb1 : b1 < (w.alloc (.cells #[.bool m, .slice (some ⟨b1, o1, none⟩) L.length c1, .slice a2 NL.length c2] 134)).heap.size := below_of_cell hd1
    go_enter Tryz.func218, Tryz.ntmps218
    go_wp2_with fail
    generalize (w.alloc (.cells #[.bool m, .slice (some ⟨b1, o1, none⟩) L.length c1, .slice a2 NL.length c2] 134)) = V at *
    have HF1 := hideG (show ∀ U, Below V.heap.size V U → Calls Tryz.prog 216 #[.slice ta T.length tc, .int .i64 kid] U fun e w' => e = .returned (.int .i64 (nameI T kid)) ∧ Below V.heap.size V w' from fun U hU => by
      refine (nameOf_any T HS.out _ _ _ (HT.out.below hU)).mono ?_
      rintro e w' ⟨rfl, hb⟩
      exact ⟨rfl, hU.trans (hb.mono hU.size)⟩)
    have HF2 := hideG (show ∀ U, Below V.heap.size V U → Calls Tryz.prog 115 #[.slice a2 NL.length c2, .int .i64 (nameI T kid)] U fun e w' => e = .returned (.int .i64 (q : Int)) ∧ Below V.heap.size V w' from fun U hU => by
      refine (sliceIndex_any NL _ _ _ (HI2.out.below hU) (by rw [HLN.out]; omega)).mono ?_
      rintro e w' ⟨rfl, rfl⟩
      exact ⟨by rw [hq], hU⟩)
    have hcc : ∀ (d : Calm V) (b o : Nat), b < V.heap.size → d.to.cell? ⟨b, o, none⟩ = V.cell? ⟨b, o, none⟩ := calmCell
    clear hq hlt hge
    generalize nameI T kid = nm at *
    refine wp_region_calm (by kernel_rfl) (by kernel_rfl) ?_
    repeat (go_big_quiet_step (first | (go_at_call 216; refine Calls.mono (HF1.out _ (Calm.below _)) ?_; rintro e w1 ⟨rfl, hb⟩; exact ⟨rfl, ⟨w1, hb⟩, rfl⟩) | (go_at_call 115; refine Calls.mono (HF2.out _ (Calm.below _)) ?_; rintro e w1 ⟨rfl, hb⟩; exact ⟨rfl, ⟨w1, hb⟩, rfl⟩)))
    refine wpQuiet_nil ?_
    intro _ hw'
    obtain ⟨dq, hw''⟩ := hw'
    subst hw''
    have HBD := hideG (HB0.out.trans (dq.below.mono HB0.out.size))
    have s1 := cell_below dq.below r1
    have s2 := cell_below dq.below hd1
    generalize dq.to = w3 at *
    clear dq hcc HF1 HF2 r1 r2 hd1
    generalize L.getD q 0 = lq at *
    have hq0 : (0 : Int) ≤ (q : Int) := by omega
    go_wp2_with fail
    go_ret
    exact ⟨ret_int HQ.out.symm, HBD.out⟩

set_option maxRecDepth 100000 in
set_option maxHeartbeats 2000000 in
theorem place_any (T : List Nd) (hS : Sane T) (v v1 v2 : Value) (m : Bool) (L NL : List Int) (kid : Int) (w : World) (hT : TreeAt w v T) (h1 : IntsAt w v1 L) (h2 : IntsAt w v2 NL) (hl : L.length ≤ 1000) (hln : m = false → NL.length = L.length) :
    Calls Tryz.prog 207 #[.agg #[.bool m, v1, v2], v, .int .i64 kid] w fun e w' => e = .returned (.int .i64 (placeV T m L NL kid)) ∧ Below w.heap.size w w' := by
  obtain ⟨ta, tc, rfl⟩ := hT.shape
  obtain ⟨a1, c1, rfl⟩ := h1.shape
  obtain ⟨a2, c2, rfl⟩ := h2.shape
  have HB0 := hideG ((Below.refl _ w).alloc (Nat.le_refl _) (.cells #[.bool m, .slice a1 L.length c1, .slice a2 NL.length c2] 134))
  have HT := hideG (hT.below HB0.out)
  have HI1 := hideG (h1.below HB0.out)
  have HI2 := hideG (h2.below HB0.out)
  have HS := hideG hS
  have HLN := hideG hln
  clear hT h1 h2 hS hln
  cases m
  · have HQ := hideG (show placeV T false L NL kid = byNameI T L NL kid by simp [placeV])
    go_enter Tryz.func207, Tryz.ntmps207
    go_wp2_with (go_at_call 218; refine (byName_any T HS.out _ _ _ false L NL kid _ HT.out HI1.out HI2.out hl (HLN.out rfl)).mono ?_; rintro e w1 ⟨rfl, hb1⟩; simp only [World.size_alloc] at hb1)
    go_ret
    exact ⟨ret_int HQ.out.symm, HB0.out.trans (hb1.mono (by omega))⟩
  · have HQ := hideG (show placeV T true L NL kid = byNumI T L kid by simp [placeV])
    go_enter Tryz.func207, Tryz.ntmps207
    go_wp2_with (go_at_call 217; refine (byNumber_any T HS.out _ _ _ true L NL kid _ HT.out HI1.out HI2.out (by omega)).mono ?_; rintro e w1 ⟨rfl, hb1⟩; simp only [World.size_alloc] at hb1)
    go_ret
    exact ⟨ret_int HQ.out.symm, HB0.out.trans (hb1.mono (by omega))⟩
end Go.Proofs.YtclhimodopgeoaaGreat
namespace Go.Proofs.YtclhimodopgeoaaGreat
open Go.RowKit

theorem wp_append_any {P : Program} {w : World} {o : Oper} {a : Act} {K : Act → World → Prop} {Q : Exit → Act → World → Prop} (s x : Operand) (t : TypeId)
    (ho : o.op = .call { callee := .builtin .append, args := #[s, x], argTypes := #[t, t] })
    (base : Nat) (e : TypeId) (i : TypeInfo) (z : Value) (size bytes : Nat) (ht : P.underlying t = some (.slice e)) (hi : P.info? e = some i) (hz : i.zero = some z)
    (hsize : i.size = size) (hby : i.bytes = bytes) (hzs : z.cells.size = size) (hsz : 0 < size)
    (v : Value) (n : Nat) (xs : List Value) (hs : a.eval s = v) (hown : w.ownsRow base e size v n xs)
    (u : Value) (m : Nat) (news : List Value) (hx : a.eval x = u) (hu : Holds w u m news) (hl : news.length = m * size) (h1 : ∀ x ∈ news, x.oneCell' = true)
    (h63 : n + m ≤ maxLen) (hbytes : (n + m) * bytes ≤ 140737488355328) (hbase : base ≤ w.heap.size)
    (h : ∀ v' w', w'.ownsRow base e size v' (n + m) (xs ++ news) → w.grownBy w' v.ownBlock → (∀ k, v'.ownBlock = some k → v.ownBlock = some k ∨ w.heap.size ≤ k) → K (a.put o.dst v') w') : Oper.wp P o a w K Q := by
  obtain ⟨v', w', hrun, h2, h3, h4⟩ := append_any (P := P) w base t o.type e i z size bytes ht hi hz hsize hby hzs hsz v n xs hown u m news hu hl h1 h63 hbytes hbase
  unfold Oper.wp
  simp [execOp, ho, resolve, invoke, builtin, hs, hx, hrun, Result.andThen, Oper.upon]
  exact h v' w' h2 h3 h4
def manB (T : List Nd) (r : Int) : Bool := (getL T r 8).2
def namesI (T : List Nd) (r : Nat) : List Int := (slotsN T r).map fun (s : Nat) => nameI T (s : Int)
theorem namesI_len (T : List Nd) (r : Nat) : (namesI T r).length = (slotsN T r).length := by simp [namesI]
theorem namesI_take {T : List Nd} {r k : Nat} (h : k < (slotsN T r).length) : (namesI T r).take (k + 1) = (namesI T r).take k ++ [nameI T (((slotsN T r).getD k 0 : Nat) : Int)] := by
  have h' : k < (namesI T r).length := by rw [namesI_len]; exact h
  rw [List.take_succ_eq_append_getElem h']
  congr 2
  simp [namesI, List.getElem?_eq_getElem h]

set_option maxRecDepth 100000 in
set_option maxHeartbeats 4000000 in
theorem shelfOf_any (T : List Nd) (hm : mayB T = true) (hS : Sane T) (v : Value) (r : Nat) (hr : r < T.length) (w : World) (hT : TreeAt w v T) :
    Calls Tryz.prog 206 #[v, .int .i64 (r : Int)] w fun e w' => ∃ a1 c1 a2 c2, e = .returned (.agg #[.bool (manB T (r : Int)), .slice a1 (castL (slotsN T r)).length c1, .slice a2 (if manB T (r : Int) then [] else namesI T r).length c2]) ∧ w'.ownsRow w.heap.size 3 1 (.slice a1 (castL (slotsN T r)).length c1) (castL (slotsN T r)).length (intCells (castL (slotsN T r))) ∧ w'.ownsRow w.heap.size 3 1 (.slice a2 (if manB T (r : Int) then [] else namesI T r).length c2) (if manB T (r : Int) then [] else namesI T r).length (intCells (if manB T (r : Int) then [] else namesI T r)) ∧ Below w.heap.size w w' := by
  obtain ⟨i3, hi3, hz30, hz31, hz32⟩ := info_parts infoT3
  obtain ⟨tb, to, tc, rfl, _⟩ := hT.at (by omega)
  have HT := hideG hT
  have HS := hideG hS
  have HM := hideG hm
  have hpos := mayB_pos hm
  have hsl := slotsN_le hm hr
  have HLT := hideG (show ∀ x ∈ slotsN T r, x < T.length from fun x hx => (forest3 hm).d_lt hr (List.mem_filter.mp hx).1)
  have HLEN := hideG (castL_length (slotsN T r))
  obtain ⟨W0, hW0⟩ : ∃ W0, w.alloc (.cells #[.bool false, .slice none 0 0, .slice none 0 0] 134) = W0 := ⟨_, rfl⟩
  have HB0 := hideG (show Below w.heap.size w W0 by rw [← hW0]; exact (Below.refl _ w).alloc (Nat.le_refl _) _)
  have q0 : W0.cell? ⟨w.heap.size, 0, none⟩ = some (.bool false) := by rw [← hW0]; exact cell_of_cells (World.alloc_heap_new w _) (j := 0) rfl
  have q1 : W0.cell? ⟨w.heap.size, 1, none⟩ = some (.slice none 0 0) := by rw [← hW0]; exact cell_of_cells (World.alloc_heap_new w _) (j := 1) rfl
  have q2 : W0.cell? ⟨w.heap.size, 2, none⟩ = some (.slice none 0 0) := by rw [← hW0]; exact cell_of_cells (World.alloc_heap_new w _) (j := 2) rfl
  have y0 : W0.frozen? ⟨w.heap.size, 0, none⟩ = false := by rw [← hW0]; exact World.frozen?_alloc_at _ _ _ _ rfl
  have y1 : W0.frozen? ⟨w.heap.size, 1, none⟩ = false := by rw [← hW0]; exact World.frozen?_alloc_at _ _ _ _ rfl
  have y2 : W0.frozen? ⟨w.heap.size, 2, none⟩ = false := by rw [← hW0]; exact World.frozen?_alloc_at _ _ _ _ rfl
  have hsz0 : W0.heap.size = w.heap.size + 1 := by rw [← hW0]; simp
  have HSZ0 := hideG hsz0
  clear hT hS hm hsz0
  cases hman : manB T (r : Int)
  · have HMAN := hideG hman
    go_enter Tryz.func206, Tryz.ntmps206
    go_wp2_with fail
    clear hW0
    refine (has_any T HS.out _ _ _ _ (HT.out.below HB0.out)).mono ?_
    rintro e w1 ⟨rfl, hb1⟩
    have hmm : (getL T (r : Int) 8).2 = false := HMAN.out
    rw [hmm]
    have HB1 := hideG (HB0.out.trans (hb1.mono HB0.out.size))
    have hwl0 : w.heap.size < W0.heap.size := below_of_cell q0
    have x0 := (hb1.frozen (p := ⟨w.heap.size, 0, none⟩) hwl0).trans y0
    have x1 := (hb1.frozen (p := ⟨w.heap.size, 1, none⟩) hwl0).trans y1
    have x2 := (hb1.frozen (p := ⟨w.heap.size, 2, none⟩) hwl0).trans y2
    have r0 := cell_below hb1 q0
    have r1 := cell_below hb1 q1
    have r2 := cell_below hb1 q2
    clear hb1 q0 q1 q2 hmm hman y0 y1 y2 hwl0
    go_wp2_with fail
    refine (slotsOf_any T HM.out HS.out _ r hr _ (HT.out.below HB1.out)).mono ?_
    rintro e w2 ⟨a1, cc1, rfl, ho1, hb2⟩
    have hwl : w.heap.size < w1.heap.size := below_of_cell r0
    have HO1 := hideG (ownsRow_base (base' := w.heap.size + 1) ho1 hwl)
    have HB2 := hideG (HB1.out.trans (hb2.mono HB1.out.size))
    have HT2 := hideG (HT.out.below HB2.out)
    have z0' := (hb2.frozen (p := ⟨w.heap.size, 0, none⟩) hwl).trans x0
    have z1' := (hb2.frozen (p := ⟨w.heap.size, 1, none⟩) hwl).trans x1
    have z2' := (hb2.frozen (p := ⟨w.heap.size, 2, none⟩) hwl).trans x2
    have s0 := cell_below hb2 r0
    have s1 := cell_below hb2 r1
    have s2 := cell_below hb2 r2
    clear ho1 hb2 r0 r1 r2 x0 x1 x2 hwl
    rw [HLEN.out] at HO1 ⊢
    go_wp2_with fail
    generalize hS0 : (slotsN T r).length = S0 at *
    have HS0 := hideG hS0
    have HNS := hideG (show (namesI T r).length = S0 by rw [namesI_len, hS0])
    clear hS0
    go_loopw [21] (fun i wr => ∃ (k : Nat) (na : Option Addr) (nc : Nat), k ≤ S0 ∧ i = .int .i64 k ∧ wr.cell? ⟨w2.heap.size, 2, none⟩ = some (.slice na k nc) ∧ wr.frozen? ⟨w2.heap.size, 2, none⟩ = false ∧ wr.cell? ⟨w2.heap.size, 0, none⟩ = some (.bool false) ∧ wr.cell? ⟨w2.heap.size, 1, none⟩ = some (.slice a1 S0 cc1) ∧ wr.ownsRow (w2.heap.size + 1) 3 1 (.slice na k nc) k (intCells ((namesI T r).take k)) ∧ Below w2.heap.size w2 wr) (fun i _ => S0 - (intOf i).toNat)
    case atStart =>
      refine ⟨0, none, 0, Nat.zero_le _, rfl, cell_of_cells (World.alloc_heap_new w2 _) (j := 2) (u := .slice none 0 0) rfl, ?_, cell_of_cells (World.alloc_heap_new w2 _) (j := 0) (u := .bool false) rfl, cell_of_cells (World.alloc_heap_new w2 _) (j := 1) (u := .slice a1 S0 cc1) rfl, by simpa [intCells] using World.ownsRow_nil _ _ _ _, (Below.refl _ w2).alloc (Nat.le_refl _) _⟩
      exact World.frozen?_alloc_at _ _ _ _ rfl
    case round =>
      obtain ⟨k, na, nc, hk, rfl, c2, f2, c0, c1, hown, hB⟩ := hrel
      have HOK := hideG hown
      have HBk := hideG hB
      have hwz : w2.heap.size < wr.heap.size := below_of_cell c2
      clear hown hB
      by_cases hlt : k < S0
      · have hlt' : k < (slotsN T r).length := by rw [HS0.out]; exact hlt
        have htk := namesI_take hlt'
        have hxl := HLT.out _ (getD_mem hlt')
        obtain ⟨g1, cg1, hg1⟩ := ownsRow_some HO1.out (by omega)
        simp only [Value.slice.injEq, true_and] at hg1
        obtain ⟨rfl, rfl⟩ := hg1
        have cx : wr.cell? ⟨g1, k, none⟩ = some (.int .i64 (((slotsN T r).getD k 0 : Nat) : Int)) := by
          refine cell_below HBk.out ?_
          rw [HO1.out.cellAt k (by omega), intCells_at (by rw [HLEN.out]; exact hlt), castL_getD _ hlt']
        have HTk := hideG (HT2.out.below HBk.out)
        generalize (slotsN T r).getD k 0 = x at *
        generalize (namesI T r).take k = cur at *
        have HTK := hideG htk
        have HOW := hideG (show ∀ U, Below wr.heap.size wr U → (U.alloc (.cells #[.int .i64 (nameI T (x : Int))] 3)).ownsRow (w2.heap.size + 1) 3 1 (.slice na k nc) k (intCells cur) from fun U hU => (ownsRow_below HOK.out hU (fun j e => (HOK.out.lt j e).2)).alloc _)
        clear htk hlt'
        go_wp2_with fail
        refine wp_region_held_drew (S := fun _ => True) (by kernel_rfl) trivial (fun hHeld => ?_)
        refine wpAnyH_take (i := 0) (v := .pointer (some ⟨w2.heap.size, 2, none⟩)) rfl (by kernel_rfl) (by kernel_rfl) (by kernel_rfl) (fun _ _ _ h => h) (Or.inl ⟨by rfl, ?_⟩) hHeld ?_
        · (intro wq hSw; (try dsimp only at hSw); go_simp)
        try simp only [Act.put, List.setIfInBounds_toArray, List.set_cons_zero, List.set_cons_succ, List.getElem_toArray, List.getElem_cons_zero]
        refine wpAnyH_take (i := 2) (v := .slice (some ⟨tb, to, none⟩) T.length tc) rfl (by kernel_rfl) (by kernel_rfl) (by kernel_rfl) (fun _ _ _ h => h) (Or.inl ⟨by rfl, ?_⟩) hHeld ?_
        · (intro wq hSw; (try dsimp only at hSw); go_simp)
        try simp only [Act.put, List.setIfInBounds_toArray, List.set_cons_zero, List.set_cons_succ, List.getElem_toArray, List.getElem_cons_zero, List.getElem_cons_succ]
        refine wpAnyH_take (i := 3) (v := .int .i64 (x : Int)) rfl (by kernel_rfl) (by kernel_rfl) (by kernel_rfl) (fun _ _ _ h => h) (Or.inl ⟨by rfl, ?_⟩) hHeld ?_
        · (intro wq hSw; (try dsimp only at hSw); go_simp)
        try simp only [Act.put, List.setIfInBounds_toArray, List.set_cons_zero, List.set_cons_succ, List.getElem_toArray, List.getElem_cons_zero, List.getElem_cons_succ]
        refine wpAnyH_ready (rs := [1, 4]) (by kernel_rfl) (by simp) ?_
        refine AllReadyH.cons rfl (fun K hK => ?_) (AllReadyH.cons rfl (fun K hK => ?_) AllReadyH.nil)
        ·
          go_simp
          refine hK.out _ _ trivial (fun hHeld => ?_)
          clear hK K
          try simp only [Act.put, List.setIfInBounds_toArray, List.set_cons_zero, List.set_cons_succ, List.getElem_toArray, List.getElem_cons_zero, List.getElem_cons_succ]
          refine wpAnyH_ready (rs := [4]) (by kernel_rfl) (by simp) ?_
          refine AllReadyH.cons rfl (fun K hK => ?_) AllReadyH.nil
          go_simp
          go_at_call 216
          refine (nameOf_any T HS.out _ _ _ (HTk.out.below (below_drew' (Below.refl _ _)))).mono ?_
          rintro e wq ⟨rfl, hbq⟩
          have hbq := (below_drew' (Below.refl wr.heap.size wr)).trans hbq
          go_wp2_with fail
          refine hK.out _ _ trivial (fun hHeld => ?_)
          clear hK K
          try simp only [Act.put, List.setIfInBounds_toArray, List.set_cons_zero, List.set_cons_succ, List.getElem_toArray, List.getElem_cons_zero, List.getElem_cons_succ]
          have d2 := cell_below hbq c2
          have d2a := cell_alloc_l (.cells #[.int .i64 (nameI T (x : Int))] 3) d2
          refine wpAnyH_ready (rs := [5]) (by kernel_rfl) (by simp) ?_
          refine AllReadyH.cons rfl (fun K hK => ?_) AllReadyH.nil
          go_simp
          refine hK.out _ _ trivial (fun hHeld => ?_)
          clear hK K
          try simp only [Act.put, List.setIfInBounds_toArray, List.set_cons_zero, List.set_cons_succ, List.getElem_toArray, List.getElem_cons_zero, List.getElem_cons_succ]
          refine wpAnyH_ready (rs := [6]) (by kernel_rfl) (by simp) ?_
          refine AllReadyH.cons rfl (fun K hK => ?_) AllReadyH.nil
          rw [if_pos (by rfl)]
          refine wp_append_any (.tmp 26) (.tmp 30) 24 rfl (w2.heap.size + 1) 3 i3 _ 1 8 Tryz.underlying24 hi3 hz30 hz31 hz32 rfl (by decide) _ k (intCells cur) rfl (HOW.out wq hbq) _ 1 [.int .i64 (nameI T (x : Int))] rfl (row_new1 _ _) rfl (fun y hy => by simp at hy; subst hy; rfl) (by simp only [maxLen]; omega) (by omega) (by have := hbq.size; simp; omega) ?_
          intro v4 w4 ho4 hg4 hf4
          obtain ⟨a4, c4, rfl⟩ := ownsRow_shape ho4
          rw [intCells_snoc] at ho4
          have hne : ∀ j, j < w2.heap.size + 1 → some j ≠ Value.ownBlock (.slice na k nc) := fun j hj e => by have := (HOK.out.lt j e.symm).1; omega
          have hbz := hbq.size
          have kk : ∀ j, j < w2.heap.size + 1 → w4.heap[j]? = wr.heap[j]? := fun j hj => (hg4.block j (by simp; omega) (hne j hj)).trans ((((Below.refl _ wq).alloc (Nat.le_refl _) (.cells #[.int .i64 (nameI T (x : Int))] 3)).block j (by omega)).trans (hbq.block j (by omega)))
          have e2 : w4.cell? ⟨w2.heap.size, 2, none⟩ = some (.slice na k nc) := (World.cell?_of_block (a := ⟨w2.heap.size, 2, none⟩) (kk w2.heap.size (by omega))).trans c2
          have f2' : w4.frozen? ⟨w2.heap.size, 2, none⟩ = false := (World.frozen?_of_block (a := ⟨w2.heap.size, 2, none⟩) (kk w2.heap.size (by omega))).trans f2
          have HE0 := hideG ((World.cell?_of_block (a := ⟨w2.heap.size, 0, none⟩) (kk w2.heap.size (by omega))).trans c0)
          have HE1 := hideG ((World.cell?_of_block (a := ⟨w2.heap.size, 1, none⟩) (kk w2.heap.size (by omega))).trans c1)
          have HSZ4 := hideG (show wr.heap.size ≤ w4.heap.size by have := hg4.size; simp at this; omega)
          have HB4 := hideG (show Below w2.heap.size w2 w4 from ((HBk.out.trans (hbq.mono HBk.out.size)).alloc (HBk.out.trans (hbq.mono HBk.out.size)).size (.cells #[.int .i64 (nameI T (x : Int))] 3)).grown hg4 (by have := HBk.out.size; simp; omega) (fun j e => by have := (HOK.out.lt j e).1; omega))
          have HO4 := hideG ho4
          clear ho4 hg4 hf4 hne kk
          refine hK.out _ _ trivial (fun hHeld => ?_)
          clear hK K
          try simp only [Act.put, List.setIfInBounds_toArray, List.set_cons_zero, List.set_cons_succ, List.getElem_toArray, List.getElem_cons_zero, List.getElem_cons_succ]
          refine wpAnyH_take (i := 7) (v := .pointer (some ⟨w2.heap.size, 2, none⟩)) rfl (by kernel_rfl) (by kernel_rfl) (by kernel_rfl) (fun _ _ _ h => h) (Or.inl ⟨by rfl, ?_⟩) hHeld ?_
          · (intro wq hSw; (try dsimp only at hSw); go_simp)
          try simp only [Act.put, List.setIfInBounds_toArray, List.set_cons_zero, List.set_cons_succ, List.getElem_toArray, List.getElem_cons_zero, List.getElem_cons_succ]
          refine wpAnyH_ready (rs := [8]) (by kernel_rfl) (by simp) ?_
          refine AllReadyH.cons rfl (fun K hK => ?_) AllReadyH.nil
          go_simp
          refine hK.out _ _ trivial (fun hHeld => ?_)
          clear hK K
          try simp only [Act.put, List.setIfInBounds_toArray, List.set_cons_zero, List.set_cons_succ, List.getElem_toArray, List.getElem_cons_zero, List.getElem_cons_succ]
          refine wpAnyH_done (by kernel_rfl) ?_ _
          go_wp2_with fail
          go_roundw
          case rel =>
            refine ⟨k + 1, a4, c4, by omega, by go_num, ?_, by rw [World.frozen?_setCell]; exact f2', (World.cell?_setCell_other _ _ _ _ (by simp)).trans HE0.out, (World.cell?_setCell_other _ _ _ _ (by simp)).trans HE1.out, ?_, HB4.out.setCell (p := ⟨w2.heap.size, 2, none⟩) (by simp) _⟩
            · exact World.cell?_setCell_same' _ _ _ (by rw [e2]; rfl)
            · rw [HTK.out]
              have hkept := ownsRow_kept_set (g := w2.heap.size) (j := 2) (u := .slice a4 (k + 1) c4) HO4.out (fun e => by have := (HO4.out.lt _ e).1; omega)
              simpa using hkept
          case measure => simp [intOf]; omega
        ·
          go_simp
          go_at_call 216
          refine (nameOf_any T HS.out _ _ _ (HTk.out.below (below_drew' (Below.refl _ _)))).mono ?_
          rintro e wq ⟨rfl, hbq⟩
          have hbq := (below_drew' (Below.refl wr.heap.size wr)).trans hbq
          go_wp2_with fail
          refine hK.out _ _ trivial (fun hHeld => ?_)
          clear hK K
          try simp only [Act.put, List.setIfInBounds_toArray, List.set_cons_zero, List.set_cons_succ, List.getElem_toArray, List.getElem_cons_zero, List.getElem_cons_succ]
          have d2 := cell_below hbq c2
          have d2a := cell_alloc_l (.cells #[.int .i64 (nameI T (x : Int))] 3) d2
          refine wpAnyH_ready (rs := [1, 5]) (by kernel_rfl) (by simp) ?_
          refine AllReadyH.cons rfl (fun K hK => ?_) (AllReadyH.cons rfl (fun K hK => ?_) AllReadyH.nil)
          ·
            go_simp
            refine hK.out _ _ trivial (fun hHeld => ?_)
            clear hK K
            try simp only [Act.put, List.setIfInBounds_toArray, List.set_cons_zero, List.set_cons_succ, List.getElem_toArray, List.getElem_cons_zero, List.getElem_cons_succ]
            refine wpAnyH_ready (rs := [5]) (by kernel_rfl) (by simp) ?_
            refine AllReadyH.cons rfl (fun K hK => ?_) AllReadyH.nil
            go_simp
            refine hK.out _ _ trivial (fun hHeld => ?_)
            clear hK K
            try simp only [Act.put, List.setIfInBounds_toArray, List.set_cons_zero, List.set_cons_succ, List.getElem_toArray, List.getElem_cons_zero, List.getElem_cons_succ]
            refine wpAnyH_ready (rs := [6]) (by kernel_rfl) (by simp) ?_
            refine AllReadyH.cons rfl (fun K hK => ?_) AllReadyH.nil
            rw [if_pos (by rfl)]
            refine wp_append_any (.tmp 26) (.tmp 30) 24 rfl (w2.heap.size + 1) 3 i3 _ 1 8 Tryz.underlying24 hi3 hz30 hz31 hz32 rfl (by decide) _ k (intCells cur) rfl (HOW.out wq hbq) _ 1 [.int .i64 (nameI T (x : Int))] rfl (row_new1 _ _) rfl (fun y hy => by simp at hy; subst hy; rfl) (by simp only [maxLen]; omega) (by omega) (by have := hbq.size; simp; omega) ?_
            intro v4 w4 ho4 hg4 hf4
            obtain ⟨a4, c4, rfl⟩ := ownsRow_shape ho4
            rw [intCells_snoc] at ho4
            have hne : ∀ j, j < w2.heap.size + 1 → some j ≠ Value.ownBlock (.slice na k nc) := fun j hj e => by have := (HOK.out.lt j e.symm).1; omega
            have hbz := hbq.size
            have kk : ∀ j, j < w2.heap.size + 1 → w4.heap[j]? = wr.heap[j]? := fun j hj => (hg4.block j (by simp; omega) (hne j hj)).trans ((((Below.refl _ wq).alloc (Nat.le_refl _) (.cells #[.int .i64 (nameI T (x : Int))] 3)).block j (by omega)).trans (hbq.block j (by omega)))
            have e2 : w4.cell? ⟨w2.heap.size, 2, none⟩ = some (.slice na k nc) := (World.cell?_of_block (a := ⟨w2.heap.size, 2, none⟩) (kk w2.heap.size (by omega))).trans c2
            have f2' : w4.frozen? ⟨w2.heap.size, 2, none⟩ = false := (World.frozen?_of_block (a := ⟨w2.heap.size, 2, none⟩) (kk w2.heap.size (by omega))).trans f2
            have HE0 := hideG ((World.cell?_of_block (a := ⟨w2.heap.size, 0, none⟩) (kk w2.heap.size (by omega))).trans c0)
            have HE1 := hideG ((World.cell?_of_block (a := ⟨w2.heap.size, 1, none⟩) (kk w2.heap.size (by omega))).trans c1)
            have HSZ4 := hideG (show wr.heap.size ≤ w4.heap.size by have := hg4.size; simp at this; omega)
            have HB4 := hideG (show Below w2.heap.size w2 w4 from ((HBk.out.trans (hbq.mono HBk.out.size)).alloc (HBk.out.trans (hbq.mono HBk.out.size)).size (.cells #[.int .i64 (nameI T (x : Int))] 3)).grown hg4 (by have := HBk.out.size; simp; omega) (fun j e => by have := (HOK.out.lt j e).1; omega))
            have HO4 := hideG ho4
            clear ho4 hg4 hf4 hne kk
            refine hK.out _ _ trivial (fun hHeld => ?_)
            clear hK K
            try simp only [Act.put, List.setIfInBounds_toArray, List.set_cons_zero, List.set_cons_succ, List.getElem_toArray, List.getElem_cons_zero, List.getElem_cons_succ]
            refine wpAnyH_take (i := 7) (v := .pointer (some ⟨w2.heap.size, 2, none⟩)) rfl (by kernel_rfl) (by kernel_rfl) (by kernel_rfl) (fun _ _ _ h => h) (Or.inl ⟨by rfl, ?_⟩) hHeld ?_
            · (intro wq hSw; (try dsimp only at hSw); go_simp)
            try simp only [Act.put, List.setIfInBounds_toArray, List.set_cons_zero, List.set_cons_succ, List.getElem_toArray, List.getElem_cons_zero, List.getElem_cons_succ]
            refine wpAnyH_ready (rs := [8]) (by kernel_rfl) (by simp) ?_
            refine AllReadyH.cons rfl (fun K hK => ?_) AllReadyH.nil
            go_simp
            refine hK.out _ _ trivial (fun hHeld => ?_)
            clear hK K
            try simp only [Act.put, List.setIfInBounds_toArray, List.set_cons_zero, List.set_cons_succ, List.getElem_toArray, List.getElem_cons_zero, List.getElem_cons_succ]
            refine wpAnyH_done (by kernel_rfl) ?_ _
            go_wp2_with fail
            go_roundw
            case rel =>
              refine ⟨k + 1, a4, c4, by omega, by go_num, ?_, by rw [World.frozen?_setCell]; exact f2', (World.cell?_setCell_other _ _ _ _ (by simp)).trans HE0.out, (World.cell?_setCell_other _ _ _ _ (by simp)).trans HE1.out, ?_, HB4.out.setCell (p := ⟨w2.heap.size, 2, none⟩) (by simp) _⟩
              · exact World.cell?_setCell_same' _ _ _ (by rw [e2]; rfl)
              · rw [HTK.out]
                have hkept := ownsRow_kept_set (g := w2.heap.size) (j := 2) (u := .slice a4 (k + 1) c4) HO4.out (fun e => by have := (HO4.out.lt _ e).1; omega)
                simpa using hkept
            case measure => simp [intOf]; omega
          ·
            go_simp
            refine hK.out _ _ trivial (fun hHeld => ?_)
            clear hK K
            try simp only [Act.put, List.setIfInBounds_toArray, List.set_cons_zero, List.set_cons_succ, List.getElem_toArray, List.getElem_cons_zero, List.getElem_cons_succ]
            refine wpAnyH_ready (rs := [1]) (by kernel_rfl) (by simp) ?_
            refine AllReadyH.cons rfl (fun K hK => ?_) AllReadyH.nil
            go_simp
            refine hK.out _ _ trivial (fun hHeld => ?_)
            clear hK K
            try simp only [Act.put, List.setIfInBounds_toArray, List.set_cons_zero, List.set_cons_succ, List.getElem_toArray, List.getElem_cons_zero, List.getElem_cons_succ]
            refine wpAnyH_ready (rs := [6]) (by kernel_rfl) (by simp) ?_
            refine AllReadyH.cons rfl (fun K hK => ?_) AllReadyH.nil
            rw [if_pos (by rfl)]
            refine wp_append_any (.tmp 26) (.tmp 30) 24 rfl (w2.heap.size + 1) 3 i3 _ 1 8 Tryz.underlying24 hi3 hz30 hz31 hz32 rfl (by decide) _ k (intCells cur) rfl (HOW.out wq hbq) _ 1 [.int .i64 (nameI T (x : Int))] rfl (row_new1 _ _) rfl (fun y hy => by simp at hy; subst hy; rfl) (by simp only [maxLen]; omega) (by omega) (by have := hbq.size; simp; omega) ?_
            intro v4 w4 ho4 hg4 hf4
            obtain ⟨a4, c4, rfl⟩ := ownsRow_shape ho4
            rw [intCells_snoc] at ho4
            have hne : ∀ j, j < w2.heap.size + 1 → some j ≠ Value.ownBlock (.slice na k nc) := fun j hj e => by have := (HOK.out.lt j e.symm).1; omega
            have hbz := hbq.size
            have kk : ∀ j, j < w2.heap.size + 1 → w4.heap[j]? = wr.heap[j]? := fun j hj => (hg4.block j (by simp; omega) (hne j hj)).trans ((((Below.refl _ wq).alloc (Nat.le_refl _) (.cells #[.int .i64 (nameI T (x : Int))] 3)).block j (by omega)).trans (hbq.block j (by omega)))
            have e2 : w4.cell? ⟨w2.heap.size, 2, none⟩ = some (.slice na k nc) := (World.cell?_of_block (a := ⟨w2.heap.size, 2, none⟩) (kk w2.heap.size (by omega))).trans c2
            have f2' : w4.frozen? ⟨w2.heap.size, 2, none⟩ = false := (World.frozen?_of_block (a := ⟨w2.heap.size, 2, none⟩) (kk w2.heap.size (by omega))).trans f2
            have HE0 := hideG ((World.cell?_of_block (a := ⟨w2.heap.size, 0, none⟩) (kk w2.heap.size (by omega))).trans c0)
            have HE1 := hideG ((World.cell?_of_block (a := ⟨w2.heap.size, 1, none⟩) (kk w2.heap.size (by omega))).trans c1)
            have HSZ4 := hideG (show wr.heap.size ≤ w4.heap.size by have := hg4.size; simp at this; omega)
            have HB4 := hideG (show Below w2.heap.size w2 w4 from ((HBk.out.trans (hbq.mono HBk.out.size)).alloc (HBk.out.trans (hbq.mono HBk.out.size)).size (.cells #[.int .i64 (nameI T (x : Int))] 3)).grown hg4 (by have := HBk.out.size; simp; omega) (fun j e => by have := (HOK.out.lt j e).1; omega))
            have HO4 := hideG ho4
            clear ho4 hg4 hf4 hne kk
            refine hK.out _ _ trivial (fun hHeld => ?_)
            clear hK K
            try simp only [Act.put, List.setIfInBounds_toArray, List.set_cons_zero, List.set_cons_succ, List.getElem_toArray, List.getElem_cons_zero, List.getElem_cons_succ]
            refine wpAnyH_take (i := 7) (v := .pointer (some ⟨w2.heap.size, 2, none⟩)) rfl (by kernel_rfl) (by kernel_rfl) (by kernel_rfl) (fun _ _ _ h => h) (Or.inl ⟨by rfl, ?_⟩) hHeld ?_
            · (intro wq hSw; (try dsimp only at hSw); go_simp)
            try simp only [Act.put, List.setIfInBounds_toArray, List.set_cons_zero, List.set_cons_succ, List.getElem_toArray, List.getElem_cons_zero, List.getElem_cons_succ]
            refine wpAnyH_ready (rs := [8]) (by kernel_rfl) (by simp) ?_
            refine AllReadyH.cons rfl (fun K hK => ?_) AllReadyH.nil
            go_simp
            refine hK.out _ _ trivial (fun hHeld => ?_)
            clear hK K
            try simp only [Act.put, List.setIfInBounds_toArray, List.set_cons_zero, List.set_cons_succ, List.getElem_toArray, List.getElem_cons_zero, List.getElem_cons_succ]
            refine wpAnyH_done (by kernel_rfl) ?_ _
            go_wp2_with fail
            go_roundw
            case rel =>
              refine ⟨k + 1, a4, c4, by omega, by go_num, ?_, by rw [World.frozen?_setCell]; exact f2', (World.cell?_setCell_other _ _ _ _ (by simp)).trans HE0.out, (World.cell?_setCell_other _ _ _ _ (by simp)).trans HE1.out, ?_, HB4.out.setCell (p := ⟨w2.heap.size, 2, none⟩) (by simp) _⟩
              · exact World.cell?_setCell_same' _ _ _ (by rw [e2]; rfl)
              · rw [HTK.out]
                have hkept := ownsRow_kept_set (g := w2.heap.size) (j := 2) (u := .slice a4 (k + 1) c4) HO4.out (fun e => by have := (HO4.out.lt _ e).1; omega)
                simpa using hkept
            case measure => simp [intOf]; omega
      · have hke : k = S0 := by omega
        subst hke
        have HNT := hideG (show (namesI T r).take k = namesI T r from List.take_of_length_le (by rw [HNS.out]; exact Nat.le_refl _))
        rw [HNT.out] at HOK
        have t0 := cell_below HBk.out s0
        have t1 := cell_below HBk.out s1
        have t2 := cell_below HBk.out s2
        have hwb : w.heap.size < w2.heap.size := below_of_cell s0
        have z0 : wr.frozen? ⟨w.heap.size, 0, none⟩ = false := (HBk.out.frozen (p := ⟨w.heap.size, 0, none⟩) hwb).trans z0'
        have z1 : wr.frozen? ⟨w.heap.size, 1, none⟩ = false := (HBk.out.frozen (p := ⟨w.heap.size, 1, none⟩) hwb).trans z1'
        have z2 : wr.frozen? ⟨w.heap.size, 2, none⟩ = false := (HBk.out.frozen (p := ⟨w.heap.size, 2, none⟩) hwb).trans z2'
        have HBE := hideG (HB2.out.trans (HBk.out.mono HB2.out.size))
        have HO1k := hideG (ownsRow_below HO1.out HBk.out (fun j e => (HO1.out.lt j e).2))
        clear s0 s1 s2 z0' z1' z2'
        go_wp2_with fail
        have hc0 : (((wr.setCell ⟨w.heap.size, 0, none⟩ (.bool false)).setCell ⟨w.heap.size, 1, none⟩ (.slice a1 k cc1)).setCell ⟨w.heap.size, 2, none⟩ (.slice na k nc)).cell? ⟨w.heap.size, 0, none⟩ = some (.bool false) := by
          rw [World.cell?_setCell_other _ _ _ _ (by simp), World.cell?_setCell_other _ _ _ _ (by simp)]
          exact World.cell?_setCell_same' _ _ _ (by rw [t0]; rfl)
        have hc1 : (((wr.setCell ⟨w.heap.size, 0, none⟩ (.bool false)).setCell ⟨w.heap.size, 1, none⟩ (.slice a1 k cc1)).setCell ⟨w.heap.size, 2, none⟩ (.slice na k nc)).cell? ⟨w.heap.size, 1, none⟩ = some (.slice a1 k cc1) := by
          rw [World.cell?_setCell_other _ _ _ _ (by simp)]
          exact World.cell?_setCell_same' _ _ _ (by rw [World.cell?_setCell_other _ _ _ _ (by simp), t1]; rfl)
        have hc2 : (((wr.setCell ⟨w.heap.size, 0, none⟩ (.bool false)).setCell ⟨w.heap.size, 1, none⟩ (.slice a1 k cc1)).setCell ⟨w.heap.size, 2, none⟩ (.slice na k nc)).cell? ⟨w.heap.size, 2, none⟩ = some (.slice na k nc) :=
          World.cell?_setCell_same' _ _ _ (by rw [World.cell?_setCell_other _ _ _ _ (by simp), World.cell?_setCell_other _ _ _ _ (by simp), t2]; rfl)
        refine bodyPost_ret (v := .agg #[.bool false, .slice a1 k cc1, .slice na k nc]) (by simp [results, Tryz.results206, go_sem, hc0, hc1, hc2]) rfl ⟨a1, cc1, na, nc, by rw [HLEN.out, HNS.out], ?_, ?_, ?_⟩
        · rw [HLEN.out]
          have k0 := ownsRow_kept_set (g := w.heap.size) (j := 0) (u := .bool false) HO1k.out (fun e => by have := (HO1k.out.lt _ e).1; omega)
          have k1 := ownsRow_kept_set (g := w.heap.size) (j := 1) (u := .slice a1 k cc1) k0 (fun e => by have := (HO1k.out.lt _ e).1; omega)
          have k2 := ownsRow_kept_set (g := w.heap.size) (j := 2) (u := .slice na k nc) k1 (fun e => by have := (HO1k.out.lt _ e).1; omega)
          exact ownsRow_base k2 (by omega)
        · rw [HNS.out]
          have k0 := ownsRow_kept_set (g := w.heap.size) (j := 0) (u := .bool false) HOK.out (fun e => by have := (HOK.out.lt _ e).1; omega)
          have k1 := ownsRow_kept_set (g := w.heap.size) (j := 1) (u := .slice a1 k cc1) k0 (fun e => by have := (HOK.out.lt _ e).1; omega)
          have k2 := ownsRow_kept_set (g := w.heap.size) (j := 2) (u := .slice na k nc) k1 (fun e => by have := (HOK.out.lt _ e).1; omega)
          exact ownsRow_base k2 (by omega)
        · exact ((HBE.out.setCell (p := ⟨w.heap.size, 0, none⟩) (by simp) _).setCell (p := ⟨w.heap.size, 1, none⟩) (by simp) _).setCell (p := ⟨w.heap.size, 2, none⟩) (by simp) _
  · have HMAN := hideG hman
    go_enter Tryz.func206, Tryz.ntmps206
    go_wp2_with fail
    clear hW0
    refine (has_any T HS.out _ _ _ _ (HT.out.below HB0.out)).mono ?_
    rintro e w1 ⟨rfl, hb1⟩
    have hmm : (getL T (r : Int) 8).2 = true := HMAN.out
    rw [hmm]
    have HB1 := hideG (HB0.out.trans (hb1.mono HB0.out.size))
    have hwl0 : w.heap.size < W0.heap.size := below_of_cell q0
    have x0 := (hb1.frozen (p := ⟨w.heap.size, 0, none⟩) hwl0).trans y0
    have x1 := (hb1.frozen (p := ⟨w.heap.size, 1, none⟩) hwl0).trans y1
    have x2 := (hb1.frozen (p := ⟨w.heap.size, 2, none⟩) hwl0).trans y2
    have r0 := cell_below hb1 q0
    have r1 := cell_below hb1 q1
    have r2 := cell_below hb1 q2
    clear hb1 q0 q1 q2 hmm hman y0 y1 y2 hwl0
    go_wp2_with fail
    refine (slotsOf_any T HM.out HS.out _ r hr _ (HT.out.below HB1.out)).mono ?_
    rintro e w2 ⟨a1, cc1, rfl, ho1, hb2⟩
    have hwl : w.heap.size < w1.heap.size := below_of_cell r0
    have HO1 := hideG (ownsRow_base (base' := w.heap.size + 1) ho1 hwl)
    have hwb : w.heap.size < w2.heap.size := by have := hb2.size; omega
    have HB2 := hideG (HB1.out.trans (hb2.mono HB1.out.size))
    have z0 := (hb2.frozen (p := ⟨w.heap.size, 0, none⟩) hwl).trans x0
    have z1 := (hb2.frozen (p := ⟨w.heap.size, 1, none⟩) hwl).trans x1
    have z2 := (hb2.frozen (p := ⟨w.heap.size, 2, none⟩) hwl).trans x2
    have t0 := cell_below hb2 r0
    have t1 := cell_below hb2 r1
    have t2 := cell_below hb2 r2
    have hne : w2.heap.size ≠ w.heap.size := by omega
    clear ho1 hb2 r0 r1 r2 x0 x1 x2 hwl
    rw [HLEN.out] at HO1 ⊢
    generalize hS0 : (slotsN T r).length = S0 at *
    clear hS0
    go_wp2_with fail
    obtain ⟨w3, hw3⟩ : ∃ w3, ((w2.setCell ⟨w.heap.size, 0, none⟩ (.bool true)).setCell ⟨w.heap.size, 1, none⟩ (.slice a1 S0 cc1)).setCell ⟨w.heap.size, 2, none⟩ (.slice none 0 0) = w3 := ⟨_, rfl⟩
    have hc0 : w3.cell? ⟨w.heap.size, 0, none⟩ = some (.bool true) := by
      rw [← hw3, World.cell?_setCell_other _ _ _ _ (by simp), World.cell?_setCell_other _ _ _ _ (by simp)]
      exact World.cell?_setCell_same' _ _ _ (by rw [t0]; rfl)
    have hc1 : w3.cell? ⟨w.heap.size, 1, none⟩ = some (.slice a1 S0 cc1) := by
      rw [← hw3, World.cell?_setCell_other _ _ _ _ (by simp)]
      exact World.cell?_setCell_same' _ _ _ (by rw [World.cell?_setCell_other _ _ _ _ (by simp), t1]; rfl)
    have hc2 : w3.cell? ⟨w.heap.size, 2, none⟩ = some (.slice none 0 0) := by
      rw [← hw3]
      exact World.cell?_setCell_same' _ _ _ (by rw [World.cell?_setCell_other _ _ _ _ (by simp), World.cell?_setCell_other _ _ _ _ (by simp), t2]; rfl)
    have hs3 : w3.heap.size = w2.heap.size := by rw [← hw3]; simp
    have HO3 : w3.ownsRow (w.heap.size + 1) 3 1 (.slice a1 S0 cc1) S0 (intCells (castL (slotsN T r))) := by
      rw [← hw3]
      have k0 := ownsRow_kept_set (g := w.heap.size) (j := 0) (u := .bool true) HO1.out (fun e => by have := (HO1.out.lt _ e).1; omega)
      have k1 := ownsRow_kept_set (g := w.heap.size) (j := 1) (u := .slice a1 S0 cc1) k0 (fun e => by have := (HO1.out.lt _ e).1; omega)
      exact ownsRow_kept_set (g := w.heap.size) (j := 2) (u := .slice none 0 0) k1 (fun e => by have := (HO1.out.lt _ e).1; omega)
    have HB3 : Below w.heap.size w w3 := by
      rw [← hw3]
      exact ((HB2.out.setCell (p := ⟨w.heap.size, 0, none⟩) (by simp) _).setCell (p := ⟨w.heap.size, 1, none⟩) (by simp) _).setCell (p := ⟨w.heap.size, 2, none⟩) (by simp) _
    rw [hw3]
    have d0 := cell_alloc_l (.cells #[.bool true, .slice a1 S0 cc1, .slice none 0 0] 134) hc0
    have d1 := cell_alloc_l (.cells #[.bool true, .slice a1 S0 cc1, .slice none 0 0] 134) hc1
    have d2 := cell_alloc_l (.cells #[.bool true, .slice a1 S0 cc1, .slice none 0 0] 134) hc2
    refine bodyPost_ret (v := .agg #[.bool true, .slice a1 S0 cc1, .slice none 0 0]) (by simp [results, Tryz.results206, go_sem, d0, d1, d2]) rfl ⟨a1, cc1, none, 0, by rw [HLEN.out], ?_, World.ownsRow_nil _ _ _ _, HB3.alloc HB3.size _⟩
    rw [HLEN.out]
    exact ownsRow_base (HO3.alloc _) (by omega)
end Go.Proofs.YtclhimodopgeoaaGreat
namespace Go.Proofs.YtclhimodopgeoaaGreat
open Go.RowKit

/-- Where a kid of the host of shadow r lies. -/
def placeI (T : List Nd) (r : Nat) (kid : Int) : Int := placeV T (manB T (r : Int)) (castL (slotsN T r)) (if manB T (r : Int) then [] else namesI T r) kid
/-- slots.Of, of a node. -/
def ofN (T : List Nd) (n : Nat) : Int := if (nd T n).parent == -1 then -1 else if (nd T (nd T n).parent.toNat).root == -1 then -1 else placeI T (nd T (nd T n).parent.toNat).root.toNat (n : Int)
def ofI (T : List Nd) (n : Int) : Int := if knownB T [n] then ofN T n.toNat else -1

set_option maxRecDepth 100000 in
set_option maxHeartbeats 2000000 in
theorem slotOf_any (T : List Nd) (hS : Sane T) (v : Value) (n : Int) (w : World) (hT : TreeAt w v T) :
    Calls Tryz.prog 189 #[v, .int .i64 n] w fun e w' => e = .returned (.int .i64 (ofI T n)) ∧ Below w.heap.size w w' := by
  have HT := hideG hT
  have HS := hideG hS
  cases hk : knownB T [n]
  · obtain ⟨ta, tc, rfl⟩ := hT.shape
    have HQ := hideG (show ofI T n = -1 by simp [ofI, hk])
    have E1 := hideG (show topI T n = -1 by simp [topI, hk])
    clear hT hS
    go_enter Tryz.func189, Tryz.ntmps189
    go_wp2_with (go_at_call 146; refine (orderTop_any T HS.out _ _ _ HT.out).mono ?_; rintro e w1 ⟨rfl, hb1⟩; rw [E1.out]; have HB1 := hideG hb1; clear hb1)
    go_ret
    exact ⟨ret_int HQ.out.symm, HB1.out⟩
  · obtain ⟨hm, m, rfl, hn⟩ := known_one hk
    obtain ⟨tb, to, tc, rfl, hct⟩ := hT.at (by omega)
    obtain ⟨kv, av, hN⟩ := hct m hn
    have E1 := hideG (topI_known hm hn)
    have HM := hideG hm
    have hpos := mayB_pos hm
    have htn : ((topN T m : Int) == -1) = false := by simp
    have hm0 : (0 : Int) ≤ (m : Int) := by omega
    have hQ0 : ofI T (m : Int) = ofN T m := by simp [ofI, hk]
    rcases parent_cases (mayB_fine hm) hn with e | ⟨e, p, hpl, hpm⟩
    · have hp : (nd T m).parent = -1 := by simpa using e
      have HQ := hideG (show ofI T (m : Int) = -1 by rw [hQ0]; simp [ofN, hp])
      have G2 := hideG hN.parent
      rw [hp] at G2
      clear hT hS hct hN hm hk e hp hQ0
      go_enter Tryz.func189, Tryz.ntmps189
      go_wp2_with (go_at_call 146; refine (orderTop_any T HS.out _ _ _ HT.out).mono ?_; rintro e w1 ⟨rfl, hb1⟩; rw [E1.out]; have HB1 := hideG hb1; have g2 := cell_below hb1 G2.out; clear hb1)
      go_ret
      exact ⟨ret_int HQ.out.symm, HB1.out⟩
    · have G2 := hideG hN.parent
      rw [hpm] at G2
      obtain ⟨kv', av', hP⟩ := hct p hpl
      have hpn : ((p : Int) == -1) = false := by simp
      have hp0 : (0 : Int) ≤ (p : Int) := by omega
      cases hr : ((nd T p).root == -1)
      · obtain ⟨q, hrq, hql, _, _⟩ := root_facts (mayB_fine hm) hpl hr
        have HQ := hideG (show ofI T (m : Int) = placeV T (manB T (q : Int)) (castL (slotsN T q)) (if manB T (q : Int) then [] else namesI T q) (m : Int) by
          rw [hQ0]; unfold ofN; rw [e, hpm, Int.toNat_natCast, hr, hrq, Int.toNat_natCast]; rfl)
        have G5 := hideG hP.root
        rw [hrq] at G5
        have hqn : ((q : Int) == -1) = false := by simp
        have hsl := slotsN_le hm hql
        have hlc : (castL (slotsN T q)).length ≤ 1000 := by rw [castL_length]; omega
        have HNL := hideG (show manB T (q : Int) = false → (if manB T (q : Int) then [] else namesI T q).length = (castL (slotsN T q)).length from fun e => by rw [e, castL_length, ← namesI_len]; rfl)
        clear hT hS hct hN hm hk e hpm hQ0 hP hr hrq
        go_enter Tryz.func189, Tryz.ntmps189
        go_wp2_with fail
        refine (orderTop_any T HS.out _ _ _ HT.out).mono ?_
        rintro e w1 ⟨rfl, hb1⟩
        rw [E1.out]
        have HB1 := hideG hb1
        have g2 := cell_below hb1 G2.out
        have g5 := cell_below hb1 G5.out
        clear hb1
        go_wp2_with fail
        refine (shelfOf_any T HM.out HS.out _ q hql _ (HT.out.below HB1.out)).mono ?_
        rintro e w2 ⟨a1, c1, a2, c2, rfl, ho1, ho2, hb2⟩
        have HI1 := hideG (ownsRow_ints ho1)
        have HI2 := hideG (ownsRow_ints ho2)
        have HB2 := hideG (HB1.out.trans (hb2.mono HB1.out.size))
        clear ho1 ho2 hb2 g2 g5
        generalize (if manB T (q : Int) then [] else namesI T q) = NL at *
        generalize castL (slotsN T q) = LL at *
        generalize manB T (q : Int) = mm at *
        go_wp2_with fail
        refine (place_any T HS.out _ _ _ mm LL NL _ _ (HT.out.below HB2.out) HI1.out HI2.out hlc HNL.out).mono ?_
        rintro e w3 ⟨rfl, hb3⟩
        have HB3 := hideG (HB2.out.trans (hb3.mono HB2.out.size))
        clear hb3
        go_wp2_with fail
        go_ret
        exact ⟨ret_int HQ.out.symm, HB3.out⟩
      · have hr1 : (nd T p).root = -1 := by simpa using hr
        have HQ := hideG (show ofI T (m : Int) = -1 by
          rw [hQ0]; unfold ofN; rw [e, hpm, Int.toNat_natCast, hr]; rfl)
        have G5 := hideG hP.root
        rw [hr1] at G5
        clear hT hS hct hN hm hk e hpm hQ0 hP hr hr1
        go_enter Tryz.func189, Tryz.ntmps189
        go_wp2_with (go_at_call 146; refine (orderTop_any T HS.out _ _ _ HT.out).mono ?_; rintro e w1 ⟨rfl, hb1⟩; rw [E1.out]; have HB1 := hideG hb1; have g2 := cell_below hb1 G2.out; have g5 := cell_below hb1 G5.out; clear hb1)
        go_ret
        exact ⟨ret_int HQ.out.symm, HB1.out⟩
end Go.Proofs.YtclhimodopgeoaaGreat
namespace Go.Proofs.YtclhimodopgeoaaGreat
open Go.RowKit Go.Shelf

attribute [local go_sem] Oper.semAt_some

def pairsI (T : List Nd) (r h : Nat) : List (Int × Int) := (nd T h).kids.map fun k => (k, placeI T r k)

theorem rowHeld {E : Nat → Prop} {X : Nat} {A B : World} {base : Nat} {v : Value} {l : List Int} (h : A.ownsRow base 3 1 v l.length (intCells l)) (hH : ∀ g, v.ownBlock = some g → Held E X A g) (hk : Kd E X A B) : B.ownsRow base 3 1 v l.length (intCells l) := by
  refine ⟨h.1, ?_⟩
  rcases h.2 with h | ⟨g, cap, cur, rfl, b, hg, r⟩
  · exact .inl h
  · have hh := hH g rfl
    exact .inr ⟨g, cap, cur, rfl, b, by rw [hk.block g hh.1 hh.2.1 hh.2.2]; exact hg, r⟩
theorem Kd.of_below {E : Nat → Prop} {X : Nat} {A B : World} (hX : X < A.heap.size) (h : Below A.heap.size A B) : Kd E X A B :=
  ⟨h.os, h.tape, h.output, h.size, fun k hk _ _ => h.block k hk, fun g hg => .inl (by rw [ownX_block (h.block X hX)] at hg; exact hg)⟩
theorem ownFrom_below' {β : Type} {M : Nat} {J : β → World → Prop} (hJ : OwnFrom M J) {s : β} {A B : World} (h : J s A) (hb : Below A.heap.size A B) : J s B :=
  hJ s A B none h ⟨hb.os, hb.tape, hb.output, hb.size, fun k hk _ => hb.block k hk⟩ (fun r e => by cases e)

end Go.Proofs.YtclhimodopgeoaaGreat
namespace Go.Proofs.YtclhimodopgeoaaGreat
open Go.RowKit Go.Shelf

attribute [local go_sem] Oper.semAt_some

/-- Those that lie in slot s of shadow r, whose host is h. -/
def asgN (T : List Nd) (r h : Nat) (s : Int) : List Int := (nd T h).kids.filter fun k => placeI T r k == s
theorem asg_take {s : Int} (pre : List (Int × Int)) (p : Int × Int) : ((pre ++ [p]).filter fun q => q.2 == s).map (·.1) = (pre.filter fun q => q.2 == s).map (·.1) ++ (if p.2 == s then [p.1] else []) := by
  rw [List.filter_append, List.map_append]
  congr 1
  cases h : (p.2 == s) <;> simp [h]
theorem asg_all (T : List Nd) (r h : Nat) (s : Int) : ((pairsI T r h).filter fun q => q.2 == s).map (·.1) = asgN T r h s := by
  unfold pairsI asgN
  rw [List.filter_map, List.map_map]
  simp [Function.comp_def]

/-- slots.Assigned. -/
def asgI (T : List Nd) (s : Int) : List Int := if knownB T [s] && (nd T (topN T s.toNat)).kind == 3 && (nd T s.toNat).tag == 3 then asgN T (topN T s.toNat) (nd T (topN T s.toNat)).host.toNat s else []

end Go.Proofs.YtclhimodopgeoaaGreat

namespace Go.Proofs.YtclhimodopgeoaaGreat
open Go.RowKit

end Go.Proofs.YtclhimodopgeoaaGreat
namespace Go.Proofs.YtclhimodopgeoaaGreat
open Go.RowKit

def isSlotB (T : List Nd) (n : Nat) : Bool := (nd T n).kind == 1 && ((nd T n).tag == 3 && (nd T (topN T n)).kind == 3)
theorem tag_elem {T : List Nd} (hm : mayB T = true) {n : Nat} (hn : n < T.length) (h : (nd T n).tag = 3) : (nd T n).kind = 1 := by
  have hk := (mayB_fine hm).kind n hn
  have ht : tagFitsB (nd T n).kind (nd T n).tag = true := by
    unfold kindFitsB at hk
    split at hk <;> simp only [Bool.and_eq_true] at hk <;> exact hk.2
  unfold tagFitsB at ht
  split at ht
  · rename_i h1; simpa using h1
  · rw [h] at ht; simp at ht
theorem top_shadow {T : List Nd} (hm : mayB T = true) {r : Nat} (hr : r < T.length) (hk : (nd T r).kind = 3) : topN T r = r :=
  topN_none (by rw [fine_shadow_parent (mayB_fine hm) hr hk]; rfl)
theorem slot_below {T : List Nd} (hm : mayB T = true) {r : Nat} (hr : r < T.length) (hk : (nd T r).kind = 3) {n : Nat} (hn : n ∈ dn T r) : n < T.length ∧ isSlotB T n = ((nd T n).tag == 3) := by
  obtain ⟨hnl, hpar, _⟩ := (forest3 hm).d_segment hr hn
  have ht : topN T n = r := by rw [← top_eq hm hnl hpar, top_shadow hm hr hk]
  refine ⟨hnl, ?_⟩
  unfold isSlotB
  rw [ht, hk]
  cases h : ((nd T n).tag == 3)
  · simp
  · have := tag_elem hm hnl (by simpa using h)
    rw [this]; rfl

end Go.Proofs.YtclhimodopgeoaaGreat
namespace Go.Proofs.YtclhimodopgeoaaGreat
open Go.RowKit

theorem place_man {T : List Nd} {r : Nat} {k : Int} (h : manB T (r : Int) = true) : placeI T r k = byNumI T (castL (slotsN T r)) k := by
  unfold placeI placeV; rw [h]; rfl
theorem place_nam {T : List Nd} {r : Nat} {k : Int} (h : manB T (r : Int) = false) : placeI T r k = byNameI T (castL (slotsN T r)) (namesI T r) k := by
  unfold placeI placeV; rw [h]; rfl
theorem names_getD {T : List Nd} {r j : Nat} (h : j < (slotsN T r).length) : (namesI T r).getD j 0 = nameI T (((slotsN T r).getD j 0 : Nat) : Int) := by
  unfold namesI
  rw [List.getD_eq_getElem?_getD, List.getElem?_map, List.getD_eq_getElem?_getD, List.getElem?_eq_getElem h]; rfl

/-- Who lies in a slot: a kid of the host whose Of is the slot. -/
theorem of_kid {T : List Nd} (hm : mayB T = true) {r h : Nat} (hr : r < T.length) (hk : (nd T r).kind = 3) (hho : (nd T r).host = (h : Int)) (hh : h < T.length) {k : Int} (hkk : k ∈ (nd T h).kids) : ∃ m : Nat, k = m ∧ m < T.length ∧ ofN T m = placeI T r k := by
  obtain ⟨m, rfl, hml, _, hp⟩ := kidP_iff.mp ((mayB_fine hm).kid h hh k hkk)
  refine ⟨m, rfl, hml, ?_⟩
  have hro := fine_hostroot hm hr hk hho
  unfold ofN
  have e1 : ((nd T m).parent == -1) = false := by rw [hp]; simp
  have e2 : ((nd T h).root == -1) = false := by rw [hro]; simp
  rw [e1, hp, Int.toNat_natCast, e2, hro, Int.toNat_natCast]; rfl
theorem filter_takeI {l : List Int} {k : Nat} (h : k < l.length) (p : Int → Bool) : (l.take (k + 1)).filter p = (l.take k).filter p ++ (if p (l.getD k 0) then [l.getD k 0] else []) := by
  rw [List.take_succ_eq_append_getElem h, List.filter_append, List.getD_eq_getElem?_getD, List.getElem?_eq_getElem h]
  congr 1
  simp only [Option.getD_some, List.filter_cons, List.filter_nil]
theorem isSlot_iff {T : List Nd} (hm : mayB T = true) {n : Nat} (hn : n < T.length) : isSlotB T n = ((nd T (topN T n)).kind == 3 && (nd T n).tag == 3) := by
  unfold isSlotB
  cases h : ((nd T n).tag == 3)
  · simp
  · have := tag_elem hm hn (by simpa using h)
    rw [this]; simp

end Go.Proofs.YtclhimodopgeoaaGreat
namespace Go.Proofs.YtclhimodopgeoaaGreat
open Go.RowKit

end Go.Proofs.YtclhimodopgeoaaGreat

namespace Go.Proofs.YtclhimodopgeoaaGreat
open Go.RowKit

end Go.Proofs.YtclhimodopgeoaaGreat
namespace Go.Proofs.YtclhimodopgeoaaGreat
open Go.RowKit

theorem place_mem {T : List Nd} {r : Nat} {k : Int} {s : Nat} (h : placeI T r k = (s : Int)) : s ∈ slotsN T r := by
  cases hman : manB T (r : Int)
  · rw [place_nam hman] at h
    unfold byNameI at h
    split at h
    · omega
    · rename_i hge
      have hlt : (indexI (namesI T r) (nameI T k)).toNat < (slotsN T r).length := by
        have : indexI (namesI T r) (nameI T k) < ((namesI T r).length : Int) := by
          unfold indexI at hge ⊢
          split <;> omega
        rw [namesI_len] at this
        omega
      rw [castL_getD _ hlt] at h
      have : (slotsN T r).getD (indexI (namesI T r) (nameI T k)).toNat 0 = s := by omega
      rw [← this]; exact getD_mem hlt
  · rw [place_man hman] at h
    unfold byNumI at h
    split at h
    · rename_i hc
      rw [Bool.and_eq_true] at hc
      rw [h] at hc
      have := hc.2
      rw [contains_castL] at this
      exact of_decide_eq_true this
    · omega
/-- Who lies in a slot, by the slot and by the kid. -/
theorem asg_iff {T : List Nd} (hm : mayB T = true) {n s : Nat} (hn : n < T.length) (hs : s < T.length) : (n : Int) ∈ asgI T (s : Int) ↔ ofN T n = (s : Int) := by
  constructor
  · intro h
    unfold asgI at h
    split at h
    · rename_i hc
      rw [Int.toNat_natCast] at h hc
      simp only [Bool.and_eq_true] at hc
      have hk : (nd T (topN T s)).kind = 3 := by simpa using hc.1.2
      have htl := top_lt hm hs
      obtain ⟨q, hql, hho, _, _⟩ := fine_host (mayB_fine hm) htl hk
      rw [hho, Int.toNat_natCast] at h
      unfold asgN at h
      obtain ⟨h1, h2⟩ := List.mem_filter.mp h
      obtain ⟨m, e, _, hof⟩ := of_kid hm htl hk hho hql h1
      have : n = m := by omega
      subst this
      rw [hof]; simpa using h2
    · simp at h
  · intro h
    unfold ofN at h
    split at h
    · omega
    · rename_i hp
      split at h
      · omega
      · rename_i hr
        have hp' : ((nd T n).parent == -1) = false := by simpa using hp
        have hr' : ((nd T (nd T n).parent.toNat).root == -1) = false := by simpa using hr
        rcases (mayB_fine hm).par n hn with e | ⟨p, hpl, e, hmem⟩
        · rw [e] at hp'; simp at hp'
        · rw [e, Int.toNat_natCast] at h hr'
          obtain ⟨r, hrr, hrl, hk, hho⟩ := root_facts (mayB_fine hm) hpl hr'
          rw [hrr, Int.toNat_natCast] at h
          have hsm := place_mem h
          obtain ⟨hsd, htag⟩ := List.mem_filter.mp hsm
          obtain ⟨_, hpar, _⟩ := (forest3 hm).d_segment hrl hsd
          have ht : topN T s = r := by rw [← top_eq hm hs hpar, top_shadow hm hrl hk]
          unfold asgI
          rw [known_of hm hs, Int.toNat_natCast, ht, hk, htag, hho, Int.toNat_natCast]
          show (n : Int) ∈ asgN T r p (s : Int)
          unfold asgN
          refine List.mem_filter.mpr ⟨hmem, ?_⟩
          rw [h]; simp
end Go.Proofs.YtclhimodopgeoaaGreat
namespace Go.Proofs.YtclhimodopgeoaaGreat
open Go.RowKit

end Go.Proofs.YtclhimodopgeoaaGreat
namespace Go.Proofs.YtclhimodopgeoaaGreat
open Go.RowKit

end Go.Proofs.YtclhimodopgeoaaGreat
namespace Go.Proofs.YtclhimodopgeoaaGreat
open Go.RowKit

end Go.Proofs.YtclhimodopgeoaaGreat
namespace Go.Proofs.YtclhimodopgeoaaGreat
open Go.RowKit

end Go.Proofs.YtclhimodopgeoaaGreat

namespace Go.Proofs.YtclhimodopgeoaaGreat
open Go.RowKit

end Go.Proofs.YtclhimodopgeoaaGreat
namespace Go.Proofs.YtclhimodopgeoaaGreat
open Go.RowKit

theorem slI_known {T : List Nd} (hm : mayB T = true) {n : Nat} (hn : n < T.length) : slI T (n : Int) = castL (sl T n) := by
  unfold slI; rw [known_of hm hn, if_pos rfl, Int.toNat_natCast]
theorem sl_short {T : List Nd} (m : Nat) (hm : mayB T = true) (h : m < T.length) : (sl T m).length ≤ 1000 := by
  have h1 := (forest4 hm).d_len h
  have h2 := mayB_pos hm
  omega
end Go.Proofs.YtclhimodopgeoaaGreat
namespace Go.Proofs.YtclhimodopgeoaaGreat
open Go.RowKit

theorem supN_le (T : List Nd) (n : Nat) : (supN T n).length ≤ T.length + 1 := by
  unfold supN; have := upsL_le T n; simp; omega
theorem aboveS_known {T : List Nd} (hm : mayB T = true) (a : Int) {b : Nat} (hb : b < T.length) : aboveS T a (b : Int) = containsB (castL (supN T b)) a := by
  unfold aboveS; rw [supI_known hm hb]

end Go.Proofs.YtclhimodopgeoaaGreat

