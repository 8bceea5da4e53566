/- The way of an event and its visits: pure part of layer 7. -/
import Derived.Test.YtpmacpbhdgigfaaGreatAimMath
namespace Go.Proofs.YtpmacpbhdgigfaaGreat
open Go.RowKit

structure St where
  node : Int
  tg : Int
  rel : Int
  deriving Inhabited, DecidableEq
structure Vi where
  s : St
  phase : Int
  cap : Bool
  deriving Inhabited, DecidableEq
def stD : St := ⟨0, 0, 0⟩
def viD : Vi := ⟨⟨0, 0, 0⟩, 0, false⟩

/-- What a node is told. -/
def stopT (T : List Nd) (e : Ev) (n : Nat) : St := ⟨n, retI T e.target n, retI T e.related n⟩
def oneS (e : Ev) (s : St) : Bool := s.tg == s.rel && !(e.target == e.related)
def pathA (T : List Nd) (e : Ev) (n : Nat) : List St := ((upA T e.target.toNat e.comp n).map (stopT T e)).takeWhile (fun s => !oneS e s)
def pathI (T : List Nd) (e : Ev) : List St := if knownB T [e.target] then pathA T e e.target.toNat else []

theorem upA_cases {T : List Nd} (hm : mayB T = true) (tg : Nat) (comp : Bool) {n : Nat} (hn : n < T.length) :
    (parA T tg comp n = -1 ∧ upA T tg comp n = [n]) ∨ ∃ m : Nat, m < T.length ∧ parA T tg comp n = (m : Int) ∧ rkF T m < rkF T n ∧ upA T tg comp n = n :: upA T tg comp m := by
  rcases parA_cases hm tg comp hn with h | ⟨m, hml, h, hr⟩
  · exact .inl ⟨h, upA_none hn h⟩
  · exact .inr ⟨m, hml, h, hr, (upA_some hm hn h).2.1⟩
theorem pathA_stop {T : List Nd} (hm : mayB T = true) {e : Ev} {n : Nat} (hn : n < T.length) (h : oneS e (stopT T e n) = true) : pathA T e n = [] := by
  unfold pathA
  rcases upA_cases hm e.target.toNat e.comp hn with ⟨_, hu⟩ | ⟨m, _, _, _, hu⟩ <;> rw [hu] <;> simp [h]
theorem pathA_none {T : List Nd} {e : Ev} {n : Nat} (hn : n < T.length) (h : oneS e (stopT T e n) = false) (hp : parA T e.target.toNat e.comp n = -1) : pathA T e n = [stopT T e n] := by
  unfold pathA
  rw [upA_none hn hp]; simp [List.takeWhile, h]
theorem pathA_some {T : List Nd} (hm : mayB T = true) {e : Ev} {n m : Nat} (hn : n < T.length) (h : oneS e (stopT T e n) = false) (hp : parA T e.target.toNat e.comp n = (m : Int)) : m < T.length ∧ pathA T e n = stopT T e n :: pathA T e m ∧ rkF T m < rkF T n := by
  obtain ⟨h1, h2, h3⟩ := upA_some hm hn hp
  refine ⟨h1, ?_, h3⟩
  unfold pathA
  rw [h2]; simp [h]
theorem upA_len {T : List Nd} (hm : mayB T = true) (tg : Nat) (comp : Bool) : ∀ {n : Nat}, n < T.length → (upA T tg comp n).length ≤ rkF T n + 1 := by
  intro n hn
  generalize hk : rkF T n = k
  induction k using Nat.strongRecOn generalizing n with
  | _ k ih =>
    rcases upA_cases hm tg comp hn with ⟨_, hu⟩ | ⟨m, hml, _, hr, hu⟩
    · rw [hu]; simp
    · rw [hu, List.length_cons]
      have := ih (rkF T m) (by omega) hml rfl
      omega
theorem upA_le {T : List Nd} (hm : mayB T = true) (tg : Nat) (comp : Bool) {n : Nat} (hn : n < T.length) : (upA T tg comp n).length ≤ T.length := by
  have h1 := upA_len hm tg comp hn
  have h2 : rkF T n < T.length := (forest4 hm).posU_lt hn
  omega
theorem takeWhile_len {α : Type} (p : α → Bool) (l : List α) : (l.takeWhile p).length ≤ l.length := (List.takeWhile_prefix p).length_le
theorem pathA_le {T : List Nd} (hm : mayB T = true) (e : Ev) {n : Nat} (hn : n < T.length) : (pathA T e n).length ≤ T.length := by
  have h1 := upA_le hm e.target.toNat e.comp hn
  have h2 := takeWhile_len (fun s => !oneS e s) ((upA T e.target.toNat e.comp n).map (stopT T e))
  rw [List.length_map] at h2
  unfold pathA; omega
theorem pathI_le {T : List Nd} (e : Ev) : (pathI T e).length ≤ 64 := by
  unfold pathI
  cases h : knownB T [e.target]
  · simp
  · obtain ⟨hm, m, h1, h2⟩ := known_one h
    rw [h1, Int.toNat_natCast]
    have h3 := pathA_le hm e h2
    have h4 := (mayB_fine hm).le
    simp; omega
/-- All on the way are nodes, further and further up. -/
theorem upA_mem {T : List Nd} (hm : mayB T = true) (tg : Nat) (comp : Bool) : ∀ {n : Nat}, n < T.length → ∀ x ∈ upA T tg comp n, x < T.length ∧ rkF T x ≤ rkF T n := by
  intro n hn
  generalize hk : rkF T n = k
  induction k using Nat.strongRecOn generalizing n with
  | _ k ih =>
    intro x hx
    rcases upA_cases hm tg comp hn with ⟨_, hu⟩ | ⟨m, hml, _, hr, hu⟩
    · rw [hu] at hx
      have : x = n := by simpa using hx
      subst this; exact ⟨hn, by omega⟩
    · rw [hu] at hx
      rcases List.mem_cons.mp hx with rfl | hx
      · exact ⟨hn, by omega⟩
      · have := ih (rkF T m) (by omega) hml rfl x hx
        exact ⟨this.1, by omega⟩
theorem upA_nodup {T : List Nd} (hm : mayB T = true) (tg : Nat) (comp : Bool) : ∀ {n : Nat}, n < T.length → (upA T tg comp n).Nodup := by
  intro n hn
  generalize hk : rkF T n = k
  induction k using Nat.strongRecOn generalizing n with
  | _ k ih =>
    rcases upA_cases hm tg comp hn with ⟨_, hu⟩ | ⟨m, hml, _, hr, hu⟩
    · rw [hu]; simp
    · rw [hu, List.nodup_cons]
      refine ⟨fun hx => ?_, ih (rkF T m) (by omega) hml rfl⟩
      have := (upA_mem hm tg comp hml n hx).2
      omega
theorem mem_tw {α : Type} {p : α → Bool} {x : α} : ∀ {l : List α}, x ∈ l.takeWhile p → p x = true
  | [], h => by simp at h
  | y :: l, h => by
    cases hy : p y
    · simp [List.takeWhile, hy] at h
    · simp only [List.takeWhile, hy, List.mem_cons] at h
      rcases h with rfl | h
      · exact hy
      · exact mem_tw h
theorem pathA_mem {T : List Nd} (hm : mayB T = true) (e : Ev) {n : Nat} (hn : n < T.length) {s : St} (hs : s ∈ pathA T e n) : ∃ x : Nat, x < T.length ∧ x ∈ upA T e.target.toNat e.comp n ∧ s = stopT T e x ∧ oneS e s = false := by
  have h1 : s ∈ (upA T e.target.toNat e.comp n).map (stopT T e) := (List.takeWhile_prefix _).subset hs
  obtain ⟨x, hx, rfl⟩ := List.mem_map.mp h1
  have h2 := mem_tw hs
  exact ⟨x, (upA_mem hm _ _ hn x hx).1, hx, rfl, by simpa using h2⟩
theorem pathA_nodup {T : List Nd} (hm : mayB T = true) (e : Ev) {n : Nat} (hn : n < T.length) : ((pathA T e n).map St.node).Nodup := by
  have h0 : ((pathA T e n).map St.node).Sublist (((upA T e.target.toNat e.comp n).map (stopT T e)).map St.node) := ((List.takeWhile_prefix _).sublist).map _
  refine h0.nodup ?_
  rw [List.map_map]
  refine (List.pairwise_map.mpr ?_)
  refine (upA_nodup hm e.target.toNat e.comp hn).imp ?_
  intro a b hab h
  simp only [Function.comp, stopT] at h
  exact hab (by omega)

/-- A visit. -/
def vis (c : Bool) (s : St) : Vi := ⟨s, if s.node == s.tg then 2 else if c then 1 else 3, c⟩
def backP (b : Bool) (v : Vi) : Bool := b || v.phase == 2
def visitsL (p : List St) (b : Bool) : List Vi := p.reverse.map (vis true) ++ (p.map (vis false)).filter (backP b)
theorem visitsL_le (p : List St) (b : Bool) : (visitsL p b).length ≤ 2 * p.length := by
  unfold visitsL
  have := List.length_filter_le (backP b) (p.map (vis false))
  simp only [List.length_append, List.length_map, List.length_reverse] at this ⊢
  omega
theorem visitsL_bub (p : List St) : visitsL p true = p.reverse.map (vis true) ++ p.map (vis false) := by
  unfold visitsL
  congr 1
  exact List.filter_eq_self.mpr (fun _ _ => rfl)

/-- An event that is not Composed goes a part of the way. -/
theorem parA_plain {T : List Nd} {tg n : Nat} (h : ((nd T (topN T tg)).kind == 3) = false) : parA T tg false n = parA T tg true n := by
  unfold parA
  cases h1 : (ofN T n == -1)
  · simp
  · cases h2 : ((nd T n).kind == 3)
    · simp
    · have h3 : (n == topN T tg) = false := by
        cases h3 : (n == topN T tg)
        · rfl
        · have : n = topN T tg := by simpa using h3
          rw [← this, h2] at h; cases h
      simp [h3]
theorem parA_comp {T : List Nd} {tg n : Nat} : parA T tg false n = -1 ∨ parA T tg false n = parA T tg true n := by
  unfold parA
  cases h1 : (ofN T n == -1)
  · right; simp
  · cases h2 : ((nd T n).kind == 3)
    · right; simp
    · cases h3 : (n == topN T tg)
      · right; simp
      · left; simp
theorem upA_prefix {T : List Nd} (hm : mayB T = true) (tg : Nat) : ∀ {n : Nat}, n < T.length → upA T tg false n <+: upA T tg true n := by
  intro n hn
  generalize hk : rkF T n = k
  induction k using Nat.strongRecOn generalizing n with
  | _ k ih =>
    rcases upA_cases hm tg false hn with ⟨_, hu⟩ | ⟨m, hml, hp, hr, hu⟩
    · rw [hu]
      rcases upA_cases hm tg true hn with ⟨_, hv⟩ | ⟨m, _, _, _, hv⟩
      · rw [hv]; exact List.prefix_rfl
      · rw [hv]; exact ⟨_, rfl⟩
    · have h2 : parA T tg true n = (m : Int) := by
        rcases parA_comp (T := T) (tg := tg) (n := n) with h | h
        · omega
        · rw [← h, hp]
      rw [hu, (upA_some hm hn h2).2.1]
      exact (List.prefix_cons_inj n).mpr (ih (rkF T m) (by omega) hml rfl)
theorem upA_plain {T : List Nd} {tg : Nat} (h : ((nd T (topN T tg)).kind == 3) = false) (n : Nat) : upA T tg false n = upA T tg true n := by
  unfold upA
  have : parA T tg false = parA T tg true := funext fun n => parA_plain h
  rw [this]
theorem takeWhile_pre {α : Type} (p : α → Bool) : ∀ {a b : List α}, a <+: b → a.takeWhile p <+: b.takeWhile p
  | [], _, _ => by simp
  | x :: a, b, h => by
    obtain ⟨r, rfl⟩ := h
    rw [List.cons_append]
    cases hx : p x
    · simp [List.takeWhile, hx]
    · simp only [List.takeWhile, hx]
      exact (List.prefix_cons_inj x).mpr (takeWhile_pre p ⟨r, rfl⟩)
theorem pathA_prefix {T : List Nd} (hm : mayB T = true) (e : Ev) {n : Nat} (hn : n < T.length) : pathA T { e with comp := false } n <+: pathA T { e with comp := true } n := by
  unfold pathA
  refine takeWhile_pre _ ?_
  obtain ⟨r, hr⟩ := upA_prefix hm e.target.toNat hn
  refine ⟨r.map (stopT T e), ?_⟩
  show (upA T e.target.toNat false n).map (stopT T e) ++ r.map (stopT T e) = (upA T e.target.toNat true n).map (stopT T e)
  rw [← List.map_append, hr]
theorem pathA_plain {T : List Nd} {e : Ev} (h : ((nd T (topN T e.target.toNat)).kind == 3) = false) (n : Nat) : pathA T { e with comp := false } n = pathA T { e with comp := true } n := by
  unfold pathA
  show ((upA T e.target.toNat false n).map (stopT T e)).takeWhile _ = ((upA T e.target.toNat true n).map (stopT T e)).takeWhile _
  rw [upA_plain h n]; rfl
/-- All on the way lie in the shadow of the target. -/
theorem upA_inside {T : List Nd} (hm : mayB T = true) {tg : Nat} (hk3 : (nd T (topN T tg)).kind = 3) : ∀ {n : Nat}, n < T.length → topN T tg ∈ supN T n → ∀ x ∈ upA T tg false n, topN T tg ∈ supN T x := by
  intro n hn
  have hF := mayB_fine hm
  generalize hk : rkF T n = k
  induction k using Nat.strongRecOn generalizing n with
  | _ k ih =>
    intro ht x hx
    rcases upA_cases hm tg false hn with ⟨_, hu⟩ | ⟨m, hml, hp, hr, hu⟩
    · rw [hu] at hx
      have : x = n := by simpa using hx
      subst this; exact ht
    · rw [hu] at hx
      rcases List.mem_cons.mp hx with rfl | hx
      · exact ht
      · refine ih (rkF T m) (by omega) hml rfl ?_ x hx
        have step : ∀ q : Nat, overI (nd T n) = (q : Int) → topN T tg ≠ n → topN T tg ∈ supN T q := by
          intro q hq hne
          have hu := upsL_some hm hn hq
          unfold supN at ht
          rw [hu.1] at ht
          rcases List.mem_cons.mp ht with h | h
          · exact absurd h hne
          · exact h
        rcases ofN_cases hm hn with ho | ⟨s, p, r, hs, hsl, hpl, hrl, hpp, hmem, hrr, hkr, hho, hsd, htag⟩
        · cases hkn : ((nd T n).kind == 3)
          · have e1 : (nd T n).parent = (m : Int) := by
              have : parA T tg false n = (nd T n).parent := by unfold parA; rw [ho, hkn]; rfl
              rw [← this, hp]
            exact step m (over_of_parent hF hn e1) (fun e => by rw [e] at hk3; rw [hk3] at hkn; simp at hkn)
          · cases hnt : (n == topN T tg)
            · have e1 : (nd T n).host = (m : Int) := by
                have : parA T tg false n = (nd T n).host := by unfold parA; rw [ho, hkn, hnt]; rfl
                rw [← this, hp]
              have hkn3 : (nd T n).kind = 3 := by simpa using hkn
              exact step m (show overI (nd T n) = (m : Int) by unfold overI; rw [hkn3]; exact e1) (fun e => by rw [e] at hnt; simp at hnt)
            · have : parA T tg false n = -1 := by unfold parA; rw [ho, hkn, hnt]; rfl
              omega
        · have hsm : s = m := by
            have hsn : ((s : Int) == -1) = false := by simp
            have : parA T tg false n = (s : Int) := by unfold parA; rw [hs, hsn]; rfl
            omega
          subst hsm
          have hpk : topN T tg ≠ n := fun e => by
            rw [e] at hk3
            have hx := hF.kid p hpl _ hmem
            unfold kidFine at hx
            simp [hk3, canBeKidB] at hx
          have h1 := step p (over_of_parent hF hn hpp) hpk
          have hrs : r ∈ supN T s := by
            have hx1 : s ∈ sl T r := by
              refine ((forest4 hm).mem_d hrl hsl).mpr ?_
              obtain ⟨_, hpar, _⟩ := (forest3 hm).d_segment hrl hsd
              exact pars_sup hm hsl hpar
            exact ((forest4 hm).mem_d hrl hsl).mp hx1
          have hpr : p ∈ supN T r := by
            have hu := upsL_some hm hrl (show overI (nd T r) = (p : Int) by unfold overI; rw [hkr]; exact hho)
            unfold supN; rw [hu.1]; simp
          exact sup_trans hm hsl h1 (sup_trans hm hsl hpr hrs)
/-- What a node is told of lies in no shadow that does not hold it. -/
def hidB (T : List Nd) (n m : Nat) : Bool := (nd T (topN T n)).kind == 3 && !aboveS T (topN T n : Int) (m : Int)
theorem ret_hid {T : List Nd} (hm : mayB T = true) {a b : Nat} (ha : a < T.length) (_ : b < T.length) : hidB T (ret T (supI T b) a) b = false := by
  obtain ⟨_, _, h3, _⟩ := ret_facts hm (supI T (b : Int)) ha
  unfold hidB aboveS
  cases h : ((nd T (topN T (ret T (supI T (b : Int)) a))).kind == 3)
  · rfl
  · rw [bne, h] at h3
    simp only [Bool.not_true, Bool.false_or] at h3
    rw [h3]; rfl
theorem stop_tg {T : List Nd} (hm : mayB T = true) {e : Ev} {tg x : Nat} (he : e.target = (tg : Int)) (ht : tg < T.length) (hx : x < T.length) : (stopT T e x).tg = (ret T (supI T x) tg : Int) ∧ ret T (supI T x) tg < T.length := by
  refine ⟨?_, (ret_facts hm _ ht).1⟩
  unfold stopT
  rw [he]; exact retI_known hm ht hx
theorem stop_rel {T : List Nd} (hm : mayB T = true) {e : Ev} {x : Nat} (hx : x < T.length) : (stopT T e x).rel = -1 ∨ ∃ r y : Nat, e.related = (r : Int) ∧ r < T.length ∧ y < T.length ∧ (stopT T e x).rel = (y : Int) ∧ y = ret T (supI T x) r := by
  cases h : knownB T [e.related]
  · left; unfold stopT retI; simp [h]
  · obtain ⟨_, r, hr, hrl⟩ := known_one h
    refine .inr ⟨r, _, hr, hrl, (ret_facts hm (supI T (x : Int)) hrl).1, ?_, rfl⟩
    unfold stopT
    rw [hr]; exact retI_known hm hrl hx
end Go.Proofs.YtpmacpbhdgigfaaGreat
