/- One and Same of limelightref01: they say whether two trees are the same. -/
import Derived.Deep.RegionWith
import Derived.Test.YtoolkpjbbngdpaaSame1
namespace Go.Proofs.Ytoolkpjbbngdpaa
open Go.RowKit

theorem attrs_ext_getD {l m : List (Int × Int)} (hl : l.length = m.length) (h : ∀ j, j < l.length → l.getD j (0, 0) = m.getD j (0, 0)) : l = m := by
  apply List.ext_getElem hl
  intro j h1 h2
  have := h j h1
  simpa [List.getD_eq_getElem?_getD, List.getElem?_eq_getElem h1, List.getElem?_eq_getElem h2] using this

/-- The fields that One looks at before the lists. -/
def fieldsB (x y : Nd) : Bool := x.kind == y.kind && x.tag == y.tag && x.parent == y.parent && x.host == y.host && x.root == y.root

theorem nd_ext {x y : Nd} (hf : fieldsB x y = true) (hk : x.kids = y.kids) (ha : x.attrs = y.attrs) : x = y := by
  cases x; cases y
  simp only [fieldsB, Bool.and_eq_true, beq_iff_eq] at hf
  simp_all

set_option maxRecDepth 100000 in
set_option maxHeartbeats 2000000 in
theorem refOne_tail (x y : Nd) (kv av ku au : Value) (w : World) (hk : IntsAt w kv x.kids) (ha : AttrsAt w av x.attrs) (hk' : IntsAt w ku y.kids) (ha' : AttrsAt w au y.attrs)
    (hl : x.kids.length ≤ 1000000) (hl' : x.attrs.length ≤ 1000000) (hf : fieldsB x y = true) (hlen : x.attrs.length = y.attrs.length) :
    Calls Try.prog 36 #[.agg #[.int .i64 x.kind, .int .i64 x.tag, .int .i64 x.parent, kv, .int .i64 x.host, .int .i64 x.root, av],
      .agg #[.int .i64 y.kind, .int .i64 y.tag, .int .i64 y.parent, ku, .int .i64 y.host, .int .i64 y.root, au]] w fun e w' => e = .returned (.bool (decide (x = y))) ∧ Below w.heap.size w w' := by
  have HX : Hid (∀ c, (c = true ↔ x.kids = y.kids ∧ x.attrs = y.attrs) → c = decide (x = y)) := fun c hc => by
    rw [Bool.eq_iff_iff, hc, decide_eq_true_eq]
    exact ⟨fun h => nd_ext hf h.1 h.2, fun h => by rw [h]; exact ⟨rfl, rfl⟩⟩
  obtain ⟨a, cap, rfl, hc⟩ := ha
  obtain ⟨a', cap', rfl, hc'⟩ := ha'
  have HK := hk
  have HK' := hk'
  clear hk hk'
  simp only [fieldsB, Bool.and_eq_true, beq_iff_eq] at hf
  obtain ⟨⟨⟨⟨f1, f2⟩, f3⟩, f4⟩, f5⟩ := hf
  generalize x.kind = k1 at *
  generalize x.tag = k2 at *
  generalize x.parent = k3 at *
  generalize x.host = k4 at *
  generalize x.root = k5 at *
  subst f1 f2 f3 f4 f5
  generalize hxa : x.attrs = l at *
  generalize hya : y.attrs = m at *
  generalize hxk : x.kids = kl at *
  generalize hyk : y.kids = km at *
  clear hxa hya hxk hyk
  generalize (decide (x = y)) = ans at *
  have HC : Hid (0 < l.length → ∃ b off, a = some ⟨b, off, none⟩ ∧ ∀ j, j < l.length → w.cell? ⟨b, off + j * 2, none⟩ = some (.int .i64 (l.getD j (0, 0)).1) ∧ w.cell? ⟨b, off + j * 2 + 1, none⟩ = some (.int .i64 (l.getD j (0, 0)).2)) := hc
  have HC' : Hid (0 < m.length → ∃ b off, a' = some ⟨b, off, none⟩ ∧ ∀ j, j < m.length → w.cell? ⟨b, off + j * 2, none⟩ = some (.int .i64 (m.getD j (0, 0)).1) ∧ w.cell? ⟨b, off + j * 2 + 1, none⟩ = some (.int .i64 (m.getD j (0, 0)).2)) := hc'
  clear hc hc'
  have HI : Hid (∀ w', Below w.heap.size w w' → Calls Try.prog 46 #[kv, ku] w' fun e w'' => e = .returned (.bool (decide (kl = km))) ∧ Below w'.heap.size w' w'') := fun w' hb => refInts_any kl km kv ku w' (HK.below hb) (HK'.below hb) hl
  obtain ⟨ka, kc, rfl, _⟩ := HK
  obtain ⟨ka', kc', rfl, _⟩ := HK'
  have HL : Hid (l.length = m.length) := hlen
  have hne : ((l.length : Int) != (m.length : Int)) = false := by simp [hlen]
  clear hlen
  go_enter Try.func36, Try.ntmps36
  go_wp2_with fail
  go_loopw [5] (fun i wr => ∃ k : Nat, k ≤ l.length ∧ i = .int .i64 k ∧ Below w.heap.size w wr ∧ w.heap.size + 1 < wr.heap.size ∧
      wr.cell? ⟨w.heap.size, 6, none⟩ = some (.slice a l.length cap) ∧ wr.cell? ⟨w.heap.size + 1, 6, none⟩ = some (.slice a' m.length cap') ∧
      wr.cell? ⟨w.heap.size, 3, none⟩ = some (.slice ka kl.length kc) ∧ wr.cell? ⟨w.heap.size + 1, 3, none⟩ = some (.slice ka' km.length kc') ∧ (∀ j, j < k → l.getD j (0, 0) = m.getD j (0, 0))) (fun i _ => l.length - (intOf i).toNat)
  case atStart =>
    refine ⟨0, Nat.zero_le _, rfl, ((Below.refl _ w).alloc (Nat.le_refl _) _).alloc (by simp) _, by simp, ?_, by simp, ?_, by simp, fun j h => by omega⟩
    · rw [World.cell?_alloc_past _ _ _ (by simp)]; simp
    · rw [World.cell?_alloc_past _ _ _ (by simp)]; simp
  case round =>
    obtain ⟨k, hk, rfl, hB, hz, b1, b2, b3, b4, hEq⟩ := hrel
    have HE : Hid (∀ j, j < k → l.getD j (0, 0) = m.getD j (0, 0)) := hEq
    clear hEq
    by_cases hlt : k < l.length
    · obtain ⟨b, off, rfl, hd⟩ := HC.out (by omega)
      obtain ⟨b', off', rfl, hd'⟩ := HC'.out (by have := HL.out; omega)
      obtain ⟨c1, c2⟩ := hd k hlt
      have hlt' : k < m.length := by have := HL.out; omega
      obtain ⟨c3, c4⟩ := hd' k hlt'
      replace c1 := cell_below hB c1
      replace c2 := cell_below hB c2
      replace c3 := cell_below hB c3
      replace c4 := cell_below hB c4
      clear hd hd'
      generalize hA1 : l.getD k (0, 0) = x1 at c1 c2
      generalize hA2 : m.getD k (0, 0) = x2 at c3 c4
      obtain ⟨p1, q1⟩ := x1
      obtain ⟨p2, q2⟩ := x2
      have HA1 : Hid (l.getD k (0, 0) = (p1, q1)) := hA1
      have HA2 : Hid (m.getD k (0, 0) = (p2, q2)) := hA2
      dsimp only at c1 c2 c3 c4
      clear hA1 hA2
      have hmiss : (p1, q1) ≠ (p2, q2) → false = ans := fun hne' => HX.out false ⟨(fun h => absurd h (by decide)), (fun h => absurd (by rw [← HA1.out, h.2, HA2.out]) hne')⟩
      have HM : Hid ((p1, q1) ≠ (p2, q2) → false = ans) := hmiss
      clear hmiss
      cases h1 : (p1 == p2) <;> cases h2 : (q1 == q2)
      · go_wp2_with fail
        go_quiet (fail)
        go_wp2_with fail
        go_ret
        exact ⟨ret_bool (HM.out (fun h => by simp only [Prod.mk.injEq] at h; simp [h.1] at h1)), below_drewN hB _⟩
      · go_wp2_with fail
        go_quiet (fail)
        go_wp2_with fail
        go_ret
        exact ⟨ret_bool (HM.out (fun h => by simp only [Prod.mk.injEq] at h; simp [h.1] at h1)), below_drewN hB _⟩
      · go_wp2_with fail
        go_quiet (fail)
        go_wp2_with fail
        go_ret
        exact ⟨ret_bool (HM.out (fun h => by simp only [Prod.mk.injEq] at h; simp [h.2] at h2)), below_drewN hB _⟩
      · go_wp2_with fail
        go_quiet (fail)
        go_wp2_with fail
        go_roundw
        case rel =>
          refine ⟨k + 1, by omega, by go_num, below_drewN hB _, hz, b1, b2, b3, b4, fun j hj => ?_⟩
          by_cases h : j = k
          · subst h; rw [HA1.out, HA2.out]; simp only [beq_iff_eq] at h1 h2; rw [h1, h2]
          · exact HE.out j (by omega)
        case measure => simp [intOf]; omega
    · have HX' : Hid (∀ c, (c = true ↔ kl = km) → c = ans) := fun c hc => HX.out c (by rw [hc]; exact ⟨fun h => ⟨h, attrs_ext_getD HL.out (fun j hj => HE.out j (by omega))⟩, fun h => h.1⟩)
      go_wp2_with (go_at_call 46; refine (HI.out _ hB).mono ?_; rintro e w1 ⟨rfl, hb1⟩)
      go_ret
      exact ⟨ret_bool (HX'.out _ (by simp)), hB.trans (hb1.mono hB.size)⟩

set_option maxRecDepth 100000 in
set_option maxHeartbeats 2000000 in
theorem refOne_any (x y : Nd) (kv av ku au : Value) (w : World) (hk : IntsAt w kv x.kids) (ha : AttrsAt w av x.attrs) (hk' : IntsAt w ku y.kids) (ha' : AttrsAt w au y.attrs)
    (hl : x.kids.length ≤ 1000000) (hl' : x.attrs.length ≤ 1000000) :
    Calls Try.prog 36 #[.agg #[.int .i64 x.kind, .int .i64 x.tag, .int .i64 x.parent, kv, .int .i64 x.host, .int .i64 x.root, av],
      .agg #[.int .i64 y.kind, .int .i64 y.tag, .int .i64 y.parent, ku, .int .i64 y.host, .int .i64 y.root, au]] w fun e w' => e = .returned (.bool (decide (x = y))) ∧ Below w.heap.size w w' := by
  by_cases hf : fieldsB x y = true
  · by_cases hlen : x.attrs.length = y.attrs.length
    · exact refOne_tail x y kv av ku au w hk ha hk' ha' hl hl' hf hlen
    · have hans : decide (x = y) = false := decide_eq_false (fun h => hlen (by rw [h]))
      obtain ⟨a, cap, rfl, _⟩ := ha
      obtain ⟨a', cap', rfl, _⟩ := ha'
      simp only [fieldsB, Bool.and_eq_true, beq_iff_eq] at hf
      obtain ⟨⟨⟨⟨f1, f2⟩, f3⟩, f4⟩, f5⟩ := hf
      have hB : ∀ o o', Below w.heap.size w ((w.alloc o).alloc o') := fun o o' => ((Below.refl _ w).alloc (Nat.le_refl _) _).alloc (by simp) _
      have hne : ((x.attrs.length : Int) != (y.attrs.length : Int)) = true := by simp; omega
      rw [hans, f1, f2, f3, f4, f5]
      clear hk hk' hans f1 f2 f3 f4 f5
      go_enter Try.func36, Try.ntmps36
      go_wp2_with fail
      go_ret
      exact ⟨rfl, hB _ _⟩
  · have hans : decide (x = y) = false := decide_eq_false (fun h => hf (by rw [h]; simp [fieldsB]))
    obtain ⟨a, cap, rfl, _⟩ := ha
    obtain ⟨a', cap', rfl, _⟩ := ha'
    have hB : ∀ o o', Below w.heap.size w ((w.alloc o).alloc o') := fun o o' => ((Below.refl _ w).alloc (Nat.le_refl _) _).alloc (by simp) _
    rw [hans]
    have hf' : fieldsB x y = false := by simpa using hf
    rw [fieldsB] at hf'
    clear hk hk' hans hf
    cases h1 : (x.kind == y.kind)
    · have h1' : (x.kind != y.kind) = true := by rw [bne, h1]; rfl
      go_enter Try.func36, Try.ntmps36
      go_wp2_with fail
      go_ret
      exact ⟨rfl, hB _ _⟩
    · have h1' : (x.kind != y.kind) = false := by rw [bne, h1]; rfl
      cases h2 : (x.tag == y.tag)
      · have h2' : (x.tag != y.tag) = true := by rw [bne, h2]; rfl
        go_enter Try.func36, Try.ntmps36
        go_wp2_with fail
        go_ret
        exact ⟨rfl, hB _ _⟩
      · have h2' : (x.tag != y.tag) = false := by rw [bne, h2]; rfl
        cases h3 : (x.parent == y.parent)
        · have h3' : (x.parent != y.parent) = true := by rw [bne, h3]; rfl
          go_enter Try.func36, Try.ntmps36
          go_wp2_with fail
          go_ret
          exact ⟨rfl, hB _ _⟩
        · have h3' : (x.parent != y.parent) = false := by rw [bne, h3]; rfl
          cases h4 : (x.host == y.host)
          · have h4' : (x.host != y.host) = true := by rw [bne, h4]; rfl
            go_enter Try.func36, Try.ntmps36
            go_wp2_with fail
            go_ret
            exact ⟨rfl, hB _ _⟩
          · have h4' : (x.host != y.host) = false := by rw [bne, h4]; rfl
            have h5 : (x.root == y.root) = false := by simpa [h1, h2, h3, h4] using hf'
            have h5' : (x.root != y.root) = true := by rw [bne, h5]; rfl
            go_enter Try.func36, Try.ntmps36
            go_wp2_with fail
            go_ret
            exact ⟨rfl, hB _ _⟩

theorem below_drew {B : Nat} {a w : World} (h : Below B a w) : Below B a w.drew := h.trans ⟨rfl, rfl, rfl, Nat.le_refl _, fun _ _ => rfl⟩

theorem tree_ext {T U : List Nd} (hl : T.length = U.length) (h : ∀ j, j < T.length → nd T j = nd U j) : T = U := by
  apply List.ext_getElem hl
  intro j h1 h2
  have := h j h1
  simpa [nd, List.getD_eq_getElem?_getD, List.getElem?_eq_getElem h1, List.getElem?_eq_getElem h2] using this

set_option maxRecDepth 100000 in
set_option maxHeartbeats 2000000 in
theorem refSame_any (T U : List Nd) (hS : Sane T) (v u : Value) (w : World) (hT : TreeAt w v T) (hU : TreeAt w u U) (h6 : T.length ≤ 1000000) :
    Calls Try.prog 25 #[v, u] w fun e w' => e = .returned (.bool (decide (T = U))) ∧ Below w.heap.size w w' := by
  have HT : Hid (TreeAt w v T) := hT
  have HU : Hid (TreeAt w u U) := hU
  have HS : Hid (Sane T) := hS
  obtain ⟨a, cap, rfl, _⟩ := hT
  obtain ⟨a', cap', rfl, _⟩ := hU
  clear hS
  by_cases hlen : T.length = U.length
  · have hne : ((T.length : Int) != (U.length : Int)) = false := by simp [hlen]
    have HL : Hid (T.length = U.length) := hlen
    clear hlen
    go_enter Try.func25, Try.ntmps25
    go_wp2_with fail
    go_loopw [5] (fun i wr => ∃ k : Nat, k ≤ T.length ∧ i = .int .i64 k ∧ Below w.heap.size w wr ∧ (∀ j, j < k → nd T j = nd U j)) (fun i _ => T.length - (intOf i).toNat)
    case atStart => exact ⟨0, Nat.zero_le _, rfl, Below.refl _ _, fun j h => by omega⟩
    case round =>
      obtain ⟨k, hk, rfl, hB, hEq⟩ := hrel
      have HE : Hid (∀ j, j < k → nd T j = nd U j) := hEq
      clear hEq
      by_cases hlt : k < T.length
      · have hlt' : k < U.length := by have := HL.out; omega
        obtain ⟨b, off, cap2, hv, hc⟩ := HT.out.at (by omega)
        obtain ⟨rfl, rfl⟩ : a = some ⟨b, off, none⟩ ∧ cap = cap2 := by simpa using hv
        obtain ⟨b', off', cap3, hv', hc'⟩ := HU.out.at (by omega)
        obtain ⟨rfl, rfl⟩ : a' = some ⟨b', off', none⟩ ∧ cap' = cap3 := by simpa using hv'
        obtain ⟨kv, av, hN⟩ := hc k hlt
        obtain ⟨ku, au, hM⟩ := hc' k hlt'
        replace hN := hN.below hB
        replace hM := hM.below hB
        have HO : Hid (∀ w2, Below wr.heap.size wr w2 → Calls Try.prog 36 #[.agg #[.int .i64 (nd T k).kind, .int .i64 (nd T k).tag, .int .i64 (nd T k).parent, kv, .int .i64 (nd T k).host, .int .i64 (nd T k).root, av],
          .agg #[.int .i64 (nd U k).kind, .int .i64 (nd U k).tag, .int .i64 (nd U k).parent, ku, .int .i64 (nd U k).host, .int .i64 (nd U k).root, au]] w2 fun e w' => e = .returned (.bool (decide (nd T k = nd U k))) ∧ Below wr.heap.size wr w') := fun w2 h2 => by
          refine (refOne_any _ _ _ _ _ _ _ (hN.kids.below h2) (hN.attrs.below h2) (hM.kids.below h2) (hM.attrs.below h2) (HS.out k hlt).1 (HS.out k hlt).2).mono ?_
          rintro e w' ⟨rfl, hb⟩
          exact ⟨rfl, h2.trans (hb.mono h2.size)⟩
        obtain ⟨n0, n1, n2, n3, n4, n5, n6, _, _⟩ := hN
        obtain ⟨m0, m1, m2, m3, m4, m5, m6, _, _⟩ := hM
        clear hc hc' hv hv'
        cases hx : decide (nd T k = nd U k)
        · go_wp2_with fail
          go_region_with (go_at_call 36; refine (HO.out _ (below_drew (Below.refl _ _))).mono ?_; rintro e w1 ⟨rfl, hb1⟩)
          all_goals
            go_wp2_with fail
            go_ret
            exact ⟨ret_bool (Eq.symm (decide_eq_false (fun h => by rw [h] at hx; simp at hx))), hB.trans (hb1.mono hB.size)⟩
        · go_wp2_with fail
          go_region_with (go_at_call 36; refine (HO.out _ (below_drew (Below.refl _ _))).mono ?_; rintro e w1 ⟨rfl, hb1⟩)
          all_goals
            go_wp2_with fail
            go_roundw
            case rel =>
              refine ⟨k + 1, by omega, by go_num, hB.trans (hb1.mono hB.size), fun j hj => ?_⟩
              by_cases h : j = k
              · subst h; simpa using hx
              · exact HE.out j (by omega)
            case measure => simp [intOf]; omega
      · go_wp2_with fail
        go_ret
        exact ⟨ret_bool (Eq.symm (decide_eq_true (tree_ext HL.out (fun j hj => HE.out j (by omega))))), hB⟩
  · have hne : ((T.length : Int) != (U.length : Int)) = true := by simp; omega
    go_enter Try.func25, Try.ntmps25
    go_wp2_with fail
    go_ret
    exact ⟨ret_bool (Eq.symm (decide_eq_false (fun h => hlen (by rw [h])))), Below.refl _ _⟩
end Go.Proofs.Ytoolkpjbbngdpaa
