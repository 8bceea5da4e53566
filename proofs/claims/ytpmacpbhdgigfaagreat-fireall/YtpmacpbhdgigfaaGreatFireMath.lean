/- The calls of an event: pure part of layer 9. Calls as they lie in memory. Visits and calls, compared whole. -/
import Derived.Test.YtpmacpbhdgigfaaGreatFire2
import Derived.Test.YtpmacpbhdgigfaaGreatHear5
import Derived.Test.YtpmacpbhdgigfaaGreatHear7
import Derived.Test.YtpmacpbhdgigfaaGreatHearEq
namespace Go.Proofs.YtpmacpbhdgigfaaGreat
open Go.RowKit
open L8 (Hr hrD forL hearsP dropL cutL mayH hasB findL oneH)

/-- All calls: one by one, and who hears once goes. -/
inductive AllR (kind : Int) : List Hr → List Vi → Vi → List Hr → List (Hr × Vi) → Prop
  | done {l left cur wait} : nextL l kind left cur wait = none → AllR kind l left cur wait []
  | call {l left cur wait h v left' wait' out} : nextL l kind left cur wait = some (h, v, left', wait') → AllR kind (if h.once then dropL l h else l) left' v wait' out → AllR kind l left cur wait ((h, v) :: out)

theorem AllR.det {kind : Int} {l : List Hr} {left : List Vi} {cur : Vi} {wait : List Hr} {o1 o2 : List (Hr × Vi)} (h1 : AllR kind l left cur wait o1) (h2 : AllR kind l left cur wait o2) : o1 = o2 := by
  induction h1 generalizing o2 with
  | done e =>
    cases h2 with
    | done _ => rfl
    | call e2 _ => rw [e] at e2; cases e2
  | call e _ ih =>
    cases h2 with
    | done e2 => rw [e] at e2; cases e2
    | call e2 k =>
      rw [e] at e2
      cases e2
      rw [ih k]

theorem turnL_some {l : List Hr} : ∀ {wait : List Hr} {h : Hr} {r : List Hr}, turnL l wait = some (h, r) → ∃ pre, wait = pre ++ h :: r
  | [], h, r, e => by cases e
  | x :: wait, h, r, e => by
    unfold turnL at e
    split at e
    · cases e; exact ⟨[], rfl⟩
    · obtain ⟨pre, q⟩ := turnL_some e
      exact ⟨x :: pre, by rw [q]; rfl⟩
/-- Who is called is the next of those who wait; or of a later visit. -/
theorem nextL_some {l : List Hr} {kind : Int} {h : Hr} {v : Vi} {left' : List Vi} {wait' : List Hr} : ∀ {left : List Vi} {cur : Vi} {wait : List Hr}, nextL l kind left cur wait = some (h, v, left', wait') →
    (v = cur ∧ left' = left ∧ ∃ pre, wait = pre ++ h :: wait') ∨ ∃ skip, left = skip ++ v :: left' ∧ ∃ pre, forL l v.s.node kind v.cap = pre ++ h :: wait'
  | [], cur, wait, e => by
    unfold nextL at e
    cases ht : turnL l wait with
    | none => rw [ht] at e; cases e
    | some x =>
      obtain ⟨a, b⟩ := x
      rw [ht] at e
      cases e
      exact .inl ⟨rfl, rfl, turnL_some ht⟩
  | x :: left, cur, wait, e => by
    unfold nextL at e
    cases ht : turnL l wait with
    | none =>
      rw [ht] at e
      have e' : nextL l kind left x (forL l x.s.node kind x.cap) = some (h, v, left', wait') := e
      rcases nextL_some e' with ⟨rfl, rfl, pre, q⟩ | ⟨skip, q, r⟩
      · exact .inr ⟨[], rfl, pre, q⟩
      · exact .inr ⟨x :: skip, by rw [q]; rfl, r⟩
    | some y =>
      obtain ⟨a, b⟩ := y
      rw [ht] at e
      cases e
      exact .inl ⟨rfl, rfl, turnL_some ht⟩
/-- How much is to come, at most. -/
def todo (M : Nat) (left : List Vi) (wait : List Hr) : Nat := left.length * (M + 1) + wait.length
theorem todo_lt {l : List Hr} {kind : Int} {h : Hr} {v : Vi} {left left' : List Vi} {cur : Vi} {wait wait' : List Hr} {M : Nat} (hM : l.length ≤ M) (e : nextL l kind left cur wait = some (h, v, left', wait')) : todo M left' wait' < todo M left wait := by
  unfold todo
  rcases nextL_some e with ⟨_, rfl, pre, rfl⟩ | ⟨skip, rfl, pre, q⟩
  · simp only [List.length_append, List.length_cons]; omega
  · have h1 := forL_le l v.s.node kind v.cap
    rw [q] at h1
    simp only [List.length_append, List.length_cons] at h1 ⊢
    have h2 : (skip.length + (left'.length + 1)) * (M + 1) = skip.length * (M + 1) + left'.length * (M + 1) + (M + 1) := by rw [Nat.add_mul, Nat.succ_mul, Nat.add_assoc]
    omega
theorem wait_le {l : List Hr} {kind : Int} {h : Hr} {v : Vi} {left left' : List Vi} {cur : Vi} {wait wait' : List Hr} {M : Nat} (hM : l.length ≤ M) (hw : wait.length ≤ M) (e : nextL l kind left cur wait = some (h, v, left', wait')) : wait'.length ≤ M ∧ left'.length ≤ left.length := by
  rcases nextL_some e with ⟨_, rfl, pre, rfl⟩ | ⟨skip, rfl, pre, q⟩
  · simp only [List.length_append, List.length_cons] at hw; exact ⟨by omega, Nat.le_refl _⟩
  · have h1 := forL_le l v.s.node kind v.cap
    rw [q] at h1
    simp only [List.length_append, List.length_cons] at h1 ⊢
    exact ⟨by omega, by omega⟩
theorem dropL_le (l : List Hr) (h : Hr) : (dropL l h).length ≤ l.length := by
  unfold dropL
  split
  · unfold cutL
    simp only [List.length_append, List.length_take, List.length_drop]; omega
  · exact Nat.le_refl _
theorem cutL_sub (l : List Hr) (i : Nat) : (cutL l i).Sublist l := by
  unfold cutL
  have h := List.Sublist.append (List.Sublist.refl (l.take i)) (List.drop_sublist 1 (l.drop i))
  rw [List.drop_drop, List.take_append_drop] at h
  rwa [Nat.add_comm] at h ⊢ <;> skip
theorem dropL_sub (l : List Hr) (h : Hr) : (dropL l h).Sublist l := by
  unfold dropL
  split
  · exact cutL_sub l _
  · exact List.Sublist.refl l
def restL (l : List Hr) (h : Hr) : List Hr := if h.once then dropL l h else l
theorem restL_sub (l : List Hr) (h : Hr) : (restL l h).Sublist l := by
  unfold restL
  split
  · exact dropL_sub l h
  · exact List.Sublist.refl l
theorem forL_mem {l : List Hr} {n k : Int} {c : Bool} {h : Hr} : h ∈ forL l n k c ↔ h ∈ l ∧ h.node = n ∧ h.type = k ∧ h.cap = c := by
  unfold forL
  rw [List.mem_filter]
  simp [hearsP, and_assoc]
theorem forL_sub {l m : List Hr} (h : l.Sublist m) (n k : Int) (c : Bool) : (forL l n k c).Sublist (forL m n k c) := h.filter _

def keyV (v : Vi) : Int × Bool := (v.s.node, v.cap)
/-- Where a call comes from. -/
theorem AllR.mem {kind : Int} {l0 : List Hr} {l : List Hr} {left : List Vi} {cur : Vi} {wait : List Hr} {out : List (Hr × Vi)} (h : AllR kind l left cur wait out) (hl : l.Sublist l0) :
    ∀ x ∈ out, (x.2 = cur ∧ x.1 ∈ wait) ∨ (x.2 ∈ left ∧ x.1 ∈ forL l0 x.2.s.node kind x.2.cap) := by
  induction h with
  | done _ => intro x hx; cases hx
  | @call l left cur wait h v left' wait' out e _ ih =>
    have hs : (if h.once = true then dropL l h else l).Sublist l0 := (restL_sub l h).trans hl
    have ih := ih hs
    intro x hx
    rcases nextL_some e with ⟨rfl, rfl, pre, hw⟩ | ⟨skip, hlf, pre, hw⟩
    · rcases List.mem_cons.mp hx with rfl | hx
      · left; exact ⟨rfl, by rw [hw]; simp⟩
      · rcases ih x hx with ⟨h1, h2⟩ | h3
        · left; exact ⟨h1, by rw [hw]; simp [h2]⟩
        · exact .inr h3
    · have hv : ∀ y, y = h ∨ y ∈ wait' → y ∈ forL l0 v.s.node kind v.cap := fun y hy => (forL_sub hl _ _ _).subset (by rw [hw]; rcases hy with rfl | hy <;> simp [*])
      rcases List.mem_cons.mp hx with rfl | hx
      · right; exact ⟨by rw [hlf]; simp, hv _ (.inl rfl)⟩
      · rcases ih x hx with ⟨h1, h2⟩ | ⟨h3, h4⟩
        · right; rw [h1]; exact ⟨by rw [hlf]; simp, hv _ (.inr h2)⟩
        · right; exact ⟨by rw [hlf]; simp [h3], h4⟩
theorem nodup_mid {α : Type} {a b : List α} {x : α} (h : (a ++ x :: b).Nodup) : x ∉ b ∧ b.Nodup := by
  have h1 := (List.nodup_append.mp h).2.1
  exact List.nodup_cons.mp h1
/-- Of any two calls: not the same listener; of one visit as the listeners stand. -/
theorem AllR.pair {kind : Int} {l0 : List Hr} (hnd : l0.Nodup) {l : List Hr} {left : List Vi} {cur : Vi} {wait : List Hr} {out : List (Hr × Vi)} (h : AllR kind l left cur wait out) (hl : l.Sublist l0)
    (hw : wait.Sublist (forL l0 cur.s.node kind cur.cap)) (hk : (left.map keyV).Nodup) (hc : wait ≠ [] → keyV cur ∉ left.map keyV) :
    out.Pairwise (fun a b => a.1 ≠ b.1 ∧ (a.2 = b.2 → [a.1, b.1].Sublist l0)) := by
  induction h with
  | done _ => exact List.Pairwise.nil
  | @call l left cur wait h v left' wait' out e hr ih =>
    have hs : (if h.once = true then dropL l h else l).Sublist l0 := (restL_sub l h).trans hl
    have key : (h :: wait').Sublist (forL l0 v.s.node kind v.cap) ∧ (left'.map keyV).Nodup ∧ keyV v ∉ left'.map keyV := by
      rcases nextL_some e with ⟨rfl, rfl, pre, hq⟩ | ⟨skip, hlf, pre, hq⟩
      · refine ⟨(?_ : (h :: wait').Sublist wait).trans hw, hk, hc (by rw [hq]; simp)⟩
        rw [hq]; exact List.sublist_append_right _ _
      · rw [hlf, List.map_append, List.map_cons] at hk
        obtain ⟨h1, h2⟩ := nodup_mid hk
        refine ⟨(?_ : (h :: wait').Sublist (forL l v.s.node kind v.cap)).trans (forL_sub hl _ _ _), h2, h1⟩
        rw [hq]; exact List.sublist_append_right _ _
    obtain ⟨k1, k2, k3⟩ := key
    have k0 : (forL l0 v.s.node kind v.cap).Sublist l0 := List.filter_sublist
    refine List.pairwise_cons.mpr ⟨fun b hb => ?_, ih hs ((List.sublist_cons_self _ _).trans k1) k2 (fun _ => k3)⟩
    have hh := forL_mem.mp (k1.subset (List.mem_cons_self ..))
    rcases hr.mem hs b hb with ⟨e1, e2⟩ | ⟨e1, e2⟩
    · have hn : (h :: wait').Nodup := (k1.trans k0).nodup hnd
      refine ⟨fun q => (List.nodup_cons.mp hn).1 (by rw [show h = b.1 from q]; exact e2), fun _ => ?_⟩
      exact ((List.singleton_sublist.mpr e2).cons_cons h).trans (k1.trans k0)
    · have hb1 := forL_mem.mp e2
      refine ⟨fun q => k3 ?_, fun q => (k3 ?_).elim⟩
      · refine List.mem_map.mpr ⟨b.2, e1, ?_⟩
        have q' : h = b.1 := q
        unfold keyV
        rw [← hb1.2.1, ← hb1.2.2.2, ← q', hh.2.1, hh.2.2.2]
      · have q' : v = b.2 := q
        rw [q']; exact List.mem_map.mpr ⟨b.2, e1, rfl⟩

/-- Where a listener stands. -/
def plL (h : Hr) : List Hr → Nat
  | [] => 0
  | x :: l => if x = h then 0 else plL h l + 1
def plI (l : List Hr) (h : Hr) : Int := if plL h l < l.length then (plL h l : Int) else -1
theorem plL_mem {h : Hr} : ∀ {l : List Hr}, h ∈ l → plL h l < l.length
  | [], e => by cases e
  | x :: l, e => by
    unfold plL
    split
    · simp
    · rename_i hne
      rcases List.mem_cons.mp e with rfl | e
      · exact absurd rfl hne
      · have := plL_mem e
        simp; omega
theorem plI_mem {l : List Hr} {h : Hr} (e : h ∈ l) : plI l h = (plL h l : Int) := by unfold plI; rw [if_pos (plL_mem e)]
theorem plL_sub {a b : Hr} : ∀ {l : List Hr}, l.Nodup → [a, b].Sublist l → plL a l ≤ plL b l
  | [], _, e => by cases e
  | x :: l, hn, e => by
    obtain ⟨h1, h2⟩ := List.nodup_cons.mp hn
    cases e with
    | cons _ e =>
      have ha : x ≠ a := fun q => h1 (by rw [q]; exact e.subset (by simp))
      have hb : x ≠ b := fun q => h1 (by rw [q]; exact e.subset (by simp))
      simp only [plL, ha, hb, if_false]
      have := plL_sub h2 e
      omega
    | cons_cons _ e => simp [plL]

/-- Where nobody hears once. -/
theorem AllR.same {kind : Int} {l : List Hr} (ho : ∀ x ∈ l, x.once = false) {left : List Vi} {cur : Vi} {wait : List Hr} {h : Hr} {v : Vi} {out : List (Hr × Vi)} (hw : ∀ x ∈ wait, x ∈ l) (ha : AllR kind l left cur wait ((h, v) :: out)) :
    ∃ left' wait', nextL l kind left cur wait = some (h, v, left', wait') ∧ AllR kind l left' v wait' out ∧ ∀ x ∈ wait', x ∈ l := by
  cases ha with
  | @call _ _ _ _ _ _ left' wait' _ e k =>
    have hm : h ∈ l ∧ ∀ x ∈ wait', x ∈ l := by
      rcases nextL_some e with ⟨_, _, pre, hq⟩ | ⟨skip, _, pre, hq⟩
      · rw [hq] at hw
        exact ⟨hw h (by simp), fun x hx => hw x (by simp [hx])⟩
      · have hq2 : ∀ x, x ∈ h :: wait' → x ∈ l := fun x hx => (forL_mem.mp (show x ∈ forL l v.s.node kind v.cap by rw [hq]; exact List.mem_append_right _ hx)).1
        exact ⟨hq2 h (by simp), fun x hx => hq2 x (by simp [hx])⟩
    rw [ho h hm.1] at k
    exact ⟨left', wait', e, k, hm.2⟩
theorem visits_keys {p : List St} (hp : (p.map St.node).Nodup) (b : Bool) : ((visitsL p b).map keyV).Nodup := by
  have inj : ∀ c : Bool, ((p.map (vis c)).map keyV).Nodup := fun c => by
    rw [List.map_map]
    have := hp
    rw [List.Nodup, List.pairwise_map] at this ⊢
    refine this.imp ?_
    intro x y hxy e
    simp only [Function.comp, keyV, vis, Prod.mk.injEq] at e
    exact hxy e.1
  unfold visitsL
  rw [List.map_append, List.nodup_append]
  refine ⟨?_, ((List.filter_sublist (p := backP b) (l := p.map (vis false))).map keyV).nodup (inj false), ?_⟩
  · rw [List.map_reverse, List.map_reverse]
    exact (List.reverse_perm _).nodup_iff.mpr (inj true)
  · intro x hx y hy e
    obtain ⟨a, ha, rfl⟩ := List.mem_map.mp hx
    obtain ⟨s, _, rfl⟩ := List.mem_map.mp ha
    obtain ⟨b', hb, rfl⟩ := List.mem_map.mp hy
    obtain ⟨s', _, rfl⟩ := List.mem_map.mp (List.mem_filter.mp hb).1
    simp [keyV, vis] at e
end Go.Proofs.YtpmacpbhdgigfaaGreat
namespace Go.Proofs.YtpmacpbhdgigfaaGreat
open Go.RowKit
open L8 (Hr hrD HearAt HearsAt forL hearsP hearCells dropL)

abbrev Cl := Hr × Vi
def clD : Cl := (hrD, viD)
structure CallAt (w : World) (b o : Nat) (c : Cl) : Prop where
  c0 : w.cell? ⟨b, o, none⟩ = some (.int .i64 c.1.node)
  c1 : w.cell? ⟨b, o + 1, none⟩ = some (.int .i64 c.1.type)
  c2 : w.cell? ⟨b, o + 2, none⟩ = some (.bool c.1.cap)
  c3 : w.cell? ⟨b, o + 3, none⟩ = some (.bool c.1.once)
  c4 : w.cell? ⟨b, o + 4, none⟩ = some (.int .i64 c.1.prog)
  c5 : w.cell? ⟨b, o + 5, none⟩ = some (.int .i64 c.2.s.node)
  c6 : w.cell? ⟨b, o + 6, none⟩ = some (.int .i64 c.2.s.tg)
  c7 : w.cell? ⟨b, o + 7, none⟩ = some (.int .i64 c.2.s.rel)
  c8 : w.cell? ⟨b, o + 8, none⟩ = some (.int .i64 c.2.phase)
  c9 : w.cell? ⟨b, o + 9, none⟩ = some (.bool c.2.cap)
def CallsAt (w : World) (v : Value) (l : List Cl) : Prop :=
  ∃ a cap, v = .slice a l.length cap ∧ l.length ≤ cap ∧ (0 < l.length → ∃ b off, a = some ⟨b, off, none⟩ ∧ ∀ j, j < l.length → CallAt w b (off + j * 10) (l.getD j clD))
theorem CallAt.below {w w' : World} {b o : Nat} {h : Cl} (H : CallAt w b o h) (hb : Below w.heap.size w w') : CallAt w' b o h :=
  ⟨cell_below hb H.c0, cell_below hb H.c1, cell_below hb H.c2, cell_below hb H.c3, cell_below hb H.c4, cell_below hb H.c5, cell_below hb H.c6, cell_below hb H.c7, cell_below hb H.c8, cell_below hb H.c9⟩
theorem CallAt.turn {w w' : World} {b o d : Nat} {h : Cl} (H : CallAt w b o h) (ht : Turn d w w') (hne : b ≠ d) : CallAt w' b o h :=
  ⟨ht.cell H.c0 hne, ht.cell H.c1 hne, ht.cell H.c2 hne, ht.cell H.c3 hne, ht.cell H.c4 hne, ht.cell H.c5 hne, ht.cell H.c6 hne, ht.cell H.c7 hne, ht.cell H.c8 hne, ht.cell H.c9 hne⟩
theorem CallsAt.below {w w' : World} {v : Value} {l : List Cl} (h : CallsAt w v l) (hb : Below w.heap.size w w') : CallsAt w' v l := by
  obtain ⟨a, cap, rfl, hc⟩ := h
  refine ⟨a, cap, rfl, hc.1, fun h0 => ?_⟩
  obtain ⟨b, off, rfl, hd⟩ := hc.2 h0
  exact ⟨b, off, rfl, fun j hj => (hd j hj).below hb⟩
theorem CallsAt.shape {w : World} {v : Value} {l : List Cl} (h : CallsAt w v l) : ∃ a c, v = .slice a l.length c := let ⟨a, c, h, _⟩ := h; ⟨a, c, h⟩
def callCs (h : Cl) : List Value := [.int .i64 h.1.node, .int .i64 h.1.type, .bool h.1.cap, .bool h.1.once, .int .i64 h.1.prog, .int .i64 h.2.s.node, .int .i64 h.2.s.tg, .int .i64 h.2.s.rel, .int .i64 h.2.phase, .bool h.2.cap]
def callCells : List Cl → List Value
  | [] => []
  | h :: l => callCs h ++ callCells l
theorem callCells_length : ∀ l : List Cl, (callCells l).length = l.length * 10
  | [] => rfl
  | h :: l => by simp only [callCells, callCs, List.length_append, List.length_cons, List.length_nil, callCells_length l]; omega
theorem callCs_one (h : Cl) : ∀ u ∈ callCs h, u.oneCell' = true := by
  intro u hu
  simp only [callCs, List.mem_cons, List.not_mem_nil, or_false] at hu
  rcases hu with rfl | rfl | rfl | rfl | rfl | rfl | rfl | rfl | rfl | rfl <;> rfl
theorem callCells_one : ∀ l : List Cl, ∀ u ∈ callCells l, u.oneCell' = true
  | [], u, h => by simp [callCells] at h
  | h :: l, u, hu => by
    rcases List.mem_append.mp hu with hu | hu
    · exact callCs_one h u hu
    · exact callCells_one l u hu
theorem callCells_append : ∀ a b : List Cl, callCells (a ++ b) = callCells a ++ callCells b
  | [], b => by simp [callCells]
  | x :: a, b => by rw [List.cons_append, callCells, callCells, callCells_append a b, List.append_assoc]
theorem callCells_snoc (a : List Cl) (x : Cl) : callCells a ++ callCs x = callCells (a ++ [x]) := by rw [callCells_append]; simp [callCells]
theorem callCells_at : ∀ {l : List Cl} {j q : Nat}, j < l.length → q < 10 → (callCells l)[j * 10 + q]? = (callCs (l.getD j clD))[q]?
  | [], j, q, h, _ => by simp at h
  | x :: l, 0, q, _, hq => by
    rw [callCells, List.getElem?_append_left (by simp [callCs]; omega)]; simp
  | x :: l, j + 1, q, h, hq => by
    have hj : j < l.length := by simpa using h
    rw [callCells, List.getElem?_append_right (by simp [callCs]; omega), List.getD_cons_succ, ← callCells_at hj hq]
    congr 1; simp [callCs]; omega
theorem ownsRow_calls {w : World} {base : Nat} {t : TypeId} {v : Value} {l : List Cl} (h : w.ownsRow base t 10 v l.length (callCells l)) : CallsAt w v l := by
  rcases h.2 with ⟨rfl, h0⟩ | ⟨g, cap, cur, rfl, hb, hg, hn, hm, hs, ht⟩
  · exact ⟨none, 0, by rw [h0], by omega, fun h => by omega⟩
  · refine ⟨_, cap, rfl, hn, fun _ => ⟨g, 0, rfl, fun j hj => ?_⟩⟩
    rw [Nat.zero_add]
    have k := fun (q : Nat) (hq : q < 10) => (h.cellAt (j * 10 + q) (by omega)).trans (callCells_at hj hq)
    exact ⟨k 0 (by omega), k 1 (by omega), k 2 (by omega), k 3 (by omega), k 4 (by omega), k 5 (by omega), k 6 (by omega), k 7 (by omega), k 8 (by omega), k 9 (by omega)⟩
theorem holds_call {w : World} {b : Nat} {h : Cl} (H : CallAt w b 0 h) : Holds w (.slice (some ⟨b, 0, none⟩) 1 1) 1 (callCs h) := by
  refine .inl ⟨_, 1, rfl, fun j u hj => ?_⟩
  rw [addr_add, Nat.zero_add]
  have hlt : j < 10 := by have := (List.getElem?_eq_some_iff.1 hj).1; simpa [callCs] using this
  have hc : j = 0 ∨ j = 1 ∨ j = 2 ∨ j = 3 ∨ j = 4 ∨ j = 5 ∨ j = 6 ∨ j = 7 ∨ j = 8 ∨ j = 9 := by omega
  have e := hj
  rcases hc with rfl | rfl | rfl | rfl | rfl | rfl | rfl | rfl | rfl | rfl <;> simp only [callCs, List.getElem?_cons_zero, List.getElem?_cons_succ, Option.some.injEq] at e <;> subst e
  · exact H.c0
  · exact H.c1
  · exact H.c2
  · exact H.c3
  · exact H.c4
  · exact H.c5
  · exact H.c6
  · exact H.c7
  · exact H.c8
  · exact H.c9
theorem callAt_new (w : World) (t : TypeId) (h : Cl) : CallAt (w.alloc (.cells #[.int .i64 h.1.node, .int .i64 h.1.type, .bool h.1.cap, .bool h.1.once, .int .i64 h.1.prog, .int .i64 h.2.s.node, .int .i64 h.2.s.tg, .int .i64 h.2.s.rel, .int .i64 h.2.phase, .bool h.2.cap] t)) w.heap.size 0 h :=
  ⟨by simp, by simp, by simp, by simp, by simp, by simp, by simp, by simp, by simp, by simp⟩
theorem infoCl : (Tryz.prog.info? 41).map (fun i => (i.zero, i.size, i.bytes)) = some (some (.agg #[.int .i64 0, .int .i64 0, .bool false, .bool false, .int .i64 0, .int .i64 0, .int .i64 0, .int .i64 0, .int .i64 0, .bool false]), 10, 72) := by kernel_rfl
theorem ownsRow_turn {b : Nat} {w w' : World} {base : Nat} {e : TypeId} {size : Nat} {v : Value} {n : Nat} {xs : List Value} (h : w.ownsRow base e size v n xs) (ht : Turn b w w') (hb : b < base) : w'.ownsRow base e size v n xs := by
  refine ⟨h.1, ?_⟩
  rcases h.2 with h | ⟨g, cap, cur, rfl, k, hg, r⟩
  · exact .inl h
  · exact .inr ⟨g, cap, cur, rfl, k, by rw [ht.block g (Array.getElem?_eq_some_iff.1 hg).1 (by omega)]; exact hg, r⟩
end Go.Proofs.YtpmacpbhdgigfaaGreat
namespace Go.Proofs.YtpmacpbhdgigfaaGreat
open Go.RowKit

def eqV (a1 b1 c1 d1 : Int) (e1 : Bool) (a2 b2 c2 d2 : Int) (e2 : Bool) : Bool := a1 == a2 && (b1 == b2 && (c1 == c2 && (d1 == d2 && e1 == e2)))
set_option maxRecDepth 100000 in
set_option maxHeartbeats 4000000 in
theorem vi_eqB (a1 b1 c1 d1 : Int) (e1 : Bool) (a2 b2 c2 d2 : Int) (e2 : Bool) (w : World) : (binOp .eql 39 (.agg #[.int .i64 a1, .int .i64 b1, .int .i64 c1, .int .i64 d1, .bool e1]) (.agg #[.int .i64 a2, .int .i64 b2, .int .i64 c2, .int .i64 d2, .bool e2])).run Tryz.prog w = .ok (.bool (eqV a1 b1 c1 d1 e1 a2 b2 c2 d2 e2)) w := by
  rw [run_eql_struct, run_equalIn_agg (hp := by kernel_rfl) (ht := by kernel_rfl)]
  cases h1 : (a1 == a2) <;> cases h2 : (b1 == b2) <;> cases h3 : (c1 == c2) <;> cases h4 : (d1 == d2) <;> cases h5 : (e1 == e2) <;> simp [eqV, h1, h2, h3, h4, h5, go_sem, Op.eqFields, Tryz.underlying39, Tryz.underlying37, Tryz.underlying3, Tryz.underlying4, Program.fieldsOf]
theorem neq_of {t : TypeId} {u : Array Value} {w : World} (h : (binOp .eql t (.agg u) (.agg u)).run Tryz.prog w = .ok (.bool true) w) : (binOp .neq t (.agg u) (.agg u)).run Tryz.prog w = .ok (.bool false) w := by
  rw [run_eql_struct] at h
  rw [run_neq_struct]
  generalize (Op.equalIn 10000 t (.agg u) (.agg u)).run Tryz.prog w = r at *
  cases r with
  | ok b w' => simp [Result.andThen] at h ⊢; simp [h]
  | halt x w' => simp [Result.andThen] at h
set_option maxRecDepth 100000 in
set_option maxHeartbeats 4000000 in
theorem cl_eql (n t : Int) (c o : Bool) (p a b d f : Int) (e : Bool) (w : World) : (binOp .eql 41 (.agg #[.int .i64 n, .int .i64 t, .bool c, .bool o, .int .i64 p, .int .i64 a, .int .i64 b, .int .i64 d, .int .i64 f, .bool e]) (.agg #[.int .i64 n, .int .i64 t, .bool c, .bool o, .int .i64 p, .int .i64 a, .int .i64 b, .int .i64 d, .int .i64 f, .bool e])).run Tryz.prog w = .ok (.bool true) w := by
  rw [run_eql_struct, run_equalIn_agg (hp := by kernel_rfl) (ht := by kernel_rfl)]
  simp [go_sem, Op.eqFields, Tryz.underlying41, Tryz.underlying35, Tryz.underlying39, Tryz.underlying37, Tryz.underlying3, Tryz.underlying4, Program.fieldsOf]
theorem cl_neq (n t : Int) (c o : Bool) (p a b d f : Int) (e : Bool) (w : World) : (binOp .neq 41 (.agg #[.int .i64 n, .int .i64 t, .bool c, .bool o, .int .i64 p, .int .i64 a, .int .i64 b, .int .i64 d, .int .i64 f, .bool e]) (.agg #[.int .i64 n, .int .i64 t, .bool c, .bool o, .int .i64 p, .int .i64 a, .int .i64 b, .int .i64 d, .int .i64 f, .bool e])).run Tryz.prog w = .ok (.bool false) w := neq_of (cl_eql n t c o p a b d f e w)
end Go.Proofs.YtpmacpbhdgigfaaGreat
