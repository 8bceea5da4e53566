/- fire.turn. -/
import Derived.Test.YtpmacpbhdgigfaaGreatFire1
import Derived.Test.YtpmacpbhdgigfaaGreatAim2
namespace Go.Proofs.YtpmacpbhdgigfaaGreat
open Go.RowKit
open L8 (Hr hrD HearAt HearsAt forL hearsP hearCells)

/-- One block may have turned; what is new is new. -/
structure Turn (b : Nat) (w w' : World) : Prop where
  os : w'.os = w.os
  tape : w'.tape = w.tape
  output : w'.output = w.output
  size : w.heap.size ≤ w'.heap.size
  block : ∀ k, k < w.heap.size → k ≠ b → w'.heap[k]? = w.heap[k]?
  frz : ∀ j, b < w.heap.size → w'.frozen? ⟨b, j, none⟩ = w.frozen? ⟨b, j, none⟩
theorem Turn.of_below {b : Nat} {w w' : World} (h : Below w.heap.size w w') : Turn b w w' := ⟨h.os, h.tape, h.output, h.size, fun k hk _ => h.block k hk, fun _ hb => h.frozen hb⟩
theorem Turn.trans {b : Nat} {u v w : World} (h : Turn b u v) (k : Turn b v w) : Turn b u w :=
  ⟨k.os.trans h.os, k.tape.trans h.tape, k.output.trans h.output, Nat.le_trans h.size k.size, fun j hj hb => (k.block j (Nat.lt_of_lt_of_le hj h.size) hb).trans (h.block j hj hb), fun j hb => (k.frz j (Nat.lt_of_lt_of_le hb h.size)).trans (h.frz j hb)⟩
theorem Turn.setCell {b : Nat} {w w' : World} (h : Turn b w w') (o : Nat) (u : Value) : Turn b w (w'.setCell ⟨b, o, none⟩ u) :=
  ⟨h.os, h.tape, h.output, by simpa using h.size, fun k hk hb => (heap_setCell_other w' ⟨b, o, none⟩ k u (fun e => hb e)).trans (h.block k hk hb), fun j hb => by rw [World.frozen?_setCell]; exact h.frz j hb⟩
theorem Turn.alloc {b : Nat} {w w' : World} (h : Turn b w w') (o : Obj) : Turn b w (w'.alloc o) := h.trans (Turn.of_below ((Below.refl _ w').alloc (Nat.le_refl _) o))
theorem Turn.refl (b : Nat) (w : World) : Turn b w w := Turn.of_below (Below.refl _ _)
theorem Turn.below {b : Nat} {w0 w w' : World} (hb : Below w0.heap.size w0 w) (h : Turn b w w') (h0 : w0.heap.size ≤ b) : Below w0.heap.size w0 w' :=
  hb.trans ⟨h.os, h.tape, h.output, h.size, fun k hk => h.block k (Nat.lt_of_lt_of_le hk hb.size) (by omega)⟩
theorem Turn.cell {b : Nat} {w w' : World} (h : Turn b w w') {c o : Nat} {u : Value} (hc : w.cell? ⟨c, o, none⟩ = some u) (hne : c ≠ b) : w'.cell? ⟨c, o, none⟩ = some u :=
  (World.cell?_of_block (a := ⟨c, o, none⟩) (h.block c (below_of_cell hc) hne)).trans hc

/-- A list that lies in another block. -/
def Off (b : Nat) (v : Value) : Prop := ∀ c o n k, v = .slice (some ⟨c, o, none⟩) n k → 0 < n → c ≠ b
theorem Off.slice {b c o n k : Nat} (h : c ≠ b) : Off b (.slice (some ⟨c, o, none⟩) n k) := by
  intro c' o' n' k' e _
  cases e
  exact h
theorem Off.nil {b n k : Nat} : Off b (.slice none n k) := by
  intro c' o' n' k' e
  cases e
theorem Off.own {w : World} {base b : Nat} {t : TypeId} {s : Nat} {v : Value} {n : Nat} {xs : List Value} (h : w.ownsRow base t s v n xs) (hb : b < base) : Off b v := by
  intro c o n' k e _
  subst e
  have := (h.lt c rfl).1
  omega
theorem Off.hears {w : World} {v : Value} {l : List Hr} {d : Nat} (h : HearsAt w v l) (hd : w.heap.size ≤ d) : Off d v := by
  intro c o n k e hn
  obtain ⟨a, cap, rfl, h1, h2⟩ := h
  injection e with e1 e2 e3
  subst e1
  obtain ⟨b', o', q, hx⟩ := h2 (by omega)
  cases q
  have := below_of_cell (hx 0 (by omega)).node
  simp only at this
  omega
theorem Off.vis {w : World} {v : Value} {l : List Vi} {d : Nat} (h : VisAt w v l) (hd : w.heap.size ≤ d) : Off d v := by
  intro c o n k e hn
  obtain ⟨a, cap, rfl, h1, h2⟩ := h
  injection e with e1 e2 e3
  subst e1
  obtain ⟨b', o', q, hx⟩ := h2 (by omega)
  cases q
  have := below_of_cell (hx 0 (by omega)).node
  simp only at this
  omega
theorem Turn.cellAny {b : Nat} {w w' : World} (h : Turn b w w') {a : Addr} {u : Value} (hc : w.cell? a = some u) (hne : a.block ≠ b) : w'.cell? a = some u :=
  (World.cell?_of_block (h.block a.block (below_of_cell hc) hne)).trans hc
theorem HearsAt_turn {b : Nat} {w w' : World} {v : Value} {l : List Hr} (h : HearsAt w v l) (ht : Turn b w w') (hne : Off b v) : HearsAt w' v l := by
  obtain ⟨a, cap, rfl, hd⟩ := h
  refine ⟨a, cap, rfl, hd.1, fun h0 => ?_⟩
  obtain ⟨c, o, rfl, hx⟩ := hd.2 h0
  have hc := hne c o _ _ rfl h0
  exact ⟨c, o, rfl, fun j hj => ⟨ht.cell (hx j hj).node hc, ht.cell (hx j hj).type hc, ht.cell (hx j hj).cap hc, ht.cell (hx j hj).once hc, ht.cell (hx j hj).prog hc⟩⟩
theorem ViAt_turn {b : Nat} {w w' : World} {c o : Nat} {x : Vi} (h : ViAt w c o x) (ht : Turn b w w') (hc : c ≠ b) : ViAt w' c o x :=
  ⟨ht.cell h.node hc, ht.cell h.tg hc, ht.cell h.rel hc, ht.cell h.phase hc, ht.cell h.cap hc⟩
theorem VisAt_turn {b : Nat} {w w' : World} {v : Value} {l : List Vi} (h : VisAt w v l) (ht : Turn b w w') (hne : Off b v) : VisAt w' v l := by
  obtain ⟨a, cap, rfl, hd⟩ := h
  refine ⟨a, cap, rfl, hd.1, fun h0 => ?_⟩
  obtain ⟨c, o, rfl, hx⟩ := hd.2 h0
  have hc := hne c o _ _ rfl h0
  exact ⟨c, o, rfl, fun j hj => ViAt_turn (hx j hj) ht hc⟩
def OffD (D : Nat → Prop) (v : Value) : Prop := ∀ d, D d → Off d v
/-- A run that may go on: its cells can be written, its lists lie elsewhere. -/
def RunOk (w : World) (b : Nat) (D : Nat → Prop) (r : Rn) : Prop := ∃ lv wv, RunAt w b r lv wv ∧ (∀ j, j < 10 → w.frozen? ⟨b, j, none⟩ = false) ∧ (Off b lv ∧ Off b wv) ∧ OffD D lv ∧ OffD D wv
theorem RunAt.below {w w' : World} {b : Nat} {r : Rn} {lv wv : Value} (h : RunAt w b r lv wv) (hb : Below w.heap.size w w') : RunAt w' b r lv wv :=
  ⟨cell_below hb h.kind, cell_below hb h.can, cell_below hb h.done, cell_below hb h.left, h.cur.below hb, cell_below hb h.wait, h.lefts.below hb, h.waits.below hb⟩
theorem RunOk.below {w w' : World} {b : Nat} {D : Nat → Prop} {r : Rn} (h : RunOk w b D r) (hb : Below w.heap.size w w') : RunOk w' b D r := by
  obtain ⟨lv, wv, hr, hf, h1⟩ := h
  have hl : b < w.heap.size := below_of_cell hr.kind
  exact ⟨lv, wv, hr.below hb, fun j hj => (hb.frozen (p := ⟨b, j, none⟩) hl).trans (hf j hj), h1⟩
theorem RunOk.lt {w : World} {b : Nat} {D : Nat → Prop} {r : Rn} (h : RunOk w b D r) : b < w.heap.size := by
  obtain ⟨lv, wv, hr, _⟩ := h
  exact below_of_cell hr.kind
theorem RunOk.fresh {w : World} {b : Nat} {D D' : Nat → Prop} {r : Rn} (h : RunOk w b D r) (hd : ∀ d, D' d → D d ∨ w.heap.size ≤ d) : RunOk w b D' r := by
  obtain ⟨lv, wv, hr, hf, h1, h2, h3⟩ := h
  refine ⟨lv, wv, hr, hf, h1, fun d k => ?_, fun d k => ?_⟩
  · rcases hd d k with k | k
    · exact h2 d k
    · exact Off.vis hr.lefts k
  · rcases hd d k with k | k
    · exact h3 d k
    · exact Off.hears hr.waits k
theorem RunOk.sub {w : World} {b : Nat} {D D' : Nat → Prop} {r : Rn} (h : RunOk w b D r) (hd : ∀ d, D' d → D d) : RunOk w b D' r := h.fresh (fun d k => .inl (hd d k))
/-- Another block may turn. -/
theorem RunOk.turn {w w' : World} {b d : Nat} {D : Nat → Prop} {r : Rn} (h : RunOk w b D r) (ht : Turn d w w') (hd : D d) (hne : b ≠ d) : RunOk w' b D r := by
  obtain ⟨lv, wv, hr, hf, h1, h2, h3⟩ := h
  have hl : b < w.heap.size := below_of_cell hr.kind
  refine ⟨lv, wv, ⟨ht.cell hr.kind hne, ht.cell hr.can hne, ht.cell hr.done hne, ht.cell hr.left hne, ViAt_turn hr.cur ht hne, ht.cell hr.wait hne, VisAt_turn hr.lefts ht (h2 d hd), HearsAt_turn hr.waits ht (h3 d hd)⟩, fun j hj => ?_, h1, h2, h3⟩
  have e := ht.block b hl hne
  unfold World.frozen? at hf ⊢
  simp only [e]
  exact hf j hj
theorem set_other {w : World} {b i j : Nat} {u v : Value} (c : w.cell? ⟨b, i, none⟩ = some u) (h : j ≠ i) : (w.setCell ⟨b, j, none⟩ v).cell? ⟨b, i, none⟩ = some u := (World.cell?_setCell_other _ _ _ _ (ne_off h)).trans c
theorem set_same {w : World} {b i : Nat} {u v : Value} (c : w.cell? ⟨b, i, none⟩ = some u) : (w.setCell ⟨b, i, none⟩ v).cell? ⟨b, i, none⟩ = some v := World.cell?_setCell_same _ _ _ c

set_option maxRecDepth 100000 in
set_option maxHeartbeats 2000000 in
theorem turnNone_any (w : World) (b : Nat) (D : Nat → Prop) (r : Rn) (h : RunOk w b D r) (he : r.wait = []) :
    Calls Tryz.prog 126 #[.pointer (some ⟨b, 0, none⟩)] w fun x w' => x = .returned (.tuple #[.agg #[.int .i64 0, .int .i64 0, .bool false, .bool false, .int .i64 0], .bool false]) ∧ Below w.heap.size w w' := by
  obtain ⟨lv, wv, h, _⟩ := h
  obtain ⟨wa, wc, hwv⟩ := h.waits.shape
  subst hwv
  rw [he] at h
  have c9 := h.wait
  have hbl : b < w.heap.size := below_of_cell c9
  clear h
  go_enter Tryz.func126, Tryz.ntmps126
  go_wp2_with fail
  refine bodyPost_ret (v := .tuple #[.agg #[.int .i64 0, .int .i64 0, .bool false, .bool false, .int .i64 0], .bool false]) (by simp [results, Tryz.results126, go_sem]) rfl ⟨rfl, (Below.refl _ w).alloc (Nat.le_refl _) _⟩
set_option maxRecDepth 100000 in
set_option maxHeartbeats 2000000 in
theorem turnSome_any (w : World) (b : Nat) (D : Nat → Prop) (r : Rn) (h : RunOk w b D r) (x : Hr) (rest : List Hr) (he : r.wait = x :: rest) (hl : r.wait.length ≤ 100000) :
    Calls Tryz.prog 126 #[.pointer (some ⟨b, 0, none⟩)] w fun e w' => e = .returned (.tuple #[.agg #[.int .i64 x.node, .int .i64 x.type, .bool x.cap, .bool x.once, .int .i64 x.prog], .bool true]) ∧ RunOk w' b D { r with wait := rest } ∧ Turn b w w' := by
  obtain ⟨lv, wv, h, hfr, ⟨hol, how⟩, hdl, hdw⟩ := h
  have HR := hideG h
  have HOL := hideG hol
  have HDL := hideG hdl
  have HF := hideG hfr
  obtain ⟨a, c, hwv, hcap, hd⟩ := h.waits
  subst hwv
  have hlen : r.wait.length = rest.length + 1 := by rw [he]; simp
  obtain ⟨bb, off, rfl, hd'⟩ := hd (by omega)
  have hbn := how bb off _ _ rfl (by omega)
  have HDN := hideG (show ∀ d, D d → bb ≠ d from fun d hd => hdw d hd bb off _ _ rfl (by omega))
  have hH := hd' 0 (by omega)
  have e0 : r.wait.getD 0 hrD = x := by rw [he]; rfl
  rw [e0] at hH
  have g0 := hH.node
  have g1 := hH.type
  have g2 := hH.cap
  have g3 := hH.once
  have g4 := hH.prog
  simp only [Nat.zero_mul, Nat.add_zero] at g0 g1 g2 g3 g4
  have c9 := h.wait
  rw [hlen] at c9
  have hbl : b < w.heap.size := below_of_cell c9
  have hbb : bb < w.heap.size := below_of_cell g0
  have hf := hfr 9 (by omega)
  have HD := hideG hd'
  have HE := hideG he
  have HBN := hideG hbn
  have hc1 : 1 ≤ c := by omega
  have HFIN := hideG (show ∀ wv', HearsAt w wv' rest → Off b wv' → OffD D wv' → ∀ o1 o2, RunOk (((w.setCell ⟨b, 9, none⟩ wv').alloc o1).alloc o2) b D { r with wait := rest } ∧ Turn b w (((w.setCell ⟨b, 9, none⟩ wv').alloc o1).alloc o2) from by
    intro wv' hw hoff hoffd o1 o2
    have ht : Turn b w (((w.setCell ⟨b, 9, none⟩ wv').alloc o1).alloc o2) := (((Turn.refl b w).setCell 9 _).alloc _).alloc _
    have hk := HR.out
    have q := fun (j : Nat) (u : Value) (hj : 9 ≠ j) (hc : w.cell? ⟨b, j, none⟩ = some u) => cell_alloc_l o2 (cell_alloc_l o1 (set_other (v := wv') hc hj))
    refine ⟨⟨lv, wv', ⟨q 0 _ (by omega) hk.kind, q 1 _ (by omega) hk.can, q 2 _ (by omega) hk.done, q 3 _ (by omega) hk.left, ⟨q 4 _ (by omega) hk.cur.node, q 5 _ (by omega) hk.cur.tg, q 6 _ (by omega) hk.cur.rel, q 7 _ (by omega) hk.cur.phase, q 8 _ (by omega) hk.cur.cap⟩, cell_alloc_l _ (cell_alloc_l _ (World.cell?_setCell_same _ _ _ hk.wait)), VisAt_turn hk.lefts ht HOL.out, HearsAt_turn hw ht hoff⟩, fun j hj => (ht.frz j (below_of_cell hk.kind)).trans (HF.out j hj), ⟨HOL.out, hoff⟩, HDL.out, hoffd⟩, ht⟩)
  clear h hd hd' hH e0 he hol how hfr hbn hdl hdw HR HOL HF HDL
  go_enter Tryz.func126, Tryz.ntmps126
  go_wp2_with fail
  · have h2 := HFIN.out (.slice (some ⟨bb, off, none⟩) rest.length 0) ⟨_, _, rfl, by omega, fun h0 => by omega⟩ (Off.slice HBN.out) (fun d hd => Off.slice (HDN.out d hd))
    refine bodyPost_ret (v := .tuple #[.agg #[.int .i64 x.node, .int .i64 x.type, .bool x.cap, .bool x.once, .int .i64 x.prog], .bool true]) (by simp [results, Tryz.results126, go_sem]) rfl ⟨rfl, h2 _ _⟩
  · have h2 := HFIN.out (.slice (some ⟨bb, off + 5, none⟩) rest.length (c - 1)) ⟨_, _, rfl, by omega, fun h0 => ⟨bb, off + 5, rfl, fun j hj => by
      have h7 := HD.out (j + 1) (by omega)
      rw [HE.out, List.getD_cons_succ, show off + (j + 1) * 5 = off + 5 + j * 5 by omega] at h7
      exact h7⟩⟩ (Off.slice HBN.out) (fun d hd => Off.slice (HDN.out d hd))
    refine bodyPost_ret (v := .tuple #[.agg #[.int .i64 x.node, .int .i64 x.type, .bool x.cap, .bool x.once, .int .i64 x.prog], .bool true]) (by simp [results, Tryz.results126, go_sem]) rfl ⟨rfl, h2 _ _⟩
end Go.Proofs.YtpmacpbhdgigfaaGreat
