/- Listeners as they lie in memory; the small functions of package listen, and of the document's own. -/
import Derived.Test.YtpmacpbhdgigfaaGreatHearEq
namespace Go.Proofs.YtpmacpbhdgigfaaGreat.L8
open Go.RowKit

structure Hr where
  node : Int
  type : Int
  cap : Bool
  once : Bool
  prog : Int
  deriving Inhabited, DecidableEq

def hrD : Hr := ⟨0, 0, false, false, 0⟩
/-- The five cells of a listener. -/
structure HearAt (w : World) (b o : Nat) (h : Hr) : Prop where
  node : w.cell? ⟨b, o, none⟩ = some (.int .i64 h.node)
  type : w.cell? ⟨b, o + 1, none⟩ = some (.int .i64 h.type)
  cap : w.cell? ⟨b, o + 2, none⟩ = some (.bool h.cap)
  once : w.cell? ⟨b, o + 3, none⟩ = some (.bool h.once)
  prog : w.cell? ⟨b, o + 4, none⟩ = some (.int .i64 h.prog)
/-- Listeners behind a slice. -/
def HearsAt (w : World) (v : Value) (l : List Hr) : Prop :=
  ∃ a cap, v = .slice a l.length cap ∧ l.length ≤ cap ∧ (0 < l.length → ∃ b off, a = some ⟨b, off, none⟩ ∧ ∀ j, j < l.length → HearAt w b (off + j * 5) (l.getD j hrD))
theorem HearAt.below {w w' : World} {b o : Nat} {h : Hr} (H : HearAt w b o h) (hb : Below w.heap.size w w') : HearAt w' b o h :=
  ⟨cell_below hb H.node, cell_below hb H.type, cell_below hb H.cap, cell_below hb H.once, cell_below hb H.prog⟩
theorem HearsAt.below {w w' : World} {v : Value} {l : List Hr} (h : HearsAt w v l) (hb : Below w.heap.size w w') : HearsAt w' v l := by
  obtain ⟨a, cap, rfl, hc⟩ := h
  refine ⟨a, cap, rfl, hc.1, fun h0 => ?_⟩
  obtain ⟨b, off, rfl, hd⟩ := hc.2 h0
  exact ⟨b, off, rfl, fun j hj => (hd j hj).below hb⟩
theorem HearsAt.shape {w : World} {v : Value} {l : List Hr} (h : HearsAt w v l) : ∃ a c, v = .slice a l.length c := let ⟨a, c, h, _⟩ := h; ⟨a, c, h⟩

def belowB (n e : Int) : Bool := decide (0 ≤ n) && decide (n < e)
def mayH (h : Hr) : Bool := belowB h.node 64 && belowB h.type 9 && belowB h.prog 64
/-- Are two one? -/
def oneH (a b : Hr) : Bool := a.node == b.node && a.type == b.type && a.cap == b.cap && a.prog == b.prog

set_option maxHeartbeats 400000 in
theorem isBelow_any (n e : Int) (w : World) :
    Calls Tryz.prog 171 #[.int .i64 n, .int .i64 e] w fun x w' => x = .returned (.bool (belowB n e)) ∧ w' = w := by
  cases h : decide (0 ≤ n)
  all_goals
    go_enter Tryz.func171, Tryz.ntmps171
    go_wp2
    go_ret
    exact ⟨ret_bool (by simp only [belowB, h, Bool.false_and, Bool.true_and]), rfl⟩

set_option maxRecDepth 100000 in
set_option maxHeartbeats 1000000 in
theorem mayBe_any (h : Hr) (w : World) :
    Calls Tryz.prog 128 #[.agg #[.int .i64 h.node, .int .i64 h.type, .bool h.cap, .bool h.once, .int .i64 h.prog]] w fun x w' => x = .returned (.bool (mayH h)) ∧ Below w.heap.size w w' := by
  cases h1 : belowB h.node 64
  · have HQ := hideG (show mayH h = false by simp [mayH, h1])
    go_enter Tryz.func128, Tryz.ntmps128
    go_wp2_with (go_at_call 171; refine (isBelow_any _ _ _).mono ?_; rintro e w1 ⟨rfl, hw⟩; subst hw)
    go_ret
    exact ⟨ret_bool HQ.out.symm, (Below.refl _ w).alloc (Nat.le_refl _) _⟩
  · cases h2 : belowB h.type 9
    · have HQ := hideG (show mayH h = false by simp [mayH, h2])
      go_enter Tryz.func128, Tryz.ntmps128
      go_wp2_with (go_at_call 171; refine (isBelow_any _ _ _).mono ?_; rintro e w1 ⟨rfl, hw⟩; subst hw)
      go_ret
      exact ⟨ret_bool HQ.out.symm, (Below.refl _ w).alloc (Nat.le_refl _) _⟩
    · have HQ := hideG (show mayH h = belowB h.prog 64 by simp [mayH, h1, h2])
      go_enter Tryz.func128, Tryz.ntmps128
      go_wp2_with (go_at_call 171; refine (isBelow_any _ _ _).mono ?_; rintro e w1 ⟨rfl, hw⟩; subst hw)
      go_ret
      exact ⟨ret_bool HQ.out.symm, (Below.refl _ w).alloc (Nat.le_refl _) _⟩

set_option maxRecDepth 100000 in
set_option maxHeartbeats 1000000 in
theorem without_any (h : Hr) (w : World) :
    Calls Tryz.prog 172 #[.agg #[.int .i64 h.node, .int .i64 h.type, .bool h.cap, .bool h.once, .int .i64 h.prog]] w fun x w' => x = .returned (.agg #[.int .i64 h.node, .int .i64 h.type, .bool h.cap, .bool false, .int .i64 h.prog]) ∧ Below w.heap.size w w' := by
  go_enter Tryz.func172, Tryz.ntmps172
  go_wp2_with fail
  refine bodyPost_ret (v := .agg #[.int .i64 h.node, .int .i64 h.type, .bool h.cap, .bool false, .int .i64 h.prog]) (by simp [results, Tryz.results172, go_sem]) rfl ⟨rfl, ?_⟩
  exact ((Below.refl _ w).alloc (Nat.le_refl _) _).alloc (by simp) _

/-- The place of the first one that is one with another; as many as there are, if there is none. -/
def findL (h : Hr) : List Hr → Nat
  | [] => 0
  | a :: l => if oneH a h then 0 else findL h l + 1
theorem find_hit {h : Hr} : ∀ {l : List Hr} {k : Nat}, k < l.length → oneH (l.getD k hrD) h = true → (∀ j, j < k → oneH (l.getD j hrD) h = false) → findL h l = k
  | [], k, hk, _, _ => by simp at hk
  | a :: l, 0, _, h1, _ => by
    have : oneH a h = true := by simpa using h1
    simp [findL, this]
  | a :: l, k + 1, hk, h1, h2 => by
    have ha : oneH a h = false := by simpa using h2 0 (by omega)
    have := find_hit (h := h) (l := l) (k := k) (by simpa using hk) (by simpa using h1) (fun j hj => by simpa using h2 (j + 1) (by omega))
    simp [findL, ha, this]
theorem find_miss {h : Hr} : ∀ {l : List Hr}, (∀ j, j < l.length → oneH (l.getD j hrD) h = false) → findL h l = l.length
  | [], _ => rfl
  | a :: l, h2 => by
    have ha : oneH a h = false := by simpa using h2 0 (by simp)
    have := find_miss (h := h) (l := l) (fun j hj => by simpa using h2 (j + 1) (by simpa using hj))
    simp [findL, ha, this]
def findI (l : List Hr) (h : Hr) : Int := if findL h l < l.length then (findL h l : Int) else -1

set_option maxRecDepth 100000 in
set_option maxHeartbeats 2000000 in
theorem find_any (l : List Hr) (h : Hr) (v : Value) (w : World) (hL : HearsAt w v l) (hl : l.length ≤ 1000000) :
    Calls Tryz.prog 129 #[v, .agg #[.int .i64 h.node, .int .i64 h.type, .bool h.cap, .bool h.once, .int .i64 h.prog]] w fun x w' => x = .returned (.int .i64 (findI l h)) ∧ Below w.heap.size w w' := by
  obtain ⟨a, cap, rfl, hc⟩ := hL
  have HC := hideG hc.2
  have HW := hideG (show ∀ (wr U : World) (h : Hr), Below wr.heap.size wr U → Calls Tryz.prog 172 #[.agg #[.int .i64 h.node, .int .i64 h.type, .bool h.cap, .bool h.once, .int .i64 h.prog]] U (fun x w' => x = .returned (.agg #[.int .i64 h.node, .int .i64 h.type, .bool h.cap, .bool false, .int .i64 h.prog]) ∧ Below wr.heap.size wr w') from fun wr U h hU => by
    refine (without_any h U).mono ?_
    rintro e w' ⟨rfl, hb⟩
    exact ⟨rfl, hU.trans (hb.mono hU.size)⟩)
  have HH : Hid (HearAt (w.alloc (.cells #[.int .i64 h.node, .int .i64 h.type, .bool h.cap, .bool h.once, .int .i64 h.prog] 35)) w.heap.size 0 h) := ⟨by simp, by simp, by simp, by simp, by simp⟩
  have HB0 := hideG ((Below.refl _ w).alloc (Nat.le_refl _) (.cells #[.int .i64 h.node, .int .i64 h.type, .bool h.cap, .bool h.once, .int .i64 h.prog] 35))
  clear hc
  go_enter Tryz.func129, Tryz.ntmps129
  go_wp2_with fail
  obtain ⟨W0, hW0⟩ : ∃ W0, w.alloc (.cells #[.int .i64 h.node, .int .i64 h.type, .bool h.cap, .bool h.once, .int .i64 h.prog] 35) = W0 := ⟨_, rfl⟩
  rw [hW0] at HH HB0 ⊢
  clear hW0
  go_loopw [9] (fun i wr => ∃ k : Nat, k ≤ l.length ∧ i = .int .i64 k ∧ (∀ j, j < k → oneH (l.getD j hrD) h = false) ∧ Below W0.heap.size W0 wr) (fun i _ => l.length - (intOf i).toNat)
  case atStart => exact ⟨0, Nat.zero_le _, rfl, fun j hj => by omega, Below.refl _ _⟩
  case round =>
    obtain ⟨k, hk, rfl, hno, hB⟩ := hrel
    have HNO := hideG hno
    have HB := hideG hB
    have HBW := hideG (HB0.out.trans (hB.mono HB0.out.size))
    clear hno hB
    by_cases hlt : k < l.length
    · obtain ⟨b, off, rfl, hd⟩ := HC.out (by omega)
      have hH := (hd k hlt).below HBW.out
      have hG := HH.out.below HB.out
      generalize hx : l.getD k hrD = x at *
      have c0 := hH.node
      have c1 := hH.type
      have c2 := hH.cap
      have c3 := hH.once
      have c4 := hH.prog
      have hk0 : (0 : Int) ≤ (k : Int) := by omega
      have HG := hideG hG
      have HX := hideG hx
      clear hd hH hG hx
      go_wp2_with fail
      have hBV := (Below.refl wr.heap.size wr).alloc (Nat.le_refl _) (.cells #[.int .i64 x.node, .int .i64 x.type, .bool x.cap, .bool x.once, .int .i64 x.prog] 35)
      have hV : HearAt (wr.alloc (.cells #[.int .i64 x.node, .int .i64 x.type, .bool x.cap, .bool x.once, .int .i64 x.prog] 35)) wr.heap.size 0 x := ⟨by simp, by simp, by simp, by simp, by simp⟩
      obtain ⟨V, hVe⟩ : ∃ V, wr.alloc (.cells #[.int .i64 x.node, .int .i64 x.type, .bool x.cap, .bool x.once, .int .i64 x.prog] 35) = V := ⟨_, rfl⟩
      rw [hVe] at hBV hV ⊢
      clear hVe c0 c1 c2 c3 c4
      have hG := HG.out.below hBV
      have d0 := hV.node
      have d1 := hV.type
      have d2 := hV.cap
      have d3 := hV.once
      have d4 := hV.prog
      have e0 := hG.node
      have e1 := hG.type
      have e2 := hG.cap
      have e3 := hG.once
      have e4 := hG.prog
      have hb1 : wr.heap.size < V.heap.size := below_of_cell d0
      have hb2 : w.heap.size < V.heap.size := below_of_cell e0
      have HBV := hideG hBV
      clear hG hV hBV
      have hone : eqC x.node x.type x.cap false x.prog h.node h.type h.cap false h.prog = oneH x h := by simp [eqC, oneH, Bool.and_assoc]
      have hcc : ∀ (d : Calm V) (b o : Nat), b < V.heap.size → d.to.cell? ⟨b, o, none⟩ = V.cell? ⟨b, o, none⟩ := calmCell
      cases ho : oneH x h
      · have he := fun wx => hear_eql x.node x.type x.cap false x.prog h.node h.type h.cap false h.prog wx
        rw [hone, ho] at he
        clear hone
        refine wp_region_calm (by kernel_rfl) (by kernel_rfl) ?_
        repeat (go_big_quiet_step (first | (go_at_call 172; refine Calls.mono (HW.out V _ _ (Calm.below _)) ?_; rintro e w1 ⟨rfl, hb⟩; exact ⟨rfl, ⟨w1, hb⟩, rfl⟩)))
        refine wpQuiet_nil ?_
        intro _ hw'
        obtain ⟨dq, hw''⟩ := hw'
        subst hw''
        have HB9 := hideG (HB.out.trans (HBV.out.mono HB.out.size) |>.trans (dq.below.mono (HB.out.trans (HBV.out.mono HB.out.size)).size))
        generalize dq.to = wd at *
        clear dq hcc he d0 d1 d2 d3 d4 e0 e1 e2 e3 e4
        have HO := hideG ho
        clear ho
        go_wp2_with fail
        go_roundw
        case rel => exact ⟨k + 1, by omega, by go_num, fun j hj => by
          by_cases e : j = k
          · subst e; rw [HX.out]; exact HO.out
          · exact HNO.out j (by omega), HB9.out⟩
        case measure => simp [intOf]; omega
      · have he := fun wx => hear_eql x.node x.type x.cap false x.prog h.node h.type h.cap false h.prog wx
        rw [hone, ho] at he
        have HQ := hideG (show findI l h = (k : Int) by
          have := find_hit hlt (by rw [HX.out]; exact ho) HNO.out
          unfold findI; rw [this, if_pos hlt])
        clear hone
        refine wp_region_calm (by kernel_rfl) (by kernel_rfl) ?_
        repeat (go_big_quiet_step (first | (go_at_call 172; refine Calls.mono (HW.out V _ _ (Calm.below _)) ?_; rintro e w1 ⟨rfl, hb⟩; exact ⟨rfl, ⟨w1, hb⟩, rfl⟩)))
        refine wpQuiet_nil ?_
        intro _ hw'
        obtain ⟨dq, hw''⟩ := hw'
        subst hw''
        have HB9 := hideG (HBW.out.trans (HBV.out.mono HBW.out.size) |>.trans (dq.below.mono (HBW.out.trans (HBV.out.mono HBW.out.size)).size))
        generalize dq.to = wd at *
        clear dq hcc he d0 d1 d2 d3 d4 e0 e1 e2 e3 e4
        go_wp2_with fail
        go_ret
        exact ⟨ret_int HQ.out.symm, HB9.out⟩
    · have HQ := hideG (show findI l h = -1 by
        have := find_miss (fun j hj => HNO.out j (by omega) : ∀ j, j < l.length → oneH (l.getD j hrD) h = false)
        unfold findI; rw [this]; simp)
      go_wp2_with fail
      go_ret
      exact ⟨ret_int HQ.out.symm, HBW.out⟩
end Go.Proofs.YtpmacpbhdgigfaaGreat.L8
