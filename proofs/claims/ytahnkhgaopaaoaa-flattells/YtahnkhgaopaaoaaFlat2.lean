/- flat.up, Up, Above, Has. -/
import Derived.Test.YtahnkhgaopaaoaaFlat1
import Derived.RangeFuncCalls
namespace Go.Proofs.Ytahnkhgaopaaoaa
open Go.RowKit Go.Shelf

attribute [local go_sem] Oper.semAt_some

theorem upF_none {T : List Nd} {n : Nat} (hn : n < T.length) (h : parF T n = -1) : upF T n = [n] := by
  unfold upF
  obtain ⟨k, hk⟩ : ∃ k, T.length = k + 1 := ⟨T.length - 1, by omega⟩
  rw [hk, upG, h]; rfl
theorem upF_some {T : List Nd} (hm : mayB T = true) {n m : Nat} (hn : n < T.length) (h : parF T n = (m : Int)) : m < T.length ∧ upF T n = n :: upF T m ∧ rkF T m < rkF T n := by
  rcases (fitsF hm).par n hn with e | ⟨p, hp, e, hmem⟩
  · omega
  · have : p = m := by omega
    subst this
    exact ⟨hp, (forest6 hm).up p hp n hmem, (forest6 hm).rank p hp n hmem⟩
theorem upF_le {T : List Nd} (hm : mayB T = true) {n : Nat} (hn : n < T.length) : (upF T n).length ≤ T.length := (forest6 hm).u_len hn
theorem upF_ne (T : List Nd) (n : Nat) : ∃ r, upF T n = n :: r := by
  unfold upF
  cases T.length with
  | zero => exact ⟨[], rfl⟩
  | succ k => exact ⟨_, rfl⟩

theorem fup_in (a : Option Addr) (len cap : Nat) (n : Int) (m : Nat) (w : World) :
    CallsIn Fence.wide m Try.prog 59 #[.slice a len cap, .int .i64 n] w fun e w' => e = .returned (.func (.func 88) #[] #[.pointer (some ⟨w.heap.size + 1, 0, none⟩), .pointer (some ⟨w.heap.size, 0, none⟩)]) ∧ w' = (w.alloc (.cells #[.slice a len cap] 23)).alloc (.cells #[.int .i64 n] 3) := by
  refine callsIn_of_wp Try.func59 rfl trivial ?_ rfl
  simp only [Try.ntmps59, List.size_toArray, List.length_cons, List.length_nil, Nat.reduceAdd, Nat.reduceSub, Array.replicate_succ, Array.replicate_zero, List.push_toArray, List.append_toArray, List.nil_append, List.cons_append]
  gi_wp2
  go_ret
  exact ⟨rfl, rfl⟩

set_option maxRecDepth 100000 in
set_option maxHeartbeats 2000000 in
theorem fup1_in (T : List Nd) (hm : mayB T = true) (hS : Sane T) (v : Value) (n : Nat) (hn : n < T.length) (l Bn Bt : Nat) (w2 : World) (R : World → World → Prop) (hRt : ∀ {A B C : World}, R A B → R B C → R A C) (hRb : ∀ {A B : World}, R w2 A → Below A.heap.size A B → R A B) (hF : Reads R w2 v T n Bn Bt)
    (hv : ∃ b off cap, v = .slice (some ⟨b, off, none⟩) T.length cap) (J Jx : List Nat → World → Prop) (hJb : ∀ {s : List Nat} {A B : World}, J s A → Below A.heap.size A B → J s B)
    (hY : ∀ pre x W, J pre W → pre.length < T.length + 1 → YieldAt Fence.wide 4 Try.prog l #[.int .i64 ((x : Nat) : Int)] W fun e W' =>
      (e = .returned (.bool true) ∧ J (pre ++ [x]) W' ∧ R W W') ∨ (e = .returned (.bool false) ∧ Jx (pre ++ [x]) W'))
    (W : World) (hW : R w2 W) (h0 : J [] W) :
    CallsIn Fence.wide 5 Try.prog 88 #[.func (.yield l) #[] #[], .pointer (some ⟨Bn, 0, none⟩), .pointer (some ⟨Bt, 0, none⟩)] W fun e W' => (∃ v, e = .returned v) ∧
      ((∃ ys, ys = upF T n ∧ J ys W') ∨ (∃ pre, pre <+: upF T n ∧ Jx pre W')) := by
  obtain ⟨b, off, cap, rfl⟩ := hv
  have cBn := (hF W hW).2.1
  have HF : Hid (Reads R w2 (.slice (some ⟨b, off, none⟩) T.length cap) T n Bn Bt) := hF
  have HM : Hid (mayB T = true) := hm
  have HS := hideG hS
  have hpos := mayB_pos hm
  clear hF hm hS
  refine callsIn_of_wp Try.func88 rfl trivial ?_ rfl
  simp only [Try.ntmps88, List.size_toArray, List.length_cons, List.length_nil, Nat.reduceAdd, Nat.reduceSub, Array.replicate_succ, Array.replicate_zero, List.push_toArray, List.append_toArray, List.nil_append, List.cons_append]
  gi_wp2
  gi_loopw [4] (fun t wr => ∃ pre : List Nat, J pre wr ∧ R w2 wr ∧ ((∃ at_ : Nat, at_ < T.length ∧ t = .int .i64 (at_ : Int) ∧ upF T n = pre ++ upF T at_) ∨ (t = .int .i64 (-1) ∧ upF T n = pre)))
    (fun t _ => if intOf t = -1 then 0 else rkF T (intOf t).toNat + 1)
  case atStart => exact ⟨[], h0, hW, .inl ⟨n, hn, rfl, rfl⟩⟩
  case round =>
    obtain ⟨pre, hJs, hB, hrel⟩ := hrel
    rcases hrel with ⟨at_, hat, rfl, hpars⟩ | ⟨rfl, hpars⟩
    · have HP : Hid (upF T n = pre ++ upF T at_) := hpars
      clear hpars cBn
      have hat1 : ((at_ : Int) != -1) = true := by simp
      have hlenp : pre.length < T.length + 1 := by
        have h1 := upF_le HM.out hn
        rw [HP.out, List.length_append] at h1
        omega
      obtain ⟨fn, tmps, assign, body, hy, hR⟩ := hY pre at_ _ hJs hlenp
      gi_wp2_with fail
      refine hR.mono ?_
      rintro e W3 (⟨rfl, hJ3, hk3⟩ | ⟨rfl, hJx3⟩)
      · have hB3 := hRt hB hk3
        obtain ⟨hT3, _, cBt'⟩ := HF.out W3 hB3
        have HT3 := hideG hT3
        clear hT3
        gi_wp2_with fail
        refine ⟨trivial, ?_⟩
        gi_at_call 62
        refine CallsIn.mono (callsIn_wide.2 (fparent_any T HM.out HS.out _ at_ hat _ HT3.out)) ?_
        rintro e W4 ⟨rfl, hb4⟩
        have hJ4 := hJb hJ3 hb4
        have hB4 := hRt hB3 (hRb hB3 hb4)
        clear hb4 hJ3 hk3 cBt'
        rcases parF_cases HM.out hat with e | ⟨m, hml, e, _⟩
        · have HQ := hideG (upF_none hat e)
          rw [e]
          clear e
          gi_wp2_with fail
          go_roundw
          case rel => exact ⟨pre ++ [at_], hJ4, hB4, .inr ⟨rfl, by rw [HP.out, HQ.out]⟩⟩
          case measure =>
            have h2 : ¬ ((at_ : Int) = -1) := by omega
            simp [intOf, h2]
        · have HQ := hideG (upF_some HM.out hat e)
          rw [e]
          clear e
          gi_wp2_with fail
          go_roundw
          case rel => exact ⟨pre ++ [at_], hJ4, hB4, .inl ⟨m, hml, rfl, by rw [HP.out, HQ.out.2.1]; simp⟩⟩
          case measure =>
            have := HQ.out.2.2
            simp [intOf]
            omega
      · gi_wp2_with fail
        refine bodyPost_ret (results_none rfl _ _ _) rfl ?_
        refine ⟨⟨_, rfl⟩, .inr ⟨pre ++ [at_], ?_, hJx3⟩⟩
        rw [HP.out]
        obtain ⟨r, hr⟩ := upF_ne T at_
        exact ⟨r, by rw [hr]; simp⟩
    · gi_wp2_with fail
      go_end0
      exact ⟨⟨_, rfl⟩, .inl ⟨pre, hpars.symm, hJs⟩⟩

theorem abides_below {β : Type} {M : Nat} {J : β → World → Prop} (hJ : AbidesFrom M J) {s : β} {A B : World} (h : J s A) (hb : Below A.heap.size A B) : J s B :=
  hJ s A B none h ⟨hb.os, hb.tape, hb.output, hb.size, fun k hk _ => hb.block k hk⟩ (fun r e => by cases e)
theorem fup_stops (T : List Nd) (hm : mayB T = true) (hS : Sane T) (v : Value) (n : Nat) (hn : n < T.length) (Bn Bt : Nat) (w2 : World) (R : World → World → Prop) (hRt : ∀ {A B C : World}, R A B → R B C → R A C) (hR0 : ∀ W, Below w2.heap.size w2 W → R w2 W) (hRb : ∀ {A B : World}, R w2 A → Below A.heap.size A B → R A B) (hF : Reads R w2 v T n Bn Bt)
    (hv : ∃ b off cap, v = .slice (some ⟨b, off, none⟩) T.length cap) :
    SeqStopsK Fence.wide 5 Try.prog 88 #[.pointer (some ⟨Bn, 0, none⟩), .pointer (some ⟨Bt, 0, none⟩)] (fun x : Nat => #[Value.int .i64 (x : Int)]) R (fun ys => ys = upF T n) (fun pre => pre <+: upF T n) (T.length + 1) w2 :=
  fun l J Jx W hW hJ _ hY h0 => fup1_in T hm hS v n hn l Bn Bt w2 R hRt hRb hF hv J Jx (fun h hb => abides_below hJ h hb) hY W (hR0 W hW) h0

set_option maxRecDepth 100000 in
set_option maxHeartbeats 2000000 in
theorem fappendSeq_in (T : List Nd) (hm : mayB T = true) (hS : Sane T) (n : Nat) (hn : n < T.length) (b off cap Bn Bt : Nat) (w : World) (hT : TreeAt w (.slice (some ⟨b, off, none⟩) T.length cap) T) (hBn : w.cell? ⟨Bn, 0, none⟩ = some (.int .i64 (n : Int))) (hBt : w.cell? ⟨Bt, 0, none⟩ = some (.slice (some ⟨b, off, none⟩) T.length cap)) :
    CallsIn Fence.wide 6 Try.prog 91 #[.slice none 0 0, .func (.func 88) #[] #[.pointer (some ⟨Bn, 0, none⟩), .pointer (some ⟨Bt, 0, none⟩)]] w fun e W' => ∃ a c, e = .returned (.slice a (upF T n).length c) ∧ W'.ownsRow w.heap.size 3 1 (.slice a (upF T n).length c) (upF T n).length (natCells (upF T n)) ∧ Below w.heap.size w W' := by
  obtain ⟨i3, hi3, hz30, hz31, hz32⟩ := info_parts infoT3
  have HT : Hid (TreeAt w (.slice (some ⟨b, off, none⟩) T.length cap) T) := hT
  have hpos := mayB_pos hm
  have hbn : Bn < w.heap.size := below_of_cell hBn
  have hbt : Bt < w.heap.size := below_of_cell hBt
  clear hT
  refine callsIn_of_wp_marks Try.func91 rfl trivial ?_ rfl
  simp only [Try.ntmps91, List.size_toArray, List.length_cons, List.length_nil, Nat.reduceAdd, Nat.reduceSub, Array.replicate_succ, Array.replicate_zero, List.push_toArray, List.append_toArray, List.nil_append, List.cons_append]
  gi_wp2
  have c0 := cell_new_l w (.slice none 0 0) 27
  have hB0 : Below w.heap.size w (w.alloc (.cells #[.slice none 0 0] 27)) := (Below.refl _ w).alloc (Nat.le_refl _) _
  have hsz : (w.alloc (.cells #[.slice none 0 0] 27)).heap.size = w.heap.size + 1 := by simp
  have hF : Reads (But (w.alloc (.cells #[.slice none 0 0] 27)).heap.size w.heap.size) (w.alloc (.cells #[.slice none 0 0] 27)) (.slice (some ⟨b, off, none⟩) T.length cap) T n Bn Bt := fun W hW => ⟨HT.out.but hB0 hW (by omega) (Nat.le_refl _), (hW.cell (by omega) (by omega)).trans (cell_below hB0 hBn), (hW.cell (by omega) (by omega)).trans (cell_below hB0 hBt)⟩
  refine wpIn_rangeFunc_ownF rfl (by omega) (gf := 88) (lb := #[.pointer (some ⟨Bn, 0, none⟩), .pointer (some ⟨Bt, 0, none⟩)]) rfl trivial (enters_of Try.func88 (by kernel_rfl) rfl)
    (fup_stops T hm hS _ n hn Bn Bt _ (But (w.alloc (.cells #[.slice none 0 0] 27)).heap.size w.heap.size) But.trans (fun W hW => But.of_below hW (Nat.le_refl _)) (fun hA hb => But.of_below hb (by have := hA.size; omega)) hF ⟨b, off, cap, rfl⟩) But.trans (but_b (Nat.le_refl _)) (Below.refl _ _) (fun _ => rfl)
    (fun pre W => (∃ v, W.cell? ⟨w.heap.size, 0, none⟩ = some v ∧ W.frozen? ⟨w.heap.size, 0, none⟩ = false ∧ W.ownsRow (w.heap.size + 1) 3 1 v pre.length (natCells pre)) ∧ Below w.heap.size w W)
    (fun _ _ _ => False)
    (OwnFrom.and (Own.from (fun s A B row hs hg hr => by
      obtain ⟨v, h1, h2, h3⟩ := hs
      exact ⟨v, cell_kept h1 hg hr, (frozen_kept h1 hg hr).trans h2, ownsRow_walk h3 hg hr⟩) _) (ownFrom_below (Nat.le_refl _) (by simp)))
    (fun c => fun s A B row hs _ _ => hs.elim)
    ⟨⟨.slice none 0 0, c0.1, c0.2, by exact World.ownsRow_nil _ _ _ _⟩, hB0⟩
    (fun x => { tmps := #[.slice none 0 0, .func (.func 88) #[] #[.pointer (some ⟨Bn, 0, none⟩), .pointer (some ⟨Bt, 0, none⟩)], .pointer (some ⟨w.heap.size, 0, none⟩), undef, .slice none 0 0, .int .i64 (x : Int), .func (.func 88) #[] #[.pointer (some ⟨Bn, 0, none⟩), .pointer (some ⟨Bt, 0, none⟩)], .int .i64 (x : Int), undef, undef, undef, undef, undef], defers := [] }) ?assign ?body ?done ?stop
  case assign =>
    intro l x W K hK
    gi_wp2
    exact hK
  case body =>
    rintro l pre x W ⟨⟨v, hc, hf, hown⟩, hB⟩ hlen
    obtain ⟨va, vc, rfl⟩ := ownsRow_shape hown
    have HOW := hideG hown
    have HB := hideG hB
    have hs := hB.size
    have hlt : w.heap.size < W.heap.size := below_of_cell hc
    clear hown hB
    have hcl : pre.length ≤ 100 := by omega
    gi_wp2_with (gi_at_builtin; refine wpListIn_append_own _ rfl _ _ 27 rfl (w.heap.size + 1) 3 i3 _ 1 8 Try.underlying27 hi3 hz30 hz31 hz32 rfl (by decide) _ pre.length (natCells pre) rfl (HOW.out.alloc _) ⟨W.heap.size, 0, none⟩ 1 1 [.int .i64 (x : Int)] rfl rfl ?h1 ?h2 ?h3 ?h4 ?h5 ?_)
    case h1 =>
      intro j u hj
      rw [addr_add, Nat.zero_add, World.cell?_alloc_at _ _ _ _ (by simp)]
      simpa using hj
    case h2 => intro u hu; simp at hu; subst hu; rfl
    case h3 => simp only [maxLen]; omega
    case h4 => omega
    case h5 => simp; omega
    intro v' w' hown' hg' _
    obtain ⟨a4, c4, rfl⟩ := ownsRow_shape hown'
    rw [natCells_snoc] at hown'
    have hne0 : some w.heap.size ≠ Value.ownBlock (.slice va pre.length vc) := fun e => by have := (HOW.out.lt _ e.symm).1; omega
    have hc' : w'.cell? ⟨w.heap.size, 0, none⟩ = some (.slice va pre.length vc) := (World.cell?_of_block (a := ⟨w.heap.size, 0, none⟩) (hg'.block w.heap.size (by simp; omega) hne0)).trans ((World.cell?_alloc_past _ _ _ hlt).trans hc)
    have hf' : w'.frozen? ⟨w.heap.size, 0, none⟩ = false := (World.frozen?_of_block (a := ⟨w.heap.size, 0, none⟩) (hg'.block w.heap.size (by simp; omega) hne0)).trans ((World.frozen?_alloc_past _ _ _ hlt).trans hf)
    have HO' := hideG hown'
    have HKO := hideG (show KeepsOthers W w' from (KeepsOthers.alloc W (.cells #[.int .i64 (x : Int)] 3)).trans (KeepsOthers.of_grownBy hg' (fun j o e ho => by
      rcases (HOW.out.alloc (.cells #[.int .i64 (x : Int)] 3)).2 with ⟨e0, _⟩ | ⟨g, cap, cur, e0, _, hcur, _⟩
      · rw [e0] at e; cases e
      · rw [e0] at e; cases e
        rw [hcur] at ho; cases ho; rfl)))
    have HB' := hideG ((HB.out.alloc hs (.cells #[.int .i64 (x : Int)] 3)).grown hg' (by simp; omega) (fun j e => by have := (HOW.out.lt j e).1; omega))
    have HBut := hideG (show But (w.heap.size + 1) w.heap.size W w' from ⟨by have := hg'.size; simp at this; omega, fun j hj hx => (hg'.block j (by simp; omega) (fun e => by have := (HOW.out.lt j e.symm).1; omega)).trans ((Below.refl W.heap.size W).alloc (Nat.le_refl _) (.cells #[.int .i64 (x : Int)] 3) |>.block j (by omega))⟩)
    clear hown' hg'
    gi_wp2
    refine ⟨HKO.out.trans (KeepsOthers.setCell _ _ _), ?_, ⟨.slice a4 (pre.length + 1) c4, World.cell?_setCell_same' _ _ _ (by rw [hc']; rfl), by rw [World.frozen?_setCell]; exact hf', ?_⟩, HB'.out.setCell (p := ⟨w.heap.size, 0, none⟩) (by simp) _⟩
    · rw [hsz]; exact HBut.out.setCell _
    · have hkept := ownsRow_kept_set (g := w.heap.size) (j := 0) (u := .slice a4 (pre.length + 1) c4) HO'.out (fun e => by have := (HO'.out.lt _ e).1; omega)
      simpa using hkept
  case done =>
    rintro D ys W hD rfl ⟨⟨v, hc, hf, hown⟩, hB⟩ hK
    obtain ⟨va, vc, rfl⟩ := ownsRow_shape hown
    have hxx := ownsRow_walk (B := W.putObj D (.deferred none)) hown (grownBy_putObj' W D (.deferred none)) (fun r e => by cases e; exact ⟨_, hK, rfl⟩)
    gi_wp2
    refine ⟨by simp, .inl ⟨_, _, rfl, run_takeDeferred hK, ?_⟩⟩
    refine ⟨.slice va (upF T n).length vc, ?_, va, vc, rfl, ownsRow_base hxx (by omega), hB.trans (belowK_b (w := w) (Nat.le_refl _) _ D _ _ (by simp at hD; omega) hK rfl rfl)⟩
    simp [results, Try.f91, go_sem]
  case stop =>
    rintro D c pre W hD hpre h hK
    exact h.elim


theorem fcollect_any (T : List Nd) (hm : mayB T = true) (hS : Sane T) (n : Nat) (hn : n < T.length) (b off cap Bn Bt : Nat) (w : World) (hT : TreeAt w (.slice (some ⟨b, off, none⟩) T.length cap) T) (hBn : w.cell? ⟨Bn, 0, none⟩ = some (.int .i64 (n : Int))) (hBt : w.cell? ⟨Bt, 0, none⟩ = some (.slice (some ⟨b, off, none⟩) T.length cap)) :
    Calls Try.prog 63 #[.func (.func 88) #[] #[.pointer (some ⟨Bn, 0, none⟩), .pointer (some ⟨Bt, 0, none⟩)]] w fun e W' => ∃ a c, e = .returned (.slice a (upF T n).length c) ∧ W'.ownsRow w.heap.size 3 1 (.slice a (upF T n).length c) (upF T n).length (natCells (upF T n)) ∧ Below w.heap.size w W' := by
  have H := hideG (callsIn_wide.1 (fappendSeq_in T hm hS n hn b off cap Bn Bt w hT hBn hBt))
  clear hT hBn hBt
  go_enter Try.func63, Try.ntmps63
  go_wp2_with (go_at_call 91; refine H.out.mono ?_; rintro e w1 ⟨a, c, rfl, ho, hb⟩)
  go_ret
  exact ⟨a, c, rfl, ho, hb⟩


/-- flat.Up. -/
def fupI (T : List Nd) (n : Int) : List Int := if knownB T [n] then castL (upF T n.toNat) else []

set_option maxRecDepth 100000 in
set_option maxHeartbeats 2000000 in
theorem flatUp_any (T : List Nd) (hS : Sane T) (v : Value) (n : Int) (w : World) (hT : TreeAt w v T) :
    Calls Try.prog 25 #[v, .int .i64 n] w fun e w' => ∃ a c, e = .returned (.slice a (fupI T n).length c) ∧ w'.ownsRow w.heap.size 3 1 (.slice a (fupI T n).length c) (fupI T n).length (intCells (fupI T n)) ∧ Below w.heap.size w w' := by
  have HS := hideG hS
  have HT0 := hideG hT
  cases hk : knownB T [n]
  · obtain ⟨a, cap, rfl⟩ := hT.shape
    clear hT hS
    have hq : fupI T n = [] := by simp [fupI, hk]
    rw [hq]
    have HK := hideG hk
    clear hk hq
    go_enter Try.func25, Try.ntmps25
    go_wp2_with (go_at_call 58; refine (fknown_any T HS.out _ n _ HT0.out).mono ?_; rintro e w1 ⟨rfl, hb1⟩; rw [HK.out]; have HB1 := hideG hb1; clear hb1)
    go_ret
    exact ⟨none, 0, rfl, World.ownsRow_nil _ _ _ _, HB1.out⟩
  · obtain ⟨hm, m, rfl, hml⟩ := known_one hk
    obtain ⟨b, off, cap, rfl, _⟩ := hT.at (by omega)
    clear hT hS
    have hq : fupI T m = castL (upF T m) := by simp [fupI, hk]
    rw [hq]
    have HM := hideG hm
    have HK := hideG hk
    clear hm hq hk
    go_enter Try.func25, Try.ntmps25
    go_wp2_with (first | (go_at_call 58; refine (fknown_any T HS.out _ _ _ HT0.out).mono ?_; rintro e w1 ⟨rfl, hb1⟩; rw [HK.out]; have HB1 := hideG hb1; clear hb1) | (go_at_call 59; refine (callsIn_wide.1 (fup_in _ _ _ _ 0 _)).mono ?_; rintro e w2 ⟨rfl, hw2⟩; have HW2 := hideG hw2; clear hw2))
    have d1 := cell_new_l w1 (.slice (some ⟨b, off, none⟩) T.length cap) 23
    have d2 := cell_new_l (w1.alloc (.cells #[.slice (some ⟨b, off, none⟩) T.length cap] 23)) (.int .i64 (m : Int)) 3
    simp only [World.size_alloc] at d2
    have hBB : Below w1.heap.size w1 ((w1.alloc (.cells #[.slice (some ⟨b, off, none⟩) T.length cap] 23)).alloc (.cells #[.int .i64 (m : Int)] 3)) := ((Below.refl _ w1).alloc (Nat.le_refl _) _).alloc (by simp) _
    have hw := HW2.out
    subst hw
    refine (fcollect_any T HM.out HS.out m hml b off cap (w1.heap.size + 1) w1.heap.size _ (HT0.out.below (HB1.out.trans (hBB.mono HB1.out.size))) d2.1 (cell_alloc_l _ d1.1)).mono ?_
    rintro e w3 ⟨a3, c3, rfl, ho3, hb3⟩
    have HB3 := hideG ((HB1.out.trans (hBB.mono HB1.out.size)).trans (hb3.mono (HB1.out.trans (hBB.mono HB1.out.size)).size))
    have HO3 := hideG (ownsRow_base ho3 (HB1.out.trans (hBB.mono HB1.out.size)).size)
    clear ho3 hb3 d1 d2 hBB
    go_wp2_with fail
    go_ret
    exact ⟨a3, c3, by simp [castL], by simpa [natCells, castL] using HO3.out, HB3.out⟩

/-- Is somebody above, in the flat tree? -/
def fabvB (T : List Nd) (a : Int) (n : Nat) : Bool := (upF T n).any fun x => (x : Int) == a
def faboveI (T : List Nd) (a b : Int) : Bool := knownB T [b] && fabvB T a b.toNat
end Go.Proofs.Ytahnkhgaopaaoaa
