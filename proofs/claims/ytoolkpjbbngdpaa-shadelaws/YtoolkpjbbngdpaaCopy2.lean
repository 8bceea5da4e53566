/- tree.Copy, walked. -/
import Derived.Test.YtoolkpjbbngdpaaCopy
namespace Go.Proofs.Ytoolkpjbbngdpaa
open Go.RowKit

structure CopyInv (w wr : World) (v : Value) (T : List Nd) (kv av : Nat → Value) (k : Nat) : Prop where
  below : Below w.heap.size w wr
  row : wr.ownsRow w.heap.size 49 7 v T.length (rowL T kv av)
  kids : ∀ n, n < k → wr.ownsRow w.heap.size 3 1 (kv n) (nd T n).kids.length (intCells (nd T n).kids)
  attrs : ∀ n, n < k → wr.ownsRow w.heap.size 72 2 (av n) (nd T n).attrs.length (attrCells (nd T n).attrs)
  old : ∀ n, k ≤ n → n < T.length → IntsAt w (kv n) (nd T n).kids ∧ AttrsAt w (av n) (nd T n).attrs
  kr : ∀ n, n < k → Apart (kv n) v
  ar : ∀ n, n < k → Apart (av n) v
  kk : ∀ n m, n < k → m < k → n ≠ m → Apart (kv n) (kv m)
  aa : ∀ n m, n < k → m < k → n ≠ m → Apart (av n) (av m)
  ka : ∀ n m, n < k → m < k → Apart (kv n) (av m)

theorem ownsRow_kept_set {w : World} {base : Nat} {e : TypeId} {size : Nat} {v : Value} {n : Nat} {xs : List Value} {g j : Nat} {u : Value} (h : w.ownsRow base e size v n xs) (hne : v.ownBlock ≠ some g) : (w.setCell ⟨g, j, none⟩ u).ownsRow base e size v n xs :=
  h.kept (row := some g) ⟨rfl, rfl, rfl, by simp, fun k _ hk => heap_setCell_other w ⟨g, j, none⟩ k u (fun e => hk (by simp [e]))⟩ (.inr hne)

theorem upd_same {α : Type} (f : Nat → α) (n : Nat) (x : α) : upd f n x n = x := by simp [upd]
theorem upd_ne {α : Type} (f : Nat → α) {n m : Nat} (x : α) (h : m ≠ n) : upd f n x m = f m := by simp [upd, h]

theorem CopyInv.step {w wr w1 w3 : World} {T : List Nd} {kv av : Nat → Value} {k g cap : Nat} {x1 x2 : Value} (h : CopyInv w wr (.slice (some ⟨g, 0, none⟩) T.length cap) T kv av k) (hk : k < T.length)
    (h1 : w1.ownsRow wr.heap.size 3 1 x1 (nd T k).kids.length (intCells (nd T k).kids)) (b1 : Below wr.heap.size wr w1)
    (h3 : w3.ownsRow w1.heap.size 72 2 x2 (nd T k).attrs.length (attrCells (nd T k).attrs)) (b3 : Below w1.heap.size (w1.setCell ⟨g, k * 7 + 3, none⟩ x1) w3) :
    CopyInv w (w3.setCell ⟨g, k * 7 + 6, none⟩ x2) (.slice (some ⟨g, 0, none⟩) T.length cap) T (upd kv k x1) (upd av k x2) (k + 1) := by
  have hsz := h.below.size
  obtain ⟨hg0, hg1⟩ := h.row.lt g rfl
  have hb1 := b1.size
  have nx1 : x1.ownBlock ≠ some g := fun e => by have := (h1.lt g e).1; omega
  have nx2 : x2.ownBlock ≠ some g := fun e => by have := (h3.lt g e).1; omega
  -- what was owned ahead of the round, apart from the row
  have F : ∀ {e : TypeId} {size : Nat} {u : Value} {n : Nat} {xs : List Value}, wr.ownsRow w.heap.size e size u n xs → u.ownBlock ≠ some g → (w3.setCell ⟨g, k * 7 + 6, none⟩ x2).ownsRow w.heap.size e size u n xs := fun hu hne =>
    ownsRow_kept_set (ownsRow_below (ownsRow_kept_set (ownsRow_below hu b1 (fun b hb => (hu.lt b hb).2)) hne) b3 (fun b hb => by have := (hu.lt b hb).2; omega)) hne
  have O1 : (w3.setCell ⟨g, k * 7 + 6, none⟩ x2).ownsRow w.heap.size 3 1 x1 (nd T k).kids.length (intCells (nd T k).kids) :=
    ownsRow_base (ownsRow_kept_set (ownsRow_below (ownsRow_kept_set h1 nx1) b3 (fun b hb => (h1.lt b hb).2)) nx1) hsz
  have O2 : (w3.setCell ⟨g, k * 7 + 6, none⟩ x2).ownsRow w.heap.size 72 2 x2 (nd T k).attrs.length (attrCells (nd T k).attrs) :=
    ownsRow_base (ownsRow_kept_set h3 nx2) (by omega)
  have ne : ∀ {u : Value}, Apart u (.slice (some ⟨g, 0, none⟩) T.length cap) → u.ownBlock ≠ some g := fun ha e => ha g e rfl
  have ap : ∀ {u : Value}, u.ownBlock ≠ some g → Apart u (.slice (some ⟨g, 0, none⟩) T.length cap) := fun hne b hb e => hne (by rw [hb]; simpa [Value.ownBlock] using e.symm)
  have oldlt : ∀ {e : TypeId} {size : Nat} {u : Value} {n : Nat} {xs : List Value}, wr.ownsRow w.heap.size e size u n xs → ∀ b, u.ownBlock = some b → b < wr.heap.size := fun hu b hb => (hu.lt b hb).2
  have x1lt : ∀ b, x1.ownBlock = some b → b < w1.heap.size := fun b hb => (h1.lt b hb).2
  refine ⟨?_, ?_, ?_, ?_, ?_, ?_, ?_, ?_, ?_, ?_⟩
  · have s1 : Below w.heap.size w (w1.setCell ⟨g, k * 7 + 3, none⟩ x1) := (h.below.trans (b1.mono hsz)).setCell (p := ⟨g, k * 7 + 3, none⟩) hg0 _
    exact (s1.trans (b3.mono (by omega))).setCell (p := ⟨g, k * 7 + 6, none⟩) hg0 _
  · have r1 := ownsRow_below h.row b1 (fun b hb => (h.row.lt b hb).2)
    have r2 := (r1.stored (k * 7 + 3) x1).1
    have r3 := ownsRow_below r2 b3 (fun b hb => by have := (h.row.lt b hb).2; omega)
    have r4 := (r3.stored (k * 7 + 6) x2).1
    rw [rowL_kv T kv av k x1 hk, rowL_av T _ av k x2 hk] at r4
    exact r4
  · intro n hn
    by_cases e : n = k
    · subst e; rw [upd_same]; exact O1
    · rw [upd_ne _ _ e]; exact F (h.kids n (by omega)) (ne (h.kr n (by omega)))
  · intro n hn
    by_cases e : n = k
    · subst e; rw [upd_same]; exact O2
    · rw [upd_ne _ _ e]; exact F (h.attrs n (by omega)) (ne (h.ar n (by omega)))
  · intro n hn hlt
    rw [upd_ne _ _ (by omega), upd_ne _ _ (by omega)]
    exact h.old n (by omega) hlt
  · intro n hn
    by_cases e : n = k
    · subst e; rw [upd_same]; exact ap nx1
    · rw [upd_ne _ _ e]; exact h.kr n (by omega)
  · intro n hn
    by_cases e : n = k
    · subst e; rw [upd_same]; exact ap nx2
    · rw [upd_ne _ _ e]; exact h.ar n (by omega)
  · intro n m hn hm hnm
    by_cases e : n = k
    · subst e
      rw [upd_same, upd_ne _ _ (Ne.symm hnm)]
      exact apart_new h1 (oldlt (h.kids m (by omega)))
    · by_cases e' : m = k
      · subst e'
        rw [upd_same, upd_ne _ _ e]
        exact (apart_new h1 (oldlt (h.kids n (by omega)))).symm
      · rw [upd_ne _ _ e, upd_ne _ _ e']
        exact h.kk n m (by omega) (by omega) hnm
  · intro n m hn hm hnm
    by_cases e : n = k
    · subst e
      rw [upd_same, upd_ne _ _ (Ne.symm hnm)]
      exact apart_new h3 (fun b hb => by have := oldlt (h.attrs m (by omega)) b hb; omega)
    · by_cases e' : m = k
      · subst e'
        rw [upd_same, upd_ne _ _ e]
        exact (apart_new h3 (fun b hb => by have := oldlt (h.attrs n (by omega)) b hb; omega)).symm
      · rw [upd_ne _ _ e, upd_ne _ _ e']
        exact h.aa n m (by omega) (by omega) hnm
  · intro n m hn hm
    by_cases e' : m = k
    · subst e'
      rw [upd_same]
      by_cases e : n = m
      · subst e; rw [upd_same]; exact (apart_new h3 x1lt).symm
      · rw [upd_ne _ _ e]
        exact (apart_new h3 (fun b hb => by have := oldlt (h.kids n (by omega)) b hb; omega)).symm
    · rw [upd_ne _ _ e']
      by_cases e : n = k
      · subst e; rw [upd_same]; exact apart_new h1 (oldlt (h.attrs m (by omega)))
      · rw [upd_ne _ _ e]
        exact h.ka n m (by omega) (by omega)

theorem ownsRow_some {w : World} {base : Nat} {e : TypeId} {size : Nat} {v : Value} {n : Nat} {xs : List Value} (h : w.ownsRow base e size v n xs) (h0 : 0 < n) : ∃ g cap, v = .slice (some ⟨g, 0, none⟩) n cap := by
  rcases h.2 with ⟨_, h1⟩ | ⟨g, cap, cur, hv, _⟩
  · omega
  · exact ⟨g, cap, hv⟩

theorem cloneTree' (T : List Nd) (v : Value) (w : World) (hT : TreeAt w v T) (h1 : 1 ≤ T.length) (h64 : T.length ≤ 1000) :
    Calls Try.prog 98 #[v] w fun e w' => ∃ g cap kv av, e = .returned (.slice (some ⟨g, 0, none⟩) T.length cap) ∧ CopyInv w w' (.slice (some ⟨g, 0, none⟩) T.length cap) T kv av 0 := by
  refine (cloneTree T v w hT h1 h64).mono ?_
  rintro e w' ⟨v', kv, av, rfl, h2, h3, h4⟩
  obtain ⟨g, cap, rfl⟩ := ownsRow_some h2 h1
  exact ⟨g, cap, kv, av, rfl, ⟨h3, h2, fun n h => by omega, fun n h => by omega, fun n _ h => h4 n h, fun n h => by omega, fun n h => by omega, fun n m h => by omega, fun n m h => by omega, fun n m h => by omega⟩⟩

set_option maxRecDepth 100000 in
set_option maxHeartbeats 2000000 in
theorem copy_any (T : List Nd) (hS : Sane T) (v : Value) (w : World) (hT : TreeAt w v T) (h1 : 1 ≤ T.length) (h64 : T.length ≤ 1000) :
    Calls Try.prog 69 #[v] w fun e w' => ∃ v' kv av, e = .returned v' ∧ OwnTree w' w.heap.size v' T kv av ∧ Below w.heap.size w w' := by
  have HT : Hid (TreeAt w v T) := hT
  have HS : Hid (Sane T) := hS
  obtain ⟨a, cap0, rfl⟩ : ∃ a c, v = .slice a T.length c := let ⟨a, c, h, _⟩ := hT; ⟨a, c, h⟩
  clear hT
  clear hS
  go_enter Try.func69, Try.ntmps69
  go_wp2_with (go_at_call 98; refine (cloneTree' T _ _ HT.out h1 h64).mono ?_; rintro e w0 ⟨g, cap, kv0, av0, rfl, hI0⟩)
  go_loopw [9] (fun i wr => ∃ (k : Nat) (kv av : Nat → Value), k ≤ T.length ∧ i = .int .i64 k ∧ CopyInv w wr (.slice (some ⟨g, 0, none⟩) T.length cap) T kv av k) (fun i _ => T.length - (intOf i).toNat)
  case atStart => exact ⟨0, kv0, av0, Nat.zero_le _, rfl, hI0⟩
  case round =>
    obtain ⟨k, kv, av, hk, rfl, hI⟩ := hrel
    have HJ : Hid (CopyInv w wr (.slice (some ⟨g, 0, none⟩) T.length cap) T kv av k) := hI
    by_cases hlt : k < T.length
    · obtain ⟨hi1, hi2⟩ := hI.old k (Nat.le_refl _) hlt
      have hi1r := hi1.below hI.below
      obtain ⟨ka, kc, hkv⟩ := hi1.shape
      obtain ⟨aa, ac, hav⟩ := hi2.shape
      have c3 : wr.cell? ⟨g, k * 7 + 3, none⟩ = some (.slice ka (nd T k).kids.length kc) := by
        rw [hI.row.cellAt (k * 7 + 3) (by omega), rowL_at (by omega), rowCell_at _ _ _ _ _ (by omega), ← hkv]; rfl
      have c6 : wr.cell? ⟨g, k * 7 + 6, none⟩ = some (.slice aa (nd T k).attrs.length ac) := by
        rw [hI.row.cellAt (k * 7 + 6) (by omega), rowL_at (by omega), rowCell_at _ _ _ _ _ (by omega), ← hav]; rfl
      have f3 := hI.row.frozenAt (k * 7 + 3)
      have f6 := hI.row.frozenAt (k * 7 + 6)
      have hg : g < wr.heap.size := (hI.row.lt g rfl).2
      rw [hkv] at hi1r
      rw [hav] at hi2
      have hg0 : w.heap.size ≤ g := (hI.row.lt g rfl).1
      have hbel := hI.below
      obtain ⟨hs1, hs2⟩ := HS.out k hlt
      have HK : Hid (IntsAt wr (.slice ka (nd T k).kids.length kc) (nd T k).kids) := hi1r
      have HA : Hid (AttrsAt w (.slice aa (nd T k).attrs.length ac) (nd T k).attrs) := hi2
      clear hi1 hi2 hi1r hkv hav hI hI0
      go_wp2_with (go_at_call 99; refine (cloneInts _ _ _ HK.out hs1).mono ?_; rintro e w1 ⟨x1, rfl, hx1, hb1⟩; obtain ⟨hcc, hff⟩ := bcell hb1; obtain ⟨a1, cc1, rfl⟩ := ownsRow_shape hx1)
      have hs1' := hb1.size
      have s1 : Below w.heap.size w (w1.setCell ⟨g, k * 7 + 3, none⟩ (.slice a1 (nd T k).kids.length cc1)) := (hbel.trans (hb1.mono hbel.size)).setCell (p := ⟨g, k * 7 + 3, none⟩) hg0 _
      refine (cloneAttrs _ _ _ (HA.out.below s1) hs2).mono ?_
      rintro e w3 ⟨x2, rfl, hx2, hb3⟩
      obtain ⟨a2, cc2, rfl⟩ := ownsRow_shape hx2
      obtain ⟨hcc3, hff3⟩ := bcell hb3
      have hg1 : g < w1.heap.size := by omega
      clear s1
      simp only [World.size_setCell] at hx2 hb3 hcc3 hff3
      go_wp2_with fail
      go_roundw
      case rel => exact ⟨k + 1, _, _, by omega, by go_num, HJ.out.step hlt hx1 hb1 hx2 hb3⟩
      case measure => simp [intOf]; omega
    · have hke : k = T.length := by omega
      subst hke
      clear hI0
      go_wp2_with fail
      go_ret
      exact ⟨_, kv, av, rfl, ⟨hI.row, hI.kids, hI.attrs, hI.kr, hI.ar, hI.kk, hI.aa, hI.ka⟩, hI.below⟩
end Go.Proofs.Ytoolkpjbbngdpaa
