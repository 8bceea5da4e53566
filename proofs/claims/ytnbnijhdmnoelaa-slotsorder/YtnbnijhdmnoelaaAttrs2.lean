/- attrsFit of package tree: it returns whether a node's attributes may be. -/
import Derived.Test.YtnbnijhdmnoelaaAttrs
namespace Go.Proofs.Ytnbnijhdmnoelaa
open Go.RowKit

theorem bcell {W w1 : World} (hb : Below W.heap.size W w1) : (∀ b o, b < W.heap.size → w1.cell? ⟨b, o, none⟩ = W.cell? ⟨b, o, none⟩) ∧ (∀ b o, b < W.heap.size → w1.frozen? ⟨b, o, none⟩ = W.frozen? ⟨b, o, none⟩) :=
  ⟨fun b o h => hb.cell (p := ⟨b, o, none⟩) h, fun b o h => hb.frozen (p := ⟨b, o, none⟩) h⟩

theorem attrs_drop {l : List (Int × Int)} {k : Nat} (h : k < l.length) (kd last : Int) :
    attrsFrom kd last (l.drop k) = (!(decide ((l.getD k (0, 0)).1 ≤ last) || !attrFitsB kd (l.getD k (0, 0)).1 (l.getD k (0, 0)).2) && attrsFrom kd (l.getD k (0, 0)).1 (l.drop (k + 1))) := by
  rw [List.drop_eq_getElem_cons h, attrsFrom, List.getD_eq_getElem?_getD, List.getElem?_eq_getElem h, Option.getD_some]

set_option maxRecDepth 100000 in
set_option maxHeartbeats 1000000 in
theorem attrsFit_any (x : Nd) (kv av : Value) (w : World) (hA : AttrsAt w av x.attrs) (hl : x.attrs.length ≤ 1000000) :
    Calls Try.prog 129 #[.agg #[.int .i64 x.kind, .int .i64 x.tag, .int .i64 x.parent, kv, .int .i64 x.host, .int .i64 x.root, av]] w fun e w' =>
      e = .returned (.bool (attrsFrom x.kind (-1) x.attrs)) ∧ Below w.heap.size w w' := by
  obtain ⟨a, cap, rfl, hc⟩ := hA
  generalize hattrs : x.attrs = l at *
  generalize x.kind = kd at *
  generalize x.tag = tg at *
  generalize x.parent = pr at *
  generalize x.host = hs at *
  generalize x.root = rt at *
  clear hattrs
  go_enter Try.func129, Try.ntmps129
  go_wp2_with fail
  go_loopw [3, 9] (fun t i wr => ∃ (k : Nat) (last : Int), k ≤ l.length ∧ i = .int .i64 k ∧ t = .int .i64 last ∧ attrsFrom kd last (l.drop k) = attrsFrom kd (-1) l ∧
      Below w.heap.size w wr ∧ w.heap.size < wr.heap.size ∧ wr.cell? ⟨w.heap.size, 0, none⟩ = some (.int .i64 kd)) (fun _ i _ => l.length - (intOf i).toNat)
  case atStart => exact ⟨0, -1, Nat.zero_le _, rfl, rfl, rfl, (Below.refl _ w).alloc (Nat.le_refl _) _, by simp, by simp⟩
  case round =>
    obtain ⟨k, last, hk, rfl, rfl, hrec, hB, hz, hbox⟩ := hrel
    by_cases hlt : k < l.length
    · obtain ⟨b, off, rfl, hd⟩ := hc (by omega)
      obtain ⟨c1, c2⟩ := hd k hlt
      have hbz : b < w.heap.size := below_of_cell c1
      have g1 := (hB.cell (p := ⟨b, off + k * 2, none⟩) hbz).trans c1
      have g2 := (hB.cell (p := ⟨b, off + k * 2 + 1, none⟩) hbz).trans c2
      have hbz' : b < wr.heap.size := by omega
      have hne : (w.heap.size == wr.heap.size) = false := by simp; omega
      have hstep := attrs_drop hlt kd last
      have HR : Hid (attrsFrom kd last (l.drop k) = attrsFrom kd (-1) l) := hrec
      have HS : Hid (attrsFrom kd last (l.drop k) = (!(decide ((l.getD k (0, 0)).1 ≤ last) || !attrFitsB kd (l.getD k (0, 0)).1 (l.getD k (0, 0)).2) && attrsFrom kd (l.getD k (0, 0)).1 (l.drop (k + 1)))) := hstep
      generalize hA : l.getD k (0, 0) = A at *
      obtain ⟨A1, A2⟩ := A
      dsimp only at *
      have HA : Hid (l.getD k (0, 0) = (A1, A2)) := hA
      clear hc hd c1 c2 hrec hstep hA
      cases h1 : decide (A1 ≤ last)
      · cases h2 : attrFitsB kd A1 A2
        · go_wp2_with (go_at_call 137; refine (attrFits_any _ _ _ _).mono ?_; rintro e w1 ⟨rfl, hb1⟩; obtain ⟨hcc, hff⟩ := bcell hb1)
          go_ret
          exact ⟨ret_bool (by rw [← HR.out, HS.out, h2]; simp only [Bool.not_false, Bool.or_true, Bool.not_true, Bool.false_and]), (hB.alloc hB.size _).trans (hb1.mono (by simp; omega))⟩
        · go_wp2_with (go_at_call 137; refine (attrFits_any _ _ _ _).mono ?_; rintro e w1 ⟨rfl, hb1⟩; obtain ⟨hcc, hff⟩ := bcell hb1)
          go_roundw
          case rel =>
            refine ⟨k + 1, A1, by omega, by go_num, rfl, ?_, (hB.alloc hB.size _).trans (hb1.mono (by simp; omega)), ?_, ?_⟩
            · rw [← HR.out, HS.out, h1, h2]; simp only [Bool.not_false, Bool.not_true, Bool.or_self, Bool.true_and]
            · have := hb1.size; simp at this; omega
            · rw [hcc _ _ (by simp; omega), World.cell?_alloc_past _ _ _ hz]; exact hbox
          case measure => simp [intOf]; omega
      · go_wp2_with (go_at_call 137; refine (attrFits_any _ _ _ _).mono ?_; rintro e w1 ⟨rfl, hb1⟩; obtain ⟨hcc, hff⟩ := bcell hb1)
        go_ret
        exact ⟨ret_bool (by rw [← HR.out, HS.out, h1]; simp only [Bool.true_or, Bool.not_true, Bool.false_and]), hB.alloc hB.size _⟩
    · go_wp2
      go_ret
      exact ⟨ret_bool (by rw [← hrec, List.drop_eq_nil_of_le (by omega)]; rfl), hB⟩
end Go.Proofs.Ytnbnijhdmnoelaa
