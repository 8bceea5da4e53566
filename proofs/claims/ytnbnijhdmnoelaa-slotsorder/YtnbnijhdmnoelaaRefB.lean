/- attrs, ends and shadow of limelightref01. -/
import Derived.Test.YtnbnijhdmnoelaaCalm
import Derived.Test.YtnbnijhdmnoelaaRefA
namespace Go.Proofs.Ytnbnijhdmnoelaa
open Go.RowKit

theorem attrsFrom_low {k last : Int} {a : Int × Int} {l : List (Int × Int)} (h : last ≤ -1) : attrsFrom k last (a :: l) = (attrFitsB k a.1 a.2 && attrsFrom k a.1 l) := by
  rw [attrsFrom]
  cases hf : attrFitsB k a.1 a.2
  · simp
  · have : 0 ≤ a.1 := by
      simp only [attrFitsB, Bool.and_eq_true, Bool.not_eq_true', Bool.or_eq_false_iff, decide_eq_false_iff_not] at hf
      omega
    have e : decide (a.1 ≤ last) = false := by simp; omega
    simp [e]

set_option maxRecDepth 100000 in
set_option maxHeartbeats 2000000 in
theorem refAttrs_any (x : Nd) (kv av : Value) (w : World) (hA : AttrsAt w av x.attrs) (hl : x.attrs.length ≤ 1000000) :
    Calls Try.prog 97 #[.agg #[.int .i64 x.kind, .int .i64 x.tag, .int .i64 x.parent, kv, .int .i64 x.host, .int .i64 x.root, av]] w fun e w' =>
      e = .returned (.bool (attrsFrom x.kind (-1) x.attrs)) ∧ Below w.heap.size w w' := by
  obtain ⟨a, cap, rfl, hc⟩ := hA
  generalize hattrs : x.attrs = l at *
  generalize x.kind = kd at *
  generalize x.tag = tg at *
  generalize x.parent = pr at *
  generalize x.host = hs at *
  generalize x.root = rt at *
  clear hattrs
  go_enter Try.func97, Try.ntmps97
  go_wp2_with fail
  go_loopw [3] (fun i wr => ∃ (k : Nat), k ≤ l.length ∧ i = .int .i64 k ∧ attrsFrom kd (if k = 0 then -1 else (l.getD (k - 1) (0, 0)).1) (l.drop k) = attrsFrom kd (-1) l ∧
      Below w.heap.size w wr ∧ w.heap.size < wr.heap.size ∧ wr.cell? ⟨w.heap.size, 0, none⟩ = some (.int .i64 kd) ∧ wr.cell? ⟨w.heap.size, 6, none⟩ = some (.slice a l.length cap)) (fun i _ => l.length - (intOf i).toNat)
  case atStart => exact ⟨0, Nat.zero_le _, rfl, rfl, (Below.refl _ w).alloc (Nat.le_refl _) _, by simp, by simp, by simp⟩
  case round =>
    obtain ⟨k, hk, rfl, hrec, hB, hz, b0, b6⟩ := hrel
    by_cases hlt : k < l.length
    · obtain ⟨b, off, rfl, hd⟩ := hc (by omega)
      obtain ⟨c1, c2⟩ := hd k hlt
      have hbz : b < w.heap.size := below_of_cell c1
      replace c1 := cell_below hB c1
      replace c2 := cell_below hB c2
      have hbz' : b < wr.heap.size := by omega
      have hcc : ∀ (d : Calm wr) (b o : Nat), b < wr.heap.size → d.to.cell? ⟨b, o, none⟩ = wr.cell? ⟨b, o, none⟩ := calmCell
      have HC : Hid (∀ (d : Calm wr) (b o : Nat), b < wr.heap.size → d.to.cell? ⟨b, o, none⟩ = wr.cell? ⟨b, o, none⟩) := hcc
      have HF : Hid (∀ w2, Below wr.heap.size wr w2 → Calls Try.prog 118 #[.int .i64 kd, .agg #[.int .i64 (l.getD k (0, 0)).1, .int .i64 (l.getD k (0, 0)).2]] w2 fun e w' => e = .returned (.bool (attrFitsB kd (l.getD k (0, 0)).1 (l.getD k (0, 0)).2)) ∧ Below wr.heap.size wr w') := fun w2 h2 => by
        refine (refAttr_any _ _ _ _).mono ?_
        rintro e w1 ⟨rfl, hb⟩
        exact ⟨rfl, h2.trans (hb.mono h2.size)⟩
      by_cases h0 : k = 0
      · subst h0
        have hst : attrsFrom kd (-1) l = (attrFitsB kd (l.getD 0 (0, 0)).1 (l.getD 0 (0, 0)).2 && attrsFrom kd (l.getD 0 (0, 0)).1 (l.drop 1)) := by
          cases l with
          | nil => simp at hlt
          | cons a l => exact attrsFrom_low (Int.le_refl _)
        clear hrec hd hc
        generalize hA : l.getD 0 (0, 0) = A at *
        obtain ⟨A1, A2⟩ := A
        have HA : Hid (l.getD 0 (0, 0) = (A1, A2)) := hA
        clear hA
        dsimp only at *
        rw [Nat.zero_mul, Nat.add_zero] at c1 c2
        cases hx : attrFitsB kd A1 A2
        · rw [hx] at HF hst
          have HS : Hid (attrsFrom kd (-1) l = false) := hst
          clear hst
          go_wp2_with fail
          refine wp_region_calm (by kernel_rfl) (by kernel_rfl) ?_
          repeat (go_big_quiet_step ((go_at_call 118; refine Calls.mono (HF.out _ (Calm.below _)) ?_; rintro e w1 ⟨rfl, hb⟩; exact ⟨rfl, ⟨w1, hb⟩, rfl⟩)))
          refine wpQuiet_nil ?_
          intro _ hw'
          obtain ⟨dq, hw''⟩ := hw'
          subst hw''
          go_wp2_with fail
          go_ret
          exact ⟨ret_bool (by rw [HS.out]), hB.trans (dq.below.mono hB.size)⟩
        · rw [hx] at HF hst
          have HS : Hid (attrsFrom kd (-1) l = attrsFrom kd A1 (l.drop 1)) := hst
          clear hst
          go_wp2_with fail
          refine wp_region_calm (by kernel_rfl) (by kernel_rfl) ?_
          repeat (go_big_quiet_step ((go_at_call 118; refine Calls.mono (HF.out _ (Calm.below _)) ?_; rintro e w1 ⟨rfl, hb⟩; exact ⟨rfl, ⟨w1, hb⟩, rfl⟩)))
          refine wpQuiet_nil ?_
          intro _ hw'
          obtain ⟨dq, hw''⟩ := hw'
          subst hw''
          go_wp2_with fail
          go_roundw
          case rel =>
            refine ⟨1, by omega, by go_num, ?_, hB.trans (dq.below.mono hB.size), ?_, ?_, ?_⟩
            · rw [HS.out, if_neg (by decide)]; show attrsFrom kd (l.getD 0 (0, 0)).1 (l.drop 1) = _; rw [HA.out]
            · have := dq.below.size; omega
            · rw [HC.out dq _ _ hz]; exact b0
            · rw [HC.out dq _ _ hz]; exact b6
          case measure => simp [intOf]; omega
      · obtain ⟨m, rfl⟩ : ∃ m, k = m + 1 := ⟨k - 1, by omega⟩
        obtain ⟨d1, _⟩ := hd m (by omega)
        replace d1 := cell_below hB d1
        rw [if_neg h0, Nat.add_sub_cancel, attrs_drop hlt] at hrec
        have hm : m < l.length := by omega
        clear hd hc h0
        generalize hA : l.getD (m + 1) (0, 0) = A at *
        obtain ⟨A1, A2⟩ := A
        have HA : Hid (l.getD (m + 1) (0, 0) = (A1, A2)) := hA
        generalize (l.getD m (0, 0)).1 = L1 at *
        clear hA
        dsimp only at *
        cases hx : attrFitsB kd A1 A2
        · rw [hx] at HF hrec
          have HS : Hid (attrsFrom kd (-1) l = false) := by show _ = _; rw [← hrec]; simp
          clear hrec
          go_wp2_with fail
          refine wp_region_calm (by kernel_rfl) (by kernel_rfl) ?_
          repeat (go_big_quiet_step ((go_at_call 118; refine Calls.mono (HF.out _ (Calm.below _)) ?_; rintro e w1 ⟨rfl, hb⟩; exact ⟨rfl, ⟨w1, hb⟩, rfl⟩)))
          refine wpQuiet_nil ?_
          intro _ hw'
          obtain ⟨dq, hw''⟩ := hw'
          subst hw''
          go_wp2_with fail
          go_ret
          exact ⟨ret_bool (by rw [HS.out]), hB.trans (dq.below.mono hB.size)⟩
        · rw [hx] at HF hrec
          have hpos : decide ((0 : Int) < (m : Int) + 1) = true := by simp
          have hsub : (m : Int) + 1 - 1 = m := by omega
          cases hy : decide (A1 ≤ L1)
          · rw [hy] at hrec
            have HS : Hid (attrsFrom kd (-1) l = attrsFrom kd A1 (l.drop (m + 1 + 1))) := by show _ = _; rw [← hrec]; simp
            clear hrec
            go_wp2_with fail
            refine wp_region_calm (by kernel_rfl) (by kernel_rfl) ?_
            repeat (go_big_quiet_step ((go_at_call 118; refine Calls.mono (HF.out _ (Calm.below _)) ?_; rintro e w1 ⟨rfl, hb⟩; exact ⟨rfl, ⟨w1, hb⟩, rfl⟩)))
            refine wpQuiet_nil ?_
            intro _ hw'
            obtain ⟨dq, hw''⟩ := hw'
            subst hw''
            go_wp2_with fail
            go_roundw
            case rel =>
              refine ⟨m + 1 + 1, by omega, by go_num, ?_, hB.trans (dq.below.mono hB.size), ?_, ?_, ?_⟩
              · rw [HS.out, if_neg (by omega)]; show attrsFrom kd (l.getD (m + 1) (0, 0)).1 _ = _; rw [HA.out]
              · have := dq.below.size; omega
              · rw [HC.out dq _ _ hz]; exact b0
              · rw [HC.out dq _ _ hz]; exact b6
            case measure => simp [intOf]; omega
          · rw [hy] at hrec
            have HS : Hid (attrsFrom kd (-1) l = false) := by show _ = _; rw [← hrec]; simp
            clear hrec
            go_wp2_with fail
            refine wp_region_calm (by kernel_rfl) (by kernel_rfl) ?_
            repeat (go_big_quiet_step ((go_at_call 118; refine Calls.mono (HF.out _ (Calm.below _)) ?_; rintro e w1 ⟨rfl, hb⟩; exact ⟨rfl, ⟨w1, hb⟩, rfl⟩)))
            refine wpQuiet_nil ?_
            intro _ hw'
            obtain ⟨dq, hw''⟩ := hw'
            subst hw''
            go_wp2_with fail
            go_ret
            exact ⟨ret_bool (by rw [HS.out]), hB.trans (dq.below.mono hB.size)⟩
    · go_wp2
      go_ret
      refine ⟨ret_bool ?_, hB⟩
      rw [← hrec, List.drop_eq_nil_of_le (by omega)]; rfl
end Go.Proofs.Ytnbnijhdmnoelaa
