/- LRooms: the law on rooms. -/
import Derived.Test.YtlgbiecgbdbefabLBase
namespace Go.Proofs.Ytlgbiecgbdbefab
open Go.RowKit

set_option maxRecDepth 100000 in
set_option maxHeartbeats 8000000 in
theorem watchRooms_walk (L : List Int) (v : Value) (w : World) (hI : IntsAt w v L) : Calls Try.prog 5 #[v] w fun e w' => e = .returned (.bool true) ∧ Below w.heap.size w w' := by
  obtain ⟨a, c, rfl⟩ := hI.shape
  have HI := hideG hI
  clear hI
  by_cases h60 : (60 : Int) < (L.length : Int)
  · go_enter Try.func5, Try.ntmps5
    go_wp2_with fail
    refine (live_any _).mono ?_
    rintro e w' ⟨rfl, hb⟩
    go_wp2_with fail
    go_ret
    exact ⟨rfl, hb⟩
  · go_enter Try.func5, Try.ntmps5
    go_wp2_with fail
    refine (new_any w).mono ?_
    rintro e w1 ⟨rfl, hb1⟩
    have HB1 := hideG hb1
    clear hb1
    go_wp2_with fail
    obtain ⟨W2, hW2⟩ : ∃ W2, w1.alloc (.cells #[.slice none 0 0, .int .i64 1, .bool true] 26) = W2 := ⟨_, rfl⟩
    have HX0 := hideG (show Box3 W2 w1.heap.size (.slice none 0 0) (.int .i64 1) (.bool true) by rw [← hW2]; exact Box3.new _ _ _ _ _)
    have HB2 := hideG (show Below w.heap.size w W2 by rw [← hW2]; exact mono_k HB1.out (alB _ _))
    have hX1 := HB1.out.size
    rw [hW2]
    clear hW2
    go_loopw [4] (fun i wr => ∃ (k : Nat) (s : Wt) (va : Option Addr) (vc : Nat), k ≤ L.length ∧ i = .int .i64 (k : Int) ∧ Box3 wr w1.heap.size (.slice va s.g.length vc) (.int .i64 s.a) (.bool s.n) ∧ OwnX wr (w1.heap.size + 1) (.slice va s.g.length vc) s.g ∧ Hid (RoomInv s k) ∧ Below w.heap.size w wr) (fun i _ => L.length - (intOf i).toNat)
    case atStart => exact ⟨0, wtNew, none, 0, Nat.zero_le _, rfl, HX0.out, OwnX.nil _ _, hideG RoomInv.new, HB2.out⟩
    case round =>
      obtain ⟨k, s, va, vc, hk, rfl, hbx, how, HA, hbel⟩ := hrel
      have HBX := hideG hbx
      have HOW := hideG how
      have HBE := hideG hbel
      clear hbx how hbel
      by_cases hlt : k < L.length
      · obtain ⟨b, off, rfl, cx0⟩ := HI.out.at hlt
        have cx := cell_below HBE.out cx0
        have hcl := below_of_cell cx
        have HFEW := hideG (show fewG s.g 1000 from HA.out.few.mono (by omega))
        have hslo := HA.out.lo
        have hshi := HA.out.hi
        have hsl := HA.out.few.1
        generalize hx : L.getD k 0 = x at *
        clear hx cx0
        have c0 := HBX.out.c0
        have c1 := HBX.out.c1
        have c2 := HBX.out.c2
        have f0 := HBX.out.f0
        have f1 := HBX.out.f1
        have f2 := HBX.out.f2
        have clt := HBX.out.lt
        cases b0 : (bits BinOp.and IntKind.i64 x 3 == 0)
        · cases b1 : (bits BinOp.and IntKind.i64 x 3 == 1)
          · obtain ⟨s', hs'⟩ : ∃ s', wtOpen s (k : Int) = s' := ⟨_, rfl⟩
            have HQ := HA.out.opn (k : Int)
            rw [hs'] at HQ
            obtain ⟨hA', q1, q2, q3, q4⟩ := HQ
            have HA' := hideG hA'
            have HOPN := hideG (open_wt hs' HFEW.out _ wr HOW.out.grps)
            clear hs' HA hA'
            go_wp2_with fail
            refine HOPN.out.mono ?_
            rintro e w3 ⟨va', vc', rfl, ho, hb⟩
            have HX3 := hideG (HBX.out.call hb)
            have HO3 := hideG (ho.rebase (base' := w1.heap.size + 1) (by omega))
            have HB3 := hideG (mono_k HBE.out hb)
            clear ho hb c0 c1 c2 f0 f1 f2
            rw [q4]
            have c0 := HX3.out.c0
            have c1 := HX3.out.c1
            have c2 := HX3.out.c2
            have f0 := HX3.out.f0
            have f1 := HX3.out.f1
            have f2 := HX3.out.f2
            have clt3 := HX3.out.lt
            have hwl : IntKind.i64.wrap ((s.g.length : Int) + 1) = (s.g.length : Int) + 1 := by rw [IntKind.wrap_i64]; omega
            have k1 : ¬ ((s'.g.length : Int) < (s.g.length : Int)) := by omega
            have k2 : ¬ ((s.g.length : Int) + 1 < (s'.g.length : Int)) := by omega
            have hmx : 1 ≤ s.a := hslo
            have fin1 := hideG (HX3.out.set (.slice va' s'.g.length vc') (.int .i64 s'.a) (.bool true))
            have fin2 := hideG (HO3.out.set3 (X := w1.heap.size) (by omega) (.slice va' s'.g.length vc') (.int .i64 s'.a) (.bool true))
            have fin3 := hideG (set3_below (x := .slice va' s'.g.length vc') (y := .int .i64 s'.a) (z := .bool true) (R := w1.heap.size) HB3.out (by omega))
            by_cases hgt : (s.g.length : Int) < (s'.g.length : Int)
            · have k3 : ¬ (s.a ≤ (s.g.length : Int)) := by have := q3 (by omega); omega
              clear q1 q2 q3
              go_wp2_with fail
              go_roundw
              case rel => exact ⟨k + 1, s', va', vc', by omega, by go_num, by rw [q4]; exact fin1.out, fin2.out, hideG HA'.out, fin3.out⟩
              case measure => simp [intOf]; omega
            · clear q1 q2 q3
              go_wp2_with fail
              go_roundw
              case rel => exact ⟨k + 1, s', va', vc', by omega, by go_num, by rw [q4]; exact fin1.out, fin2.out, hideG HA'.out, fin3.out⟩
              case measure => simp [intOf]; omega
          · by_cases h2 : 2 ≤ s.a
            · have HQ := HA.out.close
              obtain ⟨hA', q1, q2⟩ := HQ
              have HA' := hideG hA'
              have hwb : IntKind.i64.wrap (s.a - 1) = s.a - 1 := by rw [IntKind.wrap_i64]; omega
              have hcl : clA s.a = (s.a - 1) := by rw [clA_eq (by omega) (by omega)]; omega
              have HSA := hideG (show (wtClose s).a = (s.a - 1) by show max s.a 2 - 1 = (s.a - 1); omega)
              clear hA' HA q1 q2
              go_wp2_with fail
              refine (close_wt (a' := (s.a - 1)) (l := toldL s) hcl rfl HFEW.out _ _ HOW.out.grps).mono ?_
              rintro e w3 ⟨va', vc', la, lc, rfl, ho, hi, hb⟩
              have HX3 := hideG (HBX.out.call hb)
              have HO3 := hideG (ho.rebase (base' := w1.heap.size + 1) (by omega))
              have HB3 := hideG (mono_k HBE.out hb)
              clear ho hb hi hcl c0 c1 c2 f0 f1 f2
              have c0 := HX3.out.c0
              have c1 := HX3.out.c1
              have c2 := HX3.out.c2
              have f0 := HX3.out.f0
              have f1 := HX3.out.f1
              have f2 := HX3.out.f2
              have clt3 := HX3.out.lt
              have hmx : 1 ≤ s.a - 1 := by omega
              have k3 : (((s.a - 1) : Int) != (s.a - 1 : Int)) = false := by simp
              go_wp2_with fail
              go_roundw
              case rel =>
                refine ⟨k + 1, wtClose s, va', vc', by omega, by go_num, ?_, ?_, hideG HA'.out, ?_⟩
                · rw [HSA.out]
                  exact (HX3.out.set _ _ _).alloc _
                · exact (HO3.out.set3 (by omega) _ _ _).alloc _
                · exact mono_k (set3_below HB3.out (by omega)) (alB _ _)
              case measure => simp [intOf]; omega
            · have HQ := HA.out.close
              obtain ⟨hA', q1, q2⟩ := HQ
              have HA' := hideG hA'
              have hwb : IntKind.i64.wrap (s.a - 1) = s.a - 1 := by rw [IntKind.wrap_i64]; omega
              have hcl : clA s.a = 1 := by rw [clA_eq (by omega) (by omega)]; omega
              have HSA := hideG (show (wtClose s).a = 1 by show max s.a 2 - 1 = 1; omega)
              clear hA' HA q1 q2
              go_wp2_with fail
              refine (close_wt (a' := 1) (l := toldL s) hcl rfl HFEW.out _ _ HOW.out.grps).mono ?_
              rintro e w3 ⟨va', vc', la, lc, rfl, ho, hi, hb⟩
              have HX3 := hideG (HBX.out.call hb)
              have HO3 := hideG (ho.rebase (base' := w1.heap.size + 1) (by omega))
              have HB3 := hideG (mono_k HBE.out hb)
              clear ho hb hi hcl c0 c1 c2 f0 f1 f2
              have c0 := HX3.out.c0
              have c1 := HX3.out.c1
              have c2 := HX3.out.c2
              have f0 := HX3.out.f0
              have f1 := HX3.out.f1
              have f2 := HX3.out.f2
              have clt3 := HX3.out.lt
              have hmx : ¬ (1 ≤ s.a - 1) := by omega
              have k3 : ((1 : Int) != (1 : Int)) = false := by simp
              go_wp2_with fail
              go_roundw
              case rel =>
                refine ⟨k + 1, wtClose s, va', vc', by omega, by go_num, ?_, ?_, hideG HA'.out, ?_⟩
                · rw [HSA.out]
                  exact (HX3.out.set _ _ _).alloc _
                · exact (HO3.out.set3 (by omega) _ _ _).alloc _
                · exact mono_k (set3_below HB3.out (by omega)) (alB _ _)
              case measure => simp [intOf]; omega
        · obtain ⟨s', hs'⟩ : ∃ s', wtAct s = s' := ⟨_, rfl⟩
          obtain ⟨s2, hs2⟩ : ∃ s2, wtAct s' = s2 := ⟨_, rfl⟩
          have HQ := HA.out.act
          rw [hs', hs2] at HQ
          obtain ⟨hA', q1, q2, q3, q4⟩ := HQ
          have HA' := hideG hA'
          have HF' := hideG (show fewG s'.g 1000 from hA'.few.mono (by omega))
          have HACT := hideG (act_wt hs' HFEW.out _ wr HOW.out.grps (by omega))
          have HACT2 := hideG (fun (gv : Value) (U : World) (h : GrpsAt U gv s'.g) => by
            have t := act_wt hs2 HF'.out gv U h (by have := hA'.lo; omega)
            rw [q3] at t
            exact t)
          clear hs' hs2 HA hA'
          go_wp2_with fail
          refine HACT.out.mono ?_
          rintro e w3 ⟨va', vc', rfl, ho, hb⟩
          have HX3 := hideG (HBX.out.call hb)
          have HO3 := hideG (ho.rebase (base' := w1.heap.size + 1) (by omega))
          have HB3 := hideG (mono_k HBE.out hb)
          clear ho hb c0 c1 c2 f0 f1 f2
          have c0 := HX3.out.c0
          have c1 := HX3.out.c1
          have c2 := HX3.out.c2
          have f0 := HX3.out.f0
          have f1 := HX3.out.f1
          have f2 := HX3.out.f2
          have clt3 := HX3.out.lt
          go_wp2_with fail
          obtain ⟨w4, hw4⟩ : ∃ w4, ((w3.setCell ⟨w1.heap.size, 0, none⟩ (.slice va' s'.g.length vc')).setCell ⟨w1.heap.size, 1, none⟩ (.int .i64 s'.a)).setCell ⟨w1.heap.size, 2, none⟩ (.bool false) = w4 := ⟨_, rfl⟩
          have HX4 := hideG (show Box3 w4 w1.heap.size (.slice va' s'.g.length vc') (.int .i64 s'.a) (.bool false) by rw [← hw4]; exact HX3.out.set _ _ _)
          have HO4 := hideG (show OwnX w4 (w1.heap.size + 1) (.slice va' s'.g.length vc') s'.g by rw [← hw4]; exact HO3.out.set3 (by omega) _ _ _)
          have HB4 := hideG (show Below w.heap.size w w4 by rw [← hw4]; exact set3_below HB3.out (by omega))
          rw [hw4]
          clear hw4 HX3 HO3 HB3 c0 c1 c2 f0 f1 f2 clt3
          refine (HACT2.out _ _ HO4.out.grps).mono ?_
          rintro e w5 ⟨vb, vd, rfl, ho5, hb5⟩
          have HX5 := hideG (HX4.out.call hb5)
          have HO5 := hideG (HO4.out.call hb5)
          have HB5 := hideG (mono_k HB4.out hb5)
          clear ho5 hb5 HX4 HO4 HB4
          have c0 := HX5.out.c0
          have c1 := HX5.out.c1
          have c2 := HX5.out.c2
          have f0 := HX5.out.f0
          have f1 := HX5.out.f1
          have f2 := HX5.out.f2
          have clt5 := HX5.out.lt
          have hwa : IntKind.i64.wrap (s.a + 1) = s.a + 1 := by rw [IntKind.wrap_i64]; omega
          have k1 : ¬ (s'.a < s.a) := by omega
          have k2 : ¬ (s.a + 1 < s'.a) := by omega
          have k3 : (s2.a != s'.a) = false := by rw [bne_eq_false_iff_eq]; exact q4
          go_wp2_with fail
          go_roundw
          case rel =>
            refine ⟨k + 1, s', va', vc', by omega, by go_num, ?_, HO5.out.alloc _, hideG HA'.out, mono_k HB5.out (alB _ _)⟩
            rw [q3]
            exact HX5.out.alloc _
          case measure => simp [intOf]; omega
      · go_wp2_with fail
        refine (live_any _).mono ?_
        rintro e w' ⟨rfl, hb⟩
        go_wp2_with fail
        go_ret
        exact ⟨rfl, mono_k HBE.out hb⟩
end Go.Proofs.Ytlgbiecgbdbefab
