/- LActs: the law on acts of the user. -/
import Derived.Test.YtlgbiecgbdbefabLBase
namespace Go.Proofs.Ytlgbiecgbdbefab
open Go.RowKit

set_option maxRecDepth 100000 in
set_option maxHeartbeats 8000000 in
theorem watchActs_walk (L : List Int) (v : Value) (w : World) (hI : IntsAt w v L) : Calls Try.prog 3 #[v] w fun e w' => e = .returned (.bool true) ∧ Below w.heap.size w w' := by
  obtain ⟨a, c, rfl⟩ := hI.shape
  have HI := hideG hI
  clear hI
  by_cases h60 : (60 : Int) < (L.length : Int)
  · go_enter Try.func3, Try.ntmps3
    go_wp2_with fail
    refine (live_any _).mono ?_
    rintro e w' ⟨rfl, hb⟩
    go_wp2_with fail
    go_ret
    exact ⟨rfl, hb⟩
  · go_enter Try.func3, Try.ntmps3
    go_wp2_with fail
    refine (new_any w).mono ?_
    rintro e w1 ⟨rfl, hb1⟩
    have HB1 := hideG hb1
    clear hb1
    go_wp2_with fail
    obtain ⟨W2, hW2⟩ : ∃ W2, w1.alloc (.cells #[.slice none 0 0, .int .i64 1, .bool true] 26) = W2 := ⟨_, rfl⟩
    have HX0 := hideG (show Box3 W2 w1.heap.size (.slice none 0 0) (.int .i64 1) (.bool true) by rw [← hW2]; exact Box3.new _ _ _ _ _)
    have HB2 := hideG (show Below w.heap.size w W2 by rw [← hW2]; exact mono_k HB1.out (alB _ _))
    have hX1 := HB1.out.size
    rw [hW2]
    clear hW2
    go_loopw [4, 5, 6] (fun ac op i wr => ∃ (k : Nat) (s : Wt) (acts : Int) (opened : Bool) (va : Option Addr) (vc : Nat), k ≤ L.length ∧ ac = .int .i64 acts ∧ op = .bool opened ∧ i = .int .i64 (k : Int) ∧ Box3 wr w1.heap.size (.slice va s.g.length vc) (.int .i64 s.a) (.bool s.n) ∧ OwnX wr (w1.heap.size + 1) (.slice va s.g.length vc) s.g ∧ Hid (ActInv s k acts opened) ∧ Below w.heap.size w wr) (fun _ _ i _ => L.length - (intOf i).toNat)
    case atStart => exact ⟨0, wtNew, 0, false, none, 0, Nat.zero_le _, rfl, rfl, rfl, HX0.out, OwnX.nil _ _, hideG ActInv.new, HB2.out⟩
    case round =>
      obtain ⟨k, s, acts, opened, va, vc, hk, rfl, rfl, rfl, hbx, how, HA, hbel⟩ := hrel
      have HBX := hideG hbx
      have HOW := hideG how
      have HBE := hideG hbel
      clear hbx how hbel
      by_cases hlt : k < L.length
      · obtain ⟨b, off, rfl, cx0⟩ := HI.out.at hlt
        have cx := cell_below HBE.out cx0
        have hcl := below_of_cell cx
        have HFEW := hideG (show fewG s.g 1000 from HA.out.few.mono (by omega))
        have hacts0 := HA.out.act0
        have hacts1 := HA.out.act1
        have hslo := HA.out.lo
        generalize hx : L.getD k 0 = x at *
        have HCX0 := hideG cx0
        clear hx cx0
        have hwa : IntKind.i64.wrap (acts + 1) = acts + 1 := by rw [IntKind.wrap_i64]; omega
        have c0 := HBX.out.c0
        have c1 := HBX.out.c1
        have c2 := HBX.out.c2
        have f0 := HBX.out.f0
        have f1 := HBX.out.f1
        have f2 := HBX.out.f2
        have clt := HBX.out.lt
        by_cases hxn : x < 0
        · cases opened
          · by_cases ha0 : acts = 0
            · subst ha0
              obtain ⟨s', hs'⟩ : ∃ s', wtAct s = s' := ⟨_, rfl⟩
              have HACT := hideG (act_wt hs' HFEW.out _ wr HOW.out.grps (by omega))
              have HA' := hideG (show ActInv s' (k + 1) (0 + 1) false by have h := HA.out.act; rw [hs'] at h; exact h)
              clear hs' HA
              go_wp2_with fail
              refine HACT.out.mono ?_
              rintro e w3 ⟨va', vc', rfl, ho, hb⟩
              have HX3 := hideG (HBX.out.call hb)
              have HO3 := hideG ho
              have HB3 := hideG (mono_k HBE.out hb)
              have hsz := hb.size
              clear ho hb c0 c1 c2 f0 f1 f2
              have c0 := HX3.out.c0
              have c1 := HX3.out.c1
              have c2 := HX3.out.c2
              have f0 := HX3.out.f0
              have f1 := HX3.out.f1
              have f2 := HX3.out.f2
              have clt3 := HX3.out.lt
              go_wp2_with fail
              go_roundw
              case rel =>
                refine ⟨k + 1, s', 0 + 1, false, va', vc', by omega, rfl, rfl, by go_num, HX3.out.set _ _ _, ?_, hideG HA'.out, set3_below HB3.out (by omega)⟩
                exact (HO3.out.rebase (by omega)).set3 (by omega) _ _ _
              case measure => simp [intOf]; omega
            · have hab : (acts == 0) = false := by rw [beq_eq_false_iff_ne]; exact ha0
              obtain ⟨s', hs'⟩ : ∃ s', wtAct s = s' := ⟨_, rfl⟩
              have HACT := hideG (act_wt hs' HFEW.out _ wr HOW.out.grps (by omega))
              have HA' := hideG (show ActInv s' (k + 1) (acts) false by have h := HA.out.act; rw [hs'] at h; rw [hab] at h; exact h)
              clear hs' HA
              go_wp2_with fail
              refine HACT.out.mono ?_
              rintro e w3 ⟨va', vc', rfl, ho, hb⟩
              have HX3 := hideG (HBX.out.call hb)
              have HO3 := hideG ho
              have HB3 := hideG (mono_k HBE.out hb)
              have hsz := hb.size
              clear ho hb c0 c1 c2 f0 f1 f2
              have c0 := HX3.out.c0
              have c1 := HX3.out.c1
              have c2 := HX3.out.c2
              have f0 := HX3.out.f0
              have f1 := HX3.out.f1
              have f2 := HX3.out.f2
              have clt3 := HX3.out.lt
              go_wp2_with fail
              go_roundw
              case rel =>
                refine ⟨k + 1, s', acts, false, va', vc', by omega, rfl, rfl, by go_num, HX3.out.set _ _ _, ?_, hideG HA'.out, set3_below HB3.out (by omega)⟩
                exact (HO3.out.rebase (by omega)).set3 (by omega) _ _ _
              case measure => simp [intOf]; omega
          · obtain ⟨s', hs'⟩ : ∃ s', wtAct s = s' := ⟨_, rfl⟩
            have HACT := hideG (act_wt hs' HFEW.out _ wr HOW.out.grps (by omega))
            have HA' := hideG (show ActInv s' (k + 1) (acts + 1) false by have h := HA.out.act; rw [hs'] at h; exact h)
            clear hs' HA
            go_wp2_with fail
            refine HACT.out.mono ?_
            rintro e w3 ⟨va', vc', rfl, ho, hb⟩
            have HX3 := hideG (HBX.out.call hb)
            have HO3 := hideG ho
            have HB3 := hideG (mono_k HBE.out hb)
            have hsz := hb.size
            clear ho hb c0 c1 c2 f0 f1 f2
            have c0 := HX3.out.c0
            have c1 := HX3.out.c1
            have c2 := HX3.out.c2
            have f0 := HX3.out.f0
            have f1 := HX3.out.f1
            have f2 := HX3.out.f2
            have clt3 := HX3.out.lt
            go_wp2_with fail
            go_roundw
            case rel =>
              refine ⟨k + 1, s', acts + 1, false, va', vc', by omega, rfl, rfl, by go_num, HX3.out.set _ _ _, ?_, hideG HA'.out, set3_below HB3.out (by omega)⟩
              exact (HO3.out.rebase (by omega)).set3 (by omega) _ _ _
            case measure => simp [intOf]; omega
        · obtain ⟨s', hs'⟩ : ∃ s', wtOpen s x = s' := ⟨_, rfl⟩
          have HOPN := hideG (fun (U : World) (hb : Below wr.heap.size wr U) => open_wt hs' HFEW.out _ U (HOW.out.grps.below hb))
          have HA' := hideG (show ActInv s' (k + 1) acts true by have h := HA.out.opn x; rw [hs'] at h; exact h)
          have HTD := hideG (show (toldL s').getD 0 0 = x ∧ 0 < (toldL s').length ∧ (toldL s').length = (lastG s'.g).length by rw [← hs']; exact open_told)
          obtain ⟨pl, hpl, hg1⟩ := open_last (s := s) (x := x)
          rw [hs'] at hg1
          clear hs' HA hpl pl
          have HCX := hideG (show w.cell? ⟨b, off + k, none⟩ = some (.int .i64 x) from HCX0.out)
          go_wp2_with fail
          refine wp_region_inv (fun l ac U => ∃ z : Nat → Value, ac = { tmps := #[Value.slice (some { block := b, off := off }) L.length c, undef, u2, Value.pointer (some { block := w1.heap.size, off := 0 }), Value.int IntKind.i64 acts, Value.bool true, Value.int IntKind.i64 ((k : Nat) : Int), u7, u8, Value.slice (some { block := b, off := off }) L.length c, Value.int IntKind.i64 ((L.length : Nat) : Int), Value.bool false, undef, Value.agg #[Value.slice none 0 0, Value.int IntKind.i64 1, Value.bool true], Value.int IntKind.i64 ((k : Nat) : Int), Value.slice (some { block := b, off := off }) L.length c, Value.int IntKind.i64 ((L.length : Nat) : Int), Value.bool true, u18, u19, Value.slice (some { block := b, off := off }) L.length c, Value.int IntKind.i64 ((k : Nat) : Int), Value.pointer (some { block := b, off := off + k }), Value.int IntKind.i64 x, Value.bool false, u25, u26, u27, u28, u29, u30, u31, u32, u33, z 0, z 1, z 2, z 3, z 4, z 5, u40, u41, u42, u43, u44, u45, u46, u47, u48, u49, u50, u51, u52, u53, u54, u55, u56, u57, u58, u59, u60, u61, u62, u63, u64, u65, u66, u67, u68, u69, u70, u71, u72, u73, u74, u75, u76, u77, u78, u79, u80, u81, u82, u83, undef], defers := [] } ∧ Hid (TabZ 7 (PureP [.agg #[.slice va s.g.length vc, .int .i64 s.a, .bool s.n], .slice (some ⟨b, off, none⟩) L.length c, .int .i64 ((k : Nat) : Int), .pointer (some ⟨b, off + k, none⟩), .int .i64 x, undef, undef] [true, true, true, true, true, false, false]) l z U) ∧ Hid ((l.getD 5 true = false ∧ l.getD 6 true = false ∧ (Below wr.heap.size wr U)) ∨ (l.getD 5 true = true ∧ l.getD 6 true = false ∧ l.getD 0 true = true ∧ (∃ (va' : Option Addr) (vc' : Nat), (z 5) = .agg #[.slice va' s'.g.length vc', .int .i64 s'.a, .bool s'.n] ∧ OwnX U (w1.heap.size + 1) (.slice va' s'.g.length vc') s'.g ∧ Below wr.heap.size wr U)) ∨ (l.getD 5 true = true ∧ l.getD 6 true = true ∧ l.getD 0 true = true ∧ (∃ (va' : Option Addr) (vc' : Nat), (z 5) = .agg #[.slice va' s'.g.length vc', .int .i64 s'.a, .bool s'.n] ∧ Box3 U w1.heap.size (.slice va' s'.g.length vc') (.int .i64 s'.a) (.bool s'.n) ∧ OwnX U (w1.heap.size + 1) (.slice va' s'.g.length vc') s'.g ∧ Below w.heap.size w U)))) (by kernel_rfl) (by kernel_rfl) ?_ ?_ ?_
          · exact ⟨fun k => ([u34, u35, u36, u37, u38, u39, undef] : List Value).getD k undef, rfl, hideG TabZ.start, hideG (.inl ⟨rfl, rfl, ((Below.refl _ _).drew)⟩)⟩
          · intro i l ac U hi hInv
            obtain ⟨z, ha, hz, hst⟩ := hInv
            subst ha
            obtain ⟨hun, o, ho, _⟩ := mem_ready.mp hi
            have hlt8 := (Array.getElem?_eq_some_iff.mp ho).1
            clear ho
            simp only [List.size_toArray, List.length_cons, List.length_nil, Nat.reduceAdd] at hlt8
            obtain rfl | rfl | rfl | rfl | rfl | rfl | rfl : i = 0 ∨ i = 1 ∨ i = 2 ∨ i = 3 ∨ i = 4 ∨ i = 5 ∨ i = 6 := by omega
            · have hbel : Below wr.heap.size wr U := by
                rcases hst.out with ⟨_, _, h⟩ | ⟨_, _, h, _⟩ | ⟨_, _, h, _⟩
                · exact h
                · exact absurd (hun.symm.trans h) (by decide)
                · exact absurd (hun.symm.trans h) (by decide)
              have hB0 := HBX.out.call hbel
              have c0 := hB0.c0
              have c1 := hB0.c1
              have c2 := hB0.c2
              have hltx := hB0.lt
              refine inv_step (by rfl) (fun K hK => ?_)
              go_simp
              refine hK.out _ _ ⟨upZ z 0 (.agg #[.slice va s.g.length vc, .int .i64 s.a, .bool s.n]), rfl, hideG (TabZ.step hz.out rfl), hideG ?_⟩
              have HST := hst.out
              clear hst hz hi hK
              simp only [flag_ne (show 0 ≠ 5 from by decide), flag_ne (show 0 ≠ 6 from by decide)]
              have EZ : upZ z 0 (.agg #[.slice va s.g.length vc, .int .i64 s.a, .bool s.n]) 5 = z 5 ∧ upZ z 0 (.agg #[.slice va s.g.length vc, .int .i64 s.a, .bool s.n]) 6 = z 6 := ⟨by simp [upZ], by simp [upZ]⟩
              obtain ⟨E5, E6⟩ := EZ
              try rw [E5]
              try rw [E6]
              rcases HST with h | h | h
              · exact .inl h
              · exact absurd (hun.symm.trans h.2.2.1) (by decide)
              · exact absurd (hun.symm.trans h.2.2.1) (by decide)
            · refine inv_step (by rfl) (fun K hK => ?_)
              go_simp
              refine hK.out _ _ ⟨upZ z 1 (.slice (some ⟨b, off, none⟩) L.length c), rfl, hideG (TabZ.step hz.out rfl), hideG ?_⟩
              have HST := hst.out
              clear hst hz hi hK
              simp only [flag_ne (show 1 ≠ 5 from by decide), flag_ne (show 1 ≠ 6 from by decide)]
              simp only [flag_ne (show 1 ≠ 0 from by decide)]
              have EZ : upZ z 1 (.slice (some ⟨b, off, none⟩) L.length c) 5 = z 5 ∧ upZ z 1 (.slice (some ⟨b, off, none⟩) L.length c) 6 = z 6 := ⟨by simp [upZ], by simp [upZ]⟩
              obtain ⟨E5, E6⟩ := EZ
              try rw [E5]
              try rw [E6]
              exact HST
            · refine inv_step (by rfl) (fun K hK => ?_)
              go_simp
              refine hK.out _ _ ⟨upZ z 2 (.int .i64 ((k : Nat) : Int)), rfl, hideG (TabZ.step hz.out rfl), hideG ?_⟩
              have HST := hst.out
              clear hst hz hi hK
              simp only [flag_ne (show 2 ≠ 5 from by decide), flag_ne (show 2 ≠ 6 from by decide)]
              simp only [flag_ne (show 2 ≠ 0 from by decide)]
              have EZ : upZ z 2 (.int .i64 ((k : Nat) : Int)) 5 = z 5 ∧ upZ z 2 (.int .i64 ((k : Nat) : Int)) 6 = z 6 := ⟨by simp [upZ], by simp [upZ]⟩
              obtain ⟨E5, E6⟩ := EZ
              try rw [E5]
              try rw [E6]
              exact HST
            · have e1 : z 1 = .slice (some ⟨b, off, none⟩) L.length c := hz.out 1 (by decide) (dep_of hi (d := 1) (by kernel_rfl))
              have e2 : z 2 = .int .i64 ((k : Nat) : Int) := hz.out 2 (by decide) (dep_of hi (d := 2) (by kernel_rfl))
              rw [e1, e2]
              refine inv_step (by rfl) (fun K hK => ?_)
              go_simp
              refine hK.out _ _ ⟨upZ (upZ (upZ z 1 (.slice (some ⟨b, off, none⟩) L.length c)) 2 (.int .i64 ((k : Nat) : Int))) 3 (.pointer (some ⟨b, off + k, none⟩)), rfl, hideG (TabZ.step (TabZ.fill (TabZ.fill hz.out e1) e2) rfl), hideG ?_⟩
              have HST := hst.out
              clear hst hz hi hK
              simp only [flag_ne (show 3 ≠ 5 from by decide), flag_ne (show 3 ≠ 6 from by decide)]
              simp only [flag_ne (show 3 ≠ 0 from by decide)]
              have EZ : upZ (upZ (upZ z 1 (.slice (some ⟨b, off, none⟩) L.length c)) 2 (.int .i64 ((k : Nat) : Int))) 3 (.pointer (some ⟨b, off + k, none⟩)) 5 = z 5 ∧ upZ (upZ (upZ z 1 (.slice (some ⟨b, off, none⟩) L.length c)) 2 (.int .i64 ((k : Nat) : Int))) 3 (.pointer (some ⟨b, off + k, none⟩)) 6 = z 6 := ⟨by simp [upZ], by simp [upZ]⟩
              obtain ⟨E5, E6⟩ := EZ
              try rw [E5]
              try rw [E6]
              exact HST
            · have e3 : z 3 = .pointer (some ⟨b, off + k, none⟩) := hz.out 3 (by decide) (dep_of hi (d := 3) (by kernel_rfl))
              have hbel : Below w.heap.size w U := by
                rcases hst.out with ⟨_, _, h⟩ | ⟨_, _, _, _, _, _, _, h⟩ | ⟨_, _, _, _, _, _, _, _, h⟩
                · exact mono_k HBE.out h
                · exact mono_k HBE.out h
                · exact h
              have cr := cell_below hbel HCX.out
              have hltr := below_of_cell cr
              rw [e3]
              refine inv_step (by rfl) (fun K hK => ?_)
              go_simp
              refine hK.out _ _ ⟨upZ (upZ z 3 (.pointer (some ⟨b, off + k, none⟩))) 4 (.int .i64 x), rfl, hideG (TabZ.step (TabZ.fill hz.out e3) rfl), hideG ?_⟩
              have HST := hst.out
              clear hst hz hi hK
              simp only [flag_ne (show 4 ≠ 5 from by decide), flag_ne (show 4 ≠ 6 from by decide)]
              simp only [flag_ne (show 4 ≠ 0 from by decide)]
              have EZ : upZ (upZ z 3 (.pointer (some ⟨b, off + k, none⟩))) 4 (.int .i64 x) 5 = z 5 ∧ upZ (upZ z 3 (.pointer (some ⟨b, off + k, none⟩))) 4 (.int .i64 x) 6 = z 6 := ⟨by simp [upZ], by simp [upZ]⟩
              obtain ⟨E5, E6⟩ := EZ
              try rw [E5]
              try rw [E6]
              exact HST
            · have e0 : z 0 = .agg #[.slice va s.g.length vc, .int .i64 s.a, .bool s.n] := hz.out 0 (by decide) (dep_of hi (d := 0) (by kernel_rfl))
              have e4 : z 4 = .int .i64 x := hz.out 4 (by decide) (dep_of hi (d := 4) (by kernel_rfl))
              rcases hst.out with hq | hq | hq
              · obtain ⟨b5, b6, hS⟩ := hq
                have hd_0 := dep_of hi (d := 0) (by kernel_rfl)
                rw [e0, e4]
                refine inv_step (by rfl) (fun K hK => ?_)
                go_simp
                go_at_call 11
                refine Calls.mono (HOPN.out U hS) ?_
                rintro e w5 ⟨va', vc', rfl, hx1, hb1⟩
                go_wp2_with fail
                refine hK.out _ _ ⟨upZ (upZ (upZ z 0 (.agg #[.slice va s.g.length vc, .int .i64 s.a, .bool s.n])) 4 (.int .i64 x)) 5 (.agg #[.slice va' s'.g.length vc', .int .i64 s'.a, .bool s'.n]), rfl, hideG (TabZ.step (TabZ.mono (TabZ.fill (TabZ.fill hz.out e0) e4) (fun _ _ h => h)) trivial), hideG (.inr (.inl ⟨flag_self, flag_ne' (by decide) b6, flag_ne' (by decide) (hd_0), ?_⟩))⟩
                exact ⟨va', vc', by simp [upZ], hx1.rebase (by have h1 := HBX.out.lt; have h3 := hS.size; omega), hS.trans (hb1.mono hS.size)⟩
              · exact absurd (hun.symm.trans hq.1) (by decide)
              · exact absurd (hun.symm.trans hq.1) (by decide)
            · have q5 := dep_of hi (d := 5) (by kernel_rfl)
              rcases hst.out with hq | hq | hq
              · exact absurd (q5.symm.trans hq.1) (by decide)
              · obtain ⟨b5, b6, g0, hS⟩ := hq
                obtain ⟨va', vc', e5, ho, hbel⟩ := hS
                have hB0 := HBX.out.call hbel
                have c0 := hB0.c0
                have c1 := hB0.c1
                have c2 := hB0.c2
                have f0 := hB0.f0
                have f1 := hB0.f1
                have f2 := hB0.f2
                have hltx := hB0.lt
                have hd_0 := dep_of hi (d := 5) (by kernel_rfl)
                rw [e5]
                refine inv_step (by rfl) (fun K hK => ?_)
                go_simp
                refine hK.out _ _ ⟨upZ (upZ z 5 (.agg #[.slice va' s'.g.length vc', .int .i64 s'.a, .bool s'.n])) 6 (undef), rfl, hideG (TabZ.step (TabZ.mono (TabZ.fill hz.out e5) (fun _ _ h => h)) trivial), hideG (.inr (.inr (⟨flag_ne' (by decide) b5, flag_self, flag_ne' (by decide) g0, ?_⟩)))⟩
                exact ⟨va', vc', by simp [upZ], hB0.set _ _ _, ho.set3 (by omega) _ _ _, set3_below (mono_k HBE.out hbel) (by omega)⟩
              · exact absurd (hun.symm.trans hq.2.1) (by decide)
          · intro l ac U hall hInv
            obtain ⟨z, ha, hz, hst⟩ := hInv
            subst ha
            have e0 : z 0 = .agg #[.slice va s.g.length vc, .int .i64 s.a, .bool s.n] := hz.out 0 (by decide) (hall 0 (by decide))
            have e1 : z 1 = .slice (some ⟨b, off, none⟩) L.length c := hz.out 1 (by decide) (hall 1 (by decide))
            have e2 : z 2 = .int .i64 ((k : Nat) : Int) := hz.out 2 (by decide) (hall 2 (by decide))
            have e3 : z 3 = .pointer (some ⟨b, off + k, none⟩) := hz.out 3 (by decide) (hall 3 (by decide))
            have e4 : z 4 = .int .i64 x := hz.out 4 (by decide) (hall 4 (by decide))
            rcases hst.out with hq | hq | hq
            · exact absurd ((hall 5 (by decide)).symm.trans hq.1) (by decide)
            · exact absurd ((hall 6 (by decide)).symm.trans hq.2.1) (by decide)
            · obtain ⟨_, _, _, hS⟩ := hq
              clear hz hall hst
              rw [e0, e1, e2, e3, e4]
              obtain ⟨va', vc', e5, hbx', how', hbl'⟩ := hS
              rw [e5]
              have HX5 := hideG hbx'
              have HO5 := hideG how'
              have HB5 := hideG hbl'
              clear hbx' how' hbl' c0 c1 c2 f0 f1 f2
              have c0 := HX5.out.c0
              have c1 := HX5.out.c1
              have c2 := HX5.out.c2
              have clt5 := HX5.out.lt
              have hlen := HA'.out.len
              have hfew' := HA'.out.few.1
              have h16 : ¬ (acts + 1 < (s'.g.length : Int)) := by omega
              have h17 : ¬ ((s'.g.length : Int) < 1) := by omega
              go_wp2_with fail
              refine (close_wt (a' := clA s'.a) (l := toldL s') rfl rfl (HA'.out.few.mono (by omega)) _ _ HO5.out.grps).mono ?_
              rintro e w6 ⟨vb, vd, la, lc, rfl, ho6, hi6, hb6⟩
              obtain ⟨WB, hWB⟩ : ∃ WB, w6.alloc (.cells #[.slice vb s'.g.length vd, .int .i64 (clA s'.a), .bool s'.n] 26) = WB := ⟨_, rfl⟩
              have hbB : Below U.heap.size U WB := by rw [← hWB]; exact hb6.trans ((alB _ _).mono hb6.size)
              have HI6 := hideG (show IntsAt WB (.slice la (toldL s').length lc) (toldL s') by rw [← hWB]; exact hi6.below (alB _ _))
              have HX6 := hideG (HX5.out.call hbB)
              have HO6 := hideG (HO5.out.call hbB)
              have HB6 := hideG (mono_k HB5.out hbB)
              have HWB := hideG hWB
              clear hWB ho6 hi6 hb6 hbB c0 c1 c2
              obtain ⟨m, hm⟩ : ∃ m, s'.g.length = m + 1 := ⟨s'.g.length - 1, by omega⟩
              have hw : IntKind.i64.wrap ((s'.g.length : Int) - 1) = (m : Int) := by rw [IntKind.wrap_i64]; omega
              have hm0 : (0 : Int) ≤ (m : Int) := by omega
              have hm1 : (m : Int) < (s'.g.length : Int) := by omega
              obtain ⟨bg, og, ra, rc, rfl, cr, _⟩ := HO6.out.grps.at (j := m) (by omega)
              have HLL := hideG (show (toldL s').length = (s'.g.getD m []).length by rw [HTD.out.2.2]; unfold lastG; rw [show s'.g.length - 1 = m by omega])
              have HL0 := HTD.out.2.1
              obtain ⟨bl, ol, rfl, cl⟩ := HI6.out.at (j := 0) HL0
              rw [HTD.out.1, Nat.add_zero] at cl
              have cxx := cell_below HB6.out HCX.out
              have cltx := below_of_cell cxx
              have cltl := below_of_cell cl
              have cltr := below_of_cell cr
              have hll := HLL.out
              have HGM := hideG hm
              generalize (toldL s').length = nl at *
              generalize (s'.g.getD m []).length = nr at *
              clear hm
              subst hll
              have hnl0 : ¬ ((nl : Int) < 1) := by omega
              have hnl1 : (0 : Int) < (nl : Int) := by omega
              have c0 := HX6.out.c0
              have clt6 := HX6.out.lt
              go_wp2_with fail
              rw [HWB.out]
              go_quiet (fail)
              go_wp2_with fail
              go_roundw
              case rel => exact ⟨k + 1, s', acts, true, some ⟨bg, og, none⟩, vc', by omega, rfl, rfl, by go_num, HX6.out.call (below_drewN (Below.refl _ _) _), HO6.out.call (below_drewN (Below.refl _ _) _), hideG HA'.out, below_drewN HB6.out _⟩
              case measure => simp [intOf]; omega
      · go_wp2_with fail
        refine (live_any _).mono ?_
        rintro e w' ⟨rfl, hb⟩
        go_wp2_with fail
        go_ret
        exact ⟨rfl, mono_k HBE.out hb⟩
end Go.Proofs.Ytlgbiecgbdbefab
