/- LOthers: the law on groups that are not the last one. -/
import Derived.Test.YtlgbiecgbdbefabLBase
namespace Go.Proofs.Ytlgbiecgbdbefab
open Go.RowKit

theorem open_same {s : Wt} {x : Int} {j : Nat} (h : j + 1 < s.g.length) : (wtOpen s x).g.getD j [] = s.g.getD j [] := by
  unfold wtOpen
  dsimp only
  split
  · exact getD_app_lt (by omega)
  · rw [List.getD_eq_getElem?_getD, List.getElem?_set, if_neg (by omega), ← List.getD_eq_getElem?_getD]
def flatG (g : List (List Int)) : List Int := g.flatten
theorem flat_drop (g : List (List Int)) (x : Int) : flatG (dropG g x) = flatG (g.map (woL x)) := by
  unfold dropG flatG
  induction g.map (woL x) with
  | nil => rfl
  | cons l t ih =>
    rw [List.filter_cons]
    split
    · rw [List.flatten_cons, List.flatten_cons, ih]
    · rename_i h
      have : l = [] := by
        cases l with
        | nil => rfl
        | cons a l => simp at h
      rw [this, List.flatten_cons, List.nil_append, ih]
theorem flat_few {g : List (List Int)} {m : Nat} (h : ∀ l, l ∈ g → l.length ≤ m) : (flatG g).length ≤ g.length * m := by
  unfold flatG
  induction g with
  | nil => simp
  | cons l t ih =>
    rw [List.flatten_cons, List.length_append, List.length_cons]
    have h1 := h l (by simp)
    have h2 := ih (fun l hl => h l (by simp [hl]))
    have : (t.length + 1) * m = t.length * m + m := Nat.succ_mul _ _
    omega
/-- All but n of the groups ahead of i, and of the first k of group i. -/
def aL (g : List (List Int)) (x : Int) (i k : Nat) : List Int := ((g.take i).map (woL x)).flatten ++ woL x ((g.getD i []).take k)
theorem aL_few {g : List (List Int)} {x : Int} (h : fewG g 60) (i k : Nat) : (aL g x i k).length ≤ 10000 := by
  unfold aL
  rw [List.length_append]
  have h1 := flat_few (g := (g.take i).map (woL x)) (m := 60) (fun l hl => by
    obtain ⟨r, hr, rfl⟩ := List.mem_map.mp hl
    exact Nat.le_trans (woL_length x r) (h.2 r (List.mem_of_mem_take hr)))
  unfold flatG at h1
  have h2 : ((g.take i).map (woL x)).length ≤ 60 := by rw [List.length_map, List.length_take]; have := h.1; omega
  have h3 := woL_length x ((g.getD i []).take k)
  have h4 : ((g.getD i []).take k).length ≤ 60 := by rw [List.length_take]; have := h.row (j := i); omega
  have h5 : ((g.take i).map (woL x)).length * 60 ≤ 60 * 60 := Nat.mul_le_mul_right _ h2
  omega
theorem aL_start (g : List (List Int)) (x : Int) : aL g x 0 0 = [] := by simp [aL, woL]
theorem aL_next {g : List (List Int)} {x : Int} {i : Nat} (h : i < g.length) : aL g x i (g.getD i []).length = aL g x (i + 1) 0 := by
  unfold aL
  rw [List.take_length, take_snoc (d := []) h, List.map_append, List.flatten_append]
  simp [woL]
theorem aL_keep {g : List (List Int)} {x : Int} {i k : Nat} (h : k < (g.getD i []).length) (hx : (g.getD i []).getD k 0 ≠ x) : aL g x i (k + 1) = aL g x i k ++ [(g.getD i []).getD k 0] := by
  unfold aL woL
  rw [filter_takeI h, if_pos (by simpa using hx), List.append_assoc]
theorem aL_skip {g : List (List Int)} {x : Int} {i k : Nat} (h : k < (g.getD i []).length) (hx : (g.getD i []).getD k 0 = x) : aL g x i (k + 1) = aL g x i k := by
  unfold aL woL
  rw [filter_takeI h, if_neg (by simpa using hx), List.append_nil]
theorem aL_done (g : List (List Int)) (x : Int) : aL g x g.length 0 = flatG (g.map (woL x)) := by simp [aL, woL, flatG]
theorem flat_snoc {g : List (List Int)} {r : Nat} (h : r < g.length) : flatG (g.take (r + 1)) = flatG (g.take r) ++ g.getD r [] := by
  unfold flatG
  rw [take_snoc (d := []) h, List.flatten_append]
  simp
set_option maxRecDepth 100000 in
set_option maxHeartbeats 8000000 in
theorem watchOthers_walk (s : Wt) (gv : Value) (n : Int) (w : World) (hG : GrpsAt w gv s.g) : Calls Try.prog 7 #[.agg #[gv, .int .i64 s.a, .bool s.n], .int .i64 n] w fun e w' => e = .returned (.bool true) ∧ Below w.heap.size w w' := by
  obtain ⟨i3, hi3, hz30, hz31, hz32⟩ := info_parts infoT3
  obtain ⟨ga, gc, rfl⟩ := hG.shape
  obtain ⟨W1, hW1⟩ : ∃ W1, w.alloc (.cells #[.slice ga s.g.length gc, .int .i64 s.a, .bool s.n] 33) = W1 := ⟨_, rfl⟩
  have HB := hideG (show Below w.heap.size w W1 by rw [← hW1]; exact alB _ _)
  have HX := hideG (show Box3 W1 w.heap.size (.slice ga s.g.length gc) (.int .i64 s.a) (.bool s.n) by rw [← hW1]; exact Box3.new _ _ _ _ _)
  have HG := hideG (hG.below HB.out)
  have HW1 := hideG hW1
  clear hW1 hG
  have HSM := hideG (small_any s.g _ s.a s.n W1 HG.out)
  cases hs : smallG s.g
  · rw [hs] at HSM
    clear hs
    go_enter Try.func7, Try.ntmps7
    go_wp2_with fail
    rw [HW1.out]
    refine HSM.out.mono ?_
    rintro e w1 ⟨rfl, hb1⟩
    go_wp2_with fail
    refine (live_any _).mono ?_
    rintro e w2 ⟨rfl, hb2⟩
    go_wp2_with fail
    go_ret
    exact ⟨rfl, mono_k (mono_k HB.out hb1) hb2⟩
  · rw [hs] at HSM
    have HFW := hideG (of_decide_eq_true hs : fewG s.g 60)
    clear hs
    have hgl := HFW.out.1
    obtain ⟨s', hs'⟩ : ∃ s', wtOpen s n = s' := ⟨_, rfl⟩
    have HSAME := hideG (fun (j : Nat) (h : j + 1 < s.g.length) => show s'.g.getD j [] = s.g.getD j [] by rw [← hs']; exact open_same h)
    have HLE := hideG (show s.g.length ≤ s'.g.length by rw [← hs', open_len]; split <;> omega)
    have HF' := hideG (show fewG s'.g 61 by rw [← hs']; exact open_few HFW.out)
    have HOPN := hideG (fun (gv : Value) (U : World) (h : GrpsAt U gv s.g) => open_wt hs' (HFW.out.mono (by omega)) gv U h)
    clear hs'
    have hle := HLE.out
    have hf1 := HF'.out.1
    go_enter Try.func7, Try.ntmps7
    go_wp2_with fail
    rw [HW1.out]
    refine HSM.out.mono ?_
    rintro e w1 ⟨rfl, hb1⟩
    have HB1 := hideG (mono_k HB.out hb1)
    have HX1 := hideG (HX.out.call hb1)
    have HG1 := hideG (HG.out.below hb1)
    clear hb1 HSM HX HG
    have c0 := HX1.out.c0
    have c1 := HX1.out.c1
    have c2 := HX1.out.c2
    have clt := HX1.out.lt
    go_wp2_with fail
    refine (own_any _ _ _ _ _ _).mono ?_
    rintro e w2 ⟨rfl, hb2⟩
    have HB2 := hideG (mono_k HB1.out hb2)
    have HX2 := hideG (HX1.out.call hb2)
    have HG2 := hideG (HG1.out.below hb2)
    clear hb2 HX1 HG1 c0 c1 c2 clt HB1
    go_wp2_with fail
    refine (HOPN.out _ _ HG2.out).mono ?_
    rintro e w3 ⟨vb, vd, rfl, ho3, hb3⟩
    have HB3 := hideG (mono_k HB2.out hb3)
    have HX3 := hideG (HX2.out.call hb3)
    have HG3 := hideG (HG2.out.below hb3)
    have HO3 := hideG ho3.grps
    clear hb3 HX2 HG2 HB2 ho3
    go_wp2_with fail
    refine (told_any _ _ _ _ _ _).mono ?_
    rintro e w4 ⟨rfl, hb4⟩
    obtain ⟨W5, hW5⟩ : ∃ W5, w4.alloc (.cells #[.slice vb s'.g.length vd, .int .i64 s'.a, .bool s'.n] 33) = W5 := ⟨_, rfl⟩
    have hb5 : Below w3.heap.size w3 W5 := by rw [← hW5]; exact hb4.trans ((alB _ _).mono hb4.size)
    have HY5 := hideG (show Box3 W5 w4.heap.size (.slice vb s'.g.length vd) (.int .i64 s'.a) (.bool s'.n) by rw [← hW5]; exact Box3.new _ _ _ _ _)
    have HB5 := hideG (mono_k HB3.out hb5)
    have HX5 := hideG (HX3.out.call hb5)
    have HG5 := hideG (HG3.out.below hb5)
    have HO5 := hideG (HO3.out.below hb5)
    have HX4 := hideG (HX3.out.call hb4)
    have HW5 := hideG hW5
    clear hb4 hb5 hW5 HX3 HG3 HB3 HO3
    have c0 := HX4.out.c0
    have clt := HX4.out.lt
    have h4 : ¬ ((s'.g.length : Int) < (s.g.length : Int)) := by omega
    go_wp2_with fail
    rw [HW5.out]
    rw [show decide (s'.g.length < s.g.length) = false from decide_eq_false (by omega)]
    clear HW5 c0 clt HX4
    go_loopw [6] (fun i wr => ∃ k : Nat, k ≤ s.g.length ∧ i = .int .i64 (k : Int) ∧ Below W5.heap.size W5 wr) (fun i _ => s.g.length - (intOf i).toNat)
    case atStart => exact ⟨0, Nat.zero_le _, rfl, Below.refl _ _⟩
    case round =>
      obtain ⟨k, hk, rfl, hBk⟩ := hrel
      have HBK := hideG hBk
      have HXK := hideG (HX5.out.call hBk)
      have HYK := hideG (HY5.out.call hBk)
      clear hBk
      have hwk : IntKind.i64.wrap ((k : Int) + 1) = (k : Int) + 1 := by rw [IntKind.wrap_i64]; omega
      have c0 := HXK.out.c0
      have clt := HXK.out.lt
      have d0 := HYK.out.c0
      have dlt := HYK.out.lt
      by_cases hlt : (k : Int) + 1 < (s.g.length : Int)
      · obtain ⟨b, off, ra, rc, rfl, cr, hI⟩ := HG5.out.at (j := k) (by omega)
        obtain ⟨b', off', ra', rc', rfl, cr', hI'⟩ := HO5.out.at (j := k) (by omega)
        rw [HSAME.out k (by omega)] at cr' hI'
        have HRL := hideG (HFW.out.row (j := k))
        generalize s.g.getD k [] = row at *
        have HCR := hideG cr
        have HCR' := hideG cr'
        have HI := hideG hI
        have HI' := hideG hI'
        have hrl := HRL.out
        have hk0 : (0 : Int) ≤ (k : Int) := by omega
        have hk1 : (k : Int) < (s.g.length : Int) := by omega
        have hk2 : (k : Int) < (s'.g.length : Int) := by omega
        clear cr cr' hI hI'
        go_wp2_with fail
        have HST0 := hideG (show Below W5.heap.size W5 wr.drew from HBK.out.drew)
        refine wp_region_inv (fun l ac U => ∃ z : Nat → Value, ac = { tmps := #[Value.agg #[Value.slice (some { block := b, off := off }) s.g.length gc, Value.int IntKind.i64 s.a, Value.bool s.n], Value.int IntKind.i64 n, Value.pointer (some { block := w.heap.size, off := 0 }), undef, u4, Value.pointer (some { block := w4.heap.size, off := 0 }), Value.int IntKind.i64 ((k : Nat) : Int), undef, undef, undef, undef, undef, undef, Value.agg #[Value.slice (some { block := b, off := off }) s.g.length gc, Value.int IntKind.i64 s.a, Value.bool s.n], Value.bool true, Value.bool false, undef, Value.agg #[Value.slice (some { block := b, off := off }) s.g.length gc, Value.int IntKind.i64 s.a, Value.bool s.n], Value.agg #[Value.slice (some { block := b, off := off }) s.g.length gc, Value.int IntKind.i64 s.a, Value.bool s.n], Value.int IntKind.i64 n, Value.agg #[Value.slice (some { block := b', off := off' }) s'.g.length vd, Value.int IntKind.i64 s'.a, Value.bool s'.n], Value.agg #[Value.slice (some { block := b', off := off' }) s'.g.length vd, Value.int IntKind.i64 s'.a, Value.bool s'.n], Value.pointer (some { block := w4.heap.size, off := 0 }), Value.slice (some { block := b', off := off' }) s'.g.length vd, Value.int IntKind.i64 ((s'.g.length : Nat) : Int), Value.pointer (some { block := w.heap.size, off := 0 }), Value.slice (some { block := b, off := off }) s.g.length gc, Value.int IntKind.i64 ((s.g.length : Nat) : Int), .bool false, Value.int IntKind.i64 ((k : Nat) : Int), Value.int IntKind.i64 (((k : Nat) : Int) + 1), Value.pointer (some { block := w.heap.size, off := 0 }), Value.slice (some { block := b, off := off }) s.g.length gc, Value.int IntKind.i64 ((s.g.length : Nat) : Int), Value.bool true, u35, u36, z 0, z 1, z 2, z 3, z 4, z 5, z 6, z 7, z 8, z 9, z 10, z 11, undef, undef, undef, undef, undef, undef, undef, undef, undef, undef, undef, undef, undef, undef, undef, undef, undef, undef, undef, undef, undef, undef, undef, undef, undef, undef, undef, undef, undef, undef, undef, undef, undef, undef, undef, undef, undef, undef, undef, undef, undef, undef, undef, undef, undef, undef, undef, undef, undef, undef, undef, undef, undef, undef, undef, undef, undef, undef, undef, undef, undef, undef, undef, undef, undef, undef, undef, undef, undef, undef, undef, undef, undef, undef, undef, undef, undef, undef, undef, undef, undef, undef, undef, undef], defers := [] } ∧ Hid (TabZ 12 (PureP [.pointer (some ⟨w4.heap.size, 0, none⟩), .slice (some ⟨b', off', none⟩) s'.g.length vd, .int .i64 ((k : Nat) : Int), .pointer (some ⟨b', off' + k, none⟩), .slice ra' row.length rc', .pointer (some ⟨w.heap.size, 0, none⟩), .slice (some ⟨b, off, none⟩) s.g.length gc, .int .i64 ((k : Nat) : Int), .pointer (some ⟨b, off + k, none⟩), .slice ra row.length rc, undef, .bool false] [true, true, true, true, true, true, true, true, true, true, false, true]) l z U) ∧ Hid ((l.getD 10 true = false ∧ (Below W5.heap.size W5 U)) ∨ (l.getD 10 true = true ∧ ((z 10) = .bool true ∧ Below W5.heap.size W5 U)))) (by kernel_rfl) (by kernel_rfl) ?_ ?_ ?_
        · exact ⟨fun k => ([u37, u38, u39, u40, u41, u42, u43, u44, u45, u46, u47, u48] : List Value).getD k undef, rfl, hideG TabZ.start, hideG (.inl ⟨rfl, HST0.out⟩)⟩
        · intro i l ac U hi hInv
          obtain ⟨z, ha, hz, hst⟩ := hInv
          subst ha
          obtain ⟨hun, o, ho, _⟩ := mem_ready.mp hi
          have hlt8 := (Array.getElem?_eq_some_iff.mp ho).1
          clear ho
          simp only [List.size_toArray, List.length_cons, List.length_nil, Nat.reduceAdd] at hlt8
          obtain rfl | rfl | rfl | rfl | rfl | rfl | rfl | rfl | rfl | rfl | rfl | rfl : i = 0 ∨ i = 1 ∨ i = 2 ∨ i = 3 ∨ i = 4 ∨ i = 5 ∨ i = 6 ∨ i = 7 ∨ i = 8 ∨ i = 9 ∨ i = 10 ∨ i = 11 := by omega
          · refine inv_step (by rfl) (fun K hK => ?_)
            go_simp
            refine hK.out _ _ ⟨upZ z 0 (.pointer (some ⟨w4.heap.size, 0, none⟩)), rfl, hideG (TabZ.step hz.out rfl), hideG ?_⟩
            have HST := hst.out
            clear hst hz hi hK
            simp only [flag_ne (show 0 ≠ 10 from by decide)]
            have E10 : upZ z 0 (.pointer (some ⟨w4.heap.size, 0, none⟩)) 10 = z 10 := by simp [upZ]
            try rw [E10]
            exact HST
          · have e0 : z 0 = .pointer (some ⟨w4.heap.size, 0, none⟩) := hz.out 0 (by decide) (dep_of hi (d := 0) (by kernel_rfl))
            have hbel : Below W5.heap.size W5 U := by
              rcases hst.out with ⟨_, h⟩ | ⟨_, _, h⟩
              · exact h
              · exact h
            have c1 := (HY5.out.call hbel).c0
            have l1 := below_of_cell c1
            rw [e0]
            refine inv_step (by rfl) (fun K hK => ?_)
            go_simp
            refine hK.out _ _ ⟨upZ (upZ z 0 (.pointer (some ⟨w4.heap.size, 0, none⟩))) 1 (.slice (some ⟨b', off', none⟩) s'.g.length vd), rfl, hideG (TabZ.step (TabZ.fill hz.out e0) rfl), hideG ?_⟩
            have HST := hst.out
            clear hst hz hi hK
            simp only [flag_ne (show 1 ≠ 10 from by decide)]
            have E10 : upZ (upZ z 0 (.pointer (some ⟨w4.heap.size, 0, none⟩))) 1 (.slice (some ⟨b', off', none⟩) s'.g.length vd) 10 = z 10 := by simp [upZ]
            try rw [E10]
            exact HST
          · refine inv_step (by rfl) (fun K hK => ?_)
            go_simp
            refine hK.out _ _ ⟨upZ z 2 (.int .i64 ((k : Nat) : Int)), rfl, hideG (TabZ.step hz.out rfl), hideG ?_⟩
            have HST := hst.out
            clear hst hz hi hK
            simp only [flag_ne (show 2 ≠ 10 from by decide)]
            have E10 : upZ z 2 (.int .i64 ((k : Nat) : Int)) 10 = z 10 := by simp [upZ]
            try rw [E10]
            exact HST
          · have e1 : z 1 = .slice (some ⟨b', off', none⟩) s'.g.length vd := hz.out 1 (by decide) (dep_of hi (d := 1) (by kernel_rfl))
            have e2 : z 2 = .int .i64 ((k : Nat) : Int) := hz.out 2 (by decide) (dep_of hi (d := 2) (by kernel_rfl))
            rw [e1, e2]
            refine inv_step (by rfl) (fun K hK => ?_)
            go_simp
            refine hK.out _ _ ⟨upZ (upZ (upZ z 1 (.slice (some ⟨b', off', none⟩) s'.g.length vd)) 2 (.int .i64 ((k : Nat) : Int))) 3 (.pointer (some ⟨b', off' + k, none⟩)), rfl, hideG (TabZ.step (TabZ.fill (TabZ.fill hz.out e1) e2) rfl), hideG ?_⟩
            have HST := hst.out
            clear hst hz hi hK
            simp only [flag_ne (show 3 ≠ 10 from by decide)]
            have E10 : upZ (upZ (upZ z 1 (.slice (some ⟨b', off', none⟩) s'.g.length vd)) 2 (.int .i64 ((k : Nat) : Int))) 3 (.pointer (some ⟨b', off' + k, none⟩)) 10 = z 10 := by simp [upZ]
            try rw [E10]
            exact HST
          · have e3 : z 3 = .pointer (some ⟨b', off' + k, none⟩) := hz.out 3 (by decide) (dep_of hi (d := 3) (by kernel_rfl))
            have hbel : Below W5.heap.size W5 U := by
              rcases hst.out with ⟨_, h⟩ | ⟨_, _, h⟩
              · exact h
              · exact h
            have c1 := cell_below hbel HCR'.out
            have l1 := below_of_cell c1
            rw [e3]
            refine inv_step (by rfl) (fun K hK => ?_)
            go_simp
            refine hK.out _ _ ⟨upZ (upZ z 3 (.pointer (some ⟨b', off' + k, none⟩))) 4 (.slice ra' row.length rc'), rfl, hideG (TabZ.step (TabZ.fill hz.out e3) rfl), hideG ?_⟩
            have HST := hst.out
            clear hst hz hi hK
            simp only [flag_ne (show 4 ≠ 10 from by decide)]
            have E10 : upZ (upZ z 3 (.pointer (some ⟨b', off' + k, none⟩))) 4 (.slice ra' row.length rc') 10 = z 10 := by simp [upZ]
            try rw [E10]
            exact HST
          · refine inv_step (by rfl) (fun K hK => ?_)
            go_simp
            refine hK.out _ _ ⟨upZ z 5 (.pointer (some ⟨w.heap.size, 0, none⟩)), rfl, hideG (TabZ.step hz.out rfl), hideG ?_⟩
            have HST := hst.out
            clear hst hz hi hK
            simp only [flag_ne (show 5 ≠ 10 from by decide)]
            have E10 : upZ z 5 (.pointer (some ⟨w.heap.size, 0, none⟩)) 10 = z 10 := by simp [upZ]
            try rw [E10]
            exact HST
          · have e5 : z 5 = .pointer (some ⟨w.heap.size, 0, none⟩) := hz.out 5 (by decide) (dep_of hi (d := 5) (by kernel_rfl))
            have hbel : Below W5.heap.size W5 U := by
              rcases hst.out with ⟨_, h⟩ | ⟨_, _, h⟩
              · exact h
              · exact h
            have c1 := (HX5.out.call hbel).c0
            have l1 := below_of_cell c1
            rw [e5]
            refine inv_step (by rfl) (fun K hK => ?_)
            go_simp
            refine hK.out _ _ ⟨upZ (upZ z 5 (.pointer (some ⟨w.heap.size, 0, none⟩))) 6 (.slice (some ⟨b, off, none⟩) s.g.length gc), rfl, hideG (TabZ.step (TabZ.fill hz.out e5) rfl), hideG ?_⟩
            have HST := hst.out
            clear hst hz hi hK
            simp only [flag_ne (show 6 ≠ 10 from by decide)]
            have E10 : upZ (upZ z 5 (.pointer (some ⟨w.heap.size, 0, none⟩))) 6 (.slice (some ⟨b, off, none⟩) s.g.length gc) 10 = z 10 := by simp [upZ]
            try rw [E10]
            exact HST
          · refine inv_step (by rfl) (fun K hK => ?_)
            go_simp
            refine hK.out _ _ ⟨upZ z 7 (.int .i64 ((k : Nat) : Int)), rfl, hideG (TabZ.step hz.out rfl), hideG ?_⟩
            have HST := hst.out
            clear hst hz hi hK
            simp only [flag_ne (show 7 ≠ 10 from by decide)]
            have E10 : upZ z 7 (.int .i64 ((k : Nat) : Int)) 10 = z 10 := by simp [upZ]
            try rw [E10]
            exact HST
          · have e6 : z 6 = .slice (some ⟨b, off, none⟩) s.g.length gc := hz.out 6 (by decide) (dep_of hi (d := 6) (by kernel_rfl))
            have e7 : z 7 = .int .i64 ((k : Nat) : Int) := hz.out 7 (by decide) (dep_of hi (d := 7) (by kernel_rfl))
            rw [e6, e7]
            refine inv_step (by rfl) (fun K hK => ?_)
            go_simp
            refine hK.out _ _ ⟨upZ (upZ (upZ z 6 (.slice (some ⟨b, off, none⟩) s.g.length gc)) 7 (.int .i64 ((k : Nat) : Int))) 8 (.pointer (some ⟨b, off + k, none⟩)), rfl, hideG (TabZ.step (TabZ.fill (TabZ.fill hz.out e6) e7) rfl), hideG ?_⟩
            have HST := hst.out
            clear hst hz hi hK
            simp only [flag_ne (show 8 ≠ 10 from by decide)]
            have E10 : upZ (upZ (upZ z 6 (.slice (some ⟨b, off, none⟩) s.g.length gc)) 7 (.int .i64 ((k : Nat) : Int))) 8 (.pointer (some ⟨b, off + k, none⟩)) 10 = z 10 := by simp [upZ]
            try rw [E10]
            exact HST
          · have e8 : z 8 = .pointer (some ⟨b, off + k, none⟩) := hz.out 8 (by decide) (dep_of hi (d := 8) (by kernel_rfl))
            have hbel : Below W5.heap.size W5 U := by
              rcases hst.out with ⟨_, h⟩ | ⟨_, _, h⟩
              · exact h
              · exact h
            have c1 := cell_below hbel HCR.out
            have l1 := below_of_cell c1
            rw [e8]
            refine inv_step (by rfl) (fun K hK => ?_)
            go_simp
            refine hK.out _ _ ⟨upZ (upZ z 8 (.pointer (some ⟨b, off + k, none⟩))) 9 (.slice ra row.length rc), rfl, hideG (TabZ.step (TabZ.fill hz.out e8) rfl), hideG ?_⟩
            have HST := hst.out
            clear hst hz hi hK
            simp only [flag_ne (show 9 ≠ 10 from by decide)]
            have E10 : upZ (upZ z 8 (.pointer (some ⟨b, off + k, none⟩))) 9 (.slice ra row.length rc) 10 = z 10 := by simp [upZ]
            try rw [E10]
            exact HST
          · have e4 : z 4 = .slice ra' row.length rc' := hz.out 4 (by decide) (dep_of hi (d := 4) (by kernel_rfl))
            have e9 : z 9 = .slice ra row.length rc := hz.out 9 (by decide) (dep_of hi (d := 9) (by kernel_rfl))
            rcases hst.out with hq | hq
            · obtain ⟨b10, hS⟩ := hq
              rw [e4, e9]
              refine inv_step (by rfl) (fun K hK => ?_)
              go_simp
              go_at_call 18
              refine Calls.mono (refInts_any row row _ _ U (HI'.out.below hS) (HI.out.below hS) (by omega)) ?_
              rintro e w9 ⟨rfl, hb9⟩
              rw [show decide (row = row) = true from decide_eq_true rfl]
              go_wp2_with fail
              refine hK.out _ _ ⟨upZ (upZ (upZ z 4 (.slice ra' row.length rc')) 9 (.slice ra row.length rc)) 10 (.bool true), rfl, hideG (TabZ.step (TabZ.mono (TabZ.fill (TabZ.fill hz.out e4) e9) (fun _ _ h => h)) trivial), hideG (.inr (⟨flag_self, ?_⟩))⟩
              exact ⟨by simp [upZ], hS.trans (hb9.mono hS.size)⟩
            · exact absurd (hun.symm.trans hq.1) (by decide)
          · have q10 := dep_of hi (d := 10) (by kernel_rfl)
            have e10 : z 10 = .bool true := by
              rcases hst.out with ⟨h, _⟩ | ⟨_, h, _⟩
              · exact absurd (q10.symm.trans h) (by decide)
              · exact h
            rw [e10]
            refine inv_step (by rfl) (fun K hK => ?_)
            go_simp
            refine hK.out _ _ ⟨upZ (upZ z 10 (.bool true)) 11 (.bool false), rfl, hideG (TabZ.step (TabZ.fill hz.out e10) rfl), hideG ?_⟩
            have HST := hst.out
            clear hst hz hi hK
            simp only [flag_ne (show 11 ≠ 10 from by decide)]
            have E10 : upZ (upZ z 10 (.bool true)) 11 (.bool false) 10 = z 10 := by simp [upZ, e10]
            try rw [E10]
            exact HST
        · intro l ac U hall hInv
          obtain ⟨z, ha, hz, hst⟩ := hInv
          subst ha
          have e0 : z 0 = .pointer (some ⟨w4.heap.size, 0, none⟩) := hz.out 0 (by decide) (hall 0 (by decide))
          have e1 : z 1 = .slice (some ⟨b', off', none⟩) s'.g.length vd := hz.out 1 (by decide) (hall 1 (by decide))
          have e2 : z 2 = .int .i64 ((k : Nat) : Int) := hz.out 2 (by decide) (hall 2 (by decide))
          have e3 : z 3 = .pointer (some ⟨b', off' + k, none⟩) := hz.out 3 (by decide) (hall 3 (by decide))
          have e4 : z 4 = .slice ra' row.length rc' := hz.out 4 (by decide) (hall 4 (by decide))
          have e5 : z 5 = .pointer (some ⟨w.heap.size, 0, none⟩) := hz.out 5 (by decide) (hall 5 (by decide))
          have e6 : z 6 = .slice (some ⟨b, off, none⟩) s.g.length gc := hz.out 6 (by decide) (hall 6 (by decide))
          have e7 : z 7 = .int .i64 ((k : Nat) : Int) := hz.out 7 (by decide) (hall 7 (by decide))
          have e8 : z 8 = .pointer (some ⟨b, off + k, none⟩) := hz.out 8 (by decide) (hall 8 (by decide))
          have e9 : z 9 = .slice ra row.length rc := hz.out 9 (by decide) (hall 9 (by decide))
          have e11 : z 11 = .bool false := hz.out 11 (by decide) (hall 11 (by decide))
          rcases hst.out with hq | hq
          · exact absurd ((hall 10 (by decide)).symm.trans hq.1) (by decide)
          · obtain ⟨_, hS⟩ := hq
            clear hz hall hst
            rw [e0, e1, e2, e3, e4, e5, e6, e7, e8, e9, e11]
            have HBU := hideG hS.2
            clear hS
            go_wp2_with fail
            go_roundw
            case rel => exact ⟨k + 1, by omega, by go_num, HBU.out⟩
            case measure => simp [intOf]; omega
      · have hlt' : ¬ ((k : Int) + 1 < (s.g.length : Int)) := hlt
        have HB6 := hideG (mono_k HB5.out HBK.out)
        have HG6 := hideG (HG5.out.below HBK.out)
        clear HYK HX5 HY5 HG5 HO5 HB5 HBK d0 dlt HSAME HOPN HLE HF'
        obtain ⟨g2, hg2⟩ : ∃ g2, dropG s.g n = g2 := ⟨_, rfl⟩
        have HFL := hideG (show flatG g2 = flatG (s.g.map (woL n)) by rw [← hg2]; exact flat_drop s.g n)
        have HF2 := hideG (show fewG g2 60 by rw [← hg2]; exact dropG_few HFW.out)
        have HNE := hideG (show ∀ r, r ∈ g2 → 0 < r.length by rw [← hg2]; exact fun r hr => (dropG_free r hr).1)
        have HDRP := hideG (fun (gv : Value) (U : World) (h : GrpsAt U gv s.g) => (by have t := drop_any s.g (HFW.out.mono (by omega)) gv s.a s.n n U h; rw [hg2] at t; exact t))
        clear hg2
        have hf2 := HF2.out.1
        have c1 := HXK.out.c1
        have c2 := HXK.out.c2
        go_wp2_with fail
        refine (own_any _ _ _ _ _ _).mono ?_
        rintro e w7 ⟨rfl, hb7⟩
        have HB7 := hideG (mono_k HB6.out hb7)
        have HX7 := hideG (HXK.out.call hb7)
        have HG7 := hideG (HG6.out.below hb7)
        clear hb7 HXK HG6 HB6 c0 c1 c2 clt
        go_wp2_with fail
        refine (HDRP.out _ _ HG7.out).mono ?_
        rintro e w8 ⟨vz, vy, rfl, ho8, hb8⟩
        have HB8 := hideG (mono_k HB7.out hb8)
        have HX8 := hideG (HX7.out.call hb8)
        have HG8 := hideG (HG7.out.below hb8)
        have HO8 := hideG ho8.grps
        clear hb8 ho8 HX7 HG7 HB7 HDRP
        go_wp2_with fail
        refine (told_any _ _ _ _ _ _).mono ?_
        rintro e w9 ⟨rfl, hb9⟩
        obtain ⟨WT, hWT⟩ : ∃ WT, w9.alloc (.cells #[.slice vz g2.length vy, .int .i64 s.a, .bool s.n] 33) = WT := ⟨_, rfl⟩
        have hbT : Below w8.heap.size w8 WT := by rw [← hWT]; exact hb9.trans ((alB _ _).mono hb9.size)
        have HZT := hideG (show Box3 WT w9.heap.size (.slice vz g2.length vy) (.int .i64 s.a) (.bool s.n) by rw [← hWT]; exact Box3.new _ _ _ _ _)
        have HBT := hideG (mono_k HB8.out hbT)
        have HXT := hideG (HX8.out.call hbT)
        have HGT := hideG (HG8.out.below hbT)
        have HOT := hideG (HO8.out.below hbT)
        have HWT := hideG hWT
        clear hb9 hbT hWT HX8 HG8 HB8 HO8
        go_wp2_with fail
        rw [HWT.out]
        clear HWT
        go_loopw [8, 10] (fun av i wr => ∃ (q : Nat) (aa : Option Addr) (ac : Nat), q ≤ s.g.length ∧ i = .int .i64 (q : Int) ∧ av = .slice aa (aL s.g n q 0).length ac ∧ wr.ownsRow WT.heap.size 3 1 (.slice aa (aL s.g n q 0).length ac) (aL s.g n q 0).length (intCells (aL s.g n q 0)) ∧ Below WT.heap.size WT wr) (fun _ i _ => s.g.length - (intOf i).toNat)
        case atStart => exact ⟨0, none, 0, Nat.zero_le _, rfl, by rw [aL_start]; rfl, by rw [aL_start]; exact World.ownsRow_nil _ _ _ _, Below.refl _ _⟩
        case round =>
          obtain ⟨q, aa, ac, hq, rfl, rfl, how, hBq⟩ := hrel
          have HOW := hideG how
          have HBQ := hideG hBq
          have HXQ := hideG (HXT.out.call hBq)
          clear how hBq
          have c0 := HXQ.out.c0
          have clt := HXQ.out.lt
          by_cases hqlt : q < s.g.length
          · obtain ⟨b, off, ra, rc, rfl, cR, hI⟩ := HGT.out.at hqlt
            have HCR := hideG cR
            have HI := hideG hI
            have HRL := hideG (HFW.out.row (j := q))
            have HAF := hideG (fun m => aL_few (x := n) HFW.out q m)
            have HAN := hideG (aL_next (x := n) hqlt)
            have HAK := hideG (fun m (h : m < (s.g.getD q []).length) => aL_keep (x := n) h)
            have HAS := hideG (fun m (h : m < (s.g.getD q []).length) => aL_skip (x := n) h)
            generalize s.g.getD q [] = row at *
            have hrl := HRL.out
            clear cR hI
            go_wp2_with fail
            clear c0 clt HXQ
            go_loopw [8, 11] (fun av kk ws => ∃ (m : Nat) (ba : Option Addr) (bc : Nat), m ≤ row.length ∧ kk = .int .i64 (m : Int) ∧ av = .slice ba (aL s.g n q m).length bc ∧ ws.ownsRow WT.heap.size 3 1 (.slice ba (aL s.g n q m).length bc) (aL s.g n q m).length (intCells (aL s.g n q m)) ∧ Below WT.heap.size WT ws) (fun _ i _ => row.length - (intOf i).toNat)
            case atStart => exact ⟨0, aa, ac, Nat.zero_le _, rfl, rfl, HOW.out, HBQ.out⟩
            case round =>
              obtain ⟨m, ba, bc, hm, rfl, rfl, hom, hBm⟩ := hrel
              have HOM := hideG hom
              have HBM := hideG hBm
              have HXM := hideG (HXT.out.call hBm)
              have cr := cell_below hBm HCR.out
              have HIM := hideG (HI.out.below hBm)
              clear hom hBm HOW HBQ
              have c0 := HXM.out.c0
              have clt := HXM.out.lt
              have crt := below_of_cell cr
              have hq0 : (0 : Int) ≤ (q : Int) := by omega
              have hq1 : (q : Int) < (s.g.length : Int) := by omega
              by_cases hml : m < row.length
              · obtain ⟨bl, ol, rfl, cl⟩ := HIM.out.at hml
                have cltl := below_of_cell cl
                have HK := hideG (HAK.out m hml)
                have HS := hideG (HAS.out m hml)
                have haf := HAF.out m
                generalize row.getD m 0 = x at *
                have hm0 : (0 : Int) ≤ (m : Int) := by omega
                have hm1 : (m : Int) < (row.length : Int) := by omega
                cases hx : (x != n)
                · have HE := hideG (HS.out (by simpa using hx))
                  go_wp2_with fail
                  go_roundw
                  case rel => exact ⟨m + 1, ba, bc, by omega, by go_num, by rw [HE.out], by rw [HE.out]; exact HOM.out, HBM.out⟩
                  case measure => simp [intOf]; omega
                · have HE := hideG (HK.out (by simpa using hx))
                  generalize aL s.g n q m = cur at *
                  go_wp2_with (at_builtin; refine wpList_append_any rfl (.tmp 81) (.tmp 90) 22 rfl WT.heap.size 3 i3 _ 1 8 Try.underlying22 hi3 hz30 hz31 hz32 rfl (by decide) _ cur.length (intCells cur) rfl (HOM.out.alloc _) _ 1 [.int .i64 x] rfl (row_new1 _ _) rfl ?h2 ?h3 ?h4 ?h5 ?_)
                  case h2 => first | (intro y hy; simp at hy; subst hy; rfl) | rfl | simp
                  case h3 => simp only [maxLen]; omega
                  case h4 => omega
                  case h5 => have := HBM.out.size; simp; omega
                  intro v4 w4 ho4 hg4 hf4
                  obtain ⟨a4, c4, rfl⟩ := ownsRow_shape ho4
                  rw [intCells_snoc] at ho4
                  have HB4 := hideG ((HBM.out.alloc HBM.out.size (.cells #[.int .i64 x] 3)).grown hg4 (by have := HBM.out.size; simp; omega) (fun j e => (HOM.out.lt j e).1))
                  have HL4 := hideG (show (aL s.g n q (m + 1)).length = cur.length + 1 by rw [HE.out]; simp)
                  have HO4 := hideG ho4
                  clear ho4 hg4 hf4
                  go_wp2_with fail
                  go_roundw
                  case rel => exact ⟨m + 1, a4, c4, by omega, by go_num, by rw [HL4.out], by rw [HL4.out, HE.out]; exact HO4.out, HB4.out⟩
                  case measure => simp [intOf]; omega
              · obtain rfl : m = row.length := by omega
                rw [HAN.out] at HOM
                rw [HAN.out]
                have hmm : ¬ ((row.length : Int) < (row.length : Int)) := by omega
                go_wp2_with fail
                go_roundw
                case rel => exact ⟨q + 1, ba, bc, by omega, by go_num, rfl, HOM.out, HBM.out⟩
                case measure => simp [intOf]; omega
          · obtain rfl : q = s.g.length := by omega
            rw [aL_done] at HOW
            rw [aL_done, ← HFL.out]
            rw [← HFL.out] at HOW
            have HAI := hideG (ownsRow_ints HOW.out)
            have hafl := (flat_few HF2.out.2)
            have hafl2 : (flatG g2).length ≤ 3600 := Nat.le_trans hafl (Nat.le_trans (Nat.mul_le_mul_right _ hf2) (by decide))
            have hmm : ¬ ((s.g.length : Int) < (s.g.length : Int)) := by omega
            clear hafl
            obtain ⟨wq0, hwq0⟩ : ∃ wq0, wq0 = wr := ⟨_, rfl⟩
            subst hwq0
            have HOQ := hideG (HOT.out.below HBQ.out)
            have HZQ := hideG (HZT.out.call HBQ.out)
            have HAQ := hideG HAI.out
            clear HOT HGT HOW HAI
            have HNL := hideG hafl2
            clear hafl2
            go_wp2_with fail
            clear c0 clt
            go_loopw [9, 12] (fun bv i wr => ∃ (r : Nat) (ba : Option Addr) (bc : Nat), r ≤ g2.length ∧ i = .int .i64 (r : Int) ∧ bv = .slice ba (flatG (g2.take r)).length bc ∧ wr.ownsRow wq0.heap.size 3 1 (.slice ba (flatG (g2.take r)).length bc) (flatG (g2.take r)).length (intCells (flatG (g2.take r))) ∧ Below wq0.heap.size wq0 wr) (fun _ i _ => g2.length - (intOf i).toNat)
            case atStart => exact ⟨0, none, 0, Nat.zero_le _, rfl, rfl, World.ownsRow_nil _ _ _ _, Below.refl _ _⟩
            case round =>
              obtain ⟨r, ba, bc, hr, rfl, rfl, hor, hBr⟩ := hrel
              have HOR := hideG hor
              have HBR := hideG hBr
              have HZR := hideG (HZQ.out.call hBr)
              clear hor hBr
              have c0 := HZR.out.c0
              have clt := HZR.out.lt
              by_cases hrl : r < g2.length
              · obtain ⟨b, off, ra, rc, rfl, cr, hI⟩ := (HOQ.out.below HBR.out).at hrl
                have HI := hideG hI
                have hn0 := HNE.out _ (getD_mem (d := []) hrl)
                have HTS := hideG (show flatG (g2.take (r + 1)) = flatG (g2.take r) ++ g2.getD r [] from flat_snoc hrl)
                have hrw := HF2.out.row (j := r)
                have hcf := flat_few (g := g2.take r) (m := 60) (fun l hl => HF2.out.2 l (List.mem_of_mem_take hl))
                have hcf2 : (flatG (g2.take r)).length ≤ 3600 := Nat.le_trans hcf (Nat.le_trans (Nat.mul_le_mul_right _ (show (g2.take r).length ≤ 60 by rw [List.length_take]; omega)) (by decide))
                generalize g2.getD r [] = row at *
                generalize (flatG (g2.take r)) = cur at *
                have crt := below_of_cell cr
                have hr0 : (0 : Int) ≤ (r : Int) := by omega
                have hr1 : (r : Int) < (g2.length : Int) := by omega
                have hb0 : ((row.length : Int) == 0) = false := by rw [beq_eq_false_iff_ne]; omega
                clear hI hcf
                go_wp2_with (at_builtin; refine wpList_append_any rfl (.tmp 106) (.tmp 111) 22 rfl wq0.heap.size 3 i3 _ 1 8 Try.underlying22 hi3 hz30 hz31 hz32 rfl (by decide) _ cur.length (intCells cur) rfl HOR.out _ row.length (intCells row) rfl (ints_holds HI.out) (intCells_length row) (intCells_one row) ?h3 ?h4 ?h5 ?_)
                case h3 => simp only [maxLen]; omega
                case h4 => omega
                case h5 => exact HBR.out.size
                intro v4 w4 ho4 hg4 hf4
                obtain ⟨a4, c4, rfl⟩ := ownsRow_shape ho4
                have HL4 := hideG (show (cur ++ row).length = cur.length + row.length from List.length_append)
                have HB4 := hideG (HBR.out.grown hg4 HBR.out.size (fun j e => (HOR.out.lt j e).1))
                have HO4 := hideG (show w4.ownsRow wq0.heap.size 3 1 (.slice a4 (cur.length + row.length) c4) (cur ++ row).length (intCells (cur ++ row)) by rw [HL4.out]; have h := ho4; unfold intCells at h ⊢; rw [List.map_append]; exact h)
                clear ho4 hg4 hf4 c0 clt cr crt
                go_wp2_with fail
                go_roundw
                case rel => exact ⟨r + 1, a4, c4, by omega, by go_num, by rw [HTS.out, HL4.out], by rw [HTS.out, HL4.out]; have h := HO4.out; rw [HL4.out] at h; exact h, HB4.out⟩
                case measure => simp [intOf]; omega
              · obtain rfl : r = g2.length := by omega
                rw [List.take_length] at HOR
                rw [List.take_length]
                have HBI := hideG (ownsRow_ints HOR.out)
                have HAJ := hideG (HAQ.out.below HBR.out)
                have HXJ := hideG ((HXT.out.call HBQ.out).call HBR.out)
                have hmm : ¬ ((g2.length : Int) < (g2.length : Int)) := by omega
                clear HOR
                have HNA := hideG (show (flatG g2).length ≤ 1000000 by have := HNL.out; omega)
                go_wp2_with fail
                refine (refInts_any (flatG g2) (flatG g2) _ _ _ HAJ.out HBI.out HNA.out).mono ?_
                rintro e wf ⟨rfl, hbf⟩
                have HBF := hideG (mono_k (mono_k (mono_k HBT.out HBQ.out) HBR.out) hbf)
                have HZF := hideG (HZR.out.call hbf)
                have HXF := hideG (HXJ.out.call hbf)
                clear hbf c0 clt
                have c1 := HXF.out.c1
                have c2 := HXF.out.c2
                have clt := HXF.out.lt
                have d1 := HZF.out.c1
                have d2 := HZF.out.c2
                have dlt := HZF.out.lt
                rw [show decide ((flatG g2) = (flatG g2)) = true from decide_eq_true rfl]
                go_wp2_with fail
                refine (live_any _).mono ?_
                rintro e wl ⟨rfl, hbl⟩
                go_wp2_with fail
                go_ret
                exact ⟨rfl, mono_k HBF.out hbl⟩
end Go.Proofs.Ytlgbiecgbdbefab
