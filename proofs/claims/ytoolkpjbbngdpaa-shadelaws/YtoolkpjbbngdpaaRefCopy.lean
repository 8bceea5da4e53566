/- Copy of limelightref01. -/
import Derived.Test.YtoolkpjbbngdpaaPush
namespace Go.Proofs.Ytoolkpjbbngdpaa
open Go.RowKit

theorem take_snoc (T : List Nd) {k : Nat} (h : k < T.length) : T.take (k + 1) = T.take k ++ [nd T k] := by
  rw [List.take_succ_eq_append_getElem h, nd, List.getD_eq_getElem?_getD, List.getElem?_eq_getElem h]; rfl

set_option maxRecDepth 100000 in
set_option maxHeartbeats 8000000 in
theorem refCopy_any (T : List Nd) (hS : Sane T) (v : Value) (W : World) (hT : TreeAt W v T) (h64 : T.length ≤ 1000) :
    Calls Try.prog 26 #[v] W fun e w' => ∃ v' kv av, e = .returned v' ∧ OwnTree w' W.heap.size v' T kv av ∧ Below W.heap.size W w' := by
  obtain ⟨i3, hi3, hz30, hz31, hz32⟩ := info_parts infoT3
  obtain ⟨i54, hi54, hz540, hz541, hz542⟩ := info_parts infoT54
  obtain ⟨i49, hi49, hz490, hz491, hz492⟩ := info_parts infoT49
  have HT := hideG hT
  have HS := hideG hS
  obtain ⟨a, cap, rfl⟩ := hT.shape
  clear hT hS
  go_enter Try.func26, Try.ntmps26
  go_wp2_with fail
  go_loopw [3, 4] (fun x i wr => ∃ (k : Nat) (kv av : Nat → Value), k ≤ T.length ∧ i = .int .i64 k ∧ Hid (Below W.heap.size W wr) ∧ Hid (OwnTree wr W.heap.size x (T.take k) kv av)) (fun _ i _ => T.length - (intOf i).toNat)
  case atStart => exact ⟨0, _, _, Nat.zero_le _, rfl, Below.refl _ _, OwnTree.nil W W.heap.size⟩
  case round =>
    obtain ⟨k, kv, av, hk, rfl, HB, HO⟩ := hrel
    by_cases hlt : k < T.length
    · obtain ⟨b, off, cap2, hv, hc⟩ := HT.out.at (by omega)
      obtain ⟨rfl, rfl⟩ : a = some ⟨b, off, none⟩ ∧ cap = cap2 := by simpa using hv
      obtain ⟨kw, aw, hN⟩ := hc k hlt
      replace hN := hN.below HB.out
      have HKI := hideG hN.kids
      have HAI := hideG hN.attrs
      have hkl := (HS.out k hlt).1
      have hal := (HS.out k hlt).2
      obtain ⟨n0, n1, n2, n3, n4, n5, n6, hki, hai⟩ := hN
      have hbz : b < wr.heap.size := below_of_cell n0
      obtain ⟨ka, kc, rfl⟩ := hki.shape
      obtain ⟨aa, ac, rfl⟩ := hai.shape
      clear hc hv hki hai
      have hown1 : ((wr.alloc (.cells #[.int .i64 (nd T k).kind, .int .i64 (nd T k).tag, .int .i64 (nd T k).parent, .slice ka (nd T k).kids.length kc, .int .i64 (nd T k).host, .int .i64 (nd T k).root, .slice aa (nd T k).attrs.length ac] 49)).alloc (.cells #[] 3)).ownsRow (wr.heap.size + 1) 3 1 (.slice (some ⟨wr.heap.size + 1, 0, none⟩) 0 0) 0 [] := by
        have := World.ownsRow_made (wr.alloc (.cells #[.int .i64 (nd T k).kind, .int .i64 (nd T k).tag, .int .i64 (nd T k).parent, .slice ka (nd T k).kids.length kc, .int .i64 (nd T k).host, .int .i64 (nd T k).root, .slice aa (nd T k).attrs.length ac] 49)) (base := wr.heap.size + 1) (e := 3) (size := 1) #[] 0 (by simp) (by simp [maxLen]) rfl
        simpa using this
      have HO1 := hideG hown1
      clear hown1
      go_wp2_with (at_builtin; refine wpList_append_any rfl (.tmp 16) (.tmp 18) 46 rfl (wr.heap.size + 1) 3 i3 _ 1 8 Try.underlying46 hi3 hz30 hz31 hz32 rfl (by decide) _ 0 [] rfl HO1.out _ (nd T k).kids.length (intCells (nd T k).kids) rfl ?c1 (intCells_length _) (intCells_one _) ?c2 ?c3 ?c4 ?_)
      case c1 => exact ints_holds (HKI.out.below (((Below.refl _ wr).alloc (Nat.le_refl _) _).alloc (by simp) _))
      case c2 => simp only [maxLen]; omega
      case c3 => omega
      case c4 => simp
      · intro x1 wC ho1 hg1 hf1
        obtain ⟨xa1, xc1, rfl⟩ := ownsRow_shape ho1
        have hsC : wr.heap.size + 2 ≤ wC.heap.size := by have := hg1.size; simpa using this
        have hX : ∀ o, wC.cell? ⟨wr.heap.size, o, none⟩ = (wr.alloc (.cells #[.int .i64 (nd T k).kind, .int .i64 (nd T k).tag, .int .i64 (nd T k).parent, .slice ka (nd T k).kids.length kc, .int .i64 (nd T k).host, .int .i64 (nd T k).root, .slice aa (nd T k).attrs.length ac] 49)).cell? ⟨wr.heap.size, o, none⟩ := fun o =>
          (World.cell?_of_block (a := ⟨wr.heap.size, o, none⟩) (hg1.block wr.heap.size (by simp; omega) (by simp [Value.ownBlock]))).trans (World.cell?_alloc_past _ _ _ (by simp))
        have hXf : ∀ o, wC.frozen? ⟨wr.heap.size, o, none⟩ = false := fun o =>
          (World.frozen?_of_block (a := ⟨wr.heap.size, o, none⟩) (hg1.block wr.heap.size (by simp; omega) (by simp [Value.ownBlock]))).trans (by simp)
        have e0 := (hX 0).trans (show _ = some (.int .i64 (nd T k).kind) by simp)
        have e1 := (hX 1).trans (show _ = some (.int .i64 (nd T k).tag) by simp)
        have e2 := (hX 2).trans (show _ = some (.int .i64 (nd T k).parent) by simp)
        have e3 := (hX 3).trans (show _ = some (.slice ka (nd T k).kids.length kc) by simp)
        have e4 := (hX 4).trans (show _ = some (.int .i64 (nd T k).host) by simp)
        have e5 := (hX 5).trans (show _ = some (.int .i64 (nd T k).root) by simp)
        have e6 := (hX 6).trans (show _ = some (.slice aa (nd T k).attrs.length ac) by simp)
        have f3 := hXf 3
        have f6 := hXf 6
        have HBC := hideG (show Below wr.heap.size wr wC from (((Below.refl _ wr).alloc (Nat.le_refl _) (.cells #[.int .i64 (nd T k).kind, .int .i64 (nd T k).tag, .int .i64 (nd T k).parent, .slice ka (nd T k).kids.length kc, .int .i64 (nd T k).host, .int .i64 (nd T k).root, .slice aa (nd T k).attrs.length ac] 49)).alloc (by simp) (.cells #[] 3)).grown hg1 (by simp; omega) (fun j e => by simp [Value.ownBlock] at e; omega))
        have HG1 := hideG (And.intro ho1 (And.intro hg1 hf1))
        clear hX hXf ho1 hg1 hf1
        have hXlt : wr.heap.size < wC.heap.size := by omega
        have hXne : (wr.heap.size == wC.heap.size) = false := by simp; omega
        have hown2 : ((wC.setCell ⟨wr.heap.size, 3, none⟩ (.slice xa1 (nd T k).kids.length xc1)).alloc (.cells #[] 72)).ownsRow wC.heap.size 72 2 (.slice (some ⟨wC.heap.size, 0, none⟩) 0 0) 0 [] := by
          have := World.ownsRow_made (wC.setCell ⟨wr.heap.size, 3, none⟩ (.slice xa1 (nd T k).kids.length xc1)) (base := wC.heap.size) (e := 72) (size := 2) #[] 0 (by simp) (by simp [maxLen]) rfl
          simpa using this
        have HO2 := hideG hown2
        clear hown2
        go_wp2_with (at_builtin; refine wpList_append_any rfl (.tmp 21) (.tmp 23) 47 rfl wC.heap.size 72 i54 _ 2 16 Try.underlying47 hi54 hz540 hz541 hz542 rfl (by decide) _ 0 [] rfl HO2.out _ (nd T k).attrs.length (attrCells (nd T k).attrs) rfl ?d1 (attrCells_length _) (attrCells_one _) ?d2 ?d3 ?d4 ?_)
        case d1 => exact attrs_holds (HAI.out.below ((HBC.out.setCell (p := ⟨wr.heap.size, 3, none⟩) (by simp) _).alloc (by simp; omega) _))
        case d2 => simp only [maxLen]; omega
        case d3 => omega
        case d4 => simp
        · intro x2 wF ho2 hg2 hf2
          obtain ⟨xa2, xc2, rfl⟩ := ownsRow_shape ho2
          have hsF : wC.heap.size + 1 ≤ wF.heap.size := by have := hg2.size; simpa using this
          have hXF : ∀ o, wF.cell? ⟨wr.heap.size, o, none⟩ = (wC.setCell ⟨wr.heap.size, 3, none⟩ (.slice xa1 (nd T k).kids.length xc1)).cell? ⟨wr.heap.size, o, none⟩ := fun o =>
            (World.cell?_of_block (a := ⟨wr.heap.size, o, none⟩) (hg2.block wr.heap.size (by simp; omega) (by simp [Value.ownBlock]; omega))).trans (World.cell?_alloc_past _ _ _ (by simp; omega))
          have hXFf : ∀ o, wF.frozen? ⟨wr.heap.size, o, none⟩ = ((wC.setCell ⟨wr.heap.size, 3, none⟩ (.slice xa1 (nd T k).kids.length xc1)).alloc (.cells #[] 72)).frozen? ⟨wr.heap.size, o, none⟩ := fun o =>
            World.frozen?_of_block (a := ⟨wr.heap.size, o, none⟩) (hg2.block wr.heap.size (by simp; omega) (by simp [Value.ownBlock]; omega))
          have g0 := (hXF 0).trans ((World.cell?_setCell_other _ _ _ _ (by simp)).trans e0)
          have g1 := (hXF 1).trans ((World.cell?_setCell_other _ _ _ _ (by simp)).trans e1)
          have g2 := (hXF 2).trans ((World.cell?_setCell_other _ _ _ _ (by simp)).trans e2)
          have g3 := (hXF 3).trans (World.cell?_setCell_same _ _ _ e3)
          have g4 := (hXF 4).trans ((World.cell?_setCell_other _ _ _ _ (by simp)).trans e4)
          have g5 := (hXF 5).trans ((World.cell?_setCell_other _ _ _ _ (by simp)).trans e5)
          have g6 := (hXF 6).trans ((World.cell?_setCell_other _ _ _ _ (by simp)).trans e6)
          have h6 : wF.frozen? ⟨wr.heap.size, 6, none⟩ = false := by rw [hXFf 6, World.frozen?_alloc_past _ _ _ (by simp; omega), World.frozen?_setCell]; exact f6
          clear hXF hXFf e0 e1 e2 e3 e4 e5 e6 f3 f6
          have hXlt2 : wr.heap.size < wF.heap.size := by omega
          have hXne2 : (wr.heap.size == wF.heap.size) = false := by simp; omega
          have HBF := hideG (show Below wr.heap.size wr wF from ((HBC.out.setCell (p := ⟨wr.heap.size, 3, none⟩) (by simp) (.slice xa1 (nd T k).kids.length xc1)).alloc (by simp; omega) (.cells #[] 72)).grown hg2 (by simp; omega) (fun j e => by simp [Value.ownBlock] at e; omega))
          have HG2 := hideG (And.intro ho2 (And.intro hg2 hf2))
          clear ho2 hg2 hf2
          have HBH := hideG (show Below wr.heap.size wr ((wF.setCell ⟨wr.heap.size, 6, none⟩ (.slice xa2 (nd T k).attrs.length xc2)).alloc (.cells (ndCells (nd T k) (.slice xa1 (nd T k).kids.length xc1) (.slice xa2 (nd T k).attrs.length xc2)).toArray 49)) from (HBF.out.setCell (p := ⟨wr.heap.size, 6, none⟩) (by simp) (.slice xa2 (nd T k).attrs.length xc2)).alloc (by simp; omega) _)
          have HOH := hideG (HO.out.below HBH.out)
          have hlk : (T.take k).length = k := by rw [List.length_take]; omega
          have hrow : ((wF.setCell ⟨wr.heap.size, 6, none⟩ (.slice xa2 (nd T k).attrs.length xc2)).alloc (.cells (ndCells (nd T k) (.slice xa1 (nd T k).kids.length xc1) (.slice xa2 (nd T k).attrs.length xc2)).toArray 49)).ownsRow W.heap.size 49 7 u3 k (rowL (T.take k) kv av) := by
            have := HOH.out.row
            rwa [hlk] at this
          have HRW := hideG hrow
          clear hrow
          go_wp2_with (at_builtin; refine wpList_append_any rfl (.tmp 26) (.tmp 28) 23 rfl W.heap.size 49 i49 _ 7 88 Try.underlying23 hi49 hz490 hz491 hz492 rfl (by decide) _ k (rowL (T.take k) kv av) rfl HRW.out _ 1 (ndCells (nd T k) (.slice xa1 (nd T k).kids.length xc1) (.slice xa2 (nd T k).attrs.length xc2)) rfl ?h1 rfl ?h2 ?h3 ?h4 ?h5 ?_)
          case h1 =>
            refine .inl ⟨⟨wF.heap.size, 0, none⟩, 1, rfl, fun j u hj => ?_⟩
            rw [addr_add, Nat.zero_add]
            rw [World.cell?_alloc_at _ _ _ _ (by simp)]
            simpa [ndCells] using hj
          case h2 =>
            intro x hx
            simp only [ndCells, List.mem_cons, List.not_mem_nil, or_false] at hx
            rcases hx with rfl | rfl | rfl | rfl | rfl | rfl | rfl <;> rfl
          case h3 => simp only [maxLen]; omega
          case h4 => omega
          case h5 => have := HB.out.size; simp; omega
          · intro v4 w4 ho4 hg4 hf4
            have p1 := HG1.out.1
            have p2 := HG2.out.1
            have q1 : ∀ j, Value.ownBlock (.slice xa1 (nd T k).kids.length xc1) = some j → wr.heap.size + 1 ≤ j ∧ j < wC.heap.size := fun j e => p1.lt j e
            have q2 : ∀ j, Value.ownBlock (.slice xa2 (nd T k).attrs.length xc2) = some j → wC.heap.size ≤ j := fun j e => (p2.lt j e).1
            have hWr := HB.out.size
            have o1 : ((wF.setCell ⟨wr.heap.size, 6, none⟩ (.slice xa2 (nd T k).attrs.length xc2)).alloc (.cells (ndCells (nd T k) (.slice xa1 (nd T k).kids.length xc1) (.slice xa2 (nd T k).attrs.length xc2)).toArray 49)).ownsRow W.heap.size 3 1 (.slice xa1 (nd T k).kids.length xc1) (nd T k).kids.length (intCells (nd T k).kids) := by
              have a1 := ownsRow_kept_set (g := wr.heap.size) (j := 3) (u := (.slice xa1 (nd T k).kids.length xc1)) p1 (fun e => by have := q1 _ e; omega)
              have b1 : Below wC.heap.size (wC.setCell ⟨wr.heap.size, 3, none⟩ (.slice xa1 (nd T k).kids.length xc1)) wF := ((Below.refl _ _).alloc (by simp) (.cells #[] 72)).grown HG2.out.2.1 (by simp) (fun j e => by simp [Value.ownBlock] at e; omega)
              have a2 := ownsRow_below a1 b1 (fun j e => (q1 j e).2)
              have a3 := ownsRow_kept_set (g := wr.heap.size) (j := 6) (u := (.slice xa2 (nd T k).attrs.length xc2)) a2 (fun e => by have := q1 _ e; omega)
              have a4 := ownsRow_below (K := wF.heap.size) a3 ((Below.refl _ _).alloc (by simp) (.cells (ndCells (nd T k) (.slice xa1 (nd T k).kids.length xc1) (.slice xa2 (nd T k).attrs.length xc2)).toArray 49)) (fun j e => by have := q1 j e; omega)
              exact ownsRow_base a4 (by omega)
            have o2 : ((wF.setCell ⟨wr.heap.size, 6, none⟩ (.slice xa2 (nd T k).attrs.length xc2)).alloc (.cells (ndCells (nd T k) (.slice xa1 (nd T k).kids.length xc1) (.slice xa2 (nd T k).attrs.length xc2)).toArray 49)).ownsRow W.heap.size 72 2 (.slice xa2 (nd T k).attrs.length xc2) (nd T k).attrs.length (attrCells (nd T k).attrs) := by
              have a3 := ownsRow_kept_set (g := wr.heap.size) (j := 6) (u := (.slice xa2 (nd T k).attrs.length xc2)) p2 (fun e => by have := q2 _ e; omega)
              have a4 := ownsRow_below (K := wF.heap.size) a3 ((Below.refl _ _).alloc (by simp) (.cells (ndCells (nd T k) (.slice xa1 (nd T k).kids.length xc1) (.slice xa2 (nd T k).attrs.length xc2)).toArray 49)) (fun j e => (p2.lt j e).2)
              exact ownsRow_base a4 (by omega)
            have HNEW := hideG (HOH.out.push (N := wr.heap.size) (M := wC.heap.size) (fun j e => (HO.out.row.lt j e).2) (fun n j hn e => ((HO.out.kids n hn).lt j e).2) (fun n j hn e => ((HO.out.attrs n hn).lt j e).2) o1 (fun j e => by have := q1 j e; omega) o2 (fun j e => by have := q2 j e; omega) hg4 (by rw [hlk]; exact ho4) (fun j e => by have := hf4 j e; simpa using this))
            have HBN := hideG (show Below W.heap.size W w4 from (HB.out.trans (HBH.out.mono HB.out.size)).grown hg4 (by have := HB.out.size; simp; omega) (fun j e => (HO.out.row.lt j e).1))
            clear p1 p2 q1 q2 o1 o2 ho4 hg4 hf4
            go_wp2_with fail
            go_roundw
            case rel => exact ⟨k + 1, _, _, by omega, by go_num, HBN, by rw [take_snoc T hlt]; exact HNEW⟩
            case measure => simp [intOf]; omega
    · go_wp2_with fail
      go_ret
      exact ⟨_, kv, av, rfl, by have := HO.out; rwa [List.take_of_length_le (by omega)] at this, HB.out⟩
end Go.Proofs.Ytoolkpjbbngdpaa
