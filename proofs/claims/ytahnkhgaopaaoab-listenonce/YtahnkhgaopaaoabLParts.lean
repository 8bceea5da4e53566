/- ListenParts, walked. -/
import Derived.Test.YtahnkhgaopaaoabLFor
import Derived.Test.YtahnkhgaopaaoabPartsM
namespace Go.Proofs.Ytahnkhgaopaaoab
open Go.RowKit

theorem check_ok {l : List Hr} {n : Int} (h : checkE l n = 0) : l.length ≤ 64 ∧ ∀ j, j < l.length → badH l j = false := by
  unfold checkE at h
  split at h
  · omega
  · rename_i h1
    split at h
    · omega
    · rename_i h2
      refine ⟨by omega, fun j hj => ?_⟩
      cases e : badH l j
      · rfl
      · exact absurd (any_range hj e) (by simpa using h2)
theorem getD_memH {l : List Hr} {j : Nat} (h : j < l.length) : l.getD j hrD ∈ l := by
  rw [List.getD_eq_getElem?_getD, List.getElem?_eq_getElem h]; exact List.getElem_mem h
theorem has_of {h : Hr} : ∀ {l : List Hr} {j : Nat}, j < l.length → oneH (l.getD j hrD) h = true → hasB l h = true
  | [], j, hj, _ => by simp at hj
  | a :: l, j, hj, e => by
    cases ha : oneH a h
    · cases j with
      | zero => rw [show oneH a h = true by simpa using e] at ha; cases ha
      | succ j =>
        have := has_of (h := h) (l := l) (j := j) (by simpa using hj) (by simpa using e)
        simp [hasB, findL, ha] at this ⊢
        exact this
    · simp [hasB, findL, ha]
theorem ok_inj {l : List Hr} (h : ∀ j, j < l.length → badH l j = false) {i j : Nat} (hi : i < l.length) (hj : j < l.length) (e : l.getD i hrD = l.getD j hrD) : i = j := by
  have key : ∀ {i j : Nat}, i < j → j < l.length → l.getD i hrD = l.getD j hrD → False := fun {i j} hij hj e => by
    have hb := h j hj
    unfold badH at hb
    rw [Bool.or_eq_false_iff] at hb
    have ht : (l.take j).getD i hrD = l.getD i hrD := by
      rw [List.getD_eq_getElem?_getD, List.getD_eq_getElem?_getD, List.getElem?_take_of_lt hij]
    have := has_of (h := l.getD j hrD) (l := l.take j) (j := i) (by rw [List.length_take]; omega) (by rw [ht, e]; exact one_refl _)
    rw [this] at hb
    cases hb.2
  rcases Nat.lt_trichotomy i j with h1 | h1 | h1
  · exact (key h1 hj e).elim
  · exact h1
  · exact (key h1 hi e.symm).elim
theorem ok_nodup {l : List Hr} (h : ∀ j, j < l.length → badH l j = false) : l.Nodup := by
  refine List.pairwise_iff_getElem.mpr (fun i j hi hj hij e => ?_)
  have : l.getD i hrD = l.getD j hrD := by rw [List.getD_eq_getElem?_getD, List.getD_eq_getElem?_getD, List.getElem?_eq_getElem hi, List.getElem?_eq_getElem hj, e]
  have := ok_inj h hi hj this
  omega
theorem head_filter {x : Hr} : ∀ {l : List Hr}, firstK x l < l.length → (l.filter (sameK x)).getD 0 hrD = l.getD (firstK x l) hrD
  | [], h => by simp at h
  | a :: l, h => by
    cases ha : sameK x a
    · have e : firstK x (a :: l) = firstK x l + 1 := by simp [firstK, ha]
      rw [e] at h ⊢
      have := head_filter (x := x) (l := l) (by simpa using h)
      rw [List.filter_cons, ha]
      simpa using this
    · have e : firstK x (a :: l) = 0 := by simp [firstK, ha]
      rw [e, List.filter_cons, ha]; simp
/-- The last place of x among the first m. -/
def atL (a : List Hr) (x : Hr) : Nat → Int
  | 0 => -1
  | m + 1 => if a.getD m hrD = x then (m : Int) else atL a x m
theorem atL_at {a : List Hr} {x : Hr} {p : Nat} (hinj : ∀ q, q < a.length → a.getD q hrD = x → q = p) (hp : a.getD p hrD = x) : ∀ {m : Nat}, m ≤ a.length → atL a x m = if p < m then (p : Int) else -1
  | 0, _ => by simp [atL]
  | m + 1, hm => by
    have ih := atL_at hinj hp (m := m) (by omega)
    unfold atL
    by_cases e : a.getD m hrD = x
    · have := hinj m (by omega) e
      subst this
      rw [if_pos e, if_pos (by omega)]
    · have hne : m ≠ p := fun e' => e (e' ▸ hp)
      rw [if_neg e, ih]
      by_cases h1 : p < m
      · rw [if_pos h1, if_pos (by omega)]
      · rw [if_neg h1, if_neg (by omega)]
theorem at_facts {l : List Hr} (h : ∀ j, j < l.length → badH l j = false) {k : Nat} (hk : k < l.length) {x : Hr} (hx : l.getD k hrD = x) : ∃ p : Nat, p < (forL l x.node x.type x.cap).length ∧ atL (forL l x.node x.type x.cap) x (forL l x.node x.type x.cap).length = (p : Int) ∧ ((p = 0) ↔ firstK x l = k) := by
  have hnd := ok_nodup h
  have hxl : x ∈ l := hx ▸ getD_memH hk
  have hfa : forL l x.node x.type x.cap = l.filter (sameK x) := rfl
  have hxa : x ∈ forL l x.node x.type x.cap := by rw [hfa]; exact List.mem_filter.mpr ⟨hxl, sameK_refl x⟩
  have hand : (forL l x.node x.type x.cap).Nodup := by rw [hfa]; exact hnd.filter _
  generalize hA : forL l x.node x.type x.cap = A at *
  obtain ⟨p, hp, e⟩ := List.getElem_of_mem hxa
  have ep : A.getD p hrD = x := by rw [List.getD_eq_getElem?_getD, List.getElem?_eq_getElem hp]; exact e
  have hinj : ∀ q, q < A.length → A.getD q hrD = x → q = p := fun q hq hq' => by
    rw [List.getD_eq_getElem?_getD, List.getElem?_eq_getElem hq] at hq'
    exact (List.getElem_inj hand).mp (hq'.trans e.symm)
  refine ⟨p, hp, by rw [atL_at hinj ep (Nat.le_refl _), if_pos hp], ?_⟩
  have hfl := firstK_lt hxl
  have hhead := head_filter hfl
  rw [← hfa] at hhead
  constructor
  · intro h0
    subst h0
    rw [ep] at hhead
    exact (ok_inj h hk hfl (hx.trans hhead)).symm
  · intro hf
    rw [hf, hx] at hhead
    exact (hinj 0 (by omega) hhead).symm
theorem other_phase {l : List Hr} {x : Hr} {q : Nat} (hq : q < (forL l x.node x.type (!x.cap)).length) : (forL l x.node x.type (!x.cap)).getD q hrD ≠ x := by
  intro e
  have hm := getD_memH hq
  rw [e] at hm
  have := (List.mem_filter.mp hm).2
  unfold hearsP at this
  simp at this

set_option maxRecDepth 100000 in
set_option maxHeartbeats 8000000 in
theorem listenParts_yes (l : List Hr) (a : Option Addr) (cap : Nat) (w : World) (hL : HearsAt w (.slice a l.length cap) l) (hok : checkE l 64 = 0) :
    Calls Try.prog 6 #[.slice a l.length cap] w fun x w' => x = .returned (.bool true) ∧ Below w.heap.size w w' := by
  obtain ⟨h64, hbad⟩ := check_ok hok
  have HL := hideG hL
  have HOK := hideG hok
  have HAT := hideG (show ∀ k x, k < l.length → l.getD k hrD = x → ∃ p : Nat, p < (forL l x.node x.type x.cap).length ∧ atL (forL l x.node x.type x.cap) x (forL l x.node x.type x.cap).length = (p : Int) ∧ ((p = 0) ↔ firstK x l = k) from fun k x hk hx => at_facts hbad hk hx)
  obtain ⟨a', cap', hv', _, hc⟩ := hL
  simp only [Value.slice.injEq, true_and] at hv'
  obtain ⟨rfl, rfl⟩ := hv'
  have HC := hideG hc
  have HALL := hideG (cntK_all l)
  clear hok hbad hc
  go_enter Try.func6, Try.ntmps6
  go_wp2_with fail
  refine (check_any l 64 _ _ HL.out (by omega)).mono ?_
  rintro e w1 ⟨rfl, hb1⟩
  rw [HOK.out]
  have HB1 := hideG hb1
  clear hb1
  go_wp2_with fail
  go_loopw [3, 4] (fun cv i wr => ∃ k : Nat, k ≤ l.length ∧ cv = .int .i64 (cntK l k : Int) ∧ i = .int .i64 k ∧ Below w1.heap.size w1 wr) (fun _ i _ => l.length - (intOf i).toNat)
  case atStart => exact ⟨0, Nat.zero_le _, by rw [cntK_zero]; rfl, rfl, Below.refl _ _⟩
  case round =>
    obtain ⟨k, hk, rfl, rfl, hB⟩ := hrel
    have HBk := hideG hB
    clear hB
    by_cases hlt : k < l.length
    · obtain ⟨b, off, rfl, hd⟩ := HC.out (by omega)
      have HLk := hideG ((HL.out.below HB1.out).below HBk.out)
      have hH := ((hd k hlt).below HB1.out).below HBk.out
      have HCS := hideG (cntK_succ hlt)
      have hcb : cntK l k ≤ l.length := List.length_filter_le _ _
      generalize hx : l.getD k hrD = x at *
      obtain ⟨p, hpl, hpe, hpf⟩ := HAT.out k x hlt hx
      have HPE := hideG hpe
      have HPF := hideG hpf
      have hal : (forL l x.node x.type x.cap).length ≤ l.length := List.length_filter_le _ _
      have hbl : (forL l x.node x.type (!x.cap)).length ≤ l.length := List.length_filter_le _ _
      have HOT := hideG (show ∀ q, q < (forL l x.node x.type (!x.cap)).length → (forL l x.node x.type (!x.cap)).getD q hrD ≠ x from fun q hq => other_phase hq)
      have c0 := hH.node
      have c1 := hH.type
      have c2 := hH.cap
      have c3 := hH.once
      have c4 := hH.prog
      have hk0 : (0 : Int) ≤ (k : Int) := by omega
      have hbb : b < wr.heap.size := below_of_cell c0
      have HXH := hideG hH
      have HF1 := hideG (show ∀ U, Below wr.heap.size wr U → Calls Try.prog 16 #[.slice (some ⟨b, off, none⟩) l.length cap, .int .i64 x.node, .int .i64 x.type, .bool x.cap] U (fun e w' => ∃ a c, e = .returned (.slice a (forL l x.node x.type x.cap).length c) ∧ HearsAt w' (.slice a (forL l x.node x.type x.cap).length c) (forL l x.node x.type x.cap) ∧ Below wr.heap.size wr w') from fun U hU => by
        refine (for_any l _ _ _ _ U (HLk.out.below hU) (by omega)).mono ?_
        rintro e w' ⟨a, c, rfl, ho, hb⟩
        exact ⟨a, c, rfl, ownsRow_hears ho, hU.trans (hb.mono hU.size)⟩)
      have HF2 := hideG (show ∀ U, Below wr.heap.size wr U → Calls Try.prog 16 #[.slice (some ⟨b, off, none⟩) l.length cap, .int .i64 x.node, .int .i64 x.type, .bool (!x.cap)] U (fun e w' => ∃ a c, e = .returned (.slice a (forL l x.node x.type (!x.cap)).length c) ∧ HearsAt w' (.slice a (forL l x.node x.type (!x.cap)).length c) (forL l x.node x.type (!x.cap)) ∧ Below wr.heap.size wr w') from fun U hU => by
        refine (for_any l _ _ _ _ U (HLk.out.below hU) (by omega)).mono ?_
        rintro e w' ⟨a, c, rfl, ho, hb⟩
        exact ⟨a, c, rfl, ownsRow_hears ho, hU.trans (hb.mono hU.size)⟩)
      clear hd hH hx hpe hpf
      go_wp2_with fail
      go_region_held3 (fun z => Below wr.heap.size wr z ∧ z.cell? ⟨b, off + k * 5, none⟩ = some (.int .i64 x.node) ∧ z.cell? ⟨b, off + k * 5 + 1, none⟩ = some (.int .i64 x.type) ∧ z.cell? ⟨b, off + k * 5 + 2, none⟩ = some (.bool x.cap)) (refine ⟨?_, ?_, ?_, ?_⟩ <;> first | assumption | exact below_drew' (Below.refl _ _) | exact below_drew' (by assumption) | exact cell_below (by assumption) c0 | exact cell_below (by assumption) c1 | exact cell_below (by assumption) c2 | go_keep) (first | (go_at_call 16; refine Calls.mono (HF1.out _ (by first | assumption | exact below_drew' (Below.refl _ _) | exact below_drew' (by assumption))) ?_; rintro e w2 ⟨ax, cx, rfl, hi2, hb2⟩))
      have HB2 : Hid (Below wr.heap.size wr w2) := by show Below _ _ _; assumption
      have HA2 : Hid (HearsAt w2 (.slice ax (forL l x.node x.type x.cap).length cx) (forL l x.node x.type x.cap)) := by show HearsAt _ _ _; assumption
      have HX2 := hideG (HXH.out.below HB2.out)
      have HLw2 := hideG (HLk.out.below HB2.out)
      have HF3 := hideG (show ∀ U, Below w2.heap.size w2 U → Calls Try.prog 16 #[.slice (some ⟨b, off, none⟩) l.length cap, .int .i64 x.node, .int .i64 x.type, .bool (!x.cap)] U (fun e w' => ∃ a c, e = .returned (.slice a (forL l x.node x.type (!x.cap)).length c) ∧ HearsAt w' (.slice a (forL l x.node x.type (!x.cap)).length c) (forL l x.node x.type (!x.cap)) ∧ Below w2.heap.size w2 w') from fun U hU => by
        refine (for_any l _ _ _ _ U (HLw2.out.below hU) (by omega)).mono ?_
        rintro e w' ⟨a, c, rfl, ho, hb⟩
        exact ⟨a, c, rfl, ownsRow_hears ho, hU.trans (hb.mono hU.size)⟩)
      have d0 := HX2.out.node
      have d1 := HX2.out.type
      have d2 := HX2.out.cap
      have hbb2 : b < w2.heap.size := below_of_cell d0
      clear c0 c1 c2 c3 c4 HF1 HF2
      go_wp2_with fail
      go_region_held3 (fun z => Below w2.heap.size w2 z ∧ z.cell? ⟨b, off + k * 5, none⟩ = some (.int .i64 x.node) ∧ z.cell? ⟨b, off + k * 5 + 1, none⟩ = some (.int .i64 x.type) ∧ z.cell? ⟨b, off + k * 5 + 2, none⟩ = some (.bool x.cap)) (refine ⟨?_, ?_, ?_, ?_⟩ <;> first | assumption | exact below_drew' (Below.refl _ _) | exact below_drew' (by assumption) | exact cell_below (by assumption) d0 | exact cell_below (by assumption) d1 | exact cell_below (by assumption) d2 | go_keep) (first | (go_at_call 16; refine Calls.mono (HF3.out _ (by first | assumption | exact below_drew' (Below.refl _ _) | exact below_drew' (by assumption))) ?_; rintro e w3 ⟨ay, cy, rfl, hi3, hb3⟩))
      have HB3 : Hid (Below w2.heap.size w2 w3) := by show Below _ _ _; assumption
      have HBB3 : Hid (HearsAt w3 (.slice ay (forL l x.node x.type (!x.cap)).length cy) (forL l x.node x.type (!x.cap))) := by show HearsAt _ _ _; assumption
      have HA3 := hideG (HA2.out.below HB3.out)
      have HX3 := hideG (HX2.out.below HB3.out)
      have HBW3 := hideG (HBk.out.trans (HB2.out.mono HBk.out.size) |>.trans (HB3.out.mono (HBk.out.trans (HB2.out.mono HBk.out.size)).size))
      clear d0 d1 d2 hbb2 hbb
      obtain ⟨ax', cx', hvx, _, hdA⟩ := HA3.out
      simp only [Value.slice.injEq, true_and] at hvx
      obtain ⟨rfl, rfl⟩ := hvx
      obtain ⟨ay', cy', hvy, _, hdB⟩ := HBB3.out
      simp only [Value.slice.injEq, true_and] at hvy
      obtain ⟨rfl, rfl⟩ := hvy
      have HDA := hideG hdA
      have HDB := hideG hdB
      clear hdA hdB
      generalize (forL l x.node x.type x.cap) = AL at *
      generalize (forL l x.node x.type (!x.cap)) = BL at *
      go_wp2_with fail
      go_loopw [7, 8] (fun av i wz => ∃ q : Nat, q ≤ AL.length ∧ av = .int .i64 (atL AL x q) ∧ i = .int .i64 q ∧ Below w3.heap.size w3 wz) (fun _ i _ => AL.length - (intOf i).toNat)
      case atStart => exact ⟨0, Nat.zero_le _, rfl, rfl, Below.refl _ _⟩
      case round =>
        obtain ⟨q, hq, rfl, rfl, hBq⟩ := hrel
        have HBq := hideG hBq
        clear hBq
        by_cases hltq : q < AL.length
        · obtain ⟨b2, off2, rfl, hd2⟩ := HDA.out (by omega)
          have hH2 := (hd2 q hltq).below HBq.out
          have hHx := HX3.out.below HBq.out
          generalize hy : AL.getD q hrD = y at *
          have HY := hideG hy
          have s0 := hH2.node
          have s1 := hH2.type
          have s2 := hH2.cap
          have s3 := hH2.once
          have s4 := hH2.prog
          have t0 := hHx.node
          have t1 := hHx.type
          have t2 := hHx.cap
          have t3 := hHx.once
          have t4 := hHx.prog
          have hq0 : (0 : Int) ≤ (q : Int) := by omega
          have hb5 : b2 < wr.heap.size := below_of_cell s0
          have hb6 : b < wr.heap.size := below_of_cell t0
          have he := fun wx => hear_eql y.node y.type y.cap y.once y.prog x.node x.type x.cap x.once x.prog wx
          rw [eqC_hr] at he
          clear hd2 hH2 hHx hy
          by_cases hyx : y = x
          · have hdx : decide (y = x) = true := by simpa using hyx
            rw [hdx] at he
            have HE := hideG (show atL AL x (q + 1) = (q : Int) by unfold atL; rw [HY.out, if_pos hyx])
            clear hyx hdx
            have hcc : ∀ (d : Calm wr) (b o : Nat), b < wr.heap.size → d.to.cell? ⟨b, o, none⟩ = wr.cell? ⟨b, o, none⟩ := calmCell
            go_wp2_with fail
            refine wp_region_calm (by kernel_rfl) (by kernel_rfl) ?_
            repeat (go_big_quiet_step (fail))
            refine wpQuiet_nil ?_
            intro _ hw'
            obtain ⟨dq, hw''⟩ := hw'
            subst hw''
            have HB1 := hideG (HBq.out.trans (dq.below.mono HBq.out.size))
            generalize dq.to = wd at *
            clear dq hcc he s0 s1 s2 s3 s4 t0 t1 t2 t3 t4
            go_wp2_with fail
            go_roundw
            case rel => exact ⟨q + 1, by omega, by rw [HE.out], by go_num, HB1.out⟩
            case measure => simp [intOf]; omega
          · have hdx : decide (y = x) = false := by simpa using hyx
            rw [hdx] at he
            have HE := hideG (show atL AL x (q + 1) = atL AL x q by rw [atL, HY.out, if_neg hyx])
            clear hyx hdx
            have hcc : ∀ (d : Calm wr) (b o : Nat), b < wr.heap.size → d.to.cell? ⟨b, o, none⟩ = wr.cell? ⟨b, o, none⟩ := calmCell
            go_wp2_with fail
            refine wp_region_calm (by kernel_rfl) (by kernel_rfl) ?_
            repeat (go_big_quiet_step (fail))
            refine wpQuiet_nil ?_
            intro _ hw'
            obtain ⟨dq, hw''⟩ := hw'
            subst hw''
            have HB1 := hideG (HBq.out.trans (dq.below.mono HBq.out.size))
            generalize dq.to = wd at *
            clear dq hcc he s0 s1 s2 s3 s4 t0 t1 t2 t3 t4
            go_wp2_with fail
            go_roundw
            case rel => exact ⟨q + 1, by omega, by rw [HE.out], by go_num, HB1.out⟩
            case measure => simp [intOf]; omega
        · have hqe : q = AL.length := by omega
          subst hqe
          rw [HPE.out]
          have hp0 : (0 : Int) ≤ (p : Int) := by omega
          go_wp2_with fail
          go_loopw [9] (fun i wz => ∃ m : Nat, m ≤ BL.length ∧ i = .int .i64 m ∧ Below w3.heap.size w3 wz) (fun i _ => BL.length - (intOf i).toNat)
          case atStart => exact ⟨0, Nat.zero_le _, rfl, HBq.out⟩
          case round =>
            obtain ⟨q, hq, rfl, hBq⟩ := hrel
            have HBq := hideG hBq
            clear hBq
            by_cases hltq : q < BL.length
            · obtain ⟨b2, off2, rfl, hd2⟩ := HDB.out (by omega)
              have hH2 := (hd2 q hltq).below HBq.out
              have hHx := HX3.out.below HBq.out
              have hne := HOT.out q hltq
              generalize hy : BL.getD q hrD = y at *
              have s0 := hH2.node
              have s1 := hH2.type
              have s2 := hH2.cap
              have s3 := hH2.once
              have s4 := hH2.prog
              have t0 := hHx.node
              have t1 := hHx.type
              have t2 := hHx.cap
              have t3 := hHx.once
              have t4 := hHx.prog
              have hq0 : (0 : Int) ≤ (q : Int) := by omega
              have hb5 : b2 < wr.heap.size := below_of_cell s0
              have hb6 : b < wr.heap.size := below_of_cell t0
              have he := fun wx => hear_eql y.node y.type y.cap y.once y.prog x.node x.type x.cap x.once x.prog wx
              rw [eqC_hr, show decide (y = x) = false by simpa using hne] at he
              clear hd2 hH2 hHx hy hne
              have hcc : ∀ (d : Calm wr) (b o : Nat), b < wr.heap.size → d.to.cell? ⟨b, o, none⟩ = wr.cell? ⟨b, o, none⟩ := calmCell
              go_wp2_with fail
              refine wp_region_calm (by kernel_rfl) (by kernel_rfl) ?_
              repeat (go_big_quiet_step (fail))
              refine wpQuiet_nil ?_
              intro _ hw'
              obtain ⟨dq, hw''⟩ := hw'
              subst hw''
              have HB1 := hideG (HBq.out.trans (dq.below.mono HBq.out.size))
              generalize dq.to = wd at *
              clear dq hcc he s0 s1 s2 s3 s4 t0 t1 t2 t3 t4
              go_wp2_with fail
              go_roundw
              case rel => exact ⟨q + 1, by omega, by go_num, HB1.out⟩
              case measure => simp [intOf]; omega
            · have HBn := hideG (HBW3.out.trans (HBq.out.mono HBW3.out.size))
              by_cases hpz : p = 0
              · have HE := hideG (show cntK l (k + 1) = cntK l k + AL.length by rw [HCS.out, if_pos (HPF.out.mp hpz)])
                subst hpz
                go_wp2_with fail
                go_roundw
                case rel => exact ⟨k + 1, by omega, by rw [HE.out]; go_num, by go_num, HBn.out⟩
                case measure => simp [intOf]; omega
              · have HE := hideG (show cntK l (k + 1) = cntK l k by rw [HCS.out, if_neg (fun e => hpz (HPF.out.mpr e))]; rfl)
                have hpz' : ((p : Int) == 0) = false := by rw [beq_eq_false_iff_ne]; omega
                clear hpz
                go_wp2_with fail
                go_roundw
                case rel => exact ⟨k + 1, by omega, by rw [HE.out], by go_num, HBn.out⟩
                case measure => simp [intOf]; omega
    · have hke : k = l.length := by omega
      subst hke
      rw [HALL.out]
      have HBE := hideG (HB1.out.trans (HBk.out.mono HB1.out.size))
      go_wp2_with fail
      refine (live8_any _).mono ?_
      rintro e w6 ⟨rfl, hb6⟩
      have HB6 := hideG (HBE.out.trans (hb6.mono HBE.out.size))
      clear hb6
      go_wp2_with fail
      go_ret
      exact ⟨rfl, HB6.out⟩

set_option maxRecDepth 100000 in
set_option maxHeartbeats 1000000 in
theorem check_big (l : List Hr) (nodes : Int) (a : Option Addr) (cap : Nat) (w : World) (h64 : (64 : Int) < (l.length : Int)) :
    Calls Try.prog 13 #[.slice a l.length cap, .int .i64 nodes] w fun x w' => x = .returned (.int .i64 1) ∧ Below w.heap.size w w' := by
  go_enter Try.func13, Try.ntmps13
  go_wp2_with fail
  go_ret
  exact ⟨rfl, Below.refl _ _⟩

set_option maxRecDepth 100000 in
set_option maxHeartbeats 4000000 in
theorem listenParts_walk (l : List Hr) (v : Value) (w : World) (hL : HearsAt w v l) :
    Calls Try.prog 6 #[v] w fun x w' => x = .returned (.bool true) ∧ Below w.heap.size w w' := by
  obtain ⟨a, cap, rfl⟩ := hL.shape
  by_cases h64 : (64 : Int) < (l.length : Int)
  · have HC := hideG (check_big l 64 a cap w h64)
    clear hL h64
    go_enter Try.func6, Try.ntmps6
    go_wp2_with fail
    refine HC.out.mono ?_
    rintro e w1 ⟨rfl, hb1⟩
    have HB1 := hideG hb1
    clear hb1
    go_wp2_with fail
    refine (live8_any _).mono ?_
    rintro e w2 ⟨rfl, hb2⟩
    have HB2 := hideG (HB1.out.trans (hb2.mono HB1.out.size))
    clear hb2
    go_wp2_with fail
    go_ret
    exact ⟨rfl, HB2.out⟩
  · by_cases hok : checkE l 64 = 0
    · exact listenParts_yes l a cap w hL hok
    · have HC := hideG (check_any l 64 _ w hL (by omega))
      have hne : (checkE l 64 != 0) = true := by simpa using hok
      generalize checkE l 64 = c at *
      clear hL h64 hok
      go_enter Try.func6, Try.ntmps6
      go_wp2_with fail
      refine HC.out.mono ?_
      rintro e w1 ⟨rfl, hb1⟩
      have HB1 := hideG hb1
      clear hb1
      go_wp2_with fail
      refine (live8_any _).mono ?_
      rintro e w2 ⟨rfl, hb2⟩
      have HB2 := hideG (HB1.out.trans (hb2.mono HB1.out.size))
      clear hb2
      go_wp2_with fail
      go_ret
      exact ⟨rfl, HB2.out⟩
end Go.Proofs.Ytahnkhgaopaaoab
