/- live of package limelightlaw08. -/
import Derived.Test.YtahnkhgaopaaoabHear6
namespace Go.Proofs.Ytahnkhgaopaaoab
open Go.RowKit

theorem hears_nil (w : World) : HearsAt w (.slice none 0 0) [] := ⟨none, 0, rfl, Nat.le_refl _, fun h => by simp at h⟩
theorem l8Add (n t : Int) (c o : Bool) (p : Int) (l l' : List Hr) (e : Int) (L : Nat) (hL : addL l ⟨n, t, c, o, p⟩ = l') (hE : addE l ⟨n, t, c, o, p⟩ = e) (hn : l'.length = L) (hl : l.length ≤ 100000) (v : Value) (w : World) (h : HearsAt w v l) :
    Calls Try.prog 9 #[v, .agg #[.int .i64 n, .int .i64 t, .bool c, .bool o, .int .i64 p]] w fun x w' => ∃ a c, x = .returned (.tuple #[.slice a L c, .int .i64 e]) ∧ HearsAt w' (.slice a L c) l' ∧ Below w.heap.size w w' := by
  refine (add_any l ⟨n, t, c, o, p⟩ v w h hl).mono ?_
  rintro x w' ⟨a, cc, rfl, hh, hb⟩
  rw [hL, hn] at hh
  exact ⟨a, cc, by rw [hL, hn, hE], hh, hb⟩
theorem l8Drop (n t : Int) (c o : Bool) (p : Int) (l l' : List Hr) (e : Int) (L : Nat) (hL : dropL l ⟨n, t, c, o, p⟩ = l') (hE : dropE l ⟨n, t, c, o, p⟩ = e) (hn : l'.length = L) (hl : l.length ≤ 100000) (v : Value) (w : World) (h : HearsAt w v l) :
    Calls Try.prog 11 #[v, .agg #[.int .i64 n, .int .i64 t, .bool c, .bool o, .int .i64 p]] w fun x w' => ∃ a c, x = .returned (.tuple #[.slice a L c, .int .i64 e]) ∧ HearsAt w' (.slice a L c) l' ∧ Below w.heap.size w w' := by
  refine (drop_any l ⟨n, t, c, o, p⟩ v w h hl).mono ?_
  rintro x w' ⟨a, cc, rfl, hh, hb⟩
  rw [hL, hn] at hh
  exact ⟨a, cc, by rw [hL, hn, hE], hh, hb⟩
theorem l8For (n t : Int) (c : Bool) (l l' : List Hr) (L : Nat) (hL : forL l n t c = l') (hn : l'.length = L) (hl : l.length ≤ 1000000) (v : Value) (w : World) (h : HearsAt w v l) :
    Calls Try.prog 16 #[v, .int .i64 n, .int .i64 t, .bool c] w fun x w' => ∃ a c, x = .returned (.slice a L c) ∧ HearsAt w' (.slice a L c) l' ∧ Below w.heap.size w w' := by
  refine (for_any l n t c v w h hl).mono ?_
  rintro x w' ⟨a, cc, rfl, ho, hb⟩
  have hh := ownsRow_hears ho
  rw [hL, hn] at hh
  exact ⟨a, cc, by rw [hL, hn], hh, hb⟩
def h8 : Hr := ⟨3, 2, false, false, 1⟩
def g8 : Hr := ⟨3, 2, false, true, 1⟩
def o8 : Hr := ⟨3, 2, true, false, 1⟩

def ckL (n : Int) : List Hr := if n == 9 then [h8, g8] else [h8, o8]
def ckR (n : Int) : Int := checkE (ckL n) n
theorem hears_new2 (w : World) : HearsAt (w.alloc (.cells #[.int .i64 3, .int .i64 2, .bool false, .bool false, .int .i64 1, .int .i64 3, .int .i64 2, .bool false, .bool true, .int .i64 1] 24)) (.slice (some ⟨w.heap.size, 0, none⟩) 2 2) (ckL 9) := by
  show HearsAt _ _ [h8, g8]
  refine ⟨_, 2, rfl, by simp, fun _ => ⟨w.heap.size, 0, rfl, fun j hj => ?_⟩⟩
  have hc : j = 0 ∨ j = 1 := by simp at hj; omega
  rcases hc with rfl | rfl
  · exact ⟨by simp [h8], by simp [h8], by simp [h8], by simp [h8], by simp [h8]⟩
  · exact ⟨by simp [g8], by simp [g8], by simp [g8], by simp [g8], by simp [g8]⟩

set_option maxRecDepth 100000 in
set_option maxHeartbeats 8000000 in
theorem live8_any (w : World) : Calls Try.prog 8 #[] w fun e w' => e = .returned (.bool true) ∧ Below w.heap.size w w' := by
  have HB0 := hideG (Below.refl w.heap.size w)
  go_enter Try.func8, Try.ntmps8
  go_wp2_with fail
  obtain ⟨Vh, hVh⟩ : ∃ V, w.alloc (.cells #[.int .i64 3, .int .i64 2, .bool false, .bool false, .int .i64 1] 24) = V := ⟨_, rfl⟩
  have hBh : Below w.heap.size w Vh := by rw [← hVh]; exact (Below.refl _ _).alloc (Nat.le_refl _) _
  have Bh : Hid (HearAt Vh w.heap.size 0 h8) := by rw [← hVh]; exact ⟨by simp [h8], by simp [h8], by simp [h8], by simp [h8], by simp [h8]⟩
  rw [hVh]
  clear hVh
  have HB0n := hideG (HB0.out.trans (hBh.mono HB0.out.size))
  clear HB0
  have HB0 := HB0n
  clear HB0n
  clear hBh
  refine (l8Add 3 2 false false 1 [] [h8] 0 1 (by decide) (by decide) rfl (by simp) _ _ (hears_nil _)).mono ?_
  rintro e w1 ⟨a1, c1, rfl, hh1, hb1⟩
  have Bhn := hideG (Bh.out.below hb1)
  have HB0n := hideG (HB0.out.trans (hb1.mono HB0.out.size))
  clear Bh HB0
  have Bh := Bhn
  clear Bhn
  have HB0 := HB0n
  clear HB0n
  have Sa := hideG hh1
  clear hb1 hh1
  have p0 : w1.cell? ⟨w.heap.size, 0, none⟩ = some (.int .i64 3) := Bh.out.node
  have p1 : w1.cell? ⟨w.heap.size, 1, none⟩ = some (.int .i64 2) := Bh.out.type
  have p2 : w1.cell? ⟨w.heap.size, 2, none⟩ = some (.bool false) := Bh.out.cap
  have p3 : w1.cell? ⟨w.heap.size, 3, none⟩ = some (.bool false) := Bh.out.once
  have p4 : w1.cell? ⟨w.heap.size, 4, none⟩ = some (.int .i64 1) := Bh.out.prog
  go_wp2_with fail
  clear p0 p1 p2 p3 p4
  obtain ⟨Vg, hVg⟩ : ∃ V, w1.alloc (.cells #[.int .i64 3, .int .i64 2, .bool false, .bool true, .int .i64 1] 24) = V := ⟨_, rfl⟩
  have hBg : Below w1.heap.size w1 Vg := by rw [← hVg]; exact (Below.refl _ _).alloc (Nat.le_refl _) _
  have Bg : Hid (HearAt Vg w1.heap.size 0 g8) := by rw [← hVg]; exact ⟨by simp [g8], by simp [g8], by simp [g8], by simp [g8], by simp [g8]⟩
  rw [hVg]
  clear hVg
  have Bhn := hideG (Bh.out.below hBg)
  have San := hideG (Sa.out.below hBg)
  have HB0n := hideG (HB0.out.trans (hBg.mono HB0.out.size))
  clear Bh Sa HB0
  have Bh := Bhn
  clear Bhn
  have Sa := San
  clear San
  have HB0 := HB0n
  clear HB0n
  clear hBg
  refine (l8Add 3 2 false true 1 [h8] [h8] 0 1 (by decide) (by decide) rfl (by simp) _ _ Sa.out).mono ?_
  rintro e w2 ⟨a2, c2, rfl, hh2, hb2⟩
  have Bhn := hideG (Bh.out.below hb2)
  have Bgn := hideG (Bg.out.below hb2)
  have San := hideG (Sa.out.below hb2)
  have HB0n := hideG (HB0.out.trans (hb2.mono HB0.out.size))
  clear Bh Bg Sa HB0
  have Bh := Bhn
  clear Bhn
  have Bg := Bgn
  clear Bgn
  have Sa := San
  clear San
  have HB0 := HB0n
  clear HB0n
  have Sb := hideG hh2
  clear hb2 hh2
  clear Sa
  have p0 : w2.cell? ⟨w.heap.size, 0, none⟩ = some (.int .i64 3) := Bh.out.node
  have p1 : w2.cell? ⟨w.heap.size, 1, none⟩ = some (.int .i64 2) := Bh.out.type
  have p2 : w2.cell? ⟨w.heap.size, 2, none⟩ = some (.bool false) := Bh.out.cap
  have p3 : w2.cell? ⟨w.heap.size, 3, none⟩ = some (.bool false) := Bh.out.once
  have p4 : w2.cell? ⟨w.heap.size, 4, none⟩ = some (.int .i64 1) := Bh.out.prog
  go_wp2_with fail
  clear p0 p1 p2 p3 p4
  obtain ⟨Vo, hVo⟩ : ∃ V, w2.alloc (.cells #[.int .i64 3, .int .i64 2, .bool true, .bool false, .int .i64 1] 24) = V := ⟨_, rfl⟩
  have hBo : Below w2.heap.size w2 Vo := by rw [← hVo]; exact (Below.refl _ _).alloc (Nat.le_refl _) _
  have Bo : Hid (HearAt Vo w2.heap.size 0 o8) := by rw [← hVo]; exact ⟨by simp [o8], by simp [o8], by simp [o8], by simp [o8], by simp [o8]⟩
  rw [hVo]
  clear hVo
  have Bhn := hideG (Bh.out.below hBo)
  have Bgn := hideG (Bg.out.below hBo)
  have Sbn := hideG (Sb.out.below hBo)
  have HB0n := hideG (HB0.out.trans (hBo.mono HB0.out.size))
  clear Bh Bg Sb HB0
  have Bh := Bhn
  clear Bhn
  have Bg := Bgn
  clear Bgn
  have Sb := Sbn
  clear Sbn
  have HB0 := HB0n
  clear HB0n
  clear hBo
  refine (l8Add 3 2 true false 1 [h8] [h8, o8] 0 2 (by decide) (by decide) rfl (by simp) _ _ Sb.out).mono ?_
  rintro e w3 ⟨a3, c3, rfl, hh3, hb3⟩
  have Bhn := hideG (Bh.out.below hb3)
  have Bgn := hideG (Bg.out.below hb3)
  have Bon := hideG (Bo.out.below hb3)
  have Sbn := hideG (Sb.out.below hb3)
  have HB0n := hideG (HB0.out.trans (hb3.mono HB0.out.size))
  clear Bh Bg Bo Sb HB0
  have Bh := Bhn
  clear Bhn
  have Bg := Bgn
  clear Bgn
  have Bo := Bon
  clear Bon
  have Sb := Sbn
  clear Sbn
  have HB0 := HB0n
  clear HB0n
  have Sc := hideG hh3
  clear hb3 hh3
  clear Sb
  have q0 : w3.cell? ⟨w1.heap.size, 0, none⟩ = some (.int .i64 3) := Bg.out.node
  have q1 : w3.cell? ⟨w1.heap.size, 1, none⟩ = some (.int .i64 2) := Bg.out.type
  have q2 : w3.cell? ⟨w1.heap.size, 2, none⟩ = some (.bool false) := Bg.out.cap
  have q3 : w3.cell? ⟨w1.heap.size, 3, none⟩ = some (.bool true) := Bg.out.once
  have q4 : w3.cell? ⟨w1.heap.size, 4, none⟩ = some (.int .i64 1) := Bg.out.prog
  go_wp2_with fail
  clear q0 q1 q2 q3 q4
  refine (l8Drop 3 2 false true 1 [h8, o8] [o8] 0 1 (by decide) (by decide) rfl (by simp) _ _ Sc.out).mono ?_
  rintro e w4 ⟨a4, c4, rfl, hh4, hb4⟩
  have Bhn := hideG (Bh.out.below hb4)
  have Bgn := hideG (Bg.out.below hb4)
  have Bon := hideG (Bo.out.below hb4)
  have Scn := hideG (Sc.out.below hb4)
  have HB0n := hideG (HB0.out.trans (hb4.mono HB0.out.size))
  clear Bh Bg Bo Sc HB0
  have Bh := Bhn
  clear Bhn
  have Bg := Bgn
  clear Bgn
  have Bo := Bon
  clear Bon
  have Sc := Scn
  clear Scn
  have HB0 := HB0n
  clear HB0n
  have Sd := hideG hh4
  clear hb4 hh4
  have p0 : w4.cell? ⟨w.heap.size, 0, none⟩ = some (.int .i64 3) := Bh.out.node
  have p1 : w4.cell? ⟨w.heap.size, 1, none⟩ = some (.int .i64 2) := Bh.out.type
  have p2 : w4.cell? ⟨w.heap.size, 2, none⟩ = some (.bool false) := Bh.out.cap
  have p3 : w4.cell? ⟨w.heap.size, 3, none⟩ = some (.bool false) := Bh.out.once
  have p4 : w4.cell? ⟨w.heap.size, 4, none⟩ = some (.int .i64 1) := Bh.out.prog
  go_wp2_with fail
  clear p0 p1 p2 p3 p4
  refine (l8Drop 3 2 false false 1 [o8] [o8] 9 1 (by decide) (by decide) rfl (by simp) _ _ Sd.out).mono ?_
  rintro e w5 ⟨a5, c5, rfl, hh5, hb5⟩
  have Bhn := hideG (Bh.out.below hb5)
  have Bgn := hideG (Bg.out.below hb5)
  have Bon := hideG (Bo.out.below hb5)
  have Scn := hideG (Sc.out.below hb5)
  have Sdn := hideG (Sd.out.below hb5)
  have HB0n := hideG (HB0.out.trans (hb5.mono HB0.out.size))
  clear Bh Bg Bo Sc Sd HB0
  have Bh := Bhn
  clear Bhn
  have Bg := Bgn
  clear Bgn
  have Bo := Bon
  clear Bon
  have Sc := Scn
  clear Scn
  have Sd := Sdn
  clear Sdn
  have HB0 := HB0n
  clear HB0n
  clear hb5 hh5
  clear Sd
  go_wp2_with fail
  refine (l8Add 0 9 false false 0 [] [] 1 0 (by decide) (by decide) rfl (by simp) _ _ (hears_nil _)).mono ?_
  rintro e w6 ⟨a6, c6, rfl, hh6, hb6⟩
  have Bhn := hideG (Bh.out.below hb6)
  have Bgn := hideG (Bg.out.below hb6)
  have Bon := hideG (Bo.out.below hb6)
  have Scn := hideG (Sc.out.below hb6)
  have HB0n := hideG (HB0.out.trans (hb6.mono HB0.out.size))
  clear Bh Bg Bo Sc HB0
  have Bh := Bhn
  clear Bhn
  have Bg := Bgn
  clear Bgn
  have Bo := Bon
  clear Bon
  have Sc := Scn
  clear Scn
  have HB0 := HB0n
  clear HB0n
  clear hb6 hh6
  go_wp2_with fail
  refine (l8For 3 2 true [h8, o8] [o8] 1 (by decide) rfl (by simp) _ _ Sc.out).mono ?_
  rintro e w7 ⟨a7, c7, rfl, hh7, hb7⟩
  have Bhn := hideG (Bh.out.below hb7)
  have Bgn := hideG (Bg.out.below hb7)
  have Bon := hideG (Bo.out.below hb7)
  have Scn := hideG (Sc.out.below hb7)
  have HB0n := hideG (HB0.out.trans (hb7.mono HB0.out.size))
  clear Bh Bg Bo Sc HB0
  have Bh := Bhn
  clear Bhn
  have Bg := Bgn
  clear Bgn
  have Bo := Bon
  clear Bon
  have Sc := Scn
  clear Scn
  have HB0 := HB0n
  clear HB0n
  have Sl := hideG hh7
  clear hb7 hh7
  have p0 : w7.cell? ⟨w.heap.size, 0, none⟩ = some (.int .i64 3) := Bh.out.node
  have p1 : w7.cell? ⟨w.heap.size, 1, none⟩ = some (.int .i64 2) := Bh.out.type
  have p2 : w7.cell? ⟨w.heap.size, 2, none⟩ = some (.bool false) := Bh.out.cap
  have p3 : w7.cell? ⟨w.heap.size, 3, none⟩ = some (.bool false) := Bh.out.once
  have p4 : w7.cell? ⟨w.heap.size, 4, none⟩ = some (.int .i64 1) := Bh.out.prog
  have q0 : w7.cell? ⟨w1.heap.size, 0, none⟩ = some (.int .i64 3) := Bg.out.node
  have q1 : w7.cell? ⟨w1.heap.size, 1, none⟩ = some (.int .i64 2) := Bg.out.type
  have q2 : w7.cell? ⟨w1.heap.size, 2, none⟩ = some (.bool false) := Bg.out.cap
  have q3 : w7.cell? ⟨w1.heap.size, 3, none⟩ = some (.bool true) := Bg.out.once
  have q4 : w7.cell? ⟨w1.heap.size, 4, none⟩ = some (.int .i64 1) := Bg.out.prog
  have r0 : w7.cell? ⟨w2.heap.size, 0, none⟩ = some (.int .i64 3) := Bo.out.node
  have r1 : w7.cell? ⟨w2.heap.size, 1, none⟩ = some (.int .i64 2) := Bo.out.type
  have r2 : w7.cell? ⟨w2.heap.size, 2, none⟩ = some (.bool true) := Bo.out.cap
  have r3 : w7.cell? ⟨w2.heap.size, 3, none⟩ = some (.bool false) := Bo.out.once
  have r4 : w7.cell? ⟨w2.heap.size, 4, none⟩ = some (.int .i64 1) := Bo.out.prog
  obtain ⟨aL, cL, hvL, hcL, hdL⟩ := Sl.out
  simp only [Value.slice.injEq] at hvL
  obtain ⟨rfl, hz1, rfl⟩ := hvL
  clear hz1 hcL
  obtain ⟨bL, oL, rfl, hdd⟩ := hdL (by simp)
  have hx := hdd 0 (by simp)
  have s0 : w7.cell? ⟨bL, oL, none⟩ = some (.int .i64 3) := hx.node
  have s1 : w7.cell? ⟨bL, oL + 1, none⟩ = some (.int .i64 2) := hx.type
  have s2 : w7.cell? ⟨bL, oL + 2, none⟩ = some (.bool true) := hx.cap
  have s3 : w7.cell? ⟨bL, oL + 3, none⟩ = some (.bool false) := hx.once
  have s4 : w7.cell? ⟨bL, oL + 4, none⟩ = some (.int .i64 1) := hx.prog
  clear hx hdd hdL
  have hk4 : ckR 4 = 0 := by decide
  have hk3 : ckR 3 = 2 := by decide
  have hk9 : ckR 9 = 1 := by decide
  have he := fun wx => hear_eql 3 2 true false 1 3 2 true false 1 wx
  have heq : eqC 3 2 true false 1 3 2 true false 1 = true := by decide
  rw [heq] at he
  clear heq
  have hbw : w.heap.size < w7.heap.size := below_of_cell p0
  have HCK := hideG (show ∀ U v n, Below w7.heap.size w7 U → HearsAt U v (ckL n) → Calls Try.prog 13 #[v, .int .i64 n] U (fun e w' => e = .returned (.int .i64 (ckR n)) ∧ Below w7.heap.size w7 w') from fun U v n hU hv => by
    refine (check_any (ckL n) n v U hv (by unfold ckL; split <;> simp)).mono ?_
    rintro e w' ⟨rfl, hb⟩
    exact ⟨rfl, hU.trans (hb.mono hU.size)⟩)
  go_wp2_with fail
  go_region_held3 (fun w' => Below w7.heap.size w7 w' ∧ w'.cell? ⟨w.heap.size, 0, none⟩ = some (.int .i64 3) ∧ w'.cell? ⟨w.heap.size, 1, none⟩ = some (.int .i64 2) ∧ w'.cell? ⟨w.heap.size, 2, none⟩ = some (.bool false) ∧ w'.cell? ⟨w.heap.size, 3, none⟩ = some (.bool false) ∧ w'.cell? ⟨w.heap.size, 4, none⟩ = some (.int .i64 1) ∧ w'.cell? ⟨w1.heap.size, 0, none⟩ = some (.int .i64 3) ∧ w'.cell? ⟨w1.heap.size, 1, none⟩ = some (.int .i64 2) ∧ w'.cell? ⟨w1.heap.size, 2, none⟩ = some (.bool false) ∧ w'.cell? ⟨w1.heap.size, 3, none⟩ = some (.bool true) ∧ w'.cell? ⟨w1.heap.size, 4, none⟩ = some (.int .i64 1) ∧ w'.cell? ⟨w2.heap.size, 0, none⟩ = some (.int .i64 3) ∧ w'.cell? ⟨w2.heap.size, 1, none⟩ = some (.int .i64 2) ∧ w'.cell? ⟨w2.heap.size, 2, none⟩ = some (.bool true) ∧ w'.cell? ⟨w2.heap.size, 3, none⟩ = some (.bool false) ∧ w'.cell? ⟨w2.heap.size, 4, none⟩ = some (.int .i64 1) ∧ w'.cell? ⟨bL, oL, none⟩ = some (.int .i64 3) ∧ w'.cell? ⟨bL, oL + 1, none⟩ = some (.int .i64 2) ∧ w'.cell? ⟨bL, oL + 2, none⟩ = some (.bool true) ∧ w'.cell? ⟨bL, oL + 3, none⟩ = some (.bool false) ∧ w'.cell? ⟨bL, oL + 4, none⟩ = some (.int .i64 1)) (refine ⟨?_, ?_, ?_, ?_, ?_, ?_, ?_, ?_, ?_, ?_, ?_, ?_, ?_, ?_, ?_, ?_, ?_, ?_, ?_, ?_, ?_⟩ <;> first | assumption | exact below_drew' (Below.refl _ _) | exact below_drew' (by assumption) | exact Below.alloc (by assumption) (Below.size (by assumption)) _ | exact (below_drew' (Below.refl _ _)).alloc (Nat.le_refl _) _ | exact cell_below (by assumption) (by assumption) | exact cell_alloc_l _ (by assumption) | go_keep) (first | (go_at_call 13; refine Calls.mono (HCK.out _ _ _ (by first | assumption | exact below_drew' (Below.refl _ _) | exact below_drew' (by assumption) | exact Below.alloc (by assumption) (Below.size (by assumption)) _) (by first | exact hears_new2 _ | exact HearsAt.below Sc.out (by assumption) | exact HearsAt.below Sc.out (below_drew' (Below.refl _ _)))) ?_; rintro e w' ⟨rfl, hb1⟩))
  have HB9 : Hid (Below w7.heap.size w7 w') := by show Below _ _ _; assumption
  go_wp2_with fail
  go_ret
  exact ⟨rfl, HB0.out.trans (HB9.out.mono HB0.out.size)⟩
end Go.Proofs.Ytahnkhgaopaaoab
