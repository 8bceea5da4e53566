/- slices.Clone at numbers; flat.Kids, list, List. -/
import Derived.Test.YtahnkhgaopaaoaaFlat3
namespace Go.Proofs.Ytahnkhgaopaaoaa
open Go.RowKit

theorem cell_keptC {w : World} {o : Obj} {a : Addr} {v : Value} (h : w.cell? a = some v) : (w.alloc o).cell? a = some v :=
  (World.cell?_alloc_lt _ _ _ (below_of_cell h)).trans h

set_option maxHeartbeats 1000000 in
theorem clone60_some (a : Addr) (n cap : Nat) (cs : List Value) (w : World) (hn : n ≤ 1000000) (hl : cs.length = n * 1) (hc : ∀ j u, cs[j]? = some u → w.cell? (a.add j) = some u) (h1 : ∀ u ∈ cs, u.oneCell' = true) :
    Calls Try.prog 60 #[.slice (some a) n cap] w fun e w' => ∃ v', e = .returned v' ∧ w'.ownsRow w.heap.size 3 1 v' n cs ∧ Below w.heap.size w w' ∧ (v' = .slice none 0 0 → False) := by
  obtain ⟨i0, hi, hz0, hz1, hz2⟩ := info_parts infoT3
  have hown : (w.alloc (.cells #[] 3)).ownsRow w.heap.size 3 1 (.slice (some ⟨w.heap.size, 0, none⟩) 0 0) 0 [] := World.ownsRow_made w #[] 0 (Nat.le_refl _) (by simp [maxLen]) rfl
  have HC : Hid (∀ j u, cs[j]? = some u → w.cell? (a.add j) = some u) := hc
  have H1 : Hid (∀ u ∈ cs, u.oneCell' = true) := h1
  have HL : Hid (cs.length = n * 1) := hl
  have he := fun wx => Lib.run_eql_slice_nil (P := Try.prog) wx 27 3 (some a) n cap 0 0 Try.underlying27
  clear hc h1 hl
  go_enter Try.func60, Try.ntmps60
  go_wp2_with (at_builtin; refine wpList_append_own _ rfl (.tmp 5) (.tmp 6) 27 rfl w.heap.size 3 i0 _ 1 8 Try.underlying27 hi hz0 hz1 hz2 rfl (by decide) _ 0 [] rfl hown a n cap cs rfl HL.out ?h1 H1.out ?h2 ?h3 ?h4 ?h5)
  case h1 => exact fun j u hj => cell_keptC (HC.out j u hj)
  case h2 => simp only [maxLen]; omega
  case h3 => omega
  case h4 => simp
  case h5 =>
    intro v' w' hown' hgrow hnil
    go_wp2_with fail
    go_ret
    refine ⟨v', rfl, by simpa using hown', ?_, ?_⟩
    · exact ((Below.refl _ w).alloc (Nat.le_refl _) _).grown hgrow (by simp) (fun k e => by simp [Value.ownBlock] at e; omega)
    · exact hnil

set_option maxHeartbeats 400000 in
theorem clone60_nil (n cap : Nat) (w : World) :
    Calls Try.prog 60 #[.slice none n cap] w fun e w' => e = .returned (.slice none 0 0) ∧ w' = w := by
  have he := fun wx => Lib.run_eql_slice_nil (P := Try.prog) wx 27 3 none n cap 0 0 Try.underlying27
  go_enter Try.func60, Try.ntmps60
  go_wp2_with fail
  go_ret
  exact ⟨rfl, rfl⟩


theorem cloneInts_any (l : List Int) (v : Value) (w : World) (hI : IntsAt w v l) (hl : l.length ≤ 1000000) :
    Calls Try.prog 60 #[v] w fun e w' => ∃ a c, e = .returned (.slice a l.length c) ∧ w'.ownsRow w.heap.size 3 1 (.slice a l.length c) l.length (intCells l) ∧ Below w.heap.size w w' := by
  obtain ⟨a, cap, rfl, hc⟩ := hI
  cases a with
  | none =>
    have h0 : l = [] := by
      cases l with
      | nil => rfl
      | cons a l => obtain ⟨b, off, e, _⟩ := hc (by simp); cases e
    subst h0
    refine (clone60_nil _ _ _).mono ?_
    rintro e w' ⟨rfl, rfl⟩
    exact ⟨none, 0, rfl, World.ownsRow_nil _ _ _ _, Below.refl _ _⟩
  | some ad =>
    obtain ⟨h1, h2⟩ := IntsAt.cells (w := w) (a := ad) (n := l.length) (cap := cap) (l := l) ⟨some ad, cap, rfl, hc⟩
    refine (clone60_some ad l.length cap (intCells l) w hl (by simp [intCells]) h2 (by intro u hu; simp [intCells] at hu; obtain ⟨x, _, rfl⟩ := hu; rfl)).mono ?_
    rintro e w' ⟨v', rfl, ho, hb, _⟩
    obtain ⟨a', c', rfl⟩ := ownsRow_shape ho
    exact ⟨a', c', rfl, ho, hb⟩

/-- flat.Kids. -/
def fkidsI (T : List Nd) (n : Int) : List Int := if knownB T [n] then kidsF T n.toNat else []
theorem kidsF_le {T : List Nd} (hm : mayB T = true) {n : Nat} (hn : n < T.length) : (kidsF T n).length ≤ 64 := by
  have h1 := pigeonF T.length (chF T n) ((fitsF hm).nd n hn) (fun x hx => (fitsF hm).lt n hn x hx)
  have h2 := (mayB_fine hm).le
  have h3 : (chF T n).length = (kidsF T n).length := by simp [chF]
  omega
set_option maxHeartbeats 1000000 in
theorem flatKids_any (T : List Nd) (hS : Sane T) (v : Value) (n : Int) (w : World) (hT : TreeAt w v T) :
    Calls Try.prog 23 #[v, .int .i64 n] w fun e w' => ∃ a c, e = .returned (.slice a (fkidsI T n).length c) ∧ w'.ownsRow w.heap.size 3 1 (.slice a (fkidsI T n).length c) (fkidsI T n).length (intCells (fkidsI T n)) ∧ Below w.heap.size w w' := by
  have HT := hideG hT
  have HS := hideG hS
  obtain ⟨ta, tc, rfl⟩ := hT.shape
  clear hT
  cases hk : knownB T [n]
  · have hq : fkidsI T n = [] := by simp [fkidsI, hk]
    rw [hq]
    have HK := hideG hk
    clear hk hq
    go_enter Try.func23, Try.ntmps23
    go_wp2_with (go_at_call 58; refine (fknown_any T HS.out _ _ _ HT.out).mono ?_; rintro e w1 ⟨rfl, hb1⟩; rw [HK.out]; have HB1 := hideG hb1; clear hb1)
    go_ret
    exact ⟨none, 0, rfl, World.ownsRow_nil _ _ _ _, HB1.out⟩
  · obtain ⟨hm, m, rfl, hml⟩ := known_one hk
    have hq : fkidsI T (m : Int) = kidsF T m := by simp [fkidsI, hk]
    rw [hq]
    have h64 := kidsF_le hm hml
    have h6 : (kidsF T m).length ≤ 1000000 := by omega
    have HK := hideG hk
    have HM := hideG hm
    have H6 := hideG h6
    clear hk hm hq h64 h6
    go_enter Try.func23, Try.ntmps23
    go_wp2_with fail
    refine (fknown_any T HS.out _ _ _ HT.out).mono ?_
    rintro e w1 ⟨rfl, hb1⟩
    rw [HK.out]
    have HB1 := hideG hb1
    clear hb1
    go_wp2_with fail
    refine (fkids_any T HM.out HS.out _ m hml _ (HT.out.below HB1.out)).mono ?_
    rintro e w2 ⟨a2, c2, rfl, hI2, hb2⟩
    have HI2 := hideG hI2
    have HB2 := hideG (HB1.out.trans (hb2.mono HB1.out.size))
    clear hI2 hb2
    go_wp2_with fail
    refine (cloneInts_any (kidsF T m) _ _ HI2.out H6.out).mono ?_
    rintro e w3 ⟨a3, c3, rfl, ho3, hb3⟩
    have HO3 := hideG (ownsRow_base ho3 HB2.out.size)
    have HB3 := hideG (HB2.out.trans (hb3.mono HB2.out.size))
    clear ho3 hb3
    go_wp2_with fail
    go_ret
    exact ⟨a3, c3, rfl, HO3.out, HB3.out⟩
end Go.Proofs.Ytahnkhgaopaaoaa
