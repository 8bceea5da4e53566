/- Get and Has of limelightref02. -/
import Derived.Test.YtbfomnkapnlgeaaBackMath
namespace Go.Proofs.Ytbfomnkapnlgeaa
open Go.RowKit

/-- The first attribute of a name. -/
def firstL (nm : Int) : List (Int × Int) → Int × Bool
  | [] => (0, false)
  | a :: l => if a.1 == nm then (a.2, true) else firstL nm l
theorem first_drop {l : List (Int × Int)} {k : Nat} (h : k < l.length) (nm : Int) : firstL nm (l.drop k) = if (l.getD k (0, 0)).1 == nm then ((l.getD k (0, 0)).2, true) else firstL nm (l.drop (k + 1)) := by
  rw [List.drop_eq_getElem_cons h, firstL, List.getD_eq_getElem?_getD, List.getElem?_eq_getElem h, Option.getD_some]
theorem first_gone {k last nm : Int} (h : nm ≤ last) : ∀ {l : List (Int × Int)}, attrsFrom k last l = true → firstL nm l = (0, false)
  | [], _ => rfl
  | a :: l, hl => by
    rw [attrsFrom, Bool.and_eq_true, Bool.not_eq_true', Bool.or_eq_false_iff, decide_eq_false_iff_not] at hl
    rw [firstL, if_neg (by simp; omega)]
    exact first_gone (by omega) hl.2
theorem first_look {k nm : Int} : ∀ {l : List (Int × Int)} {last : Int}, attrsFrom k last l = true → firstL nm l = lookL l nm
  | [], _, _ => rfl
  | a :: l, last, hl => by
    rw [attrsFrom, Bool.and_eq_true] at hl
    rw [firstL, lookL_cons]
    by_cases e : a.1 = nm
    · rw [if_pos (by simpa using e), if_pos (by omega), if_pos (by simpa using e)]
    · rw [if_neg (by simpa using e)]
      by_cases hn : nm ≤ a.1
      · rw [if_pos hn, if_neg (by simpa using e)]
        exact first_gone hn hl.2
      · rw [if_neg hn]
        exact first_look hl.2

def refGetL (T : List Nd) (n nm : Int) : Int × Bool := if isNodeB T.length n then firstL nm (nd T n.toNat).attrs else (0, false)
theorem refGet_eq {T : List Nd} (hm : mayB T = true) (n nm : Int) : refGetL T n nm = getL T n nm := by
  rw [refGetL]
  cases hi : isNodeB T.length n
  · rw [getL, faultE, hm, hi]; rfl
  · obtain ⟨k, rfl, hk⟩ := isNodeB_true hi
    rw [if_pos rfl, Int.toNat_natCast, getL_ok hm hk]
    exact first_look (may_attrs hm hk)

set_option maxRecDepth 100000 in
set_option maxHeartbeats 2000000 in
theorem refGet_any (T : List Nd) (hS : Sane T) (v : Value) (n nm : Int) (w : World) (hT : TreeAt w v T) :
    Calls Try.prog 35 #[v, .int .i64 n, .int .i64 nm] w fun e w' => e = .returned (.tuple #[.int .i64 (refGetL T n nm).1, .bool (refGetL T n nm).2]) ∧ w' = w := by
  have HT := hideG hT
  obtain ⟨a, cap, rfl⟩ := hT.shape
  clear hT
  cases hi : isNodeB T.length n
  · have hR : refGetL T n nm = (0, false) := by rw [refGetL, hi]; rfl
    go_enter Try.func35, Try.ntmps35
    go_wp2_with (go_at_call 30; refine (refIs_any _ _ _ _ _).mono ?_; rw [hi]; rintro e w1 ⟨rfl, rfl⟩)
    go_ret2
    exact ⟨ret_ib (by rw [hR]) (by rw [hR]), rfl⟩
  · obtain ⟨k, rfl, hk⟩ := isNodeB_true hi
    have HR := hideG (show refGetL T (k : Int) nm = firstL nm (nd T k).attrs by rw [refGetL, hi, if_pos rfl, Int.toNat_natCast])
    obtain ⟨b, off, cap2, hv, hc⟩ := HT.out.at (by omega)
    obtain ⟨rfl, rfl⟩ : a = some ⟨b, off, none⟩ ∧ cap = cap2 := by simpa using hv
    obtain ⟨kv, av, hN⟩ := hc k hk
    have c6 := hN.attrsc
    obtain ⟨aa, ac, rfl, hac⟩ := hN.attrs
    have hl := (hS k hk).2
    have HC := hideG hac
    clear hN hc hv hac hS
    generalize (nd T k).attrs = l at *
    go_enter Try.func35, Try.ntmps35
    go_wp2_with (go_at_call 30; refine (refIs_any _ _ _ _ _).mono ?_; rw [hi]; rintro e w1 ⟨rfl, rfl⟩)
    go_loopw [8] (fun i wr => ∃ j : Nat, j ≤ l.length ∧ i = .int .i64 j ∧ wr = w1 ∧ Hid (firstL nm (l.drop j) = firstL nm l)) (fun i _ => l.length - (intOf i).toNat)
    case atStart => exact ⟨0, Nat.zero_le _, rfl, rfl, rfl⟩
    case round =>
      obtain ⟨j, hj, rfl, rfl, HF⟩ := hrel
      by_cases hlt : j < l.length
      · obtain ⟨ab, aoff, rfl, hd⟩ := HC.out (by omega)
        obtain ⟨c1, c2⟩ := hd j hlt
        have HS := hideG (first_drop hlt nm)
        clear hd
        generalize l.getD j (0, 0) = A at *
        obtain ⟨p, q⟩ := A
        dsimp only at c1 c2 HS
        cases hx : (p == nm)
        · have HF2 := hideG (show firstL nm (l.drop (j + 1)) = firstL nm l by rw [← HF.out, HS.out, hx]; rfl)
          go_wp2_with fail
          go_roundw
          case rel => exact ⟨j + 1, by omega, by go_num, trivial, HF2.out⟩
          case measure => simp [intOf]; omega
        · have HF2 := hideG (show firstL nm l = (q, true) by rw [← HF.out, HS.out, hx]; rfl)
          go_wp2_with fail
          go_ret2
          exact ⟨ret_ib (by rw [HR.out, HF2.out]) (by rw [HR.out, HF2.out]), rfl⟩
      · have HF2 := hideG (show firstL nm l = (0, false) by rw [← HF.out, List.drop_eq_nil_of_le (by omega)]; rfl)
        go_wp2_with fail
        go_ret2
        exact ⟨ret_ib (by rw [HR.out, HF2.out]) (by rw [HR.out, HF2.out]), rfl⟩

theorem refHas_any (T : List Nd) (hS : Sane T) (v : Value) (n nm : Int) (w : World) (hT : TreeAt w v T) :
    Calls Try.prog 68 #[v, .int .i64 n, .int .i64 nm] w fun e w' => e = .returned (.bool (refGetL T n nm).2) ∧ w' = w := by
  have HG := hideG (refGet_any T hS v n nm w hT)
  obtain ⟨a, cap, rfl⟩ := hT.shape
  clear hT
  go_enter Try.func68, Try.ntmps68
  go_wp2_with (go_at_call 35; refine Calls.mono HG.out ?_; rintro e w1 ⟨rfl, rfl⟩)
  go_ret
  exact ⟨rfl, rfl⟩
end Go.Proofs.Ytbfomnkapnlgeaa
