/- For every text s: the law AttrSign of package limelightlaw02 returns true, and nothing that was there has turned. No condition. -/
import Derived.ProofKit
import Derived.OpenShut
import Derived.ShutString
import Derived.Test.YtbfomnkapnlgeaaLive2
namespace Go.Proofs.Ytbfomnkapnlgeaa
open Go.ChangeShapes Go.WideShapes Go.ChangeAt Go.RowKit
open Go.ChangeMaps (open_string shut_string)

/-- Digits alone. -/
def digitsB (l : List UInt8) : Bool := l.all fun b => isDigitB b.toNat
def valL (sz : Int) (l : List UInt8) : Int := l.foldl (fun sz b => min (sz * 10 + ((b.toNat : Int) - 48)) 2147483648) sz

theorem run_digits : ∀ (l : List UInt8) (x : St), digitsB l = true → x.run l = if l.isEmpty then x else ⟨2, x.sign, valL x.size l⟩
  | [], x, _ => rfl
  | b :: l, x, h => by
    simp only [digitsB, List.all_cons, Bool.and_eq_true] at h
    rw [St.run]
    have e : x.step b.toNat = some ⟨2, x.sign, min (x.size * 10 + ((b.toNat : Int) - 48)) 2147483648⟩ := by simp only [St.step, h.1, if_true]
    rw [e]
    simp only
    rw [run_digits l _ h.2]
    cases l with
    | nil => rfl
    | cons c l => rfl
theorem valL_bounds : ∀ (l : List UInt8) (sz : Int), digitsB l = true → 0 ≤ sz → sz ≤ 2147483648 → 0 ≤ valL sz l ∧ valL sz l ≤ 2147483648
  | [], sz, _, h0, h1 => ⟨h0, h1⟩
  | b :: l, sz, h, h0, h1 => by
    simp only [digitsB, List.all_cons, Bool.and_eq_true] at h
    have hb : 48 ≤ (b.toNat : Int) := by have := h.1; simp [isDigitB] at this; omega
    exact valL_bounds l (min (sz * 10 + ((b.toNat : Int) - 48)) 2147483648) h.2 (by omega) (by omega)

theorem idx_digits {l : List UInt8} (h : digitsB l = true) : idx l = if l.isEmpty then (0, false) else (min (valL 0 l) 2147483647, true) := by
  unfold idx
  rw [run_digits l _ h]
  cases l with
  | nil => rfl
  | cons b l => simp
theorem idx_minus {l : List UInt8} (h : digitsB l = true) : idx (45 :: l) = if l.isEmpty then (0, false) else (-(valL 0 l), true) := by
  unfold idx
  rw [show St.run ⟨0, 1, 0⟩ (45 :: l) = St.run ⟨1, -1, 0⟩ l from rfl, run_digits l _ h]
  have hb := valL_bounds l 0 h (by omega) (by omega)
  cases l with
  | nil => rfl
  | cons b l => simp; omega
theorem idx_plus {l : List UInt8} (h : digitsB l = true) : idx (43 :: l) = if l.isEmpty then (0, false) else (min (valL 0 l) 2147483647, true) := by
  unfold idx
  rw [show St.run ⟨0, 1, 0⟩ (43 :: l) = St.run ⟨1, 1, 0⟩ l from rfl, run_digits l _ h]
  cases l with
  | nil => rfl
  | cons b l => simp
theorem idx_zeros {l : List UInt8} (h : digitsB l = true) : idx (48 :: 48 :: 48 :: l) = (min (valL 0 l) 2147483647, true) := by
  unfold idx
  rw [show St.run ⟨0, 1, 0⟩ (48 :: 48 :: 48 :: l) = St.run ⟨2, 1, 0⟩ l from rfl, run_digits l _ h]
  cases l with
  | nil => rfl
  | cons b l => simp

theorem digits_prefix {s : ByteArray} {k : Nat} (h : k < s.size) (hp : digitsB (s.data.toList.take k) = true) : digitsB (s.data.toList.take (k + 1)) = isDigitB (s[k].toNat) := by
  rw [List.take_succ_eq_append_getElem (by simpa using h)]
  simp only [digitsB, List.all_append, List.all_cons, List.all_nil, Bool.and_true] at hp ⊢
  rw [hp, Bool.true_and]
  rfl

theorem below5 {a b c d e f : World} (h1 : Below a.heap.size a b) (h2 : Below b.heap.size b c) (h3 : Below c.heap.size c d) (h4 : Below d.heap.size d e) (h5 : Below e.heap.size e f) : Below a.heap.size a f := by
  have s1 := h1.size
  have s2 := h2.size
  have s3 := h3.size
  have s4 := h4.size
  exact (((h1.trans (h2.mono (by omega))).trans (h3.mono (by omega))).trans (h4.mono (by omega))).trans (h5.mono (by omega))

set_option maxRecDepth 100000 in
set_option maxHeartbeats 2000000 in
theorem sign_walk (s : ByteArray) (hs : s.size ≤ maxLen) (w : World) :
    Calls Try.prog 14 #[.string s] w fun e w' => e = .returned (.bool true) ∧ Below w.heap.size w w' := by
  unfold maxLen at hs
  by_cases h60 : (60 : Int) < s.size
  · go_enter Try.func14, Try.ntmps14
    go_wp2_with (go_at_call 33; refine (live2_any _).mono ?_; rintro e w1 ⟨rfl, hb1⟩)
    go_ret
    exact ⟨rfl, hb1⟩
  · go_enter Try.func14, Try.ntmps14
    go_wp2_with fail
    go_loop [3] (fun i => ∃ k : Nat, k ≤ s.size ∧ i = .int .i64 k ∧ digitsB (s.data.toList.take k) = true) (fun i => s.size - (intOf i).toNat)
    case atStart => exact ⟨0, Nat.zero_le _, rfl, rfl⟩
    case round =>
      obtain ⟨k, hk, rfl, hd⟩ := hrel
      have HD : Hid (digitsB (s.data.toList.take k) = true) := hd
      clear hd
      by_cases hlt : k < s.size
      · have hnx := digits_prefix hlt HD.out
        have HX := hide90 hnx
        clear hnx
        by_cases h1 : ((s[k].toNat : Nat) : Int) < 48
        · go_wp2_with (go_at_call 33; refine (live2_any _).mono ?_; rintro e w1 ⟨rfl, hb1⟩)
          go_ret
          exact ⟨rfl, hb1⟩
        · have h1d : decide (((s[k].toNat : Nat) : Int) < 48) = false := by simpa using h1
          by_cases h2 : 57 < ((s[k].toNat : Nat) : Int)
          · go_wp2_with (go_at_call 33; refine (live2_any _).mono ?_; rintro e w1 ⟨rfl, hb1⟩)
            go_ret
            exact ⟨rfl, hb1⟩
          · go_wp2_with fail
            go_round
            case rel => exact ⟨k + 1, by omega, by go_num, by rw [HX.out]; simp [isDigitB]; omega⟩
            case measure => simp [intOf]; omega
      · have hke : k = s.size := by omega
        subst hke
        rw [List.take_of_length_le (by simp)] at HD
        have hdat : ∀ c : Array UInt8, ((⟨c⟩ : ByteArray) ++ s).data.toList = c.toList ++ s.data.toList := fun c => by
          rw [ByteArray.data_append, Array.toList_append]
        have hbd := valL_bounds s.data.toList 0 HD.out (by omega) (by omega)
        have i1 := idx_digits HD.out
        have i2 := idx_minus HD.out
        have i3 := idx_plus HD.out
        have i4 := idx_zeros HD.out
        have hte : s.toList.isEmpty = s.data.toList.isEmpty := by rw [ByteArray.toList_eq]
        cases hl : s.data.toList.isEmpty
        · rw [hl] at i1 i2 i3 hte
          simp only [Bool.false_eq_true, if_false] at i1 i2 i3
          have htn : ¬ s.toList = [] := by intro h; rw [h] at hte; cases hte
          generalize valL 0 s.data.toList = V at *
          obtain ⟨hV0, hV1⟩ := hbd
          by_cases hV : V ≤ 2147483647
          · rw [show min V 2147483647 = V by omega] at i1 i3 i4
            have HI := hide90 (And.intro i1 (And.intro i2 (And.intro i3 i4)))
            have HDat := hide90 hdat
            clear i1 i2 i3 i4 hdat
            go_wp2_with fail
            refine (lindex s V true HI.out.1 _).mono ?_
            rintro e w1 ⟨rfl, hb1⟩
            go_wp2_with fail
            refine (lindex _ (-V) true (by rw [HDat.out]; exact HI.out.2.1) _).mono ?_
            rintro e w2 ⟨rfl, hb2⟩
            go_wp2_with fail
            refine (lindex _ V true (by rw [HDat.out]; exact HI.out.2.2.1) _).mono ?_
            rintro e w3 ⟨rfl, hb3⟩
            go_wp2_with fail
            refine (lindex _ V true (by rw [HDat.out]; exact HI.out.2.2.2) _).mono ?_
            rintro e w4 ⟨rfl, hb4⟩
            go_wp2_with (go_at_call 33; refine (live2_any _).mono ?_; rintro e w5 ⟨rfl, hb5⟩)
            go_ret
            exact ⟨rfl, below5 hb1 hb2 hb3 hb4 hb5⟩
          · have hVe : V = 2147483648 := by omega
            subst hVe
            rw [show min (2147483648 : Int) 2147483647 = 2147483647 by omega] at i1 i3 i4
            have HI := hide90 (And.intro i1 (And.intro i2 (And.intro i3 i4)))
            have HDat := hide90 hdat
            clear i1 i2 i3 i4 hdat
            go_wp2_with fail
            refine (lindex s 2147483647 true HI.out.1 _).mono ?_
            rintro e w1 ⟨rfl, hb1⟩
            go_wp2_with fail
            refine (lindex _ (-2147483648) true (by rw [HDat.out]; exact HI.out.2.1) _).mono ?_
            rintro e w2 ⟨rfl, hb2⟩
            go_wp2_with fail
            refine (lindex _ 2147483647 true (by rw [HDat.out]; exact HI.out.2.2.1) _).mono ?_
            rintro e w3 ⟨rfl, hb3⟩
            go_wp2_with fail
            refine (lindex _ 2147483647 true (by rw [HDat.out]; exact HI.out.2.2.2) _).mono ?_
            rintro e w4 ⟨rfl, hb4⟩
            go_wp2_with (go_at_call 33; refine (live2_any _).mono ?_; rintro e w5 ⟨rfl, hb5⟩)
            go_ret
            exact ⟨rfl, below5 hb1 hb2 hb3 hb4 hb5⟩
        · rw [hl] at i1 i2 i3 hte
          simp only [if_true] at i1 i2 i3
          have htn : s.toList = [] := by simpa using hte
          have hV0 : valL 0 s.data.toList = 0 := by
            have : s.data.toList = [] := by simpa using hl
            rw [this]; rfl
          rw [hV0, show min (0 : Int) 2147483647 = 0 by omega] at i4
          clear hV0 hbd
          have HI := hide90 (And.intro i1 (And.intro i2 (And.intro i3 i4)))
          have HDat := hide90 hdat
          clear i1 i2 i3 i4 hdat
          go_wp2_with fail
          refine (lindex s 0 false HI.out.1 _).mono ?_
          rintro e w1 ⟨rfl, hb1⟩
          go_wp2_with fail
          refine (lindex _ 0 false (by rw [HDat.out]; exact HI.out.2.1) _).mono ?_
          rintro e w2 ⟨rfl, hb2⟩
          go_wp2_with fail
          refine (lindex _ 0 false (by rw [HDat.out]; exact HI.out.2.2.1) _).mono ?_
          rintro e w3 ⟨rfl, hb3⟩
          go_wp2_with fail
          refine (lindex _ 0 true (by rw [HDat.out]; exact HI.out.2.2.2) _).mono ?_
          rintro e w4 ⟨rfl, hb4⟩
          go_wp2_with (go_at_call 33; refine (live2_any _).mono ?_; rintro e w5 ⟨rfl, hb5⟩)
          go_ret
          exact ⟨rfl, below5 hb1 hb2 hb3 hb4 hb5⟩

set_option maxRecDepth 100000 in
theorem sign_lifted (os : Os) (started : os.Started) (H : Type) (enc : TypeId × Value → H) :
    ReturnsInHanded {} Try.checked os 14 .any (Rows.attrSignSpec.pre6 enc Try.prog Try.f14 Rows.attrSignRow.domain false) (Rows.attrSignSpec.post enc Try.prog Try.f14 false true false false) := by
  refine returnsInHanded_of_change (C := Try.checked) (by kernel_rfl) started (by kernel_rfl) Try.func14
    (ChangeSpec.witness6 (enc := enc) (C := Try.checked) false ⟨#[], #[.string ByteArray.empty], []⟩ 8 (by kernel_rfl) (by kernel_rfl) (by kernel_rfl) (by kernel_rfl)) ?_
  intro W base args ds gs before hval0 hW _ _
  have hval : ∀ (j : Nat) t v, Try.f14.params[j]? = some t → args[j]? = some v → Value.okWide Try.prog W .any base t v := hval0
  have hW' := hW
  obtain ⟨p, q, hA0, hV, rfl, hfz, hnd⟩ := hW
  have hA : DataW.TrodAll enc Try.prog W 0 (fun _ => true) true Try.f14.params.toList args.toList ds p := hA0
  rw [Try.params14] at hA hval
  obtain ⟨v0, vs0, d0, ds0, p0, q0, hargs, rfl, rfl, h0, r0⟩ := trodAll_cons hA
  obtain ⟨rfl, rfl, rfl⟩ := trodAll_nil r0
  obtain rfl : args = #[v0] := by cases args; simp_all
  obtain ⟨rfl, rfl⟩ := trodVars_none hV
  obtain ⟨a0, rfl, rfl, rfl, w0⟩ := open_string Try.underlying9 (hval 0 9 v0 rfl rfl) h0
  clear hA0 hval0
  simp only [List.append_nil] at hW'
  refine (sign_walk a0 w0 W).mono fun e W' ⟨he, hg⟩ => ?_
  subst he
  exact ⟨_, rfl, _, _, _, [], [], [], hW', trodAll_cons_mk (shut_bool Try.underlying4 _) trodAll_mk0, trodAll_cons_mk (shut_string Try.underlying9 w0) trodAll_mk0, rfl, hg.frame _, fun h => by cases h⟩

/-- THE STATEMENT. -/
theorem attrSign_holds : Rows.AttrSignSaid :=
  OpenClaim.holds_of_wide 14 Try.f14 rfl rfl rfl rfl rfl rfl rfl ⟨rfl, rfl, rfl, rfl, rfl⟩ rfl rfl rfl rfl rfl (by kernel_rfl) Try.func14 (by kernel_rfl)
    (of_decide_eq_true (by kernel_rfl)) (by unfold Func.isWrapper; first | (rw [if_pos (by decide +kernel)]; kernel_rfl) | (rw [if_neg (by decide +kernel)]; exact ⟨rfl, rfl⟩))
    (fun os started H enc _ => sign_lifted os started H enc)
#print axioms attrSign_holds
end Go.Proofs.Ytbfomnkapnlgeaa
