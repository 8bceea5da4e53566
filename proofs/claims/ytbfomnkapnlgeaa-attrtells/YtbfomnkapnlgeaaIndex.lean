/- attr.Index, walked: for every text it returns what the machine of IndexMath comes to. -/
import Derived.Test.YtbfomnkapnlgeaaIndexMath
namespace Go.Proofs.Ytbfomnkapnlgeaa
open Go.RowKit

theorem drop_at (s : ByteArray) (k : Nat) (h : k < s.size) : s.data.toList.drop k = s[k] :: s.data.toList.drop (k + 1) := by
  rw [List.drop_eq_getElem_cons (by simpa using h)]
  rfl

theorem next_rune (s : ByteArray) (k : Nat) (h : k < s.size) : ∃ (r : Int) (d : Nat), 0 ≤ r ∧ r ≤ 2147483647 ∧ 1 ≤ d ∧
    (∀ x : St, x.run (s.data.toList.drop k) = match x.step r with | some y => y.run (s.data.toList.drop (k + d)) | none => x) ∧
    ∀ (w : World) (ty : TypeId), (Instr.next (.pointer (some ⟨w.heap.size, 0, none⟩)) true ty).run Try.prog (w.iter s k) =
      .ok (.tuple #[.bool true, .int .i64 k, .int .i32 r]) (w.iter s (k + d)) := by
  by_cases ha : (s[k]'h).toNat < 128
  · refine ⟨(s[k]'h).toNat, 1, by omega, by omega, by omega, fun x => ?_, fun w ty => run_next_ascii w s k ty h ha⟩
    rw [drop_at s k h, St.run]
    rfl
  · have hh := decode_high s k h (by omega)
    refine ⟨(Utf8.decode s k).1, (Utf8.decode s k).2, by omega, ?_, hh.2, fun x => ?_, fun w ty => run_next_any w s k ty h⟩
    · have := decode_le s k
      omega
    · rw [drop_at s k h, St.run, St.step_high x _ (by omega), St.step_high x _ (by omega)]

theorem ret2 {k k' : IntKind} {a a' : Int} {b b' : Bool} (hk : k = k') (h : a = a') (h' : b = b') : Ending.returned (.tuple #[.int k a, .bool b]) = .returned (.tuple #[.int k' a', .bool b']) := by rw [hk, h, h']

theorem sgsz {sg sz : Int} (h2 : sg = 1 ∨ sg = -1) (h3 : 0 ≤ sz) (h4 : sz ≤ 2147483648) : wrap64 (sg * sz) = sg * sz := by
  rcases h2 with rfl | rfl <;> (unfold wrap64; omega)

theorem idx_big {l : List UInt8} {st sg sz : Int} (h : (⟨st, sg, sz⟩ : St) = St.run ⟨0, 1, 0⟩ l) (e : (st != 2) = false) (h2 : sg = 1 ∨ sg = -1) (h3 : 0 ≤ sz) (h4 : sz ≤ 2147483648)
    (hb : 2147483647 < wrap64 (sg * sz)) : Ending.returned (.tuple #[.int .i64 2147483647, .bool true]) = .returned (.tuple #[.int .i64 (idx l).1, .bool (idx l).2]) := by
  rw [sgsz h2 h3 h4] at hb
  have e' : (st == 2) = true := by simpa using e
  have : idx l = (min (sg * sz) 2147483647, true) := by simp only [idx, ← h, e', if_true]
  rw [this]
  exact ret2 rfl (by show _ = min _ _; omega) rfl
theorem idx_small {l : List UInt8} {st sg sz : Int} (h : (⟨st, sg, sz⟩ : St) = St.run ⟨0, 1, 0⟩ l) (e : (st != 2) = false) (h2 : sg = 1 ∨ sg = -1) (h3 : 0 ≤ sz) (h4 : sz ≤ 2147483648)
    (hb : wrap64 (sg * sz) ≤ 2147483647) : Ending.returned (.tuple #[.int .i64 (wrap64 (sg * sz)), .bool true]) = .returned (.tuple #[.int .i64 (idx l).1, .bool (idx l).2]) := by
  rw [sgsz h2 h3 h4] at hb ⊢
  have e' : (st == 2) = true := by simpa using e
  have : idx l = (min (sg * sz) 2147483647, true) := by simp only [idx, ← h, e', if_true]
  rw [this]
  exact ret2 rfl (by show _ = min _ _; omega) rfl
theorem idx_not {l : List UInt8} {st sg sz : Int} (h : (⟨st, sg, sz⟩ : St) = St.run ⟨0, 1, 0⟩ l) (e : (st != 2) = true) : Ending.returned (.tuple #[.int .i64 0, .bool false]) = .returned (.tuple #[.int .i64 (idx l).1, .bool (idx l).2]) := by
  have e' : (st == 2) = false := by simpa using e
  have : idx l = (0, false) := by simp only [idx, ← h, e', if_false, Bool.false_eq_true]
  rw [this]

theorem st_go {s : ByteArray} {k d : Nat} {r : Int} {x y z : St} (HX : ∀ x : St, x.run (s.data.toList.drop k) = match x.step r with | some y => y.run (s.data.toList.drop (k + d)) | none => x)
    (HR : x.run (s.data.toList.drop k) = z) (hs : x.step r = some y) : y.run (s.data.toList.drop (k + d)) = z := by
  have e := HX x
  rw [hs] at e
  exact e.symm.trans HR
theorem st_stop {s : ByteArray} {k d : Nat} {r : Int} {x z : St} (HX : ∀ x : St, x.run (s.data.toList.drop k) = match x.step r with | some y => y.run (s.data.toList.drop (k + d)) | none => x)
    (HR : x.run (s.data.toList.drop k) = z) (hs : x.step r = none) : x = z := by
  have e := HX x
  rw [hs] at e
  exact e.symm.trans HR
theorem min_if (a b : Int) : (if b < a then b else a) = min a b := by omega

set_option maxRecDepth 100000 in
set_option maxHeartbeats 1000000 in
theorem index_any (s : ByteArray) (w : World) :
    Calls Try.prog 41 #[.string s] w fun e w' => e = .returned (.tuple #[.int .i64 (idx s.data.toList).1, .bool (idx s.data.toList).2]) ∧ ∃ pos, w' = w.iter s pos := by
  go_enter Try.func41, Try.ntmps41
  go_wp2
  go_step3
  go_wp2
  go_step3
  go_wp2
  go_loopw [4, 5, 6] (fun a b c w' => ∃ (k : Nat) (st sg sz : Int), w' = w.iter s k ∧ a = .int .i64 st ∧ b = .int .i64 sg ∧ c = .int .i64 sz ∧ St.ok ⟨st, sg, sz⟩ ∧ St.run ⟨st, sg, sz⟩ (s.data.toList.drop k) = St.run ⟨0, 1, 0⟩ s.data.toList) (fun _ _ _ w' => s.size - w'.iterPos w.heap.size)
  case atStart => exact ⟨0, 0, 1, 0, rfl, rfl, rfl, rfl, ⟨.inl rfl, .inl rfl, by decide, by decide⟩, rfl⟩
  case round =>
    obtain ⟨k, st, sg, sz, rfl, rfl, rfl, rfl, hok, hrun⟩ := hrel
    obtain ⟨h1, h2, h3, h4⟩ := hok
    dsimp only at h1 h2 h3 h4
    by_cases hp : k < s.size
    · obtain ⟨r, d, hr0, hr1, hd1, hx, hn⟩ := next_rune s k hp
      have hnx := hn w
      have HX : Hid (∀ x : St, x.run (s.data.toList.drop k) = match x.step r with | some y => y.run (s.data.toList.drop (k + d)) | none => x) := hx
      have HR : Hid (St.run ⟨st, sg, sz⟩ (s.data.toList.drop k) = St.run ⟨0, 1, 0⟩ s.data.toList) := hrun
      clear hn hx hrun
      cases hdig : isDigitB r
      · cases h0 : (st == 0)
        · have HF : Hid ((⟨st, sg, sz⟩ : St) = St.run ⟨0, 1, 0⟩ s.data.toList) := st_stop HX.out HR.out (by show St.step _ _ = _; simp [St.step, hdig, h0])
          cases he : (st != 2)
          · go_wp2_with (first | (go_at_call 69; refine (isDigit_any _ _).mono ?_; rintro e w1 ⟨rfl, rfl⟩) | (go_at_call 70; refine (isSign_any _ _).mono ?_; rintro e w1 ⟨rfl, rfl⟩) | (go_at_call 71; refine (signOf_any _ _).mono ?_; rintro e w1 ⟨rfl, rfl⟩) | (go_at_call 72; refine (isBlank_any _ _).mono ?_; rintro e w1 ⟨rfl, rfl⟩))
            · go_ret2
              exact ⟨idx_big HF.out he h2 h3 h4 ‹_›, _, rfl⟩
            · go_ret2
              exact ⟨idx_small HF.out he h2 h3 h4 ‹_›, _, rfl⟩
          · go_wp2_with (first | (go_at_call 69; refine (isDigit_any _ _).mono ?_; rintro e w1 ⟨rfl, rfl⟩) | (go_at_call 70; refine (isSign_any _ _).mono ?_; rintro e w1 ⟨rfl, rfl⟩) | (go_at_call 71; refine (signOf_any _ _).mono ?_; rintro e w1 ⟨rfl, rfl⟩) | (go_at_call 72; refine (isBlank_any _ _).mono ?_; rintro e w1 ⟨rfl, rfl⟩))
            rw [Exit.noGoto_ret]
            go_ret2
            exact ⟨idx_not HF.out he, _, rfl⟩
        · cases hsn : isSignB r
          · cases hbl : isBlankB r
            · have HF : Hid ((⟨st, sg, sz⟩ : St) = St.run ⟨0, 1, 0⟩ s.data.toList) := st_stop HX.out HR.out (by show St.step _ _ = _; simp [St.step, hdig, hsn, hbl])
              cases he : (st != 2)
              · go_wp2_with (first | (go_at_call 69; refine (isDigit_any _ _).mono ?_; rintro e w1 ⟨rfl, rfl⟩) | (go_at_call 70; refine (isSign_any _ _).mono ?_; rintro e w1 ⟨rfl, rfl⟩) | (go_at_call 71; refine (signOf_any _ _).mono ?_; rintro e w1 ⟨rfl, rfl⟩) | (go_at_call 72; refine (isBlank_any _ _).mono ?_; rintro e w1 ⟨rfl, rfl⟩))
                · go_ret2
                  exact ⟨idx_big HF.out he h2 h3 h4 ‹_›, _, rfl⟩
                · go_ret2
                  exact ⟨idx_small HF.out he h2 h3 h4 ‹_›, _, rfl⟩
              · go_wp2_with (first | (go_at_call 69; refine (isDigit_any _ _).mono ?_; rintro e w1 ⟨rfl, rfl⟩) | (go_at_call 70; refine (isSign_any _ _).mono ?_; rintro e w1 ⟨rfl, rfl⟩) | (go_at_call 71; refine (signOf_any _ _).mono ?_; rintro e w1 ⟨rfl, rfl⟩) | (go_at_call 72; refine (isBlank_any _ _).mono ?_; rintro e w1 ⟨rfl, rfl⟩))
                rw [Exit.noGoto_ret]
                go_ret2
                exact ⟨idx_not HF.out he, _, rfl⟩
            · have HS : Hid ((⟨st, sg, sz⟩ : St).step r = some ⟨st, sg, sz⟩) := by show St.step _ _ = _; simp [St.step, hdig, h0, hsn, hbl]
              have HO := St.ok_step (x := ⟨st, sg, sz⟩) ⟨h1, h2, h3, h4⟩ HS.out
              have HH : Hid (St.ok ⟨st, sg, sz⟩) := HO
              clear HO
              go_wp2_with (first | (go_at_call 69; refine (isDigit_any _ _).mono ?_; rintro e w1 ⟨rfl, rfl⟩) | (go_at_call 70; refine (isSign_any _ _).mono ?_; rintro e w1 ⟨rfl, rfl⟩) | (go_at_call 71; refine (signOf_any _ _).mono ?_; rintro e w1 ⟨rfl, rfl⟩) | (go_at_call 72; refine (isBlank_any _ _).mono ?_; rintro e w1 ⟨rfl, rfl⟩))
              go_roundw
              case rel => exact ⟨k + d, _, _, _, rfl, rfl, rfl, rfl, HH.out, st_go HX.out HR.out HS.out⟩
              case measure => simp; omega
          · have HS : Hid ((⟨st, sg, sz⟩ : St).step r = some ⟨1, signOfI r, sz⟩) := by show St.step _ _ = _; simp [St.step, hdig, h0, hsn]
            have HO := St.ok_step (x := ⟨st, sg, sz⟩) ⟨h1, h2, h3, h4⟩ HS.out
            have HH : Hid (St.ok ⟨1, signOfI r, sz⟩) := HO
            clear HO
            go_wp2_with (first | (go_at_call 69; refine (isDigit_any _ _).mono ?_; rintro e w1 ⟨rfl, rfl⟩) | (go_at_call 70; refine (isSign_any _ _).mono ?_; rintro e w1 ⟨rfl, rfl⟩) | (go_at_call 71; refine (signOf_any _ _).mono ?_; rintro e w1 ⟨rfl, rfl⟩) | (go_at_call 72; refine (isBlank_any _ _).mono ?_; rintro e w1 ⟨rfl, rfl⟩))
            go_roundw
            case rel => exact ⟨k + d, _, _, _, rfl, rfl, rfl, rfl, HH.out, st_go HX.out HR.out HS.out⟩
            case measure => simp; omega
      · have hdd : 48 ≤ r ∧ r ≤ 57 := by simpa [isDigitB] using hdig
        obtain ⟨hd48, hd57⟩ := hdd
        have HS : Hid ((⟨st, sg, sz⟩ : St).step r = some ⟨2, sg, min (sz * 10 + (r - 48)) 2147483648⟩) := by show St.step _ _ = _; simp [St.step, hdig]
        have HO := St.ok_step (x := ⟨st, sg, sz⟩) ⟨h1, h2, h3, h4⟩ HS.out
        have HH : Hid (St.ok ⟨2, sg, min (sz * 10 + (r - 48)) 2147483648⟩) := HO
        clear HO
        go_wp2_with (first | (go_at_call 69; refine (isDigit_any _ _).mono ?_; rintro e w1 ⟨rfl, rfl⟩) | (go_at_call 70; refine (isSign_any _ _).mono ?_; rintro e w1 ⟨rfl, rfl⟩) | (go_at_call 71; refine (signOf_any _ _).mono ?_; rintro e w1 ⟨rfl, rfl⟩) | (go_at_call 72; refine (isBlank_any _ _).mono ?_; rintro e w1 ⟨rfl, rfl⟩))
        go_roundw
        case rel => exact ⟨k + d, _, _, _, rfl, rfl, rfl, by rw [min_if], HH.out, st_go HX.out HR.out HS.out⟩
        case measure => simp; omega
    · have hnx : ∀ ty, (Instr.next (.pointer (some ⟨w.heap.size, 0, none⟩)) true ty).run Try.prog (w.iter s k) = _ := fun ty => run_next_end w s k ty hp
      have hfin : (⟨st, sg, sz⟩ : St) = St.run ⟨0, 1, 0⟩ s.data.toList := by
        rw [← hrun, List.drop_eq_nil_of_le (by simpa using hp)]; rfl
      have HF : Hid ((⟨st, sg, sz⟩ : St) = St.run ⟨0, 1, 0⟩ s.data.toList) := hfin
      clear hfin hrun
      cases he : (st != 2)
      · go_wp2
        · go_ret2
          exact ⟨idx_big HF.out he h2 h3 h4 ‹_›, _, rfl⟩
        · go_ret2
          exact ⟨idx_small HF.out he h2 h3 h4 ‹_›, _, rfl⟩
      · go_wp2
        rw [Exit.noGoto_ret]
        go_ret2
        exact ⟨idx_not HF.out he, _, rfl⟩
end Go.Proofs.Ytbfomnkapnlgeaa
