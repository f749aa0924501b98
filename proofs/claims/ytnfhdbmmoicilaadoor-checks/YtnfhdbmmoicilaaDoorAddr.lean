/- The program's: what an address is made of, labels, domains. -/
import Derived.Test.YtnfhdbmmoicilaaDoorLeaf
import Derived.Test.YtnfhdbmmoicilaaDoorShelf
import Derived.Test.YtnfhdbmmoicilaaDoorRefDom
namespace Go.Proofs.YtnfhdbmmoicilaaDoor
open Go.RowKit

theorem indexByte_any (m : ByteArray) (c : UInt8) (w : World) :
    Calls Tryd.prog 57 #[.string m, .int .u8 (c.toNat : Int)] w fun e w' => e = .returned (.int .i64 (Lib.indexByte m.data.toList c)) ∧ w' = w := by
  have := Tryd.strings_IndexByte m (c.toNat : Int) w
  rwa [Int.toNat_natCast, show c.toNat.toUInt8 = c from UInt8.ofNat_toNat] at this

def madeC (m : List UInt8) (c : UInt8) : Bool := alB c || !decide (Lib.indexByte m c < 0)

set_option maxHeartbeats 400000 in
theorem isMadeOf_any (s m : ByteArray) (w : World) (hs : s.size ≤ maxLen) :
    Calls Tryd.prog 41 #[.string s, .string m] w fun e w' => e = .returned (.bool (madeB s.data.toList m.data.toList)) ∧ w' = w := by
  unfold maxLen at hs
  go_enter Tryd.func41, Tryd.ntmps41
  go_wp2
  go_loop [8] (fun i => ∃ k : Nat, k ≤ s.size ∧ i = .int .i64 k ∧ Hid (∀ j : Nat, j < k → madeC m.data.toList (s.data.toList.getD j 0) = true)) (fun i => s.size - (intOf i).toNat)
  case atStart => exact ⟨0, Nat.zero_le _, rfl, fun j hj => by omega⟩
  case round =>
    obtain ⟨k, hk, rfl, HN⟩ := hrel
    by_cases hlt : k < s.size
    · have hg : Hid (s.data.toList.getD k 0 = s[k]) := getD_of s k hlt
      cases hA : (letB ↑s[k].toNat || digB ↑s[k].toNat) with
      | true =>
        have HO : Hid (madeC m.data.toList s[k] = true) := by
          show _ = _
          simp only [madeC, alB, hA, Bool.true_or]
        go_wp2_with (go_at_call 56; refine (isLetterOrDigit_any _ _).mono ?_; rintro e w' ⟨rfl, rfl⟩)
        exact ⟨⟨k + 1, by omega, by go_num, ok_succ HN.out hg.out HO.out⟩, by simp [intOf]; omega⟩
      | false =>
        cases hI : decide (Lib.indexByte m.data.toList s[k] < 0) with
        | true =>
          have HO : Hid (madeC m.data.toList s[k] = false) := by
            show _ = _
            simp only [madeC, alB, hA, hI]; rfl
          go_wp2_with (first | (go_at_call 56; refine (isLetterOrDigit_any _ _).mono ?_; rintro e w' ⟨rfl, rfl⟩) | (go_at_call 57; refine (indexByte_any _ _ _).mono ?_; rintro e w' ⟨rfl, rfl⟩))
          go_ret
          exact ⟨ret_bool (all_no (p := madeC m.data.toList) (by rw [size_of_toList]; exact hlt) (by rw [hg.out, HO.out])).symm, rfl⟩
        | false =>
          have HO : Hid (madeC m.data.toList s[k] = true) := by
            show _ = _
            simp only [madeC, alB, hA, hI]; rfl
          go_wp2_with (first | (go_at_call 56; refine (isLetterOrDigit_any _ _).mono ?_; rintro e w' ⟨rfl, rfl⟩) | (go_at_call 57; refine (indexByte_any _ _ _).mono ?_; rintro e w' ⟨rfl, rfl⟩))
          exact ⟨⟨k + 1, by omega, by go_num, ok_succ HN.out hg.out HO.out⟩, by simp [intOf]; omega⟩
    · go_wp2
      go_ret
      exact ⟨ret_bool (all_of (p := madeC m.data.toList) (fun j hj => HN.out j (by rw [size_of_toList] at hj; omega))).symm, rfl⟩

set_option maxHeartbeats 400000 in
theorem isLabel_any (s : ByteArray) (w : World) (hs : s.size ≤ maxLen) :
    Calls Tryd.prog 43 #[.string s] w fun e w' => e = .returned (.bool (labB s.data.toList)) ∧ w' = w := by
  have hM := hs
  unfold maxLen at hs
  have HU : Hid (∀ b, labB s.data.toList = b → Ending.returned (.bool b) = .returned (.bool (labB s.data.toList))) := fun b h => by rw [h]
  by_cases hn : 1 ≤ s.size ∧ s.size ≤ 20
  · have hb1 : decide ((s.size : Int) < 1) = false := by simp; omega
    have hb2 : decide (20 < (s.size : Int)) = false := by simp; omega
    have HL : Hid (labB s.data.toList = (!Lib.hasPrefix s.data.toList [45] && !Lib.hasSuffix s.data.toList [45] && madeB s.data.toList [45])) := by
      show _ = _
      simp only [labB, size_of_toList, decide_eq_true hn.1, decide_eq_true hn.2, Bool.true_and]
    clear hn
    cases hP : Lib.hasPrefix s.data.toList [45] with
    | true =>
      go_enter Tryd.func43, Tryd.ntmps43
      go_wp2_with (go_at_call 38; refine (Tryd.strings_HasPrefix _ _ _).mono ?_; rintro e w' ⟨rfl, rfl⟩)
      go_ret
      exact ⟨HU.out _ (by rw [HL.out, hP]; rfl), rfl⟩
    | false =>
      cases hS : Lib.hasSuffix s.data.toList [45] with
      | true =>
        go_enter Tryd.func43, Tryd.ntmps43
        go_wp2_with (first | (go_at_call 38; refine (Tryd.strings_HasPrefix _ _ _).mono ?_; rintro e w' ⟨rfl, rfl⟩) | (go_at_call 39; refine (Tryd.strings_HasSuffix _ _ _ hM).mono ?_; rintro e w' ⟨rfl, rfl⟩))
        go_ret
        exact ⟨HU.out _ (by rw [HL.out, hP, hS]; rfl), rfl⟩
      | false =>
        go_enter Tryd.func43, Tryd.ntmps43
        go_wp2_with (first | (go_at_call 38; refine (Tryd.strings_HasPrefix _ _ _).mono ?_; rintro e w' ⟨rfl, rfl⟩) | (go_at_call 39; refine (Tryd.strings_HasSuffix _ _ _ hM).mono ?_; rintro e w' ⟨rfl, rfl⟩) | (go_at_call 41; refine (isMadeOf_any _ _ _ hM).mono ?_; rintro e w' ⟨rfl, rfl⟩))
        go_ret
        exact ⟨HU.out _ (by rw [HL.out, hP, hS]; rfl), rfl⟩
  · have HF : Hid (labB s.data.toList = false) := by
      rw [labB_eq]
      exact labR_len (by rw [size_of_toList]; exact hn)
    have hb : (decide ((s.size : Int) < 1) || decide (20 < (s.size : Int))) = true := by simp; omega
    clear hn
    go_enter Tryd.func43, Tryd.ntmps43
    go_wp2_with fail
    all_goals (go_ret; exact ⟨HU.out _ HF.out, rfl⟩)
end Go.Proofs.YtnfhdbmmoicilaaDoor
