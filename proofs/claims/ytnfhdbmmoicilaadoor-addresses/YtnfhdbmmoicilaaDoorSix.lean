/- The program's letters of six bits: a letter, how many bytes a group stands for. -/
import Derived.Test.YtnfhdbmmoicilaaDoorLeaf
import Derived.Test.YtnfhdbmmoicilaaDoorShelf
import Derived.Test.YtnfhdbmmoicilaaDoorPlain64
import Derived.Test.YtnfhdbmmoicilaaDoorRefDom
namespace Go.Proofs.YtnfhdbmmoicilaaDoor
open Go.RowKit

def LetPost (b : UInt8) (w : World) (e : Ending) (w' : World) : Prop := e = .returned (.tuple #[.int .u32 (((val b).getD 0 : Nat) : Int), .bool (val b).isSome]) ∧ w' = w
theorem LetPost.some {b : UInt8} {w : World} {e : Ending} {w' : World} (k : Nat) (n : Int) (hn : (k : Int) = n) (h : val b = Option.some k) (he : e = .returned (.tuple #[.int .u32 n, .bool true])) (hw : w' = w) : LetPost b w e w' := ⟨by rw [he, h, ← hn]; rfl, hw⟩
theorem LetPost.none {b : UInt8} {w : World} {e : Ending} {w' : World} (h : val b = Option.none) (he : e = .returned (.tuple #[.int .u32 0, .bool false])) (hw : w' = w) : LetPost b w e w' := ⟨by rw [he, h]; rfl, hw⟩

set_option maxHeartbeats 400000 in
set_option maxRecDepth 100000 in
theorem letterValue_any (b : UInt8) (w : World) : Calls Tryd.prog 63 #[.int .u8 (b.toNat : Int)] w (LetPost b w) := by
  have hlt : (b.toNat : Int) < 256 := by have := b.toNat_lt; omega
  have h0 : 0 ≤ (b.toNat : Int) := by omega
  by_cases h1 : 65 ≤ (b.toNat : Int) ∧ (b.toNat : Int) ≤ 90
  · have HV : Hid (val b = some (b.toNat - 65)) := by
      show _ = _
      unfold val; rw [if_pos (by omega)]
    obtain ⟨a1, a2⟩ := h1
    go_enter Tryd.func63, Tryd.ntmps63
    go_wp2
    go_ret2
    exact LetPost.some _ _ (by omega) HV.out rfl rfl
  by_cases h2 : 97 ≤ (b.toNat : Int) ∧ (b.toNat : Int) ≤ 122
  · have HV : Hid (val b = some (b.toNat - 97 + 26)) := by
      show _ = _
      unfold val; rw [if_neg (by omega), if_pos (by omega)]
    obtain ⟨a1, a2⟩ := h2
    clear h1
    have a3 : 90 < (b.toNat : Int) := by omega
    go_enter Tryd.func63, Tryd.ntmps63
    go_wp2
    go_ret2
    exact LetPost.some _ _ (by omega) HV.out rfl rfl
  by_cases h3 : 48 ≤ (b.toNat : Int) ∧ (b.toNat : Int) ≤ 57
  · have HV : Hid (val b = some (b.toNat - 48 + 52)) := by
      show _ = _
      unfold val; rw [if_neg (by omega), if_neg (by omega), if_pos (by omega)]
    obtain ⟨a1, a2⟩ := h3
    clear h1 h2
    have a3 : (b.toNat : Int) < 65 := by omega
    go_enter Tryd.func63, Tryd.ntmps63
    go_wp2
    go_ret2
    exact LetPost.some _ _ (by omega) HV.out rfl rfl
  have n1 : (decide (65 ≤ (b.toNat : Int)) && decide ((b.toNat : Int) ≤ 90)) = false := by simp; omega
  have n2 : (decide (97 ≤ (b.toNat : Int)) && decide ((b.toNat : Int) ≤ 122)) = false := by simp; omega
  have n3 : (decide (48 ≤ (b.toNat : Int)) && decide ((b.toNat : Int) ≤ 57)) = false := by simp; omega
  cases h4 : ((b.toNat : Int) == 43) with
  | true =>
    have h4' : (b.toNat : Int) = 43 := by simpa using h4
    have HV : Hid (val b = some 62) := by
      show _ = _
      unfold val; rw [if_neg (by omega), if_neg (by omega), if_neg (by omega), if_pos (by omega)]
    clear h1 h2 h3 n1 n2 n3
    have a1 : (b.toNat : Int) < 48 := by omega
    clear h4'
    go_enter Tryd.func63, Tryd.ntmps63
    go_wp2
    all_goals (go_ret2; exact LetPost.some _ _ rfl HV.out rfl rfl)
  | false =>
    cases h5 : ((b.toNat : Int) == 47) with
    | true =>
      have h5' : (b.toNat : Int) = 47 := by simpa using h5
      have HV : Hid (val b = some 63) := by
        show _ = _
        unfold val; rw [if_neg (by omega), if_neg (by omega), if_neg (by omega), if_neg (by omega), if_pos (by omega)]
      clear h1 h2 h3 n1 n2 n3
      have a1 : (b.toNat : Int) < 48 := by omega
      clear h5'
      go_enter Tryd.func63, Tryd.ntmps63
      go_wp2
      all_goals (go_ret2; exact LetPost.some _ _ rfl HV.out rfl rfl)
    | false =>
      have h4' : ¬ (b.toNat : Int) = 43 := by simpa using h4
      have h5' : ¬ (b.toNat : Int) = 47 := by simpa using h5
      have HV : Hid (val b = none) := by
        show _ = _
        unfold val; rw [if_neg (by omega), if_neg (by omega), if_neg (by omega), if_neg (by omega), if_neg (by omega)]
      have hr : (b.toNat : Int) < 48 ∨ (57 < (b.toNat : Int) ∧ (b.toNat : Int) < 65) ∨ (90 < (b.toNat : Int) ∧ (b.toNat : Int) < 97) ∨ 122 < (b.toNat : Int) := by omega
      clear h1 h2 h3 h4' h5' n1 n2 n3
      rcases hr with r1 | ⟨r1, r2⟩ | ⟨r1, r2⟩ | r1
      all_goals
        go_enter Tryd.func63, Tryd.ntmps63
        go_wp2
        go_ret2
        exact LetPost.none HV.out rfl rfl

/-- how many bytes the group stands for -/
def stood (l : List UInt8) : Nat := if Lib.hasSuffix l [61, 61] then 1 else if Lib.hasSuffix l [61] then 2 else 3
set_option maxHeartbeats 400000 in
set_option maxRecDepth 100000 in
theorem bytesStood_any (s : ByteArray) (w : World) (hs : s.size ≤ maxLen) :
    Calls Tryd.prog 46 #[.string s] w fun e w' => e = .returned (.int .i64 (stood s.data.toList : Nat)) ∧ w' = w := by
  have HU : Hid (∀ n : Nat, stood s.data.toList = n → ∀ i : Int, (n : Int) = i → Ending.returned (.int .i64 i) = .returned (.int .i64 (stood s.data.toList : Nat))) := fun n h i hi => by rw [h, hi]
  cases h1 : Lib.hasSuffix s.data.toList [61, 61] with
  | true =>
    have HS : Hid (stood s.data.toList = 1) := by show _ = _; unfold stood; rw [h1]; rfl
    go_enter Tryd.func46, Tryd.ntmps46
    go_wp2_with (go_at_call 39; refine (Tryd.strings_HasSuffix _ _ _ hs).mono ?_; rintro e w' ⟨rfl, rfl⟩)
    go_ret
    exact ⟨HU.out _ HS.out _ rfl, rfl⟩
  | false =>
    cases h2 : Lib.hasSuffix s.data.toList [61] with
    | true =>
      have HS : Hid (stood s.data.toList = 2) := by show _ = _; unfold stood; rw [h1, h2]; rfl
      go_enter Tryd.func46, Tryd.ntmps46
      go_wp2_with (go_at_call 39; refine (Tryd.strings_HasSuffix _ _ _ hs).mono ?_; rintro e w' ⟨rfl, rfl⟩)
      go_ret
      exact ⟨HU.out _ HS.out _ rfl, rfl⟩
    | false =>
      have HS : Hid (stood s.data.toList = 3) := by show _ = _; unfold stood; rw [h1, h2]; rfl
      go_enter Tryd.func46, Tryd.ntmps46
      go_wp2_with (go_at_call 39; refine (Tryd.strings_HasSuffix _ _ _ hs).mono ?_; rintro e w' ⟨rfl, rfl⟩)
      go_ret
      exact ⟨HU.out _ HS.out _ rfl, rfl⟩
end Go.Proofs.YtnfhdbmmoicilaaDoor
