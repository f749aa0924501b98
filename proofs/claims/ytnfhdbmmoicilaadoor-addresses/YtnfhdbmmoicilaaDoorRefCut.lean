/- The document's answer: a text is cut at a byte. -/
import Derived.Test.YtnfhdbmmoicilaaDoorLeaf
import Derived.Lib.Strings
import Derived.Lib.IndexBytes
namespace Go.Proofs.YtnfhdbmmoicilaaDoor
open Go.RowKit

theorem get_of (s : ByteArray) (k : Nat) (h : k < s.size) : s.data.toList[k]? = some s[k] := by
  rw [List.getElem?_eq_getElem (by simpa using h)]; rfl

theorem byte_ne {a b : UInt8} {c : Int} (hb : (b.toNat : Int) = c) (h : ((a.toNat : Int) == c) = false) : a ≠ b := by
  intro e; subst e; rw [hb] at h; simp at h
theorem byte_eq {a b : UInt8} {c : Int} (hb : (b.toNat : Int) = c) (h : ((a.toNat : Int) == c) = true) : a = b := by
  have h : (a.toNat : Int) = c := by simpa using h
  rw [← hb] at h
  exact UInt8.toNat_inj.1 (by omega)

def CutPost (b : UInt8) (l : List UInt8) (w : World) (e : Ending) (w' : World) : Prop :=
  ∃ (x y : ByteArray) (f : Bool), e = .returned (.tuple #[.string x, .string y, .bool f]) ∧ cutR b l = (x.data.toList, y.data.toList, f) ∧ ∃ n, w' = w.drewN n
theorem CutPost.mk {b : UInt8} {l : List UInt8} {w : World} {e : Ending} {w' : World} (x y : ByteArray) (f : Bool) (he : e = .returned (.tuple #[.string x, .string y, .bool f])) (hc : cutR b l = (x.data.toList, y.data.toList, f)) (n : Nat) (hw : w' = w.drewN n) : CutPost b l w e w' :=
  ⟨x, y, f, he, hc, n, hw⟩

set_option maxHeartbeats 400000 in
theorem cut_any (s : ByteArray) (c : Int) (b : UInt8) (HB : Hid ((b.toNat : Int) = c)) (w : World) (hs : s.size ≤ maxLen) :
    Calls Tryd.prog 16 #[.string s, .int .u8 c] w (CutPost b s.data.toList w) := by
  unfold maxLen at hs
  go_enter Tryd.func16, Tryd.ntmps16
  go_wp2
  go_loop [7] (fun i => ∃ k : Nat, k ≤ s.size ∧ i = .int .i64 k ∧ Hid (∀ j : Nat, j < k → s.data.toList[j]? ≠ some b)) (fun i => s.size - (intOf i).toNat)
  case atStart => exact ⟨0, Nat.zero_le _, rfl, fun j hj => by omega⟩
  case round =>
    obtain ⟨k, hk, rfl, HN⟩ := hrel
    by_cases hlt : k < s.size
    · have hg : Hid (s.data.toList[k]? = some s[k]) := get_of s k hlt
      go_wp2
      · go_region
        go_wp2
        go_ret3
        refine CutPost.mk _ _ _ rfl ?_ 1 rfl
        have hkb : s[k] = b := byte_eq HB.out ‹_›
        rw [cutR_at b s.data.toList k (by rw [hg.out, hkb]) HN.out]
        rw [Lib.extract_data, Lib.extract_to_end]
        rfl
      · have hkb : Hid (s[k] ≠ b) := byte_ne HB.out ‹_›
        go_round
        case rel => exact ⟨k + 1, by omega, by go_num, fun j hj => by
          by_cases e : j < k
          · exact HN.out j e
          · have : j = k := by omega
            rw [this, hg.out]
            intro h
            exact hkb.out (Option.some.inj h)⟩
        case measure => simp [intOf]; omega
    · go_wp2
      go_ret3
      exact CutPost.mk _ _ _ rfl (cutR_no b _ (fun j => by
        by_cases hj : j < k
        · exact HN.out j hj
        · rw [List.getElem?_eq_none (by simp; omega)]; simp)) 0 rfl
end Go.Proofs.YtnfhdbmmoicilaaDoor
