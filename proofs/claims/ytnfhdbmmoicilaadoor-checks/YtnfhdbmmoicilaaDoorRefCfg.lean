/- The document's answer: a user's name or word; settings. -/
import Derived.Test.YtnfhdbmmoicilaaDoorCfg4
import Derived.Test.YtnfhdbmmoicilaaDoorRefDom
namespace Go.Proofs.YtnfhdbmmoicilaaDoor
open Go.RowKit

theorem zero_flag (l x y : List UInt8) (f : Bool) (h : cutR 0 l = (x, y, f)) : decide (Lib.indexByte l 0 < 0) = !f := by
  cases f with
  | true =>
    have := (cutR_found 0 l (by rw [h])).2.2
    rw [this]; simp
  | false =>
    have := (cutR_none 0 l (by rw [h])).2.2
    rw [this]; rfl

def WPost (b : Bool) (w : World) (e : Ending) (w' : World) : Prop := e = .returned (.bool b) ∧ ∃ n, w' = w.drewN n
theorem WPost.mk {b : Bool} {w : World} {e : Ending} {w' : World} (c : Bool) (he : e = .returned (.bool c)) (hc : b = c) (n : Nat) (hw : w' = w.drewN n) : WPost b w e w' := ⟨by rw [he, hc], n, hw⟩

set_option maxHeartbeats 400000 in
theorem isWord_any (s : ByteArray) (w : World) (hs : s.size ≤ maxLen) : Calls Tryd.prog 23 #[.string s] w (WPost (textB s.data.toList) w) := by
  go_enter Tryd.func23, Tryd.ntmps23
  go_wp2_with fail
  have h0 : Hid (((0 : UInt8).toNat : Int) = 0) := rfl
  refine (cut_any s 0 0 h0 _ hs).mono ?_
  rintro e w' ⟨x, y, f, rfl, hc, n, rfl⟩
  have HT : Hid (textB s.data.toList = (within s.size 1 20 && !f)) := by
    show _ = _
    rw [textB, zero_flag _ _ _ _ hc, size_of_toList]
  unfold maxLen at hs
  clear hc h0
  by_cases h1 : 1 ≤ s.size
  · have d1 : decide ((1 : Int) ≤ (s.size : Int)) = true := by simp; omega
    by_cases h2 : s.size ≤ 20
    · have d2 : decide ((s.size : Int) ≤ 20) = true := by simp; omega
      go_wp2_with fail
      go_ret
      exact WPost.mk (!f) rfl (by rw [HT.out, within, d1, d2]; simp) n rfl
    · have d2 : decide ((s.size : Int) ≤ 20) = false := by simp; omega
      go_wp2_with fail
      go_ret
      exact WPost.mk false rfl (by rw [HT.out, within, d2]; simp) n rfl
  · have d1 : decide ((1 : Int) ≤ (s.size : Int)) = false := by simp; omega
    go_wp2_with fail
    go_ret
    exact WPost.mk false rfl (by rw [HT.out, within, d1]; simp) n rfl
end Go.Proofs.YtnfhdbmmoicilaaDoor
