/- The document's answer: small letters. -/
import Derived.Test.YtnfhdbmmoicilaaDoorRefDom
import Derived.Lib.Hide
import Derived.Lib.Case
import Derived.Laws.IdiomStrings
namespace Go.Proofs.YtnfhdbmmoicilaaDoor
open Go.RowKit

/-- the row while the loop goes: the first k bytes are small -/
def SmallAt (l : List UInt8) (B k : Nat) (w w' : World) : Prop :=
  Below B w w' ∧ B < w'.heap.size ∧ (∀ j : Nat, j < l.length → w'.cell? ⟨B, j, none⟩ = some (.int .u8 (((if j < k then Lib.lowerB (l.getD j 0) else l.getD j 0).toNat : Nat) : Int))) ∧ ∀ j : Nat, j < l.length → w'.frozen? ⟨B, j, none⟩ = false

theorem smallAt_start (s : ByteArray) (w : World) : ∃ cap W1, (convert 9 43 (.string s)).run Tryd.prog w = .ok (.slice (some ⟨w.heap.size, 0, none⟩) s.size cap) W1 ∧ SmallAt s.data.toList w.heap.size 0 w W1 := by
  refine ⟨_, _, run_bytes_of_string w 9 43 5 s Tryd.underlying9 Tryd.underlying43 Tryd.underlying5, ?_, ?_, ?_, ?_⟩
  · exact (Below.refl _ _).drew.alloc (by simp) _
  · simp
  · intro j hj
    have h1 := World.cell?_alloc_mark w.drew (bytesRow s (grownCap w s.size 0 5)) 5 ((bytesRow s (grownCap w s.size 0 5)).size, (bytesRow s (grownCap w s.size 0 5)).size + 1) j
    refine h1.trans ?_
    rw [bytesRow_at s _ j (by simpa using hj)]
    rw [if_neg (by omega), List.getD_eq_getElem?_getD, List.getElem?_eq_getElem hj]
    rfl
  · intro j hj
    have h1 := World.frozen?_alloc_mark w.drew (bytesRow s (grownCap w s.size 0 5)) 5 (bytesRow s (grownCap w s.size 0 5)).size ((bytesRow s (grownCap w s.size 0 5)).size + 1) j
    refine h1.trans ?_
    have : j < (bytesRow s (grownCap w s.size 0 5)).size := by
      have : j < s.data.size := by simpa using hj
      unfold bytesRow
      rw [Array.size_append, Array.size_map]
      omega
    rw [Bool.and_eq_false_iff]
    left
    simp; omega

theorem smallAt_same {l : List UInt8} {B k : Nat} {w w' : World} (h : SmallAt l B k w w') (hk : k < l.length) (he : Lib.lowerB (l.getD k 0) = l.getD k 0) : SmallAt l B (k + 1) w w' := by
  refine ⟨h.1, h.2.1, fun j hj => ?_, h.2.2.2⟩
  rw [h.2.2.1 j hj]
  by_cases e : j = k
  · subst e; rw [if_neg (by omega), if_pos (by omega), he]
  · by_cases e2 : j < k
    · rw [if_pos e2, if_pos (by omega)]
    · rw [if_neg e2, if_neg (by omega)]

theorem smallAt_set {l : List UInt8} {B k : Nat} {w w' : World} (h : SmallAt l B k w w') (hk : k < l.length) (v : Int) (hv : ((Lib.lowerB (l.getD k 0)).toNat : Int) = v) : SmallAt l B (k + 1) w (w'.setCell ⟨B, k, none⟩ (.int .u8 v)) := by
  refine ⟨h.1.setCell (Nat.le_refl _) _, by simpa using h.2.1, fun j hj => ?_, fun j hj => by simpa using h.2.2.2 j hj⟩
  by_cases e : j = k
  · subst e
    rw [World.cell?_setCell_same _ _ _ (h.2.2.1 j hj), if_pos (by omega), hv]
  · rw [World.cell?_setCell_other _ _ _ _ (by intro h; injection h with _ h; exact e h.symm), h.2.2.1 j hj]
    by_cases e2 : j < k
    · rw [if_pos e2, if_pos (by omega)]
    · rw [if_neg e2, if_neg (by omega)]

theorem lower_no {c : UInt8} (h : ¬ (65 ≤ (c.toNat : Int) ∧ (c.toNat : Int) ≤ 90)) : Lib.lowerB c = c := by
  unfold Lib.lowerB Lib.isUpperB
  rw [if_neg]
  simp only [Bool.and_eq_true, decide_eq_true_eq, UInt8.le_iff_toNat_le]
  intro h'; apply h
  have h1 : (65 : UInt8).toNat = 65 := rfl
  have h2 : (90 : UInt8).toNat = 90 := rfl
  omega
theorem lower_yes {c : UInt8} (h : 65 ≤ (c.toNat : Int) ∧ (c.toNat : Int) ≤ 90) : ((Lib.lowerB c).toNat : Int) = (c.toNat : Int) + 32 := by
  unfold Lib.lowerB Lib.isUpperB
  have h1 : (65 : UInt8).toNat = 65 := rfl
  have h2 : (90 : UInt8).toNat = 90 := rfl
  rw [if_pos]
  · rw [UInt8.toNat_add]
    have : (32 : UInt8).toNat = 32 := rfl
    omega
  · simp only [Bool.and_eq_true, decide_eq_true_eq, UInt8.le_iff_toNat_le]
    omega

theorem bytes_back (w' : World) (B cap n : Nat) (l : List UInt8) (hn : l.length = n) (hc : ∀ (j : Nat), j < n → w'.cell? ⟨B, j, none⟩ = some (.int .u8 ((l.getD j 0).toNat : Int))) :
    (convert 43 9 (.slice (some ⟨B, 0, none⟩) n cap)).run Tryd.prog w' = .ok (.string ⟨l.toArray⟩) w' := by
  subst hn
  refine run_convert_bytes_back (P := Tryd.prog) w' 43 9 5 ⟨B, 0, none⟩ cap l Tryd.underlying43 Tryd.underlying5 Tryd.underlying9 (fun j hj => ?_)
  have ea : (Addr.add ⟨B, 0, none⟩ j) = ⟨B, j, none⟩ := by
    unfold Addr.add; simp <;> omega
  rw [ea, hc j hj, List.getD_eq_getElem?_getD, List.getElem?_eq_getElem hj]
  rfl

theorem smallAt_back (s : ByteArray) (cap : Nat) (w w' : World) (B : Nat) (h : SmallAt s.data.toList B s.size w w') :
    (convert 43 9 (.slice (some ⟨B, 0, none⟩) s.size cap)).run Tryd.prog w' = .ok (.string ⟨(Lib.toLowerA s.data.toList).toArray⟩) w' := by
  refine bytes_back w' B cap s.size (Lib.toLowerA s.data.toList) (by simp [Lib.toLowerA]) (fun j hj => ?_)
  have hj' : j < s.data.toList.length := by rw [size_of_toList]; exact hj
  have hc := h.2.2.1 j hj'
  rw [if_pos hj] at hc
  rw [hc, List.getD_eq_getElem?_getD, List.getElem?_eq_getElem hj', Lib.toLowerA, List.getD_eq_getElem?_getD, List.getElem?_map, List.getElem?_eq_getElem hj']
  rfl

set_option maxHeartbeats 400000 in
theorem small_any (s : ByteArray) (w : World) (hs : s.size ≤ maxLen) :
    Calls Tryd.prog 20 #[.string s] w fun e w' => e = .returned (.string ⟨(Lib.toLowerA s.data.toList).toArray⟩) ∧ Below w.heap.size w w' := by
  unfold maxLen at hs
  obtain ⟨cap, W1, hconv, h0⟩ := smallAt_start s w
  have H0 := Lib.hid h0
  clear h0
  go_enter Tryd.func20, Tryd.ntmps20
  go_wp2
  clear hconv
  go_loopw [4] (fun i w' => ∃ k : Nat, k ≤ s.size ∧ i = .int .i64 k ∧ SmallAt s.data.toList w.heap.size k w w') (fun i _ => s.size - (intOf i).toNat)
  case atStart => exact ⟨0, Nat.zero_le _, rfl, H0.out⟩
  case round =>
    obtain ⟨k, hk, rfl, hS⟩ := hrel
    by_cases hlt : k < s.size
    · have hkl : k < s.data.toList.length := by rw [size_of_toList]; exact hlt
      obtain ⟨c, hc⟩ : ∃ c, s.data.toList.getD k 0 = c := ⟨_, rfl⟩
      have hck := hS.2.2.1 k hkl
      rw [if_neg (Nat.lt_irrefl k), hc] at hck
      have hfz := hS.2.2.2 k hkl
      have HS := Lib.hid hS
      have HC := Lib.hid hc
      clear hS hc
      by_cases hu : 65 ≤ (c.toNat : Int) ∧ (c.toNat : Int) ≤ 90
      · have HU := Lib.hid hu
        obtain ⟨hu1, hu2⟩ := hu
        go_wp2
        go_roundw
        case rel => exact ⟨k + 1, by omega, by go_num, smallAt_set HS.out hkl _ (by rw [HC.out, lower_yes HU.out])⟩
        case measure => simp [intOf]; omega
      · have HL : Hid (Lib.lowerB (s.data.toList.getD k 0) = s.data.toList.getD k 0) := by
          show _ = _
          rw [HC.out, lower_no hu]
        go_wp2
        all_goals
          go_roundw
          case rel => exact ⟨k + 1, by omega, by go_num, smallAt_same HS.out hkl HL.out⟩
          case measure => simp [intOf]; omega
    · have hks : k = s.size := by omega
      rw [hks] at hS
      have hback := smallAt_back s cap w _ w.heap.size hS
      clear hks
      have HB := Lib.hid hS.1
      clear hS
      go_wp2
      go_ret
      exact ⟨rfl, HB.out⟩
end Go.Proofs.YtnfhdbmmoicilaaDoor
