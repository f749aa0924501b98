/- The program's letters of six bits: a group. -/
import Derived.Test.YtnfhdbmmoicilaaDoorSix2
import Derived.Test.YtnfhdbmmoicilaaDoorRefSmall
namespace Go.Proofs.YtnfhdbmmoicilaaDoor
open Go.RowKit

def GrpPost (o : Option (List UInt8)) (w : World) (e : Ending) (w' : World) : Prop :=
  (match o with | some g => e = .returned (.tuple #[.string ⟨g.toArray⟩, .bool true]) | none => e = .returned (.tuple #[.string ⟨#[]⟩, .bool false])) ∧ Below w.heap.size w w'
theorem GrpPost.yes {o : Option (List UInt8)} {w : World} {e : Ending} {w' : World} (g : List UInt8) (h : o = some g) (he : e = .returned (.tuple #[.string ⟨g.toArray⟩, .bool true])) (hw : Below w.heap.size w w') : GrpPost o w e w' := by subst h; exact ⟨he, hw⟩
theorem GrpPost.no {o : Option (List UInt8)} {w : World} {e : Ending} {w' : World} (h : o = none) (he : e = .returned (.tuple #[.string ⟨#[]⟩, .bool false])) (hw : Below w.heap.size w w') : GrpPost o w e w' := by subst h; exact ⟨he, hw⟩

/-- the three bytes of a word -/
theorem three_back (w : World) (W n cap : Nat) (hW : W < 16777216) (hn : n ≤ 3) :
    (convert 43 9 (.slice (some ⟨w.heap.size, 0, none⟩) n cap)).run Tryd.prog (w.alloc (.cells #[.int .u8 ((W : Int) / 65536), .int .u8 ((W : Int) / 256 % 256), .int .u8 ((W : Int) % 256)] 68)) = .ok (.string ⟨([bOf (W / 65536), bOf (W / 256), bOf W].take n).toArray⟩) (w.alloc (.cells #[.int .u8 ((W : Int) / 65536), .int .u8 ((W : Int) / 256 % 256), .int .u8 ((W : Int) % 256)] 68)) := by
  refine bytes_back _ w.heap.size cap n _ (by simp; omega) (fun j hj => ?_)
  have hc : ∀ i : Nat, (w.alloc (.cells #[.int .u8 ((W : Int) / 65536), .int .u8 ((W : Int) / 256 % 256), .int .u8 ((W : Int) % 256)] 68)).cell? ⟨w.heap.size, i, none⟩ = #[Value.int .u8 ((W : Int) / 65536), .int .u8 ((W : Int) / 256 % 256), .int .u8 ((W : Int) % 256)][i]? := fun i => World.cell?_alloc_mark w _ 68 (0, 0) i
  rw [hc j, List.getD_eq_getElem?_getD, List.getElem?_take_of_lt hj]
  have hj3 : j = 0 ∨ j = 1 ∨ j = 2 := by omega
  rcases hj3 with rfl | rfl | rfl
  · show some (Value.int .u8 ((W : Int) / 65536)) = some (.int .u8 ((bOf (W / 65536)).toNat : Int))
    rw [bOf_toNat, show (((W / 65536) % 256 : Nat) : Int) = (W : Int) / 65536 by omega]
  · show some (Value.int .u8 ((W : Int) / 256 % 256)) = some (.int .u8 ((bOf (W / 256)).toNat : Int))
    rw [bOf_toNat, show (((W / 256) % 256 : Nat) : Int) = (W : Int) / 256 % 256 by omega]
  · show some (Value.int .u8 ((W : Int) % 256)) = some (.int .u8 ((bOf W).toNat : Int))
    rw [bOf_toNat, show ((W % 256 : Nat) : Int) = (W : Int) % 256 by omega]

theorem word_yes {s : ByteArray} {w : World} (hs : s.size ≤ 4) (W : Nat) (h : s.data.toList.all (fun c => (val c).isSome) = true) (hW : wsum s.data.toList s.data.toList.length = W) :
    Calls Tryd.prog 47 #[.string s] w fun e w1 => e = .returned (.tuple #[.int .u32 W, .bool true]) ∧ w1 = w := by
  refine (readLetters_any s w hs).mono ?_
  rintro e w' ⟨he, rfl⟩
  rw [h] at he
  exact ⟨by rw [← hW]; exact he, rfl⟩
theorem word_no {s : ByteArray} {w : World} (hs : s.size ≤ 4) (h : s.data.toList.all (fun c => (val c).isSome) = false) :
    Calls Tryd.prog 47 #[.string s] w fun e w1 => e = .returned (.tuple #[.int .u32 0, .bool false]) ∧ w1 = w := by
  refine (readLetters_any s w hs).mono ?_
  rintro e w' ⟨he, rfl⟩
  rw [h] at he
  exact ⟨he, rfl⟩

set_option maxHeartbeats 400000 in
set_option maxRecDepth 100000 in
theorem group_no_1 (s : ByteArray) (w : World) (hs : s.size = 4) (hst : stood s.data.toList = 1) (hn : (s.extract 0 2).data.toList.all (fun c => (val c).isSome) = false) :
    Calls Tryd.prog 29 #[.string s] w (GrpPost none w) := by
  have HN := Lib.hid hn
  clear hn
  have HZ : Hid ((s.extract 0 2).size ≤ 4) := by show _ ≤ _; simp; omega
  have HT := Lib.hid hst
  clear hst
  have HS := Lib.hid hs
  have h4 : (4 : Int) ≤ (s.size : Int) := by omega
  clear hs
  go_enter Tryd.func29, Tryd.ntmps29
  go_wp2_with fail
  refine (bytesStood_any s _ (by unfold maxLen; have := HS.out; omega)).mono ?_
  rintro e w' ⟨rfl, rfl⟩
  rw [HT.out]
  go_wp2_with fail
  refine (word_no (s := s.extract 0 2) HZ.out HN.out).mono ?_
  rintro e w1 ⟨rfl, rfl⟩
  go_wp2_with fail
  go_ret2
  exact GrpPost.no rfl rfl (Below.refl _ _)

set_option maxHeartbeats 400000 in
set_option maxRecDepth 100000 in
theorem group_yes_1 (s : ByteArray) (w : World) (hs : s.size = 4) (hst : stood s.data.toList = 1) (hn : (s.extract 0 2).data.toList.all (fun c => (val c).isSome) = true) (W : Nat) (hw : wsum (s.extract 0 2).data.toList (s.extract 0 2).data.toList.length = W) (hW : W < 16777216) (o : Option (List UInt8)) (ho : o = (if W / 256 % 256 = 0 ∧ W % 256 = 0 then some [bOf (W / 65536)] else none)) :
    Calls Tryd.prog 29 #[.string s] w (GrpPost o w) := by
  have HO := Lib.hid ho
  have HN := Lib.hid hn
  have HW := Lib.hid hw
  clear hn hw ho
  have HZ : Hid ((s.extract 0 2).size ≤ 4) := by show _ ≤ _; simp; omega
  have hback := three_back w W 1 3 hW (by decide)
  have HT := Lib.hid hst
  clear hst
  have HS := Lib.hid hs
  have h4 : (4 : Int) ≤ (s.size : Int) := by omega
  clear hs
  go_enter Tryd.func29, Tryd.ntmps29
  go_wp2_with fail
  refine (bytesStood_any s _ (by unfold maxLen; have := HS.out; omega)).mono ?_
  rintro e w' ⟨rfl, rfl⟩
  rw [HT.out]
  go_wp2_with fail
  refine (word_yes (s := s.extract 0 2) HZ.out W HN.out HW.out).mono ?_
  rintro e w1 ⟨rfl, rfl⟩
  cases hy : (((W : Int) / 256 % 256) != 0) with
  | true =>
    have HF : Hid (¬ (W / 256 % 256 = 0 ∧ W % 256 = 0)) := by
      show ¬ _
      have : ¬ (W : Int) / 256 % 256 = 0 := by simpa using hy
      omega
    go_wp2_with fail
    go_loop [34] (fun i => i = .int .i64 0) (fun i => 1 - (intOf i).toNat)
    case atStart => rfl
    case round =>
      subst hrel
      go_wp2
      go_ret2
      exact GrpPost.no (HO.out.trans (if_neg HF.out)) rfl ((Below.refl _ _).alloc (Nat.le_refl _) _)
  | false =>
    have HY : Hid ((W : Int) / 256 % 256 = 0) := by
      show (W : Int) / 256 % 256 = 0
      simpa using hy
    cases hz : (((W : Int) % 256) != 0) with
    | true =>
      have HF : Hid (¬ (W / 256 % 256 = 0 ∧ W % 256 = 0)) := by
        show ¬ _
        have : ¬ (W : Int) % 256 = 0 := by simpa using hz
        omega
      go_wp2_with fail
      go_loop [34] (fun i => i = .int .i64 0 ∨ i = .int .i64 1) (fun i => 2 - (intOf i).toNat)
      case atStart => exact Or.inl rfl
      case round =>
        rcases hrel with rfl | rfl
        · go_wp2
          go_round
          case rel => exact Or.inr rfl
          case measure => decide
        · go_wp2
          go_ret2
          exact GrpPost.no (HO.out.trans (if_neg HF.out)) rfl ((Below.refl _ _).alloc (Nat.le_refl _) _)
    | false =>
      have HF : Hid (W / 256 % 256 = 0 ∧ W % 256 = 0) := by
        show _ ∧ _
        have : (W : Int) % 256 = 0 := by simpa using hz
        have := HY.out
        omega
      go_wp2_with fail
      go_loop [34] (fun i => i = .int .i64 0 ∨ i = .int .i64 1 ∨ i = .int .i64 2) (fun i => 2 - (intOf i).toNat)
      case atStart => exact Or.inl rfl
      case round =>
        rcases hrel with rfl | rfl | rfl
        · go_wp2
          go_round
          case rel => exact Or.inr (Or.inl rfl)
          case measure => decide
        · go_wp2
          go_round
          case rel => exact Or.inr (Or.inr rfl)
          case measure => decide
        · go_wp2
          go_ret2
          exact GrpPost.yes _ (HO.out.trans (if_pos HF.out)) rfl ((Below.refl _ _).alloc (Nat.le_refl _) _)

set_option maxHeartbeats 400000 in
set_option maxRecDepth 100000 in
theorem group_no_2 (s : ByteArray) (w : World) (hs : s.size = 4) (hst : stood s.data.toList = 2) (hn : (s.extract 0 3).data.toList.all (fun c => (val c).isSome) = false) :
    Calls Tryd.prog 29 #[.string s] w (GrpPost none w) := by
  have HN := Lib.hid hn
  clear hn
  have HZ : Hid ((s.extract 0 3).size ≤ 4) := by show _ ≤ _; simp; omega
  have HT := Lib.hid hst
  clear hst
  have HS := Lib.hid hs
  have h4 : (4 : Int) ≤ (s.size : Int) := by omega
  clear hs
  go_enter Tryd.func29, Tryd.ntmps29
  go_wp2_with fail
  refine (bytesStood_any s _ (by unfold maxLen; have := HS.out; omega)).mono ?_
  rintro e w' ⟨rfl, rfl⟩
  rw [HT.out]
  go_wp2_with fail
  refine (word_no (s := s.extract 0 3) HZ.out HN.out).mono ?_
  rintro e w1 ⟨rfl, rfl⟩
  go_wp2_with fail
  go_ret2
  exact GrpPost.no rfl rfl (Below.refl _ _)

set_option maxHeartbeats 400000 in
set_option maxRecDepth 100000 in
theorem group_yes_2 (s : ByteArray) (w : World) (hs : s.size = 4) (hst : stood s.data.toList = 2) (hn : (s.extract 0 3).data.toList.all (fun c => (val c).isSome) = true) (W : Nat) (hw : wsum (s.extract 0 3).data.toList (s.extract 0 3).data.toList.length = W) (hW : W < 16777216) (o : Option (List UInt8)) (ho : o = (if W % 256 = 0 then some [bOf (W / 65536), bOf (W / 256)] else none)) :
    Calls Tryd.prog 29 #[.string s] w (GrpPost o w) := by
  have HO := Lib.hid ho
  have HN := Lib.hid hn
  have HW := Lib.hid hw
  clear hn hw ho
  have HZ : Hid ((s.extract 0 3).size ≤ 4) := by show _ ≤ _; simp; omega
  have hback := three_back w W 2 3 hW (by decide)
  have HT := Lib.hid hst
  clear hst
  have HS := Lib.hid hs
  have h4 : (4 : Int) ≤ (s.size : Int) := by omega
  clear hs
  go_enter Tryd.func29, Tryd.ntmps29
  go_wp2_with fail
  refine (bytesStood_any s _ (by unfold maxLen; have := HS.out; omega)).mono ?_
  rintro e w' ⟨rfl, rfl⟩
  rw [HT.out]
  go_wp2_with fail
  refine (word_yes (s := s.extract 0 3) HZ.out W HN.out HW.out).mono ?_
  rintro e w1 ⟨rfl, rfl⟩
  cases hz : (((W : Int) % 256) != 0) with
  | true =>
    have HF : Hid (¬ W % 256 = 0) := by
      show ¬ _
      have : ¬ (W : Int) % 256 = 0 := by simpa using hz
      omega
    go_wp2_with fail
    go_loop [34] (fun i => i = .int .i64 0) (fun i => 1 - (intOf i).toNat)
    case atStart => rfl
    case round =>
      subst hrel
      go_wp2
      go_ret2
      exact GrpPost.no (HO.out.trans (if_neg HF.out)) rfl ((Below.refl _ _).alloc (Nat.le_refl _) _)
  | false =>
    have HF : Hid (W % 256 = 0) := by
      show W % 256 = 0
      have : (W : Int) % 256 = 0 := by simpa using hz
      omega
    go_wp2_with fail
    go_loop [34] (fun i => i = .int .i64 0 ∨ i = .int .i64 1) (fun i => 1 - (intOf i).toNat)
    case atStart => exact Or.inl rfl
    case round =>
      rcases hrel with rfl | rfl
      · go_wp2
        go_round
        case rel => exact Or.inr rfl
        case measure => decide
      · go_wp2
        go_ret2
        exact GrpPost.yes _ (HO.out.trans (if_pos HF.out)) rfl ((Below.refl _ _).alloc (Nat.le_refl _) _)

set_option maxHeartbeats 400000 in
set_option maxRecDepth 100000 in
theorem group_no_3 (s : ByteArray) (w : World) (hs : s.size = 4) (hst : stood s.data.toList = 3) (hn : (s.extract 0 4).data.toList.all (fun c => (val c).isSome) = false) :
    Calls Tryd.prog 29 #[.string s] w (GrpPost none w) := by
  have HN := Lib.hid hn
  clear hn
  have HZ : Hid ((s.extract 0 4).size ≤ 4) := by show _ ≤ _; simp; omega
  have HT := Lib.hid hst
  clear hst
  have HS := Lib.hid hs
  have h4 : (4 : Int) ≤ (s.size : Int) := by omega
  clear hs
  go_enter Tryd.func29, Tryd.ntmps29
  go_wp2_with fail
  refine (bytesStood_any s _ (by unfold maxLen; have := HS.out; omega)).mono ?_
  rintro e w' ⟨rfl, rfl⟩
  rw [HT.out]
  go_wp2_with fail
  refine (word_no (s := s.extract 0 4) HZ.out HN.out).mono ?_
  rintro e w1 ⟨rfl, rfl⟩
  go_wp2_with fail
  go_ret2
  exact GrpPost.no rfl rfl (Below.refl _ _)

set_option maxHeartbeats 400000 in
set_option maxRecDepth 100000 in
theorem group_yes_3 (s : ByteArray) (w : World) (hs : s.size = 4) (hst : stood s.data.toList = 3) (hn : (s.extract 0 4).data.toList.all (fun c => (val c).isSome) = true) (W : Nat) (hw : wsum (s.extract 0 4).data.toList (s.extract 0 4).data.toList.length = W) (hW : W < 16777216) (o : Option (List UInt8)) (ho : o = (some [bOf (W / 65536), bOf (W / 256), bOf W])) :
    Calls Tryd.prog 29 #[.string s] w (GrpPost o w) := by
  have HO := Lib.hid ho
  have HN := Lib.hid hn
  have HW := Lib.hid hw
  clear hn hw ho
  have HZ : Hid ((s.extract 0 4).size ≤ 4) := by show _ ≤ _; simp; omega
  have hback := three_back w W 3 3 hW (by decide)
  have HT := Lib.hid hst
  clear hst
  have HS := Lib.hid hs
  have h4 : (4 : Int) ≤ (s.size : Int) := by omega
  clear hs
  go_enter Tryd.func29, Tryd.ntmps29
  go_wp2_with fail
  refine (bytesStood_any s _ (by unfold maxLen; have := HS.out; omega)).mono ?_
  rintro e w' ⟨rfl, rfl⟩
  rw [HT.out]
  go_wp2_with fail
  refine (word_yes (s := s.extract 0 4) HZ.out W HN.out HW.out).mono ?_
  rintro e w1 ⟨rfl, rfl⟩
  go_wp2_with fail
  go_loop [34] (fun i => i = .int .i64 0) (fun _ => 0)
  case atStart => rfl
  case round =>
    subst hrel
    go_wp2
    go_ret2
    exact GrpPost.yes _ HO.out rfl ((Below.refl _ _).alloc (Nat.le_refl _) _)
end Go.Proofs.YtnfhdbmmoicilaaDoor
