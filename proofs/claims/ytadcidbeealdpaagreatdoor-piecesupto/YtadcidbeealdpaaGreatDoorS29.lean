import Derived.Test.YtadcidbeealdpaaGreatDoorS28
import Derived.Test.YtadcidbeealdpaaGreatDoorS01
import Derived.Shelf.Strings.BuilderK
import Derived.Test.YtadcidbeealdpaaGreatDoorS07

/- The program's letters of six bits: a group. -/
namespace Go.Proofs.YtadcidbeealdpaaGreatDoor
open Go.RowKit

def GrpPost (o : Option (List UInt8)) (w : World) (e : Ending) (w' : World) : Prop :=
  (match o with | some g => e = .returned (.tuple #[.string ⟨g.toArray⟩, .bool true]) | none => e = .returned (.tuple #[.string ⟨#[]⟩, .bool false])) ∧ Below w.heap.size w w'
theorem GrpPost.yes {o : Option (List UInt8)} {w : World} {e : Ending} {w' : World} (g : List UInt8) (h : o = some g) (he : e = .returned (.tuple #[.string ⟨g.toArray⟩, .bool true])) (hw : Below w.heap.size w w') : GrpPost o w e w' := by subst h; exact ⟨he, hw⟩
theorem GrpPost.no {o : Option (List UInt8)} {w : World} {e : Ending} {w' : World} (h : o = none) (he : e = .returned (.tuple #[.string ⟨#[]⟩, .bool false])) (hw : Below w.heap.size w w') : GrpPost o w e w' := by subst h; exact ⟨he, hw⟩

/-- the three bytes of a word -/
theorem three_back (w : World) (W n cap : Nat) (hW : W < 16777216) (hn : n ≤ 3) :
    (convert 76 9 (.slice (some ⟨w.heap.size, 0, none⟩) n cap)).run Tryz.prog (w.alloc (.cells #[.int .u8 ((W : Int) / 65536), .int .u8 ((W : Int) / 256 % 256), .int .u8 ((W : Int) % 256)] 247)) = .ok (.string ⟨([bOf (W / 65536), bOf (W / 256), bOf W].take n).toArray⟩) (w.alloc (.cells #[.int .u8 ((W : Int) / 65536), .int .u8 ((W : Int) / 256 % 256), .int .u8 ((W : Int) % 256)] 247)) := by
  refine bytes_back _ w.heap.size cap n _ (by simp; omega) (fun j hj => ?_)
  have hc : ∀ i : Nat, (w.alloc (.cells #[.int .u8 ((W : Int) / 65536), .int .u8 ((W : Int) / 256 % 256), .int .u8 ((W : Int) % 256)] 247)).cell? ⟨w.heap.size, i, none⟩ = #[Value.int .u8 ((W : Int) / 65536), .int .u8 ((W : Int) / 256 % 256), .int .u8 ((W : Int) % 256)][i]? := fun i => World.cell?_alloc_mark w _ 247 (0, 0) i
  rw [hc j, List.getD_eq_getElem?_getD, List.getElem?_take_of_lt hj]
  have hj3 : j = 0 ∨ j = 1 ∨ j = 2 := by omega
  rcases hj3 with rfl | rfl | rfl
  · show some (Value.int .u8 ((W : Int) / 65536)) = some (.int .u8 ((bOf (W / 65536)).toNat : Int))
    rw [bOf_toNat, show (((W / 65536) % 256 : Nat) : Int) = (W : Int) / 65536 by omega]
  · show some (Value.int .u8 ((W : Int) / 256 % 256)) = some (.int .u8 ((bOf (W / 256)).toNat : Int))
    rw [bOf_toNat, show (((W / 256) % 256 : Nat) : Int) = (W : Int) / 256 % 256 by omega]
  · show some (Value.int .u8 ((W : Int) % 256)) = some (.int .u8 ((bOf W).toNat : Int))
    rw [bOf_toNat, show ((W % 256 : Nat) : Int) = (W : Int) % 256 by omega]

theorem word_yes {s : ByteArray} {w : World} (hs : s.size ≤ 4) (W : Nat) (h : s.data.toList.all (fun c => (val c).isSome) = true) (hW : wsum s.data.toList s.data.toList.length = W) :
    Calls Tryz.prog 205 #[.string s] w fun e w1 => e = .returned (.tuple #[.int .u32 W, .bool true]) ∧ w1 = w := by
  refine (readLetters_any s w hs).mono ?_
  rintro e w' ⟨he, rfl⟩
  rw [h] at he
  exact ⟨by rw [← hW]; exact he, rfl⟩
theorem word_no {s : ByteArray} {w : World} (hs : s.size ≤ 4) (h : s.data.toList.all (fun c => (val c).isSome) = false) :
    Calls Tryz.prog 205 #[.string s] w fun e w1 => e = .returned (.tuple #[.int .u32 0, .bool false]) ∧ w1 = w := by
  refine (readLetters_any s w hs).mono ?_
  rintro e w' ⟨he, rfl⟩
  rw [h] at he
  exact ⟨he, rfl⟩

set_option maxHeartbeats 400000 in
set_option maxRecDepth 100000 in
theorem group_no_1 (s : ByteArray) (w : World) (hs : s.size = 4) (hst : stood s.data.toList = 1) (hn : (s.extract 0 2).data.toList.all (fun c => (val c).isSome) = false) :
    Calls Tryz.prog 168 #[.string s] w (GrpPost none w) := by
  have HN := Lib.hid hn
  clear hn
  have HZ : Hid ((s.extract 0 2).size ≤ 4) := by show _ ≤ _; simp; omega
  have HT := Lib.hid hst
  clear hst
  have HS := Lib.hid hs
  have h4 : (4 : Int) ≤ (s.size : Int) := by omega
  clear hs
  go_enter Tryz.func168, Tryz.ntmps168
  go_wp2_with fail
  refine (bytesStood_any s _ (by unfold maxLen; have := HS.out; omega)).mono ?_
  rintro e w' ⟨rfl, rfl⟩
  rw [HT.out]
  go_wp2_with fail
  refine (word_no (s := s.extract 0 2) HZ.out HN.out).mono ?_
  rintro e w1 ⟨rfl, rfl⟩
  go_wp2_with fail
  go_ret2
  exact GrpPost.no rfl rfl (Below.refl _ _)

set_option maxHeartbeats 400000 in
set_option maxRecDepth 100000 in
theorem group_yes_1 (s : ByteArray) (w : World) (hs : s.size = 4) (hst : stood s.data.toList = 1) (hn : (s.extract 0 2).data.toList.all (fun c => (val c).isSome) = true) (W : Nat) (hw : wsum (s.extract 0 2).data.toList (s.extract 0 2).data.toList.length = W) (hW : W < 16777216) (o : Option (List UInt8)) (ho : o = (if W / 256 % 256 = 0 ∧ W % 256 = 0 then some [bOf (W / 65536)] else none)) :
    Calls Tryz.prog 168 #[.string s] w (GrpPost o w) := by
  have HO := Lib.hid ho
  have HN := Lib.hid hn
  have HW := Lib.hid hw
  clear hn hw ho
  have HZ : Hid ((s.extract 0 2).size ≤ 4) := by show _ ≤ _; simp; omega
  have hback := three_back w W 1 3 hW (by decide)
  have HT := Lib.hid hst
  clear hst
  have HS := Lib.hid hs
  have h4 : (4 : Int) ≤ (s.size : Int) := by omega
  clear hs
  go_enter Tryz.func168, Tryz.ntmps168
  go_wp2_with fail
  refine (bytesStood_any s _ (by unfold maxLen; have := HS.out; omega)).mono ?_
  rintro e w' ⟨rfl, rfl⟩
  rw [HT.out]
  go_wp2_with fail
  refine (word_yes (s := s.extract 0 2) HZ.out W HN.out HW.out).mono ?_
  rintro e w1 ⟨rfl, rfl⟩
  cases hy : (((W : Int) / 256 % 256) != 0) with
  | true =>
    have HF : Hid (¬ (W / 256 % 256 = 0 ∧ W % 256 = 0)) := by
      show ¬ _
      have : ¬ (W : Int) / 256 % 256 = 0 := by simpa using hy
      omega
    go_wp2_with fail
    go_loop [34] (fun i => i = .int .i64 0) (fun i => 1 - (intOf i).toNat)
    case atStart => rfl
    case round =>
      subst hrel
      go_wp2
      go_ret2
      exact GrpPost.no (HO.out.trans (if_neg HF.out)) rfl ((Below.refl _ _).alloc (Nat.le_refl _) _)
  | false =>
    have HY : Hid ((W : Int) / 256 % 256 = 0) := by
      show (W : Int) / 256 % 256 = 0
      simpa using hy
    cases hz : (((W : Int) % 256) != 0) with
    | true =>
      have HF : Hid (¬ (W / 256 % 256 = 0 ∧ W % 256 = 0)) := by
        show ¬ _
        have : ¬ (W : Int) % 256 = 0 := by simpa using hz
        omega
      go_wp2_with fail
      go_loop [34] (fun i => i = .int .i64 0 ∨ i = .int .i64 1) (fun i => 2 - (intOf i).toNat)
      case atStart => exact Or.inl rfl
      case round =>
        rcases hrel with rfl | rfl
        · go_wp2
          go_round
          case rel => exact Or.inr rfl
          case measure => decide
        · go_wp2
          go_ret2
          exact GrpPost.no (HO.out.trans (if_neg HF.out)) rfl ((Below.refl _ _).alloc (Nat.le_refl _) _)
    | false =>
      have HF : Hid (W / 256 % 256 = 0 ∧ W % 256 = 0) := by
        show _ ∧ _
        have : (W : Int) % 256 = 0 := by simpa using hz
        have := HY.out
        omega
      go_wp2_with fail
      go_loop [34] (fun i => i = .int .i64 0 ∨ i = .int .i64 1 ∨ i = .int .i64 2) (fun i => 2 - (intOf i).toNat)
      case atStart => exact Or.inl rfl
      case round =>
        rcases hrel with rfl | rfl | rfl
        · go_wp2
          go_round
          case rel => exact Or.inr (Or.inl rfl)
          case measure => decide
        · go_wp2
          go_round
          case rel => exact Or.inr (Or.inr rfl)
          case measure => decide
        · go_wp2
          go_ret2
          exact GrpPost.yes _ (HO.out.trans (if_pos HF.out)) rfl ((Below.refl _ _).alloc (Nat.le_refl _) _)

set_option maxHeartbeats 400000 in
set_option maxRecDepth 100000 in
theorem group_no_2 (s : ByteArray) (w : World) (hs : s.size = 4) (hst : stood s.data.toList = 2) (hn : (s.extract 0 3).data.toList.all (fun c => (val c).isSome) = false) :
    Calls Tryz.prog 168 #[.string s] w (GrpPost none w) := by
  have HN := Lib.hid hn
  clear hn
  have HZ : Hid ((s.extract 0 3).size ≤ 4) := by show _ ≤ _; simp; omega
  have HT := Lib.hid hst
  clear hst
  have HS := Lib.hid hs
  have h4 : (4 : Int) ≤ (s.size : Int) := by omega
  clear hs
  go_enter Tryz.func168, Tryz.ntmps168
  go_wp2_with fail
  refine (bytesStood_any s _ (by unfold maxLen; have := HS.out; omega)).mono ?_
  rintro e w' ⟨rfl, rfl⟩
  rw [HT.out]
  go_wp2_with fail
  refine (word_no (s := s.extract 0 3) HZ.out HN.out).mono ?_
  rintro e w1 ⟨rfl, rfl⟩
  go_wp2_with fail
  go_ret2
  exact GrpPost.no rfl rfl (Below.refl _ _)

set_option maxHeartbeats 400000 in
set_option maxRecDepth 100000 in
theorem group_yes_2 (s : ByteArray) (w : World) (hs : s.size = 4) (hst : stood s.data.toList = 2) (hn : (s.extract 0 3).data.toList.all (fun c => (val c).isSome) = true) (W : Nat) (hw : wsum (s.extract 0 3).data.toList (s.extract 0 3).data.toList.length = W) (hW : W < 16777216) (o : Option (List UInt8)) (ho : o = (if W % 256 = 0 then some [bOf (W / 65536), bOf (W / 256)] else none)) :
    Calls Tryz.prog 168 #[.string s] w (GrpPost o w) := by
  have HO := Lib.hid ho
  have HN := Lib.hid hn
  have HW := Lib.hid hw
  clear hn hw ho
  have HZ : Hid ((s.extract 0 3).size ≤ 4) := by show _ ≤ _; simp; omega
  have hback := three_back w W 2 3 hW (by decide)
  have HT := Lib.hid hst
  clear hst
  have HS := Lib.hid hs
  have h4 : (4 : Int) ≤ (s.size : Int) := by omega
  clear hs
  go_enter Tryz.func168, Tryz.ntmps168
  go_wp2_with fail
  refine (bytesStood_any s _ (by unfold maxLen; have := HS.out; omega)).mono ?_
  rintro e w' ⟨rfl, rfl⟩
  rw [HT.out]
  go_wp2_with fail
  refine (word_yes (s := s.extract 0 3) HZ.out W HN.out HW.out).mono ?_
  rintro e w1 ⟨rfl, rfl⟩
  cases hz : (((W : Int) % 256) != 0) with
  | true =>
    have HF : Hid (¬ W % 256 = 0) := by
      show ¬ _
      have : ¬ (W : Int) % 256 = 0 := by simpa using hz
      omega
    go_wp2_with fail
    go_loop [34] (fun i => i = .int .i64 0) (fun i => 1 - (intOf i).toNat)
    case atStart => rfl
    case round =>
      subst hrel
      go_wp2
      go_ret2
      exact GrpPost.no (HO.out.trans (if_neg HF.out)) rfl ((Below.refl _ _).alloc (Nat.le_refl _) _)
  | false =>
    have HF : Hid (W % 256 = 0) := by
      show W % 256 = 0
      have : (W : Int) % 256 = 0 := by simpa using hz
      omega
    go_wp2_with fail
    go_loop [34] (fun i => i = .int .i64 0 ∨ i = .int .i64 1) (fun i => 1 - (intOf i).toNat)
    case atStart => exact Or.inl rfl
    case round =>
      rcases hrel with rfl | rfl
      · go_wp2
        go_round
        case rel => exact Or.inr rfl
        case measure => decide
      · go_wp2
        go_ret2
        exact GrpPost.yes _ (HO.out.trans (if_pos HF.out)) rfl ((Below.refl _ _).alloc (Nat.le_refl _) _)

set_option maxHeartbeats 400000 in
set_option maxRecDepth 100000 in
theorem group_no_3 (s : ByteArray) (w : World) (hs : s.size = 4) (hst : stood s.data.toList = 3) (hn : (s.extract 0 4).data.toList.all (fun c => (val c).isSome) = false) :
    Calls Tryz.prog 168 #[.string s] w (GrpPost none w) := by
  have HN := Lib.hid hn
  clear hn
  have HZ : Hid ((s.extract 0 4).size ≤ 4) := by show _ ≤ _; simp; omega
  have HT := Lib.hid hst
  clear hst
  have HS := Lib.hid hs
  have h4 : (4 : Int) ≤ (s.size : Int) := by omega
  clear hs
  go_enter Tryz.func168, Tryz.ntmps168
  go_wp2_with fail
  refine (bytesStood_any s _ (by unfold maxLen; have := HS.out; omega)).mono ?_
  rintro e w' ⟨rfl, rfl⟩
  rw [HT.out]
  go_wp2_with fail
  refine (word_no (s := s.extract 0 4) HZ.out HN.out).mono ?_
  rintro e w1 ⟨rfl, rfl⟩
  go_wp2_with fail
  go_ret2
  exact GrpPost.no rfl rfl (Below.refl _ _)

set_option maxHeartbeats 400000 in
set_option maxRecDepth 100000 in
theorem group_yes_3 (s : ByteArray) (w : World) (hs : s.size = 4) (hst : stood s.data.toList = 3) (hn : (s.extract 0 4).data.toList.all (fun c => (val c).isSome) = true) (W : Nat) (hw : wsum (s.extract 0 4).data.toList (s.extract 0 4).data.toList.length = W) (hW : W < 16777216) (o : Option (List UInt8)) (ho : o = (some [bOf (W / 65536), bOf (W / 256), bOf W])) :
    Calls Tryz.prog 168 #[.string s] w (GrpPost o w) := by
  have HO := Lib.hid ho
  have HN := Lib.hid hn
  have HW := Lib.hid hw
  clear hn hw ho
  have HZ : Hid ((s.extract 0 4).size ≤ 4) := by show _ ≤ _; simp; omega
  have hback := three_back w W 3 3 hW (by decide)
  have HT := Lib.hid hst
  clear hst
  have HS := Lib.hid hs
  have h4 : (4 : Int) ≤ (s.size : Int) := by omega
  clear hs
  go_enter Tryz.func168, Tryz.ntmps168
  go_wp2_with fail
  refine (bytesStood_any s _ (by unfold maxLen; have := HS.out; omega)).mono ?_
  rintro e w' ⟨rfl, rfl⟩
  rw [HT.out]
  go_wp2_with fail
  refine (word_yes (s := s.extract 0 4) HZ.out W HN.out HW.out).mono ?_
  rintro e w1 ⟨rfl, rfl⟩
  go_wp2_with fail
  go_loop [34] (fun i => i = .int .i64 0) (fun _ => 0)
  case atStart => rfl
  case round =>
    subst hrel
    go_wp2
    go_ret2
    exact GrpPost.yes _ HO.out rfl ((Below.refl _ _).alloc (Nat.le_refl _) _)
end Go.Proofs.YtadcidbeealdpaaGreatDoor

/- The program's Base64. -/
namespace Go.Proofs.YtadcidbeealdpaaGreatDoor
open Go.RowKit

theorem stood4 (a b c d : UInt8) : stood [a, b, c, d] = if d = 61 then (if c = 61 then 1 else 2) else 3 := by
  have h1 : Lib.hasSuffix [a, b, c, d] [61, 61] = (d == 61 && c == 61) := by
    simp only [Lib.hasSuffix, List.isSuffixOf, List.reverse_cons, List.reverse_nil, List.nil_append, List.cons_append, List.isPrefixOf, Bool.and_true]
    rw [BEq.comm (a := (61 : UInt8)) (b := d), BEq.comm (a := (61 : UInt8)) (b := c)]
  have h2 : Lib.hasSuffix [a, b, c, d] [61] = (d == 61) := by
    simp only [Lib.hasSuffix, List.isSuffixOf, List.reverse_cons, List.reverse_nil, List.nil_append, List.cons_append, List.isPrefixOf, Bool.and_true]
    rw [BEq.comm (a := (61 : UInt8)) (b := d)]
  unfold stood
  rw [h1, h2]
  by_cases hd : d = 61
  · by_cases hc : c = 61 <;> simp [hd, hc]
  · simp [hd]

theorem readGroup_any (s : ByteArray) (a b c d : UInt8) (w : World) (hs : s.data.toList = [a, b, c, d]) :
    Calls Tryz.prog 168 #[.string s] w (GrpPost (grp a b c d) w) := by
  have h4 : s.size = 4 := by rw [← size_of_toList, hs]; rfl
  have e2 : (s.extract 0 2).data.toList = [a, b] := by rw [Lib.extract_data, hs]; rfl
  have e3 : (s.extract 0 3).data.toList = [a, b, c] := by rw [Lib.extract_data, hs]; rfl
  have e4 : (s.extract 0 4).data.toList = [a, b, c, d] := by rw [Lib.extract_data, hs]; rfl
  have hst := stood4 a b c d
  by_cases hd : d = 61
  · rw [if_pos hd] at hst
    by_cases hc : c = 61
    · rw [if_pos hc] at hst
      have hg : grp a b c d = g1 a b := by unfold grp; rw [if_pos hd, if_pos hc]
      rw [hg]
      cases ha : val a with
      | none =>
        have : g1 a b = none := by unfold g1; rw [ha]
        rw [this]
        exact group_no_1 s w h4 (by rw [hs, hst]) (by rw [e2]; simp [ha])
      | some p =>
        cases hb : val b with
        | none =>
          have : g1 a b = none := by unfold g1; rw [ha, hb]
          rw [this]
          exact group_no_1 s w h4 (by rw [hs, hst]) (by rw [e2]; simp [ha, hb])
        | some q =>
          have hp := (let6_val ha).1
          have hq := (let6_val hb).1
          refine group_yes_1 s w h4 (by rw [hs, hst]) (by rw [e2]; simp [ha, hb]) (p * 262144 + q * 4096) ?_ (by omega) _ ?_
          · rw [e2]
            show wsum [a, b] 2 = _
            simp only [wsum]
            show 0 + (val a).getD 0 * 262144 + (val b).getD 0 * 4096 = _
            rw [ha, hb]; simp
          · unfold g1
            rw [ha, hb]
            simp only
            by_cases h16 : q % 16 = 0
            · rw [if_pos h16, if_pos (by omega), show (p * 262144 + q * 4096) / 65536 = p * 4 + q / 16 by omega]
            · rw [if_neg h16, if_neg (by omega)]
    · rw [if_neg hc] at hst
      have hg : grp a b c d = g2 a b c := by unfold grp; rw [if_pos hd, if_neg hc]
      rw [hg]
      cases ha : val a with
      | none =>
        have : g2 a b c = none := by unfold g2; rw [ha]
        rw [this]
        exact group_no_2 s w h4 (by rw [hs, hst]) (by rw [e3]; simp [ha])
      | some p =>
        cases hb : val b with
        | none =>
          have : g2 a b c = none := by unfold g2; rw [ha, hb]
          rw [this]
          exact group_no_2 s w h4 (by rw [hs, hst]) (by rw [e3]; simp [ha, hb])
        | some q =>
          cases hv : val c with
          | none =>
            have : g2 a b c = none := by unfold g2; rw [ha, hb, hv]
            rw [this]
            exact group_no_2 s w h4 (by rw [hs, hst]) (by rw [e3]; simp [ha, hb, hv])
          | some r =>
            have hp := (let6_val ha).1
            have hq := (let6_val hb).1
            have hr := (let6_val hv).1
            refine group_yes_2 s w h4 (by rw [hs, hst]) (by rw [e3]; simp [ha, hb, hv]) (p * 262144 + q * 4096 + r * 64) ?_ (by omega) _ ?_
            · rw [e3]
              show wsum [a, b, c] 3 = _
              simp only [wsum]
              show 0 + (val a).getD 0 * 262144 + (val b).getD 0 * 4096 + (val c).getD 0 * 64 = _
              rw [ha, hb, hv]; simp
            · unfold g2
              rw [ha, hb, hv]
              simp only
              by_cases h16 : r % 4 = 0
              · rw [if_pos h16, if_pos (by omega), show (p * 262144 + q * 4096 + r * 64) / 65536 = p * 4 + q / 16 by omega, bOf_eq ((p * 262144 + q * 4096 + r * 64) / 256) (bOf (q % 16 * 16 + r / 4)) (by rw [bOf_toNat]; omega)]
              · rw [if_neg h16, if_neg (by omega)]
  · rw [if_neg hd] at hst
    have hg : grp a b c d = g3 a b c d := by unfold grp; rw [if_neg hd]
    rw [hg]
    cases ha : val a with
    | none =>
      have : g3 a b c d = none := by unfold g3; rw [ha]
      rw [this]
      exact group_no_3 s w h4 (by rw [hs, hst]) (by rw [e4]; simp [ha])
    | some p =>
      cases hb : val b with
      | none =>
        have : g3 a b c d = none := by unfold g3; rw [ha, hb]
        rw [this]
        exact group_no_3 s w h4 (by rw [hs, hst]) (by rw [e4]; simp [ha, hb])
      | some q =>
        cases hv : val c with
        | none =>
          have : g3 a b c d = none := by unfold g3; rw [ha, hb, hv]
          rw [this]
          exact group_no_3 s w h4 (by rw [hs, hst]) (by rw [e4]; simp [ha, hb, hv])
        | some r =>
          cases hu : val d with
          | none =>
            have : g3 a b c d = none := by unfold g3; rw [ha, hb, hv, hu]
            rw [this]
            exact group_no_3 s w h4 (by rw [hs, hst]) (by rw [e4]; simp [ha, hb, hv, hu])
          | some t =>
            have hp := (let6_val ha).1
            have hq := (let6_val hb).1
            have hr := (let6_val hv).1
            have ht := (let6_val hu).1
            refine group_yes_3 s w h4 (by rw [hs, hst]) (by rw [e4]; simp [ha, hb, hv, hu]) (p * 262144 + q * 4096 + r * 64 + t) ?_ (by omega) _ ?_
            · rw [e4]
              show wsum [a, b, c, d] 4 = _
              simp only [wsum]
              show 0 + (val a).getD 0 * 262144 + (val b).getD 0 * 4096 + (val c).getD 0 * 64 + (val d).getD 0 * 1 = _
              rw [ha, hb, hv, hu]; simp
            · unfold g3
              rw [ha, hb, hv, hu]
              simp only
              rw [show (p * 262144 + q * 4096 + r * 64 + t) / 65536 = p * 4 + q / 16 by omega, bOf_eq ((p * 262144 + q * 4096 + r * 64 + t) / 256) (bOf (q % 16 * 16 + r / 4)) (by rw [bOf_toNat]; omega), bOf_eq (p * 262144 + q * 4096 + r * 64 + t) (bOf (r % 4 * 64 + t)) (by rw [bOf_toNat]; omega)]
end Go.Proofs.YtadcidbeealdpaaGreatDoor

/- The program's Base64: all groups. -/
namespace Go.Proofs.YtadcidbeealdpaaGreatDoor
open Go.RowKit

theorem writeString_any (B b : Nat) (bs : List Value) (s : ByteArray) (w : World) (h : Lib.IsBuilderF 84 5 B b bs w) (hlen : bs.length + s.size ≤ 140737488355328) (hBw : B ≤ w.heap.size) :
    Calls Tryz.prog 41 #[.pointer (some ⟨b, 0, none⟩), .string s] w fun e w' => e = .returned (.tuple #[.int .i64 s.size, .nilIface]) ∧ (Lib.BuilderAtF 84 5 B b (.pointer (some ⟨b, 0, none⟩)) (bs ++ Lib.strCells s) w' ∧ Below B w w' ∧ Lib.OthersKept 5 (some b) w w') :=
  Any.Builder_WriteString_k { Tryz.lays159 with } Tryz.Builder_Extra_159 B b bs s w h hlen hBw
theorem builderString_any (B b : Nat) (l : List UInt8) (w : World) (h : Lib.IsBuilderF 84 5 B b (Lib.byteCells l) w) (hBw : B ≤ w.heap.size) :
    Calls Tryz.prog 25 #[.pointer (some ⟨b, 0, none⟩)] w fun e w' => e = .returned (.string ⟨l.toArray⟩) ∧ (Lib.IsBuilderF 84 5 B b (Lib.byteCells l) w' ∧ Below B w w' ∧ Lib.OthersKept 5 (some b) w w') :=
  Any.Builder_String_any_k Tryz.lays169 Tryz.Builder_Extra_169 B b l w h hBw

theorem builder_below {T e : TypeId} {B b : Nat} {p : Value} {bs : List Value} {W W' : World} (h : Lib.BuilderAtF T e B b p bs W) (hb : Below W.heap.size W W') : Lib.BuilderAtF T e B b p bs W' := by
  have hlt := h.lt
  obtain ⟨hB, v, hv, hown, hne⟩ := h
  exact ⟨hB, v, (hb.block b hlt).trans hv, hown.kept (row := none) ⟨hb.os, hb.tape, hb.output, hb.size, fun k hk _ => hb.block k hk⟩ (Classical.em _), hne⟩
theorem isBuilder_below {T e : TypeId} {B b : Nat} {bs : List Value} {W W' : World} (h : Lib.IsBuilderF T e B b bs W) (hb : Below W.heap.size W W') : Lib.IsBuilderF T e B b bs W' :=
  h.elim (fun x => .inl (builder_below x hb)) (fun x => .inr (builder_below x hb))

def DecPost (o : Option (List UInt8)) (w : World) (e : Ending) (w' : World) : Prop :=
  (match o with | some g => e = .returned (.tuple #[.string ⟨g.toArray⟩, .bool true]) | none => e = .returned (.tuple #[.string ⟨#[]⟩, .bool false])) ∧ Below w.heap.size w w'
theorem DecPost.yes {o : Option (List UInt8)} {w : World} {e : Ending} {w' : World} (g : List UInt8) (h : o = some g) (he : e = .returned (.tuple #[.string ⟨g.toArray⟩, .bool true])) (hw : Below w.heap.size w w') : DecPost o w e w' := by subst h; exact ⟨he, hw⟩
theorem DecPost.no {o : Option (List UInt8)} {w : World} {e : Ending} {w' : World} (h : o = none) (he : e = .returned (.tuple #[.string ⟨#[]⟩, .bool false])) (hw : Below w.heap.size w w') : DecPost o w e w' := by subst h; exact ⟨he, hw⟩

def strSize (v : Value) : Nat := match v with | .string t => t.size | _ => 0

/-- where the loop stands: what is left, and what has been read -/
def ReadRel (l : List UInt8) (w : World) (s : Value) (w' : World) : Prop :=
  ∃ (t : ByteArray) (acc : List UInt8), s = .string t ∧ t.size % 4 = 0 ∧ acc.length + t.size ≤ l.length ∧ dec64 l = (dec64 t.data.toList).map (acc ++ ·) ∧ Lib.IsBuilderF 84 5 w.heap.size w.heap.size (Lib.byteCells acc) w' ∧ Below w.heap.size w w' ∧ w.heap.size < w'.heap.size

theorem dec_none_mod : ∀ l : List UInt8, l.length % 4 ≠ 0 → dec64 l = none
  | [], h => absurd rfl h
  | [_], _ => rfl
  | [_, _], _ => rfl
  | [_, _, _], _ => rfl
  | a :: b :: c :: d :: r, h => by
    have := dec_none_mod r (by simp at h; omega)
    rw [dec64]
    split
    · rfl
    · split
      · rfl
      · rw [this]

theorem grp_len {a b c d : UInt8} {g : List UInt8} (h : grp a b c d = some g) : 1 ≤ g.length ∧ g.length ≤ 3 := by
  unfold grp at h
  split at h
  · split at h
    · have := (g1_wr h).2; omega
    · have := (g2_wr h).2; omega
  · have := (g3_wr h).2; omega

set_option maxHeartbeats 400000 in
set_option maxRecDepth 100000 in
theorem sixRead_any (s : ByteArray) (w : World) (hs : s.size ≤ 140737488355328) :
    Calls Tryz.prog 125 #[.string s] w (DecPost (dec64 s.data.toList) w) := by
  obtain ⟨O, hO⟩ : ∃ O, dec64 s.data.toList = O := ⟨_, rfl⟩
  rw [hO]
  have HO := Lib.hid hO
  clear hO
  cases hm : (((s.size : Int) % 4) != 0) with
  | true =>
    have HN : Hid (O = none) := by
      show _ = _
      rw [← HO.out]
      refine dec_none_mod _ ?_
      have : ¬ (s.size : Int) % 4 = 0 := by simpa using hm
      rw [size_of_toList]; omega
    go_enter Tryz.func125, Tryz.ntmps125
    go_wp2
    go_ret2
    exact DecPost.no HN.out rfl (Below.refl _ _)
  | false =>
    have hm4 : (s.size : Int) % 4 = 0 := by simpa using hm
    have HM : Hid (s.size % 4 = 0) := by show s.size % 4 = 0; omega
    clear hm4
    go_enter Tryz.func125, Tryz.ntmps125
    go_wp2
    go_loopw [0] (fun t w' => ReadRel s.data.toList w t w') (fun t _ => strSize t)
    case atStart => exact ⟨s, [], rfl, HM.out, by rw [size_of_toList]; simp, by simp, Lib.IsBuilderF.of (Lib.fresh_isBuilder 84 5 w), (Below.refl _ _).alloc (Nat.le_refl _) _, by simp⟩
    case round =>
      obtain ⟨t, acc, rfl, ht4, hlen, hdec, hB, hbel, hsz⟩ := hrel
      rw [size_of_toList] at hlen
      rw [HO.out] at hdec
      have HD := Lib.hid hdec
      have HB := Lib.hid hB
      clear hdec hB
      by_cases h0 : t.size = 0
      · have HE : Hid (O = some acc) := by
          show _ = _
          rw [HD.out]
          have : t.data.toList = [] := by
            rw [← List.length_eq_zero_iff, size_of_toList]; exact h0
          rw [this]; simp [dec64]
        have hbB := Nat.le_of_lt hsz
        go_wp2_with fail
        refine (builderString_any _ _ acc _ HB.out hbB).mono ?_
        rintro e w1 ⟨rfl, _, hb1, _⟩
        go_wp2_with fail
        go_ret2
        exact DecPost.yes acc HE.out rfl (hbel.trans hb1)
      · have h4 : 4 ≤ t.size := by omega
        obtain ⟨a, b, c, d, r, hl⟩ : ∃ a b c d r, t.data.toList = a :: b :: c :: d :: r := by
          have hlen4 : 4 ≤ t.data.toList.length := by rw [size_of_toList]; exact h4
          match h : t.data.toList, hlen4 with
          | a :: b :: c :: d :: r, _ => exact ⟨a, b, c, d, r, rfl⟩
        have he0 : Hid ((t.extract 0 4).data.toList = [a, b, c, d]) := by
          show _ = _
          rw [Lib.extract_data, hl]; rfl
        have her : Hid ((t.extract 4 t.size).data.toList = r) := by
          show _ = _
          rw [Lib.extract_to_end, hl]; rfl
        have hrs : r.length + 4 = t.size := by
          rw [← size_of_toList t, hl]; rfl
        have HD2 : Hid (O = (match grp a b c d with | none => none | some g => if g.length < 3 ∧ r ≠ [] then none else match dec64 r with | none => none | some y => some (g ++ y) : Option (List UInt8)).map (acc ++ ·)) := by
          show _ = _
          rw [HD.out, hl]; rfl
        clear hl HD
        obtain ⟨gr, hgr⟩ : ∃ gr, grp a b c d = gr := ⟨_, rfl⟩
        have HG := Lib.hid hgr
        clear hgr
        have h4i : (4 : Int) ≤ (t.size : Int) := by omega
        go_wp2_with fail
        refine (readGroup_any (t.extract 0 4) a b c d _ he0.out).mono ?_
        rw [HG.out]
        rintro e w1 ⟨he, hb1⟩
        cases gr with
        | none =>
          simp only at he
          subst he
          have HN : Hid (O = none) := by show _ = _; rw [HD2.out, HG.out]; rfl
          go_wp2_with fail
          go_ret2
          exact DecPost.no HN.out rfl (hbel.trans (hb1.mono (Nat.le_of_lt hsz)))
        | some g =>
          simp only at he
          subst he
          have hgl := grp_len HG.out
          have hgs : (⟨g.toArray⟩ : ByteArray).size = g.length := by simp [ByteArray.size]
          by_cases hbad : g.length < 3 ∧ r ≠ []
          · have HN : Hid (O = none) := by
              show _ = _
              rw [HD2.out, HG.out]
              simp only
              rw [if_pos hbad]; rfl
            have hg3 : ((g.length : Int) < 3) := by omega
            have hr0 : (0 : Int) < (t.size : Int) - 4 := by
              have : 1 ≤ r.length := by
                cases r with
                | nil => exact absurd rfl hbad.2
                | cons _ _ => simp
              omega
            go_wp2_with fail
            go_ret2
            exact DecPost.no HN.out rfl (hbel.trans (hb1.mono (Nat.le_of_lt hsz)))
          · have HN : Hid (O = (dec64 r).map ((acc ++ g) ++ ·)) := by
              show _ = _
              rw [HD2.out, HG.out]
              simp only
              rw [if_neg hbad]
              cases dec64 r with
              | none => rfl
              | some y => simp
            have hcase : (3 : Int) ≤ (g.length : Int) ∨ ((g.length : Int) < 3 ∧ ¬ 0 < t.size - 4) := by
              by_cases h3 : 3 ≤ g.length
              · left; omega
              · right
                refine ⟨by omega, ?_⟩
                have : r = [] := by
                  cases r with
                  | nil => rfl
                  | cons x y => exact absurd ⟨by omega, by simp⟩ hbad
                rw [this] at hrs
                simp at hrs; omega
            have HBW := Lib.hid (isBuilder_below HB.out hb1)
            have hw1 : wr.heap.size ≤ w1.heap.size := hb1.size
            have hl1 : Hid ((Lib.byteCells acc).length + (⟨g.toArray⟩ : ByteArray).size ≤ 140737488355328) := by
              show _ ≤ _
              rw [Lib.byteCells_length, hgs]; omega
            have hB1 : w.heap.size ≤ w1.heap.size := by omega
            clear hbad HB
            rcases hcase with h3 | ⟨h3, hz⟩
            all_goals
              go_wp2_with fail
              refine (writeString_any _ _ (Lib.byteCells acc) ⟨g.toArray⟩ _ HBW.out hl1.out hB1).mono ?_
              rintro e w2 ⟨rfl, hb2, hbe2, _⟩
              go_wp2_with fail
              refine ⟨⟨t.extract 4 t.size, acc ++ g, rfl, ?_, ?_, ?_, ?_, ?_, ?_⟩, ?_⟩
              · rw [← size_of_toList, her.out]; omega
              · rw [← size_of_toList (t.extract 4 t.size), her.out, size_of_toList]; simp; omega
              · rw [HO.out, her.out, HN.out]
              · refine Or.inr ?_
                have : Lib.byteCells (acc ++ g) = Lib.byteCells acc ++ Lib.strCells ⟨g.toArray⟩ := by simp [Lib.byteCells, Lib.strCells]
                rw [this]; exact hb2
              · exact (hbel.trans (hb1.mono (Nat.le_of_lt hsz))).trans hbe2
              · have := hbe2.size; omega
              · show (t.extract 4 t.size).size < t.size
                rw [← size_of_toList, her.out]; omega
end Go.Proofs.YtadcidbeealdpaaGreatDoor

/- Commands: AUTH, MAIL, RCPT. -/
namespace Go.Proofs.YtadcidbeealdpaaGreatDoor
open Go.RowKit

/-- the result's box, as it is at the beginning -/
def box0 : Obj := .cells #[.int .i64 0, .string ⟨#[]⟩, .int .i64 0, .string ⟨#[]⟩] 123
structure BoxAt (w : World) (k : Nat) : Prop where
  blk : w.heap[k]? = some (.cells #[.int .i64 0, .string ⟨#[]⟩, .int .i64 0, .string ⟨#[]⟩] 123 (0, 0))
  c0 : w.cell? ⟨k, 0, none⟩ = some (.int .i64 0)
  c1 : w.cell? ⟨k, 1, none⟩ = some (.string ⟨#[]⟩)
  c2 : w.cell? ⟨k, 2, none⟩ = some (.int .i64 0)
  c3 : w.cell? ⟨k, 3, none⟩ = some (.string ⟨#[]⟩)
  f0 : w.frozen? ⟨k, 0, none⟩ = false
  f1 : w.frozen? ⟨k, 1, none⟩ = false
  f2 : w.frozen? ⟨k, 2, none⟩ = false
  f3 : w.frozen? ⟨k, 3, none⟩ = false
theorem boxAt {w : World} {k : Nat} (h : w.heap[k]? = some (.cells #[.int .i64 0, .string ⟨#[]⟩, .int .i64 0, .string ⟨#[]⟩] 123 (0, 0))) : BoxAt w k :=
  ⟨h, by rw [Lib.cell_of_heap h]; rfl, by rw [Lib.cell_of_heap h]; rfl, by rw [Lib.cell_of_heap h]; rfl, by rw [Lib.cell_of_heap h]; rfl, Lib.frozen_of_heap h 0, Lib.frozen_of_heap h 1, Lib.frozen_of_heap h 2, Lib.frozen_of_heap h 3⟩

def authC (arg : List UInt8) : PCmd :=
  match cutPS arg [80, 76, 65, 73, 78, 32] with
  | some l => (match dec64 l with | some b => ⟨8, [], 0, b⟩ | none => wrongC)
  | none => wrongC
theorem dec64_nil : dec64 [] = some [] := rfl

set_option maxHeartbeats 1000000 in
set_option maxRecDepth 100000 in
theorem readAuth_any (arg : List UInt8) (w : World) (hl : arg.length ≤ 1048576) (ha : asciiL arg) :
    Calls Tryz.prog 87 #[.string (bs arg)] w fun e w' => e = .returned (cmdVal (authC arg)) ∧ Below w.heap.size w w' := by
  obtain ⟨W0, hW0⟩ : ∃ W0 : World, w.alloc (.cells #[.int .i64 0, .string ⟨#[]⟩, .int .i64 0, .string ⟨#[]⟩] 123) = W0 := ⟨_, rfl⟩
  have B0 : Below w.heap.size w W0 := by rw [← hW0]; exact (Below.refl _ _).alloc (Nat.le_refl _) _
  have X0 : W0.heap[w.heap.size]? = some (.cells #[.int .i64 0, .string ⟨#[]⟩, .int .i64 0, .string ⟨#[]⟩] 123 (0, 0)) := by rw [← hW0]; exact heap_alloc_new w _
  have HCP := Lib.hid (cutPrefix_any arg [80, 76, 65, 73, 78, 32] W0 hl (by decide) ha (by unfold asciiL; decide))
  have HA : Hid (authC arg = match cutPS arg [80, 76, 65, 73, 78, 32] with | some l => (match dec64 l with | some b => ⟨8, [], 0, b⟩ | none => wrongC) | none => wrongC) := Lib.hid rfl
  have HB0 := Lib.hid B0
  have HX0 := Lib.hid X0
  have HW0 := Lib.hid hW0
  clear B0 X0 hW0
  cases hcp : cutPS arg [80, 76, 65, 73, 78, 32] with
  | none =>
    rw [hcp] at HCP HA
    simp only [cutPV] at HCP
    have HA2 : Hid (authC arg = wrongC) := Lib.hid HA.out
    have HSX := Lib.hid (sixRead_any ⟨#[]⟩ W0 (by decide))
    clear hcp HA ha
    go_enter Tryz.func87, Tryz.ntmps87
    go_wp2_with fail
    rw [HW0.out]
    refine HCP.out.mono ?_
    rintro e w1 ⟨rfl, rfl⟩
    go_wp2_with fail
    refine HSX.out.mono ?_
    intro e w2 hD
    rw [dec64_nil] at hD
    obtain ⟨rfl, hb2⟩ := hD
    have bx := boxAt (below_some hb2 HX0.out)
    obtain ⟨X1, c0, c1, c2, c3, f0, f1, f2, f3⟩ := bx
    have HX1 := Lib.hid X1
    have HB1 := Lib.hid (HB0.out.trans (hb2.mono HB0.out.size))
    clear X1 hb2 HSX HCP
    go_wp2_with fail
    obtain ⟨r0, r1, r2, r3, rS⟩ := four_put (x := .int .i64 1) (y := .string ⟨#[]⟩) (z := .int .i64 0) (u := .string ⟨#[]⟩) HX1.out
    refine bodyPost_ret (v := .agg #[.int .i64 1, .string ⟨#[]⟩, .int .i64 0, .string ⟨#[]⟩]) (by simp [results, Tryz.results87, go_sem, r0, r1, r2, r3]) rfl ?_
    exact ⟨by rw [HA2.out]; rfl, HB1.out.trans (rS.below (Nat.le_refl _))⟩
  | some l =>
    rw [hcp] at HCP HA
    simp only [cutPV] at HCP
    have hd := cutPS_ascii hcp ha
    have hls := bs_size l
    have HSX := Lib.hid (sixRead_any (bs l) W0 (by omega))
    rw [bs_toList] at HSX
    cases hdc : dec64 l with
    | none =>
      rw [hdc] at HSX
      have HA2 : Hid (authC arg = wrongC) := Lib.hid (by rw [HA.out]; simp only []; rw [hdc])
      clear hcp HA ha hd hdc
      go_enter Tryz.func87, Tryz.ntmps87
      go_wp2_with fail
      rw [HW0.out]
      refine HCP.out.mono ?_
      rintro e w1 ⟨rfl, rfl⟩
      go_wp2_with fail
      refine HSX.out.mono ?_
      intro e w2 hD
      obtain ⟨rfl, hb2⟩ := hD
      have bx := boxAt (below_some hb2 HX0.out)
      obtain ⟨X1, c0, c1, c2, c3, f0, f1, f2, f3⟩ := bx
      have HX1 := Lib.hid X1
      have HB1 := Lib.hid (HB0.out.trans (hb2.mono HB0.out.size))
      clear X1 hb2 HSX HCP
      go_wp2_with fail
      obtain ⟨r0, r1, r2, r3, rS⟩ := four_put (x := .int .i64 1) (y := .string ⟨#[]⟩) (z := .int .i64 0) (u := .string ⟨#[]⟩) HX1.out
      refine bodyPost_ret (v := .agg #[.int .i64 1, .string ⟨#[]⟩, .int .i64 0, .string ⟨#[]⟩]) (by simp [results, Tryz.results87, go_sem, r0, r1, r2, r3]) rfl ?_
      exact ⟨by rw [HA2.out]; rfl, HB1.out.trans (rS.below (Nat.le_refl _))⟩
    | some b =>
      rw [hdc] at HSX
      have HA2 : Hid (authC arg = ⟨8, [], 0, b⟩) := Lib.hid (by rw [HA.out]; simp only []; rw [hdc])
      clear hcp HA ha hd hdc
      go_enter Tryz.func87, Tryz.ntmps87
      go_wp2_with fail
      rw [HW0.out]
      refine HCP.out.mono ?_
      rintro e w1 ⟨rfl, rfl⟩
      go_wp2_with fail
      refine HSX.out.mono ?_
      intro e w2 hD
      obtain ⟨rfl, hb2⟩ := hD
      have bx := boxAt (below_some hb2 HX0.out)
      obtain ⟨X1, c0, c1, c2, c3, f0, f1, f2, f3⟩ := bx
      have HX1 := Lib.hid X1
      have HB1 := Lib.hid (HB0.out.trans (hb2.mono HB0.out.size))
      clear X1 hb2 HSX HCP
      go_wp2_with fail
      obtain ⟨r0, r1, r2, r3, rS⟩ := four_put (x := .int .i64 8) (y := .string ⟨#[]⟩) (z := .int .i64 0) (u := .string ⟨b.toArray⟩) HX1.out
      refine bodyPost_ret (v := .agg #[.int .i64 8, .string ⟨#[]⟩, .int .i64 0, .string ⟨b.toArray⟩]) (by simp [results, Tryz.results87, go_sem, r0, r1, r2, r3]) rfl ?_
      exact ⟨by rw [HA2.out]; rfl, HB1.out.trans (rS.below (Nat.le_refl _))⟩
end Go.Proofs.YtadcidbeealdpaaGreatDoor

/- Commands: MAIL, RCPT. -/
namespace Go.Proofs.YtadcidbeealdpaaGreatDoor
open Go.RowKit

def restOf (o : Option (List UInt8)) : List UInt8 := match o with | some r => r | none => []
def cutV (o : Option (List UInt8)) : Value := .tuple #[.string (bs (restOf o)), .bool o.isSome]
theorem cutPV_eq (o : Option (List UInt8)) : cutPV o = cutV o := by cases o <;> rfl
def rcptC (arg : List UInt8) : PCmd :=
  let o := cutPS arg [84, 79, 58, 60]
  if o.isSome && Lib.hasSuffix (restOf o) [62] && (keptR (Lib.trimSuffix (restOf o) [62])).2 then ⟨10, asKeptR (Lib.trimSuffix (restOf o) [62]), 0, []⟩ else wrongC
theorem restOf_ascii {arg p : List UInt8} (ha : asciiL arg) : asciiL (restOf (cutPS arg p)) ∧ (restOf (cutPS arg p)).length ≤ arg.length := by
  cases h : cutPS arg p with
  | none => exact ⟨(fun x hx => by cases hx), Nat.zero_le _⟩
  | some r => exact cutPS_ascii h ha
theorem trimSuffix_le (l p : List UInt8) : (Lib.trimSuffix l p).length ≤ l.length := by
  unfold Lib.trimSuffix
  split
  · rw [List.length_take]; omega
  · exact Nat.le_refl _

set_option maxHeartbeats 1000000 in
set_option maxRecDepth 100000 in
theorem readRcpt_any (arg : List UInt8) (m : Int) (w : World) (hl : arg.length ≤ 1048576) (ha : asciiL arg) (hm : w.cell? ⟨0, 0, none⟩ = some (.int .i64 m)) :
    Calls Tryz.prog 89 #[.string (bs arg)] w fun e w' => e = .returned (cmdVal (rcptC arg)) ∧ Below w.heap.size w w' := by
  obtain ⟨W0, hW0⟩ : ∃ W0 : World, w.alloc (.cells #[.int .i64 0, .string ⟨#[]⟩, .int .i64 0, .string ⟨#[]⟩] 123) = W0 := ⟨_, rfl⟩
  have B0 : Below w.heap.size w W0 := by rw [← hW0]; exact (Below.refl _ _).alloc (Nat.le_refl _) _
  have X0 : W0.heap[w.heap.size]? = some (.cells #[.int .i64 0, .string ⟨#[]⟩, .int .i64 0, .string ⟨#[]⟩] 123 (0, 0)) := by rw [← hW0]; exact heap_alloc_new w _
  have m0 := (B0.cell (block_lt hm)).trans hm
  have hCP := cutPrefix_any arg [84, 79, 58, 60] W0 hl (by decide) ha (by unfold asciiL; decide)
  rw [cutPV_eq] at hCP
  have hro := restOf_ascii (p := [84, 79, 58, 60]) ha
  have HR : Hid (rcptC arg = if (cutPS arg [84, 79, 58, 60]).isSome && Lib.hasSuffix (restOf (cutPS arg [84, 79, 58, 60])) [62] && (keptR (Lib.trimSuffix (restOf (cutPS arg [84, 79, 58, 60])) [62])).2 then ⟨10, asKeptR (Lib.trimSuffix (restOf (cutPS arg [84, 79, 58, 60])) [62]), 0, []⟩ else wrongC) := Lib.hid rfl
  unfold cutV at hCP
  obtain ⟨hasTo, e1⟩ : ∃ b, (cutPS arg [84, 79, 58, 60]).isSome = b := ⟨_, rfl⟩
  obtain ⟨rest, e2⟩ : ∃ r, restOf (cutPS arg [84, 79, 58, 60]) = r := ⟨_, rfl⟩
  rw [e1, e2] at hCP HR
  rw [e2] at hro
  have hrs := bs_size rest
  have hSX := Tryz.strings_CutSuffix (bs rest) ⟨#[62]⟩ W0 (by omega)
  rw [bs_toList, show (⟨#[62]⟩ : ByteArray).data.toList = [62] from rfl] at hSX
  have htl := trimSuffix_le rest [62]
  obtain ⟨hasEnd, e3⟩ : ∃ b, Lib.hasSuffix rest [62] = b := ⟨_, rfl⟩
  obtain ⟨name, e4⟩ : ∃ r, Lib.trimSuffix rest [62] = r := ⟨_, rfl⟩
  rw [e3, e4] at hSX HR
  rw [e4] at htl
  have hAK := asKept_any name m W0 (by omega) m0
  obtain ⟨isA, e5⟩ : ∃ b, (keptR name).2 = b := ⟨_, rfl⟩
  obtain ⟨kp, e6⟩ : ∃ r, asKeptR name = r := ⟨_, rfl⟩
  rw [e5, e6] at hAK HR
  have HCP := Lib.hid hCP
  have HSX : Hid (Calls Tryz.prog 128 #[.string (bs rest), .string ⟨#[62]⟩] W0 fun e w' => e = .returned (.tuple #[.string (bs name), .bool hasEnd]) ∧ w' = W0) := Lib.hid hSX
  have HAK := Lib.hid hAK
  have HB0 := Lib.hid B0
  have HX0 := Lib.hid X0
  have HW0 := Lib.hid hW0
  clear B0 X0 hW0 hm m0 hCP hSX hAK e1 e2 e3 e4 e5 e6 hro htl ha
  go_enter Tryz.func89, Tryz.ntmps89
  go_wp2_with fail
  rw [HW0.out]
  refine HCP.out.mono ?_
  rintro e w1 ⟨rfl, rfl⟩
  go_wp2_with fail
  refine HSX.out.mono ?_
  rintro e w2 ⟨rfl, rfl⟩
  go_wp2_with fail
  refine HAK.out.mono ?_
  rintro e w3 ⟨rfl, hb3⟩
  obtain ⟨X1, c0, c1, c2, c3, f0, f1, f2, f3⟩ := boxAt (below_some hb3 HX0.out)
  have HX1 := Lib.hid X1
  have HB1 := Lib.hid (HB0.out.trans (hb3.mono HB0.out.size))
  clear X1 hb3 HAK HSX HCP
  by_cases hall : (hasTo && hasEnd && isA) = true
  · have HR2 : Hid (rcptC arg = ⟨10, kp, 0, []⟩) := Lib.hid (by rw [HR.out, if_pos hall])
    simp only [Bool.and_eq_true] at hall
    obtain ⟨⟨rfl, rfl⟩, rfl⟩ := hall
    clear HR
    go_wp2_with fail
    obtain ⟨r0, r1, r2, r3, rS⟩ := four_put (x := .int .i64 10) (y := .string (bs kp)) (z := .int .i64 0) (u := .string ⟨#[]⟩) HX1.out
    refine bodyPost_ret (v := .agg #[.int .i64 10, .string (bs kp), .int .i64 0, .string ⟨#[]⟩]) (by simp [results, Tryz.results89, go_sem, r0, r1, r2, r3]) rfl ?_
    exact ⟨by rw [HR2.out]; rfl, HB1.out.trans (rS.below (Nat.le_refl _))⟩
  · have HR2 : Hid (rcptC arg = wrongC) := Lib.hid (by rw [HR.out, if_neg hall])
    have hcs : hasTo = false ∨ (hasTo = true ∧ hasEnd = false) ∨ (hasTo = true ∧ hasEnd = true ∧ isA = false) := by
      cases hasTo <;> cases hasEnd <;> cases isA <;> simp at hall ⊢
    clear HR hall
    rcases hcs with rfl | ⟨rfl, rfl⟩ | ⟨rfl, rfl, rfl⟩
    all_goals
      go_wp2_with fail
      obtain ⟨r0, r1, r2, r3, rS⟩ := four_put (x := .int .i64 1) (y := .string ⟨#[]⟩) (z := .int .i64 0) (u := .string ⟨#[]⟩) HX1.out
      refine bodyPost_ret (v := .agg #[.int .i64 1, .string ⟨#[]⟩, .int .i64 0, .string ⟨#[]⟩]) (by simp [results, Tryz.results89, go_sem, r0, r1, r2, r3]) rfl ?_
      exact ⟨by rw [HR2.out]; rfl, HB1.out.trans (rS.below (Nat.le_refl _))⟩
end Go.Proofs.YtadcidbeealdpaaGreatDoor
