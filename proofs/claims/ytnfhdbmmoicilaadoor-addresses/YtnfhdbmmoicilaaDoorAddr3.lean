/- The program's Address. -/
import Derived.Test.YtnfhdbmmoicilaaDoorAddr2
namespace Go.Proofs.YtnfhdbmmoicilaaDoor
open Go.RowKit

set_option maxHeartbeats 400000 in
theorem sliteCut_any (s : ByteArray) (c : UInt8) (w : World) (hs : s.size ≤ maxLen) :
    Calls Tryd.prog 37 #[.string s, .string ⟨#[c]⟩] w (CutPost c s.data.toList w) := by
  unfold maxLen at hs
  have hc := cutR_lib c s.data.toList
  by_cases h : 0 ≤ Lib.indexByte s.data.toList c
  · rw [if_pos h] at hc
    obtain ⟨i, hi⟩ := Int.eq_ofNat_of_zero_le h
    have hx := (Lib.indexByte_some hi).1
    have hlt : i < s.size := by
      have := (List.getElem?_eq_some_iff.1 hx).1
      rw [size_of_toList] at this; exact this
    have HI := Lib.hid hi
    rw [hi, Int.toNat_natCast] at hc
    have HC := Lib.hid hc
    clear hc hi h hx
    have c1 : (0 : Int) ≤ ↑i := by omega
    have c2 : (↑i : Int) ≤ ↑s.size := by omega
    have c3 : (0 : Int) ≤ ↑i + 1 := by omega
    have c4 : (↑i + 1 : Int) ≤ ↑s.size := by omega
    go_enter Tryd.func37, Tryd.ntmps37
    go_wp2_with (go_at_call 52; refine (Tryd.stringslite_Index_one _ _ _).mono ?_; rintro e w' ⟨rfl, rfl⟩; rw [HI.out])
    go_region
    go_wp2
    go_ret3
    refine CutPost.mk _ _ _ rfl ?_ 1 rfl
    rw [HC.out, Lib.extract_data, Lib.extract_to_end]
    rfl
  · have hge := Lib.indexByte_ge s.data.toList c
    have hi : Lib.indexByte s.data.toList c = -1 := by omega
    rw [if_neg h] at hc
    have HI := Lib.hid hi
    have HC := Lib.hid hc
    clear hc hi h hge
    go_enter Tryd.func37, Tryd.ntmps37
    go_wp2_with (go_at_call 52; refine (Tryd.stringslite_Index_one _ _ _).mono ?_; rintro e w' ⟨rfl, rfl⟩; rw [HI.out])
    go_ret3
    exact CutPost.mk _ _ _ rfl HC.out 0 rfl

set_option maxHeartbeats 400000 in
theorem stringsCut_any (s : ByteArray) (c : UInt8) (w : World) (hs : s.size ≤ maxLen) :
    Calls Tryd.prog 24 #[.string s, .string ⟨#[c]⟩] w (CutPost c s.data.toList w) := by
  go_enter Tryd.func24, Tryd.ntmps24
  go_wp2_with fail
  refine (sliteCut_any s c _ hs).mono ?_
  rintro e w' ⟨x, y, f, rfl, hc, n, rfl⟩
  have HC := Lib.hid hc
  clear hc
  go_wp2_with fail
  go_ret3
  exact CutPost.mk _ _ _ rfl HC.out n rfl

set_option maxHeartbeats 400000 in
theorem clone_any (s : ByteArray) (w : World) (hlim : s.size ≤ 140737488355328) :
    Calls Tryd.prog 27 #[.string s] w fun e w' => e = .returned (.string s) ∧ Below w.heap.size w w' := by
  go_enter Tryd.func27, Tryd.ntmps27
  go_wp2_with fail
  refine (Tryd.stringslite_Clone s _ (by omega)).mono ?_
  rintro e w' ⟨rfl, hb⟩
  go_wp2_with fail
  go_ret
  exact ⟨rfl, hb⟩

set_option maxHeartbeats 400000 in
theorem smallLetters_any (s : ByteArray) (w : World) (hlim : s.size ≤ 40) (hascii : ∀ (j : Nat) (b : UInt8), s.data.toList[j]? = some b → b.toNat < 128) :
    Calls Tryd.prog 28 #[.string s] w fun e w' => e = .returned (.string ⟨(Lib.toLowerA s.data.toList).toArray⟩) ∧ Below w.heap.size w w' := by
  have HA := Lib.hid hascii
  clear hascii
  go_enter Tryd.func28, Tryd.ntmps28
  go_wp2_with fail
  refine (Tryd.strings_ToLower_ascii s _ (by omega) HA.out).mono ?_
  rintro e w1 ⟨rfl, hb⟩
  go_wp2_with fail
  refine (clone_any _ _ ?_).mono ?_
  · show (Lib.toLowerA s.data.toList).toArray.size ≤ _
    simp [Lib.toLowerA]; omega
  rintro e w2 ⟨rfl, hb2⟩
  go_wp2_with fail
  go_ret
  exact ⟨rfl, hb.trans (hb2.mono hb.size)⟩

def addrR (l : List UInt8) : List UInt8 × List UInt8 × Bool :=
  if locB (cutR 64 l).1 && domB (cutR 64 l).2.1 then ((cutR 64 l).1, Lib.toLowerA (cutR 64 l).2.1, true) else ([], [], false)
def AddrPost (l : List UInt8) (w : World) (e : Ending) (w' : World) : Prop :=
  ∃ (x y : ByteArray) (f : Bool), e = .returned (.tuple #[.string x, .string y, .bool f]) ∧ addrR l = (x.data.toList, y.data.toList, f) ∧ Below w.heap.size w w'
theorem AddrPost.mk {l : List UInt8} {w : World} {e : Ending} {w' : World} (x y : ByteArray) (f : Bool) (he : e = .returned (.tuple #[.string x, .string y, .bool f])) (hc : addrR l = (x.data.toList, y.data.toList, f)) (hw : Below w.heap.size w w') : AddrPost l w e w' :=
  ⟨x, y, f, he, hc, hw⟩

theorem below_drewN (n : Nat) (w : World) (B : Nat) : Below B w (w.drewN n) := by
  induction n with
  | zero => exact Below.refl _ _
  | succ n ih => exact ih.trans ((Below.refl _ _).drew)

set_option maxHeartbeats 400000 in
theorem read_any (s : ByteArray) (m : Int) (w : World) (hs : s.size ≤ 140737488355328) (hm : w.cell? ⟨0, 0, none⟩ = some (.int .i64 m)) :
    Calls Tryd.prog 14 #[.string s] w (AddrPost s.data.toList w) := by
  have hM : s.size ≤ maxLen := by unfold maxLen; omega
  go_enter Tryd.func14, Tryd.ntmps14
  go_wp2_with fail
  refine (stringsCut_any s 64 _ hM).mono ?_
  rintro e w' ⟨x, y, f, rfl, hc, n, rfl⟩
  have hl := cut_len 64 _ _ _ _ hc
  rw [size_of_toList, size_of_toList, size_of_toList] at hl
  have hx : x.size ≤ 140737488355328 := by omega
  have hy : y.size ≤ 140737488355328 := by omega
  have hxM : x.size ≤ maxLen := by unfold maxLen; omega
  have hyM : y.size ≤ maxLen := by unfold maxLen; omega
  have HR : Hid (addrR s.data.toList = if locB x.data.toList && domB y.data.toList then (x.data.toList, Lib.toLowerA y.data.toList, true) else ([], [], false)) := by
    show _ = _
    rw [addrR, hc]
  clear hl hc
  have hm1 : (w.drewN n).cell? ⟨0, 0, none⟩ = some (.int .i64 m) := by simpa using hm
  cases hL : locB x.data.toList with
  | false =>
    go_wp2_with (go_at_call 25; refine (isLocal_any _ m _ hxM hm1).mono ?_; rintro e w' ⟨rfl, rfl⟩)
    go_ret3
    exact AddrPost.mk _ _ _ rfl (by rw [HR.out, hL]; rfl) (below_drewN _ _ _)
  | true =>
    cases hD : domB y.data.toList with
    | false =>
      go_wp2_with (first | (go_at_call 25; refine (isLocal_any _ m _ hxM hm1).mono ?_; rintro e w' ⟨rfl, rfl⟩) | fail)
      refine (isDomain_any y m _ hyM hm1).mono ?_
      rintro e w1 ⟨rfl, hb⟩
      rw [hD]
      go_wp2_with fail
      go_ret3
      exact AddrPost.mk _ _ _ rfl (by rw [HR.out, hL, hD]; rfl) ((below_drewN _ _ _).trans (by simpa using hb))
    | true =>
      have hy40 : y.size ≤ 40 := by have := domB_len _ hD; rwa [size_of_toList] at this
      have HA := Lib.hid (dom_ascii _ hD)
      go_wp2_with (first | (go_at_call 25; refine (isLocal_any _ m _ hxM hm1).mono ?_; rintro e w' ⟨rfl, rfl⟩) | fail)
      refine (isDomain_any y m _ hyM hm1).mono ?_
      rintro e w1 ⟨rfl, hb⟩
      rw [hD]
      go_wp2_with fail
      refine (clone_any x _ hx).mono ?_
      rintro e w2 ⟨rfl, hb2⟩
      go_wp2_with fail
      refine (smallLetters_any y _ hy40 HA.out).mono ?_
      rintro e w3 ⟨rfl, hb3⟩
      go_wp2_with fail
      go_ret3
      have hb' : Below w.heap.size w w1 := (below_drewN _ _ _).trans (by simpa using hb)
      exact AddrPost.mk _ _ _ rfl (by rw [HR.out, hL, hD]; rfl) (hb'.trans ((hb2.trans (hb3.mono hb2.size)).mono hb'.size))
end Go.Proofs.YtnfhdbmmoicilaaDoor
