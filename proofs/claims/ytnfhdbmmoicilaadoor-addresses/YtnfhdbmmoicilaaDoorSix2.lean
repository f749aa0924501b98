/- The program's letters of six bits: the letters of a group. -/
import Derived.Test.YtnfhdbmmoicilaaDoorSix
import Derived.Lib.Hide
import Derived.Laws.BitsAllLaws
namespace Go.Proofs.YtnfhdbmmoicilaaDoor
open Go.RowKit

/-- the bits of the first k letters -/
def wsum (l : List UInt8) : Nat → Nat
  | 0 => 0
  | k + 1 => wsum l k + (val (l.getD k 0)).getD 0 * 2 ^ (18 - 6 * k)

theorem val_lt (c : UInt8) : (val c).getD 0 < 64 := by
  cases h : val c with
  | none => decide
  | some k => exact (let6_val h).1

theorem wsum_top (l : List UInt8) (k : Nat) (h : k ≤ 4) : ∃ m, wsum l k = m * 2 ^ (24 - 6 * k) ∧ wsum l k < 16777216 := by
  have h0 := val_lt (l.getD 0 0)
  have h1 := val_lt (l.getD 1 0)
  have h2 := val_lt (l.getD 2 0)
  have h3 := val_lt (l.getD 3 0)
  have hk : k = 0 ∨ k = 1 ∨ k = 2 ∨ k = 3 ∨ k = 4 := by omega
  rcases hk with rfl | rfl | rfl | rfl | rfl
  · exact ⟨0, by simp [wsum], by simp [wsum]⟩
  · refine ⟨(val (l.getD 0 0)).getD 0, ?_, ?_⟩ <;> simp only [wsum] <;> omega
  · refine ⟨(val (l.getD 0 0)).getD 0 * 64 + (val (l.getD 1 0)).getD 0, ?_, ?_⟩ <;> simp only [wsum] <;> omega
  · refine ⟨((val (l.getD 0 0)).getD 0 * 64 + (val (l.getD 1 0)).getD 0) * 64 + (val (l.getD 2 0)).getD 0, ?_, ?_⟩ <;> simp only [wsum] <;> omega
  · refine ⟨wsum l 4, by omega, ?_⟩
    simp only [wsum]; omega

theorem or_top (m q k : Nat) (hq : q < 64) (hk : k ≤ 3) (hV : m * 2 ^ (24 - 6 * k) < 16777216) :
    bits BinOp.or IntKind.u32 ((m * 2 ^ (24 - 6 * k) : Nat) : Int) ((q : Int) * 2 ^ (18 - 6 * k) % 4294967296) = ((m * 2 ^ (24 - 6 * k) + q * 2 ^ (18 - 6 * k) : Nat) : Int) := by
  have hx : q * 2 ^ (18 - 6 * k) < 2 ^ (24 - 6 * k) := by
    rw [show 24 - 6 * k = 6 + (18 - 6 * k) by omega, Nat.pow_add]
    exact Nat.mul_lt_mul_of_pos_right hq (Nat.pow_pos (by decide))
  have hx2 : q * 2 ^ (18 - 6 * k) < 16777216 := by
    refine Nat.lt_of_lt_of_le hx ?_
    have : (16777216 : Nat) = 2 ^ 24 := rfl
    rw [this]
    exact Nat.pow_le_pow_right (by decide) (by omega)
  have e : ((q : Int) * 2 ^ (18 - 6 * k) % 4294967296) = ((q * 2 ^ (18 - 6 * k) : Nat) : Int) := by
    rw [Int.natCast_mul, Int.natCast_pow]
    refine Int.emod_eq_of_lt ?_ ?_
    · have : (0 : Int) ≤ ((q * 2 ^ (18 - 6 * k) : Nat) : Int) := Int.natCast_nonneg _
      rw [Int.natCast_mul, Int.natCast_pow] at this; exact this
    · have : ((q * 2 ^ (18 - 6 * k) : Nat) : Int) < 4294967296 := by omega
      rw [Int.natCast_mul, Int.natCast_pow] at this; exact this
  rw [e, u32_or_nat _ _ (by omega) (by omega)]
  congr 1
  rw [← Nat.shiftLeft_eq m, Nat.shiftLeft_add_eq_or_of_lt hx]

def WordPost (l : List UInt8) (w : World) (e : Ending) (w' : World) : Prop :=
  (if l.all (fun c => (val c).isSome) then e = .returned (.tuple #[.int .u32 (wsum l l.length : Nat), .bool true]) else e = .returned (.tuple #[.int .u32 0, .bool false])) ∧ w' = w
theorem WordPost.yes {l : List UInt8} {w : World} {e : Ending} {w' : World} (h : l.all (fun c => (val c).isSome) = true) (he : e = .returned (.tuple #[.int .u32 (wsum l l.length : Nat), .bool true])) (hw : w' = w) : WordPost l w e w' := ⟨by rw [h]; exact he, hw⟩
theorem WordPost.no {l : List UInt8} {w : World} {e : Ending} {w' : World} (h : l.all (fun c => (val c).isSome) = false) (he : e = .returned (.tuple #[.int .u32 0, .bool false])) (hw : w' = w) : WordPost l w e w' := ⟨by rw [h]; exact he, hw⟩

theorem ret_u32 {a b : Int} {f : Bool} (h : a = b) : Ending.returned (.tuple #[.int .u32 a, .bool f]) = .returned (.tuple #[.int .u32 b, .bool f]) := by rw [h]

set_option maxHeartbeats 400000 in
set_option maxRecDepth 100000 in
theorem readLetters_any (s : ByteArray) (w : World) (hs : s.size ≤ 4) :
    Calls Tryd.prog 47 #[.string s] w (WordPost s.data.toList w) := by
  go_enter Tryd.func47, Tryd.ntmps47
  go_wp2
  go_loop [4, 10] (fun v i => ∃ k V : Nat, k ≤ s.size ∧ i = .int .i64 k ∧ v = .int .u32 V ∧ Hid (wsum s.data.toList k = V) ∧ Hid (∀ j : Nat, j < k → (val (s.data.toList.getD j 0)).isSome = true)) (fun _ i => s.size - (intOf i).toNat)
  case atStart => exact ⟨0, 0, Nat.zero_le _, rfl, rfl, rfl, fun j hj => by omega⟩
  case round =>
    obtain ⟨k, V, hk, rfl, rfl, HV, HN⟩ := hrel
    by_cases hlt : k < s.size
    · have hg : Hid (s.data.toList.getD k 0 = s[k]) := getD_of s k hlt
      obtain ⟨o, ho⟩ : ∃ o, val s[k] = o := ⟨_, rfl⟩
      have HO := Lib.hid ho
      clear ho
      have hv24 : (V : Int) < 16777216 := by
        obtain ⟨_, _, h⟩ := wsum_top s.data.toList k (by omega)
        rw [HV.out] at h; omega
      have hk3 : (k : Int) ≤ 3 := by omega
      go_wp2_with fail
      refine (letterValue_any _ _).mono ?_
      rintro e w' ⟨rfl, rfl⟩
      rw [HO.out]
      cases o with
      | none =>
        simp only [Option.getD_none, Option.isSome_none]
        go_wp2_with fail
        go_ret2
        exact WordPost.no (all_no (p := fun c => (val c).isSome) (k := k) (by rw [size_of_toList]; exact hlt) (by rw [hg.out, HO.out]; rfl)) rfl rfl
      | some q =>
        have hq : (q : Int) < 64 := by have := (let6_val HO.out).1; omega
        simp only [Option.getD_some, Option.isSome_some]
        go_wp2_with fail
        refine ⟨⟨k + 1, wsum s.data.toList (k + 1), by omega, by go_num, ?_, rfl, ok_succ (p := fun c => (val c).isSome) HN.out hg.out (by rw [HO.out]; rfl)⟩, by simp [intOf]; omega⟩
        obtain ⟨m, h1, h2⟩ := wsum_top s.data.toList k (by omega)
        rw [wsum, hg.out, HO.out, Option.getD_some, ← HV.out, h1, or_top m q k (by omega) (by omega) (by rw [← h1]; exact h2)]
    · have hks : Hid (k = s.data.toList.length) := by
        show _ = _
        rw [size_of_toList]; omega
      go_wp2
      go_ret2
      exact WordPost.yes (all_of (p := fun c => (val c).isSome) (fun j hj => HN.out j (by rw [hks.out]; exact hj))) (by rw [← hks.out, HV.out]; rfl) rfl
end Go.Proofs.YtnfhdbmmoicilaaDoor
