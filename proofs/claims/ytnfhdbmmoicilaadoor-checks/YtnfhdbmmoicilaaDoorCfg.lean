/- Rows in memory that a slice reads; settings as data. -/
import Derived.Test.YtnfhdbmmoicilaaDoorAddr3
import Derived.Test.YtnfhdbmmoicilaaDoorRefDom
namespace Go.Proofs.YtnfhdbmmoicilaaDoor
open Go.RowKit

/-- a slice of n elements of sz cells each, which hold cs -/
def RowAt (w : World) (v : Value) (n sz : Nat) (cs : List Value) : Prop :=
  cs.length = n * sz ∧ ((n = 0 ∧ ∃ a cap, v = .slice a 0 cap) ∨ ∃ b off cap, v = .slice (some ⟨b, off, none⟩) n cap ∧ n ≤ cap ∧ ∀ j : Nat, j < n * sz → w.cell? ⟨b, off + j, none⟩ = cs[j]?)

theorem block_lt {w : World} {b o : Nat} {v : Value} (h : w.cell? ⟨b, o, none⟩ = some v) : b < w.heap.size := by
  rcases Nat.lt_or_ge b w.heap.size with h' | h'
  · exact h'
  · simp [World.cell?, Array.getElem?_eq_none h'] at h

theorem RowAt.below {w w' : World} {v : Value} {n sz : Nat} {cs : List Value} (h : RowAt w v n sz cs) (hb : Below w.heap.size w w') : RowAt w' v n sz cs := by
  obtain ⟨hl, h | ⟨b, off, cap, hv, hcp, hc⟩⟩ := h
  · exact ⟨hl, .inl h⟩
  · refine ⟨hl, .inr ⟨b, off, cap, hv, hcp, fun j hj => ?_⟩⟩
    have h1 := hc j hj
    have hj' : j < cs.length := by omega
    rw [List.getElem?_eq_getElem hj'] at h1 ⊢
    rw [← h1]
    exact hb.cell (p := ⟨b, off + j, none⟩) (block_lt h1)

/-- the slice's shape: its address and how many it holds -/
theorem RowAt.shape {w : World} {v : Value} {n sz : Nat} {cs : List Value} (h : RowAt w v n sz cs) : ∃ a cap, v = .slice a n cap ∧ ∀ (k i : Nat), k < n → i < sz → ∃ b off, a = some ⟨b, off, none⟩ ∧ b < w.heap.size ∧ w.cell? ⟨b, off + (k * sz + i), none⟩ = cs[k * sz + i]? := by
  obtain ⟨hl, ⟨rfl, a, cap, rfl⟩ | ⟨b, off, cap, rfl, _, hc⟩⟩ := h
  · exact ⟨a, cap, rfl, fun k i hk => by omega⟩
  · refine ⟨_, cap, rfl, fun k i hk hi => ?_⟩
    have hj : k * sz + i < n * sz := by
      have : (k + 1) * sz ≤ n * sz := Nat.mul_le_mul_right _ hk
      rw [Nat.add_mul] at this; omega
    refine ⟨b, off, rfl, ?_, hc _ hj⟩
    have h1 := hc _ hj
    rw [List.getElem?_eq_getElem (by omega)] at h1
    exact block_lt h1

theorem RowAt.cap {w : World} {a : Option Addr} {n m cap sz : Nat} {cs : List Value} (h : RowAt w (.slice a n cap) m sz cs) : m ≤ cap := by
  obtain ⟨_, ⟨rfl, _⟩ | ⟨b, off, cap', hv, hcp, _⟩⟩ := h
  · exact Nat.zero_le _
  · injection hv with _ _ e
    omega

theorem RowAt.one {w : World} {v : Value} {n : Nat} {cs : List Value} (h : RowAt w v n 1 cs) : ∃ a cap, v = .slice a n cap ∧ ∀ k : Nat, k < n → ∃ b off, a = some ⟨b, off, none⟩ ∧ b < w.heap.size ∧ w.cell? ⟨b, off + k, none⟩ = cs[k]? := by
  obtain ⟨a, cap, hv, hc⟩ := h.shape
  refine ⟨a, cap, hv, fun k hk => ?_⟩
  have := hc k 0 hk (by decide)
  simpa using this

def within (n a b : Int) : Bool := decide (a ≤ n) && decide (n ≤ b)
theorem ret_of {a b : Bool} (h : b = a) : Ending.returned (.bool a) = .returned (.bool b) := by rw [h]

set_option maxHeartbeats 400000 in
theorem isWithin_any (n a b : Int) (w : World) : Calls Tryd.prog 35 #[.int .i64 n, .int .i64 a, .int .i64 b] w fun e w' => e = .returned (.bool (within n a b)) ∧ w = w' := by
  by_cases h1 : a ≤ n
  · by_cases h2 : n ≤ b
    · go_enter Tryd.func35, Tryd.ntmps35
      go_wp2
      go_ret
      exact ⟨ret_of (by simp [within, h1, h2]), rfl⟩
    · have hd : decide (n ≤ b) = false := by simpa using h2
      go_enter Tryd.func35, Tryd.ntmps35
      go_wp2
      all_goals (go_ret; exact ⟨ret_of (by rw [within, hd, Bool.and_false]), rfl⟩)
  · have hd : decide (a ≤ n) = false := by simpa using h1
    go_enter Tryd.func35, Tryd.ntmps35
    go_wp2
    all_goals (go_ret; exact ⟨ret_of (by rw [within, hd]; rfl), rfl⟩)

/-- a name or a word of a user -/
def textB (l : List UInt8) : Bool := within l.length 1 20 && decide (Lib.indexByte l 0 < 0)

set_option maxHeartbeats 400000 in
theorem isUserText_any (s : ByteArray) (w : World) (hs : s.size ≤ maxLen) : Calls Tryd.prog 50 #[.string s] w fun e w' => e = .returned (.bool (textB s.data.toList)) ∧ w = w' := by
  have hs1 := hs
  unfold maxLen at hs1
  have HT : Hid (textB s.data.toList = (within s.size 1 20 && decide (Lib.indexByte s.data.toList 0 < 0))) := by
    show _ = _
    rw [textB, size_of_toList]
  cases h1 : within (s.size : Int) 1 20 with
  | false =>
    go_enter Tryd.func50, Tryd.ntmps50
    go_wp2_with (go_at_call 35; refine (isWithin_any _ _ _ _).mono ?_; rintro e w' ⟨rfl, rfl⟩)
    go_ret
    exact ⟨ret_of (by rw [HT.out, h1]; rfl), rfl⟩
  | true =>
    cases h2 : decide (Lib.indexByte s.data.toList 0 < 0) with
    | false =>
      go_enter Tryd.func50, Tryd.ntmps50
      go_wp2_with (first | (go_at_call 35; refine (isWithin_any _ _ _ _).mono ?_; rintro e w' ⟨rfl, rfl⟩) | (go_at_call 57; refine (indexByte_any s 0 _).mono ?_; rintro e w' ⟨rfl, rfl⟩))
      go_ret
      exact ⟨ret_of (by rw [HT.out, h1, h2]; rfl), rfl⟩
    | true =>
      go_enter Tryd.func50, Tryd.ntmps50
      go_wp2_with (first | (go_at_call 35; refine (isWithin_any _ _ _ _).mono ?_; rintro e w' ⟨rfl, rfl⟩) | (go_at_call 57; refine (indexByte_any s 0 _).mono ?_; rintro e w' ⟨rfl, rfl⟩))
      go_ret
      exact ⟨ret_of (by rw [HT.out, h1, h2]; rfl), rfl⟩

/-- all waits may be -/
def waitsB (l : List Int) : Bool := within l.length 1 5 && l.all fun x => within x 1 1000000000
def intCells (l : List Int) : List Value := l.map (Value.int .i64)

set_option maxHeartbeats 400000 in
theorem waitsMayBe_any (v : Value) (l : List Int) (w : World) (h : RowAt w v l.length 1 (intCells l)) (hl : l.length ≤ 140737488351232) :
    Calls Tryd.prog 36 #[v] w fun e w' => e = .returned (.bool (waitsB l)) ∧ w = w' := by
  obtain ⟨a, cap, rfl, hc⟩ := h.one
  have HC := Lib.hid hc
  clear hc h
  cases h1 : within (l.length : Int) 1 5 with
  | false =>
    go_enter Tryd.func36, Tryd.ntmps36
    go_wp2_with (go_at_call 35; refine (isWithin_any _ _ _ _).mono ?_; rintro e w' ⟨rfl, rfl⟩)
    go_ret
    exact ⟨ret_of (by rw [waitsB, h1]; rfl), rfl⟩
  | true =>
    go_enter Tryd.func36, Tryd.ntmps36
    go_wp2_with (go_at_call 35; refine (isWithin_any _ _ _ _).mono ?_; rintro e w' ⟨rfl, rfl⟩)
    go_loop [11] (fun i => ∃ k : Nat, k ≤ l.length ∧ i = .int .i64 k ∧ Hid (∀ j : Nat, j < k → within (l.getD j 0) 1 1000000000 = true)) (fun i => l.length - (intOf i).toNat)
    case atStart => exact ⟨0, Nat.zero_le _, rfl, fun j hj => by omega⟩
    case round =>
      obtain ⟨k, hk, rfl, HN⟩ := hrel
      by_cases hlt : k < l.length
      · obtain ⟨b, off, rfl, hbl, hck⟩ := HC.out k hlt
        obtain ⟨x, hx⟩ : ∃ x, l.getD k 0 = x := ⟨_, rfl⟩
        have hck' : w.cell? ⟨b, off + k, none⟩ = some (.int .i64 x) := by
          rw [hck, intCells, List.getElem?_map, List.getElem?_eq_getElem hlt, ← hx, List.getD_eq_getElem?_getD, List.getElem?_eq_getElem hlt]; rfl
        have HX := Lib.hid hx
        clear hck hx HC
        cases hw : within x 1 1000000000 with
        | true =>
          go_wp2_with (go_at_call 35; refine (isWithin_any _ _ _ _).mono ?_; rintro e w' ⟨rfl, rfl⟩)
          refine ⟨⟨k + 1, by omega, by go_num, fun j hj => ?_⟩, by simp [intOf]; omega⟩
          by_cases e : j < k
          · exact HN.out j e
          · rw [show j = k by omega, HX.out, hw]
        | false =>
          go_wp2_with (go_at_call 35; refine (isWithin_any _ _ _ _).mono ?_; rintro e w' ⟨rfl, rfl⟩)
          go_ret
          refine ⟨ret_of ?_, rfl⟩
          rw [waitsB, h1, Bool.true_and]
          cases e : l.all (fun x => within x 1 1000000000) with
          | false => rfl
          | true =>
            rw [List.all_eq_true] at e
            have := e x (by rw [← HX.out, List.getD_eq_getElem?_getD, List.getElem?_eq_getElem hlt]; exact List.getElem_mem hlt)
            rw [hw] at this; cases this
      · go_wp2
        go_ret
        refine ⟨ret_of ?_, rfl⟩
        rw [waitsB, h1, Bool.true_and, List.all_eq_true]
        intro x hx
        obtain ⟨j, hj, rfl⟩ := List.mem_iff_getElem.1 hx
        have := HN.out j (by omega)
        rwa [List.getD_eq_getElem?_getD, List.getElem?_eq_getElem hj] at this
end Go.Proofs.YtnfhdbmmoicilaaDoor
