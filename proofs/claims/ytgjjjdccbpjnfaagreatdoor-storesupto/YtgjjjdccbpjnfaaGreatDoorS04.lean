import Derived.Test.YtgjjjdccbpjnfaaGreatDoorS03
import Derived.Test.YtgjjjdccbpjnfaaGreatDoorS02
import Derived.Laws.BitsAllLaws
import Derived.Deep.QuietTactic
import Derived.BigQuiet
import Derived.Deep.RegionWith

/- Rows in memory that a slice reads; settings as data. -/
namespace Go.Proofs.YtgjjjdccbpjnfaaGreatDoor
open Go.RowKit

/-- a slice of n elements of sz cells each, which hold cs -/
def RowAt (w : World) (v : Value) (n sz : Nat) (cs : List Value) : Prop :=
  cs.length = n * sz ∧ ((n = 0 ∧ ∃ a cap, v = .slice a 0 cap) ∨ ∃ b off cap, v = .slice (some ⟨b, off, none⟩) n cap ∧ n ≤ cap ∧ ∀ j : Nat, j < n * sz → w.cell? ⟨b, off + j, none⟩ = cs[j]?)

theorem block_lt {w : World} {b o : Nat} {v : Value} (h : w.cell? ⟨b, o, none⟩ = some v) : b < w.heap.size := by
  rcases Nat.lt_or_ge b w.heap.size with h' | h'
  · exact h'
  · simp [World.cell?, Array.getElem?_eq_none h'] at h

theorem RowAt.below {w w' : World} {v : Value} {n sz : Nat} {cs : List Value} (h : RowAt w v n sz cs) (hb : Below w.heap.size w w') : RowAt w' v n sz cs := by
  obtain ⟨hl, h | ⟨b, off, cap, hv, hcp, hc⟩⟩ := h
  · exact ⟨hl, .inl h⟩
  · refine ⟨hl, .inr ⟨b, off, cap, hv, hcp, fun j hj => ?_⟩⟩
    have h1 := hc j hj
    have hj' : j < cs.length := by omega
    rw [List.getElem?_eq_getElem hj'] at h1 ⊢
    rw [← h1]
    exact hb.cell (p := ⟨b, off + j, none⟩) (block_lt h1)

/-- the slice's shape: its address and how many it holds -/
theorem RowAt.shape {w : World} {v : Value} {n sz : Nat} {cs : List Value} (h : RowAt w v n sz cs) : ∃ a cap, v = .slice a n cap ∧ ∀ (k i : Nat), k < n → i < sz → ∃ b off, a = some ⟨b, off, none⟩ ∧ b < w.heap.size ∧ w.cell? ⟨b, off + (k * sz + i), none⟩ = cs[k * sz + i]? := by
  obtain ⟨hl, ⟨rfl, a, cap, rfl⟩ | ⟨b, off, cap, rfl, _, hc⟩⟩ := h
  · exact ⟨a, cap, rfl, fun k i hk => by omega⟩
  · refine ⟨_, cap, rfl, fun k i hk hi => ?_⟩
    have hj : k * sz + i < n * sz := by
      have : (k + 1) * sz ≤ n * sz := Nat.mul_le_mul_right _ hk
      rw [Nat.add_mul] at this; omega
    refine ⟨b, off, rfl, ?_, hc _ hj⟩
    have h1 := hc _ hj
    rw [List.getElem?_eq_getElem (by omega)] at h1
    exact block_lt h1

theorem RowAt.cap {w : World} {a : Option Addr} {n m cap sz : Nat} {cs : List Value} (h : RowAt w (.slice a n cap) m sz cs) : m ≤ cap := by
  obtain ⟨_, ⟨rfl, _⟩ | ⟨b, off, cap', hv, hcp, _⟩⟩ := h
  · exact Nat.zero_le _
  · injection hv with _ _ e
    omega

theorem RowAt.one {w : World} {v : Value} {n : Nat} {cs : List Value} (h : RowAt w v n 1 cs) : ∃ a cap, v = .slice a n cap ∧ ∀ k : Nat, k < n → ∃ b off, a = some ⟨b, off, none⟩ ∧ b < w.heap.size ∧ w.cell? ⟨b, off + k, none⟩ = cs[k]? := by
  obtain ⟨a, cap, hv, hc⟩ := h.shape
  refine ⟨a, cap, hv, fun k hk => ?_⟩
  have := hc k 0 hk (by decide)
  simpa using this

def within (n a b : Int) : Bool := decide (a ≤ n) && decide (n ≤ b)
theorem ret_of {a b : Bool} (h : b = a) : Ending.returned (.bool a) = .returned (.bool b) := by rw [h]

set_option maxHeartbeats 400000 in
theorem isWithin_any (n a b : Int) (w : World) : Calls Tryz.prog 66 #[.int .i64 n, .int .i64 a, .int .i64 b] w fun e w' => e = .returned (.bool (within n a b)) ∧ w = w' := by
  by_cases h1 : a ≤ n
  · by_cases h2 : n ≤ b
    · go_enter Tryz.func66, Tryz.ntmps66
      go_wp2
      go_ret
      exact ⟨ret_of (by simp [within, h1, h2]), rfl⟩
    · have hd : decide (n ≤ b) = false := by simpa using h2
      go_enter Tryz.func66, Tryz.ntmps66
      go_wp2
      all_goals (go_ret; exact ⟨ret_of (by rw [within, hd, Bool.and_false]), rfl⟩)
  · have hd : decide (a ≤ n) = false := by simpa using h1
    go_enter Tryz.func66, Tryz.ntmps66
    go_wp2
    all_goals (go_ret; exact ⟨ret_of (by rw [within, hd]; rfl), rfl⟩)

/-- a name or a word of a user -/
def textB (l : List UInt8) : Bool := within l.length 1 20 && decide (Lib.indexByte l 0 < 0)

set_option maxHeartbeats 400000 in
theorem isUserText_any (s : ByteArray) (w : World) (hs : s.size ≤ maxLen) : Calls Tryz.prog 108 #[.string s] w fun e w' => e = .returned (.bool (textB s.data.toList)) ∧ w = w' := by
  have hs1 := hs
  unfold maxLen at hs1
  have HT : Hid (textB s.data.toList = (within s.size 1 20 && decide (Lib.indexByte s.data.toList 0 < 0))) := by
    show _ = _
    rw [textB, size_of_toList]
  cases h1 : within (s.size : Int) 1 20 with
  | false =>
    go_enter Tryz.func108, Tryz.ntmps108
    go_wp2_with (go_at_call 66; refine (isWithin_any _ _ _ _).mono ?_; rintro e w' ⟨rfl, rfl⟩)
    go_ret
    exact ⟨ret_of (by rw [HT.out, h1]; rfl), rfl⟩
  | true =>
    cases h2 : decide (Lib.indexByte s.data.toList 0 < 0) with
    | false =>
      go_enter Tryz.func108, Tryz.ntmps108
      go_wp2_with (first | (go_at_call 66; refine (isWithin_any _ _ _ _).mono ?_; rintro e w' ⟨rfl, rfl⟩) | (go_at_call 163; refine (indexByte_any s 0 _).mono ?_; rintro e w' ⟨rfl, rfl⟩))
      go_ret
      exact ⟨ret_of (by rw [HT.out, h1, h2]; rfl), rfl⟩
    | true =>
      go_enter Tryz.func108, Tryz.ntmps108
      go_wp2_with (first | (go_at_call 66; refine (isWithin_any _ _ _ _).mono ?_; rintro e w' ⟨rfl, rfl⟩) | (go_at_call 163; refine (indexByte_any s 0 _).mono ?_; rintro e w' ⟨rfl, rfl⟩))
      go_ret
      exact ⟨ret_of (by rw [HT.out, h1, h2]; rfl), rfl⟩

/-- all waits may be -/
def waitsB (l : List Int) : Bool := within l.length 1 5 && l.all fun x => within x 1 1000000000
def intCells (l : List Int) : List Value := l.map (Value.int .i64)

set_option maxHeartbeats 400000 in
theorem waitsMayBe_any (v : Value) (l : List Int) (w : World) (h : RowAt w v l.length 1 (intCells l)) (hl : l.length ≤ 140737488351232) :
    Calls Tryz.prog 67 #[v] w fun e w' => e = .returned (.bool (waitsB l)) ∧ w = w' := by
  obtain ⟨a, cap, rfl, hc⟩ := h.one
  have HC := Lib.hid hc
  clear hc h
  cases h1 : within (l.length : Int) 1 5 with
  | false =>
    go_enter Tryz.func67, Tryz.ntmps67
    go_wp2_with (go_at_call 66; refine (isWithin_any _ _ _ _).mono ?_; rintro e w' ⟨rfl, rfl⟩)
    go_ret
    exact ⟨ret_of (by rw [waitsB, h1]; rfl), rfl⟩
  | true =>
    go_enter Tryz.func67, Tryz.ntmps67
    go_wp2_with (go_at_call 66; refine (isWithin_any _ _ _ _).mono ?_; rintro e w' ⟨rfl, rfl⟩)
    go_loop [11] (fun i => ∃ k : Nat, k ≤ l.length ∧ i = .int .i64 k ∧ Hid (∀ j : Nat, j < k → within (l.getD j 0) 1 1000000000 = true)) (fun i => l.length - (intOf i).toNat)
    case atStart => exact ⟨0, Nat.zero_le _, rfl, fun j hj => by omega⟩
    case round =>
      obtain ⟨k, hk, rfl, HN⟩ := hrel
      by_cases hlt : k < l.length
      · obtain ⟨b, off, rfl, hbl, hck⟩ := HC.out k hlt
        obtain ⟨x, hx⟩ : ∃ x, l.getD k 0 = x := ⟨_, rfl⟩
        have hck' : w.cell? ⟨b, off + k, none⟩ = some (.int .i64 x) := by
          rw [hck, intCells, List.getElem?_map, List.getElem?_eq_getElem hlt, ← hx, List.getD_eq_getElem?_getD, List.getElem?_eq_getElem hlt]; rfl
        have HX := Lib.hid hx
        clear hck hx HC
        cases hw : within x 1 1000000000 with
        | true =>
          go_wp2_with (go_at_call 66; refine (isWithin_any _ _ _ _).mono ?_; rintro e w' ⟨rfl, rfl⟩)
          refine ⟨⟨k + 1, by omega, by go_num, fun j hj => ?_⟩, by simp [intOf]; omega⟩
          by_cases e : j < k
          · exact HN.out j e
          · rw [show j = k by omega, HX.out, hw]
        | false =>
          go_wp2_with (go_at_call 66; refine (isWithin_any _ _ _ _).mono ?_; rintro e w' ⟨rfl, rfl⟩)
          go_ret
          refine ⟨ret_of ?_, rfl⟩
          rw [waitsB, h1, Bool.true_and]
          cases e : l.all (fun x => within x 1 1000000000) with
          | false => rfl
          | true =>
            rw [List.all_eq_true] at e
            have := e x (by rw [← HX.out, List.getD_eq_getElem?_getD, List.getElem?_eq_getElem hlt]; exact List.getElem_mem hlt)
            rw [hw] at this; cases this
      · go_wp2
        go_ret
        refine ⟨ret_of ?_, rfl⟩
        rw [waitsB, h1, Bool.true_and, List.all_eq_true]
        intro x hx
        obtain ⟨j, hj, rfl⟩ := List.mem_iff_getElem.1 hx
        have := HN.out j (by omega)
        rwa [List.getD_eq_getElem?_getD, List.getElem?_eq_getElem hj] at this
end Go.Proofs.YtgjjjdccbpjnfaaGreatDoor

/- The program's settings: domains, nets. -/
namespace Go.Proofs.YtgjjjdccbpjnfaaGreatDoor
open Go.RowKit

def strCellsOf (l : List ByteArray) : List Value := l.map Value.string
def domsB (l : List ByteArray) : Bool := decide (l.length ≤ 5) && l.all fun s => domB s.data.toList

def BPost (b : Bool) (w : World) (e : Ending) (w' : World) : Prop := e = .returned (.bool b) ∧ Below w.heap.size w w'
theorem BPost.mk {b : Bool} {w : World} {e : Ending} {w' : World} (c : Bool) (he : e = .returned (.bool c)) (hc : b = c) (hw : Below w.heap.size w w') : BPost b w e w' := ⟨by rw [he, hc], hw⟩

theorem all_no_at {α : Type} {p : α → Bool} {l : List α} {k : Nat} (hk : k < l.length) (h : p l[k] = false) : l.all p = false := by
  cases e : l.all p with
  | false => rfl
  | true =>
    rw [List.all_eq_true] at e
    have := e l[k] (List.getElem_mem hk)
    rw [h] at this; cases this
theorem all_of_at {α : Type} {p : α → Bool} {l : List α} (h : ∀ (j : Nat) (hj : j < l.length), p l[j] = true) : l.all p = true := by
  rw [List.all_eq_true]
  intro x hx
  obtain ⟨j, hj, rfl⟩ := List.mem_iff_getElem.1 hx
  exact h j hj
theorem at_succ {α : Type} {p : α → Bool} {l : List α} {k : Nat} (hk : k < l.length) (hn : ∀ (j : Nat) (hj : j < l.length), j < k → p l[j] = true) (h : p l[k] = true) : ∀ (j : Nat) (hj : j < l.length), j < k + 1 → p l[j] = true := by
  intro j hj hjk
  by_cases e : j < k
  · exact hn j hj e
  · have : j = k := by omega
    subst this; exact h

set_option maxHeartbeats 400000 in
theorem domainsMayBe_any (v : Value) (l : List ByteArray) (m : Int) (w : World) (h : RowAt w v l.length 1 (strCellsOf l)) (hl : l.length ≤ 140737488351232) (hz : ∀ s ∈ l, s.size ≤ maxLen) (hm : w.cell? ⟨0, 0, none⟩ = some (.int .i64 m)) :
    Calls Tryz.prog 63 #[v] w (BPost (domsB l) w) := by
  obtain ⟨a, cap, rfl, hc⟩ := h.one
  have HC := Lib.hid hc
  have HZ := Lib.hid hz
  have h0 := block_lt hm
  clear hc h hz
  by_cases h5 : 5 < l.length
  · go_enter Tryz.func63, Tryz.ntmps63
    go_wp2
    go_ret
    exact BPost.mk false rfl (by simp [domsB]; intro h; omega) (Below.refl _ _)
  · have hb5 : decide (5 < (l.length : Int)) = false := by simp; omega
    have HD : Hid (domsB l = l.all fun s => domB s.data.toList) := by
      show _ = _
      rw [domsB, decide_eq_true (by omega), Bool.true_and]
    go_enter Tryz.func63, Tryz.ntmps63
    go_wp2
    go_loopw [10] (fun i w' => ∃ k : Nat, k ≤ l.length ∧ i = .int .i64 k ∧ Hid (∀ (j : Nat) (hj : j < l.length), j < k → domB l[j].data.toList = true) ∧ Below w.heap.size w w') (fun i _ => l.length - (intOf i).toNat)
    case atStart => exact ⟨0, Nat.zero_le _, rfl, (fun j hj hjk => by omega), Below.refl _ _⟩
    case round =>
      obtain ⟨k, hk, rfl, HN, hbel⟩ := hrel
      have HB := Lib.hid hbel
      by_cases hlt : k < l.length
      · obtain ⟨b, off, rfl, hbl, hck⟩ := HC.out k hlt
        have hck' : wr.cell? ⟨b, off + k, none⟩ = some (.string l[k]) := by
          rw [hbel.cell (p := ⟨b, off + k, none⟩) hbl, hck, strCellsOf, List.getElem?_map, List.getElem?_eq_getElem hlt]; rfl
        have hm' : wr.cell? ⟨0, 0, none⟩ = some (.int .i64 m) := (hbel.cell h0).trans hm
        have hsz := HZ.out l[k] (List.getElem_mem hlt)
        clear hck HC hbel
        cases hw : domB l[k].data.toList with
        | true =>
          go_wp2_with fail
          refine (isDomain_any _ m _ hsz hm').mono ?_
          rintro e w1 ⟨rfl, hb1⟩
          rw [hw]
          go_wp2_with fail
          exact ⟨⟨k + 1, by omega, by go_num, at_succ (p := fun s : ByteArray => domB s.data.toList) hlt HN.out hw, HB.out.trans (hb1.mono HB.out.size)⟩, by simp [intOf]; omega⟩
        | false =>
          go_wp2_with fail
          refine (isDomain_any _ m _ hsz hm').mono ?_
          rintro e w1 ⟨rfl, hb1⟩
          rw [hw]
          go_wp2_with fail
          go_ret
          exact BPost.mk false rfl (by rw [HD.out]; exact all_no_at (p := fun s : ByteArray => domB s.data.toList) hlt hw) (HB.out.trans (hb1.mono HB.out.size))
      · clear hbel
        go_wp2
        go_ret
        exact BPost.mk true rfl (by rw [HD.out]; exact all_of_at (p := fun s : ByteArray => domB s.data.toList) (fun j hj => HN.out j hj (by omega))) HB.out

/-- a net that may be -/
def netB (x : Int × Int) : Bool := within x.2 0 32 && within x.1 0 4294967295 && decide (x.1 % 2 ^ (32 - x.2).toNat = 0)
def netCells (l : List (Int × Int)) : List Value := l.flatMap fun x => [.int .i64 x.1, .int .i64 x.2]
def netsB (l : List (Int × Int)) : Bool := decide (l.length ≤ 5) && l.all netB

theorem and_mask (A n : Nat) (hA : A ≤ 4294967295) (hn : n ≤ 32) : bits .and .u64 (A : Int) ((2 : Int) ^ n - 1) = (((A % 2 ^ n : Nat)) : Int) := by
  have h1 : 1 ≤ 2 ^ n := Nat.one_le_two_pow
  have h2 : 2 ^ n ≤ 2 ^ 32 := Nat.pow_le_pow_right (by decide) hn
  have h3 : (2 : Nat) ^ 32 = 4294967296 := by decide
  have e : ((2 : Int) ^ n - 1) = ((2 ^ n - 1 : Nat) : Int) := by
    rw [Int.natCast_sub h1, Int.natCast_pow]; rfl
  rw [e, u64_and_nat _ _ (by omega) (by omega), Nat.and_two_pow_sub_one_eq_mod]

theorem net_mask (a l : Int) (a1 : 0 ≤ a) (a2 : a ≤ 4294967295) : decide (a % 2 ^ (32 - l).toNat = 0) = (bits BinOp.and IntKind.u64 a (IntKind.u64.wrap (IntKind.u64.wrap (2 ^ (32 - l).toNat) - 1)) == 0) ∨ 32 < (32 - l).toNat := by
  obtain ⟨A, rfl⟩ := Int.eq_ofNat_of_zero_le a1
  obtain ⟨n, hn⟩ : ∃ n, (32 - l).toNat = n := ⟨_, rfl⟩
  rw [hn]
  by_cases h : 32 < n
  · exact Or.inr h
  left
  have h1 : 1 ≤ 2 ^ n := Nat.one_le_two_pow
  have h2 : 2 ^ n ≤ 2 ^ 32 := Nat.pow_le_pow_right (by decide) (by omega)
  have h3 : (2 : Nat) ^ 32 = 4294967296 := by decide
  have e : ((2 : Int) ^ n) = ((2 ^ n : Nat) : Int) := by rw [Int.natCast_pow]; rfl
  have w1 : IntKind.u64.wrap (2 ^ n) = (2 : Int) ^ n := by rw [e, IntKind.wrap_u64]; omega
  have w2 : IntKind.u64.wrap ((2 : Int) ^ n - 1) = (2 : Int) ^ n - 1 := by rw [e, IntKind.wrap_u64]; omega
  rw [w1, w2, and_mask A n (by omega) (by omega), e, Bool.eq_iff_iff]
  simp only [decide_eq_true_eq, beq_iff_eq]
  omega
theorem net_at (l : List (Int × Int)) (k : Nat) (h : k < l.length) : (netCells l)[k * 2]? = some (.int .i64 l[k].1) := by
  induction l generalizing k with
  | nil => simp at h
  | cons x r ih =>
    cases k with
    | zero => rfl
    | succ k =>
      have := ih k (by simpa using h)
      rw [show (k + 1) * 2 = k * 2 + 1 + 1 by omega]
      simpa [netCells] using this
theorem net_at1 (l : List (Int × Int)) (k : Nat) (h : k < l.length) : (netCells l)[k * 2 + 1]? = some (.int .i64 l[k].2) := by
  induction l generalizing k with
  | nil => simp at h
  | cons x r ih =>
    cases k with
    | zero => rfl
    | succ k =>
      have := ih k (by simpa using h)
      rw [show (k + 1) * 2 + 1 = k * 2 + 1 + 1 + 1 by omega]
      simpa [netCells] using this

set_option maxHeartbeats 400000 in
theorem netMayBe_any (a l : Int) (w : World) : Calls Tryz.prog 107 #[.agg #[.int .i64 a, .int .i64 l]] w (BPost (netB (a, l)) w) := by
  cases h1 : within l 0 32 with
  | false =>
    go_enter Tryz.func107, Tryz.ntmps107
    go_wp2_with (go_at_call 66; refine (isWithin_any _ _ _ _).mono ?_; rintro e w' ⟨rfl, rfl⟩)
    go_ret
    exact BPost.mk false rfl (by simp [netB, h1]) ((Below.refl _ _).alloc (Nat.le_refl _) _)
  | true =>
    cases h2 : within a 0 4294967295 with
    | false =>
      go_enter Tryz.func107, Tryz.ntmps107
      go_wp2_with (go_at_call 66; refine (isWithin_any _ _ _ _).mono ?_; rintro e w' ⟨rfl, rfl⟩)
      go_ret
      exact BPost.mk false rfl (by simp [netB, h2]) ((Below.refl _ _).alloc (Nat.le_refl _) _)
    | true =>
      have l1 : 0 ≤ l := by simp [within] at h1; omega
      have l2 : l ≤ 32 := by simp [within] at h1; omega
      have a1 : 0 ≤ a := by simp [within] at h2; omega
      have a2 : a ≤ 4294967295 := by simp [within] at h2; omega
      go_enter Tryz.func107, Tryz.ntmps107
      go_wp2_with (go_at_call 66; refine (isWithin_any _ _ _ _).mono ?_; rintro e w' ⟨rfl, rfl⟩)
      go_ret
      refine BPost.mk _ rfl ?_ ((Below.refl _ _).alloc (Nat.le_refl _) _)
      rw [netB, h1, h2, Bool.true_and, Bool.true_and]
      exact (net_mask a l a1 a2).resolve_right (by omega)

set_option maxHeartbeats 400000 in
theorem netsMayBe_any (v : Value) (l : List (Int × Int)) (w : World) (h : RowAt w v l.length 2 (netCells l)) (hl : l.length ≤ 140737488351232) :
    Calls Tryz.prog 64 #[v] w (BPost (netsB l) w) := by
  obtain ⟨a, cap, rfl, hc⟩ := h.shape
  have HC := Lib.hid hc
  clear hc h
  by_cases h5 : 5 < l.length
  · go_enter Tryz.func64, Tryz.ntmps64
    go_wp2
    go_ret
    exact BPost.mk false rfl (by simp [netsB]; intro h; omega) (Below.refl _ _)
  · have hb5 : decide (5 < (l.length : Int)) = false := by simp; omega
    have HD : Hid (netsB l = l.all netB) := by
      show _ = _
      rw [netsB, decide_eq_true (by omega), Bool.true_and]
    go_enter Tryz.func64, Tryz.ntmps64
    go_wp2
    go_loopw [10] (fun i w' => ∃ k : Nat, k ≤ l.length ∧ i = .int .i64 k ∧ Hid (∀ (j : Nat) (hj : j < l.length), j < k → netB l[j] = true) ∧ Below w.heap.size w w') (fun i _ => l.length - (intOf i).toNat)
    case atStart => exact ⟨0, Nat.zero_le _, rfl, (fun j hj hjk => by omega), Below.refl _ _⟩
    case round =>
      obtain ⟨k, hk, rfl, HN, hbel⟩ := hrel
      have HB := Lib.hid hbel
      by_cases hlt : k < l.length
      · obtain ⟨b, off, rfl, hbl, hck⟩ := HC.out k 0 hlt (by decide)
        obtain ⟨b', off', e', _, hck1⟩ := HC.out k 1 hlt (by decide)
        obtain ⟨rfl, rfl⟩ : b' = b ∧ off' = off := by
          have := (Option.some.inj e').symm
          simp at this; exact this
        obtain ⟨x, hx⟩ : ∃ x, l[k] = x := ⟨_, rfl⟩
        have hc0 : wr.cell? ⟨b', off' + k * 2, none⟩ = some (.int .i64 x.1) := by
          rw [hbel.cell (p := ⟨b', off' + k * 2, none⟩) hbl]
          rw [Nat.add_zero] at hck
          rw [hck, net_at l k hlt, hx]
        have hc1 : wr.cell? ⟨b', off' + k * 2 + 1, none⟩ = some (.int .i64 x.2) := by
          rw [hbel.cell (p := ⟨b', off' + k * 2 + 1, none⟩) hbl]
          rw [← Nat.add_assoc] at hck1
          rw [hck1, net_at1 l k hlt, hx]
        have HX := Lib.hid hx
        clear hck hck1 HC hbel hx e'
        cases hw : netB x with
        | true =>
          have hw' : netB (x.1, x.2) = true := hw
          go_wp2_with fail
          refine (netMayBe_any _ _ _).mono ?_
          rintro e w1 ⟨rfl, hb1⟩
          rw [hw']
          have HB2 : Hid (Below w.heap.size w w1) := (HB.out.alloc HB.out.size _).trans (hb1.mono (by have := HB.out.size; simp; omega))
          clear hb1
          go_wp2_with fail
          exact ⟨⟨k + 1, by omega, by go_num, at_succ (p := netB) hlt HN.out (by rw [HX.out]; exact hw), HB2.out⟩, by simp [intOf]; omega⟩
        | false =>
          have hw' : netB (x.1, x.2) = false := hw
          go_wp2_with fail
          refine (netMayBe_any _ _ _).mono ?_
          rintro e w1 ⟨rfl, hb1⟩
          rw [hw']
          have HB2 : Hid (Below w.heap.size w w1) := (HB.out.alloc HB.out.size _).trans (hb1.mono (by have := HB.out.size; simp; omega))
          clear hb1
          go_wp2_with fail
          go_ret
          exact BPost.mk false rfl (by rw [HD.out]; exact all_no_at (p := netB) hlt (by rw [HX.out]; exact hw)) HB2.out
      · clear hbel
        go_wp2
        go_ret
        exact BPost.mk true rfl (by rw [HD.out]; exact all_of_at (p := netB) (fun j hj => HN.out j hj (by omega))) HB.out

/-- users -/
def userCells (l : List (ByteArray × ByteArray)) : List Value := l.flatMap fun x => [.string x.1, .string x.2]
theorem user_at (l : List (ByteArray × ByteArray)) (k : Nat) (h : k < l.length) : (userCells l)[k * 2]? = some (.string l[k].1) := by
  induction l generalizing k with
  | nil => simp at h
  | cons x r ih =>
    cases k with
    | zero => rfl
    | succ k =>
      have := ih k (by simpa using h)
      rw [show (k + 1) * 2 = k * 2 + 1 + 1 by omega]
      simpa [userCells] using this
theorem user_at1 (l : List (ByteArray × ByteArray)) (k : Nat) (h : k < l.length) : (userCells l)[k * 2 + 1]? = some (.string l[k].2) := by
  induction l generalizing k with
  | nil => simp at h
  | cons x r ih =>
    cases k with
    | zero => rfl
    | succ k =>
      have := ih k (by simpa using h)
      rw [show (k + 1) * 2 + 1 = k * 2 + 1 + 1 + 1 by omega]
      simpa [userCells] using this

def nameIn (l : List (ByteArray × ByteArray)) (s : ByteArray) : Bool := l.any fun x => x.1.toList == s.toList

set_option maxHeartbeats 400000 in
theorem hasName_any (v : Value) (l : List (ByteArray × ByteArray)) (s : ByteArray) (w : World) (h : RowAt w v l.length 2 (userCells l)) (hl : l.length ≤ 140737488351232) :
    Calls Tryz.prog 109 #[v, .string s] w (BPost (nameIn l s) w) := by
  obtain ⟨a, cap, rfl, hc⟩ := h.shape
  have HC := Lib.hid hc
  clear hc h
  go_enter Tryz.func109, Tryz.ntmps109
  go_wp2
  go_loopw [9] (fun i w' => ∃ k : Nat, k ≤ l.length ∧ i = .int .i64 k ∧ Hid (∀ (j : Nat) (hj : j < l.length), j < k → (l[j].1.toList == s.toList) = false) ∧ Below w.heap.size w w') (fun i _ => l.length - (intOf i).toNat)
  case atStart => exact ⟨0, Nat.zero_le _, rfl, (fun j hj hjk => by omega), Below.refl _ _⟩
  case round =>
    obtain ⟨k, hk, rfl, HN, hbel⟩ := hrel
    have HB := Lib.hid hbel
    by_cases hlt : k < l.length
    · obtain ⟨b, off, rfl, hbl, hck⟩ := HC.out k 0 hlt (by decide)
      obtain ⟨b', off', e', _, hck1⟩ := HC.out k 1 hlt (by decide)
      obtain ⟨rfl, rfl⟩ : b' = b ∧ off' = off := by
        have := (Option.some.inj e').symm
        simp at this; exact this
      obtain ⟨x, hx⟩ : ∃ x, l[k] = x := ⟨_, rfl⟩
      have hc0 : wr.cell? ⟨b', off' + k * 2, none⟩ = some (.string x.1) := by
        rw [hbel.cell (p := ⟨b', off' + k * 2, none⟩) hbl]
        rw [Nat.add_zero] at hck
        rw [hck, user_at l k hlt, hx]
      have hc1 : wr.cell? ⟨b', off' + k * 2 + 1, none⟩ = some (.string x.2) := by
        rw [hbel.cell (p := ⟨b', off' + k * 2 + 1, none⟩) hbl]
        rw [← Nat.add_assoc] at hck1
        rw [hck1, user_at1 l k hlt, hx]
      have HX := Lib.hid hx
      clear hck hck1 HC hbel hx e'
      have HB2 : ∀ o, Hid (Below w.heap.size w (wr.alloc o)) := fun o => HB.out.alloc HB.out.size o
      cases hw : (x.1.toList == s.toList) with
      | true =>
        go_wp2
        go_ret
        refine BPost.mk true rfl ?_ (HB2 _).out
        rw [nameIn, List.any_eq_true]
        exact ⟨l[k], List.getElem_mem hlt, by rw [HX.out]; exact hw⟩
      | false =>
        go_wp2
        exact ⟨⟨k + 1, by omega, by go_num, (fun j hj hjk => by
          by_cases e : j < k
          · exact HN.out j hj e
          · have : j = k := by omega
            subst this
            rw [HX.out]; exact hw), (HB2 _).out⟩, by simp [intOf]; omega⟩
    · clear hbel
      go_wp2
      go_ret
      refine BPost.mk false rfl ?_ HB.out
      rw [nameIn, List.any_eq_false]
      intro x hx
      obtain ⟨j, hj, rfl⟩ := List.mem_iff_getElem.1 hx
      rw [HN.out j hj (by omega)]; simp
end Go.Proofs.YtgjjjdccbpjnfaaGreatDoor

/- The program's settings: users. -/
namespace Go.Proofs.YtgjjjdccbpjnfaaGreatDoor
open Go.RowKit

theorem userText_same (s : ByteArray) (w : World) (hs : s.size ≤ maxLen) : Calls Tryz.prog 108 #[.string s] w fun e w' => e = .returned (.bool (textB s.data.toList)) ∧ w' = w :=
  (isUserText_any s w hs).mono fun _ _ ⟨a, b⟩ => ⟨a, b.symm⟩

/-- the k-th user may stand behind those ahead -/
def userOk (l : List (ByteArray × ByteArray)) (k : Nat) : Bool := textB (l.getD k (ByteArray.empty, ByteArray.empty)).1.data.toList && textB (l.getD k (ByteArray.empty, ByteArray.empty)).2.data.toList && !nameIn (l.take k) (l.getD k (ByteArray.empty, ByteArray.empty)).1
def usersB (l : List (ByteArray × ByteArray)) : Bool := decide (l.length ≤ 5) && (List.range l.length).all (userOk l)

theorem take_users (l : List (ByteArray × ByteArray)) (k : Nat) (h : k ≤ l.length) : userCells (l.take k) = (userCells l).take (k * 2) := by
  induction l generalizing k with
  | nil => simp [userCells]
  | cons x r ih =>
    cases k with
    | zero => simp [userCells]
    | succ k =>
      have := ih k (by simpa using h)
      rw [show (k + 1) * 2 = k * 2 + 1 + 1 by omega]
      simp [userCells] at this ⊢
      exact this
theorem userCells_len (l : List (ByteArray × ByteArray)) : (userCells l).length = l.length * 2 := by
  induction l with
  | nil => rfl
  | cons x r ih => simp [userCells] at ih ⊢; omega

theorem rowAt_take {w : World} {b off : Nat} {l : List (ByteArray × ByteArray)} (hc : ∀ j : Nat, j < l.length * 2 → w.cell? ⟨b, off + j, none⟩ = (userCells l)[j]?) (k : Nat) (hk : k ≤ l.length) (cap' : Nat) (hcp : k ≤ cap') : RowAt w (.slice (some ⟨b, off, none⟩) k cap') (l.take k).length 2 (userCells (l.take k)) := by
  have hlen : (l.take k).length = k := by rw [List.length_take, Nat.min_eq_left hk]
  refine ⟨userCells_len _, .inr ⟨b, off, cap', by rw [hlen], by rw [hlen]; exact hcp, fun j hj => ?_⟩⟩
  rw [hlen] at hj
  rw [hc j (by omega), take_users l k hk, List.getElem?_take_of_lt hj]

set_option maxHeartbeats 1000000 in
theorem usersMayBe_any (v : Value) (l : List (ByteArray × ByteArray)) (w : World) (h : RowAt w v l.length 2 (userCells l)) (hl : l.length ≤ 140737488351232) (hz : ∀ x ∈ l, x.1.size ≤ maxLen ∧ x.2.size ≤ maxLen) :
    Calls Tryz.prog 65 #[v] w (BPost (usersB l) w) := by
  have HR := Lib.hid h
  obtain ⟨a, cap, rfl, hc⟩ := h.shape
  have HC := Lib.hid hc
  have HZ := Lib.hid hz
  clear hc h hz
  by_cases h5 : 5 < l.length
  · go_enter Tryz.func65, Tryz.ntmps65
    go_wp2
    go_ret
    exact BPost.mk false rfl (by simp [usersB]; intro h; omega) (Below.refl _ _)
  · have hb5 : decide (5 < (l.length : Int)) = false := by simp; omega
    have HD : Hid (usersB l = (List.range l.length).all (userOk l)) := by
      show _ = _
      rw [usersB, decide_eq_true (by omega), Bool.true_and]
    go_enter Tryz.func65, Tryz.ntmps65
    go_wp2
    go_loopw [10] (fun i w' => ∃ k : Nat, k ≤ l.length ∧ i = .int .i64 k ∧ Hid (∀ (j : Nat), j < k → userOk l j = true) ∧ Below w.heap.size w w') (fun i _ => l.length - (intOf i).toNat)
    case atStart => exact ⟨0, Nat.zero_le _, rfl, (fun j hjk => by omega), Below.refl _ _⟩
    case round =>
      obtain ⟨k, hk, rfl, HN, hbel⟩ := hrel
      have HB := Lib.hid hbel
      by_cases hlt : k < l.length
      · obtain ⟨b, off, rfl, hbl, hck⟩ := HC.out k 0 hlt (by decide)
        obtain ⟨b', off', e', _, hck1⟩ := HC.out k 1 hlt (by decide)
        obtain ⟨rfl, rfl⟩ : b' = b ∧ off' = off := by
          have := (Option.some.inj e').symm
          simp at this; exact this
        obtain ⟨x, hx⟩ : ∃ x, l[k] = x := ⟨_, rfl⟩
        have hc0 : wr.cell? ⟨b', off' + k * 2, none⟩ = some (.string x.1) := by
          rw [hbel.cell (p := ⟨b', off' + k * 2, none⟩) hbl]
          rw [Nat.add_zero] at hck
          rw [hck, user_at l k hlt, hx]
        have hc1 : wr.cell? ⟨b', off' + k * 2 + 1, none⟩ = some (.string x.2) := by
          rw [hbel.cell (p := ⟨b', off' + k * 2 + 1, none⟩) hbl]
          rw [← Nat.add_assoc] at hck1
          rw [hck1, user_at1 l k hlt, hx]
        have hxz := HZ.out l[k] (List.getElem_mem hlt)
        rw [hx] at hxz
        obtain ⟨z1, z2⟩ := hxz
        have HRow : Hid (∀ (w' : World), Below w.heap.size w w' → RowAt w' (.slice (some ⟨b', off', none⟩) k cap) (l.take k).length 2 (userCells (l.take k))) := by
          show ∀ _, _
          intro w' hb'
          refine rowAt_take (fun j hj => ?_) k hk cap (by have := HR.out.cap; omega)
          obtain ⟨hlr, ⟨h0, _⟩ | ⟨b2, o2, c2, hv2, _, hc2⟩⟩ := HR.out.below hb'
          · omega
          · injection hv2 with hv2
            injection hv2 with hv2
            injection hv2 with e1 e2
            subst e1 e2
            exact hc2 j hj
        have HOK : Hid (userOk l k = (textB x.1.data.toList && textB x.2.data.toList && !nameIn (l.take k) x.1)) := by
          show _ = _
          have : l.getD k (ByteArray.empty, ByteArray.empty) = x := by rw [List.getD_eq_getElem?_getD, List.getElem?_eq_getElem hlt, ← hx]; rfl
          rw [userOk, this]
        have Hfin : Hid (userOk l k = false → usersB l = false) := by
          show _ → _
          intro hf
          rw [HD.out]
          cases e : (List.range l.length).all (userOk l) with
          | false => rfl
          | true =>
            rw [List.all_eq_true] at e
            have := e k (List.mem_range.2 hlt)
            rw [hf] at this; cases this
        have hkl : (k : Int) ≤ (cap : Int) := by have := HR.out.cap; omega
        have HB2 : ∀ o, Below w.heap.size w (wr.alloc o).drew := fun o => (HB.out.alloc HB.out.size o).drew
        have hsz2 : ∀ o, w.heap.size ≤ (wr.alloc o).drew.heap.size := fun o => (HB2 o).size
        clear hck hck1 HC hbel hx e' HR HZ
        cases t1 : textB x.1.data.toList with
        | false =>
          have HF := Lib.hid (Hfin.out (by rw [HOK.out, t1]; rfl))
          go_wp2_with fail
          go_quiet ((go_at_call 108; exact Calls.quiet_of_same (userText_same _ _ z1)))
          go_wp2_with fail
          go_ret
          exact BPost.mk false rfl HF.out ((HB.out.alloc HB.out.size _).trans (below_drewN _ _ _))
        | true =>
          cases t2 : textB x.2.data.toList with
          | false =>
            have HF := Lib.hid (Hfin.out (by rw [HOK.out, t1, t2]; rfl))
            go_wp2_with fail
            go_quiet ((go_at_call 108; exact Calls.quiet_of_same (userText_same _ _ (by first | exact z1 | exact z2))))
            go_wp2_with fail
            go_ret
            exact BPost.mk false rfl HF.out ((HB.out.alloc HB.out.size _).trans (below_drewN _ _ _))
          | true =>
            cases t3 : nameIn (l.take k) x.1 with
            | true =>
              have HF := Lib.hid (Hfin.out (by rw [HOK.out, t1, t2, t3]; rfl))
              go_wp2_with fail
              go_region_with (first
                | (go_at_call 108; refine (userText_same _ _ ?_).mono ?_; (first | exact z1 | exact z2); rintro e w' ⟨rfl, rfl⟩)
                | (go_at_call 109; refine (hasName_any _ (l.take k) _ _ ?_ ?_).mono ?_; (exact HRow.out _ (HB2 _)); (rw [List.length_take]; omega); rintro e w1 ⟨rfl, hb1⟩; have HB3 := Lib.hid ((HB2 _).trans (hb1.mono (hsz2 _))); clear hb1))
              all_goals
                go_wp2_with fail
                go_ret
                exact BPost.mk false rfl HF.out HB3.out
            | false =>
              have HF : Hid (userOk l k = true) := by show _ = _; rw [HOK.out, t1, t2, t3]; rfl
              go_wp2_with fail
              go_region_with (first
                | (go_at_call 108; refine (userText_same _ _ ?_).mono ?_; (first | exact z1 | exact z2); rintro e w' ⟨rfl, rfl⟩)
                | (go_at_call 109; refine (hasName_any _ (l.take k) _ _ ?_ ?_).mono ?_; (exact HRow.out _ (HB2 _)); (rw [List.length_take]; omega); rintro e w1 ⟨rfl, hb1⟩; have HB3 := Lib.hid ((HB2 _).trans (hb1.mono (hsz2 _))); clear hb1))
              all_goals
                go_wp2_with fail
                refine ⟨⟨k + 1, by omega, by go_num, fun j hj => ?_, HB3.out⟩, by simp [intOf]; omega⟩
                by_cases e : j < k
                · exact HN.out j e
                · rw [show j = k by omega, HF.out]
      · clear hbel
        go_wp2
        go_ret
        refine BPost.mk true rfl ?_ HB.out
        rw [HD.out, List.all_eq_true]
        intro j hj
        exact HN.out j (by have := List.mem_range.1 hj; omega)
end Go.Proofs.YtgjjjdccbpjnfaaGreatDoor
