import Derived.Test.YtadcidbeealdpaaGreatDoorS03
import Derived.Laws.BitsAllLaws

/- The program's settings: domains, nets. -/
namespace Go.Proofs.YtadcidbeealdpaaGreatDoor
open Go.RowKit

def strCellsOf (l : List ByteArray) : List Value := l.map Value.string
def domsB (l : List ByteArray) : Bool := decide (l.length ≤ 5) && l.all fun s => domB s.data.toList

def BPost (b : Bool) (w : World) (e : Ending) (w' : World) : Prop := e = .returned (.bool b) ∧ Below w.heap.size w w'
theorem BPost.mk {b : Bool} {w : World} {e : Ending} {w' : World} (c : Bool) (he : e = .returned (.bool c)) (hc : b = c) (hw : Below w.heap.size w w') : BPost b w e w' := ⟨by rw [he, hc], hw⟩

theorem all_no_at {α : Type} {p : α → Bool} {l : List α} {k : Nat} (hk : k < l.length) (h : p l[k] = false) : l.all p = false := by
  cases e : l.all p with
  | false => rfl
  | true =>
    rw [List.all_eq_true] at e
    have := e l[k] (List.getElem_mem hk)
    rw [h] at this; cases this
theorem all_of_at {α : Type} {p : α → Bool} {l : List α} (h : ∀ (j : Nat) (hj : j < l.length), p l[j] = true) : l.all p = true := by
  rw [List.all_eq_true]
  intro x hx
  obtain ⟨j, hj, rfl⟩ := List.mem_iff_getElem.1 hx
  exact h j hj
theorem at_succ {α : Type} {p : α → Bool} {l : List α} {k : Nat} (hk : k < l.length) (hn : ∀ (j : Nat) (hj : j < l.length), j < k → p l[j] = true) (h : p l[k] = true) : ∀ (j : Nat) (hj : j < l.length), j < k + 1 → p l[j] = true := by
  intro j hj hjk
  by_cases e : j < k
  · exact hn j hj e
  · have : j = k := by omega
    subst this; exact h

set_option maxHeartbeats 400000 in
theorem domainsMayBe_any (v : Value) (l : List ByteArray) (m : Int) (w : World) (h : RowAt w v l.length 1 (strCellsOf l)) (hl : l.length ≤ 140737488351232) (hz : ∀ s ∈ l, s.size ≤ maxLen) (hm : w.cell? ⟨0, 0, none⟩ = some (.int .i64 m)) :
    Calls Tryz.prog 50 #[v] w (BPost (domsB l) w) := by
  obtain ⟨a, cap, rfl, hc⟩ := h.one
  have HC := Lib.hid hc
  have HZ := Lib.hid hz
  have h0 := block_lt hm
  clear hc h hz
  by_cases h5 : 5 < l.length
  · go_enter Tryz.func50, Tryz.ntmps50
    go_wp2
    go_ret
    exact BPost.mk false rfl (by simp [domsB]; intro h; omega) (Below.refl _ _)
  · have hb5 : decide (5 < (l.length : Int)) = false := by simp; omega
    have HD : Hid (domsB l = l.all fun s => domB s.data.toList) := by
      show _ = _
      rw [domsB, decide_eq_true (by omega), Bool.true_and]
    go_enter Tryz.func50, Tryz.ntmps50
    go_wp2
    go_loopw [10] (fun i w' => ∃ k : Nat, k ≤ l.length ∧ i = .int .i64 k ∧ Hid (∀ (j : Nat) (hj : j < l.length), j < k → domB l[j].data.toList = true) ∧ Below w.heap.size w w') (fun i _ => l.length - (intOf i).toNat)
    case atStart => exact ⟨0, Nat.zero_le _, rfl, (fun j hj hjk => by omega), Below.refl _ _⟩
    case round =>
      obtain ⟨k, hk, rfl, HN, hbel⟩ := hrel
      have HB := Lib.hid hbel
      by_cases hlt : k < l.length
      · obtain ⟨b, off, rfl, hbl, hck⟩ := HC.out k hlt
        have hck' : wr.cell? ⟨b, off + k, none⟩ = some (.string l[k]) := by
          rw [hbel.cell (p := ⟨b, off + k, none⟩) hbl, hck, strCellsOf, List.getElem?_map, List.getElem?_eq_getElem hlt]; rfl
        have hm' : wr.cell? ⟨0, 0, none⟩ = some (.int .i64 m) := (hbel.cell h0).trans hm
        have hsz := HZ.out l[k] (List.getElem_mem hlt)
        clear hck HC hbel
        cases hw : domB l[k].data.toList with
        | true =>
          go_wp2_with fail
          refine (isDomain_any _ m _ hsz hm').mono ?_
          rintro e w1 ⟨rfl, hb1⟩
          rw [hw]
          go_wp2_with fail
          exact ⟨⟨k + 1, by omega, by go_num, at_succ (p := fun s : ByteArray => domB s.data.toList) hlt HN.out hw, HB.out.trans (hb1.mono HB.out.size)⟩, by simp [intOf]; omega⟩
        | false =>
          go_wp2_with fail
          refine (isDomain_any _ m _ hsz hm').mono ?_
          rintro e w1 ⟨rfl, hb1⟩
          rw [hw]
          go_wp2_with fail
          go_ret
          exact BPost.mk false rfl (by rw [HD.out]; exact all_no_at (p := fun s : ByteArray => domB s.data.toList) hlt hw) (HB.out.trans (hb1.mono HB.out.size))
      · clear hbel
        go_wp2
        go_ret
        exact BPost.mk true rfl (by rw [HD.out]; exact all_of_at (p := fun s : ByteArray => domB s.data.toList) (fun j hj => HN.out j hj (by omega))) HB.out

/-- a net that may be -/
def netB (x : Int × Int) : Bool := within x.2 0 32 && within x.1 0 4294967295 && decide (x.1 % 2 ^ (32 - x.2).toNat = 0)
def netCells (l : List (Int × Int)) : List Value := l.flatMap fun x => [.int .i64 x.1, .int .i64 x.2]
def netsB (l : List (Int × Int)) : Bool := decide (l.length ≤ 5) && l.all netB

theorem and_mask (A n : Nat) (hA : A ≤ 4294967295) (hn : n ≤ 32) : bits .and .u64 (A : Int) ((2 : Int) ^ n - 1) = (((A % 2 ^ n : Nat)) : Int) := by
  have h1 : 1 ≤ 2 ^ n := Nat.one_le_two_pow
  have h2 : 2 ^ n ≤ 2 ^ 32 := Nat.pow_le_pow_right (by decide) hn
  have h3 : (2 : Nat) ^ 32 = 4294967296 := by decide
  have e : ((2 : Int) ^ n - 1) = ((2 ^ n - 1 : Nat) : Int) := by
    rw [Int.natCast_sub h1, Int.natCast_pow]; rfl
  rw [e, u64_and_nat _ _ (by omega) (by omega), Nat.and_two_pow_sub_one_eq_mod]

theorem net_mask (a l : Int) (a1 : 0 ≤ a) (a2 : a ≤ 4294967295) : decide (a % 2 ^ (32 - l).toNat = 0) = (bits BinOp.and IntKind.u64 a (IntKind.u64.wrap (IntKind.u64.wrap (2 ^ (32 - l).toNat) - 1)) == 0) ∨ 32 < (32 - l).toNat := by
  obtain ⟨A, rfl⟩ := Int.eq_ofNat_of_zero_le a1
  obtain ⟨n, hn⟩ : ∃ n, (32 - l).toNat = n := ⟨_, rfl⟩
  rw [hn]
  by_cases h : 32 < n
  · exact Or.inr h
  left
  have h1 : 1 ≤ 2 ^ n := Nat.one_le_two_pow
  have h2 : 2 ^ n ≤ 2 ^ 32 := Nat.pow_le_pow_right (by decide) (by omega)
  have h3 : (2 : Nat) ^ 32 = 4294967296 := by decide
  have e : ((2 : Int) ^ n) = ((2 ^ n : Nat) : Int) := by rw [Int.natCast_pow]; rfl
  have w1 : IntKind.u64.wrap (2 ^ n) = (2 : Int) ^ n := by rw [e, IntKind.wrap_u64]; omega
  have w2 : IntKind.u64.wrap ((2 : Int) ^ n - 1) = (2 : Int) ^ n - 1 := by rw [e, IntKind.wrap_u64]; omega
  rw [w1, w2, and_mask A n (by omega) (by omega), e, Bool.eq_iff_iff]
  simp only [decide_eq_true_eq, beq_iff_eq]
  omega
theorem net_at (l : List (Int × Int)) (k : Nat) (h : k < l.length) : (netCells l)[k * 2]? = some (.int .i64 l[k].1) := by
  induction l generalizing k with
  | nil => simp at h
  | cons x r ih =>
    cases k with
    | zero => rfl
    | succ k =>
      have := ih k (by simpa using h)
      rw [show (k + 1) * 2 = k * 2 + 1 + 1 by omega]
      simpa [netCells] using this
theorem net_at1 (l : List (Int × Int)) (k : Nat) (h : k < l.length) : (netCells l)[k * 2 + 1]? = some (.int .i64 l[k].2) := by
  induction l generalizing k with
  | nil => simp at h
  | cons x r ih =>
    cases k with
    | zero => rfl
    | succ k =>
      have := ih k (by simpa using h)
      rw [show (k + 1) * 2 + 1 = k * 2 + 1 + 1 + 1 by omega]
      simpa [netCells] using this

set_option maxHeartbeats 400000 in
theorem netMayBe_any (a l : Int) (w : World) : Calls Tryz.prog 92 #[.agg #[.int .i64 a, .int .i64 l]] w (BPost (netB (a, l)) w) := by
  cases h1 : within l 0 32 with
  | false =>
    go_enter Tryz.func92, Tryz.ntmps92
    go_wp2_with (go_at_call 53; refine (isWithin_any _ _ _ _).mono ?_; rintro e w' ⟨rfl, rfl⟩)
    go_ret
    exact BPost.mk false rfl (by simp [netB, h1]) ((Below.refl _ _).alloc (Nat.le_refl _) _)
  | true =>
    cases h2 : within a 0 4294967295 with
    | false =>
      go_enter Tryz.func92, Tryz.ntmps92
      go_wp2_with (go_at_call 53; refine (isWithin_any _ _ _ _).mono ?_; rintro e w' ⟨rfl, rfl⟩)
      go_ret
      exact BPost.mk false rfl (by simp [netB, h2]) ((Below.refl _ _).alloc (Nat.le_refl _) _)
    | true =>
      have l1 : 0 ≤ l := by simp [within] at h1; omega
      have l2 : l ≤ 32 := by simp [within] at h1; omega
      have a1 : 0 ≤ a := by simp [within] at h2; omega
      have a2 : a ≤ 4294967295 := by simp [within] at h2; omega
      go_enter Tryz.func92, Tryz.ntmps92
      go_wp2_with (go_at_call 53; refine (isWithin_any _ _ _ _).mono ?_; rintro e w' ⟨rfl, rfl⟩)
      go_ret
      refine BPost.mk _ rfl ?_ ((Below.refl _ _).alloc (Nat.le_refl _) _)
      rw [netB, h1, h2, Bool.true_and, Bool.true_and]
      exact (net_mask a l a1 a2).resolve_right (by omega)

set_option maxHeartbeats 400000 in
theorem netsMayBe_any (v : Value) (l : List (Int × Int)) (w : World) (h : RowAt w v l.length 2 (netCells l)) (hl : l.length ≤ 140737488351232) :
    Calls Tryz.prog 51 #[v] w (BPost (netsB l) w) := by
  obtain ⟨a, cap, rfl, hc⟩ := h.shape
  have HC := Lib.hid hc
  clear hc h
  by_cases h5 : 5 < l.length
  · go_enter Tryz.func51, Tryz.ntmps51
    go_wp2
    go_ret
    exact BPost.mk false rfl (by simp [netsB]; intro h; omega) (Below.refl _ _)
  · have hb5 : decide (5 < (l.length : Int)) = false := by simp; omega
    have HD : Hid (netsB l = l.all netB) := by
      show _ = _
      rw [netsB, decide_eq_true (by omega), Bool.true_and]
    go_enter Tryz.func51, Tryz.ntmps51
    go_wp2
    go_loopw [10] (fun i w' => ∃ k : Nat, k ≤ l.length ∧ i = .int .i64 k ∧ Hid (∀ (j : Nat) (hj : j < l.length), j < k → netB l[j] = true) ∧ Below w.heap.size w w') (fun i _ => l.length - (intOf i).toNat)
    case atStart => exact ⟨0, Nat.zero_le _, rfl, (fun j hj hjk => by omega), Below.refl _ _⟩
    case round =>
      obtain ⟨k, hk, rfl, HN, hbel⟩ := hrel
      have HB := Lib.hid hbel
      by_cases hlt : k < l.length
      · obtain ⟨b, off, rfl, hbl, hck⟩ := HC.out k 0 hlt (by decide)
        obtain ⟨b', off', e', _, hck1⟩ := HC.out k 1 hlt (by decide)
        obtain ⟨rfl, rfl⟩ : b' = b ∧ off' = off := by
          have := (Option.some.inj e').symm
          simp at this; exact this
        obtain ⟨x, hx⟩ : ∃ x, l[k] = x := ⟨_, rfl⟩
        have hc0 : wr.cell? ⟨b', off' + k * 2, none⟩ = some (.int .i64 x.1) := by
          rw [hbel.cell (p := ⟨b', off' + k * 2, none⟩) hbl]
          rw [Nat.add_zero] at hck
          rw [hck, net_at l k hlt, hx]
        have hc1 : wr.cell? ⟨b', off' + k * 2 + 1, none⟩ = some (.int .i64 x.2) := by
          rw [hbel.cell (p := ⟨b', off' + k * 2 + 1, none⟩) hbl]
          rw [← Nat.add_assoc] at hck1
          rw [hck1, net_at1 l k hlt, hx]
        have HX := Lib.hid hx
        clear hck hck1 HC hbel hx e'
        cases hw : netB x with
        | true =>
          have hw' : netB (x.1, x.2) = true := hw
          go_wp2_with fail
          refine (netMayBe_any _ _ _).mono ?_
          rintro e w1 ⟨rfl, hb1⟩
          rw [hw']
          have HB2 : Hid (Below w.heap.size w w1) := (HB.out.alloc HB.out.size _).trans (hb1.mono (by have := HB.out.size; simp; omega))
          clear hb1
          go_wp2_with fail
          exact ⟨⟨k + 1, by omega, by go_num, at_succ (p := netB) hlt HN.out (by rw [HX.out]; exact hw), HB2.out⟩, by simp [intOf]; omega⟩
        | false =>
          have hw' : netB (x.1, x.2) = false := hw
          go_wp2_with fail
          refine (netMayBe_any _ _ _).mono ?_
          rintro e w1 ⟨rfl, hb1⟩
          rw [hw']
          have HB2 : Hid (Below w.heap.size w w1) := (HB.out.alloc HB.out.size _).trans (hb1.mono (by have := HB.out.size; simp; omega))
          clear hb1
          go_wp2_with fail
          go_ret
          exact BPost.mk false rfl (by rw [HD.out]; exact all_no_at (p := netB) hlt (by rw [HX.out]; exact hw)) HB2.out
      · clear hbel
        go_wp2
        go_ret
        exact BPost.mk true rfl (by rw [HD.out]; exact all_of_at (p := netB) (fun j hj => HN.out j hj (by omega))) HB.out

/-- users -/
def userCells (l : List (ByteArray × ByteArray)) : List Value := l.flatMap fun x => [.string x.1, .string x.2]
theorem user_at (l : List (ByteArray × ByteArray)) (k : Nat) (h : k < l.length) : (userCells l)[k * 2]? = some (.string l[k].1) := by
  induction l generalizing k with
  | nil => simp at h
  | cons x r ih =>
    cases k with
    | zero => rfl
    | succ k =>
      have := ih k (by simpa using h)
      rw [show (k + 1) * 2 = k * 2 + 1 + 1 by omega]
      simpa [userCells] using this
theorem user_at1 (l : List (ByteArray × ByteArray)) (k : Nat) (h : k < l.length) : (userCells l)[k * 2 + 1]? = some (.string l[k].2) := by
  induction l generalizing k with
  | nil => simp at h
  | cons x r ih =>
    cases k with
    | zero => rfl
    | succ k =>
      have := ih k (by simpa using h)
      rw [show (k + 1) * 2 + 1 = k * 2 + 1 + 1 + 1 by omega]
      simpa [userCells] using this

def nameIn (l : List (ByteArray × ByteArray)) (s : ByteArray) : Bool := l.any fun x => x.1.toList == s.toList

set_option maxHeartbeats 400000 in
theorem hasName_any (v : Value) (l : List (ByteArray × ByteArray)) (s : ByteArray) (w : World) (h : RowAt w v l.length 2 (userCells l)) (hl : l.length ≤ 140737488351232) :
    Calls Tryz.prog 94 #[v, .string s] w (BPost (nameIn l s) w) := by
  obtain ⟨a, cap, rfl, hc⟩ := h.shape
  have HC := Lib.hid hc
  clear hc h
  go_enter Tryz.func94, Tryz.ntmps94
  go_wp2
  go_loopw [9] (fun i w' => ∃ k : Nat, k ≤ l.length ∧ i = .int .i64 k ∧ Hid (∀ (j : Nat) (hj : j < l.length), j < k → (l[j].1.toList == s.toList) = false) ∧ Below w.heap.size w w') (fun i _ => l.length - (intOf i).toNat)
  case atStart => exact ⟨0, Nat.zero_le _, rfl, (fun j hj hjk => by omega), Below.refl _ _⟩
  case round =>
    obtain ⟨k, hk, rfl, HN, hbel⟩ := hrel
    have HB := Lib.hid hbel
    by_cases hlt : k < l.length
    · obtain ⟨b, off, rfl, hbl, hck⟩ := HC.out k 0 hlt (by decide)
      obtain ⟨b', off', e', _, hck1⟩ := HC.out k 1 hlt (by decide)
      obtain ⟨rfl, rfl⟩ : b' = b ∧ off' = off := by
        have := (Option.some.inj e').symm
        simp at this; exact this
      obtain ⟨x, hx⟩ : ∃ x, l[k] = x := ⟨_, rfl⟩
      have hc0 : wr.cell? ⟨b', off' + k * 2, none⟩ = some (.string x.1) := by
        rw [hbel.cell (p := ⟨b', off' + k * 2, none⟩) hbl]
        rw [Nat.add_zero] at hck
        rw [hck, user_at l k hlt, hx]
      have hc1 : wr.cell? ⟨b', off' + k * 2 + 1, none⟩ = some (.string x.2) := by
        rw [hbel.cell (p := ⟨b', off' + k * 2 + 1, none⟩) hbl]
        rw [← Nat.add_assoc] at hck1
        rw [hck1, user_at1 l k hlt, hx]
      have HX := Lib.hid hx
      clear hck hck1 HC hbel hx e'
      have HB2 : ∀ o, Hid (Below w.heap.size w (wr.alloc o)) := fun o => HB.out.alloc HB.out.size o
      cases hw : (x.1.toList == s.toList) with
      | true =>
        go_wp2
        go_ret
        refine BPost.mk true rfl ?_ (HB2 _).out
        rw [nameIn, List.any_eq_true]
        exact ⟨l[k], List.getElem_mem hlt, by rw [HX.out]; exact hw⟩
      | false =>
        go_wp2
        exact ⟨⟨k + 1, by omega, by go_num, (fun j hj hjk => by
          by_cases e : j < k
          · exact HN.out j hj e
          · have : j = k := by omega
            subst this
            rw [HX.out]; exact hw), (HB2 _).out⟩, by simp [intOf]; omega⟩
    · clear hbel
      go_wp2
      go_ret
      refine BPost.mk false rfl ?_ HB.out
      rw [nameIn, List.any_eq_false]
      intro x hx
      obtain ⟨j, hj, rfl⟩ := List.mem_iff_getElem.1 hx
      rw [HN.out j hj (by omega)]; simp
end Go.Proofs.YtadcidbeealdpaaGreatDoor
