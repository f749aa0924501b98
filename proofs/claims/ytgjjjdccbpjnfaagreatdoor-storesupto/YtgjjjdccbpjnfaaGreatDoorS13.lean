import Derived.Test.YtgjjjdccbpjnfaaGreatDoorS11
import Derived.Test.YtgjjjdccbpjnfaaGreatDoorS01
import Derived.Test.YtgjjjdccbpjnfaaGreatDoorS08
import Derived.Test.YtgjjjdccbpjnfaaGreatDoorS12
import Derived.Test.YtgjjjdccbpjnfaaGreatDoorS09

/- The program's fields: bytes, numbers and texts read one by one. -/
namespace Go.Proofs.YtgjjjdccbpjnfaaGreatDoor
open Go.RowKit

/-- block b holds fields: what is left, or that something was not there whole -/
def FdIn (w : World) (b : Nat) (o : Option (List UInt8)) : Prop :=
  match o with
  | some l => w.heap[b]? = some (.cells #[.string (bs l), .bool false] 118 (0, 0)) ∧ l.length ≤ maxLen
  | none => ∃ l : List UInt8, w.heap[b]? = some (.cells #[.string (bs l), .bool true] 118 (0, 0))
def outS (o : Option (List UInt8 × List UInt8)) : List UInt8 := (o.map (·.1)).getD []

set_option maxHeartbeats 400000 in
set_option maxRecDepth 100000 in
theorem fdBytes_any (b k : Nat) (o : Option (List UInt8)) (w : World) (h : FdIn w b o) (hk : k ≤ maxLen) :
    Calls Tryz.prog 70 #[.pointer (some ⟨b, 0, none⟩), .int .i64 k] w fun e w' => e = .returned (.string (bs (outS (o.bind (bytesS k))))) ∧ FdIn w' b ((o.bind (bytesS k)).map (·.2)) ∧ Same b w w' := by
  unfold maxLen at hk
  cases o with
  | none =>
    obtain ⟨l, hl⟩ := h
    have c0 : w.cell? ⟨b, 0, none⟩ = some (.string (bs l)) := by rw [Lib.cell_of_heap hl]; rfl
    have c1 : w.cell? ⟨b, 1, none⟩ = some (.bool true) := by rw [Lib.cell_of_heap hl]; rfl
    have f1 : w.frozen? ⟨b, 1, none⟩ = false := Lib.frozen_of_heap hl 1
    have HL := Lib.hid hl
    clear hl
    go_enter Tryz.func70, Tryz.ntmps70
    go_wp2_with fail
    go_ret
    exact ⟨rfl, ⟨l, heap_setCell_same w b 1 _ _ (.bool true) HL.out⟩, (Same.refl b w).setCell _⟩
  | some l =>
    obtain ⟨hl, hlm⟩ := h
    unfold maxLen at hlm
    have c0 : w.cell? ⟨b, 0, none⟩ = some (.string (bs l)) := by rw [Lib.cell_of_heap hl]; rfl
    have c1 : w.cell? ⟨b, 1, none⟩ = some (.bool false) := by rw [Lib.cell_of_heap hl]; rfl
    have f0 : w.frozen? ⟨b, 0, none⟩ = false := Lib.frozen_of_heap hl 0
    have f1 : w.frozen? ⟨b, 1, none⟩ = false := Lib.frozen_of_heap hl 1
    have sz := bs_size l
    have HL := Lib.hid hl
    clear hl
    by_cases hlt : k ≤ l.length
    · have hd : decide ((l.length : Int) < (k : Int)) = false := by simp; omega
      have hd' : decide (l.length < k) = false := by simp; omega
      go_enter Tryz.func70, Tryz.ntmps70
      go_wp2_with fail
      simp only [bs_extract, List.drop_zero, List.take_length]
      have e : (some l).bind (bytesS k) = some (l.take k, l.drop k) := by show bytesS k l = _; unfold bytesS; rw [if_pos hlt]
      go_ret
      rw [e]
      exact ⟨rfl, ⟨heap_setCell_same w b 0 _ _ (.string (bs (l.drop k))) HL.out, by rw [List.length_drop]; unfold maxLen; omega⟩, (Same.refl b w).setCell _⟩
    · have hd : decide ((l.length : Int) < (k : Int)) = true := by simp; omega
      have hd' : decide (l.length < k) = true := by simp; omega
      go_enter Tryz.func70, Tryz.ntmps70
      go_wp2_with fail
      have e : (some l).bind (bytesS k) = none := by show bytesS k l = _; unfold bytesS; rw [if_neg hlt]
      go_ret
      rw [e]
      exact ⟨rfl, ⟨l, heap_setCell_same w b 1 _ _ (.bool true) HL.out⟩, (Same.refl b w).setCell _⟩

theorem or_byte {N x : Nat} (hN : N < 16777216) (hx : x < 256) : bits .or .i64 (wrap64 ((N : Int) * 256)) (x : Int) = ((256 * N + x : Nat) : Int) := by
  rw [w64_in _ (by omega), bits_join .i64 32 (by decide) wraps_i64 8 _ _ (by omega) (by omega) (by omega) (by omega) (by omega) (by omega)]
  omega

set_option maxHeartbeats 400000 in
set_option maxRecDepth 100000 in
theorem fdNumber_any (b k : Nat) (o : Option (List UInt8)) (w : World) (h : FdIn w b o) (hk : k ≤ 4) :
    Calls Tryz.prog 69 #[.pointer (some ⟨b, 0, none⟩), .int .i64 k] w fun e w' => e = .returned (.int .i64 (be (outS (o.bind (bytesS k))))) ∧ FdIn w' b ((o.bind (bytesS k)).map (·.2)) ∧ Same b w w' := by
  have hcall := fdBytes_any b k o w h (by unfold maxLen; omega)
  have hlen : (outS (o.bind (bytesS k))).length ≤ 4 := by
    cases e : o.bind (bytesS k) with
    | none => simp [outS]
    | some x =>
      obtain ⟨l, h1, h2⟩ := bind_some' e
      obtain ⟨y, r⟩ := x
      have := (bytesS_dec h2).2.2.2
      show y.length ≤ 4
      omega
  obtain ⟨t, ht⟩ : ∃ t, outS (o.bind (bytesS k)) = t := ⟨_, rfl⟩
  obtain ⟨r, hr⟩ : ∃ r, (o.bind (bytesS k)).map (·.2) = r := ⟨_, rfl⟩
  rw [ht] at hlen
  rw [ht, hr] at hcall ⊢
  clear ht hr h
  have hz := bs_size t
  go_enter Tryz.func69, Tryz.ntmps69
  go_wp2_with fail
  refine hcall.mono ?_
  rintro e w1 ⟨rfl, h1, h2⟩
  have H1 := Lib.hid h1
  have H2 := Lib.hid h2
  clear hcall h1 h2
  go_wp2_with fail
  go_loop [6, 13] (fun n i => ∃ j N : Nat, j ≤ t.length ∧ i = .int .i64 j ∧ n = .int .i64 N ∧ Hid (N = be (t.take j))) (fun _ i => t.length - (intOf i).toNat)
  case atStart => exact ⟨0, 0, Nat.zero_le _, rfl, rfl, rfl⟩
  case round =>
    obtain ⟨j, N, hj, rfl, rfl, HN⟩ := hrel
    by_cases hlt : j < t.length
    · have hlt' : j < (bs t).size := by omega
      have HB : Hid (N < 16777216) := Lib.hid (by
        rw [HN.out]
        have h1 := be_lt (t.take j)
        have h2 : 256 ^ (t.take j).length ≤ 256 ^ 3 := Nat.pow_le_pow_right (by decide) (by rw [List.length_take]; omega)
        have h3 : 256 ^ 3 = 16777216 := by decide
        omega)
      go_wp2_with fail
      refine ⟨⟨j + 1, be (t.take (j + 1)), by omega, by go_num, ?_, rfl⟩, by simp [intOf]; omega⟩
      refine congrArg (Value.int .i64) ?_
      rw [be_take t j hlt, ← bs_get t j hlt', ← HN.out]
      have hx := ((bs t)[j]).toNat_lt
      rw [w64_in (((bs t)[j]).toNat : Int) (by omega)]
      exact or_byte HB.out hx
    · have hj9 : j = t.length := by omega
      subst hj9
      rw [List.take_length] at HN
      go_wp2_with fail
      go_ret
      exact ⟨congrArg (fun x : Nat => Ending.returned (.int .i64 (x : Int))) HN.out, H1.out, H2.out⟩

/-- a text, of what is left -/
def txO (k : Nat) (o : Option (List UInt8)) : Option (List UInt8 × List UInt8) := o.bind (txS k)
theorem tx_two (k : Nat) (o : Option (List UInt8)) : ((o.bind (bytesS k)).map (·.2)).bind (bytesS (be (outS (o.bind (bytesS k))))) = o.bind (txS k) := by
  cases o with
  | none => rfl
  | some l =>
    show ((bytesS k l).map (·.2)).bind (bytesS (be (outS (bytesS k l)))) = txS k l
    unfold txS numS bytesS
    by_cases h : k ≤ l.length
    · rw [if_pos h, if_pos h]; rfl
    · rw [if_neg h, if_neg h]; rfl
theorem number_two (k : Nat) (o : Option (List UInt8)) : (o.bind (bytesS k)).map (·.2) = (o.bind (numS k)).map (·.2) ∧ be (outS (o.bind (bytesS k))) = ((o.bind (numS k)).map (·.1)).getD 0 := by
  cases o with
  | none => exact ⟨rfl, rfl⟩
  | some l =>
    show (bytesS k l).map (·.2) = (numS k l).map (·.2) ∧ be (outS (bytesS k l)) = ((numS k l).map (·.1)).getD 0
    unfold numS bytesS
    by_cases h : k ≤ l.length
    · rw [if_pos h, if_pos h]; exact ⟨rfl, rfl⟩
    · rw [if_neg h, if_neg h]; exact ⟨rfl, rfl⟩

set_option maxHeartbeats 400000 in
set_option maxRecDepth 100000 in
theorem fdText_any (b k : Nat) (o : Option (List UInt8)) (w : World) (h : FdIn w b o) (hk : k ≤ 4) :
    Calls Tryz.prog 111 #[.pointer (some ⟨b, 0, none⟩), .int .i64 k] w fun e w' => e = .returned (.string (bs (outS (o.bind (txS k))))) ∧ FdIn w' b ((o.bind (txS k)).map (·.2)) ∧ Same b w w' := by
  have hcall := fdNumber_any b k o w h hk
  have hN : be (outS (o.bind (bytesS k))) ≤ maxLen := by
    have hlen : (outS (o.bind (bytesS k))).length ≤ 4 := by
      cases e : o.bind (bytesS k) with
      | none => simp [outS]
      | some x =>
        obtain ⟨l, h1, h2⟩ := bind_some' e
        obtain ⟨y, r⟩ := x
        have := (bytesS_dec h2).2.2.2
        show y.length ≤ 4
        omega
    have := be_four hlen
    unfold maxLen
    omega
  have hcall2 := fun w' h' => fdBytes_any b (be (outS (o.bind (bytesS k)))) ((o.bind (bytesS k)).map (·.2)) w' h' hN
  rw [tx_two] at hcall2
  obtain ⟨N, eN⟩ : ∃ N, be (outS (o.bind (bytesS k))) = N := ⟨_, rfl⟩
  obtain ⟨r, er⟩ : ∃ r, (o.bind (bytesS k)).map (·.2) = r := ⟨_, rfl⟩
  obtain ⟨t, et⟩ : ∃ t, outS (o.bind (txS k)) = t := ⟨_, rfl⟩
  obtain ⟨r', er'⟩ : ∃ r', (o.bind (txS k)).map (·.2) = r' := ⟨_, rfl⟩
  rw [eN, er] at hcall
  rw [eN, er, et, er'] at hcall2
  rw [et, er']
  have HC2 := Lib.hid hcall2
  clear hcall2 hN eN er et er' h
  go_enter Tryz.func111, Tryz.ntmps111
  go_wp2_with fail
  refine hcall.mono ?_
  rintro e w1 ⟨rfl, h1, h2⟩
  have H1 := Lib.hid h1
  have H2 := Lib.hid h2
  clear hcall h1 h2
  go_wp2_with fail
  refine (HC2.out _ H1.out).mono ?_
  rintro e w2 ⟨rfl, h3, h4⟩
  have H3 := Lib.hid h3
  have H4 := Lib.hid (H2.out.trans h4)
  clear h3 h4
  go_wp2_with fail
  go_ret
  exact ⟨rfl, H3.out, H4.out⟩

set_option maxHeartbeats 400000 in
set_option maxRecDepth 100000 in
theorem fdDone_any (b : Nat) (o : Option (List UInt8)) (w : World) (h : FdIn w b o) :
    Calls Tryz.prog 112 #[.pointer (some ⟨b, 0, none⟩)] w fun e w' => e = .returned (.bool (decide (o = some []))) ∧ w = w' := by
  cases o with
  | none =>
    obtain ⟨l, hl⟩ := h
    have c0 : w.cell? ⟨b, 0, none⟩ = some (.string (bs l)) := by rw [Lib.cell_of_heap hl]; rfl
    have c1 : w.cell? ⟨b, 1, none⟩ = some (.bool true) := by rw [Lib.cell_of_heap hl]; rfl
    clear hl
    go_enter Tryz.func112, Tryz.ntmps112
    go_wp2_with fail
    go_ret
    exact ⟨ret_bool (by simp), rfl⟩
  | some l =>
    obtain ⟨hl, _⟩ := h
    have c0 : w.cell? ⟨b, 0, none⟩ = some (.string (bs l)) := by rw [Lib.cell_of_heap hl]; rfl
    have c1 : w.cell? ⟨b, 1, none⟩ = some (.bool false) := by rw [Lib.cell_of_heap hl]; rfl
    clear hl
    go_enter Tryz.func112, Tryz.ntmps112
    go_wp2_with fail
    go_ret
    exact ⟨ret_bool (by rw [Lib.toList_data, bs_toList]; cases l <;> simp), rfl⟩
end Go.Proofs.YtgjjjdccbpjnfaaGreatDoor

/- The program's sum. -/
namespace Go.Proofs.YtgjjjdccbpjnfaaGreatDoor
open Go.RowKit

theorem ret_u32 {a b : Int} (h : a = b) : Ending.returned (.int .u32 a) = .returned (.int .u32 b) := by rw [h]

set_option maxHeartbeats 400000 in
set_option maxRecDepth 100000 in
theorem reverseBytes_at (w : World) : Calls Tryz.prog 164 #[.int .u32 545503469] w fun e w' => e = .returned (.int .u32 3988292384) ∧ w = w' := by
  go_enter Tryz.func164, Tryz.ntmps164
  go_wp2_with fail
  go_ret
  exact ⟨ret_u32 (by decide +kernel), rfl⟩
set_option maxHeartbeats 400000 in
set_option maxRecDepth 100000 in
theorem reverse_at (w : World) : Calls Tryz.prog 110 #[.int .u32 79764919] w fun e w' => e = .returned (.int .u32 3988292384) ∧ w = w' := by
  have key : ∀ (E : Int) (Q : Ending → World → Prop), E = 545503469 → (∀ e w', e = .returned (.int .u32 3988292384) ∧ w = w' → Q e w') → Calls Tryz.prog 164 #[.int .u32 E] w Q := fun E Q hE h => by
    subst hE; exact (reverseBytes_at w).mono h
  go_enter Tryz.func110, Tryz.ntmps110
  go_wp2_with fail
  refine key _ _ (by decide +kernel) ?_
  rintro e w' ⟨rfl, rfl⟩
  go_wp2_with fail
  go_ret
  exact ⟨rfl, rfl⟩

theorem crcBit_u32 {D : Nat} (h : D < 2 ^ 32) : bits .xor .u32 ((D : Int) / 2) (bits .and .u32 (D : Int) 1 * 3988292384 % 4294967296) = ((crcBit D : Nat) : Int) := by
  have e1 : bits .and .u32 (D : Int) 1 = ((D % 2 : Nat) : Int) := by
    rw [show (1 : Int) = ((1 : Nat) : Int) from rfl, (bits_nat .u32 32 (by decide) wraps_u32 D 1 h (by decide)).1, Nat.and_one_is_mod]
  have e2 : ((D : Int) / 2) = ((D / 2 : Nat) : Int) := by omega
  rw [e1, e2]
  have e3 : (((D % 2 : Nat) : Int) * 3988292384 % 4294967296) = (((if D % 2 = 1 then poly else 0) : Nat) : Int) := by
    unfold poly
    split <;> omega
  rw [e3, bits_xor_nat .u32 32 (by decide) wraps_u32 _ _ (by omega) (by split <;> decide)]
  rfl
theorem not_u32 {C : Nat} (h : C < 2 ^ 32) : bits .xor .u32 4294967295 (C : Int) = ((4294967295 - C : Nat) : Int) := by
  rw [show (4294967295 : Int) = ((4294967295 : Nat) : Int) from rfl, bits_xor_nat .u32 32 (by decide) wraps_u32 _ _ (by decide) h]
  congr 1
  have := BitVec.toNat_not (x := BitVec.ofNat 32 C)
  have e : (BitVec.ofNat 32 C).toNat = C := by rw [BitVec.toNat_ofNat]; exact Nat.mod_eq_of_lt h
  rw [e] at this
  have x : ~~~(BitVec.ofNat 32 C) = BitVec.allOnes 32 ^^^ BitVec.ofNat 32 C := by
    rw [BitVec.allOnes_xor]
  rw [x, BitVec.toNat_xor, e] at this
  simpa using this
set_option maxHeartbeats 400000 in
set_option maxRecDepth 100000 in
theorem recSum_any (s : ByteArray) (w : World) (hs : s.size ≤ maxLen) : Calls Tryz.prog 71 #[.string s] w fun e w' => e = .returned (.int .u32 (crc s.data.toList)) ∧ w = w' := by
  unfold maxLen at hs
  go_enter Tryz.func71, Tryz.ntmps71
  go_wp2_with fail
  refine (reverse_at _).mono ?_
  rintro e w' ⟨rfl, rfl⟩
  go_wp2_with fail
  go_loop [4, 10] (fun c i => ∃ k C : Nat, k ≤ s.size ∧ i = .int .i64 k ∧ c = .int .u32 C ∧ Hid (C < 2 ^ 32) ∧ Hid (C = crcOn 4294967295 (s.data.toList.take k))) (fun _ i => s.size - (intOf i).toNat)
  case atStart => exact ⟨0, 4294967295, Nat.zero_le _, rfl, rfl, Lib.hid (by decide), rfl⟩
  case round =>
    obtain ⟨k, C, hk, rfl, rfl, HL, HC⟩ := hrel
    by_cases hlt : k < s.size
    · go_wp2_with fail
      go_loop [4, 19] (fun c i => ∃ j D : Nat, j ≤ 8 ∧ i = .int .i64 j ∧ c = .int .u32 D ∧ Hid (D = crcBits j (C ^^^ s[k].toNat))) (fun _ i => 8 - (intOf i).toNat)
      case atStart =>
        refine ⟨0, C ^^^ s[k].toNat, by omega, rfl, ?_, rfl⟩
        have hb := s[k].toNat_lt
        rw [show ((s[k].toNat : Int) % 4294967296) = ((s[k].toNat : Nat) : Int) by omega, bits_xor_nat .u32 32 (by decide) wraps_u32 _ _ HL.out (by omega)]
      case round =>
        obtain ⟨j, D, hj, rfl, rfl, HD⟩ := hrel
        have HDL : Hid (D < 2 ^ 32) := Lib.hid (by rw [HD.out]; exact crcBits_lt j (Nat.xor_lt_two_pow HL.out (by have := s[k].toNat_lt; omega)))
        by_cases hj8 : j < 8
        · go_wp2_with fail
          refine ⟨⟨j + 1, crcBit D, by omega, by go_num, ?_, Lib.hid (by rw [HD.out, crcBits_succ])⟩, by simp [intOf]; omega⟩
          rw [crcBit_u32 HDL.out]
        · have hj9 : j = 8 := by omega
          subst hj9
          go_wp2_with fail
          refine ⟨⟨k + 1, D, by omega, by go_num, rfl, HDL, Lib.hid ?_⟩, by simp [intOf]; omega⟩
          rw [HD.out, HC.out, crcOn_take _ _ k (by simpa using hlt), crcByte_eq]
          rfl
    · have hk9 : k = s.size := by omega
      subst hk9
      have hL := HL.out
      have hcrc : crc s.data.toList = 4294967295 - C := by
        unfold crc; rw [HC.out, List.take_of_length_le (by simp)]
      have hnot := not_u32 hL
      clear HL HC
      go_wp2_with fail
      go_ret
      refine ⟨ret_u32 ?_, rfl⟩
      rw [show IntKind.u32.max = 4294967295 from rfl]
      exact hnot
end Go.Proofs.YtgjjjdccbpjnfaaGreatDoor

/- The program's Cut: one record off the front. -/
namespace Go.Proofs.YtgjjjdccbpjnfaaGreatDoor
open Go.RowKit

/-- one record off the front: its content, and what stands behind -/
def cutS (l : List UInt8) : Option (List UInt8 × List UInt8) :=
  (numS 4 l).bind fun a => (numS 4 a.2).bind fun b => (bytesS a.1 b.2).bind fun c => if crc c.1 = b.1 then some c else none
def CutRet (o : Option (List UInt8 × List UInt8)) : Value :=
  match o with
  | some c => .tuple #[.string (bs c.1), .string (bs c.2), .bool true]
  | none => .tuple #[.string (bs []), .string (bs []), .bool false]
theorem fd_some {w : World} {b : Nat} {o : Option (List UInt8)} {l : List UInt8} (h : FdIn w b o) (e : o = some l) : w.cell? ⟨b, 0, none⟩ = some (.string (bs l)) ∧ w.cell? ⟨b, 1, none⟩ = some (.bool false) := by
  subst e
  exact ⟨by rw [Lib.cell_of_heap h.1]; rfl, by rw [Lib.cell_of_heap h.1]; rfl⟩
theorem fd_none {w : World} {b : Nat} {o : Option (List UInt8)} (h : FdIn w b o) (e : o = none) : w.cell? ⟨b, 1, none⟩ = some (.bool true) := by
  subst e
  obtain ⟨l, h⟩ := h
  rw [Lib.cell_of_heap h]; rfl
theorem touch_same {w a c : World} (h1 : Touch [] w a) (h2 : Same w.heap.size a c) : Touch [] w c :=
  ⟨by rw [h2.1]; exact h1.1, fun k o e n => by
    rw [h2.2 k (by have := heap_lt e; omega)]; exact h1.2 k o e n, h1.3.trans h2.3⟩
theorem cut_steps (l : List UInt8) {o1 o2 o3 : Option (List UInt8)} {N1 N2 : Nat} {C : List UInt8}
    (h1 : ((some l).bind (bytesS 4)).map (·.2) = o1) (n1 : be (outS ((some l).bind (bytesS 4))) = N1) (h2 : (o1.bind (bytesS 4)).map (·.2) = o2) (n2 : be (outS (o1.bind (bytesS 4))) = N2) (h3 : (o2.bind (bytesS N1)).map (·.2) = o3) (c3 : outS (o2.bind (bytesS N1)) = C) :
    cutS l = o3.bind fun r => if crc C = N2 then some (C, r) else none := by
  obtain ⟨a1, a2⟩ := number_two 4 (some l)
  rw [a1] at h1
  rw [a2] at n1
  obtain ⟨b1, b2⟩ := number_two 4 o1
  rw [b1] at h2
  rw [b2] at n2
  have ec : cutS l = (numS 4 l).bind fun a => (numS 4 a.2).bind fun b => (bytesS a.1 b.2).bind fun c => if crc c.1 = b.1 then some c else none := rfl
  have e1 : (some l).bind (numS 4) = numS 4 l := rfl
  rw [e1] at h1 n1
  cases x : numS 4 l with
  | none =>
    rw [x] at h1 ec
    subst h1 h2 h3
    rw [ec]; rfl
  | some a =>
    rw [x] at h1 n1 ec
    subst h1 n1
    have e2 : ((some a).map (·.2)).bind (numS 4) = numS 4 a.2 := rfl
    rw [e2] at h2 n2
    have ec2 : cutS l = (numS 4 a.2).bind fun b => (bytesS a.1 b.2).bind fun c => if crc c.1 = b.1 then some c else none := ec
    cases y : numS 4 a.2 with
    | none =>
      rw [y] at h2 ec2
      subst h2 h3
      rw [ec2]; rfl
    | some b =>
      rw [y] at h2 n2 ec2
      subst h2 n2
      have e3 : ((some b).map (·.2)).bind (bytesS (((some a).map (·.1)).getD 0)) = bytesS a.1 b.2 := rfl
      rw [e3] at h3 c3
      have ec3 : cutS l = (bytesS a.1 b.2).bind fun c => if crc c.1 = b.1 then some c else none := ec2
      cases z : bytesS a.1 b.2 with
      | none =>
        rw [z] at h3 ec3
        subst h3
        rw [ec3]; rfl
      | some c =>
        rw [z] at h3 c3 ec3
        subst h3 c3
        rw [ec3]; rfl

set_option maxHeartbeats 400000 in
set_option maxRecDepth 100000 in
theorem recCut_any (l : List UInt8) (w : World) (hl : l.length ≤ maxLen) :
    Calls Tryz.prog 35 #[.string (bs l)] w fun e w' => e = .returned (CutRet (cutS l)) ∧ Touch [] w w' := by
  obtain ⟨W0, hW0⟩ : ∃ W0 : World, w.alloc (.cells #[.string (bs l), .bool false] 118) = W0 := ⟨_, rfl⟩
  have HF0 : Hid (FdIn W0 w.heap.size (some l)) := Lib.hid ⟨by rw [← hW0]; exact heap_alloc_new w _, hl⟩
  have T0 : Hid (Touch [] w W0) := Lib.hid (by rw [← hW0]; exact (Touch.refl _ w).alloc _)
  have HW0 := Lib.hid hW0
  clear hW0
  have b4 : ∀ o : Option (List UInt8), be (outS (o.bind (bytesS 4))) ≤ 4294967295 := fun o => by
    have hlen : (outS (o.bind (bytesS 4))).length ≤ 4 := by
      cases e : o.bind (bytesS 4) with
      | none => simp [outS]
      | some x =>
        obtain ⟨l, h1, h2⟩ := bind_some' e
        obtain ⟨y, r⟩ := x
        have := (bytesS_dec h2).2.2.2
        show y.length ≤ 4
        omega
    have := be_four hlen
    omega
  obtain ⟨o1, e1⟩ : ∃ o1, ((some l).bind (bytesS 4)).map (·.2) = o1 := ⟨_, rfl⟩
  obtain ⟨N1, n1⟩ : ∃ N1, be (outS ((some l).bind (bytesS 4))) = N1 := ⟨_, rfl⟩
  obtain ⟨o2, e2⟩ : ∃ o2, (o1.bind (bytesS 4)).map (·.2) = o2 := ⟨_, rfl⟩
  obtain ⟨N2, n2⟩ : ∃ N2, be (outS (o1.bind (bytesS 4))) = N2 := ⟨_, rfl⟩
  obtain ⟨o3, e3⟩ : ∃ o3, (o2.bind (bytesS N1)).map (·.2) = o3 := ⟨_, rfl⟩
  obtain ⟨C, c3⟩ : ∃ C, outS (o2.bind (bytesS N1)) = C := ⟨_, rfl⟩
  have HC := Lib.hid (cut_steps l e1 n1 e2 n2 e3 c3)
  have hN1 : N1 ≤ 4294967295 := by rw [← n1]; exact b4 _
  have hN2 : N2 ≤ 4294967295 := by rw [← n2]; exact b4 _
  have hCl : C.length ≤ 4294967295 := by
    rw [← c3]
    cases e : o2.bind (bytesS N1) with
    | none => simp [outS]
    | some x =>
      obtain ⟨l, h1, h2⟩ := bind_some' e
      obtain ⟨y, r⟩ := x
      have := (bytesS_dec h2).2.2.2
      show y.length ≤ _
      omega
  have hc1 := fdNumber_any w.heap.size 4 (some l) W0 HF0.out (by decide)
  have hc2 := fun w' h' => fdNumber_any w.heap.size 4 o1 w' h' (by decide)
  have hc3 := fun w' h' => fdBytes_any w.heap.size N1 o2 w' h' (by unfold maxLen; omega)
  have hc4 := fun w' => recSum_any (bs C) w' (by rw [bs_size]; unfold maxLen; omega)
  rw [e1, n1] at hc1
  rw [e2, n2] at hc2
  rw [e3, c3] at hc3
  rw [bs_toList] at hc4
  have hcr : crc C ≤ 4294967295 := by unfold crc; omega
  obtain ⟨Q, hQ⟩ : ∃ Q, crc C = Q := ⟨_, rfl⟩
  rw [hQ] at hc4 hcr HC
  have HC2 := Lib.hid hc2
  have HC3 := Lib.hid hc3
  have HC4 := Lib.hid hc4
  have sC := bs_size C
  clear e1 n1 e2 n2 e3 c3 hc2 hc3 hc4 hQ b4
  go_enter Tryz.func35, Tryz.ntmps35
  go_wp2_with fail
  rw [HW0.out]
  refine hc1.mono ?_
  rintro e w1 ⟨rfl, h1, h2⟩
  have F1 := Lib.hid h1
  have T1 := Lib.hid (touch_same T0.out h2)
  clear hc1 h1 h2
  go_wp2_with fail
  refine (HC2.out _ F1.out).mono ?_
  rintro e w2 ⟨rfl, h1, h2⟩
  have F2 := Lib.hid h1
  have T2 := Lib.hid (touch_same T1.out h2)
  clear h1 h2
  go_wp2_with fail
  refine (HC3.out _ F2.out).mono ?_
  rintro e w3 ⟨rfl, h1, h2⟩
  have F3 := Lib.hid h1
  have T3 := Lib.hid (touch_same T2.out h2)
  clear h1 h2
  cases o3 with
  | none =>
    have c1 := fd_none F3.out rfl
    have HE : Hid (CutRet (cutS l) = .tuple #[.string (bs []), .string (bs []), .bool false]) := Lib.hid (by rw [HC.out]; rfl)
    go_wp2_with fail
    go_ret3
    exact ⟨by rw [HE.out]; rfl, T3.out⟩
  | some r =>
    obtain ⟨c0, c1⟩ := fd_some F3.out rfl
    go_wp2_with fail
    refine (HC4.out _).mono ?_
    rintro e w4 ⟨rfl, rfl⟩
    go_wp2_with fail
    · rename_i h
      have hne : ¬ Q = N2 := by simp at h; omega
      have HE : Hid (CutRet (cutS l) = .tuple #[.string (bs []), .string (bs []), .bool false]) := Lib.hid (by
        rw [HC.out]
        show CutRet (if Q = N2 then some (C, r) else none) = _
        rw [if_neg hne]; rfl)
      go_ret3
      exact ⟨by rw [HE.out]; rfl, T3.out⟩
    · have h : ((Q : Int) != (N2 : Int)) = false := by assumption
      have he : Q = N2 := by simp at h; omega
      have HE : Hid (CutRet (cutS l) = .tuple #[.string (bs C), .string (bs r), .bool true]) := Lib.hid (by
        rw [HC.out]
        show CutRet (if Q = N2 then some (C, r) else none) = _
        rw [if_pos he]; rfl)
      clear h he
      go_quiet (fail)
      go_wp2_with fail
      go_ret3
      exact ⟨by rw [HE.out]; rfl, T3.out.drewN _⟩
end Go.Proofs.YtgjjjdccbpjnfaaGreatDoor

/- What is kept, read from the front: the document's Read. -/
namespace Go.Proofs.YtgjjjdccbpjnfaaGreatDoor
open Go.RowKit

/-! ### plain -/
def readF : Nat → PStore → Nat → List UInt8 → PStore × Nat
  | 0, S, k, _ => (S, k)
  | f + 1, S, k, l =>
    match cutS l with
    | none => (S, k)
    | some c => match S.takes c.1 with
      | none => (S, k)
      | some S' => readF f S' (k + 8 + c.1.length) c.2
/-- what is read of l, and how many bytes -/
def readS (l : List UInt8) : PStore × Nat := readF (l.length + 1) ⟨[], 0⟩ 0 l
theorem readF_no {f k : Nat} {S : PStore} {l : List UInt8} (h : cutS l = none) : readF (f + 1) S k l = (S, k) := by
  rw [readF, h]
theorem readF_not {f k : Nat} {S : PStore} {l : List UInt8} {c : List UInt8 × List UInt8} (h : cutS l = some c) (ht : S.takes c.1 = none) : readF (f + 1) S k l = (S, k) := by
  rw [readF, h]; simp only [ht]
theorem readF_yes {f k : Nat} {S S' : PStore} {l : List UInt8} {c : List UInt8 × List UInt8} (h : cutS l = some c) (ht : S.takes c.1 = some S') : readF (f + 1) S k l = readF f S' (k + 8 + c.1.length) c.2 := by
  rw [readF, h]; simp only [ht]
theorem cut_doc (l : List UInt8) : cutS l = if l.length < 8 + be (l.take 4) ∨ ¬ be ((l.drop 4).take 4) = crc ((l.drop 8).take (be (l.take 4))) then none else some ((l.drop 8).take (be (l.take 4)), (l.drop 8).drop (be (l.take 4))) := by
  have e8 : (l.drop 4).drop 4 = l.drop 8 := by rw [List.drop_drop]
  have l8 : (l.drop 8).length = l.length - 8 := List.length_drop
  unfold cutS numS
  by_cases h4 : 4 ≤ l.length
  · rw [if_pos h4]
    simp only [sb]
    by_cases h8 : 4 ≤ (l.drop 4).length
    · rw [if_pos h8]
      simp only [sb]
      rw [e8]
      unfold bytesS
      rw [List.length_drop] at h8
      obtain ⟨r, er⟩ : ∃ r, l.drop 8 = r := ⟨_, rfl⟩
      rw [er] at l8 ⊢
      by_cases hn : be (l.take 4) ≤ r.length
      · rw [if_pos hn]
        simp only [sb]
        by_cases hc : crc (r.take (be (l.take 4))) = be ((l.drop 4).take 4)
        · rw [if_pos hc, if_neg (by
            rintro (h | h)
            · omega
            · exact h hc.symm)]
        · rw [if_neg hc, if_pos (.inr (fun h => hc h.symm))]
      · rw [if_neg hn, if_pos (.inl (by omega))]; rfl
    · rw [if_neg h8]
      rw [List.length_drop] at h8
      rw [if_pos (.inl (by omega))]; rfl
  · rw [if_neg h4, if_pos (.inl (by omega))]; rfl
theorem outs_items (S : PStore) (K : Nat) (ps : List Nat) : (S.outs K ps).items.length = S.items.length ∧ (S.outs K ps).time = S.time := by
  unfold PStore.outs; simp
theorem failed_items (S : PStore) (m : PMail) (ps : List Nat) (T : Nat) : (S.failed m ps T).items.length ≤ S.items.length + 1 ∧ (S.failed m ps T).time = T := by
  unfold PStore.failed
  split <;> simp
theorem takes_sizes {S S' : PStore} {l : List UInt8} (h : S.takes l = some S') (ht : S.time ≤ 1000000000) : S'.items.length ≤ S.items.length + 1 ∧ S'.time ≤ 1000000000 := by
  cases l with
  | nil => cases h
  | cons c r =>
    unfold PStore.takes at h
    simp only at h
    split at h
    · split at h
      · rename_i hp
        injection h with h
        subst h
        rw [Bool.and_eq_true] at hp
        have h1 := hp.1
        unfold properB at h1
        simp only [Bool.and_eq_true, decide_eq_true_eq] at h1
        exact ⟨by simp, h1.1.1.1.1.1.2⟩
      · cases h
    · split at h
      · split at h
        · injection h with h
          subst h
          have := outs_items S ((listL r).1 - 1) (listL r).2
          exact ⟨by omega, by omega⟩
        · cases h
      · split at h
        · split at h
          · rename_i hp
            injection h with h
            subst h
            simp only [Bool.and_eq_true, decide_eq_true_eq] at hp
            have h1 := outs_items S ((listL (r.drop 4)).1 - 1) (listL (r.drop 4)).2
            have h2 := failed_items (S.outs ((listL (r.drop 4)).1 - 1) (listL (r.drop 4)).2) (S.mailOf ((listL (r.drop 4)).1 - 1)) (listL (r.drop 4)).2 (be (r.take 4))
            exact ⟨by omega, by omega⟩
          · cases h
        · cases h

theorem cutS_len {l : List UInt8} {c : List UInt8 × List UInt8} (h : cutS l = some c) : l.length = 8 + c.1.length + c.2.length := by
  rw [cut_doc] at h
  split at h
  · cases h
  · rename_i hn
    injection h with h
    subst h
    simp only [List.length_take, List.length_drop]
    have : ¬ l.length < 8 + be (l.take 4) := fun e => hn (.inl e)
    omega
theorem readF_len : ∀ (f k : Nat) (S : PStore) (l : List UInt8), 8 * S.items.length ≤ k → S.time ≤ 1000000000 → 8 * (readF f S k l).1.items.length ≤ (readF f S k l).2 ∧ (readF f S k l).2 ≤ k + l.length ∧ (readF f S k l).1.time ≤ 1000000000
  | 0, k, S, l, h, ht => ⟨h, by rw [readF]; omega, ht⟩
  | f + 1, k, S, l, h, ht => by
    cases hc : cutS l with
    | none => rw [readF_no hc]; exact ⟨h, by show k ≤ _; omega, ht⟩
    | some c =>
      cases hs : S.takes c.1 with
      | none => rw [readF_not hc hs]; exact ⟨h, by show k ≤ _; omega, ht⟩
      | some S' =>
        have h1 := takes_sizes hs ht
        have h2 := cutS_len hc
        have h3 := readF_len f (k + 8 + c.1.length) S' c.2 (by omega) h1.2
        rw [readF_yes hc hs]
        exact ⟨h3.1, by omega, h3.2.2⟩
theorem readS_len (l : List UInt8) : 8 * (readS l).1.items.length ≤ (readS l).2 ∧ (readS l).2 ≤ l.length ∧ (readS l).1.time ≤ 1000000000 := by
  have := readF_len (l.length + 1) 0 ⟨[], 0⟩ l (by simp) (by simp)
  unfold readS
  omega

theorem StoreIn.nil {w : World} : StoreIn w.heap.size (w.alloc (.cells #[.slice none 0 0, .int .i64 0] 146)) w.heap.size ⟨[], 0⟩ :=
  ⟨.slice none 0 0, [], rfl, Nat.le_refl _, heap_alloc_new w _, World.ownsRow_nil _ _ _ _, by simp, fun x hx => by cases hx⟩

set_option maxHeartbeats 1000000 in
set_option maxRecDepth 100000 in
theorem refRead_any (l : List UInt8) (w : World) (hl : l.length ≤ 1048576) :
    Calls Tryz.prog 82 #[.string (bs l)] w fun e w' => ∃ p, e = .returned (.tuple #[.pointer (some ⟨p, 0, none⟩), .int .i64 (readS l).2]) ∧ StoreIn w.heap.size w' p (readS l).1 ∧ Below w.heap.size w w' := by
  obtain ⟨s, hs⟩ : ∃ s, w.heap.size = s := ⟨_, rfl⟩
  obtain ⟨W0, hW0⟩ : ∃ W0 : World, w.alloc (.cells #[.slice none 0 0, .int .i64 0] 146) = W0 := ⟨_, rfl⟩
  have HS0 : Hid (StoreIn s W0 s ⟨[], 0⟩) := Lib.hid (by rw [← hW0, ← hs]; exact StoreIn.nil)
  have HB0 : Hid (Below s w W0) := Lib.hid (by rw [← hW0, ← hs]; exact (Below.refl _ _).alloc (Nat.le_refl _) _)
  have sl := bs_size l
  have HW0 := Lib.hid hW0
  rw [hs]
  have HSS := Lib.hid hs
  clear hW0
  go_enter Tryz.func82, Tryz.ntmps82
  go_wp2_with fail
  rw [HW0.out]
  clear hs
  go_loopw [5] (fun v w' => ∃ (k f : Nat) (S : PStore), v = .int .i64 k ∧ k ≤ l.length ∧ 8 * S.items.length ≤ k ∧ Hid (l.length + 1 ≤ k + f) ∧ Hid (S.time ≤ 1000000000) ∧ Hid (StoreIn s w' s S) ∧ Hid (Below s w w') ∧ Hid (readF f S k (l.drop k) = readS l)) (fun v _ => l.length - (intOf v).toNat)
  case atStart => exact ⟨0, l.length + 1, ⟨[], 0⟩, rfl, Nat.zero_le _, by simp, Lib.hid (by omega), Lib.hid (by simp), HS0, HB0, Lib.hid rfl⟩
  case round =>
    clear HS0 HB0
    obtain ⟨k, f, S, rfl, hk, hS, HF, HT, HS, HB, HR⟩ := hrel
    obtain ⟨f, rfl⟩ : ∃ g, f = g + 1 := ⟨f - 1, by have := HF.out; omega⟩
    obtain ⟨R, eR⟩ : ∃ R, l.drop k = R := ⟨_, rfl⟩
    have hRl : R.length = l.length - k := by rw [← eR, List.length_drop]
    have hN4 : be (R.take 4) ≤ 4294967295 := by have := be_four (l := R.take 4) (by rw [List.length_take]; omega); omega
    obtain ⟨N, eN⟩ : ∃ N, be (R.take 4) = N := ⟨_, rfl⟩
    obtain ⟨R1, e1⟩ : ∃ R1, R.drop 4 = R1 := ⟨_, rfl⟩
    have hC4 : be (R1.take 4) ≤ 4294967295 := by have := be_four (l := R1.take 4) (by rw [List.length_take]; omega); omega
    obtain ⟨C, eC⟩ : ∃ C, be (R1.take 4) = C := ⟨_, rfl⟩
    obtain ⟨R2, e2⟩ : ∃ R2, R1.drop 4 = R2 := ⟨_, rfl⟩
    obtain ⟨T, eT⟩ : ∃ T, R2.take N = T := ⟨_, rfl⟩
    obtain ⟨R3, e3⟩ : ∃ R3, R2.drop N = R3 := ⟨_, rfl⟩
    have HCD : Hid (cutS R = if R.length < 8 + N ∨ ¬ C = crc T then none else some (T, R3)) := Lib.hid (by
      have e8 : R.drop 8 = R2 := by rw [← e2, ← e1, List.drop_drop]
      rw [cut_doc, eN, e1, eC, e8, eT, e3])
    have h1l : R1.length ≤ 1048576 := by rw [← e1, List.length_drop]; omega
    have h2l : R2.length ≤ 1048576 := by rw [← e2, List.length_drop]; omega
    have hTl : T.length ≤ 1048576 := by rw [← eT, List.length_take]; omega
    have HTN : Hid (T.length = min N R2.length) := Lib.hid (by rw [← eT, List.length_take])
    have HR2 : Hid (R2.length = R.length - 8) := Lib.hid (by rw [← e2, ← e1, List.length_drop, List.length_drop]; omega)
    have HR3 : Hid (R3 = l.drop (k + 8 + N)) := Lib.hid (by rw [← e3, ← e2, ← e1, ← eR, List.drop_drop, List.drop_drop, List.drop_drop]; congr 1; omega)
    have hc1 := fun w' h' => rdNumber_any wr.heap.size 4 R w' h' (by unfold maxLen; omega) (by decide)
    have hc2 := fun w' h' => rdNumber_any wr.heap.size 4 R1 w' h' (by unfold maxLen; omega) (by decide)
    have hc3 := fun w' h' => rdTake_any wr.heap.size N R2 w' h' (by unfold maxLen; omega) (by unfold maxLen; omega)
    have hc4 := fun w' => refSum_any (bs T) w' (by rw [bs_size]; unfold maxLen; omega)
    rw [eN] at hN4
    rw [eC] at hC4
    rw [eN, e1] at hc1
    rw [eC, e2] at hc2
    rw [eT, e3] at hc3
    rw [bs_toList] at hc4
    have hcr : crc T ≤ 4294967295 := by unfold crc; omega
    obtain ⟨Q, hQ⟩ : ∃ Q, crc T = Q := ⟨_, rfl⟩
    rw [hQ] at hc4 hcr HCD
    have HC1 := Lib.hid hc1
    have HC2 := Lib.hid hc2
    have HC3 := Lib.hid hc3
    have HC4 := Lib.hid hc4
    have sT := bs_size T
    rw [eR] at HR
    have HER := Lib.hid eR
    have hsw : s ≤ wr.heap.size := by have := HB.out.size; have := HSS.out; omega
    clear eN e1 eC e2 eT e3 hc1 hc2 hc3 hc4 hQ eR
    go_wp2_with fail
    have HEX : Hid ((bs l).extract k l.length = bs R) := Lib.hid (by rw [bs_extract, List.take_length, HER.out])
    rw [HEX.out]
    obtain ⟨W1, hW1⟩ : ∃ W1 : World, wr.alloc (.cells #[.string (bs R)] 194) = W1 := ⟨_, rfl⟩
    have hR1 : Rd W1 wr.heap.size R := by rw [← hW1]; exact heap_alloc_new wr _
    have TT1 : Touch [194] wr W1 := by rw [← hW1]; exact (Touch.refl _ wr).alloc _
    have BB1 : Below s w W1 := by rw [← hW1]; exact HB.out.alloc hsw _
    rw [hW1]
    refine (HC1.out W1 hR1).mono ?_
    rintro e w1 ⟨rfl, g1, g2⟩
    have A1 := Lib.hid g1
    have T1 := Lib.hid (TT1.same hR1 (by simp) g2)
    have B1 := Lib.hid (BB1.trans (g2.below hsw))
    clear g1 g2 hR1 TT1 BB1 hW1 HC1
    go_wp2_with fail
    refine (HC2.out w1 A1.out).mono ?_
    rintro e w2 ⟨rfl, g1, g2⟩
    have A2 := Lib.hid g1
    have T2 := Lib.hid (T1.out.same A1.out (by simp) g2)
    have B2 := Lib.hid (B1.out.trans (g2.below hsw))
    clear g1 g2 A1 T1 B1 HC2
    go_wp2_with fail
    refine (HC3.out w2 A2.out).mono ?_
    rintro e w3 ⟨rfl, g1, g2⟩
    have T3 := Lib.hid (T2.out.same A2.out (by simp) g2)
    have B3 := Lib.hid (B2.out.trans (g2.below hsw))
    have HS3 : Hid (StoreIn s w3 s S) := Lib.hid (HS.out.touch T3.out (by decide) (by decide) (by decide) (by decide))
    clear g1 g2 A2 T2 B2 HC3 HS HB
    by_cases hlen : l.length < k + 8 + N
    · have HE : Hid (readS l = (S, k)) := Lib.hid (by
        rw [← HR.out]
        exact readF_no (by rw [HCD.out, if_pos (.inl (by omega))]))
      clear HR HCD
      go_wp2_with fail
      go_ret2
      rw [HE.out]
      exact ⟨s, rfl, HS3.out, B3.out⟩
    · go_wp2_with fail
      refine (HC4.out w3).mono ?_
      rintro e w4 ⟨rfl, rfl⟩
      have hTN : T.length = N := by have := HTN.out; have := HR2.out; omega
      have hs4 : s ≤ w3.heap.size := by have := T3.out.size; omega
      clear HC4
      by_cases hcq : C = Q
      · have hb : (decide ((l.length : Int) < (k : Int) + 8 + (N : Int)) || (C : Int) != (Q : Int)) = false := by rw [hcq]; simp; omega
        have HCS : Hid (cutS R = some (T, R3)) := Lib.hid (by rw [HCD.out, if_neg (by
          rintro (h | h)
          · omega
          · exact h hcq)])
        have htk := refTakes_any s s S T w3 HS3.out hs4 (by omega) HT.out hTl
        cases hSt : S.takes T with
        | none =>
          have HE : Hid (readS l = (S, k)) := Lib.hid (by
            rw [← HR.out]
            exact readF_not HCS.out hSt)
          rw [hSt] at htk
          have HTK := Lib.hid htk
          clear htk HR HCD HCS hcq hSt
          go_wp2_with fail
          refine HTK.out.mono ?_
          rintro e w5 ⟨rfl, r1, r2⟩
          have R1' := Lib.hid r1
          have R2' := Lib.hid (B3.out.trans r2)
          clear r1 r2 HTK
          go_wp2_with fail
          go_ret2
          rw [HE.out]
          exact ⟨s, rfl, R1'.out, R2'.out⟩
        | some S' =>
          have HE : Hid (readF f S' (k + 8 + N) (l.drop (k + 8 + N)) = readS l) := Lib.hid (by
            rw [← HR.out, readF_yes HCS.out hSt]
            rw [show (T, R3).1.length = N from hTN, HR3.out])
          have HZ := Lib.hid (takes_sizes hSt HT.out)
          rw [hSt] at htk
          have HTK := Lib.hid htk
          clear htk HR HCD HCS hcq hSt
          go_wp2_with fail
          refine HTK.out.mono ?_
          rintro e w5 ⟨rfl, r1, r2⟩
          have R1' := Lib.hid r1
          have R2' := Lib.hid (B3.out.trans r2)
          clear r1 r2 HTK
          go_wp2_with fail
          have hz := HZ.out
          have hf := HF.out
          refine ⟨⟨k + 8 + N, f, S', by go_num, by omega, by omega, Lib.hid (by omega), Lib.hid hz.2, R1', R2', HE⟩, by simp [intOf]; omega⟩
      · have hb : (decide ((l.length : Int) < (k : Int) + 8 + (N : Int)) || (C : Int) != (Q : Int)) = true := by simp; omega
        have HE : Hid (readS l = (S, k)) := Lib.hid (by
          rw [← HR.out]
          exact readF_no (by rw [HCD.out, if_pos (.inr hcq)]))
        clear HR HCD
        go_wp2_with fail
        go_ret2
        rw [HE.out]
        exact ⟨s, rfl, HS3.out, B3.out⟩
end Go.Proofs.YtgjjjdccbpjnfaaGreatDoor

/- Those who are still there, of a mail in the document's store. -/
namespace Go.Proofs.YtgjjjdccbpjnfaaGreatDoor
open Go.RowKit

def leftOf (out : List Bool) (k : Nat) : List Nat := (List.range k).filter fun i => !(out.getD i false)
theorem leftOf_succ (out : List Bool) (k : Nat) : leftOf out (k + 1) = leftOf out k ++ (if out.getD k false then [] else [k]) := by
  unfold leftOf
  rw [List.range_succ, List.filter_append]
  cases h : out.getD k false <;> (rw [List.getD_eq_getElem?_getD] at h; simp [h])
theorem leftOf_len (out : List Bool) (k : Nat) : (leftOf out k).length ≤ k := by
  unfold leftOf
  have := List.length_filter_le (fun i => !(out.getD i false)) (List.range k)
  simpa using this

set_option maxHeartbeats 400000 in
set_option maxRecDepth 100000 in
theorem refLeft_any (base : Nat) (x : PItem × Value × Nat) (w : World) (h : ItemIn base w x) :
    Calls Tryz.prog 95 #[.agg (itemCells x).toArray] w fun e w' => ∃ v, e = .returned v ∧ w'.ownsRow w.heap.size 3 1 v (leftOf x.1.out x.1.out.length).length (natCells (leftOf x.1.out x.1.out.length)) ∧ Touch [] w w' := by
  obtain ⟨⟨⟨id, time, frm, tos, body⟩, out⟩, vt, bo⟩ := x
  obtain ⟨h1, h2, h3, h4, h5, h6⟩ := h
  simp only at h1 h2 h3 h4 h5 h6
  obtain ⟨i0, hi, hz0, hz1, hz2⟩ := info_parts info_int'
  obtain ⟨gt, ct, rfl⟩ : ∃ gt ct, vt = .slice (some ⟨gt, 0, none⟩) tos.length ct := by
    rcases h1.2 with ⟨_, h0⟩ | ⟨g, cp, cur, e, _⟩
    · omega
    · exact ⟨g, cp, e⟩
  have ho : out.length ≤ 255 := by rw [h4]; exact h6.2.2.2.1
  have HO := Lib.hid h3
  simp only [itemCells]
  obtain ⟨W0, hW0⟩ : ∃ W0 : World, w.alloc (.cells #[.int .i64 id, .int .i64 time, .string (bs frm), .slice (some ⟨gt, 0, none⟩) tos.length ct, .string (bs body), .slice (some ⟨bo, 0, none⟩) out.length out.length] 168) = W0 := ⟨_, rfl⟩
  have hs0 : W0.heap.size = w.heap.size + 1 := by rw [← hW0]; simp
  have hb0 : Below w.heap.size w W0 := by rw [← hW0]; exact (Below.refl _ _).alloc (Nat.le_refl _) _
  have hx5 : W0.heap[w.heap.size]? = some (.cells #[.int .i64 id, .int .i64 time, .string (bs frm), .slice (some ⟨gt, 0, none⟩) tos.length ct, .string (bs body), .slice (some ⟨bo, 0, none⟩) out.length out.length] 168 (0, 0)) := by rw [← hW0]; exact heap_alloc_new w _
  have HX5 := Lib.hid hx5
  have HB0 := Lib.hid hb0
  have HS0 := Lib.hid hs0
  have HW0 := Lib.hid hW0
  clear h1 h2 h3 h4 h5 h6 hx5 hb0 hs0 hW0
  go_enter Tryz.func95, Tryz.ntmps95
  go_wp2_with fail
  rw [HW0.out]
  go_loopw [3, 4] (fun v i w' => ∃ k : Nat, k ≤ out.length ∧ i = .int .i64 k ∧ Hid (w'.ownsRow w.heap.size 3 1 v (leftOf out k).length (natCells (leftOf out k))) ∧ Hid (Touch [] w w') ∧ Hid (w'.heap[w.heap.size]? = some (.cells #[.int .i64 id, .int .i64 time, .string (bs frm), .slice (some ⟨gt, 0, none⟩) tos.length ct, .string (bs body), .slice (some ⟨bo, 0, none⟩) out.length out.length] 168 (0, 0)))) (fun _ i _ => out.length - (intOf i).toNat)
  case atStart => exact ⟨0, Nat.zero_le _, rfl, Lib.hid (World.ownsRow_nil _ _ _ _), Lib.hid (Touch.below HB0.out), HX5⟩
  case round =>
    obtain ⟨k, hk, rfl, HW, HT, HX⟩ := hrel
    have x5 : wr.cell? ⟨w.heap.size, 5, none⟩ = some (.slice (some ⟨bo, 0, none⟩) out.length out.length) := by rw [Lib.cell_of_heap HX.out]; rfl
    by_cases hlt : k < out.length
    · have hlti : (k : Int) < (out.length : Int) := by omega
      have eb : wr.cell? ⟨bo, k, none⟩ = some (.bool (out.getD k false)) := by
        rw [Lib.cell_of_heap (HT.out.cells HO.out (by simp))]
        simp [boolCells, List.getD_eq_getElem?_getD, hlt]
      have HLS := Lib.hid (leftOf_succ out k)
      have hle := leftOf_len out k
      cases hb : out.getD k false with
      | true =>
        rw [hb] at eb HLS
        go_wp2_with fail
        refine ⟨⟨k + 1, by omega, by go_num, Lib.hid ?_, HT, HX⟩, by simp [intOf]; omega⟩
        rw [HLS.out]
        simpa using HW.out
      | false =>
        rw [hb] at eb HLS
        have hown := HW.out
        have hwl : w.heap.size ≤ wr.heap.size := HT.out.1
        obtain ⟨M, hM⟩ : ∃ M, (leftOf out k).length = M := ⟨_, rfl⟩
        rw [hM] at hown hle
        have HM := Lib.hid hM
        clear hM
        go_wp2_with (first
          | (at_builtin; refine wpList_append_own _ rfl _ _ 34 rfl w.heap.size 3 i0 (.int .i64 0) 1 8 Tryz.underlying34 hi hz0 hz1 hz2 rfl (by decide) _ _ _ rfl (hown.alloc _) ⟨wr.heap.size, 0, none⟩ 1 1 [.int .i64 (k : Int)] rfl rfl ?c1 ?c2 ?c3 ?c4 ?c5 ?_)
          | fail)
        case c1 =>
          intro j u hj
          match j, hj with
          | 0, hj =>
            simp only [List.getElem?_cons_zero, Option.some.injEq] at hj
            subst hj
            simp [Addr.add]
        case c2 => intro u hu; simp at hu; subst hu; rfl
        case c3 => unfold maxLen; omega
        case c4 => omega
        case c5 => simp; omega
        · intro v' w4 hown' hgrow _
          have HO' := Lib.hid hown'
          have T4 : Hid (Touch [] w w4) := Lib.hid ((HT.out.alloc _).grownNew hgrow (fun k hk => (hown.lt k hk).1))
          have X4 : Hid (w4.heap[w.heap.size]? = some (.cells #[.int .i64 id, .int .i64 time, .string (bs frm), .slice (some ⟨gt, 0, none⟩) tos.length ct, .string (bs body), .slice (some ⟨bo, 0, none⟩) out.length out.length] 168 (0, 0))) := Lib.hid (by
            have hlt0 := heap_lt HX.out
            rw [hgrow.block w.heap.size (by simp; omega) (fun e => by
              rcases hown.2 with ⟨e1, _⟩ | ⟨g, cp, cur, e1, _, hg, _⟩
              · rw [e1] at e; cases e
              · rw [e1] at e
                injection e with e
                exact tag_ne HX.out hg (by decide) e)]
            rw [((Below.refl wr.heap.size wr).alloc (Nat.le_refl _) _).block _ hlt0]
            exact HX.out)
          clear hown' hgrow hown
          go_wp2_with fail
          refine ⟨⟨k + 1, by omega, by go_num, Lib.hid ?_, T4, X4⟩, by simp [intOf]; omega⟩
          rw [HLS.out]
          have := HO'.out
          rw [← HM.out] at this
          simpa [natCells] using this
    · have hk9 : k = out.length := by omega
      subst hk9
      go_wp2_with fail
      go_ret
      exact ⟨_, rfl, HW.out, HT.out⟩
end Go.Proofs.YtgjjjdccbpjnfaaGreatDoor
