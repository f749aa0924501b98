/- The document's answer: bytes written in letters of six bits. -/
import Derived.Test.YtnfhdbmmoicilaaDoorPlain64
import Derived.Test.YtnfhdbmmoicilaaDoorRefDom
namespace Go.Proofs.YtnfhdbmmoicilaaDoor
open Go.RowKit

theorem wr_append : ∀ (x y : List UInt8), x.length % 3 = 0 → wr64 (x ++ y) = wr64 x ++ wr64 y
  | [], _, _ => rfl
  | [_], _, h => by simp at h
  | [_, _], _, h => by simp at h
  | a :: b :: c :: r, y, h => by
    have := wr_append r y (by simp at h; omega)
    simp only [List.cons_append, wr64, this]
theorem wr_next (l : List UInt8) (q : Nat) (hq : q % 3 = 0) (hl : q < l.length) : wr64 (l.take (q + 3)) = wr64 (l.take q) ++ wr64 ((l.drop q).take 3) := by
  rw [List.take_add, wr_append _ _ (by rw [List.length_take, Nat.min_eq_left (by omega)]; exact hq)]

/-- the four letters of a group of n bytes -/
def letAt (V n k : Nat) : UInt8 := if k ≤ n then let6 (V / 2 ^ (18 - 6 * k) % 64) else 61
def lets (V n : Nat) : List UInt8 := [letAt V n 0, letAt V n 1, letAt V n 2, letAt V n 3]
theorem lets_take (V n k : Nat) (hk : k < 4) : (lets V n).take (k + 1) = (lets V n).take k ++ [letAt V n k] := by
  have : k = 0 ∨ k = 1 ∨ k = 2 ∨ k = 3 := by omega
  rcases this with rfl | rfl | rfl | rfl <;> rfl
theorem letAt_yes {V n k A : Nat} (hk : k ≤ n) (hA : V / 2 ^ (18 - 6 * k) % 64 = A) : letAt V n k = let6 A := by
  unfold letAt; rw [if_pos hk, hA]
theorem letAt_no {V n k : Nat} (hk : ¬ k ≤ n) : letAt V n k = 61 := by
  unfold letAt; rw [if_neg hk]
theorem at_nat (V k : Nat) : ((V : Int) / 2 ^ (18 - 6 * k)).tmod 64 = ((V / 2 ^ (18 - 6 * k) % 64 : Nat) : Int) := by
  have e : ((V : Int) / 2 ^ (18 - 6 * k)) = ((V / 2 ^ (18 - 6 * k) : Nat) : Int) := by
    rw [Int.natCast_ediv, Int.natCast_pow]; rfl
  rw [e, Int.tmod_eq_emod_of_nonneg (Int.natCast_nonneg _)]
  omega

def table : ByteArray := ⟨#[65, 66, 67, 68, 69, 70, 71, 72, 73, 74, 75, 76, 77, 78, 79, 80, 81, 82, 83, 84, 85, 86, 87, 88, 89, 90, 97, 98, 99, 100, 101, 102, 103, 104, 105, 106, 107, 108, 109, 110, 111, 112, 113, 114, 115, 116, 117, 118, 119, 120, 121, 122, 48, 49, 50, 51, 52, 53, 54, 55, 56, 57, 43, 47]⟩
theorem table_list : table.data.toList = (List.range 64).map let6 := by decide
theorem table_at (A : Nat) (h : A < 64) : table.data.toList[A]? = some (let6 A) := by
  rw [table_list, List.getElem?_map, List.getElem?_range h]; rfl
theorem table_cut (A : Nat) (h : A < 64) : (table.extract A (A + 1)).data.toList = [let6 A] := by
  rw [Lib.extract_data, show A + 1 - A = 1 by omega, List.take_one, List.head?_drop, table_at A h]; rfl

theorem wr_3 (x y z : UInt8) : wr64 [x, y, z] = lets (65536 * x.toNat + 256 * y.toNat + z.toNat) 3 := by
  have hx := x.toNat_lt
  have hy := y.toNat_lt
  have hz := z.toNat_lt
  simp only [wr64, lets]
  rw [letAt_yes (A := x.toNat / 4) (by decide) (by show _ / 262144 % 64 = _; omega), letAt_yes (A := x.toNat % 4 * 16 + y.toNat / 16) (by decide) (by show _ / 4096 % 64 = _; omega), letAt_yes (A := y.toNat % 16 * 4 + z.toNat / 64) (by decide) (by show _ / 64 % 64 = _; omega), letAt_yes (A := z.toNat % 64) (by decide) (by show _ / 1 % 64 = _; omega)]
theorem wr_2 (x y : UInt8) : wr64 [x, y] = lets (65536 * x.toNat + 256 * y.toNat) 2 := by
  have hx := x.toNat_lt
  have hy := y.toNat_lt
  simp only [wr64, lets]
  rw [letAt_yes (A := x.toNat / 4) (by decide) (by show _ / 262144 % 64 = _; omega), letAt_yes (A := x.toNat % 4 * 16 + y.toNat / 16) (by decide) (by show _ / 4096 % 64 = _; omega), letAt_yes (A := y.toNat % 16 * 4) (by decide) (by show _ / 64 % 64 = _; omega), letAt_no (by decide)]
theorem wr_1 (x : UInt8) : wr64 [x] = lets (65536 * x.toNat) 1 := by
  have hx := x.toNat_lt
  simp only [wr64, lets]
  rw [letAt_yes (A := x.toNat / 4) (by decide) (by show _ / 262144 % 64 = _; omega), letAt_yes (A := x.toNat % 4 * 16) (by decide) (by show _ / 4096 % 64 = _; omega), letAt_no (by decide), letAt_no (by decide)]

theorem cut_3 (b : ByteArray) (q : Nat) (h : q + 2 < b.size) : (b.data.toList.drop q).take 3 = [b[q], b[q + 1], b[q + 2]] := by
  rw [List.drop_eq_getElem_cons (by simp; omega), List.drop_eq_getElem_cons (by simp; omega), List.drop_eq_getElem_cons (by simp; omega)]
  rfl
theorem cut_2 (b : ByteArray) (q : Nat) (h : q + 1 < b.size) (h2 : ¬ q + 2 < b.size) : (b.data.toList.drop q).take 3 = [b[q], b[q + 1]] := by
  rw [List.drop_eq_getElem_cons (by simp; omega), List.drop_eq_getElem_cons (by simp; omega), List.drop_eq_nil_of_le (by simp; omega)]
  rfl
theorem cut_1 (b : ByteArray) (q : Nat) (h : q < b.size) (h2 : ¬ q + 1 < b.size) : (b.data.toList.drop q).take 3 = [b[q]] := by
  rw [List.drop_eq_getElem_cons (by simp; omega), List.drop_eq_nil_of_le (by simp; omega)]
  rfl

theorem wr_len : ∀ x : List UInt8, (wr64 x).length ≤ 4 * x.length
  | [] => by simp [wr64]
  | [_] => by simp [wr64]
  | [_, _] => by simp [wr64]
  | _ :: _ :: _ :: r => by have := wr_len r; simp [wr64]; omega
theorem app_list (a c : ByteArray) : (a ++ c).data.toList = a.data.toList ++ c.data.toList := by simp

def WrRel (l : List UInt8) (s i : Value) : Prop :=
  ∃ (S : ByteArray) (q : Nat), s = .string S ∧ i = .int .i64 q ∧ q % 3 = 0 ∧ q ≤ l.length + 2 ∧ S.data.toList = wr64 (l.take q)

set_option maxHeartbeats 2000000 in
set_option maxRecDepth 100000 in
theorem written_any (b : ByteArray) (w : World) (hs : b.size ≤ 140737488355328) :
    Calls Tryd.prog 21 #[.string b] w fun e w' => e = .returned (.string ⟨(wr64 b.data.toList).toArray⟩) ∧ w' = w := by
  go_enter Tryd.func21, Tryd.ntmps21
  go_wp2
  go_loop [3, 4] (fun s i => WrRel b.data.toList s i) (fun _ i => b.size + 3 - (intOf i).toNat)
  case atStart => exact ⟨⟨#[]⟩, 0, rfl, rfl, rfl, by omega, rfl⟩
  case round =>
    obtain ⟨S, q, rfl, rfl, hq3, hq, hS⟩ := hrel
    rw [size_of_toList] at hq
    have HS := Lib.hid hS
    have HQ := Lib.hid hq3
    clear hS hq3
    by_cases h1 : q < b.size
    · have HNX := Lib.hid (wr_next b.data.toList q HQ.out (by rw [size_of_toList]; exact h1))
      by_cases h2 : q + 1 < b.size
      · by_cases h3 : q + 2 < b.size
        · have i1 : (q : Int) + 1 < (b.size : Int) := by omega
          have i2 : (q : Int) + 2 < (b.size : Int) := by omega
          have t0 : (b[q].toNat : Int) < 256 := by have := b[q].toNat_lt; omega
          have t1 : (b[q + 1].toNat : Int) < 256 := by have := b[q + 1].toNat_lt; omega
          have t2 : (b[q + 2].toNat : Int) < 256 := by have := b[q + 2].toNat_lt; omega
          have HW : Hid (wr64 ((b.data.toList.drop q).take 3) = lets (65536 * b[q].toNat + 256 * b[q + 1].toNat + b[q + 2].toNat) 3) := by
            show _ = _
            rw [cut_3 b q h3, wr_3]
          go_wp2
          go_loop [5, 6, 7] (fun v n k => (k = .int .i64 0 ∧ v = .int .i64 0 ∧ n = .int .i64 0) ∨ (k = .int .i64 1 ∧ v = .int .i64 ((b[q].toNat : Int)) ∧ n = .int .i64 1) ∨ (k = .int .i64 2 ∧ v = .int .i64 (256 * (b[q].toNat : Int) + (b[q + 1].toNat : Int)) ∧ n = .int .i64 2) ∨ (k = .int .i64 3 ∧ v = .int .i64 (256 * (256 * (b[q].toNat : Int) + (b[q + 1].toNat : Int)) + (b[q + 2].toNat : Int)) ∧ n = .int .i64 3)) (fun _ _ k => 3 - (intOf k).toNat)
          case atStart => exact Or.inl ⟨rfl, rfl, rfl⟩
          case round =>
            rcases hrel with ⟨rfl, rfl, rfl⟩ | ⟨rfl, rfl, rfl⟩ | ⟨rfl, rfl, rfl⟩ | ⟨rfl, rfl, rfl⟩
            · go_wp2
              go_round
              case rel => exact Or.inr (Or.inl ⟨rfl, rfl, rfl⟩)
              case measure => decide
            · go_wp2
              go_round
              case rel => exact Or.inr (Or.inr (Or.inl ⟨rfl, rfl, rfl⟩))
              case measure => decide
            · go_wp2
              go_round
              case rel => exact Or.inr (Or.inr (Or.inr ⟨rfl, rfl, rfl⟩))
              case measure => decide
            · obtain ⟨V, hV, hVn⟩ : ∃ V : Nat, 256 * (256 * (b[q].toNat : Int) + (b[q + 1].toNat : Int)) + (b[q + 2].toNat : Int) = (V : Int) ∧ 65536 * b[q].toNat + 256 * b[q + 1].toNat + b[q + 2].toNat = V := ⟨65536 * b[q].toNat + 256 * b[q + 1].toNat + b[q + 2].toNat, by omega, rfl⟩
              rw [hV]
              rw [hVn] at HW
              clear hV hVn t0 t1 t2
              go_wp2
              go_loopw [3, 8] (fun s kv w1 => ∃ (T : ByteArray) (k : Nat), s = .string T ∧ kv = .int .i64 k ∧ k ≤ 4 ∧ Hid (T.data.toList = S.data.toList ++ (lets V 3).take k) ∧ w1 = w) (fun _ k _ => 4 - (intOf k).toNat)
              case atStart => exact ⟨S, 0, rfl, rfl, by omega, (by show _ = _; simp), rfl⟩
              case round =>
                obtain ⟨T, k, rfl, rfl, hk, HT, rfl⟩ := hrel
                have HTs : Hid (T.size ≤ 1125899906842624) := by
                  show _ ≤ _
                  have e1 := congrArg List.length HT.out
                  have e2 := congrArg List.length HS.out
                  have e3 := wr_len (b.data.toList.take q)
                  rw [size_of_toList, List.length_append, List.length_take] at e1
                  rw [List.length_take, size_of_toList] at e3
                  omega
                by_cases hk4 : k < 4
                · have hb4 : decide ((k : Int) < 4) = true := by simp; omega
                  by_cases hkn : k ≤ 3
                  · have hkn' : (k : Int) ≤ 3 := by omega
                    have hat := at_nat V k
                    obtain ⟨A, hA⟩ : ∃ A, V / 2 ^ (18 - 6 * k) % 64 = A := ⟨_, rfl⟩
                    rw [hA] at hat
                    have hA64 : (A : Int) < 64 := by omega
                    have HA := Lib.hid hA
                    clear hA
                    have hno : ¬ 9223372036854775807 < T.size + (min (A + 1) 64 - A) := by have := HTs.out; omega
                    go_wp2_with fail
                    refine ⟨⟨_, k + 1, rfl, by go_num, by omega, ?_, trivial⟩, by simp [intOf]; omega⟩
                    show _ = _
                    rw [app_list, lets_take V 3 k hk4, ← List.append_assoc, ← HT.out, letAt_yes hkn HA.out, ← table_cut A (by omega)]
                    rfl
                  · omega
                · have hb4 : decide ((k : Int) < 4) = false := by simp; omega
                  have hk4' : Hid (k = 4) := by show k = 4; omega
                  go_wp2_with fail
                  refine ⟨⟨T, q + 3, rfl, by go_num, by have := HQ.out; omega, by rw [size_of_toList]; omega, ?_⟩, by simp [intOf]; omega⟩
                  rw [HNX.out, HW.out, ← HS.out, HT.out, hk4'.out]; rfl
        · have i1 : (q : Int) + 1 < (b.size : Int) := by omega
          have i2 : ¬ (q : Int) + 2 < (b.size : Int) := by omega
          have t0 : (b[q].toNat : Int) < 256 := by have := b[q].toNat_lt; omega
          have t1 : (b[q + 1].toNat : Int) < 256 := by have := b[q + 1].toNat_lt; omega
          have HW : Hid (wr64 ((b.data.toList.drop q).take 3) = lets (65536 * b[q].toNat + 256 * b[q + 1].toNat) 2) := by
            show _ = _
            rw [cut_2 b q h2 h3, wr_2]
          go_wp2
          go_loop [5, 6, 7] (fun v n k => (k = .int .i64 0 ∧ v = .int .i64 0 ∧ n = .int .i64 0) ∨ (k = .int .i64 1 ∧ v = .int .i64 ((b[q].toNat : Int)) ∧ n = .int .i64 1) ∨ (k = .int .i64 2 ∧ v = .int .i64 (256 * (b[q].toNat : Int) + (b[q + 1].toNat : Int)) ∧ n = .int .i64 2) ∨ (k = .int .i64 3 ∧ v = .int .i64 (256 * (256 * (b[q].toNat : Int) + (b[q + 1].toNat : Int))) ∧ n = .int .i64 2)) (fun _ _ k => 3 - (intOf k).toNat)
          case atStart => exact Or.inl ⟨rfl, rfl, rfl⟩
          case round =>
            rcases hrel with ⟨rfl, rfl, rfl⟩ | ⟨rfl, rfl, rfl⟩ | ⟨rfl, rfl, rfl⟩ | ⟨rfl, rfl, rfl⟩
            · go_wp2
              go_round
              case rel => exact Or.inr (Or.inl ⟨rfl, rfl, rfl⟩)
              case measure => decide
            · go_wp2
              go_round
              case rel => exact Or.inr (Or.inr (Or.inl ⟨rfl, rfl, rfl⟩))
              case measure => decide
            · go_wp2
              go_round
              case rel => exact Or.inr (Or.inr (Or.inr ⟨rfl, rfl, rfl⟩))
              case measure => decide
            · obtain ⟨V, hV, hVn⟩ : ∃ V : Nat, 256 * (256 * (b[q].toNat : Int) + (b[q + 1].toNat : Int)) = (V : Int) ∧ 65536 * b[q].toNat + 256 * b[q + 1].toNat = V := ⟨65536 * b[q].toNat + 256 * b[q + 1].toNat, by omega, rfl⟩
              rw [hV]
              rw [hVn] at HW
              clear hV hVn t0 t1
              go_wp2
              go_loopw [3, 8] (fun s kv w1 => ∃ (T : ByteArray) (k : Nat), s = .string T ∧ kv = .int .i64 k ∧ k ≤ 4 ∧ Hid (T.data.toList = S.data.toList ++ (lets V 2).take k) ∧ w1 = w) (fun _ k _ => 4 - (intOf k).toNat)
              case atStart => exact ⟨S, 0, rfl, rfl, by omega, (by show _ = _; simp), rfl⟩
              case round =>
                obtain ⟨T, k, rfl, rfl, hk, HT, rfl⟩ := hrel
                have HTs : Hid (T.size ≤ 1125899906842624) := by
                  show _ ≤ _
                  have e1 := congrArg List.length HT.out
                  have e2 := congrArg List.length HS.out
                  have e3 := wr_len (b.data.toList.take q)
                  rw [size_of_toList, List.length_append, List.length_take] at e1
                  rw [List.length_take, size_of_toList] at e3
                  omega
                by_cases hk4 : k < 4
                · have hb4 : decide ((k : Int) < 4) = true := by simp; omega
                  by_cases hkn : k ≤ 2
                  · have hkn' : (k : Int) ≤ 2 := by omega
                    have hat := at_nat V k
                    obtain ⟨A, hA⟩ : ∃ A, V / 2 ^ (18 - 6 * k) % 64 = A := ⟨_, rfl⟩
                    rw [hA] at hat
                    have hA64 : (A : Int) < 64 := by omega
                    have HA := Lib.hid hA
                    clear hA
                    have hno : ¬ 9223372036854775807 < T.size + (min (A + 1) 64 - A) := by have := HTs.out; omega
                    go_wp2_with fail
                    refine ⟨⟨_, k + 1, rfl, by go_num, by omega, ?_, trivial⟩, by simp [intOf]; omega⟩
                    show _ = _
                    rw [app_list, lets_take V 2 k hk4, ← List.append_assoc, ← HT.out, letAt_yes hkn HA.out, ← table_cut A (by omega)]
                    rfl
                  · have hkn' : ¬ (k : Int) ≤ 2 := by omega
                    have hno : ¬ 9223372036854775807 < T.size + 1 := by have := HTs.out; omega
                    go_wp2_with fail
                    refine ⟨⟨_, k + 1, rfl, by go_num, by omega, ?_, trivial⟩, by simp [intOf]; omega⟩
                    show _ = _
                    rw [app_list, lets_take V 2 k hk4, ← List.append_assoc, ← HT.out, letAt_no hkn]
                · have hb4 : decide ((k : Int) < 4) = false := by simp; omega
                  have hk4' : Hid (k = 4) := by show k = 4; omega
                  go_wp2_with fail
                  refine ⟨⟨T, q + 3, rfl, by go_num, by have := HQ.out; omega, by rw [size_of_toList]; omega, ?_⟩, by simp [intOf]; omega⟩
                  rw [HNX.out, HW.out, ← HS.out, HT.out, hk4'.out]; rfl
      · have i1 : ¬ (q : Int) + 1 < (b.size : Int) := by omega
        have i2 : ¬ (q : Int) + 2 < (b.size : Int) := by omega
        have t0 : (b[q].toNat : Int) < 256 := by have := b[q].toNat_lt; omega
        have HW : Hid (wr64 ((b.data.toList.drop q).take 3) = lets (65536 * b[q].toNat) 1) := by
          show _ = _
          rw [cut_1 b q h1 h2, wr_1]
        go_wp2
        go_loop [5, 6, 7] (fun v n k => (k = .int .i64 0 ∧ v = .int .i64 0 ∧ n = .int .i64 0) ∨ (k = .int .i64 1 ∧ v = .int .i64 ((b[q].toNat : Int)) ∧ n = .int .i64 1) ∨ (k = .int .i64 2 ∧ v = .int .i64 (256 * (b[q].toNat : Int)) ∧ n = .int .i64 1) ∨ (k = .int .i64 3 ∧ v = .int .i64 (256 * (256 * (b[q].toNat : Int))) ∧ n = .int .i64 1)) (fun _ _ k => 3 - (intOf k).toNat)
        case atStart => exact Or.inl ⟨rfl, rfl, rfl⟩
        case round =>
          rcases hrel with ⟨rfl, rfl, rfl⟩ | ⟨rfl, rfl, rfl⟩ | ⟨rfl, rfl, rfl⟩ | ⟨rfl, rfl, rfl⟩
          · go_wp2
            go_round
            case rel => exact Or.inr (Or.inl ⟨rfl, rfl, rfl⟩)
            case measure => decide
          · go_wp2
            go_round
            case rel => exact Or.inr (Or.inr (Or.inl ⟨rfl, rfl, rfl⟩))
            case measure => decide
          · go_wp2
            go_round
            case rel => exact Or.inr (Or.inr (Or.inr ⟨rfl, rfl, rfl⟩))
            case measure => decide
          · obtain ⟨V, hV, hVn⟩ : ∃ V : Nat, 256 * (256 * (b[q].toNat : Int)) = (V : Int) ∧ 65536 * b[q].toNat = V := ⟨65536 * b[q].toNat, by omega, rfl⟩
            rw [hV]
            rw [hVn] at HW
            clear hV hVn t0
            go_wp2
            go_loopw [3, 8] (fun s kv w1 => ∃ (T : ByteArray) (k : Nat), s = .string T ∧ kv = .int .i64 k ∧ k ≤ 4 ∧ Hid (T.data.toList = S.data.toList ++ (lets V 1).take k) ∧ w1 = w) (fun _ k _ => 4 - (intOf k).toNat)
            case atStart => exact ⟨S, 0, rfl, rfl, by omega, (by show _ = _; simp), rfl⟩
            case round =>
              obtain ⟨T, k, rfl, rfl, hk, HT, rfl⟩ := hrel
              have HTs : Hid (T.size ≤ 1125899906842624) := by
                show _ ≤ _
                have e1 := congrArg List.length HT.out
                have e2 := congrArg List.length HS.out
                have e3 := wr_len (b.data.toList.take q)
                rw [size_of_toList, List.length_append, List.length_take] at e1
                rw [List.length_take, size_of_toList] at e3
                omega
              by_cases hk4 : k < 4
              · have hb4 : decide ((k : Int) < 4) = true := by simp; omega
                by_cases hkn : k ≤ 1
                · have hkn' : (k : Int) ≤ 1 := by omega
                  have hat := at_nat V k
                  obtain ⟨A, hA⟩ : ∃ A, V / 2 ^ (18 - 6 * k) % 64 = A := ⟨_, rfl⟩
                  rw [hA] at hat
                  have hA64 : (A : Int) < 64 := by omega
                  have HA := Lib.hid hA
                  clear hA
                  have hno : ¬ 9223372036854775807 < T.size + (min (A + 1) 64 - A) := by have := HTs.out; omega
                  go_wp2_with fail
                  refine ⟨⟨_, k + 1, rfl, by go_num, by omega, ?_, trivial⟩, by simp [intOf]; omega⟩
                  show _ = _
                  rw [app_list, lets_take V 1 k hk4, ← List.append_assoc, ← HT.out, letAt_yes hkn HA.out, ← table_cut A (by omega)]
                  rfl
                · have hkn' : ¬ (k : Int) ≤ 1 := by omega
                  have hno : ¬ 9223372036854775807 < T.size + 1 := by have := HTs.out; omega
                  go_wp2_with fail
                  refine ⟨⟨_, k + 1, rfl, by go_num, by omega, ?_, trivial⟩, by simp [intOf]; omega⟩
                  show _ = _
                  rw [app_list, lets_take V 1 k hk4, ← List.append_assoc, ← HT.out, letAt_no hkn]
              · have hb4 : decide ((k : Int) < 4) = false := by simp; omega
                have hk4' : Hid (k = 4) := by show k = 4; omega
                go_wp2_with fail
                refine ⟨⟨T, q + 3, rfl, by go_num, by have := HQ.out; omega, by rw [size_of_toList]; omega, ?_⟩, by simp [intOf]; omega⟩
                rw [HNX.out, HW.out, ← HS.out, HT.out, hk4'.out]; rfl
    · have HE : Hid (wr64 b.data.toList = S.data.toList) := by
        show _ = _
        rw [HS.out, List.take_of_length_le (by rw [size_of_toList]; omega)]
      go_wp2
      go_ret
      refine ⟨?_, rfl⟩
      rw [HE.out]
      exact congrArg (fun t => Ending.returned (.string t)) (Lib.mk_data S).symm
end Go.Proofs.YtnfhdbmmoicilaaDoor
