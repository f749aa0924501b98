import Derived.Test.YtadcidbeealdpaaGreatDoorS27
import Derived.Test.YtadcidbeealdpaaGreatDoorS01
import Derived.Deep.QuietTactic
import Derived.BigQuiet
import Derived.Test.YtadcidbeealdpaaGreatDoorS02
import Derived.Lib.Hide
import Derived.Laws.BitsAllLaws

/- Commands: a size. -/
namespace Go.Proofs.YtadcidbeealdpaaGreatDoor
open Go.RowKit

def numB (l : List UInt8) : Bool := decide (1 ≤ l.length) && decide (l.length ≤ 9) && !(decide (1 < l.length) && (l.getD 0 0 == 48)) && l.all fun c => digB c.toNat
theorem numB_short {l : List UInt8} (h : l.length < 1) : numB l = false := by unfold numB; rw [decide_eq_false (by omega)]; rfl
theorem numB_long {l : List UInt8} (h : 9 < l.length) : numB l = false := by unfold numB; rw [decide_eq_false (p := l.length ≤ 9) (by omega), Bool.and_false]; rfl
theorem numB_zero {l : List UInt8} (h : 1 < l.length) (h0 : l.getD 0 0 = 48) : numB l = false := by unfold numB; rw [decide_eq_true (p := 1 < l.length) h, h0]; simp
theorem numB_all {l : List UInt8} (h1 : 1 ≤ l.length) (h2 : l.length ≤ 9) (h3 : l.length = 1 ∨ l.getD 0 0 ≠ 48) : numB l = l.all fun c => digB c.toNat := by
  unfold numB
  rw [decide_eq_true h1, decide_eq_true h2]
  have : (decide (1 < l.length) && (l.getD 0 0 == 48)) = false := by
    rcases h3 with h3 | h3
    · rw [decide_eq_false (by omega)]; rfl
    · rw [beq_eq_false_iff_ne.2 h3, Bool.and_false]
  rw [this]; simp

set_option maxHeartbeats 1000000 in
set_option maxRecDepth 100000 in
theorem isNumber_any (s : ByteArray) (w : World) (hs : s.size ≤ maxLen) :
    Calls Tryz.prog 170 #[.string s] w fun e w' => e = .returned (.bool (numB s.data.toList)) ∧ w' = w := by
  unfold maxLen at hs
  have hsz := size_of_toList s
  by_cases h1 : s.size < 1
  · have HR := Lib.hid (numB_short (l := s.data.toList) (by omega))
    have hi : (s.size : Int) < 1 := by omega
    go_enter Tryz.func170, Tryz.ntmps170
    go_wp2_with fail
    go_ret
    exact ⟨by rw [HR.out]; rfl, rfl⟩
  · have hi : ¬ (s.size : Int) < 1 := by omega
    by_cases h2 : 9 < s.size
    · have HR := Lib.hid (numB_long (l := s.data.toList) (by omega))
      have hj : (9 : Int) < (s.size : Int) := by omega
      go_enter Tryz.func170, Tryz.ntmps170
      go_wp2_with fail
      go_ret
      exact ⟨by rw [HR.out]; rfl, rfl⟩
    · have hj : ¬ (9 : Int) < (s.size : Int) := by omega
      by_cases h3 : s.size = 1
      · have HR := Lib.hid (numB_all (l := s.data.toList) (by omega) (by omega) (.inl (by omega)))
        have hk : ¬ (1 : Int) < (s.size : Int) := by omega
        go_enter Tryz.func170, Tryz.ntmps170
        go_wp2_with fail
        go_loop [24] (fun i => ∃ k : Nat, k ≤ s.size ∧ i = .int .i64 k ∧ Hid (∀ j : Nat, j < k → (fun c : UInt8 => digB c.toNat) (s.data.toList.getD j 0) = true)) (fun i => s.size - (intOf i).toNat)
        case atStart => exact ⟨0, Nat.zero_le _, rfl, fun j hj => by omega⟩
        case round =>
          obtain ⟨k, hk, rfl, HN⟩ := hrel
          by_cases hlt : k < s.size
          · have hlti : (k : Int) < (s.size : Int) := by omega
            have hg : Hid (s.data.toList.getD k 0 = s[k]) := getD_of s k hlt
            by_cases hlo : (s[k].toNat : Int) < 48
            · have HO : Hid ((fun c : UInt8 => digB c.toNat) s[k] = false) := Lib.hid (by simp only [digB]; rw [decide_eq_false (by omega)]; rfl)
              go_wp2_with fail
              go_ret
              exact ⟨ret_bool (by rw [HR.out]; exact (all_no (p := fun c : UInt8 => digB c.toNat) (by rw [size_of_toList]; exact hlt) (by rw [hg.out]; exact HO.out)).symm), rfl⟩
            · by_cases hhi : (57 : Int) < (s[k].toNat : Int)
              · have HO : Hid ((fun c : UInt8 => digB c.toNat) s[k] = false) := Lib.hid (by simp only [digB]; rw [decide_eq_false (p := (s[k].toNat : Int) ≤ 57) (by omega), Bool.and_false])
                go_wp2_with fail
                go_ret
                exact ⟨ret_bool (by rw [HR.out]; exact (all_no (p := fun c : UInt8 => digB c.toNat) (by rw [size_of_toList]; exact hlt) (by rw [hg.out]; exact HO.out)).symm), rfl⟩
              · have HO : Hid ((fun c : UInt8 => digB c.toNat) s[k] = true) := Lib.hid (by simp only [digB]; rw [decide_eq_true (by omega), decide_eq_true (by omega)]; rfl)
                go_wp2_with fail
                exact ⟨⟨k + 1, by omega, by go_num, Lib.hid (ok_succ (p := fun c : UInt8 => digB c.toNat) HN.out hg.out HO.out)⟩, by simp [intOf]; omega⟩
          · go_wp2_with fail
            go_ret
            exact ⟨ret_bool (by rw [HR.out]; exact (all_of (p := fun c : UInt8 => digB c.toNat) (fun j hj => HN.out j (by rw [size_of_toList] at hj; omega))).symm), rfl⟩
      · have hk : (1 : Int) < (s.size : Int) := by omega
        have h0 : 0 < s.size := by omega
        have hg0 := getD_of s 0 h0
        by_cases h4 : s[0] = 48
        · have HR := Lib.hid (numB_zero (l := s.data.toList) (by omega) (by rw [hg0, h4]))
          have h4' : ((s[0].toNat : Int) == 48) = true := by rw [h4]; rfl
          clear h4 hg0
          go_enter Tryz.func170, Tryz.ntmps170
          go_wp2_with fail
          go_ret
          exact ⟨by rw [HR.out]; rfl, rfl⟩
        · have HR := Lib.hid (numB_all (l := s.data.toList) (by omega) (by omega) (.inr (by rw [hg0]; exact h4)))
          have h4' : ((s[0].toNat : Int) == 48) = false := by
            rw [beq_eq_false_iff_ne]
            intro e
            exact h4 (UInt8.toNat_inj.1 (by show s[0].toNat = 48; omega))
          clear h4 hg0
          go_enter Tryz.func170, Tryz.ntmps170
          go_wp2_with fail
          go_loop [24] (fun i => ∃ k : Nat, k ≤ s.size ∧ i = .int .i64 k ∧ Hid (∀ j : Nat, j < k → (fun c : UInt8 => digB c.toNat) (s.data.toList.getD j 0) = true)) (fun i => s.size - (intOf i).toNat)
          case atStart => exact ⟨0, Nat.zero_le _, rfl, fun j hj => by omega⟩
          case round =>
            obtain ⟨k, hk, rfl, HN⟩ := hrel
            by_cases hlt : k < s.size
            · have hlti : (k : Int) < (s.size : Int) := by omega
              have hg : Hid (s.data.toList.getD k 0 = s[k]) := getD_of s k hlt
              by_cases hlo : (s[k].toNat : Int) < 48
              · have HO : Hid ((fun c : UInt8 => digB c.toNat) s[k] = false) := Lib.hid (by simp only [digB]; rw [decide_eq_false (by omega)]; rfl)
                go_wp2_with fail
                go_ret
                exact ⟨ret_bool (by rw [HR.out]; exact (all_no (p := fun c : UInt8 => digB c.toNat) (by rw [size_of_toList]; exact hlt) (by rw [hg.out]; exact HO.out)).symm), rfl⟩
              · by_cases hhi : (57 : Int) < (s[k].toNat : Int)
                · have HO : Hid ((fun c : UInt8 => digB c.toNat) s[k] = false) := Lib.hid (by simp only [digB]; rw [decide_eq_false (p := (s[k].toNat : Int) ≤ 57) (by omega), Bool.and_false])
                  go_wp2_with fail
                  go_ret
                  exact ⟨ret_bool (by rw [HR.out]; exact (all_no (p := fun c : UInt8 => digB c.toNat) (by rw [size_of_toList]; exact hlt) (by rw [hg.out]; exact HO.out)).symm), rfl⟩
                · have HO : Hid ((fun c : UInt8 => digB c.toNat) s[k] = true) := Lib.hid (by simp only [digB]; rw [decide_eq_true (by omega), decide_eq_true (by omega)]; rfl)
                  go_wp2_with fail
                  exact ⟨⟨k + 1, by omega, by go_num, Lib.hid (ok_succ (p := fun c : UInt8 => digB c.toNat) HN.out hg.out HO.out)⟩, by simp [intOf]; omega⟩
            · go_wp2_with fail
              go_ret
              exact ⟨ret_bool (by rw [HR.out]; exact (all_of (p := fun c : UInt8 => digB c.toNat) (fun j hj => HN.out j (by rw [size_of_toList] at hj; omega))).symm), rfl⟩

/-- the number that digits write -/
def decN (l : List UInt8) : Nat := l.foldl (fun n c => 10 * n + (c.toNat - 48)) 0
theorem decFrom_digits : ∀ (l : List UInt8) (acc : Nat), (∀ c ∈ l, digB c.toNat = true) → Lib.decFrom acc l = some (l.foldl (fun n c => 10 * n + (c.toNat - 48)) acc)
  | [], acc, _ => by simp [Lib.decFrom]
  | c :: l, acc, h => by
    have hc := h c (List.mem_cons_self ..)
    unfold digB at hc
    simp only [Bool.and_eq_true, decide_eq_true_eq] at hc
    have hd : Lib.digitVal c = some (c.toNat - 48) := by unfold Lib.digitVal; rw [if_pos (by omega)]
    rw [Lib.decFrom, hd, List.foldl_cons]
    show Lib.decFrom (acc * 10 + (c.toNat - 48)) l = _
    rw [decFrom_digits l _ (fun x hx => h x (List.mem_cons_of_mem _ hx)), Nat.mul_comm]
theorem numB_digits {l : List UInt8} (h : numB l = true) : (1 ≤ l.length ∧ l.length ≤ 9) ∧ ∀ c ∈ l, digB c.toNat = true := by
  unfold numB at h
  simp only [Bool.and_eq_true, decide_eq_true_eq, List.all_eq_true] at h
  exact ⟨⟨h.1.1.1, h.1.1.2⟩, h.2⟩
theorem atoi_digits {l : List UInt8} (h : numB l = true) : Lib.atoi l = some ((decN l : Nat) : Int) := by
  obtain ⟨⟨h1, _⟩, h2⟩ := numB_digits h
  cases l with
  | nil => simp at h1
  | cons c l =>
    have hc := h2 c (List.mem_cons_self ..)
    unfold digB at hc
    simp only [Bool.and_eq_true, decide_eq_true_eq] at hc
    have n1 : (c == 45) = false := by rw [beq_eq_false_iff_ne]; rintro rfl; simp at hc
    have n2 : (c == 43) = false := by rw [beq_eq_false_iff_ne]; rintro rfl; simp at hc
    unfold Lib.atoi
    simp only [n1, n2, Bool.false_eq_true, if_false]
    unfold Lib.decNat
    rw [show (c :: l).isEmpty = false from rfl]
    simp only [Bool.false_eq_true, if_false]
    rw [decFrom_digits _ _ h2]
    rfl
def sizeS (l : List UInt8) : Option Nat :=
  if l = [] then some 0 else match cutPS l [32, 83, 73, 90, 69, 61] with | some d => if numB d then some (decN d) else none | none => none
def sizeV (o : Option Nat) : Value :=
  match o with
  | some n => .tuple #[.int .i64 (n : Int), .bool true]
  | none => .tuple #[.int .i64 0, .bool false]

theorem below_bytesW2 {W : World} {e : TypeId} {x : ByteArray} : Below W.heap.size W (Lib.bytesWorld W e x) :=
  ⟨by simp [Lib.bytesWorld, World.freeze, World.alloc, World.drew, -World.alloc_eq, -World.drew_eq], by simp [Lib.bytesWorld, World.freeze, World.alloc, World.drew, -World.alloc_eq, -World.drew_eq], by simp [Lib.bytesWorld, World.freeze, World.alloc, World.drew, -World.alloc_eq, -World.drew_eq], by rw [Lib.bytesWorld_size]; omega, fun k hk => Lib.bytesWorld_at_old W e x k hk⟩
theorem cutPS_ascii {s p r : List UInt8} (h : cutPS s p = some r) (hs : asciiL s) : asciiL r ∧ r.length ≤ s.length := by
  unfold cutPS at h
  split at h
  · cases h
  · split at h
    · injection h with h
      rw [← h]
      exact ⟨fun x hx => hs x (List.mem_of_mem_drop hx), by rw [List.length_drop]; omega⟩
    · cases h
set_option maxHeartbeats 1000000 in
set_option maxRecDepth 100000 in
theorem readSize_any (l : List UInt8) (w : World) (hl : l.length ≤ 1048576) (ha : asciiL l) :
    Calls Tryz.prog 127 #[.string (bs l)] w fun e w' => e = .returned (sizeV (sizeS l)) ∧ Below w.heap.size w w' := by
  by_cases h0 : l = []
  · subst h0
    have HR : Hid (sizeS [] = some 0) := Lib.hid rfl
    rw [show bs ([] : List UInt8) = ⟨#[]⟩ from rfl]
    go_enter Tryz.func127, Tryz.ntmps127
    go_wp2_with fail
    go_ret2
    exact ⟨by rw [HR.out]; rfl, Below.refl _ _⟩
  · have hne : ((bs l).toList == []) = false := by rw [beq_eq_false_iff_ne, ByteArray.toList_eq, bs_toList]; exact h0
    have HCP := Lib.hid (cutPrefix_any l [32, 83, 73, 90, 69, 61] w hl (by decide) ha (by unfold asciiL; decide))
    have HS : Hid (sizeS l = match cutPS l [32, 83, 73, 90, 69, 61] with | some d => if numB d then some (decN d) else none | none => none) := Lib.hid (by unfold sizeS; rw [if_neg h0])
    cases hcp : cutPS l [32, 83, 73, 90, 69, 61] with
    | none =>
      rw [hcp] at HCP HS
      have HS2 : Hid (sizeS l = none) := Lib.hid HS.out
      clear hcp HS h0 ha
      simp only [cutPV] at HCP
      go_enter Tryz.func127, Tryz.ntmps127
      go_wp2_with fail
      refine HCP.out.mono ?_
      rintro e w1 ⟨rfl, rfl⟩
      go_wp2_with fail
      go_ret2
      exact ⟨by rw [HS2.out]; rfl, Below.refl _ _⟩
    | some d =>
      rw [hcp] at HCP HS
      have hd := cutPS_ascii hcp ha
      simp only [cutPV] at HCP
      have hds := bs_size d
      have HN := Lib.hid (isNumber_any (bs d) w (by unfold maxLen; omega))
      rw [bs_toList] at HN
      cases hn : numB d with
      | false =>
        rw [hn] at HN
        have HS2 : Hid (sizeS l = none) := Lib.hid (by rw [HS.out]; simp only []; rw [hn]; rfl)
        clear hcp HS h0 ha hd hn
        go_enter Tryz.func127, Tryz.ntmps127
        go_wp2_with fail
        refine HCP.out.mono ?_
        rintro e w1 ⟨rfl, rfl⟩
        go_wp2_with (first | (go_at_call 170; refine HN.out.mono ?_; rintro e w2 ⟨rfl, rfl⟩) | fail)
        go_ret2
        exact ⟨by rw [HS2.out]; rfl, Below.refl _ _⟩
      | true =>
        rw [hn] at HN
        have HS2 : Hid (sizeS l = some (decN d)) := Lib.hid (by rw [HS.out]; simp only []; rw [hn]; rfl)
        have HAT := Lib.hid (Tryz.strconv_Atoi (bs d) ((decN d : Nat) : Int) (by have := (numB_digits hn).1; omega) (by rw [bs_toList]; exact atoi_digits hn) w)
        obtain ⟨n, en⟩ : ∃ n, decN d = n := ⟨_, rfl⟩
        rw [en] at HS2 HAT
        clear hcp HS h0 ha hd hn en
        go_enter Tryz.func127, Tryz.ntmps127
        go_wp2_with fail
        refine HCP.out.mono ?_
        rintro e w1 ⟨rfl, rfl⟩
        go_wp2_with (first | (go_at_call 170; refine HN.out.mono ?_; rintro e w2 ⟨rfl, rfl⟩) | fail)
        refine HAT.out.mono ?_
        rintro e w3 ⟨rfl, t, rfl⟩
        go_wp2_with fail
        go_quiet (fail)
        go_wp2_with fail
        go_ret2
        exact ⟨by rw [HS2.out]; rfl, below_bytesW2.trans (below_drewN _ _ _)⟩
end Go.Proofs.YtadcidbeealdpaaGreatDoor

/- Letters of six bits, as functions on lists of bytes: as the program reads them (by groups of four), as the document's answer does (all letters in a row, written again and held against the text), and that the two are one. No program is named here. -/
namespace Go.Proofs.YtadcidbeealdpaaGreatDoor

def bOf (n : Nat) : UInt8 := UInt8.ofNat n
/-- the letter of a number -/
def letN (k : Nat) : Nat := if k < 26 then k + 65 else if k < 52 then k + 71 else if k < 62 then k - 4 else if k = 62 then 43 else 47
def let6 (k : Nat) : UInt8 := bOf (letN k)
/-- the number of a letter -/
def val (c : UInt8) : Option Nat :=
  if 65 ≤ c.toNat ∧ c.toNat ≤ 90 then some (c.toNat - 65) else if 97 ≤ c.toNat ∧ c.toNat ≤ 122 then some (c.toNat - 97 + 26) else if 48 ≤ c.toNat ∧ c.toNat ≤ 57 then some (c.toNat - 48 + 52) else if c.toNat = 43 then some 62 else if c.toNat = 47 then some 63 else none

theorem bOf_toNat (n : Nat) : (bOf n).toNat = n % 256 := by rw [bOf, UInt8.toNat_ofNat']
theorem bOf_eq (n : Nat) (c : UInt8) (h : n % 256 = c.toNat) : bOf n = c := UInt8.toNat_inj.1 (by rw [bOf_toNat, h])
theorem letN_lt (k : Nat) : letN k < 256 := by
  unfold letN
  by_cases h1 : k < 26
  · rw [if_pos h1]; omega
  rw [if_neg h1]
  by_cases h2 : k < 52
  · rw [if_pos h2]; omega
  rw [if_neg h2]
  by_cases h3 : k < 62
  · rw [if_pos h3]; omega
  rw [if_neg h3]
  by_cases h4 : k = 62
  · rw [if_pos h4]; omega
  · rw [if_neg h4]; omega
theorem let6_toNat (k : Nat) (_ : k < 64) : (let6 k).toNat = letN k := by
  have := letN_lt k
  rw [let6, bOf_toNat]; omega
theorem val_let6 (k : Nat) (h : k < 64) : val (let6 k) = some k := by
  unfold val
  rw [let6_toNat k h]
  unfold letN
  by_cases h1 : k < 26
  · rw [if_pos h1, if_pos (by omega)]; congr 1
  rw [if_neg h1]
  by_cases h2 : k < 52
  · rw [if_pos h2, if_neg (by omega), if_pos (by omega)]; congr 1; omega
  rw [if_neg h2]
  by_cases h3 : k < 62
  · rw [if_pos h3, if_neg (by omega), if_neg (by omega), if_pos (by omega)]; congr 1; omega
  rw [if_neg h3]
  by_cases h4 : k = 62
  · rw [if_pos h4, if_neg (by omega), if_neg (by omega), if_neg (by omega), if_pos rfl, h4]
  · rw [if_neg h4, if_neg (by omega), if_neg (by omega), if_neg (by omega), if_neg (by omega), if_pos rfl]; congr 1; omega
theorem let6_val {c : UInt8} {k : Nat} (h : val c = some k) : k < 64 ∧ let6 k = c := by
  have hk : k < 64 ∧ letN k = c.toNat := by
    unfold val at h
    unfold letN
    split at h
    · have : k = c.toNat - 65 := (Option.some.inj h).symm
      rw [if_pos (by omega)]; omega
    split at h
    · have : k = c.toNat - 97 + 26 := (Option.some.inj h).symm
      rw [if_neg (by omega), if_pos (by omega)]; omega
    split at h
    · have : k = c.toNat - 48 + 52 := (Option.some.inj h).symm
      rw [if_neg (by omega), if_neg (by omega), if_pos (by omega)]; omega
    split at h
    · have : k = 62 := (Option.some.inj h).symm
      rw [if_neg (by omega), if_neg (by omega), if_neg (by omega), if_pos (by omega)]; omega
    split at h
    · have : k = 63 := (Option.some.inj h).symm
      rw [if_neg (by omega), if_neg (by omega), if_neg (by omega), if_neg (by omega)]; omega
    · cases h
  refine ⟨hk.1, UInt8.toNat_inj.1 ?_⟩
  rw [let6_toNat k hk.1, hk.2]
theorem val_eq : val 61 = none := by decide
theorem let6_ne (k : Nat) (h : k < 64) : let6 k ≠ 61 := by
  intro e
  have := val_let6 k h
  rw [e, val_eq] at this; cases this

/-- one group, by how many bytes it stands for -/
def g1 (a b : UInt8) : Option (List UInt8) := match val a, val b with
  | some p, some q => if q % 16 = 0 then some [bOf (p * 4 + q / 16)] else none
  | _, _ => none
def g2 (a b c : UInt8) : Option (List UInt8) := match val a, val b, val c with
  | some p, some q, some r => if r % 4 = 0 then some [bOf (p * 4 + q / 16), bOf (q % 16 * 16 + r / 4)] else none
  | _, _, _ => none
def g3 (a b c d : UInt8) : Option (List UInt8) := match val a, val b, val c, val d with
  | some p, some q, some r, some t => some [bOf (p * 4 + q / 16), bOf (q % 16 * 16 + r / 4), bOf (r % 4 * 64 + t)]
  | _, _, _, _ => none
def grp (a b c d : UInt8) : Option (List UInt8) := if d = 61 then (if c = 61 then g1 a b else g2 a b c) else g3 a b c d

/-- the program's -/
def dec64 : List UInt8 → Option (List UInt8)
  | [] => some []
  | a :: b :: c :: d :: r => match grp a b c d with
    | none => none
    | some g => if g.length < 3 ∧ r ≠ [] then none else match dec64 r with
      | none => none
      | some y => some (g ++ y)
  | _ => none

/-- the document's: bytes in letters -/
def wr64 : List UInt8 → List UInt8
  | [] => []
  | [x] => [let6 (x.toNat / 4), let6 (x.toNat % 4 * 16), 61, 61]
  | [x, y] => [let6 (x.toNat / 4), let6 (x.toNat % 4 * 16 + y.toNat / 16), let6 (y.toNat % 16 * 4), 61]
  | x :: y :: z :: r => let6 (x.toNat / 4) :: let6 (x.toNat % 4 * 16 + y.toNat / 16) :: let6 (y.toNat % 16 * 4 + z.toNat / 64) :: let6 (z.toNat % 64) :: wr64 r

/-- one letter more -/
def step6 (st : List UInt8 × Nat × Nat) (c : UInt8) : List UInt8 × Nat × Nat :=
  match val c with
  | none => st
  | some k => if 8 ≤ st.2.2 + 6 then (st.1 ++ [bOf ((64 * st.2.1 + k) % 65536 / 2 ^ (st.2.2 + 6 - 8))], (64 * st.2.1 + k) % 65536, st.2.2 + 6 - 8) else (st.1, (64 * st.2.1 + k) % 65536, st.2.2 + 6)
def all6 (l : List UInt8) : List UInt8 × Nat × Nat := l.foldl step6 ([], 0, 0)
def ref64 (l : List UInt8) : List UInt8 × Bool := if wr64 (all6 l).1 = l then ((all6 l).1, true) else ([], false)

theorem dec_wr : ∀ x : List UInt8, dec64 (wr64 x) = some x
  | [] => rfl
  | [x] => by
    have hx := x.toNat_lt
    simp only [wr64, dec64, grp, g1, if_true]
    rw [val_let6 _ (by omega), val_let6 _ (by omega)]
    simp only
    rw [if_pos (by omega)]
    simp only [List.length_singleton]
    rw [if_neg (by simp)]
    simp only [List.append_nil]
    rw [bOf_eq _ x (by omega)]
  | [x, y] => by
    have hx := x.toNat_lt
    have hy := y.toNat_lt
    simp only [wr64, dec64, grp, g2, if_true]
    rw [if_neg (let6_ne _ (by omega)), val_let6 _ (by omega), val_let6 _ (by omega), val_let6 _ (by omega)]
    simp only
    rw [if_pos (by omega)]
    simp only [List.length_cons, List.length_nil]
    rw [if_neg (by simp)]
    simp only [List.append_nil]
    rw [bOf_eq _ x (by omega), bOf_eq _ y (by omega)]
  | x :: y :: z :: r => by
    have hx := x.toNat_lt
    have hy := y.toNat_lt
    have hz := z.toNat_lt
    simp only [wr64, dec64, grp, g3]
    rw [if_neg (let6_ne _ (by omega)), val_let6 _ (by omega), val_let6 _ (by omega), val_let6 _ (by omega), val_let6 _ (by omega)]
    simp only [List.length_cons, List.length_nil]
    rw [if_neg (by simp), dec_wr r]
    simp only [List.cons_append, List.nil_append]
    rw [bOf_eq _ x (by omega), bOf_eq _ y (by omega), bOf_eq _ z (by omega)]

theorem g1_wr {a b : UInt8} {g : List UInt8} (h : g1 a b = some g) : wr64 g = [a, b, 61, 61] ∧ g.length = 1 := by
  unfold g1 at h
  split at h
  · rename_i p q hp hq
    split at h
    · obtain ⟨hp1, hp2⟩ := let6_val hp
      obtain ⟨hq1, hq2⟩ := let6_val hq
      have := (Option.some.inj h).symm
      subst this
      refine ⟨?_, rfl⟩
      simp only [wr64]
      rw [bOf_toNat, ← hp2, ← hq2]
      rw [show (p * 4 + q / 16) % 256 / 4 = p by omega, show (p * 4 + q / 16) % 256 % 4 * 16 = q by omega]
    · cases h
  · cases h
theorem g2_wr {a b c : UInt8} {g : List UInt8} (h : g2 a b c = some g) : wr64 g = [a, b, c, 61] ∧ g.length = 2 := by
  unfold g2 at h
  split at h
  · rename_i p q r hp hq hr
    split at h
    · obtain ⟨hp1, hp2⟩ := let6_val hp
      obtain ⟨hq1, hq2⟩ := let6_val hq
      obtain ⟨hr1, hr2⟩ := let6_val hr
      have := (Option.some.inj h).symm
      subst this
      refine ⟨?_, rfl⟩
      simp only [wr64]
      rw [bOf_toNat, bOf_toNat, ← hp2, ← hq2, ← hr2]
      rw [show (p * 4 + q / 16) % 256 / 4 = p by omega, show (p * 4 + q / 16) % 256 % 4 * 16 + (q % 16 * 16 + r / 4) % 256 / 16 = q by omega, show (q % 16 * 16 + r / 4) % 256 % 16 * 4 = r by omega]
    · cases h
  · cases h
theorem g3_wr {a b c d : UInt8} {g : List UInt8} (h : g3 a b c d = some g) : (∀ y, wr64 (g ++ y) = a :: b :: c :: d :: wr64 y) ∧ g.length = 3 := by
  unfold g3 at h
  split at h
  · rename_i p q r t hp hq hr ht
    obtain ⟨hp1, hp2⟩ := let6_val hp
    obtain ⟨hq1, hq2⟩ := let6_val hq
    obtain ⟨hr1, hr2⟩ := let6_val hr
    obtain ⟨ht1, ht2⟩ := let6_val ht
    have := (Option.some.inj h).symm
    subst this
    refine ⟨fun y => ?_, rfl⟩
    simp only [List.cons_append, List.nil_append, wr64]
    rw [bOf_toNat, bOf_toNat, bOf_toNat, ← hp2, ← hq2, ← hr2, ← ht2]
    rw [show (p * 4 + q / 16) % 256 / 4 = p by omega, show (p * 4 + q / 16) % 256 % 4 * 16 + (q % 16 * 16 + r / 4) % 256 / 16 = q by omega, show (q % 16 * 16 + r / 4) % 256 % 16 * 4 + (r % 4 * 64 + t) % 256 / 64 = r by omega, show (r % 4 * 64 + t) % 256 % 64 = t by omega]
  · cases h

theorem wr_dec : ∀ (s x : List UInt8), dec64 s = some x → wr64 x = s
  | [], x, h => by
    have : x = [] := by simpa [dec64] using h.symm
    subst this; rfl
  | [_], x, h => by simp [dec64] at h
  | [_, _], x, h => by simp [dec64] at h
  | [_, _, _], x, h => by simp [dec64] at h
  | a :: b :: c :: d :: r, x, h => by
    rw [dec64] at h
    split at h
    · cases h
    · rename_i g hg
      split at h
      · cases h
      · rename_i hlen
        split at h
        · cases h
        · rename_i y hy
          have hx := (Option.some.inj h).symm
          subst hx
          unfold grp at hg
          by_cases hd : d = 61
          · rw [if_pos hd] at hg
            by_cases hc : c = 61
            · rw [if_pos hc] at hg
              obtain ⟨e1, e2⟩ := g1_wr hg
              have hr : r = [] := by
                cases r with
                | nil => rfl
                | cons _ _ => exact absurd ⟨by omega, by simp⟩ hlen
              subst hr
              have : y = [] := by simpa [dec64] using hy.symm
              subst this
              rw [List.append_nil, e1, hd, hc]
            · rw [if_neg hc] at hg
              obtain ⟨e1, e2⟩ := g2_wr hg
              have hr : r = [] := by
                cases r with
                | nil => rfl
                | cons _ _ => exact absurd ⟨by omega, by simp⟩ hlen
              subst hr
              have : y = [] := by simpa [dec64] using hy.symm
              subst this
              rw [List.append_nil, e1, hd]
          · rw [if_neg hd] at hg
            rw [(g3_wr hg).1 y, wr_dec r y hy]

theorem step_0 (b : List UInt8) (v k : Nat) (h : k < 64) : step6 (b, v, 0) (let6 k) = (b, (64 * v + k) % 65536, 6) := by
  unfold step6; rw [val_let6 k h]; rfl
theorem step_6 (b : List UInt8) (v k : Nat) (h : k < 64) : step6 (b, v, 6) (let6 k) = (b ++ [bOf ((64 * v + k) % 65536 / 16)], (64 * v + k) % 65536, 4) := by
  unfold step6; rw [val_let6 k h]; rfl
theorem step_4 (b : List UInt8) (v k : Nat) (h : k < 64) : step6 (b, v, 4) (let6 k) = (b ++ [bOf ((64 * v + k) % 65536 / 4)], (64 * v + k) % 65536, 2) := by
  unfold step6; rw [val_let6 k h]; rfl
theorem step_2 (b : List UInt8) (v k : Nat) (h : k < 64) : step6 (b, v, 2) (let6 k) = (b ++ [bOf ((64 * v + k) % 65536 / 1)], (64 * v + k) % 65536, 0) := by
  unfold step6; rw [val_let6 k h]; rfl
theorem step_pad (st : List UInt8 × Nat × Nat) : step6 st 61 = st := by
  unfold step6
  rw [val_eq]

theorem all_wr : ∀ (x b : List UInt8) (v : Nat), ((wr64 x).foldl step6 (b, v, 0)).1 = b ++ x
  | [], b, v => by simp [wr64]
  | [x], b, v => by
    have hx := x.toNat_lt
    simp only [wr64, List.foldl_cons, List.foldl_nil]
    rw [step_0 b v (x.toNat / 4) (by omega), step_6 b _ (x.toNat % 4 * 16) (by omega), step_pad, step_pad]
    simp only
    rw [bOf_eq _ x (by omega)]
  | [x, y], b, v => by
    have hx := x.toNat_lt
    have hy := y.toNat_lt
    simp only [wr64, List.foldl_cons, List.foldl_nil]
    rw [step_0 b v (x.toNat / 4) (by omega), step_6 b _ (x.toNat % 4 * 16 + y.toNat / 16) (by omega), step_4 _ _ (y.toNat % 16 * 4) (by omega), step_pad]
    simp only
    rw [bOf_eq _ x (by omega), bOf_eq _ y (by omega)]
    simp
  | x :: y :: z :: r, b, v => by
    have hx := x.toNat_lt
    have hy := y.toNat_lt
    have hz := z.toNat_lt
    simp only [wr64, List.foldl_cons]
    rw [step_0 b v (x.toNat / 4) (by omega), step_6 b _ (x.toNat % 4 * 16 + y.toNat / 16) (by omega), step_4 _ _ (y.toNat % 16 * 4 + z.toNat / 64) (by omega), step_2 _ _ (z.toNat % 64) (by omega)]
    rw [bOf_eq _ x (by omega), bOf_eq _ y (by omega), bOf_eq _ z (by omega)]
    rw [all_wr r]
    simp

/-- what the program answers is what the document's answer is -/
theorem ref64_eq (s : List UInt8) : ref64 s = match dec64 s with | some x => (x, true) | none => ([], false) := by
  unfold ref64
  cases h : dec64 s with
  | some x =>
    have e := wr_dec s x h
    have e2 : (all6 s).1 = x := by
      rw [all6, ← e, all_wr x [] 0]; rfl
    rw [e2, if_pos e]
  | none =>
    rw [if_neg]
    intro e
    have := dec_wr (all6 s).1
    rw [e, h] at this; cases this
end Go.Proofs.YtadcidbeealdpaaGreatDoor

/- The program's letters of six bits: a letter, how many bytes a group stands for. -/
namespace Go.Proofs.YtadcidbeealdpaaGreatDoor
open Go.RowKit

def LetPost (b : UInt8) (w : World) (e : Ending) (w' : World) : Prop := e = .returned (.tuple #[.int .u32 (((val b).getD 0 : Nat) : Int), .bool (val b).isSome]) ∧ w' = w
theorem LetPost.some {b : UInt8} {w : World} {e : Ending} {w' : World} (k : Nat) (n : Int) (hn : (k : Int) = n) (h : val b = Option.some k) (he : e = .returned (.tuple #[.int .u32 n, .bool true])) (hw : w' = w) : LetPost b w e w' := ⟨by rw [he, h, ← hn]; rfl, hw⟩
theorem LetPost.none {b : UInt8} {w : World} {e : Ending} {w' : World} (h : val b = Option.none) (he : e = .returned (.tuple #[.int .u32 0, .bool false])) (hw : w' = w) : LetPost b w e w' := ⟨by rw [he, h]; rfl, hw⟩

set_option maxHeartbeats 400000 in
set_option maxRecDepth 100000 in
theorem letterValue_any (b : UInt8) (w : World) : Calls Tryz.prog 226 #[.int .u8 (b.toNat : Int)] w (LetPost b w) := by
  have hlt : (b.toNat : Int) < 256 := by have := b.toNat_lt; omega
  have h0 : 0 ≤ (b.toNat : Int) := by omega
  by_cases h1 : 65 ≤ (b.toNat : Int) ∧ (b.toNat : Int) ≤ 90
  · have HV : Hid (val b = some (b.toNat - 65)) := by
      show _ = _
      unfold val; rw [if_pos (by omega)]
    obtain ⟨a1, a2⟩ := h1
    go_enter Tryz.func226, Tryz.ntmps226
    go_wp2
    go_ret2
    exact LetPost.some _ _ (by omega) HV.out rfl rfl
  by_cases h2 : 97 ≤ (b.toNat : Int) ∧ (b.toNat : Int) ≤ 122
  · have HV : Hid (val b = some (b.toNat - 97 + 26)) := by
      show _ = _
      unfold val; rw [if_neg (by omega), if_pos (by omega)]
    obtain ⟨a1, a2⟩ := h2
    clear h1
    have a3 : 90 < (b.toNat : Int) := by omega
    go_enter Tryz.func226, Tryz.ntmps226
    go_wp2
    go_ret2
    exact LetPost.some _ _ (by omega) HV.out rfl rfl
  by_cases h3 : 48 ≤ (b.toNat : Int) ∧ (b.toNat : Int) ≤ 57
  · have HV : Hid (val b = some (b.toNat - 48 + 52)) := by
      show _ = _
      unfold val; rw [if_neg (by omega), if_neg (by omega), if_pos (by omega)]
    obtain ⟨a1, a2⟩ := h3
    clear h1 h2
    have a3 : (b.toNat : Int) < 65 := by omega
    go_enter Tryz.func226, Tryz.ntmps226
    go_wp2
    go_ret2
    exact LetPost.some _ _ (by omega) HV.out rfl rfl
  have n1 : (decide (65 ≤ (b.toNat : Int)) && decide ((b.toNat : Int) ≤ 90)) = false := by simp; omega
  have n2 : (decide (97 ≤ (b.toNat : Int)) && decide ((b.toNat : Int) ≤ 122)) = false := by simp; omega
  have n3 : (decide (48 ≤ (b.toNat : Int)) && decide ((b.toNat : Int) ≤ 57)) = false := by simp; omega
  cases h4 : ((b.toNat : Int) == 43) with
  | true =>
    have h4' : (b.toNat : Int) = 43 := by simpa using h4
    have HV : Hid (val b = some 62) := by
      show _ = _
      unfold val; rw [if_neg (by omega), if_neg (by omega), if_neg (by omega), if_pos (by omega)]
    clear h1 h2 h3 n1 n2 n3
    have a1 : (b.toNat : Int) < 48 := by omega
    clear h4'
    go_enter Tryz.func226, Tryz.ntmps226
    go_wp2
    all_goals (go_ret2; exact LetPost.some _ _ rfl HV.out rfl rfl)
  | false =>
    cases h5 : ((b.toNat : Int) == 47) with
    | true =>
      have h5' : (b.toNat : Int) = 47 := by simpa using h5
      have HV : Hid (val b = some 63) := by
        show _ = _
        unfold val; rw [if_neg (by omega), if_neg (by omega), if_neg (by omega), if_neg (by omega), if_pos (by omega)]
      clear h1 h2 h3 n1 n2 n3
      have a1 : (b.toNat : Int) < 48 := by omega
      clear h5'
      go_enter Tryz.func226, Tryz.ntmps226
      go_wp2
      all_goals (go_ret2; exact LetPost.some _ _ rfl HV.out rfl rfl)
    | false =>
      have h4' : ¬ (b.toNat : Int) = 43 := by simpa using h4
      have h5' : ¬ (b.toNat : Int) = 47 := by simpa using h5
      have HV : Hid (val b = none) := by
        show _ = _
        unfold val; rw [if_neg (by omega), if_neg (by omega), if_neg (by omega), if_neg (by omega), if_neg (by omega)]
      have hr : (b.toNat : Int) < 48 ∨ (57 < (b.toNat : Int) ∧ (b.toNat : Int) < 65) ∨ (90 < (b.toNat : Int) ∧ (b.toNat : Int) < 97) ∨ 122 < (b.toNat : Int) := by omega
      clear h1 h2 h3 h4' h5' n1 n2 n3
      rcases hr with r1 | ⟨r1, r2⟩ | ⟨r1, r2⟩ | r1
      all_goals
        go_enter Tryz.func226, Tryz.ntmps226
        go_wp2
        go_ret2
        exact LetPost.none HV.out rfl rfl

/-- how many bytes the group stands for -/
def stood (l : List UInt8) : Nat := if Lib.hasSuffix l [61, 61] then 1 else if Lib.hasSuffix l [61] then 2 else 3
set_option maxHeartbeats 400000 in
set_option maxRecDepth 100000 in
theorem bytesStood_any (s : ByteArray) (w : World) (hs : s.size ≤ maxLen) :
    Calls Tryz.prog 204 #[.string s] w fun e w' => e = .returned (.int .i64 (stood s.data.toList : Nat)) ∧ w' = w := by
  have HU : Hid (∀ n : Nat, stood s.data.toList = n → ∀ i : Int, (n : Int) = i → Ending.returned (.int .i64 i) = .returned (.int .i64 (stood s.data.toList : Nat))) := fun n h i hi => by rw [h, hi]
  cases h1 : Lib.hasSuffix s.data.toList [61, 61] with
  | true =>
    have HS : Hid (stood s.data.toList = 1) := by show _ = _; unfold stood; rw [h1]; rfl
    go_enter Tryz.func204, Tryz.ntmps204
    go_wp2_with (go_at_call 131; refine (Tryz.strings_HasSuffix _ _ _ hs).mono ?_; rintro e w' ⟨rfl, rfl⟩)
    go_ret
    exact ⟨HU.out _ HS.out _ rfl, rfl⟩
  | false =>
    cases h2 : Lib.hasSuffix s.data.toList [61] with
    | true =>
      have HS : Hid (stood s.data.toList = 2) := by show _ = _; unfold stood; rw [h1, h2]; rfl
      go_enter Tryz.func204, Tryz.ntmps204
      go_wp2_with (go_at_call 131; refine (Tryz.strings_HasSuffix _ _ _ hs).mono ?_; rintro e w' ⟨rfl, rfl⟩)
      go_ret
      exact ⟨HU.out _ HS.out _ rfl, rfl⟩
    | false =>
      have HS : Hid (stood s.data.toList = 3) := by show _ = _; unfold stood; rw [h1, h2]; rfl
      go_enter Tryz.func204, Tryz.ntmps204
      go_wp2_with (go_at_call 131; refine (Tryz.strings_HasSuffix _ _ _ hs).mono ?_; rintro e w' ⟨rfl, rfl⟩)
      go_ret
      exact ⟨HU.out _ HS.out _ rfl, rfl⟩
end Go.Proofs.YtadcidbeealdpaaGreatDoor

/- The program's letters of six bits: the letters of a group. -/
namespace Go.Proofs.YtadcidbeealdpaaGreatDoor
open Go.RowKit

/-- the bits of the first k letters -/
def wsum (l : List UInt8) : Nat → Nat
  | 0 => 0
  | k + 1 => wsum l k + (val (l.getD k 0)).getD 0 * 2 ^ (18 - 6 * k)

theorem val_lt (c : UInt8) : (val c).getD 0 < 64 := by
  cases h : val c with
  | none => decide
  | some k => exact (let6_val h).1

theorem wsum_top (l : List UInt8) (k : Nat) (h : k ≤ 4) : ∃ m, wsum l k = m * 2 ^ (24 - 6 * k) ∧ wsum l k < 16777216 := by
  have h0 := val_lt (l.getD 0 0)
  have h1 := val_lt (l.getD 1 0)
  have h2 := val_lt (l.getD 2 0)
  have h3 := val_lt (l.getD 3 0)
  have hk : k = 0 ∨ k = 1 ∨ k = 2 ∨ k = 3 ∨ k = 4 := by omega
  rcases hk with rfl | rfl | rfl | rfl | rfl
  · exact ⟨0, by simp [wsum], by simp [wsum]⟩
  · refine ⟨(val (l.getD 0 0)).getD 0, ?_, ?_⟩ <;> simp only [wsum] <;> omega
  · refine ⟨(val (l.getD 0 0)).getD 0 * 64 + (val (l.getD 1 0)).getD 0, ?_, ?_⟩ <;> simp only [wsum] <;> omega
  · refine ⟨((val (l.getD 0 0)).getD 0 * 64 + (val (l.getD 1 0)).getD 0) * 64 + (val (l.getD 2 0)).getD 0, ?_, ?_⟩ <;> simp only [wsum] <;> omega
  · refine ⟨wsum l 4, by omega, ?_⟩
    simp only [wsum]; omega

theorem or_top (m q k : Nat) (hq : q < 64) (hk : k ≤ 3) (hV : m * 2 ^ (24 - 6 * k) < 16777216) :
    bits BinOp.or IntKind.u32 ((m * 2 ^ (24 - 6 * k) : Nat) : Int) ((q : Int) * 2 ^ (18 - 6 * k) % 4294967296) = ((m * 2 ^ (24 - 6 * k) + q * 2 ^ (18 - 6 * k) : Nat) : Int) := by
  have hx : q * 2 ^ (18 - 6 * k) < 2 ^ (24 - 6 * k) := by
    rw [show 24 - 6 * k = 6 + (18 - 6 * k) by omega, Nat.pow_add]
    exact Nat.mul_lt_mul_of_pos_right hq (Nat.pow_pos (by decide))
  have hx2 : q * 2 ^ (18 - 6 * k) < 16777216 := by
    refine Nat.lt_of_lt_of_le hx ?_
    have : (16777216 : Nat) = 2 ^ 24 := rfl
    rw [this]
    exact Nat.pow_le_pow_right (by decide) (by omega)
  have e : ((q : Int) * 2 ^ (18 - 6 * k) % 4294967296) = ((q * 2 ^ (18 - 6 * k) : Nat) : Int) := by
    rw [Int.natCast_mul, Int.natCast_pow]
    refine Int.emod_eq_of_lt ?_ ?_
    · have : (0 : Int) ≤ ((q * 2 ^ (18 - 6 * k) : Nat) : Int) := Int.natCast_nonneg _
      rw [Int.natCast_mul, Int.natCast_pow] at this; exact this
    · have : ((q * 2 ^ (18 - 6 * k) : Nat) : Int) < 4294967296 := by omega
      rw [Int.natCast_mul, Int.natCast_pow] at this; exact this
  rw [e, u32_or_nat _ _ (by omega) (by omega)]
  congr 1
  rw [← Nat.shiftLeft_eq m, Nat.shiftLeft_add_eq_or_of_lt hx]

def WordPost (l : List UInt8) (w : World) (e : Ending) (w' : World) : Prop :=
  (if l.all (fun c => (val c).isSome) then e = .returned (.tuple #[.int .u32 (wsum l l.length : Nat), .bool true]) else e = .returned (.tuple #[.int .u32 0, .bool false])) ∧ w' = w
theorem WordPost.yes {l : List UInt8} {w : World} {e : Ending} {w' : World} (h : l.all (fun c => (val c).isSome) = true) (he : e = .returned (.tuple #[.int .u32 (wsum l l.length : Nat), .bool true])) (hw : w' = w) : WordPost l w e w' := ⟨by rw [h]; exact he, hw⟩
theorem WordPost.no {l : List UInt8} {w : World} {e : Ending} {w' : World} (h : l.all (fun c => (val c).isSome) = false) (he : e = .returned (.tuple #[.int .u32 0, .bool false])) (hw : w' = w) : WordPost l w e w' := ⟨by rw [h]; exact he, hw⟩

theorem ret_u32x {a b : Int} {f : Bool} (h : a = b) : Ending.returned (.tuple #[.int .u32 a, .bool f]) = .returned (.tuple #[.int .u32 b, .bool f]) := by rw [h]

set_option maxHeartbeats 400000 in
set_option maxRecDepth 100000 in
theorem readLetters_any (s : ByteArray) (w : World) (hs : s.size ≤ 4) :
    Calls Tryz.prog 205 #[.string s] w (WordPost s.data.toList w) := by
  go_enter Tryz.func205, Tryz.ntmps205
  go_wp2
  go_loop [4, 10] (fun v i => ∃ k V : Nat, k ≤ s.size ∧ i = .int .i64 k ∧ v = .int .u32 V ∧ Hid (wsum s.data.toList k = V) ∧ Hid (∀ j : Nat, j < k → (val (s.data.toList.getD j 0)).isSome = true)) (fun _ i => s.size - (intOf i).toNat)
  case atStart => exact ⟨0, 0, Nat.zero_le _, rfl, rfl, rfl, fun j hj => by omega⟩
  case round =>
    obtain ⟨k, V, hk, rfl, rfl, HV, HN⟩ := hrel
    by_cases hlt : k < s.size
    · have hg : Hid (s.data.toList.getD k 0 = s[k]) := getD_of s k hlt
      obtain ⟨o, ho⟩ : ∃ o, val s[k] = o := ⟨_, rfl⟩
      have HO := Lib.hid ho
      clear ho
      have hv24 : (V : Int) < 16777216 := by
        obtain ⟨_, _, h⟩ := wsum_top s.data.toList k (by omega)
        rw [HV.out] at h; omega
      have hk3 : (k : Int) ≤ 3 := by omega
      go_wp2_with fail
      refine (letterValue_any _ _).mono ?_
      rintro e w' ⟨rfl, rfl⟩
      rw [HO.out]
      cases o with
      | none =>
        simp only [Option.getD_none, Option.isSome_none]
        go_wp2_with fail
        go_ret2
        exact WordPost.no (all_no (p := fun c => (val c).isSome) (k := k) (by rw [size_of_toList]; exact hlt) (by rw [hg.out, HO.out]; rfl)) rfl rfl
      | some q =>
        have hq : (q : Int) < 64 := by have := (let6_val HO.out).1; omega
        simp only [Option.getD_some, Option.isSome_some]
        go_wp2_with fail
        refine ⟨⟨k + 1, wsum s.data.toList (k + 1), by omega, by go_num, ?_, rfl, ok_succ (p := fun c => (val c).isSome) HN.out hg.out (by rw [HO.out]; rfl)⟩, by simp [intOf]; omega⟩
        obtain ⟨m, h1, h2⟩ := wsum_top s.data.toList k (by omega)
        rw [wsum, hg.out, HO.out, Option.getD_some, ← HV.out, h1, or_top m q k (by omega) (by omega) (by rw [← h1]; exact h2)]
    · have hks : Hid (k = s.data.toList.length) := by
        show _ = _
        rw [size_of_toList]; omega
      go_wp2
      go_ret2
      exact WordPost.yes (all_of (p := fun c => (val c).isSome) (fun j hj => HN.out j (by rw [hks.out]; exact hj))) (by rw [← hks.out, HV.out]; rfl) rfl
end Go.Proofs.YtadcidbeealdpaaGreatDoor
