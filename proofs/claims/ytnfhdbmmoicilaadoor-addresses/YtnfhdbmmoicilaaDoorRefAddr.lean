/- The document's answer: Address. -/
import Derived.Test.YtnfhdbmmoicilaaDoorRefSmall
import Derived.Test.YtnfhdbmmoicilaaDoorAddr3
namespace Go.Proofs.YtnfhdbmmoicilaaDoor
open Go.RowKit

theorem addrR_of {l x y : List UInt8} {f : Bool} (h : cutR 64 l = (x, y, f)) : addrR l = if locR x && domR y then (x, Lib.toLowerA y, true) else ([], [], false) := by
  rw [addrR, h, ← locB_eq, ← domB_eq]
theorem dom_of_no {l x y : List UInt8} (h : cutR 64 l = (x, y, false)) : domR y = false := by
  have := (cutR_none 64 l (by rw [h])).1
  rw [this] at h
  obtain ⟨_, rfl⟩ : l = x ∧ [] = y := by simpa using h
  rfl
theorem locR_len {l : List UInt8} (h : ¬ (1 ≤ l.length ∧ l.length ≤ 20)) : locR l = false := by
  cases e : locR l with
  | false => rfl
  | true =>
    simp only [locR, Bool.and_eq_true, decide_eq_true_eq] at e
    exact absurd ⟨e.1.1.1.1, e.1.1.1.2⟩ h
theorem locR_dot {l : List UInt8} {a z : UInt8} (ha : l.getD 0 0 = a) (hz : l.getD (l.length - 1) 0 = z) (h : ¬ (((a.toNat : Int) == 46) = false ∧ ((z.toNat : Int) == 46) = false)) : locR l = false := by
  have e0 := beq_byte a 46 (by decide)
  have e1 := beq_byte z 46 (by decide)
  cases e : locR l with
  | false => rfl
  | true =>
    simp only [locR, Bool.and_eq_true, decide_eq_true_eq, Bool.not_eq_true', ha, hz] at e
    exact absurd ⟨e0.trans e.1.1.2, e1.trans e.1.2⟩ h
theorem locR_ch {l : List UInt8} {k : Nat} (hk : k < l.length) (h : chR l k = false) : locR l = false := by
  have : (List.range l.length).all (chR l) = false := by
    cases e : (List.range l.length).all (chR l) with
    | false => rfl
    | true =>
      rw [List.all_eq_true] at e
      have := e k (List.mem_range.2 hk)
      rw [h] at this; cases this
  simp only [locR, this, Bool.and_false]
theorem locR_of {l : List UInt8} {a z : UInt8} (h1 : 1 ≤ l.length) (h2 : l.length ≤ 20) (ha : l.getD 0 0 = a) (hz : l.getD (l.length - 1) 0 = z) (hd0 : ((a.toNat : Int) == 46) = false) (hd1 : ((z.toNat : Int) == 46) = false) (h : ∀ j : Nat, j < l.length → chR l j = true) : locR l = true := by
  have e0 := beq_byte a 46 (by decide)
  have e1 := beq_byte z 46 (by decide)
  have a' : (a == (46 : UInt8)) = false := e0.symm.trans hd0
  have z' : (z == (46 : UInt8)) = false := e1.symm.trans hd1
  have : (List.range l.length).all (chR l) = true := by
    rw [List.all_eq_true]; intro j hj; exact h j (List.mem_range.1 hj)
  simp only [locR, ha, hz, a', z', this, decide_eq_true h1, decide_eq_true h2]; rfl
theorem ch_succ {l : List UInt8} {k : Nat} (hn : ∀ j : Nat, j < k → chR l j = true) (h : chR l k = true) : ∀ j : Nat, j < k + 1 → chR l j = true := by
  intro j hj
  by_cases e : j < k
  · exact hn j e
  · have : j = k := by omega
    rw [this]; exact h
theorem ne_byte (c : UInt8) (n : Nat) (hn : n < 256) : ((c.toNat : Int) != (n : Int)) = !(c == UInt8.ofNat n) := by
  rw [← beq_byte c n hn]; rfl
/-- a byte of a local part, as the walk asks of it -/
theorem chR_eq {l : List UInt8} {k : Nat} {c p : UInt8} (hc : l.getD k 0 = c) (hp : l.getD (k - 1) 0 = p) : chR l k = !(!letB c.toNat && !digB c.toNat && ((c.toNat : Int) != 45) && ((c.toNat : Int) != 95) && ((c.toNat : Int) != 43) && (((c.toNat : Int) != 46) || ((p.toNat : Int) == 46))) := by
  have e1 := ne_byte c 45 (by decide)
  have e2 := ne_byte c 95 (by decide)
  have e3 := ne_byte c 43 (by decide)
  have e4 := ne_byte c 46 (by decide)
  have e5 := beq_byte p 46 (by decide)
  simp only [chR, hc, hp, alB]
  rw [show ((45 : Nat) : Int) = 45 from rfl] at e1
  rw [show ((95 : Nat) : Int) = 95 from rfl] at e2
  rw [show ((43 : Nat) : Int) = 43 from rfl] at e3
  rw [show ((46 : Nat) : Int) = 46 from rfl] at e4 e5
  rw [e1, e2, e3, e4, e5]
  show _ = !(!letB ↑c.toNat && !digB ↑c.toNat && !c == 45 && !c == 95 && !c == 43 && (!c == 46 || p == 46))
  generalize letB ↑c.toNat = a
  generalize digB ↑c.toNat = b
  generalize (c == 45) = q1
  generalize (c == 95) = q2
  generalize (c == 43) = q3
  generalize (c == 46) = q4
  generalize (p == 46) = q5
  revert a b q1 q2 q3 q4 q5
  decide

set_option maxHeartbeats 2000000 in
theorem refAddress_any (s : ByteArray) (w : World) (hs : s.size ≤ maxLen) :
    Calls Tryd.prog 7 #[.string s] w (AddrPost s.data.toList w) := by
  go_enter Tryd.func7, Tryd.ntmps7
  go_wp2_with fail
  have h64 : Hid (((64 : UInt8).toNat : Int) = 64) := rfl
  refine (cut_any s 64 64 h64 _ hs).mono ?_
  rintro e w' ⟨x, y, f, rfl, hc, n, rfl⟩
  have hl := cut_len 64 _ _ _ _ hc
  rw [size_of_toList, size_of_toList, size_of_toList] at hl
  have hyM : y.size ≤ maxLen := by omega
  unfold maxLen at hs
  have hxs : x.size ≤ 2 ^ 63 - 1 := by omega
  have HR := Lib.hid (addrR_of hc)
  have HF : Hid (f = false → domR y.data.toList = false) := by
    show _ → _
    intro h; subst h; exact dom_of_no hc
  clear hl hc h64
  go_wp2_with fail
  refine (refIsDomain_any y _ hyM).mono ?_
  rintro e w' ⟨rfl, n', rfl⟩
  have hno : Hid ((locR x.data.toList && domR y.data.toList) = false → addrR s.data.toList = ([], [], false)) := by
    show _ → _
    intro h; rw [HR.out, h]; rfl
  have HYM := Lib.hid hyM
  clear hyM
  have hbel := Lib.hid (below_drewN (n + n') w w.heap.size)
  cases f with
  | false =>
    have HD := Lib.hid (HF.out rfl)
    go_wp2_with fail
    all_goals (go_ret3; exact AddrPost.mk _ _ _ rfl (hno.out (by rw [HD.out, Bool.and_false])) hbel.out)
  | true =>
    clear HF
    cases hD : domR y.data.toList with
    | false =>
      go_wp2_with fail
      all_goals (go_ret3; exact AddrPost.mk _ _ _ rfl (hno.out (by rw [hD, Bool.and_false])) hbel.out)
    | true =>
      by_cases hn : 1 ≤ x.size ∧ x.size ≤ 20
      · obtain ⟨hn1, hn2⟩ := hn
        have hg0 : Hid (x.data.toList.getD 0 0 = x[0]) := getD_of x 0 (by omega)
        have hgz : Hid (x.data.toList.getD (x.data.toList.length - 1) 0 = x[x.size - 1]) := by
          show _ = _
          rw [size_of_toList]
          exact getD_of x (x.size - 1) (by omega)
        have hb1 : decide ((x.size : Int) < 1) = false := by simp; omega
        have hb2 : decide (20 < (x.size : Int)) = false := by simp; omega
        by_cases hd : ((x[0].toNat : Int) == 46) = false ∧ ((x[x.size - 1].toNat : Int) == 46) = false
        · obtain ⟨hd0, hd1⟩ := hd
          go_wp2_with fail
          go_loop [10] (fun i => ∃ k : Nat, k ≤ x.size ∧ i = .int .i64 k ∧ Hid (∀ j : Nat, j < k → chR x.data.toList j = true)) (fun i => x.size - (intOf i).toNat)
          case atStart => exact ⟨0, Nat.zero_le _, rfl, fun j hj => by omega⟩
          case round =>
            obtain ⟨k, hk, rfl, HN⟩ := hrel
            by_cases hlt : k < x.size
            · have hg : Hid (x.data.toList.getD k 0 = x[k]) := getD_of x k hlt
              by_cases hk0 : k = 0
              · subst hk0
                have hd2 : ((x[0].toNat : Int) != 46) = true := by rw [bne, hd0]; rfl
                cases hA : letB (x[0].toNat : Int) with
                | true =>
                  have HK : Hid (chR x.data.toList 0 = true) := by
                    show _ = _
                    rw [chR_eq hg.out hg.out, hA]; rfl
                  go_wp2_with (first | (go_at_call 18; refine (letter_any _ _).mono ?_; rintro e w' ⟨rfl, rfl⟩) | (go_at_call 19; refine (digit_any _ _).mono ?_; rintro e w' ⟨rfl, rfl⟩))
                  go_round
                  case rel => exact ⟨0 + 1, by omega, by go_num, ch_succ HN.out HK.out⟩
                  case measure => simp [intOf]; omega
                | false =>
                  cases hB : digB (x[0].toNat : Int) with
                  | true =>
                    have HK : Hid (chR x.data.toList 0 = true) := by
                      show _ = _
                      rw [chR_eq hg.out hg.out, hA, hB]; rfl
                    go_wp2_with (first | (go_at_call 18; refine (letter_any _ _).mono ?_; rintro e w' ⟨rfl, rfl⟩) | (go_at_call 19; refine (digit_any _ _).mono ?_; rintro e w' ⟨rfl, rfl⟩))
                    go_round
                    case rel => exact ⟨0 + 1, by omega, by go_num, ch_succ HN.out HK.out⟩
                    case measure => simp [intOf]; omega
                  | false =>
                    cases q1 : ((x[0].toNat : Int) != 45) with
                    | false =>
                      have HK : Hid (chR x.data.toList 0 = true) := by
                        show _ = _
                        rw [chR_eq hg.out hg.out, hA, hB, q1]; rfl
                      go_wp2_with (first | (go_at_call 18; refine (letter_any _ _).mono ?_; rintro e w' ⟨rfl, rfl⟩) | (go_at_call 19; refine (digit_any _ _).mono ?_; rintro e w' ⟨rfl, rfl⟩))
                      go_round
                      case rel => exact ⟨0 + 1, by omega, by go_num, ch_succ HN.out HK.out⟩
                      case measure => simp [intOf]; omega
                    | true =>
                      cases q2 : ((x[0].toNat : Int) != 95) with
                      | false =>
                        have HK : Hid (chR x.data.toList 0 = true) := by
                          show _ = _
                          rw [chR_eq hg.out hg.out, hA, hB, q1, q2]; rfl
                        go_wp2_with (first | (go_at_call 18; refine (letter_any _ _).mono ?_; rintro e w' ⟨rfl, rfl⟩) | (go_at_call 19; refine (digit_any _ _).mono ?_; rintro e w' ⟨rfl, rfl⟩))
                        go_round
                        case rel => exact ⟨0 + 1, by omega, by go_num, ch_succ HN.out HK.out⟩
                        case measure => simp [intOf]; omega
                      | true =>
                        cases q3 : ((x[0].toNat : Int) != 43) with
                        | false =>
                          have HK : Hid (chR x.data.toList 0 = true) := by
                            show _ = _
                            rw [chR_eq hg.out hg.out, hA, hB, q1, q2, q3]; rfl
                          go_wp2_with (first | (go_at_call 18; refine (letter_any _ _).mono ?_; rintro e w' ⟨rfl, rfl⟩) | (go_at_call 19; refine (digit_any _ _).mono ?_; rintro e w' ⟨rfl, rfl⟩))
                          go_round
                          case rel => exact ⟨0 + 1, by omega, by go_num, ch_succ HN.out HK.out⟩
                          case measure => simp [intOf]; omega
                        | true =>
                          have HK : Hid (chR x.data.toList 0 = false) := by
                            show _ = _
                            rw [chR_eq hg.out hg.out, hA, hB, q1, q2, q3, hd2]; rfl
                          go_wp2_with (first | (go_at_call 18; refine (letter_any _ _).mono ?_; rintro e w' ⟨rfl, rfl⟩) | (go_at_call 19; refine (digit_any _ _).mono ?_; rintro e w' ⟨rfl, rfl⟩))
                          go_ret3
                          exact AddrPost.mk _ _ _ rfl (hno.out (by rw [locR_ch (by rw [size_of_toList]; exact hlt) HK.out, Bool.false_and])) hbel.out
              · have hgp : Hid (x.data.toList.getD (k - 1) 0 = x[k - 1]) := getD_of x (k - 1) (by omega)
                have hk1 : 1 ≤ (k : Int) := by omega
                clear hk0
                cases hA : letB (x[k].toNat : Int) with
                | true =>
                  have HK : Hid (chR x.data.toList k = true) := by
                    show _ = _
                    rw [chR_eq hg.out hgp.out, hA]; rfl
                  go_wp2_with (first | (go_at_call 18; refine (letter_any _ _).mono ?_; rintro e w' ⟨rfl, rfl⟩) | (go_at_call 19; refine (digit_any _ _).mono ?_; rintro e w' ⟨rfl, rfl⟩))
                  go_round
                  case rel => exact ⟨k + 1, by omega, by go_num, ch_succ HN.out HK.out⟩
                  case measure => simp [intOf]; omega
                | false =>
                  cases hB : digB (x[k].toNat : Int) with
                  | true =>
                    have HK : Hid (chR x.data.toList k = true) := by
                      show _ = _
                      rw [chR_eq hg.out hgp.out, hA, hB]; rfl
                    go_wp2_with (first | (go_at_call 18; refine (letter_any _ _).mono ?_; rintro e w' ⟨rfl, rfl⟩) | (go_at_call 19; refine (digit_any _ _).mono ?_; rintro e w' ⟨rfl, rfl⟩))
                    go_round
                    case rel => exact ⟨k + 1, by omega, by go_num, ch_succ HN.out HK.out⟩
                    case measure => simp [intOf]; omega
                  | false =>
                    cases q1 : ((x[k].toNat : Int) != 45) with
                    | false =>
                      have HK : Hid (chR x.data.toList k = true) := by
                        show _ = _
                        rw [chR_eq hg.out hgp.out, hA, hB, q1]; rfl
                      go_wp2_with (first | (go_at_call 18; refine (letter_any _ _).mono ?_; rintro e w' ⟨rfl, rfl⟩) | (go_at_call 19; refine (digit_any _ _).mono ?_; rintro e w' ⟨rfl, rfl⟩))
                      go_round
                      case rel => exact ⟨k + 1, by omega, by go_num, ch_succ HN.out HK.out⟩
                      case measure => simp [intOf]; omega
                    | true =>
                      cases q2 : ((x[k].toNat : Int) != 95) with
                      | false =>
                        have HK : Hid (chR x.data.toList k = true) := by
                          show _ = _
                          rw [chR_eq hg.out hgp.out, hA, hB, q1, q2]; rfl
                        go_wp2_with (first | (go_at_call 18; refine (letter_any _ _).mono ?_; rintro e w' ⟨rfl, rfl⟩) | (go_at_call 19; refine (digit_any _ _).mono ?_; rintro e w' ⟨rfl, rfl⟩))
                        go_round
                        case rel => exact ⟨k + 1, by omega, by go_num, ch_succ HN.out HK.out⟩
                        case measure => simp [intOf]; omega
                      | true =>
                        cases q3 : ((x[k].toNat : Int) != 43) with
                        | false =>
                          have HK : Hid (chR x.data.toList k = true) := by
                            show _ = _
                            rw [chR_eq hg.out hgp.out, hA, hB, q1, q2, q3]; rfl
                          go_wp2_with (first | (go_at_call 18; refine (letter_any _ _).mono ?_; rintro e w' ⟨rfl, rfl⟩) | (go_at_call 19; refine (digit_any _ _).mono ?_; rintro e w' ⟨rfl, rfl⟩))
                          go_round
                          case rel => exact ⟨k + 1, by omega, by go_num, ch_succ HN.out HK.out⟩
                          case measure => simp [intOf]; omega
                        | true =>
                          cases q4 : ((x[k].toNat : Int) != 46) with
                          | true =>
                            have HK : Hid (chR x.data.toList k = false) := by
                              show _ = _
                              rw [chR_eq hg.out hgp.out, hA, hB, q1, q2, q3, q4]; rfl
                            go_wp2_with (first | (go_at_call 18; refine (letter_any _ _).mono ?_; rintro e w' ⟨rfl, rfl⟩) | (go_at_call 19; refine (digit_any _ _).mono ?_; rintro e w' ⟨rfl, rfl⟩))
                            go_ret3
                            exact AddrPost.mk _ _ _ rfl (hno.out (by rw [locR_ch (by rw [size_of_toList]; exact hlt) HK.out, Bool.false_and])) hbel.out
                          | false =>
                            cases q5 : ((x[k - 1].toNat : Int) == 46) with
                            | true =>
                              have HK : Hid (chR x.data.toList k = false) := by
                                show _ = _
                                rw [chR_eq hg.out hgp.out, hA, hB, q1, q2, q3, q4, q5]; rfl
                              go_wp2_with (first | (go_at_call 18; refine (letter_any _ _).mono ?_; rintro e w' ⟨rfl, rfl⟩) | (go_at_call 19; refine (digit_any _ _).mono ?_; rintro e w' ⟨rfl, rfl⟩))
                              go_ret3
                              exact AddrPost.mk _ _ _ rfl (hno.out (by rw [locR_ch (by rw [size_of_toList]; exact hlt) HK.out, Bool.false_and])) hbel.out
                            | false =>
                              have HK : Hid (chR x.data.toList k = true) := by
                                show _ = _
                                rw [chR_eq hg.out hgp.out, hA, hB, q1, q2, q3, q4, q5]; rfl
                              go_wp2_with (first | (go_at_call 18; refine (letter_any _ _).mono ?_; rintro e w' ⟨rfl, rfl⟩) | (go_at_call 19; refine (digit_any _ _).mono ?_; rintro e w' ⟨rfl, rfl⟩))
                              go_round
                              case rel => exact ⟨k + 1, by omega, by go_num, ch_succ HN.out HK.out⟩
                              case measure => simp [intOf]; omega
            · have HL : Hid (locR x.data.toList = true) :=
                locR_of (by rw [size_of_toList]; exact hn1) (by rw [size_of_toList]; exact hn2) hg0.out hgz.out hd0 hd1 (fun j hj => HN.out j (by rw [size_of_toList] at hj; omega))
              go_wp2_with fail
              refine (small_any y _ HYM.out).mono ?_
              rintro e w2 ⟨rfl, hb⟩
              go_wp2_with fail
              go_ret3
              exact AddrPost.mk _ _ _ rfl (by rw [HR.out, HL.out, hD]; rfl) (hbel.out.trans (by simpa using hb))
        · have HF : Hid (locR x.data.toList = false) := locR_dot hg0.out hgz.out hd
          have HD := Lib.hid hd
          clear hd
          cases e0 : ((x[0].toNat : Int) == 46) with
          | true =>
            go_wp2_with fail
            all_goals (go_ret3; exact AddrPost.mk _ _ _ rfl (hno.out (by rw [HF.out, Bool.false_and])) hbel.out)
          | false =>
            cases e1 : ((x[x.size - 1].toNat : Int) == 46) with
            | true =>
              go_wp2_with fail
              all_goals (go_ret3; exact AddrPost.mk _ _ _ rfl (hno.out (by rw [HF.out, Bool.false_and])) hbel.out)
            | false => exact absurd ⟨e0, e1⟩ HD.out
      · have HF : Hid (locR x.data.toList = false) := locR_len (by rw [size_of_toList]; exact hn)
        have hb : (decide ((x.size : Int) < 1) || decide (20 < (x.size : Int))) = true := by simp; omega
        clear hn
        go_wp2_with fail
        all_goals (go_ret3; exact AddrPost.mk _ _ _ rfl (hno.out (by rw [HF.out, Bool.false_and])) hbel.out)
end Go.Proofs.YtnfhdbmmoicilaaDoor
