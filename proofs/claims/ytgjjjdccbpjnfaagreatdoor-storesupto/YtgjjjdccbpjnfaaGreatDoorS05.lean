import Derived.Test.YtgjjjdccbpjnfaaGreatDoorS04
import Derived.Test.YtgjjjdccbpjnfaaGreatDoorS02

/- The program's settings: all of them. -/
namespace Go.Proofs.YtgjjjdccbpjnfaaGreatDoor
open Go.RowKit

/-- settings as data -/
structure Cfg where
  host : ByteArray
  doms : List ByteArray
  nets : List (Int × Int)
  users : List (ByteArray × ByteArray)
  most : Int
  size : Int
  waits : List Int
  life : Int
  room : Int

/-- where their lists lie -/
def CfgAt (w : World) (c : Cfg) (vD vN vU vW : Value) : Prop :=
  RowAt w vD c.doms.length 1 (strCellsOf c.doms) ∧ RowAt w vN c.nets.length 2 (netCells c.nets) ∧ RowAt w vU c.users.length 2 (userCells c.users) ∧ RowAt w vW c.waits.length 1 (intCells c.waits)
theorem CfgAt.below {w w' : World} {c : Cfg} {vD vN vU vW : Value} (h : CfgAt w c vD vN vU vW) (hb : Below w.heap.size w w') : CfgAt w' c vD vN vU vW := ⟨h.1.below hb, h.2.1.below hb, h.2.2.1.below hb, h.2.2.2.below hb⟩
def CfgSz (c : Cfg) : Prop :=
  c.host.size ≤ maxLen ∧ c.doms.length ≤ 140737488351232 ∧ (∀ s ∈ c.doms, s.size ≤ maxLen) ∧ c.nets.length ≤ 140737488351232 ∧ c.users.length ≤ 140737488351232 ∧ (∀ x ∈ c.users, x.1.size ≤ maxLen ∧ x.2.size ≤ maxLen) ∧ c.waits.length ≤ 140737488351232
def Cfg.val (c : Cfg) (vD vN vU vW : Value) : Value := .agg #[.string c.host, vD, vN, vU, .int .i64 c.most, .int .i64 c.size, vW, .int .i64 c.life, .int .i64 c.room]

def mayB (c : Cfg) : Bool := domB c.host.data.toList && domsB c.doms && netsB c.nets && usersB c.users && within c.most 1 10 && within c.size 1 1000 && waitsB c.waits && within c.life 1 1000000000 && within c.room 0 1000000

theorem slice_of {w : World} {v : Value} {n sz : Nat} {cs : List Value} (h : RowAt w v n sz cs) : ∃ a cap, v = .slice a n cap := by
  obtain ⟨a, cap, h, _⟩ := h.shape
  exact ⟨a, cap, h⟩

set_option maxHeartbeats 2000000 in
set_option maxRecDepth 100000 in
theorem mayBe_any (c : Cfg) (vD vN vU vW : Value) (m : Int) (w : World) (h : CfgAt w c vD vN vU vW) (hz : CfgSz c) (hm : w.cell? ⟨0, 0, none⟩ = some (.int .i64 m)) :
    Calls Tryz.prog 29 #[.agg #[.string c.host, vD, vN, vU, .int .i64 c.most, .int .i64 c.size, vW, .int .i64 c.life, .int .i64 c.room]] w (BPost (mayB c) w) := by
  obtain ⟨host, doms, nets, users, most, size, waits, life, room⟩ := c
  obtain ⟨z0, z1, z2, z3, z4, z5, z6⟩ := hz
  simp only at z0 z1 z2 z3 z4 z5 z6 h ⊢
  have HM := Lib.hid (show mayB ⟨host, doms, nets, users, most, size, waits, life, room⟩ = (domB host.data.toList && domsB doms && netsB nets && usersB users && within most 1 10 && within size 1 1000 && waitsB waits && within life 1 1000000000 && within room 0 1000000) from rfl)
  generalize mayB ⟨host, doms, nets, users, most, size, waits, life, room⟩ = M at *
  obtain ⟨aD, cD, eD⟩ := slice_of h.1
  obtain ⟨aN, cN, eN⟩ := slice_of h.2.1
  obtain ⟨aU, cU, eU⟩ := slice_of h.2.2.1
  obtain ⟨aW, cW, eW⟩ := slice_of h.2.2.2
  simp only at eD eN eU eW
  subst eD eN eU eW
  have HA := Lib.hid h
  have h0 := block_lt hm
  have Z2 := Lib.hid z2
  have Z5 := Lib.hid z5
  clear h z2 z5
  go_enter Tryz.func29, Tryz.ntmps29
  go_wp2_with fail
  have hbox : ∀ w1 : World, Below (w.heap.size + 1) (w.alloc (.cells #[.string host, .slice aD doms.length cD, .slice aN nets.length cN, .slice aU users.length cU, .int .i64 most, .int .i64 size, .slice aW waits.length cW, .int .i64 life, .int .i64 room] 36)) w1 → Below w.heap.size w w1 ∧ CfgAt w1 ⟨host, doms, nets, users, most, size, waits, life, room⟩ (.slice aD doms.length cD) (.slice aN nets.length cN) (.slice aU users.length cU) (.slice aW waits.length cW) ∧ w1.cell? ⟨0, 0, none⟩ = some (.int .i64 m) ∧ ∀ j : Nat, w1.cell? ⟨w.heap.size, j, none⟩ = (#[.string host, .slice aD doms.length cD, .slice aN nets.length cN, .slice aU users.length cU, .int .i64 most, .int .i64 size, .slice aW waits.length cW, .int .i64 life, .int .i64 room] : Array Value)[j]? := by
    intro w1 hb
    have hb' : Below w.heap.size w w1 := ((Below.refl _ _).alloc (Nat.le_refl _) _).trans (hb.mono (by omega))
    refine ⟨hb', HA.out.below hb', (hb'.cell h0).trans hm, fun j => ?_⟩
    rw [hb.cell (p := ⟨w.heap.size, j, none⟩) (by show w.heap.size < w.heap.size + 1; omega)]
    exact World.cell?_alloc_mark w _ 36 (0, 0) j
  have HX := Lib.hid hbox
  clear hbox HA hm
  have hB0 : Hid (Below (w.heap.size + 1) (w.alloc (.cells #[.string host, .slice aD doms.length cD, .slice aN nets.length cN, .slice aU users.length cU, .int .i64 most, .int .i64 size, .slice aW waits.length cW, .int .i64 life, .int .i64 room] 36)) (w.alloc (.cells #[.string host, .slice aD doms.length cD, .slice aN nets.length cN, .slice aU users.length cU, .int .i64 most, .int .i64 size, .slice aW waits.length cW, .int .i64 life, .int .i64 room] 36))) := Below.refl _ _
  have F := HX.out _ hB0.out
  refine (isDomain_any host m _ z0 F.2.2.1).mono ?_
  rintro e w1 ⟨rfl, hb1⟩
  have hB1 : Hid (Below (w.heap.size + 1) (w.alloc (.cells #[.string host, .slice aD doms.length cD, .slice aN nets.length cN, .slice aU users.length cU, .int .i64 most, .int .i64 size, .slice aW waits.length cW, .int .i64 life, .int .i64 room] 36)) w1) := hB0.out.trans (hb1.mono (by simp))
  clear F hb1
  have F := HX.out _ hB1.out
  have hbw1 := Lib.hid F.1
  have c1 : w1.cell? ⟨w.heap.size, 1, none⟩ = some (.slice aD doms.length cD) := F.2.2.2 1
  have HF := Lib.hid F
  clear F
  cases q0 : domB host.data.toList with
  | false =>
    go_wp2_with fail
    go_ret
    exact BPost.mk false rfl (by rw [HM.out, q0]; rfl) hbw1.out
  | true =>
    go_wp2_with fail
    have F := HF.out
    clear HF
    refine (domainsMayBe_any _ doms m _ F.2.1.1 z1 Z2.out F.2.2.1).mono ?_
    rintro e w2 ⟨rfl, hb2⟩
    have hB2 : Hid (Below (w.heap.size + 1) (w.alloc (.cells #[.string host, .slice aD doms.length cD, .slice aN nets.length cN, .slice aU users.length cU, .int .i64 most, .int .i64 size, .slice aW waits.length cW, .int .i64 life, .int .i64 room] 36)) w2) := hB1.out.trans (hb2.mono (by have := hB1.out.size; simpa using this))
    clear F hb2
    have F := HX.out _ hB2.out
    have hbw2 := Lib.hid F.1
    have c2 : w2.cell? ⟨w.heap.size, 2, none⟩ = some (.slice aN nets.length cN) := F.2.2.2 2
    have HF := Lib.hid F
    clear F
    cases q1 : domsB doms with
    | false =>
      go_wp2_with fail
      go_ret
      exact BPost.mk false rfl (by rw [HM.out, q0, q1]; rfl) hbw2.out
    | true =>
      go_wp2_with fail
      have F := HF.out
      clear HF
      refine (netsMayBe_any _ nets _ F.2.1.2.1 z3).mono ?_
      rintro e w3 ⟨rfl, hb3⟩
      have hB3 : Hid (Below (w.heap.size + 1) (w.alloc (.cells #[.string host, .slice aD doms.length cD, .slice aN nets.length cN, .slice aU users.length cU, .int .i64 most, .int .i64 size, .slice aW waits.length cW, .int .i64 life, .int .i64 room] 36)) w3) := hB2.out.trans (hb3.mono (by have := hB2.out.size; simpa using this))
      clear F hb3
      have F := HX.out _ hB3.out
      have hbw3 := Lib.hid F.1
      have c3 : w3.cell? ⟨w.heap.size, 3, none⟩ = some (.slice aU users.length cU) := F.2.2.2 3
      have HF := Lib.hid F
      clear F
      cases q2 : netsB nets with
      | false =>
        go_wp2_with fail
        go_ret
        exact BPost.mk false rfl (by rw [HM.out, q0, q1, q2]; rfl) hbw3.out
      | true =>
        go_wp2_with fail
        have F := HF.out
        clear HF
        refine (usersMayBe_any _ users _ F.2.1.2.2.1 z4 Z5.out).mono ?_
        rintro e w4 ⟨rfl, hb4⟩
        have hB4 : Hid (Below (w.heap.size + 1) (w.alloc (.cells #[.string host, .slice aD doms.length cD, .slice aN nets.length cN, .slice aU users.length cU, .int .i64 most, .int .i64 size, .slice aW waits.length cW, .int .i64 life, .int .i64 room] 36)) w4) := hB3.out.trans (hb4.mono (by have := hB3.out.size; simpa using this))
        clear F hb4
        have F := HX.out _ hB4.out
        have hbw4 := Lib.hid F.1
        have c4 : w4.cell? ⟨w.heap.size, 4, none⟩ = some (.int .i64 most) := F.2.2.2 4
        have c5 : w4.cell? ⟨w.heap.size, 5, none⟩ = some (.int .i64 size) := F.2.2.2 5
        have c6 : w4.cell? ⟨w.heap.size, 6, none⟩ = some (.slice aW waits.length cW) := F.2.2.2 6
        have c7 : w4.cell? ⟨w.heap.size, 7, none⟩ = some (.int .i64 life) := F.2.2.2 7
        have c8 : w4.cell? ⟨w.heap.size, 8, none⟩ = some (.int .i64 room) := F.2.2.2 8
        have hW := F.2.1.2.2.2
        have HW := Lib.hid hW
        clear hW
        have HF := Lib.hid F
        clear F
        cases q3 : usersB users with
        | false =>
          go_wp2_with fail
          go_ret
          exact BPost.mk false rfl (by rw [HM.out, q0, q1, q2, q3]; rfl) hbw4.out
        | true =>
          go_wp2_with fail
          have F := HF.out
          clear HF
          clear F
          cases q4 : within most 1 10 with
          | false =>
            go_wp2_with (first | (go_at_call 66; refine (isWithin_any _ _ _ _).mono ?_; rintro e w' ⟨rfl, rfl⟩) | (go_at_call 67; refine (waitsMayBe_any _ waits _ HW.out z6).mono ?_; rintro e w' ⟨rfl, rfl⟩))
            go_ret
            exact BPost.mk false rfl (by rw [HM.out, q0, q1, q2, q3, q4]; rfl) hbw4.out
          | true =>
            cases q5 : within size 1 1000 with
            | false =>
              go_wp2_with (first | (go_at_call 66; refine (isWithin_any _ _ _ _).mono ?_; rintro e w' ⟨rfl, rfl⟩) | (go_at_call 67; refine (waitsMayBe_any _ waits _ HW.out z6).mono ?_; rintro e w' ⟨rfl, rfl⟩))
              go_ret
              exact BPost.mk false rfl (by rw [HM.out, q0, q1, q2, q3, q4, q5]; rfl) hbw4.out
            | true =>
              cases q6 : waitsB waits with
              | false =>
                go_wp2_with (first | (go_at_call 66; refine (isWithin_any _ _ _ _).mono ?_; rintro e w' ⟨rfl, rfl⟩) | (go_at_call 67; refine (waitsMayBe_any _ waits _ HW.out z6).mono ?_; rintro e w' ⟨rfl, rfl⟩))
                go_ret
                exact BPost.mk false rfl (by rw [HM.out, q0, q1, q2, q3, q4, q5, q6]; rfl) hbw4.out
              | true =>
                cases q7 : within life 1 1000000000 with
                | false =>
                  go_wp2_with (first | (go_at_call 66; refine (isWithin_any _ _ _ _).mono ?_; rintro e w' ⟨rfl, rfl⟩) | (go_at_call 67; refine (waitsMayBe_any _ waits _ HW.out z6).mono ?_; rintro e w' ⟨rfl, rfl⟩))
                  go_ret
                  exact BPost.mk false rfl (by rw [HM.out, q0, q1, q2, q3, q4, q5, q6, q7]; rfl) hbw4.out
                | true =>
                  cases q8 : within room 0 1000000 with
                  | false =>
                    go_wp2_with (first | (go_at_call 66; refine (isWithin_any _ _ _ _).mono ?_; rintro e w' ⟨rfl, rfl⟩) | (go_at_call 67; refine (waitsMayBe_any _ waits _ HW.out z6).mono ?_; rintro e w' ⟨rfl, rfl⟩))
                    go_ret
                    exact BPost.mk false rfl (by rw [HM.out, q0, q1, q2, q3, q4, q5, q6, q7, q8]; rfl) hbw4.out
                  | true =>
                    go_wp2_with (first | (go_at_call 66; refine (isWithin_any _ _ _ _).mono ?_; rintro e w' ⟨rfl, rfl⟩) | (go_at_call 67; refine (waitsMayBe_any _ waits _ HW.out z6).mono ?_; rintro e w' ⟨rfl, rfl⟩))
                    go_ret
                    exact BPost.mk true rfl (by rw [HM.out, q0, q1, q2, q3, q4, q5, q6, q7, q8]; rfl) hbw4.out

def errB (b : Bool) : Int := if b then 0 else 2
def EPost (b : Bool) (w : World) (e : Ending) (w' : World) : Prop := e = .returned (.int .i64 (errB b)) ∧ Below w.heap.size w w'
theorem EPost.mk {b : Bool} {w : World} {e : Ending} {w' : World} (c : Bool) (he : e = .returned (.int .i64 (errB c))) (hc : b = c) (hw : Below w.heap.size w w') : EPost b w e w' := ⟨by rw [he, hc], hw⟩

set_option maxHeartbeats 400000 in
set_option maxRecDepth 100000 in
theorem check_any (c : Cfg) (vD vN vU vW : Value) (m : Int) (w : World) (h : CfgAt w c vD vN vU vW) (hz : CfgSz c) (hm : w.cell? ⟨0, 0, none⟩ = some (.int .i64 m)) :
    Calls Tryz.prog 14 #[.agg #[.string c.host, vD, vN, vU, .int .i64 c.most, .int .i64 c.size, vW, .int .i64 c.life, .int .i64 c.room]] w (EPost (mayB c) w) := by
  obtain ⟨aD, cD, eD⟩ := slice_of h.1
  obtain ⟨aN, cN, eN⟩ := slice_of h.2.1
  obtain ⟨aU, cU, eU⟩ := slice_of h.2.2.1
  obtain ⟨aW, cW, eW⟩ := slice_of h.2.2.2
  subst eD eN eU eW
  have HA := Lib.hid h
  have HZ := Lib.hid hz
  have h0 := block_lt hm
  have HM := Lib.hid hm
  clear h hz hm
  go_enter Tryz.func14, Tryz.ntmps14
  go_wp2_with fail
  refine (mayBe_any c _ _ _ _ m _ (HA.out.below ((Below.refl _ _).alloc (Nat.le_refl _) _)) HZ.out ?_).mono ?_
  · exact (((Below.refl w.heap.size w).alloc (Nat.le_refl _) _).cell h0).trans HM.out
  rintro e w1 ⟨rfl, hb1⟩
  have HB : Hid (Below w.heap.size w w1) := ((Below.refl _ _).alloc (Nat.le_refl _) _).trans (hb1.mono (by simp))
  clear hb1 HA HZ HM
  cases hM : mayB c with
  | false =>
    go_wp2_with fail
    go_ret
    exact EPost.mk false rfl hM HB.out
  | true =>
    go_wp2_with fail
    go_ret
    exact EPost.mk true rfl hM HB.out
end Go.Proofs.YtgjjjdccbpjnfaaGreatDoor

/- The document's answer: a user's name or word; settings. -/
namespace Go.Proofs.YtgjjjdccbpjnfaaGreatDoor
open Go.RowKit

theorem zero_flag (l x y : List UInt8) (f : Bool) (h : cutR 0 l = (x, y, f)) : decide (Lib.indexByte l 0 < 0) = !f := by
  cases f with
  | true =>
    have := (cutR_found 0 l (by rw [h])).2.2
    rw [this]; simp
  | false =>
    have := (cutR_none 0 l (by rw [h])).2.2
    rw [this]; rfl

def WPost (b : Bool) (w : World) (e : Ending) (w' : World) : Prop := e = .returned (.bool b) ∧ ∃ n, w' = w.drewN n
theorem WPost.mk {b : Bool} {w : World} {e : Ending} {w' : World} (c : Bool) (he : e = .returned (.bool c)) (hc : b = c) (n : Nat) (hw : w' = w.drewN n) : WPost b w e w' := ⟨by rw [he, hc], n, hw⟩

set_option maxHeartbeats 400000 in
theorem isWord_any (s : ByteArray) (w : World) (hs : s.size ≤ maxLen) : Calls Tryz.prog 123 #[.string s] w (WPost (textB s.data.toList) w) := by
  go_enter Tryz.func123, Tryz.ntmps123
  go_wp2_with fail
  have h0 : Hid (((0 : UInt8).toNat : Int) = 0) := rfl
  refine (cut_any s 0 0 h0 _ hs).mono ?_
  rintro e w' ⟨x, y, f, rfl, hc, n, rfl⟩
  have HT : Hid (textB s.data.toList = (within s.size 1 20 && !f)) := by
    show _ = _
    rw [textB, zero_flag _ _ _ _ hc, size_of_toList]
  unfold maxLen at hs
  clear hc h0
  by_cases h1 : 1 ≤ s.size
  · have d1 : decide ((1 : Int) ≤ (s.size : Int)) = true := by simp; omega
    by_cases h2 : s.size ≤ 20
    · have d2 : decide ((s.size : Int) ≤ 20) = true := by simp; omega
      go_wp2_with fail
      go_ret
      exact WPost.mk (!f) rfl (by rw [HT.out, within, d1, d2]; simp) n rfl
    · have d2 : decide ((s.size : Int) ≤ 20) = false := by simp; omega
      go_wp2_with fail
      go_ret
      exact WPost.mk false rfl (by rw [HT.out, within, d2]; simp) n rfl
  · have d1 : decide ((1 : Int) ≤ (s.size : Int)) = false := by simp; omega
    go_wp2_with fail
    go_ret
    exact WPost.mk false rfl (by rw [HT.out, within, d1]; simp) n rfl
end Go.Proofs.YtgjjjdccbpjnfaaGreatDoor
