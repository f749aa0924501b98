import Derived.Test.YtadcidbeealdpaaGreatDoorS05
import Derived.Test.YtadcidbeealdpaaGreatDoorS01
import Derived.Deep.QuietTactic
import Derived.BigQuiet
import Derived.Test.YtadcidbeealdpaaGreatDoorS03
import Derived.Deep.RegionHeld3
import Derived.Maps.AppendAt
import Derived.OwnWalk
import Derived.Deep.RegionLaw
import Derived.Deep.AppendLies
import Derived.BigRegion

/- The program's settings: all of them. -/
namespace Go.Proofs.YtadcidbeealdpaaGreatDoor
open Go.RowKit

/-- settings as data -/
structure Cfg where
  host : ByteArray
  doms : List ByteArray
  nets : List (Int × Int)
  users : List (ByteArray × ByteArray)
  most : Int
  size : Int
  waits : List Int
  life : Int
  room : Int

/-- where their lists lie -/
def CfgAt (w : World) (c : Cfg) (vD vN vU vW : Value) : Prop :=
  RowAt w vD c.doms.length 1 (strCellsOf c.doms) ∧ RowAt w vN c.nets.length 2 (netCells c.nets) ∧ RowAt w vU c.users.length 2 (userCells c.users) ∧ RowAt w vW c.waits.length 1 (intCells c.waits)
theorem CfgAt.below {w w' : World} {c : Cfg} {vD vN vU vW : Value} (h : CfgAt w c vD vN vU vW) (hb : Below w.heap.size w w') : CfgAt w' c vD vN vU vW := ⟨h.1.below hb, h.2.1.below hb, h.2.2.1.below hb, h.2.2.2.below hb⟩
def CfgSz (c : Cfg) : Prop :=
  c.host.size ≤ maxLen ∧ c.doms.length ≤ 140737488351232 ∧ (∀ s ∈ c.doms, s.size ≤ maxLen) ∧ c.nets.length ≤ 140737488351232 ∧ c.users.length ≤ 140737488351232 ∧ (∀ x ∈ c.users, x.1.size ≤ maxLen ∧ x.2.size ≤ maxLen) ∧ c.waits.length ≤ 140737488351232
def Cfg.val (c : Cfg) (vD vN vU vW : Value) : Value := .agg #[.string c.host, vD, vN, vU, .int .i64 c.most, .int .i64 c.size, vW, .int .i64 c.life, .int .i64 c.room]

def mayB (c : Cfg) : Bool := domB c.host.data.toList && domsB c.doms && netsB c.nets && usersB c.users && within c.most 1 10 && within c.size 1 1000 && waitsB c.waits && within c.life 1 1000000000 && within c.room 0 1000000

theorem slice_of {w : World} {v : Value} {n sz : Nat} {cs : List Value} (h : RowAt w v n sz cs) : ∃ a cap, v = .slice a n cap := by
  obtain ⟨a, cap, h, _⟩ := h.shape
  exact ⟨a, cap, h⟩

set_option maxHeartbeats 2000000 in
set_option maxRecDepth 100000 in
theorem mayBe_any (c : Cfg) (vD vN vU vW : Value) (m : Int) (w : World) (h : CfgAt w c vD vN vU vW) (hz : CfgSz c) (hm : w.cell? ⟨0, 0, none⟩ = some (.int .i64 m)) :
    Calls Tryz.prog 29 #[.agg #[.string c.host, vD, vN, vU, .int .i64 c.most, .int .i64 c.size, vW, .int .i64 c.life, .int .i64 c.room]] w (BPost (mayB c) w) := by
  obtain ⟨host, doms, nets, users, most, size, waits, life, room⟩ := c
  obtain ⟨z0, z1, z2, z3, z4, z5, z6⟩ := hz
  simp only at z0 z1 z2 z3 z4 z5 z6 h ⊢
  have HM := Lib.hid (show mayB ⟨host, doms, nets, users, most, size, waits, life, room⟩ = (domB host.data.toList && domsB doms && netsB nets && usersB users && within most 1 10 && within size 1 1000 && waitsB waits && within life 1 1000000000 && within room 0 1000000) from rfl)
  generalize mayB ⟨host, doms, nets, users, most, size, waits, life, room⟩ = M at *
  obtain ⟨aD, cD, eD⟩ := slice_of h.1
  obtain ⟨aN, cN, eN⟩ := slice_of h.2.1
  obtain ⟨aU, cU, eU⟩ := slice_of h.2.2.1
  obtain ⟨aW, cW, eW⟩ := slice_of h.2.2.2
  simp only at eD eN eU eW
  subst eD eN eU eW
  have HA := Lib.hid h
  have h0 := block_lt hm
  have Z2 := Lib.hid z2
  have Z5 := Lib.hid z5
  clear h z2 z5
  go_enter Tryz.func29, Tryz.ntmps29
  go_wp2_with fail
  have hbox : ∀ w1 : World, Below (w.heap.size + 1) (w.alloc (.cells #[.string host, .slice aD doms.length cD, .slice aN nets.length cN, .slice aU users.length cU, .int .i64 most, .int .i64 size, .slice aW waits.length cW, .int .i64 life, .int .i64 room] 27)) w1 → Below w.heap.size w w1 ∧ CfgAt w1 ⟨host, doms, nets, users, most, size, waits, life, room⟩ (.slice aD doms.length cD) (.slice aN nets.length cN) (.slice aU users.length cU) (.slice aW waits.length cW) ∧ w1.cell? ⟨0, 0, none⟩ = some (.int .i64 m) ∧ ∀ j : Nat, w1.cell? ⟨w.heap.size, j, none⟩ = (#[.string host, .slice aD doms.length cD, .slice aN nets.length cN, .slice aU users.length cU, .int .i64 most, .int .i64 size, .slice aW waits.length cW, .int .i64 life, .int .i64 room] : Array Value)[j]? := by
    intro w1 hb
    have hb' : Below w.heap.size w w1 := ((Below.refl _ _).alloc (Nat.le_refl _) _).trans (hb.mono (by omega))
    refine ⟨hb', HA.out.below hb', (hb'.cell h0).trans hm, fun j => ?_⟩
    rw [hb.cell (p := ⟨w.heap.size, j, none⟩) (by show w.heap.size < w.heap.size + 1; omega)]
    exact World.cell?_alloc_mark w _ 27 (0, 0) j
  have HX := Lib.hid hbox
  clear hbox HA hm
  have hB0 : Hid (Below (w.heap.size + 1) (w.alloc (.cells #[.string host, .slice aD doms.length cD, .slice aN nets.length cN, .slice aU users.length cU, .int .i64 most, .int .i64 size, .slice aW waits.length cW, .int .i64 life, .int .i64 room] 27)) (w.alloc (.cells #[.string host, .slice aD doms.length cD, .slice aN nets.length cN, .slice aU users.length cU, .int .i64 most, .int .i64 size, .slice aW waits.length cW, .int .i64 life, .int .i64 room] 27))) := Below.refl _ _
  have F := HX.out _ hB0.out
  refine (isDomain_any host m _ z0 F.2.2.1).mono ?_
  rintro e w1 ⟨rfl, hb1⟩
  have hB1 : Hid (Below (w.heap.size + 1) (w.alloc (.cells #[.string host, .slice aD doms.length cD, .slice aN nets.length cN, .slice aU users.length cU, .int .i64 most, .int .i64 size, .slice aW waits.length cW, .int .i64 life, .int .i64 room] 27)) w1) := hB0.out.trans (hb1.mono (by simp))
  clear F hb1
  have F := HX.out _ hB1.out
  have hbw1 := Lib.hid F.1
  have c1 : w1.cell? ⟨w.heap.size, 1, none⟩ = some (.slice aD doms.length cD) := F.2.2.2 1
  have HF := Lib.hid F
  clear F
  cases q0 : domB host.data.toList with
  | false =>
    go_wp2_with fail
    go_ret
    exact BPost.mk false rfl (by rw [HM.out, q0]; rfl) hbw1.out
  | true =>
    go_wp2_with fail
    have F := HF.out
    clear HF
    refine (domainsMayBe_any _ doms m _ F.2.1.1 z1 Z2.out F.2.2.1).mono ?_
    rintro e w2 ⟨rfl, hb2⟩
    have hB2 : Hid (Below (w.heap.size + 1) (w.alloc (.cells #[.string host, .slice aD doms.length cD, .slice aN nets.length cN, .slice aU users.length cU, .int .i64 most, .int .i64 size, .slice aW waits.length cW, .int .i64 life, .int .i64 room] 27)) w2) := hB1.out.trans (hb2.mono (by have := hB1.out.size; simpa using this))
    clear F hb2
    have F := HX.out _ hB2.out
    have hbw2 := Lib.hid F.1
    have c2 : w2.cell? ⟨w.heap.size, 2, none⟩ = some (.slice aN nets.length cN) := F.2.2.2 2
    have HF := Lib.hid F
    clear F
    cases q1 : domsB doms with
    | false =>
      go_wp2_with fail
      go_ret
      exact BPost.mk false rfl (by rw [HM.out, q0, q1]; rfl) hbw2.out
    | true =>
      go_wp2_with fail
      have F := HF.out
      clear HF
      refine (netsMayBe_any _ nets _ F.2.1.2.1 z3).mono ?_
      rintro e w3 ⟨rfl, hb3⟩
      have hB3 : Hid (Below (w.heap.size + 1) (w.alloc (.cells #[.string host, .slice aD doms.length cD, .slice aN nets.length cN, .slice aU users.length cU, .int .i64 most, .int .i64 size, .slice aW waits.length cW, .int .i64 life, .int .i64 room] 27)) w3) := hB2.out.trans (hb3.mono (by have := hB2.out.size; simpa using this))
      clear F hb3
      have F := HX.out _ hB3.out
      have hbw3 := Lib.hid F.1
      have c3 : w3.cell? ⟨w.heap.size, 3, none⟩ = some (.slice aU users.length cU) := F.2.2.2 3
      have HF := Lib.hid F
      clear F
      cases q2 : netsB nets with
      | false =>
        go_wp2_with fail
        go_ret
        exact BPost.mk false rfl (by rw [HM.out, q0, q1, q2]; rfl) hbw3.out
      | true =>
        go_wp2_with fail
        have F := HF.out
        clear HF
        refine (usersMayBe_any _ users _ F.2.1.2.2.1 z4 Z5.out).mono ?_
        rintro e w4 ⟨rfl, hb4⟩
        have hB4 : Hid (Below (w.heap.size + 1) (w.alloc (.cells #[.string host, .slice aD doms.length cD, .slice aN nets.length cN, .slice aU users.length cU, .int .i64 most, .int .i64 size, .slice aW waits.length cW, .int .i64 life, .int .i64 room] 27)) w4) := hB3.out.trans (hb4.mono (by have := hB3.out.size; simpa using this))
        clear F hb4
        have F := HX.out _ hB4.out
        have hbw4 := Lib.hid F.1
        have c4 : w4.cell? ⟨w.heap.size, 4, none⟩ = some (.int .i64 most) := F.2.2.2 4
        have c5 : w4.cell? ⟨w.heap.size, 5, none⟩ = some (.int .i64 size) := F.2.2.2 5
        have c6 : w4.cell? ⟨w.heap.size, 6, none⟩ = some (.slice aW waits.length cW) := F.2.2.2 6
        have c7 : w4.cell? ⟨w.heap.size, 7, none⟩ = some (.int .i64 life) := F.2.2.2 7
        have c8 : w4.cell? ⟨w.heap.size, 8, none⟩ = some (.int .i64 room) := F.2.2.2 8
        have hW := F.2.1.2.2.2
        have HW := Lib.hid hW
        clear hW
        have HF := Lib.hid F
        clear F
        cases q3 : usersB users with
        | false =>
          go_wp2_with fail
          go_ret
          exact BPost.mk false rfl (by rw [HM.out, q0, q1, q2, q3]; rfl) hbw4.out
        | true =>
          go_wp2_with fail
          have F := HF.out
          clear HF
          clear F
          cases q4 : within most 1 10 with
          | false =>
            go_wp2_with (first | (go_at_call 53; refine (isWithin_any _ _ _ _).mono ?_; rintro e w' ⟨rfl, rfl⟩) | (go_at_call 54; refine (waitsMayBe_any _ waits _ HW.out z6).mono ?_; rintro e w' ⟨rfl, rfl⟩))
            go_ret
            exact BPost.mk false rfl (by rw [HM.out, q0, q1, q2, q3, q4]; rfl) hbw4.out
          | true =>
            cases q5 : within size 1 1000 with
            | false =>
              go_wp2_with (first | (go_at_call 53; refine (isWithin_any _ _ _ _).mono ?_; rintro e w' ⟨rfl, rfl⟩) | (go_at_call 54; refine (waitsMayBe_any _ waits _ HW.out z6).mono ?_; rintro e w' ⟨rfl, rfl⟩))
              go_ret
              exact BPost.mk false rfl (by rw [HM.out, q0, q1, q2, q3, q4, q5]; rfl) hbw4.out
            | true =>
              cases q6 : waitsB waits with
              | false =>
                go_wp2_with (first | (go_at_call 53; refine (isWithin_any _ _ _ _).mono ?_; rintro e w' ⟨rfl, rfl⟩) | (go_at_call 54; refine (waitsMayBe_any _ waits _ HW.out z6).mono ?_; rintro e w' ⟨rfl, rfl⟩))
                go_ret
                exact BPost.mk false rfl (by rw [HM.out, q0, q1, q2, q3, q4, q5, q6]; rfl) hbw4.out
              | true =>
                cases q7 : within life 1 1000000000 with
                | false =>
                  go_wp2_with (first | (go_at_call 53; refine (isWithin_any _ _ _ _).mono ?_; rintro e w' ⟨rfl, rfl⟩) | (go_at_call 54; refine (waitsMayBe_any _ waits _ HW.out z6).mono ?_; rintro e w' ⟨rfl, rfl⟩))
                  go_ret
                  exact BPost.mk false rfl (by rw [HM.out, q0, q1, q2, q3, q4, q5, q6, q7]; rfl) hbw4.out
                | true =>
                  cases q8 : within room 0 1000000 with
                  | false =>
                    go_wp2_with (first | (go_at_call 53; refine (isWithin_any _ _ _ _).mono ?_; rintro e w' ⟨rfl, rfl⟩) | (go_at_call 54; refine (waitsMayBe_any _ waits _ HW.out z6).mono ?_; rintro e w' ⟨rfl, rfl⟩))
                    go_ret
                    exact BPost.mk false rfl (by rw [HM.out, q0, q1, q2, q3, q4, q5, q6, q7, q8]; rfl) hbw4.out
                  | true =>
                    go_wp2_with (first | (go_at_call 53; refine (isWithin_any _ _ _ _).mono ?_; rintro e w' ⟨rfl, rfl⟩) | (go_at_call 54; refine (waitsMayBe_any _ waits _ HW.out z6).mono ?_; rintro e w' ⟨rfl, rfl⟩))
                    go_ret
                    exact BPost.mk true rfl (by rw [HM.out, q0, q1, q2, q3, q4, q5, q6, q7, q8]; rfl) hbw4.out

def errB (b : Bool) : Int := if b then 0 else 2
def EPost (b : Bool) (w : World) (e : Ending) (w' : World) : Prop := e = .returned (.int .i64 (errB b)) ∧ Below w.heap.size w w'
theorem EPost.mk {b : Bool} {w : World} {e : Ending} {w' : World} (c : Bool) (he : e = .returned (.int .i64 (errB c))) (hc : b = c) (hw : Below w.heap.size w w') : EPost b w e w' := ⟨by rw [he, hc], hw⟩

set_option maxHeartbeats 400000 in
set_option maxRecDepth 100000 in
theorem check_any (c : Cfg) (vD vN vU vW : Value) (m : Int) (w : World) (h : CfgAt w c vD vN vU vW) (hz : CfgSz c) (hm : w.cell? ⟨0, 0, none⟩ = some (.int .i64 m)) :
    Calls Tryz.prog 18 #[.agg #[.string c.host, vD, vN, vU, .int .i64 c.most, .int .i64 c.size, vW, .int .i64 c.life, .int .i64 c.room]] w (EPost (mayB c) w) := by
  obtain ⟨aD, cD, eD⟩ := slice_of h.1
  obtain ⟨aN, cN, eN⟩ := slice_of h.2.1
  obtain ⟨aU, cU, eU⟩ := slice_of h.2.2.1
  obtain ⟨aW, cW, eW⟩ := slice_of h.2.2.2
  subst eD eN eU eW
  have HA := Lib.hid h
  have HZ := Lib.hid hz
  have h0 := block_lt hm
  have HM := Lib.hid hm
  clear h hz hm
  go_enter Tryz.func18, Tryz.ntmps18
  go_wp2_with fail
  refine (mayBe_any c _ _ _ _ m _ (HA.out.below ((Below.refl _ _).alloc (Nat.le_refl _) _)) HZ.out ?_).mono ?_
  · exact (((Below.refl w.heap.size w).alloc (Nat.le_refl _) _).cell h0).trans HM.out
  rintro e w1 ⟨rfl, hb1⟩
  have HB : Hid (Below w.heap.size w w1) := ((Below.refl _ _).alloc (Nat.le_refl _) _).trans (hb1.mono (by simp))
  clear hb1 HA HZ HM
  cases hM : mayB c with
  | false =>
    go_wp2_with fail
    go_ret
    exact EPost.mk false rfl hM HB.out
  | true =>
    go_wp2_with fail
    go_ret
    exact EPost.mk true rfl hM HB.out
end Go.Proofs.YtadcidbeealdpaaGreatDoor

/- The document's answer: a user's name or word; settings. -/
namespace Go.Proofs.YtadcidbeealdpaaGreatDoor
open Go.RowKit

theorem zero_flag (l x y : List UInt8) (f : Bool) (h : cutR 0 l = (x, y, f)) : decide (Lib.indexByte l 0 < 0) = !f := by
  cases f with
  | true =>
    have := (cutR_found 0 l (by rw [h])).2.2
    rw [this]; simp
  | false =>
    have := (cutR_none 0 l (by rw [h])).2.2
    rw [this]; rfl

def WPost (b : Bool) (w : World) (e : Ending) (w' : World) : Prop := e = .returned (.bool b) ∧ ∃ n, w' = w.drewN n
theorem WPost.mk {b : Bool} {w : World} {e : Ending} {w' : World} (c : Bool) (he : e = .returned (.bool c)) (hc : b = c) (n : Nat) (hw : w' = w.drewN n) : WPost b w e w' := ⟨by rw [he, hc], n, hw⟩

end Go.Proofs.YtadcidbeealdpaaGreatDoor

/- The document's answer: settings. -/
namespace Go.Proofs.YtadcidbeealdpaaGreatDoor
open Go.RowKit

theorem box_facts {w w1 : World} {C : Array Value} {c : Cfg} {vD vN vU vW : Value} (h : CfgAt w c vD vN vU vW) (hb : Below (w.heap.size + 1) (w.alloc (.cells C 27)) w1) :
    Below w.heap.size w w1 ∧ CfgAt w1 c vD vN vU vW ∧ ∀ j : Nat, w1.cell? ⟨w.heap.size, j, none⟩ = C[j]? := by
  have hb' : Below w.heap.size w w1 := ((Below.refl _ _).alloc (Nat.le_refl _) _).trans (hb.mono (by omega))
  refine ⟨hb', h.below hb', fun j => ?_⟩
  rw [hb.cell (p := ⟨w.heap.size, j, none⟩) (by show w.heap.size < w.heap.size + 1; omega)]
  exact World.cell?_alloc_mark w _ 27 (0, 0) j

theorem RowAt.elem {w : World} {a : Option Addr} {n m cap : Nat} {cs : List Value} (h : RowAt w (.slice a n cap) m 1 cs) (k : Nat) (hk : k < m) : ∃ b off, a = some ⟨b, off, none⟩ ∧ b < w.heap.size ∧ w.cell? ⟨b, off + k, none⟩ = cs[k]? := by
  obtain ⟨a', cap', e, hc⟩ := h.one
  injection e with e1 e2 e3
  subst e1
  exact hc k hk
theorem RowAt.pair {w : World} {a : Option Addr} {n m cap : Nat} {cs : List Value} (h : RowAt w (.slice a n cap) m 2 cs) (k : Nat) (hk : k < m) : ∃ b off, a = some ⟨b, off, none⟩ ∧ b < w.heap.size ∧ w.cell? ⟨b, off + k * 2, none⟩ = cs[k * 2]? ∧ w.cell? ⟨b, off + k * 2 + 1, none⟩ = cs[k * 2 + 1]? := by
  obtain ⟨a', cap', e, hc⟩ := h.shape
  injection e with e1 e2 e3
  subst e1
  obtain ⟨b, off, e1, hb, h0⟩ := hc k 0 hk (by decide)
  obtain ⟨b', off', e2, _, h1⟩ := hc k 1 hk (by decide)
  obtain ⟨rfl, rfl⟩ : b' = b ∧ off' = off := by
    have := (Option.some.inj (e2.symm.trans e1))
    simp at this; exact this
  refine ⟨b', off', e1, hb, ?_, ?_⟩
  · rw [Nat.add_zero] at h0; exact h0
  · rw [← Nat.add_assoc] at h1; exact h1

theorem net_ops (a l : Int) (h0 : 0 ≤ a) (h1 : 0 ≤ l) (h2 : l ≤ 32) : ∃ T R : Int, wrap64 (2 ^ (32 - l).toNat) = T ∧ ¬ T = 0 ∧ a.tmod T = R ∧ decide (a % 2 ^ (32 - l).toNat = 0) = (R == 0) := by
  have hn : (32 - l).toNat ≤ 32 := by omega
  have e : ((2 : Int) ^ (32 - l).toNat) = ((2 ^ (32 - l).toNat : Nat) : Int) := by rw [Int.natCast_pow]; rfl
  have h3 : 2 ^ (32 - l).toNat ≤ 2 ^ 32 := Nat.pow_le_pow_right (by decide) hn
  have h4 : (2 : Nat) ^ 32 = 4294967296 := by decide
  have h5 : 1 ≤ 2 ^ (32 - l).toNat := Nat.one_le_two_pow
  have h6 : (2 : Int) ^ (32 - l).toNat ≠ 0 := by rw [e]; omega
  refine ⟨2 ^ (32 - l).toNat, a.tmod (2 ^ (32 - l).toNat), ?_, h6, rfl, ?_⟩
  · rw [e]
    unfold wrap64
    omega
  · rw [Int.tmod_eq_emod_of_nonneg h0, Bool.eq_iff_iff]; simp

theorem name_succ (l : List (ByteArray × ByteArray)) (x : ByteArray) (k : Nat) (h : k < l.length) : nameIn (l.take (k + 1)) x = (nameIn (l.take k) x || (l[k].1.toList == x.toList)) := by
  rw [nameIn, nameIn, List.take_succ_eq_append_getElem h, List.any_append]; simp

def domQ (s : ByteArray) : Bool := domR s.data.toList
def waitQ (x : Int) : Bool := within x 1 1000000000
theorem take_all_succ {α : Type} (p : α → Bool) (l : List α) (k : Nat) (h : k < l.length) : (l.take (k + 1)).all p = ((l.take k).all p && p l[k]) := by
  rw [List.take_succ_eq_append_getElem h, List.all_append]; simp

end Go.Proofs.YtadcidbeealdpaaGreatDoor

/- The document's records: texts, lists, frames. -/
namespace Go.Proofs.YtadcidbeealdpaaGreatDoor
open Go.RowKit

theorem ret_bs {a : ByteArray} {l : List UInt8} (h : a = bs l) : Ending.returned (.string a) = .returned (.string (bs l)) := by rw [h]

/-- a text with its length ahead -/
def textE (l : List UInt8) : List UInt8 := beBytes 1 l.length ++ l
/-- a record of this content -/
def frameE (l : List UInt8) : List UInt8 := beBytes 4 l.length ++ (beBytes 4 (crc l) ++ l)
/-- the numbers of recipients, a byte each -/
def placesE (l : List Nat) : List UInt8 := l.flatMap (beBytes 1)
theorem placesE_take (l : List Nat) (k : Nat) (h : k < l.length) : placesE (l.take (k + 1)) = placesE (l.take k) ++ beBytes 1 l[k] := by
  unfold placesE; rw [List.take_succ_eq_append_getElem h, List.flatMap_append]; simp
theorem placesE_len (l : List Nat) : (placesE l).length = l.length := by
  induction l with
  | nil => rfl
  | cons a l ih => show (beBytes 1 a ++ placesE l).length = _; rw [List.length_append, beBytes_len, ih, List.length_cons]; omega
def listedE (id : Nat) (l : List Nat) : List UInt8 := beBytes 4 id ++ (beBytes 1 l.length ++ placesE l)
def natCells (l : List Nat) : List Value := l.map fun (n : Nat) => Value.int .i64 (n : Int)

end Go.Proofs.YtadcidbeealdpaaGreatDoor

/- The document's content of a mail's record. -/
namespace Go.Proofs.YtadcidbeealdpaaGreatDoor
open Go.RowKit

structure PMail where
  id : Nat
  time : Nat
  frm : List UInt8
  tos : List (List UInt8)
  body : List UInt8

def textsE (l : List (List UInt8)) : List UInt8 := l.flatMap textE
theorem textsE_take (l : List (List UInt8)) (k : Nat) (h : k < l.length) : textsE (l.take (k + 1)) = textsE (l.take k) ++ textE l[k] := by
  unfold textsE; rw [List.take_succ_eq_append_getElem h, List.flatMap_append]; simp
theorem textE_len (l : List UInt8) : (textE l).length = 1 + l.length := by rw [textE, List.length_append, beBytes_len]
def mailE (m : PMail) : List UInt8 := 77 :: (beBytes 4 m.id ++ (beBytes 4 m.time ++ (textE m.frm ++ (beBytes 1 m.tos.length ++ (textsE m.tos ++ (beBytes 2 m.body.length ++ m.body))))))
/-- a mail's five cells -/
def mailCells (m : PMail) (v : Value) : Array Value := #[.int .i64 m.id, .int .i64 m.time, .string (bs m.frm), v, .string (bs m.body)]
def MailSz (m : PMail) : Prop := m.id ≤ 4294967295 ∧ m.time ≤ 4294967295 ∧ m.frm.length ≤ 255 ∧ m.tos.length ≤ 255 ∧ (∀ t ∈ m.tos, t.length ≤ 255) ∧ m.body.length ≤ 1048576
def textCells (l : List (List UInt8)) : List Value := l.map fun t => Value.string (bs t)

theorem below_step {s : Nat} {W0 wc w' : World} (h0 : W0.heap.size = s + 1) (h : Below (s + 1) W0 wc) (hb : Below wc.heap.size wc w') : Below (s + 1) W0 w' := h.trans (hb.mono (by have := h.size; omega))

end Go.Proofs.YtadcidbeealdpaaGreatDoor

/- Frames by the blocks' types; the document's reader of lists. -/
namespace Go.Proofs.YtadcidbeealdpaaGreatDoor
open Go.RowKit

def tagOf : Obj → Option TypeId
  | .cells _ t _ => some t
  | _ => none
/-- blocks may be new; of the old ones only those of these types have changed -/
structure Touch (ts : List TypeId) (w w' : World) : Prop where
  size : w.heap.size ≤ w'.heap.size
  block : ∀ (b : Nat) (o : Obj), w.heap[b]? = some o → (∀ t ∈ ts, tagOf o ≠ some t) → w'.heap[b]? = some o
  still : Still w w'
theorem Touch.refl (ts : List TypeId) (w : World) : Touch ts w w := ⟨Nat.le_refl _, fun _ _ h _ => h, Still.refl w⟩
theorem Touch.trans {ts : List TypeId} {a b c : World} (h : Touch ts a b) (h' : Touch ts b c) : Touch ts a c := ⟨Nat.le_trans h.1 h'.1, fun k o e n => h'.2 k o (h.2 k o e n) n, h.3.trans h'.3⟩
theorem Touch.mono {ts us : List TypeId} {a b : World} (h : Touch ts a b) (hs : ∀ t ∈ ts, t ∈ us) : Touch us a b := ⟨h.1, fun k o e n => h.2 k o e (fun t ht => n t (hs t ht)), h.3⟩
theorem Touch.below {ts : List TypeId} {a b : World} (h : Below a.heap.size a b) : Touch ts a b := ⟨h.size, fun k o e _ => (h.block k (by
  rcases Nat.lt_or_ge k a.heap.size with h' | h'
  · exact h'
  · rw [Array.getElem?_eq_none h'] at e; cases e)).trans e, Still.of_below h⟩
theorem Touch.drewN {ts : List TypeId} {a b : World} (h : Touch ts a b) (n : Nat) : Touch ts a (b.drewN n) := ⟨by simpa using h.1, fun k o e m => by simpa using h.2 k o e m, h.3.trans (still_drewN n b)⟩
theorem Touch.alloc {ts : List TypeId} {a b : World} (h : Touch ts a b) (o : Obj) : Touch ts a (b.alloc o) := h.trans (Touch.below ((Below.refl _ _).alloc (Nat.le_refl _) o))
theorem Touch.same {ts : List TypeId} {a b c : World} {k : Nat} {A : Array Value} {t : TypeId} {z : Nat × Nat} (h : Touch ts a b) (hk : b.heap[k]? = some (.cells A t z)) (ht : t ∈ ts) (hs : Same k b c) : Touch ts a c := by
  refine h.trans ⟨by rw [hs.1]; exact Nat.le_refl _, fun j o e n => ?_, hs.3⟩
  rcases Nat.decEq j k with hne | rfl
  · rw [hs.2 j hne]; exact e
  · rw [hk] at e
    injection e with e
    subst e
    exact absurd rfl (n t ht)
theorem Touch.grown {ts : List TypeId} {a b c : World} {row : Option Nat} (h : Touch ts a b) (hg : b.grownBy c row) (ht : ∀ k, row = some k → ∃ A t z, b.heap[k]? = some (.cells A t z) ∧ t ∈ ts) : Touch ts a c := by
  refine h.trans ⟨hg.size, fun j o e n => ?_, hg.os, hg.tape, hg.output⟩
  have hj : j < b.heap.size := by
    rcases Nat.lt_or_ge j b.heap.size with h' | h'
    · exact h'
    · rw [Array.getElem?_eq_none h'] at e; cases e
  by_cases hr : row = some j
  · obtain ⟨A, t, z, hA, hm⟩ := ht j hr
    rw [hA] at e
    injection e with e
    subst e
    exact absurd rfl (n t hm)
  · rw [hg.block j hj (fun k => hr k.symm)]; exact e
theorem Touch.grownNew {ts : List TypeId} {a b c : World} {row : Option Nat} (h : Touch ts a b) (hg : b.grownBy c row) (ht : ∀ k, row = some k → a.heap.size ≤ k) : Touch ts a c := by
  refine ⟨Nat.le_trans h.1 hg.size, fun j o e n => ?_, h.3.trans ⟨hg.os, hg.tape, hg.output⟩⟩
  have hj : j < a.heap.size := by
    rcases Nat.lt_or_ge j a.heap.size with h' | h'
    · exact h'
    · rw [Array.getElem?_eq_none h'] at e; cases e
  rw [hg.block j (Nat.lt_of_lt_of_le hj h.1) (fun k => by have := ht j k.symm; omega)]
  exact h.2 j o e n
theorem Touch.cells {ts : List TypeId} {a b : World} (h : Touch ts a b) {k : Nat} {A : Array Value} {t : TypeId} {z : Nat × Nat} (hk : a.heap[k]? = some (.cells A t z)) (ht : t ∉ ts) : b.heap[k]? = some (.cells A t z) :=
  h.2 k _ hk (fun u hu e => by simp only [tagOf, Option.some.injEq] at e; exact ht (e ▸ hu))

theorem info_int' : (Tryz.prog.info? 3).map (fun i => (i.zero, i.size, i.bytes)) = some (some (.int .i64 0), 1, 8) := by kernel_rfl
/-- the numbers that a list's bytes say; what is missing reads as 0 -/
def numsOf (n : Nat) (l : List UInt8) : List Nat := (List.range n).map fun i => be ((l.drop i).take 1)
theorem numsOf_len (n : Nat) (l : List UInt8) : (numsOf n l).length = n := by simp [numsOf]
theorem numsOf_succ (n : Nat) (l : List UInt8) : numsOf (n + 1) l = numsOf n l ++ [be ((l.drop n).take 1)] := by
  simp [numsOf, List.range_succ]

end Go.Proofs.YtadcidbeealdpaaGreatDoor

/- The document's addresses as they are kept. -/
namespace Go.Proofs.YtadcidbeealdpaaGreatDoor
open Go.RowKit

/-- an address as it is kept -/
def keptR (l : List UInt8) : List UInt8 × Bool := ((addrR l).1 ++ 64 :: (addrR l).2.1, (addrR l).2.2)
theorem addrR_len (l : List UInt8) : (addrR l).1.length ≤ 20 ∧ (addrR l).2.1.length ≤ 40 := by
  unfold addrR
  split
  · rename_i h
    simp only [Bool.and_eq_true] at h
    obtain ⟨h1, h2⟩ := h
    simp only [locB, domB, Bool.and_eq_true, decide_eq_true_eq] at h1 h2
    simp only [Lib.toLowerA, List.length_map]
    omega
  · simp

end Go.Proofs.YtadcidbeealdpaaGreatDoor

/- The document's question whether a mail may be such. -/
namespace Go.Proofs.YtadcidbeealdpaaGreatDoor
open Go.RowKit

def isKeptB (l : List UInt8) : Bool := (keptR l).2 && ((keptR l).1 == l)
def freshB (l : List (List UInt8)) (k : Nat) : Bool := (List.range k).all fun j => !(l.getD j [] == l.getD k [])
def toOkB (l : List (List UInt8)) (k : Nat) : Bool := isKeptB (l.getD k []) && freshB l k
def properB (n T : Nat) (m : PMail) : Bool := decide (m.id = n + 1) && decide (T ≤ m.time) && decide (m.time ≤ 1000000000) && decide (1 ≤ m.tos.length) && decide (m.tos.length ≤ 10) && decide (m.body.length ≤ 1000) && (m.frm.isEmpty || isKeptB m.frm) && (List.range m.tos.length).all (toOkB m.tos)

theorem all_false {n k : Nat} {q : Nat → Bool} (h : k < n) (hq : q k = false) : (List.range n).all q = false := by
  cases h' : (List.range n).all q with
  | false => rfl
  | true =>
    have := List.all_eq_true.1 h' k (List.mem_range.2 h)
    rw [hq] at this; cases this
theorem all_succ {k : Nat} {q : Nat → Bool} : (List.range (k + 1)).all q = ((List.range k).all q && q k) := by
  rw [List.range_succ, List.all_append]; simp
theorem getD_at {l : List (List UInt8)} {k : Nat} (h : k < l.length) : l.getD k [] = l[k] := by
  rw [List.getD_eq_getElem?_getD, List.getElem?_eq_getElem h]; rfl
theorem bs_beq (a b : List UInt8) : ((bs a).toList == (bs b).toList) = (a == b) := by
  rw [Lib.toList_data, Lib.toList_data, bs_toList, bs_toList]

end Go.Proofs.YtadcidbeealdpaaGreatDoor

/- The document's store in memory. -/
namespace Go.Proofs.YtadcidbeealdpaaGreatDoor
open Go.RowKit

structure PItem where
  m : PMail
  out : List Bool
structure PStore where
  items : List PItem
  time : Nat

def boolCells (l : List Bool) : List Value := l.map Value.bool
def itemCells (x : PItem × Value × Nat) : List Value := [.int .i64 x.1.m.id, .int .i64 x.1.m.time, .string (bs x.1.m.frm), x.2.1, .string (bs x.1.m.body), .slice (some ⟨x.2.2, 0, none⟩) x.1.out.length x.1.out.length]
def rowCells (l : List (PItem × Value × Nat)) : List Value := l.flatMap itemCells
theorem rowCells_snoc (l : List (PItem × Value × Nat)) (x : PItem × Value × Nat) : rowCells (l ++ [x]) = rowCells l ++ itemCells x := by
  simp [rowCells]
theorem rowCells_len (l : List (PItem × Value × Nat)) : (rowCells l).length = l.length * 6 := by
  induction l with
  | nil => rfl
  | cons x l ih => show (itemCells x ++ rowCells l).length = _; rw [List.length_append, ih]; simp [itemCells]; omega
theorem rowCells_at (l : List (PItem × Value × Nat)) (k i : Nat) (h : k < l.length) (hi : i < 6) : (rowCells l)[k * 6 + i]? = (itemCells l[k])[i]? := by
  induction l generalizing k with
  | nil => simp at h
  | cons x l ih =>
    show (itemCells x ++ rowCells l)[k * 6 + i]? = _
    have hx : (itemCells x).length = 6 := rfl
    cases k with
    | zero => rw [List.getElem?_append_left (by omega)]; simp
    | succ k =>
      rw [List.getElem?_append_right (by omega), hx, show (k + 1) * 6 + i - 6 = k * 6 + i by omega, ih k (by simpa using h)]
      rfl

/-- one mail of the store -/
def ItemIn (base : Nat) (w : World) (x : PItem × Value × Nat) : Prop :=
  w.ownsRow base 9 1 x.2.1 x.1.m.tos.length (textCells x.1.m.tos) ∧ base ≤ x.2.2 ∧ w.heap[x.2.2]? = some (.cells (boolCells x.1.out).toArray 4 (0, 0)) ∧ x.1.out.length = x.1.m.tos.length ∧ 1 ≤ x.1.m.tos.length ∧ MailSz x.1.m
theorem info_bool : (Tryz.prog.info? 4).map (fun i => (i.zero, i.size, i.bytes)) = some (some (.bool false), 1, 1) := by kernel_rfl

theorem newest {W0 : World} {s : Nat} (h : W0.heap.size = s + 1) (o o' : Obj) : ((W0.alloc o).alloc o').drew.heap[s + 1 + 1]? = some o' := by
  have := heap_alloc_new (W0.alloc o) o'
  rw [show (W0.alloc o).heap.size = s + 1 + 1 by simp [h]] at this
  exact this

theorem ownsRow_touch {ts : List TypeId} {w w' : World} {base sz n : Nat} {e : TypeId} {v : Value} {xs : List Value} (ht : Touch ts w w') (he : e ∉ ts) (h : w.ownsRow base e sz v n xs) : w'.ownsRow base e sz v n xs := by
  refine ⟨h.1, ?_⟩
  rcases h.2 with h | ⟨g, cap, cur, e1, e2, e3, e4⟩
  · exact .inl h
  · exact .inr ⟨g, cap, cur, e1, e2, ht.cells e3 he, e4⟩
theorem ItemIn.touch {ts : List TypeId} {w w' : World} {base : Nat} {x : PItem × Value × Nat} (ht : Touch ts w w') (h1 : 9 ∉ ts) (h2 : 4 ∉ ts) (h : ItemIn base w x) : ItemIn base w' x :=
  ⟨ownsRow_touch ht h1 h.1, h.2.1, ht.cells h.2.2.1 h2, h.2.2.2⟩
theorem heap_lt {w : World} {b : Nat} {o : Obj} (h : w.heap[b]? = some o) : b < w.heap.size := by
  rcases Nat.lt_or_ge b w.heap.size with h' | h'
  · exact h'
  · rw [Array.getElem?_eq_none h'] at h; cases h
theorem two_old {W0 : World} (o o' : Obj) {b : Nat} (h : b < W0.heap.size) : ((W0.alloc o).alloc o').drew.heap[b]? = W0.heap[b]? :=
  (((Below.refl W0.heap.size W0).alloc (Nat.le_refl _) o).alloc (by simp) o').block b h
theorem two_first {W0 : World} (o o' : Obj) : ((W0.alloc o).alloc o').drew.heap[W0.heap.size]? = some o := by
  have h1 : (W0.alloc o).heap[W0.heap.size]? = some o := heap_alloc_new W0 o
  have h2 := ((Below.refl (W0.heap.size + 1) (W0.alloc o)).alloc (by simp) o').block W0.heap.size (by omega)
  exact h2.trans h1

end Go.Proofs.YtadcidbeealdpaaGreatDoor

/- The document's question whether recipients may go out. -/
namespace Go.Proofs.YtadcidbeealdpaaGreatDoor
open Go.RowKit

/-- may the i-th of these numbers go out? -/
def outOkB (out : List Bool) (l : List Nat) (i : Nat) : Bool := decide (l.getD i 0 < out.length) && !(out.getD (l.getD i 0) false) && (decide (i = 0) || decide (l.getD (i - 1) 0 < l.getD i 0))
def outsB (S : PStore) (id : Nat) (l : List Nat) : Bool := decide (1 ≤ id) && decide (id ≤ S.items.length) && decide (1 ≤ l.length) && (List.range l.length).all (outOkB ((S.items.map (·.out)).getD (id - 1) []) l)

end Go.Proofs.YtadcidbeealdpaaGreatDoor

/- Recipients go out of the document's store. -/
namespace Go.Proofs.YtadcidbeealdpaaGreatDoor
open Go.RowKit

theorem Same.drew {b : Nat} {w w' : World} (h : Same b w w') : Same b w w'.drew := ⟨h.1, h.2, h.3.trans ⟨rfl, rfl, rfl⟩⟩
theorem Touch.drew {ts : List TypeId} {w w' : World} (h : Touch ts w w') : Touch ts w w'.drew := ⟨h.1, h.2, h.3.trans ⟨rfl, rfl, rfl⟩⟩
theorem tag_ne {w : World} {a b : Nat} {A B : Array Value} {t u : TypeId} {y z : Nat × Nat} (ha : w.heap[a]? = some (.cells A t y)) (hb : w.heap[b]? = some (.cells B u z)) (h : t ≠ u) : a ≠ b := by
  intro e
  subst e
  rw [ha] at hb
  injection hb with hb
  injection hb with _ hb _
  exact h hb

def outSet (o : List Bool) (l : List Nat) : List Bool := l.foldl (fun o x => o.set x true) o
theorem outSet_len (o : List Bool) (l : List Nat) : (outSet o l).length = o.length := by
  induction l generalizing o with
  | nil => rfl
  | cons x l ih => show (outSet (o.set x true) l).length = _; rw [ih, List.length_set]
theorem outSet_take (o : List Bool) (l : List Nat) (k : Nat) (h : k < l.length) : outSet o (l.take (k + 1)) = (outSet o (l.take k)).set l[k] true := by
  unfold outSet; rw [List.take_succ_eq_append_getElem h, List.foldl_append]; rfl
def PStore.outs (S : PStore) (K : Nat) (ps : List Nat) : PStore := ⟨S.items.modify K (fun x => ⟨x.m, outSet x.out ps⟩), S.time⟩

theorem bools_set (o : List Bool) (x : Nat) : (boolCells o).toArray.setIfInBounds x (.bool true) = (boolCells (o.set x true)).toArray := by
  simp [boolCells, List.map_set]
theorem outs_lt {S : PStore} {K : Nat} {ps : List Nat} (h : outsB S (K + 1) ps = true) : K < S.items.length ∧ ∀ j, j < ps.length → ps.getD j 0 < ((S.items.map (·.out)).getD K []).length := by
  unfold outsB at h
  simp only [Bool.and_eq_true, decide_eq_true_eq] at h
  refine ⟨by omega, fun j hj => ?_⟩
  have := List.all_eq_true.1 h.2 j (List.mem_range.2 hj)
  unfold outOkB at this
  simp only [Bool.and_eq_true, decide_eq_true_eq] at this
  exact this.1.1

theorem modify_snd {l : List (PItem × Value × Nat)} {K : Nat} (f : PItem → PItem) : (l.modify K (fun x => (f x.1, x.2))).map (·.1) = (l.map (·.1)).modify K f ∧ (l.modify K (fun x => (f x.1, x.2))).map (·.2.2) = l.map (·.2.2) := by
  induction l generalizing K with
  | nil => cases K <;> exact ⟨rfl, rfl⟩
  | cons x l ih =>
    cases K with
    | zero => exact ⟨rfl, rfl⟩
    | succ K => exact ⟨by simpa using (ih (K := K)).1, by simpa using (ih (K := K)).2⟩
theorem rowCells_modify {l : List (PItem × Value × Nat)} {K : Nat} (ps : List Nat) : rowCells (l.modify K (fun x => (⟨x.1.m, outSet x.1.out ps⟩, x.2))) = rowCells l := by
  induction l generalizing K with
  | nil => cases K <;> rfl
  | cons x l ih =>
    cases K with
    | zero => show itemCells _ ++ rowCells l = itemCells x ++ rowCells l; simp [itemCells, outSet_len]
    | succ K => exact congrArg (itemCells x ++ ·) (ih (K := K))

end Go.Proofs.YtadcidbeealdpaaGreatDoor

/- A mail more in the document's store. -/
namespace Go.Proofs.YtadcidbeealdpaaGreatDoor
open Go.RowKit

end Go.Proofs.YtadcidbeealdpaaGreatDoor

/- Recipients fail in the document's store: a return, perhaps. -/
namespace Go.Proofs.YtadcidbeealdpaaGreatDoor
open Go.RowKit

/-- Not delivered: -/
def notE : List UInt8 := [78, 111, 116, 32, 100, 101, 108, 105, 118, 101, 114, 101, 100, 58]
def bodyE (tos : List (List UInt8)) (ps : List Nat) : List UInt8 := notE ++ ps.flatMap fun x => 13 :: 10 :: tos.getD x []
theorem bodyE_take (tos : List (List UInt8)) (ps : List Nat) (k : Nat) (h : k < ps.length) : bodyE tos (ps.take (k + 1)) = bodyE tos (ps.take k) ++ (13 :: 10 :: tos.getD ps[k] []) := by
  unfold bodyE; rw [List.take_succ_eq_append_getElem h, List.flatMap_append, ← List.append_assoc]; simp
def PStore.failed (S : PStore) (m : PMail) (ps : List Nat) (time : Nat) : PStore :=
  if m.frm = [] then ⟨S.items, time⟩ else ⟨S.items ++ [⟨⟨S.items.length + 1, time, [], [m.frm], bodyE m.tos ps⟩, [false]⟩], time⟩

end Go.Proofs.YtadcidbeealdpaaGreatDoor
