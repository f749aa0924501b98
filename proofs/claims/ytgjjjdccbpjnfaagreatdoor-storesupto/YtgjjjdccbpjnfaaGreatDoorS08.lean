import Derived.Test.YtgjjjdccbpjnfaaGreatDoorS07
import Derived.Deep.QuietTactic
import Derived.BigQuiet
import Derived.Deep.RegionHeld3
import Derived.Deep.RegionLaw
import Derived.Deep.AppendLies

/- The document's question whether a mail may be such. -/
namespace Go.Proofs.YtgjjjdccbpjnfaaGreatDoor
open Go.RowKit

def isKeptB (l : List UInt8) : Bool := (keptR l).2 && ((keptR l).1 == l)
def freshB (l : List (List UInt8)) (k : Nat) : Bool := (List.range k).all fun j => !(l.getD j [] == l.getD k [])
def toOkB (l : List (List UInt8)) (k : Nat) : Bool := isKeptB (l.getD k []) && freshB l k
def properB (n T : Nat) (m : PMail) : Bool := decide (m.id = n + 1) && decide (T ≤ m.time) && decide (m.time ≤ 1000000000) && decide (1 ≤ m.tos.length) && decide (m.tos.length ≤ 10) && decide (m.body.length ≤ 1000) && (m.frm.isEmpty || isKeptB m.frm) && (List.range m.tos.length).all (toOkB m.tos)

theorem all_false {n k : Nat} {q : Nat → Bool} (h : k < n) (hq : q k = false) : (List.range n).all q = false := by
  cases h' : (List.range n).all q with
  | false => rfl
  | true =>
    have := List.all_eq_true.1 h' k (List.mem_range.2 h)
    rw [hq] at this; cases this
theorem all_succ {k : Nat} {q : Nat → Bool} : (List.range (k + 1)).all q = ((List.range k).all q && q k) := by
  rw [List.range_succ, List.all_append]; simp
theorem getD_at {l : List (List UInt8)} {k : Nat} (h : k < l.length) : l.getD k [] = l[k] := by
  rw [List.getD_eq_getElem?_getD, List.getElem?_eq_getElem h]; rfl
theorem bs_beq (a b : List UInt8) : ((bs a).toList == (bs b).toList) = (a == b) := by
  rw [Lib.toList_data, Lib.toList_data, bs_toList, bs_toList]

set_option maxHeartbeats 4000000 in
set_option maxRecDepth 100000 in
theorem refProper_any (p n T capL : Nat) (aL : Option Addr) (m : PMail) (v : Value) (w : World) (hL : w.cell? ⟨p, 0, none⟩ = some (.slice aL n capL)) (hT : w.cell? ⟨p, 1, none⟩ = some (.int .i64 T)) (hn : n ≤ 1048576) (_hTT : T ≤ 4294967295) (hp : p < w.heap.size) (h : RowAt w v m.tos.length 1 (textCells m.tos)) (hz : MailSz m) :
    Calls Tryz.prog 185 #[.pointer (some ⟨p, 0, none⟩), .agg (mailCells m v)] w fun e w' => e = .returned (.bool (properB n T m)) ∧ Below w.heap.size w w' := by
  obtain ⟨id, time, frm, tos, body⟩ := m
  obtain ⟨z1, z2, z3, z4, z5, z6⟩ := hz
  simp only at h z1 z2 z3 z4 z5 z6
  obtain ⟨a, cap, rfl, _⟩ := h.one
  have HH := Lib.hid h
  have HZ5 := Lib.hid z5
  clear h z5
  simp only [mailCells]
  have sF := bs_size frm
  have sB := bs_size body
  obtain ⟨W0, hW0⟩ : ∃ W0 : World, w.alloc (.cells #[.int .i64 id, .int .i64 time, .string (bs frm), .slice a tos.length cap, .string (bs body)] 26) = W0 := ⟨_, rfl⟩
  have hs0 : W0.heap.size = w.heap.size + 1 := by rw [← hW0]; simp
  have hb0 : Below w.heap.size w W0 := by rw [← hW0]; exact (Below.refl _ _).alloc (Nat.le_refl _) _
  have hx : ∀ j : Nat, W0.cell? ⟨w.heap.size, j, none⟩ = (#[.int .i64 id, .int .i64 time, .string (bs frm), .slice a tos.length cap, .string (bs body)] : Array Value)[j]? := fun j => by rw [← hW0]; exact World.cell?_alloc_mark w _ 26 (0, 0) j
  have L0 : W0.cell? ⟨p, 0, none⟩ = some (.slice aL n capL) := (hb0.cell hp).trans hL
  have T0 : W0.cell? ⟨p, 1, none⟩ = some (.int .i64 T) := (hb0.cell hp).trans hT
  have k0 : W0.cell? ⟨w.heap.size, 0, none⟩ = some (.int .i64 id) := hx 0
  have k1 : W0.cell? ⟨w.heap.size, 1, none⟩ = some (.int .i64 time) := hx 1
  have k2 : W0.cell? ⟨w.heap.size, 2, none⟩ = some (.string (bs frm)) := hx 2
  have k3 : W0.cell? ⟨w.heap.size, 3, none⟩ = some (.slice a tos.length cap) := hx 3
  have k4 : W0.cell? ⟨w.heap.size, 4, none⟩ = some (.string (bs body)) := hx 4
  have HX : Hid (∀ w' : World, Below (w.heap.size + 1) W0 w' → ∀ j : Nat, w'.cell? ⟨w.heap.size, j, none⟩ = (#[.int .i64 id, .int .i64 time, .string (bs frm), .slice a tos.length cap, .string (bs body)] : Array Value)[j]?) := Lib.hid (fun w' hb j => (hb.cell (show w.heap.size < w.heap.size + 1 by omega)).trans (hx j))
  have HB0 := Lib.hid hb0
  have HL := Lib.hid hL
  have HT := Lib.hid hT
  clear hx hb0 hL hT
  go_enter Tryz.func185, Tryz.ntmps185
  go_wp2_with fail
  clear hW0
  obtain ⟨N1, hN1, hwr⟩ : ∃ N1 : Int, N1 = (n : Int) + 1 ∧ IntKind.i64.wrap ((n : Int) + 1) = N1 := ⟨_, rfl, by rw [IntKind.wrap_i64]; omega⟩
  have HN1 := Lib.hid hN1
  clear hN1
  cases c1 : ((id : Int) != N1) with
  | true =>
    have HF : Hid (properB n T ⟨id, time, frm, tos, body⟩ = false) := Lib.hid (by
      have hbad : ¬ id = n + 1 := by have hh := HN1.out; simp at c1; omega
      unfold properB
      simp only [decide_eq_false (show ¬ (id = n + 1) by omega), Bool.false_and])
    go_quiet (fail)
    go_wp2_with fail
    go_ret
    exact ⟨by rw [HF.out]; rfl, (HB0.out.trans (below_drewN _ _ _))⟩
  | false =>
    cases c2 : decide (time < T) with
    | true =>
      have HF : Hid (properB n T ⟨id, time, frm, tos, body⟩ = false) := Lib.hid (by
        have hbad : time < T := by have hh := HN1.out; simp at c2; omega
        unfold properB
        simp only [decide_eq_false (show ¬ (T ≤ time) by omega), Bool.false_and, Bool.and_false])
      go_quiet (fail)
      go_wp2_with fail
      go_ret
      exact ⟨by rw [HF.out]; rfl, (HB0.out.trans (below_drewN _ _ _))⟩
    | false =>
      cases c3 : decide (1000000000 < (time : Int)) with
      | true =>
        have HF : Hid (properB n T ⟨id, time, frm, tos, body⟩ = false) := Lib.hid (by
          have hbad : 1000000000 < time := by have hh := HN1.out; simp at c3; omega
          unfold properB
          simp only [decide_eq_false (show ¬ (time ≤ 1000000000) by omega), Bool.false_and, Bool.and_false])
        go_quiet (fail)
        go_wp2_with fail
        go_ret
        exact ⟨by rw [HF.out]; rfl, (HB0.out.trans (below_drewN _ _ _))⟩
      | false =>
        cases c4 : decide ((tos.length : Int) < 1) with
        | true =>
          have HF : Hid (properB n T ⟨id, time, frm, tos, body⟩ = false) := Lib.hid (by
            have hbad : tos.length < 1 := by have hh := HN1.out; simp at c4; omega
            unfold properB
            simp only [decide_eq_false (show ¬ (1 ≤ tos.length) by omega), Bool.false_and, Bool.and_false])
          go_quiet (fail)
          go_wp2_with fail
          go_ret
          exact ⟨by rw [HF.out]; rfl, (HB0.out.trans (below_drewN _ _ _))⟩
        | false =>
          cases c5 : decide (10 < (tos.length : Int)) with
          | true =>
            have HF : Hid (properB n T ⟨id, time, frm, tos, body⟩ = false) := Lib.hid (by
              have hbad : 10 < tos.length := by have hh := HN1.out; simp at c5; omega
              unfold properB
              simp only [decide_eq_false (show ¬ (tos.length ≤ 10) by omega), Bool.false_and, Bool.and_false])
            go_quiet (fail)
            go_wp2_with fail
            go_ret
            exact ⟨by rw [HF.out]; rfl, (HB0.out.trans (below_drewN _ _ _))⟩
          | false =>
            cases c6 : decide (1000 < (body.length : Int)) with
            | true =>
              have HF : Hid (properB n T ⟨id, time, frm, tos, body⟩ = false) := Lib.hid (by
                have hbad : 1000 < body.length := by have hh := HN1.out; simp at c6; omega
                unfold properB
                simp only [decide_eq_false (show ¬ (body.length ≤ 1000) by omega), Bool.false_and, Bool.and_false])
              go_quiet (fail)
              go_wp2_with fail
              go_ret
              exact ⟨by rw [HF.out]; rfl, (HB0.out.trans (below_drewN _ _ _))⟩
            | false =>
              have HG : Hid (properB n T ⟨id, time, frm, tos, body⟩ = ((frm.isEmpty || isKeptB frm) && (List.range tos.length).all (toOkB tos))) := Lib.hid (by
                unfold properB
                have gc1 : id = n + 1 := by have hh := HN1.out; simp at c1; omega
                have gc2 : T ≤ time := by have hh := HN1.out; simp at c2; omega
                have gc3 : time ≤ 1000000000 := by have hh := HN1.out; simp at c3; omega
                have gc4 : 1 ≤ tos.length := by have hh := HN1.out; simp at c4; omega
                have gc5 : tos.length ≤ 10 := by have hh := HN1.out; simp at c5; omega
                have gc6 : body.length ≤ 1000 := by have hh := HN1.out; simp at c6; omega
                simp only [decide_eq_true gc1, decide_eq_true gc2, decide_eq_true gc3, decide_eq_true gc4, decide_eq_true gc5, decide_eq_true gc6, Bool.true_and])
              go_quiet (fail)
              go_wp2_with fail
              refine (refKept_any frm _ (by unfold maxLen; omega)).mono ?_
              rintro e w1 ⟨rfl, hb1⟩
              have HB1 : Hid (Below (w.heap.size + 1) W0 w1) := Lib.hid ((below_drewN nq W0 (w.heap.size + 1)).trans (hb1.mono (by simp; omega)))
              have x2 : w1.cell? ⟨w.heap.size, 2, none⟩ = some (.string (bs frm)) := HX.out w1 HB1.out 2
              have HKF := Lib.hid (show isKeptB frm = ((keptR frm).2 && ((keptR frm).1 == frm)) from rfl)
              generalize (keptR frm).1 = K at *
              generalize (keptR frm).2 = F at *
              clear hb1 k0 k1 k2 k3 k4 L0 T0 c1 c2 c3 c4 c5 c6
              have sK := bs_size K
              by_cases hE : frm = []
              · have hE1 : (bs frm).toList = [] := by rw [hE, Lib.toList_data]; rfl
                have HFR : Hid ((frm.isEmpty || isKeptB frm) = true) := Lib.hid (by rw [hE]; rfl)
                clear hE
                go_wp2_with fail
                go_loopw [7] (fun i w' => ∃ k : Nat, k ≤ tos.length ∧ i = .int .i64 k ∧ Hid ((List.range k).all (toOkB tos) = true) ∧ Hid (Below (w.heap.size + 1) W0 w')) (fun i _ => tos.length - (intOf i).toNat)
                case atStart => exact ⟨0, Nat.zero_le _, rfl, Lib.hid rfl, HB1⟩
                case round =>
                  clear HB1 x2
                  obtain ⟨k, hk, rfl, HA, HB⟩ := hrel
                  have k3 : wr.cell? ⟨w.heap.size, 3, none⟩ = some (.slice a tos.length cap) := HX.out wr HB.out 3
                  by_cases hlt : k < tos.length
                  · have hlti : (k : Int) < (tos.length : Int) := by omega
                    obtain ⟨b, off, rfl, hbl, hc⟩ := (HH.out.below (HB0.out.trans (HB.out.mono (by omega)))).elem k hlt
                    have ec : wr.cell? ⟨b, off + k, none⟩ = some (.string (bs tos[k])) := by rw [hc]; simp [textCells, hlt]
                    have hle := HZ5.out tos[k] (List.getElem_mem hlt)
                    have HC := Lib.hid (refKept_any tos[k] wr (by unfold maxLen; omega))
                    clear hc hle
                    go_wp2_with fail
                    refine HC.out.mono ?_
                    rintro e w2 ⟨rfl, hb2⟩
                    have HB2 : Hid (Below (w.heap.size + 1) W0 w2) := Lib.hid (below_step hs0 HB.out hb2)
                    have y3 : w2.cell? ⟨w.heap.size, 3, none⟩ = some (.slice (some ⟨b, off, none⟩) tos.length cap) := HX.out w2 HB2.out 3
                    have ec2 : w2.cell? ⟨b, off + k, none⟩ = some (.string (bs tos[k])) := (hb2.cell hbl).trans ec
                    have HKF2 := Lib.hid (show isKeptB tos[k] = ((keptR tos[k]).2 && ((keptR tos[k]).1 == tos[k])) from rfl)
                    generalize (keptR tos[k]).1 = K2 at *
                    generalize (keptR tos[k]).2 = F2 at *
                    have sK2 := bs_size K2
                    clear hb2 k3 ec HC HB
                    cases F2 with
                    | false =>
                      have HFF : Hid (properB n T ⟨id, time, frm, tos, body⟩ = false) := Lib.hid (by rw [HG.out, all_false hlt (by unfold toOkB; rw [getD_at hlt, HKF2.out]; rfl), Bool.and_false])
                      go_wp2_with fail
                      go_ret
                      exact ⟨by rw [HFF.out]; rfl, HB0.out.trans (HB2.out.mono (by omega))⟩
                    | true =>
                      cases hq : ((bs K2).toList == (bs tos[k]).toList) with
                      | false =>
                        have HFF : Hid (properB n T ⟨id, time, frm, tos, body⟩ = false) := Lib.hid (by rw [HG.out, all_false hlt (by unfold toOkB; rw [getD_at hlt, HKF2.out, ← bs_beq, hq]; rfl), Bool.and_false])
                        go_wp2_with fail
                        go_ret
                        exact ⟨by rw [HFF.out]; rfl, HB0.out.trans (HB2.out.mono (by omega))⟩
                      | true =>
                        have HT1 : Hid (isKeptB tos[k] = true) := Lib.hid (by rw [HKF2.out, ← bs_beq, hq]; rfl)
                        go_wp2_with fail
                        go_loopw [10] (fun jv w' => ∃ j : Nat, j ≤ k ∧ jv = .int .i64 j ∧ Hid ((List.range j).all (fun i => !(tos.getD i [] == tos.getD k [])) = true) ∧ Hid (Below (w.heap.size + 1) W0 w')) (fun jv _ => k - (intOf jv).toNat)
                        case atStart => exact ⟨0, Nat.zero_le _, rfl, Lib.hid rfl, HB2⟩
                        case round =>
                          clear HB2 y3 ec2 hq hbl
                          obtain ⟨j, hj, rfl, HA2, HB3⟩ := hrel
                          by_cases hjk : j < k
                          · have hjt : j < tos.length := by omega
                            have hjti : (j : Int) < (tos.length : Int) := by omega
                            have y3 : wr.cell? ⟨w.heap.size, 3, none⟩ = some (.slice (some ⟨b, off, none⟩) tos.length cap) := HX.out wr HB3.out 3
                            have hrow := HH.out.below (HB0.out.trans (HB3.out.mono (by omega)))
                            have ek : wr.cell? ⟨b, off + k, none⟩ = some (.string (bs tos[k])) := by
                              obtain ⟨b', off', e, _, hc⟩ := hrow.elem k hlt
                              injection e with e; injection e with e1 e2; subst e1 e2
                              rw [hc]; simp [textCells, hlt]
                            have ej : wr.cell? ⟨b, off + j, none⟩ = some (.string (bs tos[j])) := by
                              obtain ⟨b', off', e, _, hc⟩ := hrow.elem j hjt
                              injection e with e; injection e with e1 e2; subst e1 e2
                              rw [hc]; simp [textCells, hjt]
                            clear hrow
                            cases hq2 : ((bs tos[j]).toList == (bs tos[k]).toList) with
                            | true =>
                              have HFF : Hid (properB n T ⟨id, time, frm, tos, body⟩ = false) := Lib.hid (by
                                rw [HG.out, all_false hlt (by unfold toOkB; rw [show freshB tos k = false from all_false hjk (by rw [getD_at hjt, getD_at hlt, ← bs_beq, hq2]; rfl), Bool.and_false]), Bool.and_false])
                              go_wp2_with fail
                              go_quiet (fail)
                              go_wp2_with fail
                              go_ret
                              exact ⟨by rw [HFF.out]; rfl, HB0.out.trans ((HB3.out.trans (below_drewN _ _ _)).mono (by omega))⟩
                            | false =>
                              have HNN : Hid ((List.range (j + 1)).all (fun i => !(tos.getD i [] == tos.getD k [])) = true) := Lib.hid (by
                                rw [all_succ, HA2.out, getD_at hjt, getD_at hlt, ← bs_beq, hq2]; rfl)
                              go_wp2_with fail
                              go_quiet (fail)
                              go_wp2_with fail
                              exact ⟨⟨j + 1, by omega, by go_num, HNN, Lib.hid (HB3.out.trans (below_drewN _ _ _))⟩, by simp [intOf]; omega⟩
                          · have hj9 : j = k := by omega
                            subst hj9
                            have HNN : Hid ((List.range (j + 1)).all (toOkB tos) = true) := Lib.hid (by
                              rw [all_succ, HA.out, Bool.true_and]
                              unfold toOkB
                              rw [getD_at hlt, HT1.out, Bool.true_and]
                              exact HA2.out)
                            go_wp2_with fail
                            exact ⟨⟨j + 1, by omega, by go_num, HNN, HB3⟩, by simp [intOf]; omega⟩
                  · have hk9 : k = tos.length := by omega
                    subst hk9
                    have HFF : Hid (properB n T ⟨id, time, frm, tos, body⟩ = true) := Lib.hid (by rw [HG.out, HA.out, Bool.and_true]; exact HFR.out)
                    go_wp2_with fail
                    go_ret
                    exact ⟨by rw [HFF.out]; rfl, HB0.out.trans (HB.out.mono (by omega))⟩
              · have hE1 : ¬ (bs frm).toList = [] := by rw [Lib.toList_data, bs_toList]; exact hE
                have hE2 : (bs frm).toList.isEmpty = false := by rw [Lib.toList_data, bs_toList]; simpa using hE
                have hE3 : frm.isEmpty = false := by simpa using hE
                cases F with
                | false =>
                  have HFF : Hid (properB n T ⟨id, time, frm, tos, body⟩ = false) := Lib.hid (by rw [HG.out, HKF.out, hE3]; rfl)
                  go_wp2_with fail
                  go_ret
                  exact ⟨by rw [HFF.out]; rfl, HB0.out.trans (HB1.out.mono (by omega))⟩
                | true =>
                  cases hq0 : ((bs K).toList == (bs frm).toList) with
                  | false =>
                    have HFF : Hid (properB n T ⟨id, time, frm, tos, body⟩ = false) := Lib.hid (by rw [HG.out, HKF.out, hE3, ← bs_beq, hq0]; rfl)
                    go_wp2_with fail
                    go_ret
                    exact ⟨by rw [HFF.out]; rfl, HB0.out.trans (HB1.out.mono (by omega))⟩
                  | true =>
                    have HFR : Hid ((frm.isEmpty || isKeptB frm) = true) := Lib.hid (by rw [HKF.out, hE3, ← bs_beq, hq0]; rfl)
                    go_wp2_with fail
                    go_loopw [7] (fun i w' => ∃ k : Nat, k ≤ tos.length ∧ i = .int .i64 k ∧ Hid ((List.range k).all (toOkB tos) = true) ∧ Hid (Below (w.heap.size + 1) W0 w')) (fun i _ => tos.length - (intOf i).toNat)
                    case atStart => exact ⟨0, Nat.zero_le _, rfl, Lib.hid rfl, HB1⟩
                    case round =>
                      clear HB1 x2
                      obtain ⟨k, hk, rfl, HA, HB⟩ := hrel
                      have k3 : wr.cell? ⟨w.heap.size, 3, none⟩ = some (.slice a tos.length cap) := HX.out wr HB.out 3
                      by_cases hlt : k < tos.length
                      · have hlti : (k : Int) < (tos.length : Int) := by omega
                        obtain ⟨b, off, rfl, hbl, hc⟩ := (HH.out.below (HB0.out.trans (HB.out.mono (by omega)))).elem k hlt
                        have ec : wr.cell? ⟨b, off + k, none⟩ = some (.string (bs tos[k])) := by rw [hc]; simp [textCells, hlt]
                        have hle := HZ5.out tos[k] (List.getElem_mem hlt)
                        have HC := Lib.hid (refKept_any tos[k] wr (by unfold maxLen; omega))
                        clear hc hle
                        go_wp2_with fail
                        refine HC.out.mono ?_
                        rintro e w2 ⟨rfl, hb2⟩
                        have HB2 : Hid (Below (w.heap.size + 1) W0 w2) := Lib.hid (below_step hs0 HB.out hb2)
                        have y3 : w2.cell? ⟨w.heap.size, 3, none⟩ = some (.slice (some ⟨b, off, none⟩) tos.length cap) := HX.out w2 HB2.out 3
                        have ec2 : w2.cell? ⟨b, off + k, none⟩ = some (.string (bs tos[k])) := (hb2.cell hbl).trans ec
                        have HKF2 := Lib.hid (show isKeptB tos[k] = ((keptR tos[k]).2 && ((keptR tos[k]).1 == tos[k])) from rfl)
                        generalize (keptR tos[k]).1 = K2 at *
                        generalize (keptR tos[k]).2 = F2 at *
                        have sK2 := bs_size K2
                        clear hb2 k3 ec HC HB
                        cases F2 with
                        | false =>
                          have HFF : Hid (properB n T ⟨id, time, frm, tos, body⟩ = false) := Lib.hid (by rw [HG.out, all_false hlt (by unfold toOkB; rw [getD_at hlt, HKF2.out]; rfl), Bool.and_false])
                          go_wp2_with fail
                          go_ret
                          exact ⟨by rw [HFF.out]; rfl, HB0.out.trans (HB2.out.mono (by omega))⟩
                        | true =>
                          cases hq : ((bs K2).toList == (bs tos[k]).toList) with
                          | false =>
                            have HFF : Hid (properB n T ⟨id, time, frm, tos, body⟩ = false) := Lib.hid (by rw [HG.out, all_false hlt (by unfold toOkB; rw [getD_at hlt, HKF2.out, ← bs_beq, hq]; rfl), Bool.and_false])
                            go_wp2_with fail
                            go_ret
                            exact ⟨by rw [HFF.out]; rfl, HB0.out.trans (HB2.out.mono (by omega))⟩
                          | true =>
                            have HT1 : Hid (isKeptB tos[k] = true) := Lib.hid (by rw [HKF2.out, ← bs_beq, hq]; rfl)
                            go_wp2_with fail
                            go_loopw [10] (fun jv w' => ∃ j : Nat, j ≤ k ∧ jv = .int .i64 j ∧ Hid ((List.range j).all (fun i => !(tos.getD i [] == tos.getD k [])) = true) ∧ Hid (Below (w.heap.size + 1) W0 w')) (fun jv _ => k - (intOf jv).toNat)
                            case atStart => exact ⟨0, Nat.zero_le _, rfl, Lib.hid rfl, HB2⟩
                            case round =>
                              clear HB2 y3 ec2 hq hbl
                              obtain ⟨j, hj, rfl, HA2, HB3⟩ := hrel
                              by_cases hjk : j < k
                              · have hjt : j < tos.length := by omega
                                have hjti : (j : Int) < (tos.length : Int) := by omega
                                have y3 : wr.cell? ⟨w.heap.size, 3, none⟩ = some (.slice (some ⟨b, off, none⟩) tos.length cap) := HX.out wr HB3.out 3
                                have hrow := HH.out.below (HB0.out.trans (HB3.out.mono (by omega)))
                                have ek : wr.cell? ⟨b, off + k, none⟩ = some (.string (bs tos[k])) := by
                                  obtain ⟨b', off', e, _, hc⟩ := hrow.elem k hlt
                                  injection e with e; injection e with e1 e2; subst e1 e2
                                  rw [hc]; simp [textCells, hlt]
                                have ej : wr.cell? ⟨b, off + j, none⟩ = some (.string (bs tos[j])) := by
                                  obtain ⟨b', off', e, _, hc⟩ := hrow.elem j hjt
                                  injection e with e; injection e with e1 e2; subst e1 e2
                                  rw [hc]; simp [textCells, hjt]
                                clear hrow
                                cases hq2 : ((bs tos[j]).toList == (bs tos[k]).toList) with
                                | true =>
                                  have HFF : Hid (properB n T ⟨id, time, frm, tos, body⟩ = false) := Lib.hid (by
                                    rw [HG.out, all_false hlt (by unfold toOkB; rw [show freshB tos k = false from all_false hjk (by rw [getD_at hjt, getD_at hlt, ← bs_beq, hq2]; rfl), Bool.and_false]), Bool.and_false])
                                  go_wp2_with fail
                                  go_quiet (fail)
                                  go_wp2_with fail
                                  go_ret
                                  exact ⟨by rw [HFF.out]; rfl, HB0.out.trans ((HB3.out.trans (below_drewN _ _ _)).mono (by omega))⟩
                                | false =>
                                  have HNN : Hid ((List.range (j + 1)).all (fun i => !(tos.getD i [] == tos.getD k [])) = true) := Lib.hid (by
                                    rw [all_succ, HA2.out, getD_at hjt, getD_at hlt, ← bs_beq, hq2]; rfl)
                                  go_wp2_with fail
                                  go_quiet (fail)
                                  go_wp2_with fail
                                  exact ⟨⟨j + 1, by omega, by go_num, HNN, Lib.hid (HB3.out.trans (below_drewN _ _ _))⟩, by simp [intOf]; omega⟩
                              · have hj9 : j = k := by omega
                                subst hj9
                                have HNN : Hid ((List.range (j + 1)).all (toOkB tos) = true) := Lib.hid (by
                                  rw [all_succ, HA.out, Bool.true_and]
                                  unfold toOkB
                                  rw [getD_at hlt, HT1.out, Bool.true_and]
                                  exact HA2.out)
                                go_wp2_with fail
                                exact ⟨⟨j + 1, by omega, by go_num, HNN, HB3⟩, by simp [intOf]; omega⟩
                      · have hk9 : k = tos.length := by omega
                        subst hk9
                        have HFF : Hid (properB n T ⟨id, time, frm, tos, body⟩ = true) := Lib.hid (by rw [HG.out, HA.out, Bool.and_true]; exact HFR.out)
                        go_wp2_with fail
                        go_ret
                        exact ⟨by rw [HFF.out]; rfl, HB0.out.trans (HB.out.mono (by omega))⟩
end Go.Proofs.YtgjjjdccbpjnfaaGreatDoor

/- The document's store in memory. -/
namespace Go.Proofs.YtgjjjdccbpjnfaaGreatDoor
open Go.RowKit

structure PItem where
  m : PMail
  out : List Bool
structure PStore where
  items : List PItem
  time : Nat

def boolCells (l : List Bool) : List Value := l.map Value.bool
def itemCells (x : PItem × Value × Nat) : List Value := [.int .i64 x.1.m.id, .int .i64 x.1.m.time, .string (bs x.1.m.frm), x.2.1, .string (bs x.1.m.body), .slice (some ⟨x.2.2, 0, none⟩) x.1.out.length x.1.out.length]
def rowCells (l : List (PItem × Value × Nat)) : List Value := l.flatMap itemCells
theorem rowCells_snoc (l : List (PItem × Value × Nat)) (x : PItem × Value × Nat) : rowCells (l ++ [x]) = rowCells l ++ itemCells x := by
  simp [rowCells]
theorem rowCells_len (l : List (PItem × Value × Nat)) : (rowCells l).length = l.length * 6 := by
  induction l with
  | nil => rfl
  | cons x l ih => show (itemCells x ++ rowCells l).length = _; rw [List.length_append, ih]; simp [itemCells]; omega
theorem rowCells_at (l : List (PItem × Value × Nat)) (k i : Nat) (h : k < l.length) (hi : i < 6) : (rowCells l)[k * 6 + i]? = (itemCells l[k])[i]? := by
  induction l generalizing k with
  | nil => simp at h
  | cons x l ih =>
    show (itemCells x ++ rowCells l)[k * 6 + i]? = _
    have hx : (itemCells x).length = 6 := rfl
    cases k with
    | zero => rw [List.getElem?_append_left (by omega)]; simp
    | succ k =>
      rw [List.getElem?_append_right (by omega), hx, show (k + 1) * 6 + i - 6 = k * 6 + i by omega, ih k (by simpa using h)]
      rfl

/-- one mail of the store -/
def ItemIn (base : Nat) (w : World) (x : PItem × Value × Nat) : Prop :=
  w.ownsRow base 9 1 x.2.1 x.1.m.tos.length (textCells x.1.m.tos) ∧ base ≤ x.2.2 ∧ w.heap[x.2.2]? = some (.cells (boolCells x.1.out).toArray 4 (0, 0)) ∧ x.1.out.length = x.1.m.tos.length ∧ 1 ≤ x.1.m.tos.length ∧ MailSz x.1.m
/-- the store at block p -/
def StoreIn (base : Nat) (w : World) (p : Nat) (S : PStore) : Prop :=
  ∃ (vL : Value) (l : List (PItem × Value × Nat)), l.map (·.1) = S.items ∧ base ≤ p ∧ w.heap[p]? = some (.cells #[vL, .int .i64 S.time] 146 (0, 0)) ∧ w.ownsRow base 168 6 vL l.length (rowCells l) ∧ (l.map (·.2.2)).Nodup ∧ ∀ x ∈ l, ItemIn base w x

theorem info_item : (Tryz.prog.info? 168).map (fun i => (i.zero, i.size, i.bytes)) = some (some (.agg #[.int .i64 0, .int .i64 0, .string ⟨#[]⟩, .slice none 0 0, .string ⟨#[]⟩, .slice none 0 0]), 6, 96) := by kernel_rfl
theorem info_bool : (Tryz.prog.info? 4).map (fun i => (i.zero, i.size, i.bytes)) = some (some (.bool false), 1, 1) := by kernel_rfl

theorem newest {W0 : World} {s : Nat} (h : W0.heap.size = s + 1) (o o' : Obj) : ((W0.alloc o).alloc o').drew.heap[s + 1 + 1]? = some o' := by
  have := heap_alloc_new (W0.alloc o) o'
  rw [show (W0.alloc o).heap.size = s + 1 + 1 by simp [h]] at this
  exact this

theorem ownsRow_touch {ts : List TypeId} {w w' : World} {base sz n : Nat} {e : TypeId} {v : Value} {xs : List Value} (ht : Touch ts w w') (he : e ∉ ts) (h : w.ownsRow base e sz v n xs) : w'.ownsRow base e sz v n xs := by
  refine ⟨h.1, ?_⟩
  rcases h.2 with h | ⟨g, cap, cur, e1, e2, e3, e4⟩
  · exact .inl h
  · exact .inr ⟨g, cap, cur, e1, e2, ht.cells e3 he, e4⟩
theorem ItemIn.touch {ts : List TypeId} {w w' : World} {base : Nat} {x : PItem × Value × Nat} (ht : Touch ts w w') (h1 : 9 ∉ ts) (h2 : 4 ∉ ts) (h : ItemIn base w x) : ItemIn base w' x :=
  ⟨ownsRow_touch ht h1 h.1, h.2.1, ht.cells h.2.2.1 h2, h.2.2.2⟩
theorem heap_lt {w : World} {b : Nat} {o : Obj} (h : w.heap[b]? = some o) : b < w.heap.size := by
  rcases Nat.lt_or_ge b w.heap.size with h' | h'
  · exact h'
  · rw [Array.getElem?_eq_none h'] at h; cases h
theorem two_old {W0 : World} (o o' : Obj) {b : Nat} (h : b < W0.heap.size) : ((W0.alloc o).alloc o').drew.heap[b]? = W0.heap[b]? :=
  (((Below.refl W0.heap.size W0).alloc (Nat.le_refl _) o).alloc (by simp) o').block b h
theorem two_first {W0 : World} (o o' : Obj) : ((W0.alloc o).alloc o').drew.heap[W0.heap.size]? = some o := by
  have h1 : (W0.alloc o).heap[W0.heap.size]? = some o := heap_alloc_new W0 o
  have h2 := ((Below.refl (W0.heap.size + 1) (W0.alloc o)).alloc (by simp) o').block W0.heap.size (by omega)
  exact h2.trans h1

theorem add_done {base p gg cap gv capv : Nat} {S : PStore} {id time : Nat} {frm body : List UInt8} {tos : List (List UInt8)} {vL : Value} {l : List (PItem × Value × Nat)} {w W0 w1 : World} {B : Array Value}
    (hs0 : W0.heap.size = w.heap.size + 1) (hb0 : Below w.heap.size w W0) (hl : l.map (·.1) = S.items) (hp : base ≤ p) (hP : w.heap[p]? = some (.cells #[vL, .int .i64 S.time] 146 (0, 0)))
    (hrow : w.ownsRow base 168 6 vL l.length (rowCells l)) (hnd : (l.map (·.2.2)).Nodup) (hit : ∀ x ∈ l, ItemIn base w x) (ap : vL.ownBlock ≠ some p)
    (hv : w.ownsRow base 9 1 (.slice (some ⟨gv, 0, none⟩) tos.length capv) tos.length (textCells tos)) (hm : MailSz ⟨id, time, frm, tos, body⟩) (h1 : 1 ≤ tos.length)
    (hgrow : ((W0.alloc (.cells (madeCells #[.bool false] tos.length) 4)).alloc (.cells B 168)).drew.grownBy w1 vL.ownBlock)
    (hown : w1.ownsRow base 168 6 (.slice (some ⟨gg, 0, none⟩) (l.length + 1) cap) (l.length + 1) (rowCells l ++ [.int .i64 id, .int .i64 time, .string (bs frm), .slice (some ⟨gv, 0, none⟩) tos.length capv, .string (bs body), .slice (some ⟨w.heap.size + 1, 0, none⟩) tos.length tos.length])) :
    StoreIn base ((w1.setCell ⟨p, 0, none⟩ (.slice (some ⟨gg, 0, none⟩) (l.length + 1) cap)).setCell ⟨p, 1, none⟩ (.int .i64 time)) p ⟨S.items ++ [⟨⟨id, time, frm, tos, body⟩, List.replicate tos.length false⟩], time⟩ ∧
      Touch [146, 168] w ((w1.setCell ⟨p, 0, none⟩ (.slice (some ⟨gg, 0, none⟩) (l.length + 1) cap)).setCell ⟨p, 1, none⟩ (.int .i64 time)) ∧ Below base w ((w1.setCell ⟨p, 0, none⟩ (.slice (some ⟨gg, 0, none⟩) (l.length + 1) cap)).setCell ⟨p, 1, none⟩ (.int .i64 time)) := by
  have hpl := heap_lt hP
  have hrl : ∀ k, vL.ownBlock = some k → base ≤ k ∧ k < w.heap.size := hrow.lt
  have old : ∀ b, b < w.heap.size → some b ≠ vL.ownBlock → w1.heap[b]? = w.heap[b]? := fun b hb hne =>
    ((hgrow.block b (by simp; omega) hne).trans (two_old _ _ (by omega))).trans (hb0.block b hb)
  have hP1 : w1.heap[p]? = some (.cells #[vL, .int .i64 S.time] 146 (0, 0)) := (old p hpl (Ne.symm ap)).trans hP
  have hT1 : Touch [146, 168] w w1 := by
    refine ⟨by have := hgrow.size; simp at this; omega, fun b o e n => ?_, (Still.of_below hb0).trans ((show Still W0 _ from ⟨rfl, rfl, rfl⟩).trans ⟨hgrow.os, hgrow.tape, hgrow.output⟩)⟩
    by_cases hr : vL.ownBlock = some b
    · exfalso
      rcases hrow.2 with ⟨e1, _⟩ | ⟨g, cp, cur, e1, _, hg, _⟩
      · subst e1; cases hr
      · subst e1
        injection hr with hr
        subst hr
        rw [hg] at e
        injection e with e
        subst e
        exact n 168 (by simp) rfl
    · exact (old b (heap_lt e) (fun k => hr k.symm)).trans e
  have hbw : base ≤ w.heap.size := by omega
  have hB1 : Below base w w1 := by
    have h0 : Below base w ((W0.alloc (.cells (madeCells #[.bool false] tos.length) 4)).alloc (.cells B 168)).drew :=
      ((((hb0.mono hbw).alloc (by omega) _).alloc (by simp; omega) _).drew)
    exact h0.grown hgrow (by simp; omega) (fun k hk => (hrl k hk).1)
  obtain ⟨cur, hcur⟩ : ∃ cur, w1.heap[gg]? = some (.cells cur 168 (0, 0)) := by
    rcases hown.2 with ⟨e, _⟩ | ⟨g, cp, cur, e, _, hg, _⟩
    · cases e
    · injection e with e _ _
      injection e with e
      injection e with e _
      subst e
      exact ⟨cur, hg⟩
  have hgp : gg ≠ p := by
    intro e
    subst e
    rw [hP1] at hcur
    injection hcur with hcur
    injection hcur with _ hcur _
    exact absurd hcur (by decide)
  have hP2 := heap_setCell_same w1 p 0 _ _ (.slice (some ⟨gg, 0, none⟩) (l.length + 1) cap) hP1
  have hP3 := heap_setCell_same _ p 1 _ _ (.int .i64 time) hP2
  have hS1 : Same p w1 ((w1.setCell ⟨p, 0, none⟩ (.slice (some ⟨gg, 0, none⟩) (l.length + 1) cap)).setCell ⟨p, 1, none⟩ (.int .i64 time)) := ((Same.refl p w1).setCell _).setCell _
  have hT2 := hT1.same hP1 (by simp) hS1
  refine ⟨⟨_, l ++ [(⟨⟨id, time, frm, tos, body⟩, List.replicate tos.length false⟩, .slice (some ⟨gv, 0, none⟩) tos.length capv, w.heap.size + 1)], ?_, hp, hP3, ?_, ?_, ?_⟩, hT2, (hB1.setCell hp _).setCell hp _⟩
  · rw [List.map_append, hl]; rfl
  · rw [List.length_append, rowCells_snoc]
    have ho : w1.ownsRow base 168 6 (.slice (some ⟨gg, 0, none⟩) (l.length + 1) cap) (l.length + 1) (rowCells l ++ itemCells (⟨⟨id, time, frm, tos, body⟩, List.replicate tos.length false⟩, .slice (some ⟨gv, 0, none⟩) tos.length capv, w.heap.size + 1)) := by
      simpa [itemCells] using hown
    exact ownsRow_setCell_other (ownsRow_setCell_other ho (fun e => by injection e with e; exact hgp e) _) (fun e => by injection e with e; exact hgp e) _
  · rw [List.map_append, List.nodup_append]
    refine ⟨hnd, by simp, fun a ha b hb => ?_⟩
    obtain ⟨x, hx, rfl⟩ := List.mem_map.1 ha
    simp only [List.map_cons, List.map_nil, List.mem_singleton] at hb
    subst hb
    have := heap_lt (hit x hx).2.2.1
    omega
  · intro x hx
    rcases List.mem_append.1 hx with hx | hx
    · exact (hit x hx).touch hT2 (by decide) (by decide)
    · simp only [List.mem_singleton] at hx
      subst hx
      refine ⟨ownsRow_touch hT2 (by decide) hv, by show base ≤ w.heap.size + 1; omega, ?_, by simp, h1, hm⟩
      show (_ : World).heap[w.heap.size + 1]? = _
      rw [hS1.2 (w.heap.size + 1) (by omega), hgrow.block (w.heap.size + 1) (by simp; omega) (fun e => by have := (hrl _ e.symm).2; omega), ← hs0, two_first]
      have hmd := made_one (.bool false) rfl tos.length
      rw [Nat.mul_one] at hmd
      have e1 : (madeCells #[Value.bool false] tos.length) = (boolCells (List.replicate tos.length false)).toArray := by
        apply Array.toList_inj.1
        refine (show (madeCells #[Value.bool false] tos.length).toList = _ from hmd).trans ?_
        simp [boolCells]
      rw [e1]
end Go.Proofs.YtgjjjdccbpjnfaaGreatDoor
