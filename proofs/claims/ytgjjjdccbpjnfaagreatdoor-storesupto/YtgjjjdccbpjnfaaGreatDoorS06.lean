import Derived.Test.YtgjjjdccbpjnfaaGreatDoorS05
import Derived.Deep.QuietTactic
import Derived.BigQuiet

/- The document's answer: settings. -/
namespace Go.Proofs.YtgjjjdccbpjnfaaGreatDoor
open Go.RowKit

theorem box_facts {w w1 : World} {C : Array Value} {c : Cfg} {vD vN vU vW : Value} (h : CfgAt w c vD vN vU vW) (hb : Below (w.heap.size + 1) (w.alloc (.cells C 36)) w1) :
    Below w.heap.size w w1 ∧ CfgAt w1 c vD vN vU vW ∧ ∀ j : Nat, w1.cell? ⟨w.heap.size, j, none⟩ = C[j]? := by
  have hb' : Below w.heap.size w w1 := ((Below.refl _ _).alloc (Nat.le_refl _) _).trans (hb.mono (by omega))
  refine ⟨hb', h.below hb', fun j => ?_⟩
  rw [hb.cell (p := ⟨w.heap.size, j, none⟩) (by show w.heap.size < w.heap.size + 1; omega)]
  exact World.cell?_alloc_mark w _ 36 (0, 0) j

theorem RowAt.elem {w : World} {a : Option Addr} {n m cap : Nat} {cs : List Value} (h : RowAt w (.slice a n cap) m 1 cs) (k : Nat) (hk : k < m) : ∃ b off, a = some ⟨b, off, none⟩ ∧ b < w.heap.size ∧ w.cell? ⟨b, off + k, none⟩ = cs[k]? := by
  obtain ⟨a', cap', e, hc⟩ := h.one
  injection e with e1 e2 e3
  subst e1
  exact hc k hk
theorem RowAt.pair {w : World} {a : Option Addr} {n m cap : Nat} {cs : List Value} (h : RowAt w (.slice a n cap) m 2 cs) (k : Nat) (hk : k < m) : ∃ b off, a = some ⟨b, off, none⟩ ∧ b < w.heap.size ∧ w.cell? ⟨b, off + k * 2, none⟩ = cs[k * 2]? ∧ w.cell? ⟨b, off + k * 2 + 1, none⟩ = cs[k * 2 + 1]? := by
  obtain ⟨a', cap', e, hc⟩ := h.shape
  injection e with e1 e2 e3
  subst e1
  obtain ⟨b, off, e1, hb, h0⟩ := hc k 0 hk (by decide)
  obtain ⟨b', off', e2, _, h1⟩ := hc k 1 hk (by decide)
  obtain ⟨rfl, rfl⟩ : b' = b ∧ off' = off := by
    have := (Option.some.inj (e2.symm.trans e1))
    simp at this; exact this
  refine ⟨b', off', e1, hb, ?_, ?_⟩
  · rw [Nat.add_zero] at h0; exact h0
  · rw [← Nat.add_assoc] at h1; exact h1

theorem net_ops (a l : Int) (h0 : 0 ≤ a) (h1 : 0 ≤ l) (h2 : l ≤ 32) : ∃ T R : Int, wrap64 (2 ^ (32 - l).toNat) = T ∧ ¬ T = 0 ∧ a.tmod T = R ∧ decide (a % 2 ^ (32 - l).toNat = 0) = (R == 0) := by
  have hn : (32 - l).toNat ≤ 32 := by omega
  have e : ((2 : Int) ^ (32 - l).toNat) = ((2 ^ (32 - l).toNat : Nat) : Int) := by rw [Int.natCast_pow]; rfl
  have h3 : 2 ^ (32 - l).toNat ≤ 2 ^ 32 := Nat.pow_le_pow_right (by decide) hn
  have h4 : (2 : Nat) ^ 32 = 4294967296 := by decide
  have h5 : 1 ≤ 2 ^ (32 - l).toNat := Nat.one_le_two_pow
  have h6 : (2 : Int) ^ (32 - l).toNat ≠ 0 := by rw [e]; omega
  refine ⟨2 ^ (32 - l).toNat, a.tmod (2 ^ (32 - l).toNat), ?_, h6, rfl, ?_⟩
  · rw [e]
    unfold wrap64
    omega
  · rw [Int.tmod_eq_emod_of_nonneg h0, Bool.eq_iff_iff]; simp

theorem name_succ (l : List (ByteArray × ByteArray)) (x : ByteArray) (k : Nat) (h : k < l.length) : nameIn (l.take (k + 1)) x = (nameIn (l.take k) x || (l[k].1.toList == x.toList)) := by
  rw [nameIn, nameIn, List.take_succ_eq_append_getElem h, List.any_append]; simp

def domQ (s : ByteArray) : Bool := domR s.data.toList
def waitQ (x : Int) : Bool := within x 1 1000000000
theorem take_all_succ {α : Type} (p : α → Bool) (l : List α) (k : Nat) (h : k < l.length) : (l.take (k + 1)).all p = ((l.take k).all p && p l[k]) := by
  rw [List.take_succ_eq_append_getElem h, List.all_append]; simp

set_option maxHeartbeats 4000000 in
set_option maxRecDepth 100000 in
theorem refCheck_any (c : Cfg) (vD vN vU vW : Value) (w : World) (h : CfgAt w c vD vN vU vW) (hz : CfgSz c) :
    Calls Tryz.prog 81 #[.agg #[.string c.host, vD, vN, vU, .int .i64 c.most, .int .i64 c.size, vW, .int .i64 c.life, .int .i64 c.room]] w (EPost (mayB c) w) := by
  obtain ⟨host, doms, nets, users, most, size, waits, life, room⟩ := c
  obtain ⟨z0, z1, z2, z3, z4, z5, z6⟩ := hz
  simp only at z0 z1 z2 z3 z4 z5 z6 h ⊢
  have HM := Lib.hid (show mayB ⟨host, doms, nets, users, most, size, waits, life, room⟩ = (domB host.data.toList && domsB doms && netsB nets && usersB users && within most 1 10 && within size 1 1000 && waitsB waits && within life 1 1000000000 && within room 0 1000000) from rfl)
  generalize mayB ⟨host, doms, nets, users, most, size, waits, life, room⟩ = M at *
  obtain ⟨aD, cD, eD⟩ := slice_of h.1
  obtain ⟨aN, cN, eN⟩ := slice_of h.2.1
  obtain ⟨aU, cU, eU⟩ := slice_of h.2.2.1
  obtain ⟨aW, cW, eW⟩ := slice_of h.2.2.2
  simp only at eD eN eU eW
  subst eD eN eU eW
  have HA := Lib.hid h
  have Z2 := Lib.hid z2
  have Z5 := Lib.hid z5
  clear h z2 z5
  go_enter Tryz.func81, Tryz.ntmps81
  go_wp2_with fail
  refine (refIsDomain_any host _ z0).mono ?_
  rintro e w1 ⟨rfl, n, rfl⟩
  have hB : Hid (Below (w.heap.size + 1) (w.alloc (.cells #[.string host, .slice aD doms.length cD, .slice aN nets.length cN, .slice aU users.length cU, .int .i64 most, .int .i64 size, .slice aW waits.length cW, .int .i64 life, .int .i64 room] 36)) (((w.alloc (.cells #[.string host, .slice aD doms.length cD, .slice aN nets.length cN, .slice aU users.length cU, .int .i64 most, .int .i64 size, .slice aW waits.length cW, .int .i64 life, .int .i64 room] 36))).drewN n)) := below_drewN _ _ _
  have hBw : Hid (Below w.heap.size w (((w.alloc (.cells #[.string host, .slice aD doms.length cD, .slice aN nets.length cN, .slice aU users.length cU, .int .i64 most, .int .i64 size, .slice aW waits.length cW, .int .i64 life, .int .i64 room] 36))).drewN n)) := (box_facts HA.out hB.out).1
  have HH := Lib.hid (domB_eq host.data.toList)
  cases q0 : domR host.data.toList with
  | false =>
    go_wp2_with fail
    go_ret
    exact EPost.mk false rfl (by rw [HM.out, HH.out, q0]; simp) hBw.out
  | true =>
    cases d5 : decide ((doms.length : Int) ≤ 5) with
    | false =>
      have HF : Hid (domsB doms = false) := by
        show _ = _
        rw [domsB, decide_eq_false (by simp at d5; omega), Bool.false_and]
      go_wp2_with fail
      go_ret
      exact EPost.mk false rfl (by rw [HM.out, HF.out]; simp) hBw.out
    | true =>
      cases n5 : decide ((nets.length : Int) ≤ 5) with
      | false =>
        have HF : Hid (netsB nets = false) := by
          show _ = _
          rw [netsB, decide_eq_false (by simp at n5; omega), Bool.false_and]
        go_wp2_with fail
        go_ret
        exact EPost.mk false rfl (by rw [HM.out, HF.out]; simp) hBw.out
      | true =>
        cases u5 : decide ((users.length : Int) ≤ 5) with
        | false =>
          have HF : Hid (usersB users = false) := by
            show _ = _
            rw [usersB, decide_eq_false (by simp at u5; omega), Bool.false_and]
          go_wp2_with fail
          go_ret
          exact EPost.mk false rfl (by rw [HM.out, HF.out]; simp) hBw.out
        | true =>
          cases t1 : decide (most < 1) with
          | true =>
            have HF : Hid (within most 1 10 = false) := by
              show _ = _
              simp at t1
              rw [within, Bool.and_eq_false_iff]; simp; omega
            go_wp2_with fail
            go_ret
            exact EPost.mk false rfl (by rw [HM.out, HF.out]; simp) hBw.out
          | false =>
            cases t2 : decide (10 < most) with
            | true =>
              have HF : Hid (within most 1 10 = false) := by
                show _ = _
                simp at t2
                rw [within, Bool.and_eq_false_iff]; simp; omega
              go_wp2_with fail
              go_ret
              exact EPost.mk false rfl (by rw [HM.out, HF.out]; simp) hBw.out
            | false =>
              cases s1 : decide (size < 1) with
              | true =>
                have HF : Hid (within size 1 1000 = false) := by
                  show _ = _
                  simp at s1
                  rw [within, Bool.and_eq_false_iff]; simp; omega
                go_wp2_with fail
                go_ret
                exact EPost.mk false rfl (by rw [HM.out, HF.out]; simp) hBw.out
              | false =>
                cases s2 : decide (1000 < size) with
                | true =>
                  have HF : Hid (within size 1 1000 = false) := by
                    show _ = _
                    simp at s2
                    rw [within, Bool.and_eq_false_iff]; simp; omega
                  go_wp2_with fail
                  go_ret
                  exact EPost.mk false rfl (by rw [HM.out, HF.out]; simp) hBw.out
                | false =>
                  cases w1 : decide ((waits.length : Int) < 1) with
                  | true =>
                    have HF : Hid (within (waits.length : Int) 1 5 = false) := by
                      show _ = _
                      simp at w1
                      rw [within, Bool.and_eq_false_iff]; simp; omega
                    have HF2 : Hid (waitsB waits = false) := by show _ = _; rw [waitsB, HF.out, Bool.false_and]
                    go_wp2_with fail
                    go_ret
                    exact EPost.mk false rfl (by rw [HM.out, HF2.out]; simp) hBw.out
                  | false =>
                    cases w2 : decide (5 < (waits.length : Int)) with
                    | true =>
                      have HF : Hid (within (waits.length : Int) 1 5 = false) := by
                        show _ = _
                        simp at w2
                        rw [within, Bool.and_eq_false_iff]; simp; omega
                      have HF2 : Hid (waitsB waits = false) := by show _ = _; rw [waitsB, HF.out, Bool.false_and]
                      go_wp2_with fail
                      go_ret
                      exact EPost.mk false rfl (by rw [HM.out, HF2.out]; simp) hBw.out
                    | false =>
                      cases l1 : decide (life < 1) with
                      | true =>
                        have HF : Hid (within life 1 1000000000 = false) := by
                          show _ = _
                          simp at l1
                          rw [within, Bool.and_eq_false_iff]; simp; omega
                        go_wp2_with fail
                        go_ret
                        exact EPost.mk false rfl (by rw [HM.out, HF.out]; simp) hBw.out
                      | false =>
                        cases l2 : decide (1000000000 < life) with
                        | true =>
                          have HF : Hid (within life 1 1000000000 = false) := by
                            show _ = _
                            simp at l2
                            rw [within, Bool.and_eq_false_iff]; simp; omega
                          go_wp2_with fail
                          go_ret
                          exact EPost.mk false rfl (by rw [HM.out, HF.out]; simp) hBw.out
                        | false =>
                          cases r1 : decide (room < 0) with
                          | true =>
                            have HF : Hid (within room 0 1000000 = false) := by
                              show _ = _
                              simp at r1
                              rw [within, Bool.and_eq_false_iff]; simp; omega
                            go_wp2_with fail
                            go_ret
                            exact EPost.mk false rfl (by rw [HM.out, HF.out]; simp) hBw.out
                          | false =>
                            cases r2 : decide (1000000 < room) with
                            | true =>
                              have HF : Hid (within room 0 1000000 = false) := by
                                show _ = _
                                simp at r2
                                rw [within, Bool.and_eq_false_iff]; simp; omega
                              go_wp2_with fail
                              go_ret
                              exact EPost.mk false rfl (by rw [HM.out, HF.out]; simp) hBw.out
                            | false =>
                              have HM2 : Hid (M = (doms.all domQ && nets.all netB && (List.range users.length).all (userOk users) && waits.all waitQ)) := by
                                show _ = _
                                have hb : (fun s : ByteArray => domB s.data.toList) = domQ := funext fun s => domB_eq s.data.toList
                                simp only [decide_eq_false_iff_not, decide_eq_true_eq] at t1 t2 s1 s2 w1 w2 l1 l2 r1 r2 d5 n5 u5
                                have e1 : within most 1 10 = true := by rw [within, decide_eq_true (by omega), decide_eq_true (by omega)]; rfl
                                have e2 : within size 1 1000 = true := by rw [within, decide_eq_true (by omega), decide_eq_true (by omega)]; rfl
                                have e3 : within (waits.length : Int) 1 5 = true := by rw [within, decide_eq_true (by omega), decide_eq_true (by omega)]; rfl
                                have e4 : within life 1 1000000000 = true := by rw [within, decide_eq_true (by omega), decide_eq_true (by omega)]; rfl
                                have e5 : within room 0 1000000 = true := by rw [within, decide_eq_true (by omega), decide_eq_true (by omega)]; rfl
                                rw [HM.out, HH.out, q0, domsB, netsB, usersB, waitsB, e1, e2, e3, e4, e5, decide_eq_true (show doms.length ≤ 5 by omega), decide_eq_true (show nets.length ≤ 5 by omega), decide_eq_true (show users.length ≤ 5 by omega), hb]
                                simp only [Bool.true_and, Bool.and_true]
                                rfl
                              go_wp2_with fail
                              clear t1 t2 s1 s2 w1 w2 l1 l2 r1 r2 d5 n5 u5 q0 hBw
                              go_loopw [3, 4] (fun ok i w' => ∃ k : Nat, k ≤ doms.length ∧ i = .int .i64 k ∧ ok = .bool ((doms.take k).all domQ) ∧ Below (w.heap.size + 1) (w.alloc (.cells #[.string host, .slice aD doms.length cD, .slice aN nets.length cN, .slice aU users.length cU, .int .i64 most, .int .i64 size, .slice aW waits.length cW, .int .i64 life, .int .i64 room] 36)) w') (fun _ i _ => doms.length - (intOf i).toNat)
                              case atStart => exact ⟨0, Nat.zero_le _, rfl, rfl, hB.out⟩
                              case round =>
                                obtain ⟨k, hk, rfl, rfl, hb⟩ := hrel
                                have F := box_facts HA.out hb
                                have f1 : wr.cell? ⟨w.heap.size, 1, none⟩ = some (.slice aD doms.length cD) := F.2.2 1
                                have HB := Lib.hid hb
                                have HF := Lib.hid F
                                obtain ⟨D, hD⟩ : ∃ D, (doms.take k).all domQ = D := ⟨_, rfl⟩
                                rw [hD]
                                have HD := Lib.hid hD
                                clear hb F hD
                                by_cases hlt : k < doms.length
                                · obtain ⟨b, off, rfl, hbl, hck⟩ := HF.out.2.1.1.elem k hlt
                                  have hck' : wr.cell? ⟨b, off + k, none⟩ = some (.string doms[k]) := by
                                    rw [hck, strCellsOf, List.getElem?_map, List.getElem?_eq_getElem hlt]; rfl
                                  have hsz := Z2.out doms[k] (List.getElem_mem hlt)
                                  have HT := Lib.hid (take_all_succ domQ doms k hlt)
                                  clear hck HF
                                  go_wp2_with fail
                                  refine (refIsDomain_any _ _ hsz).mono ?_
                                  rintro e w2 ⟨rfl, n2, rfl⟩
                                  have HB2 := Lib.hid (HB.out.trans (below_drewN n2 wr (w.heap.size + 1)))
                                  obtain ⟨G, hG⟩ : ∃ G, domR doms[k].data.toList = G := ⟨_, rfl⟩
                                  rw [hG]
                                  have HG := Lib.hid hG
                                  clear hG
                                  cases D with
                                  | false =>
                                    go_wp2_with fail
                                    exact ⟨⟨k + 1, by omega, by go_num, (by rw [HT.out, HD.out]; rfl), HB2.out⟩, by simp [intOf]; omega⟩
                                  | true =>
                                    go_wp2_with fail
                                    exact ⟨⟨k + 1, by omega, by go_num, (by rw [HT.out, HD.out, Bool.true_and, domQ, HG.out]), HB2.out⟩, by simp [intOf]; omega⟩
                                · have HD1 : Hid (doms.all domQ = D) := by
                                    show _ = _
                                    rw [← HD.out, List.take_of_length_le (by omega)]
                                  have f6 : wr.cell? ⟨w.heap.size, 6, none⟩ = some (.slice aW waits.length cW) := HF.out.2.2 6
                                  go_wp2_with fail
                                  obtain ⟨W1, hW1⟩ : ∃ W1, wr = W1 := ⟨_, rfl⟩
                                  subst hW1
                                  clear HD hk hlt f1
                                  go_loopw [3, 6] (fun ok i w' => ∃ k : Nat, k ≤ waits.length ∧ i = .int .i64 k ∧ ok = .bool (D && (waits.take k).all waitQ) ∧ w' = wr) (fun _ i _ => waits.length - (intOf i).toNat)
                                  case atStart => exact ⟨0, Nat.zero_le _, rfl, (by simp), rfl⟩
                                  case round =>
                                    obtain ⟨k2, hk2, rfl, rfl, rfl⟩ := hrel
                                    have HT2 := Lib.hid (show ∀ h : k2 < waits.length, (D && (waits.take (k2 + 1)).all waitQ) = ((D && (waits.take k2).all waitQ) && waitQ waits[k2]) from fun h => by rw [take_all_succ waitQ waits k2 h, Bool.and_assoc])
                                    obtain ⟨E, hE⟩ : ∃ E, (D && (waits.take k2).all waitQ) = E := ⟨_, rfl⟩
                                    rw [hE]
                                    have HE := Lib.hid hE
                                    clear hE
                                    by_cases hlt2 : k2 < waits.length
                                    · obtain ⟨b, off, rfl, hbl, hck⟩ := HF.out.2.1.2.2.2.elem k2 hlt2
                                      obtain ⟨x, hx⟩ : ∃ x, waits[k2] = x := ⟨_, rfl⟩
                                      have hck' : wr.cell? ⟨b, off + k2, none⟩ = some (.int .i64 x) := by
                                        rw [hck, intCells, List.getElem?_map, List.getElem?_eq_getElem hlt2, ← hx]; rfl
                                      have HX := Lib.hid hx
                                      clear hck HF hx
                                      cases E with
                                      | false =>
                                        go_wp2_with fail
                                        exact ⟨⟨k2 + 1, by omega, by go_num, (by rw [HT2.out hlt2, HE.out]; rfl), trivial⟩, by simp [intOf]; omega⟩
                                      | true =>
                                        cases g1 : decide (1 ≤ x) with
                                        | false =>
                                          go_wp2_with fail
                                          exact ⟨⟨k2 + 1, by omega, by go_num, (by rw [HT2.out hlt2, HE.out, HX.out, waitQ, within, g1]; rfl), trivial⟩, by simp [intOf]; omega⟩
                                        | true =>
                                          cases g2 : decide (x ≤ 1000000000) with
                                          | false =>
                                            go_wp2_with fail
                                            exact ⟨⟨k2 + 1, by omega, by go_num, (by rw [HT2.out hlt2, HE.out, HX.out, waitQ, within, g1, g2]; rfl), trivial⟩, by simp [intOf]; omega⟩
                                          | true =>
                                            go_wp2_with fail
                                            exact ⟨⟨k2 + 1, by omega, by go_num, (by rw [HT2.out hlt2, HE.out, HX.out, waitQ, within, g1, g2]; rfl), trivial⟩, by simp [intOf]; omega⟩
                                    · have HE1 : Hid ((D && waits.all waitQ) = E) := by
                                        show _ = _
                                        rw [← HE.out, List.take_of_length_le (by omega)]
                                      have f2 : wr.cell? ⟨w.heap.size, 2, none⟩ = some (.slice aN nets.length cN) := HF.out.2.2 2
                                      go_wp2_with fail
                                      clear HE HT2 hk2 hlt2 f6
                                      go_loopw [3, 7] (fun ok i w' => ∃ (k : Nat) (o : Bool), k ≤ nets.length ∧ i = .int .i64 k ∧ ok = .bool o ∧ Hid ((E && (nets.take k).all netB) = o) ∧ Hid (k = 0 ∨ o = true) ∧ Below (w.heap.size + 1) (w.alloc (.cells #[.string host, .slice aD doms.length cD, .slice aN nets.length cN, .slice aU users.length cU, .int .i64 most, .int .i64 size, .slice aW waits.length cW, .int .i64 life, .int .i64 room] 36)) w') (fun _ i _ => nets.length - (intOf i).toNat)
                                      case atStart => exact ⟨0, E, Nat.zero_le _, rfl, rfl, (by show _ = _; simp), Or.inl rfl, HB.out⟩
                                      case round =>
                                        obtain ⟨k3, o, hk3, rfl, rfl, HO, HZ0, hb3⟩ := hrel
                                        have F3 := box_facts HA.out hb3
                                        have g2' : wr.cell? ⟨w.heap.size, 2, none⟩ = some (.slice aN nets.length cN) := F3.2.2 2
                                        have HB3 := Lib.hid hb3
                                        have HF3 := Lib.hid F3
                                        clear hb3 F3
                                        by_cases hlt3 : k3 < nets.length
                                        · obtain ⟨b, off, rfl, hbl, hca, hcb⟩ := HF3.out.2.1.2.1.pair k3 hlt3
                                          obtain ⟨xa, xl, hx⟩ : ∃ xa xl, nets[k3] = (xa, xl) := ⟨_, _, rfl⟩
                                          have hca' : wr.cell? ⟨b, off + k3 * 2, none⟩ = some (.int .i64 xa) := by rw [hca, net_at nets k3 hlt3, hx]
                                          have hcb' : wr.cell? ⟨b, off + k3 * 2 + 1, none⟩ = some (.int .i64 xl) := by rw [hcb, net_at1 nets k3 hlt3, hx]
                                          have HX := Lib.hid hx
                                          clear hca hcb hx HF3
                                          have mnet : netB (xa, xl) = false → M = false := by
                                            intro hf
                                            have : nets.all netB = false := all_no_at (p := netB) hlt3 (by rw [HX.out]; exact hf)
                                            rw [HM2.out, this]; simp
                                          have HBn : ∀ o : Obj, Hid (Below w.heap.size w (wr.alloc o)) := fun o => (box_facts HA.out (HB3.out.alloc (by have := HB3.out.size; simp at this; omega) o)).1
                                          cases o with
                                          | false =>
                                            have HF : Hid (M = false) := by
                                              show _ = _
                                              have h0 : k3 = 0 := HZ0.out.resolve_right (by simp)
                                              have h1 := HO.out
                                              rw [h0] at h1
                                              simp at h1
                                              have h2 := HE1.out
                                              rw [h1] at h2
                                              rw [HM2.out, HD1.out]
                                              cases D <;> simp_all
                                            clear mnet
                                            go_wp2_with fail
                                            go_quiet (fail)
                                            go_wp2_with fail
                                            go_ret
                                            exact EPost.mk false rfl HF.out ((HBn _).out.trans (below_drewN _ _ _))
                                          | true =>
                                            cases p1 : decide (0 ≤ xl) with
                                            | false =>
                                              have HF : Hid (M = false) := mnet (by rw [netB, within, within, p1]; simp)
                                              go_wp2_with fail
                                              go_quiet (fail)
                                              go_wp2_with fail
                                              go_ret
                                              exact EPost.mk false rfl HF.out ((HBn _).out.trans (below_drewN _ _ _))
                                            | true =>
                                              cases p2 : decide (xl ≤ 32) with
                                              | false =>
                                                have HF : Hid (M = false) := mnet (by rw [netB, within, within, p2]; simp)
                                                go_wp2_with fail
                                                go_quiet (fail)
                                                go_wp2_with fail
                                                go_ret
                                                exact EPost.mk false rfl HF.out ((HBn _).out.trans (below_drewN _ _ _))
                                              | true =>
                                                cases p3 : decide (0 ≤ xa) with
                                                | false =>
                                                  have HF : Hid (M = false) := mnet (by rw [netB, within, within, p3]; simp)
                                                  go_wp2_with fail
                                                  go_quiet (fail)
                                                  go_wp2_with fail
                                                  go_ret
                                                  exact EPost.mk false rfl HF.out ((HBn _).out.trans (below_drewN _ _ _))
                                                | true =>
                                                  cases p4 : decide (xa ≤ 4294967295) with
                                                  | false =>
                                                    have HF : Hid (M = false) := mnet (by rw [netB, within, within, p4]; simp)
                                                    go_wp2_with fail
                                                    go_quiet (fail)
                                                    go_wp2_with fail
                                                    go_ret
                                                    exact EPost.mk false rfl HF.out ((HBn _).out.trans (below_drewN _ _ _))
                                                  | true =>
                                                    have i1 : 0 ≤ xl := by simpa using p1
                                                    have i2 : xl ≤ 32 := by simpa using p2
                                                    have i3 : 0 ≤ xa := by simpa using p3
                                                    obtain ⟨T, R, hwT, hT0, htR, hR⟩ := net_ops xa xl i3 i1 i2
                                                    have HR := Lib.hid hR
                                                    clear hR i3
                                                    cases p5 : (R == 0) with
                                                    | false =>
                                                      have HF : Hid (M = false) := mnet (by rw [netB, HR.out, p5, Bool.and_false])
                                                      clear mnet
                                                      go_wp2_with fail
                                                      go_big_quiet (fail)
                                                      go_wp2_with fail
                                                      go_ret
                                                      exact EPost.mk false rfl HF.out ((HBn _).out.trans (below_drewN _ _ _))
                                                    | true =>
                                                      have HN : Hid (netB (xa, xl) = true) := by
                                                        show _ = _
                                                        rw [netB, within, within, p1, p2, p3, p4, HR.out, p5]; rfl
                                                      clear mnet
                                                      go_wp2_with fail
                                                      go_big_quiet (fail)
                                                      go_wp2_with fail
                                                      refine ⟨⟨k3 + 1, true, by omega, by go_num, rfl, ?_, Or.inr rfl, (HB3.out.alloc (by have := HB3.out.size; simp at this; omega) _).trans (below_drewN _ _ _)⟩, by simp [intOf]; omega⟩
                                                      show _ = _
                                                      rw [take_all_succ netB nets k3 hlt3, ← Bool.and_assoc, HO.out, HX.out, HN.out]; rfl
                                        · have HG1 : Hid ((E && nets.all netB) = o) := by
                                            show _ = _
                                            rw [← HO.out, List.take_of_length_le (by omega)]
                                          have HBw := Lib.hid (HF3.out.1)
                                          have f3 : wr.cell? ⟨w.heap.size, 3, none⟩ = some (.slice aU users.length cU) := HF3.out.2.2 3
                                          go_wp2_with fail
                                          clear HO HZ0 hk3 hlt3 g2' f2
                                          go_loopw [3, 9] (fun ok i w' => ∃ k : Nat, k ≤ users.length ∧ i = .int .i64 k ∧ ok = .bool (o && (List.range k).all (userOk users)) ∧ Below (w.heap.size + 1) (w.alloc (.cells #[.string host, .slice aD doms.length cD, .slice aN nets.length cN, .slice aU users.length cU, .int .i64 most, .int .i64 size, .slice aW waits.length cW, .int .i64 life, .int .i64 room] 36)) w') (fun _ i _ => users.length - (intOf i).toNat)
                                          case atStart => exact ⟨0, Nat.zero_le _, rfl, (by simp), HB3.out⟩
                                          case round =>
                                            obtain ⟨k4, hk4, rfl, rfl, hb4⟩ := hrel
                                            have F4 := box_facts HA.out hb4
                                            have f3' : wr.cell? ⟨w.heap.size, 3, none⟩ = some (.slice aU users.length cU) := F4.2.2 3
                                            have HB4 := Lib.hid hb4
                                            have HF4 := Lib.hid F4
                                            have HRS := Lib.hid (show (o && (List.range (k4 + 1)).all (userOk users)) = ((o && (List.range k4).all (userOk users)) && userOk users k4) by rw [List.range_succ, List.all_append, Bool.and_assoc]; simp)
                                            obtain ⟨q, hq⟩ : ∃ q, (o && (List.range k4).all (userOk users)) = q := ⟨_, rfl⟩
                                            rw [hq] at HRS ⊢
                                            have HQ := Lib.hid hq
                                            clear hb4 F4 hq
                                            by_cases hlt4 : k4 < users.length
                                            · obtain ⟨b, off, rfl, hbl, hca, hcb⟩ := HF4.out.2.1.2.2.1.pair k4 hlt4
                                              obtain ⟨x1, x2, hx⟩ : ∃ x1 x2, users[k4] = (x1, x2) := ⟨_, _, rfl⟩
                                              have hca' : wr.cell? ⟨b, off + k4 * 2, none⟩ = some (.string x1) := by rw [hca, user_at users k4 hlt4, hx]
                                              have hcb' : wr.cell? ⟨b, off + k4 * 2 + 1, none⟩ = some (.string x2) := by rw [hcb, user_at1 users k4 hlt4, hx]
                                              have hzz := Z5.out users[k4] (List.getElem_mem hlt4)
                                              rw [hx] at hzz
                                              obtain ⟨zz1, zz2⟩ := hzz
                                              have HUO : Hid (userOk users k4 = (textB x1.data.toList && textB x2.data.toList && !nameIn (users.take k4) x1)) := by
                                                show _ = _
                                                have : users.getD k4 (ByteArray.empty, ByteArray.empty) = (x1, x2) := by rw [List.getD_eq_getElem?_getD, List.getElem?_eq_getElem hlt4, ← hx]; rfl
                                                rw [userOk, this]
                                              clear hca hcb hx
                                              go_wp2_with fail
                                              refine (isWord_any x1 _ zz1).mono ?_
                                              rintro e w5 ⟨rfl, n5, rfl⟩
                                              go_wp2_with fail
                                              refine (isWord_any x2 _ zz2).mono ?_
                                              rintro e w6 ⟨rfl, n6, rfl⟩
                                              obtain ⟨q2, hq2⟩ : ∃ q2, (q && textB x1.data.toList && textB x2.data.toList) = q2 := ⟨_, rfl⟩
                                              have HQ2 := Lib.hid hq2
                                              clear hq2
                                              generalize textB x1.data.toList = tb1 at *
                                              generalize textB x2.data.toList = tb2 at *
                                              clear HQ2
                                              cases q with
                                              | false =>
                                                go_wp2_with fail
                                                go_loopw [3, 12] (fun ok i w' => ∃ (kk m : Nat), kk ≤ k4 ∧ i = .int .i64 kk ∧ ok = .bool (false && !nameIn (users.take kk) x1) ∧ w' = wr.drewN m) (fun _ i _ => k4 - (intOf i).toNat)
                                                case atStart => exact ⟨0, n5 + n6, by omega, rfl, (by simp [nameIn]), rfl⟩
                                                case round =>
                                                  obtain ⟨kk, m, hkk, rfl, rfl, rfl⟩ := hrel
                                                  by_cases hlt5 : kk < k4
                                                  · have HNS := Lib.hid (name_succ users x1 kk (by omega))
                                                    obtain ⟨b2, off2, e2, _, hya, _⟩ := HF4.out.2.1.2.2.1.pair kk (show kk < users.length by omega)
                                                    obtain ⟨rfl, rfl⟩ : b2 = b ∧ off2 = off := by
                                                      have := (Option.some.inj e2).symm
                                                      simp at this; exact this
                                                    obtain ⟨y, hy⟩ : ∃ y, users[kk].1 = y := ⟨_, rfl⟩
                                                    rw [user_at users kk (by omega), hy] at hya
                                                    rw [hy] at HNS
                                                    clear e2 hy
                                                    obtain ⟨Q, hQ⟩ : ∃ Q, (false && !nameIn (users.take kk) x1) = Q := ⟨_, rfl⟩
                                                    rw [hQ]
                                                    have HQQ := Lib.hid hQ
                                                    clear hQ
                                                    cases Q with
                                                    | false =>
                                                      go_wp2_with fail
                                                      go_quiet (fail)
                                                      go_wp2_with fail
                                                      exact ⟨⟨kk + 1, _, by omega, by go_num, (by rw [HNS.out, Bool.not_or, ← Bool.and_assoc, HQQ.out]; rfl), rfl⟩, by simp [intOf]; omega⟩
                                                    | true =>
                                                      cases hne : (y.toList == x1.toList) with
                                                      | true =>
                                                        have hne' : (y.toList != x1.toList) = false := by rw [bne, hne]; rfl
                                                        go_wp2_with fail
                                                        go_quiet (fail)
                                                        go_wp2_with fail
                                                        exact ⟨⟨kk + 1, _, by omega, by go_num, (by rw [HNS.out, Bool.not_or, ← Bool.and_assoc, HQQ.out, hne]; rfl), rfl⟩, by simp [intOf]; omega⟩
                                                      | false =>
                                                        have hne' : (y.toList != x1.toList) = true := by rw [bne, hne]; rfl
                                                        go_wp2_with fail
                                                        go_quiet (fail)
                                                        go_wp2_with fail
                                                        exact ⟨⟨kk + 1, _, by omega, by go_num, (by rw [HNS.out, Bool.not_or, ← Bool.and_assoc, HQQ.out, hne]; rfl), rfl⟩, by simp [intOf]; omega⟩
                                                  · have hkk4 : kk = k4 := by omega
                                                    rw [hkk4]
                                                    clear hkk4 hkk hlt5
                                                    go_wp2_with fail
                                                    exact ⟨⟨k4 + 1, by omega, by go_num, (by rw [HRS.out, HUO.out]; rfl), HB4.out.trans (below_drewN _ _ _)⟩, by simp [intOf]; omega⟩
                                              | true =>
                                                cases tb1 with
                                                | false =>
                                                  go_wp2_with fail
                                                  go_loopw [3, 12] (fun ok i w' => ∃ (kk m : Nat), kk ≤ k4 ∧ i = .int .i64 kk ∧ ok = .bool (false && !nameIn (users.take kk) x1) ∧ w' = wr.drewN m) (fun _ i _ => k4 - (intOf i).toNat)
                                                  case atStart => exact ⟨0, n5 + n6, by omega, rfl, (by simp [nameIn]), rfl⟩
                                                  case round =>
                                                    obtain ⟨kk, m, hkk, rfl, rfl, rfl⟩ := hrel
                                                    by_cases hlt5 : kk < k4
                                                    · have HNS := Lib.hid (name_succ users x1 kk (by omega))
                                                      obtain ⟨b2, off2, e2, _, hya, _⟩ := HF4.out.2.1.2.2.1.pair kk (show kk < users.length by omega)
                                                      obtain ⟨rfl, rfl⟩ : b2 = b ∧ off2 = off := by
                                                        have := (Option.some.inj e2).symm
                                                        simp at this; exact this
                                                      obtain ⟨y, hy⟩ : ∃ y, users[kk].1 = y := ⟨_, rfl⟩
                                                      rw [user_at users kk (by omega), hy] at hya
                                                      rw [hy] at HNS
                                                      clear e2 hy
                                                      obtain ⟨Q, hQ⟩ : ∃ Q, (false && !nameIn (users.take kk) x1) = Q := ⟨_, rfl⟩
                                                      rw [hQ]
                                                      have HQQ := Lib.hid hQ
                                                      clear hQ
                                                      cases Q with
                                                      | false =>
                                                        go_wp2_with fail
                                                        go_quiet (fail)
                                                        go_wp2_with fail
                                                        exact ⟨⟨kk + 1, _, by omega, by go_num, (by rw [HNS.out, Bool.not_or, ← Bool.and_assoc, HQQ.out]; rfl), rfl⟩, by simp [intOf]; omega⟩
                                                      | true =>
                                                        cases hne : (y.toList == x1.toList) with
                                                        | true =>
                                                          have hne' : (y.toList != x1.toList) = false := by rw [bne, hne]; rfl
                                                          go_wp2_with fail
                                                          go_quiet (fail)
                                                          go_wp2_with fail
                                                          exact ⟨⟨kk + 1, _, by omega, by go_num, (by rw [HNS.out, Bool.not_or, ← Bool.and_assoc, HQQ.out, hne]; rfl), rfl⟩, by simp [intOf]; omega⟩
                                                        | false =>
                                                          have hne' : (y.toList != x1.toList) = true := by rw [bne, hne]; rfl
                                                          go_wp2_with fail
                                                          go_quiet (fail)
                                                          go_wp2_with fail
                                                          exact ⟨⟨kk + 1, _, by omega, by go_num, (by rw [HNS.out, Bool.not_or, ← Bool.and_assoc, HQQ.out, hne]; rfl), rfl⟩, by simp [intOf]; omega⟩
                                                    · have hkk4 : kk = k4 := by omega
                                                      rw [hkk4]
                                                      clear hkk4 hkk hlt5
                                                      go_wp2_with fail
                                                      exact ⟨⟨k4 + 1, by omega, by go_num, (by rw [HRS.out, HUO.out]; rfl), HB4.out.trans (below_drewN _ _ _)⟩, by simp [intOf]; omega⟩
                                                | true =>
                                                  go_wp2_with fail
                                                  go_loopw [3, 12] (fun ok i w' => ∃ (kk m : Nat), kk ≤ k4 ∧ i = .int .i64 kk ∧ ok = .bool (tb2 && !nameIn (users.take kk) x1) ∧ w' = wr.drewN m) (fun _ i _ => k4 - (intOf i).toNat)
                                                  case atStart => exact ⟨0, n5 + n6, by omega, rfl, (by simp [nameIn]), rfl⟩
                                                  case round =>
                                                    obtain ⟨kk, m, hkk, rfl, rfl, rfl⟩ := hrel
                                                    by_cases hlt5 : kk < k4
                                                    · have HNS := Lib.hid (name_succ users x1 kk (by omega))
                                                      obtain ⟨b2, off2, e2, _, hya, _⟩ := HF4.out.2.1.2.2.1.pair kk (show kk < users.length by omega)
                                                      obtain ⟨rfl, rfl⟩ : b2 = b ∧ off2 = off := by
                                                        have := (Option.some.inj e2).symm
                                                        simp at this; exact this
                                                      obtain ⟨y, hy⟩ : ∃ y, users[kk].1 = y := ⟨_, rfl⟩
                                                      rw [user_at users kk (by omega), hy] at hya
                                                      rw [hy] at HNS
                                                      clear e2 hy
                                                      obtain ⟨Q, hQ⟩ : ∃ Q, (tb2 && !nameIn (users.take kk) x1) = Q := ⟨_, rfl⟩
                                                      rw [hQ]
                                                      have HQQ := Lib.hid hQ
                                                      clear hQ
                                                      cases Q with
                                                      | false =>
                                                        go_wp2_with fail
                                                        go_quiet (fail)
                                                        go_wp2_with fail
                                                        exact ⟨⟨kk + 1, _, by omega, by go_num, (by rw [HNS.out, Bool.not_or, ← Bool.and_assoc, HQQ.out]; rfl), rfl⟩, by simp [intOf]; omega⟩
                                                      | true =>
                                                        cases hne : (y.toList == x1.toList) with
                                                        | true =>
                                                          have hne' : (y.toList != x1.toList) = false := by rw [bne, hne]; rfl
                                                          go_wp2_with fail
                                                          go_quiet (fail)
                                                          go_wp2_with fail
                                                          exact ⟨⟨kk + 1, _, by omega, by go_num, (by rw [HNS.out, Bool.not_or, ← Bool.and_assoc, HQQ.out, hne]; rfl), rfl⟩, by simp [intOf]; omega⟩
                                                        | false =>
                                                          have hne' : (y.toList != x1.toList) = true := by rw [bne, hne]; rfl
                                                          go_wp2_with fail
                                                          go_quiet (fail)
                                                          go_wp2_with fail
                                                          exact ⟨⟨kk + 1, _, by omega, by go_num, (by rw [HNS.out, Bool.not_or, ← Bool.and_assoc, HQQ.out, hne]; rfl), rfl⟩, by simp [intOf]; omega⟩
                                                    · have hkk4 : kk = k4 := by omega
                                                      rw [hkk4]
                                                      clear hkk4 hkk hlt5
                                                      go_wp2_with fail
                                                      exact ⟨⟨k4 + 1, by omega, by go_num, (by rw [HRS.out, HUO.out]; simp), HB4.out.trans (below_drewN _ _ _)⟩, by simp [intOf]; omega⟩
                                            · have HU : Hid (M = q) := by
                                                show _ = _
                                                have hqq := HQ.out
                                                rw [show k4 = users.length by omega] at hqq
                                                rw [HM2.out, HD1.out, ← hqq, ← HG1.out, ← HE1.out]
                                                cases D <;> cases nets.all netB <;> cases waits.all waitQ <;> cases (List.range users.length).all (userOk users) <;> rfl
                                              have HBw4 := Lib.hid HF4.out.1
                                              cases q with
                                              | false =>
                                                go_wp2_with fail
                                                go_ret
                                                exact EPost.mk false rfl HU.out HBw4.out
                                              | true =>
                                                go_wp2_with fail
                                                go_ret
                                                exact EPost.mk true rfl HU.out HBw4.out
end Go.Proofs.YtgjjjdccbpjnfaaGreatDoor
