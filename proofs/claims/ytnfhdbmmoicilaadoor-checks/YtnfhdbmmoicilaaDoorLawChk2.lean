/- The law of settings, walked out of its callees' contracts. -/
import Derived.Test.YtnfhdbmmoicilaaDoorRefChk
import Derived.Test.YtnfhdbmmoicilaaDoorKept
namespace Go.Proofs.YtnfhdbmmoicilaaDoor
open Go.RowKit

theorem LentRows.below {c : Cfg} {B : Nat} {w w' : World} (h : LentRows c B w) (hb : Below w.heap.size w w') : LentRows c B w' := by
  obtain ⟨D, N, U, V, ⟨r1, r2, r3, r4⟩, f⟩ := h
  have lt : ∀ {b : Nat} {o : Obj}, w.heap[b]? = some o → b < w.heap.size := fun e => by
    rcases Nat.lt_or_ge _ w.heap.size with h' | h'
    · exact h'
    · rw [Array.getElem?_eq_none h'] at e; cases e
  exact ⟨D, N, U, V, ⟨(hb.block _ (lt r1)).trans r1, (hb.block _ (lt r2)).trans r2, (hb.block _ (lt r3)).trans r3, (hb.block _ (lt r4)).trans r4⟩, f⟩
theorem LentRows.size {c : Cfg} {B : Nat} {w : World} (h : LentRows c B w) : B + 7 ≤ w.heap.size := by
  obtain ⟨D, N, U, V, ⟨_, _, _, r4⟩, _⟩ := h
  rcases Nat.lt_or_ge (B + 6) w.heap.size with h' | h'
  · omega
  · rw [Array.getElem?_eq_none h'] at r4; cases r4

theorem lent_at {c : Cfg} {B : Nat} {w wa : World} {vD vN vU vW : Value} (hc : CfgAt wa c vD vN vU vW) (h : LentRows c B w) :
    CfgAt w c (.slice (some ⟨B + 1 + 1 + 1, 0, none⟩) c.doms.length (c.doms.length + 8)) (.slice (some ⟨B + 1 + 1 + 1 + 1, 0, none⟩) c.nets.length (c.nets.length + 8)) (.slice (some ⟨B + 1 + 1 + 1 + 1 + 1, 0, none⟩) c.users.length (c.users.length + 8)) (.slice (some ⟨B + 1 + 1 + 1 + 1 + 1 + 1, 0, none⟩) c.waits.length (c.waits.length + 8)) := by
  obtain ⟨D, N, U, V, ⟨r1, r2, r3, r4⟩, f1, f2, f3, f4⟩ := h
  refine ⟨⟨hc.1.1, .inr ⟨_, _, _, rfl, by omega, fun j hj => ?_⟩⟩, ⟨hc.2.1.1, .inr ⟨_, _, _, rfl, by omega, fun j hj => ?_⟩⟩, ⟨hc.2.2.1.1, .inr ⟨_, _, _, rfl, by omega, fun j hj => ?_⟩⟩, ⟨hc.2.2.2.1, .inr ⟨_, _, _, rfl, by omega, fun j hj => ?_⟩⟩⟩
  · rw [Nat.zero_add]; exact (Lib.cell_of_heap r1 j).trans (f1.2.1 j hj)
  · rw [Nat.zero_add]; exact (Lib.cell_of_heap r2 j).trans (f2.2.1 j hj)
  · rw [Nat.zero_add]; exact (Lib.cell_of_heap r3 j).trans (f3.2.1 j hj)
  · rw [Nat.zero_add]; exact (Lib.cell_of_heap r4 j).trans (f4.2.1 j hj)

set_option maxHeartbeats 1000000 in
set_option maxRecDepth 100000 in
theorem checks_any (c : Cfg) (vD vN vU vW : Value) (m : Int) (w : World) (h : CfgAt w c vD vN vU vW) (hz : CfgSz c) (hr : CfgRm c) (h0 : 0 < w.heap.size) (hm : w.cell? ⟨0, 0, none⟩ = some (.int .i64 m)) :
    Calls Tryd.prog 4 #[.agg #[.string c.host, vD, vN, vU, .int .i64 c.most, .int .i64 c.size, vW, .int .i64 c.life, .int .i64 c.room]] w fun e w' => e = .returned (.bool true) ∧ Below w.heap.size w w' := by
  obtain ⟨aD, cD, eD⟩ := slice_of h.1
  obtain ⟨aN, cN, eN⟩ := slice_of h.2.1
  obtain ⟨aU, cU, eU⟩ := slice_of h.2.2.1
  obtain ⟨aW, cW, eW⟩ := slice_of h.2.2.2
  subst eD eN eU eW
  obtain ⟨C, hC⟩ : ∃ C : Array Value, C = #[.string c.host, .slice aD c.doms.length cD, .slice aN c.nets.length cN, .slice aU c.users.length cU, .int .i64 c.most, .int .i64 c.size, .slice aW c.waits.length cW, .int .i64 c.life, .int .i64 c.room] := ⟨_, rfl⟩
  obtain ⟨W0, hW0⟩ : ∃ W0 : World, W0 = w.alloc (.cells C 32) := ⟨_, rfl⟩
  have hs0 : W0.heap.size = w.heap.size + 1 := by rw [hW0]; simp
  have hb0 : Below w.heap.size w W0 := by rw [hW0]; exact (Below.refl _ _).alloc (Nat.le_refl _) _
  have hx0 : ∀ j : Nat, W0.cell? ⟨w.heap.size, j, none⟩ = C[j]? := fun j => by rw [hW0]; exact World.cell?_alloc_mark w _ 32 (0, 0) j
  have hm0 : W0.cell? ⟨0, 0, none⟩ = some (.int .i64 m) := (hb0.cell h0).trans hm
  have g0 : 0 < W0.heap.size := by omega
  have HA := Lib.hid (h.below hb0)
  have HX := Lib.hid hx0
  have HB := Lib.hid hb0
  have HCC := Lib.hid hC
  clear h hb0 hx0 hm h0
  go_enter Tryd.func4, Tryd.ntmps4
  go_wp2_with fail
  rw [hC] at hW0
  rw [← hW0]
  clear hW0 hC
  refine (plain_any _).mono ?_
  rintro e w1 ⟨pD, pN, pU, pW, rfl, hp, hb1⟩
  have hm1 : w1.cell? ⟨0, 0, none⟩ = some (.int .i64 m) := (hb1.cell g0).trans hm0
  have g1 : 0 < w1.heap.size := Nat.lt_of_lt_of_le g0 hb1.size
  have HP := Lib.hid hp
  have HB1 := Lib.hid hb1
  clear hp hb1 hm0
  simp only [Cfg.val]
  go_wp2_with fail
  refine (check_any plainCfg _ _ _ _ m _ HP.out plain_size hm1).mono ?_
  rintro e w2 ⟨rfl, hb2⟩
  have e0 : errB (mayB plainCfg) = 0 := by rw [plain_may]; rfl
  rw [e0]
  have hm2 : w2.cell? ⟨0, 0, none⟩ = some (.int .i64 m) := (hb2.cell g1).trans hm1
  have g2 : 0 < w2.heap.size := Nat.lt_of_lt_of_le g1 hb2.size
  have HB2 := Lib.hid (HB1.out.trans (hb2.mono HB1.out.size))
  clear hb2 hm1 g1 HB1 HP e0
  go_wp2_with fail
  refine (check_any noCfg _ _ _ _ m _ (no_at _) no_size hm2).mono ?_
  rintro e w3 ⟨rfl, hb3⟩
  have e0 : errB (mayB noCfg) = 2 := by rw [no_may]; rfl
  rw [e0]
  have hm3 : w3.cell? ⟨0, 0, none⟩ = some (.int .i64 m) := (hb3.cell g2).trans hm2
  have g3 : 0 < w3.heap.size := Nat.lt_of_lt_of_le g2 hb3.size
  have HB3 := Lib.hid (HB2.out.trans (hb3.mono HB2.out.size))
  clear hb3 hm2 g2 HB2 e0
  have x0 : w3.cell? ⟨w.heap.size, 0, none⟩ = C[0]? := (HB3.out.cell (by rw [hs0]; show w.heap.size < _; omega)).trans (HX.out 0)
  have x1 : w3.cell? ⟨w.heap.size, 1, none⟩ = C[1]? := (HB3.out.cell (by rw [hs0]; show w.heap.size < _; omega)).trans (HX.out 1)
  have x2 : w3.cell? ⟨w.heap.size, 2, none⟩ = C[2]? := (HB3.out.cell (by rw [hs0]; show w.heap.size < _; omega)).trans (HX.out 2)
  have x3 : w3.cell? ⟨w.heap.size, 3, none⟩ = C[3]? := (HB3.out.cell (by rw [hs0]; show w.heap.size < _; omega)).trans (HX.out 3)
  have x4 : w3.cell? ⟨w.heap.size, 4, none⟩ = C[4]? := (HB3.out.cell (by rw [hs0]; show w.heap.size < _; omega)).trans (HX.out 4)
  have x5 : w3.cell? ⟨w.heap.size, 5, none⟩ = C[5]? := (HB3.out.cell (by rw [hs0]; show w.heap.size < _; omega)).trans (HX.out 5)
  have x6 : w3.cell? ⟨w.heap.size, 6, none⟩ = C[6]? := (HB3.out.cell (by rw [hs0]; show w.heap.size < _; omega)).trans (HX.out 6)
  have x7 : w3.cell? ⟨w.heap.size, 7, none⟩ = C[7]? := (HB3.out.cell (by rw [hs0]; show w.heap.size < _; omega)).trans (HX.out 7)
  have x8 : w3.cell? ⟨w.heap.size, 8, none⟩ = C[8]? := (HB3.out.cell (by rw [hs0]; show w.heap.size < _; omega)).trans (HX.out 8)
  rw [HCC.out] at x0 x1 x2 x3 x4 x5 x6 x7 x8
  simp only [List.getElem?_toArray, List.getElem?_cons_zero, List.getElem?_cons_succ] at x0 x1 x2 x3 x4 x5 x6 x7 x8
  go_wp2_with fail
  refine (lent_any c _ _ _ _ _ (HA.out.below HB3.out) hr).mono ?_
  rintro e w4 ⟨rfl, hl, hb4⟩
  have hm4 : w4.cell? ⟨0, 0, none⟩ = some (.int .i64 m) := (hb4.cell g3).trans hm3
  have g4 : 0 < w4.heap.size := Nat.lt_of_lt_of_le g3 hb4.size
  have HB4 := Lib.hid hb4
  have HL := Lib.hid hl
  clear hb4 hl hm3 x0 x1 x2 x3 x4 x5 x6 x7 x8
  have hlv : lentVal c w3.heap.size = .agg #[.string c.host, .slice (some ⟨w3.heap.size + 1 + 1 + 1, 0, none⟩) c.doms.length (c.doms.length + 8), .slice (some ⟨w3.heap.size + 1 + 1 + 1 + 1, 0, none⟩) c.nets.length (c.nets.length + 8), .slice (some ⟨w3.heap.size + 1 + 1 + 1 + 1 + 1, 0, none⟩) c.users.length (c.users.length + 8), .int .i64 c.most, .int .i64 c.size, .slice (some ⟨w3.heap.size + 1 + 1 + 1 + 1 + 1 + 1, 0, none⟩) c.waits.length (c.waits.length + 8), .int .i64 c.life, .int .i64 c.room] := rfl
  rw [hlv]
  obtain ⟨X, hX⟩ : ∃ X : Array Value, X = #[.string c.host, .slice (some ⟨w3.heap.size + 1 + 1 + 1, 0, none⟩) c.doms.length (c.doms.length + 8), .slice (some ⟨w3.heap.size + 1 + 1 + 1 + 1, 0, none⟩) c.nets.length (c.nets.length + 8), .slice (some ⟨w3.heap.size + 1 + 1 + 1 + 1 + 1, 0, none⟩) c.users.length (c.users.length + 8), .int .i64 c.most, .int .i64 c.size, .slice (some ⟨w3.heap.size + 1 + 1 + 1 + 1 + 1 + 1, 0, none⟩) c.waits.length (c.waits.length + 8), .int .i64 c.life, .int .i64 c.room] := ⟨_, rfl⟩
  obtain ⟨W4, hW4⟩ : ∃ W4 : World, W4 = w4.alloc (.cells X 32) := ⟨_, rfl⟩
  have hs4 : W4.heap.size = w4.heap.size + 1 := by rw [hW4]; simp
  have hb4 : Below w4.heap.size w4 W4 := by rw [hW4]; exact (Below.refl _ _).alloc (Nat.le_refl _) _
  have hx4 : ∀ j : Nat, W4.cell? ⟨w4.heap.size, j, none⟩ = X[j]? := fun j => by rw [hW4]; exact World.cell?_alloc_mark w4 _ 32 (0, 0) j
  have hm5 : W4.cell? ⟨0, 0, none⟩ = some (.int .i64 m) := (hb4.cell g4).trans hm4
  have g5 : 0 < W4.heap.size := by omega
  have HL4 := Lib.hid (HL.out.below hb4)
  have HX4 := Lib.hid hx4
  have HB5 := Lib.hid (HB4.out.trans (hb4.mono HB4.out.size))
  have HXX := Lib.hid hX
  have HS4 := Lib.hid hs4
  clear hlv hx4 hb4 hm4 g4 HL
  go_wp2_with fail
  rw [hX] at hW4
  rw [← hW4]
  clear hW4 hX
  refine (check_any c _ _ _ _ m _ (lent_at (HA.out.below HB3.out) HL4.out) hz hm5).mono ?_
  rintro e w5 ⟨rfl, hb5⟩
  have HL5 := Lib.hid (HL4.out.below hb5)
  have HB6 := Lib.hid (HB5.out.trans (hb5.mono HB5.out.size))
  have HF5 := Lib.hid hb5
  clear hb5 hm5 g5
  have x0 : w5.cell? ⟨w.heap.size, 0, none⟩ = C[0]? := ((HB3.out.trans (HB6.out.mono HB3.out.size)).cell (by rw [hs0]; show w.heap.size < _; omega)).trans (HX.out 0)
  have x1 : w5.cell? ⟨w.heap.size, 1, none⟩ = C[1]? := ((HB3.out.trans (HB6.out.mono HB3.out.size)).cell (by rw [hs0]; show w.heap.size < _; omega)).trans (HX.out 1)
  have x2 : w5.cell? ⟨w.heap.size, 2, none⟩ = C[2]? := ((HB3.out.trans (HB6.out.mono HB3.out.size)).cell (by rw [hs0]; show w.heap.size < _; omega)).trans (HX.out 2)
  have x3 : w5.cell? ⟨w.heap.size, 3, none⟩ = C[3]? := ((HB3.out.trans (HB6.out.mono HB3.out.size)).cell (by rw [hs0]; show w.heap.size < _; omega)).trans (HX.out 3)
  have x4 : w5.cell? ⟨w.heap.size, 4, none⟩ = C[4]? := ((HB3.out.trans (HB6.out.mono HB3.out.size)).cell (by rw [hs0]; show w.heap.size < _; omega)).trans (HX.out 4)
  have x5 : w5.cell? ⟨w.heap.size, 5, none⟩ = C[5]? := ((HB3.out.trans (HB6.out.mono HB3.out.size)).cell (by rw [hs0]; show w.heap.size < _; omega)).trans (HX.out 5)
  have x6 : w5.cell? ⟨w.heap.size, 6, none⟩ = C[6]? := ((HB3.out.trans (HB6.out.mono HB3.out.size)).cell (by rw [hs0]; show w.heap.size < _; omega)).trans (HX.out 6)
  have x7 : w5.cell? ⟨w.heap.size, 7, none⟩ = C[7]? := ((HB3.out.trans (HB6.out.mono HB3.out.size)).cell (by rw [hs0]; show w.heap.size < _; omega)).trans (HX.out 7)
  have x8 : w5.cell? ⟨w.heap.size, 8, none⟩ = C[8]? := ((HB3.out.trans (HB6.out.mono HB3.out.size)).cell (by rw [hs0]; show w.heap.size < _; omega)).trans (HX.out 8)
  rw [HCC.out] at x0 x1 x2 x3 x4 x5 x6 x7 x8
  simp only [List.getElem?_toArray, List.getElem?_cons_zero, List.getElem?_cons_succ] at x0 x1 x2 x3 x4 x5 x6 x7 x8
  go_wp2_with fail
  refine (refCheck_any c _ _ _ _ _ ((HA.out.below HB3.out).below HB6.out) hz).mono ?_
  rintro e w6 ⟨rfl, hb6⟩
  have HL6 := Lib.hid (HL5.out.below hb6)
  have HB7 := Lib.hid (HB6.out.trans (hb6.mono HB6.out.size))
  have HF6 := Lib.hid (HF5.out.trans (hb6.mono HF5.out.size))
  clear hb6 x0 x1 x2 x3 x4 x5 x6 x7 x8
  have x0 : w6.cell? ⟨w.heap.size, 0, none⟩ = C[0]? := ((HB3.out.trans (HB7.out.mono HB3.out.size)).cell (by rw [hs0]; show w.heap.size < _; omega)).trans (HX.out 0)
  have x1 : w6.cell? ⟨w.heap.size, 1, none⟩ = C[1]? := ((HB3.out.trans (HB7.out.mono HB3.out.size)).cell (by rw [hs0]; show w.heap.size < _; omega)).trans (HX.out 1)
  have x2 : w6.cell? ⟨w.heap.size, 2, none⟩ = C[2]? := ((HB3.out.trans (HB7.out.mono HB3.out.size)).cell (by rw [hs0]; show w.heap.size < _; omega)).trans (HX.out 2)
  have x3 : w6.cell? ⟨w.heap.size, 3, none⟩ = C[3]? := ((HB3.out.trans (HB7.out.mono HB3.out.size)).cell (by rw [hs0]; show w.heap.size < _; omega)).trans (HX.out 3)
  have x4 : w6.cell? ⟨w.heap.size, 4, none⟩ = C[4]? := ((HB3.out.trans (HB7.out.mono HB3.out.size)).cell (by rw [hs0]; show w.heap.size < _; omega)).trans (HX.out 4)
  have x5 : w6.cell? ⟨w.heap.size, 5, none⟩ = C[5]? := ((HB3.out.trans (HB7.out.mono HB3.out.size)).cell (by rw [hs0]; show w.heap.size < _; omega)).trans (HX.out 5)
  have x6 : w6.cell? ⟨w.heap.size, 6, none⟩ = C[6]? := ((HB3.out.trans (HB7.out.mono HB3.out.size)).cell (by rw [hs0]; show w.heap.size < _; omega)).trans (HX.out 6)
  have x7 : w6.cell? ⟨w.heap.size, 7, none⟩ = C[7]? := ((HB3.out.trans (HB7.out.mono HB3.out.size)).cell (by rw [hs0]; show w.heap.size < _; omega)).trans (HX.out 7)
  have x8 : w6.cell? ⟨w.heap.size, 8, none⟩ = C[8]? := ((HB3.out.trans (HB7.out.mono HB3.out.size)).cell (by rw [hs0]; show w.heap.size < _; omega)).trans (HX.out 8)
  rw [HCC.out] at x0 x1 x2 x3 x4 x5 x6 x7 x8
  simp only [List.getElem?_toArray, List.getElem?_cons_zero, List.getElem?_cons_succ] at x0 x1 x2 x3 x4 x5 x6 x7 x8
  have y0 : w6.cell? ⟨w4.heap.size, 0, none⟩ = X[0]? := (HF6.out.cell (by rw [HS4.out]; show w4.heap.size < _; omega)).trans (HX4.out 0)
  have y1 : w6.cell? ⟨w4.heap.size, 1, none⟩ = X[1]? := (HF6.out.cell (by rw [HS4.out]; show w4.heap.size < _; omega)).trans (HX4.out 1)
  have y2 : w6.cell? ⟨w4.heap.size, 2, none⟩ = X[2]? := (HF6.out.cell (by rw [HS4.out]; show w4.heap.size < _; omega)).trans (HX4.out 2)
  have y3 : w6.cell? ⟨w4.heap.size, 3, none⟩ = X[3]? := (HF6.out.cell (by rw [HS4.out]; show w4.heap.size < _; omega)).trans (HX4.out 3)
  have y4 : w6.cell? ⟨w4.heap.size, 4, none⟩ = X[4]? := (HF6.out.cell (by rw [HS4.out]; show w4.heap.size < _; omega)).trans (HX4.out 4)
  have y5 : w6.cell? ⟨w4.heap.size, 5, none⟩ = X[5]? := (HF6.out.cell (by rw [HS4.out]; show w4.heap.size < _; omega)).trans (HX4.out 5)
  have y6 : w6.cell? ⟨w4.heap.size, 6, none⟩ = X[6]? := (HF6.out.cell (by rw [HS4.out]; show w4.heap.size < _; omega)).trans (HX4.out 6)
  have y7 : w6.cell? ⟨w4.heap.size, 7, none⟩ = X[7]? := (HF6.out.cell (by rw [HS4.out]; show w4.heap.size < _; omega)).trans (HX4.out 7)
  have y8 : w6.cell? ⟨w4.heap.size, 8, none⟩ = X[8]? := (HF6.out.cell (by rw [HS4.out]; show w4.heap.size < _; omega)).trans (HX4.out 8)
  rw [HXX.out] at y0 y1 y2 y3 y4 y5 y6 y7 y8
  simp only [List.getElem?_toArray, List.getElem?_cons_zero, List.getElem?_cons_succ] at y0 y1 y2 y3 y4 y5 y6 y7 y8
  go_wp2_with fail
  refine (kept_any c _ _ _ _ w3.heap.size w3 _ (HA.out.below HB3.out) rfl HB7.out hr HL6.out.size HL6.out).mono ?_
  rintro e w7 ⟨rfl, hb7⟩
  clear x0 x1 x2 x3 x4 x5 x6 x7 x8 y0 y1 y2 y3 y4 y5 y6 y7 y8
  have HB8 := Lib.hid (HB.out.trans ((HB3.out.trans (hb7.mono HB3.out.size)).mono HB.out.size))
  clear hb7
  obtain ⟨E, hE⟩ : ∃ E : Int, E = errB (mayB c) := ⟨_, rfl⟩
  rw [← hE]
  clear hE
  go_wp2_with fail
  go_ret
  exact ⟨rfl, HB8.out⟩
end Go.Proofs.YtnfhdbmmoicilaaDoor
