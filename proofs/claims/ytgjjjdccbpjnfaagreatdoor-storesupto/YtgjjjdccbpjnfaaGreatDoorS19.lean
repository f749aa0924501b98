import Derived.Test.YtgjjjdccbpjnfaaGreatDoorS18
import Derived.BigRegion
import Derived.Test.YtgjjjdccbpjnfaaGreatDoorS16

/- The program reads who is gone, who failed. -/
namespace Go.Proofs.YtgjjjdccbpjnfaaGreatDoor
open Go.RowKit

def LvOk (w w' : World) (id : Nat) (ps : List Nat) (v : Value) : Prop := w'.ownsRow w.heap.size 3 1 v ps.length (natCells ps) ∧ id ≤ 4294967295 ∧ 1 ≤ ps.length ∧ ps.length ≤ 255 ∧ ∀ x ∈ ps, x ≤ 255
def ReadGonePost (l : List UInt8) (w : World) (e : Ending) (w' : World) : Prop :=
  (readGoneS l = none ∧ e = .returned (.tuple #[.agg #[.int .i64 0, .slice none 0 0], .bool false]) ∨ ∃ id ps v, readGoneS l = some (id, ps) ∧ e = .returned (.tuple #[.agg #[.int .i64 (id : Nat), v], .bool true]) ∧ LvOk w w' id ps v) ∧ Below w.heap.size w w'
def ReadFailedPost (l : List UInt8) (w : World) (e : Ending) (w' : World) : Prop :=
  (readFailedS l = none ∧ e = .returned (.tuple #[.int .i64 0, .agg #[.int .i64 0, .slice none 0 0], .bool false]) ∨ ∃ T id ps v, readFailedS l = some (T, id, ps) ∧ e = .returned (.tuple #[.int .i64 (T : Nat), .agg #[.int .i64 (id : Nat), v], .bool true]) ∧ LvOk w w' id ps v ∧ T ≤ 1000000000) ∧ Below w.heap.size w w'

/-- the two blocks at the beginning -/
theorem two_boxes {w W0 : World} {s : Nat} {l : List UInt8} (hs : w.heap.size = s) (hl : l.length ≤ 1048576) (hW0 : (w.alloc (.cells #[.int .i64 0, .slice none 0 0] 127)).alloc (.cells #[.string (bs l), .bool false] 118) = W0) :
    FdIn W0 (s + 1) (some l) ∧ LvAt W0 s 0 (.slice none 0 0) ∧ Below s w W0 ∧ W0.heap.size = s + 2 := by
  refine ⟨⟨by rw [← hW0, ← hs]; have := heap_alloc_new (w.alloc (.cells #[.int .i64 0, .slice none 0 0] 127)) (.cells #[.string (bs l), .bool false] 118); simpa using this, by unfold maxLen; omega⟩, ?_, ?_, ?_⟩
  · unfold LvAt
    rw [← hW0, ← hs, ((Below.refl (w.alloc (.cells #[.int .i64 0, .slice none 0 0] 127)).heap.size _).alloc (Nat.le_refl _) _).block w.heap.size (by simp)]
    exact heap_alloc_new w _
  · rw [← hW0]; exact ((Below.refl _ _).alloc (by omega) _).alloc (by simp; omega) _
  · rw [← hW0, ← hs]; simp
theorem own_after {s k j n : Nat} {u : World} {v x : Value} {xs : List Value} (h : u.ownsRow (s + 2) 3 1 v n xs) (hk : k < s + 2) : (u.setCell ⟨k, j, none⟩ x).ownsRow (s + 2) 3 1 v n xs := ownsRow_same h (show Same k u _ from (Same.refl _ _).setCell _) hk

set_option maxHeartbeats 1000000 in
set_option maxRecDepth 100000 in
theorem readGone_any (l : List UInt8) (w : World) (hl : l.length ≤ 1048576) : Calls Tryz.prog 74 #[.string (bs l)] w (ReadGonePost l w) := by
  have sl := bs_size l
  obtain ⟨s, hs⟩ : ∃ s, w.heap.size = s := ⟨_, rfl⟩
  obtain ⟨W0, hW0⟩ : ∃ W0 : World, (w.alloc (.cells #[.int .i64 0, .slice none 0 0] 127)).alloc (.cells #[.string (bs l), .bool false] 118) = W0 := ⟨_, rfl⟩
  obtain ⟨F0, R0, B0, Z0⟩ := two_boxes hs hl hW0
  have hc := fdBytes_any (s + 1) 1 (some l) W0 F0 (by decide)
  have HW0 := Lib.hid hW0
  have HSS := Lib.hid hs
  have HR0 := Lib.hid R0
  have HB0 := Lib.hid B0
  have HZ0 := Lib.hid Z0
  clear hW0 F0 R0 B0 Z0
  by_cases h71 : l.take 1 = [71]
  · obtain ⟨r, hr⟩ : ∃ r, l.drop 1 = r := ⟨_, rfl⟩
    have HL : Hid (l = 71 :: r) := Lib.hid (by rw [← List.take_append_drop 1 l, h71, hr]; rfl)
    have e1 : (some l).bind (bytesS 1) = some ([71], r) := by show bytesS 1 l = _; rw [HL.out]; rfl
    have HRM : Hid (readGoneS l = leavingS r) := Lib.hid (by rw [HL.out]; unfold readGoneS; simp only; rw [if_pos trivial])
    rw [e1] at hc
    have m1 : ((bs (outS (some ([71], r)))).toList == [71]) = true := by show ((bs [71]).toList == [71]) = true; rw [eq_lit]; rfl
    have HC0 := Lib.hid hc
    clear hc e1 hr h71
    go_enter Tryz.func74, Tryz.ntmps74
    go_wp2_with fail
    rw [HW0.out]
    refine HC0.out.mono ?_
    rintro e w1 ⟨rfl, h1, h2⟩
    have F1 : FdIn w1 (s + 1) (some r) := h1
    have R1 : LvAt w1 s 0 (.slice none 0 0) := (h2.2 s (by omega)).trans HR0.out
    have B1 := HB0.out.trans (h2.below (by omega))
    have Z1 : w1.heap.size = s + 2 := h2.1.trans HZ0.out
    have HLV := Lib.hid (leaving_any (s + 1) (some r) w1 F1 (by omega))
    have HR1 := Lib.hid R1
    have HB1 := Lib.hid B1
    have HZ1 := Lib.hid Z1
    clear h1 h2 F1 R1 B1 Z1 HC0 HR0 HB0 HZ0 HW0
    go_wp2_with fail
    refine HLV.out.mono ?_
    rintro e w2 ⟨hcase, hbut⟩
    have R2 : LvAt w2 s 0 (.slice none 0 0) := (hbut.block s (by have := HZ1.out; omega) (by omega)).trans HR1.out
    have r0 : w2.cell? ⟨s, 0, none⟩ = some (.int .i64 0) := (R2.cell 0).1
    have g0 := (R2.cell 0).2
    have r1 : w2.cell? ⟨s, 1, none⟩ = some (.slice none 0 0) := (R2.cell 1).1
    have g1 := (R2.cell 1).2
    have HB2 : Hid (Below s w w2) := Lib.hid (HB1.out.trans (hbut.below (by omega) (by have := HZ1.out; omega)))
    clear hbut R2 HLV
    rcases hcase with ⟨hn, rfl⟩ | ⟨id, ps, v, hn, rfl, ho, h1, h2, h3, h4⟩
    · have HRN : Hid (readGoneS l = none) := Lib.hid (by rw [HRM.out]; exact hn)
      clear hn HRM
      go_wp2_with fail
      refine bodyPost_ret (v := .tuple #[.agg #[.int .i64 0, .slice none 0 0], .bool false]) (by simp [results, Tryz.results74, go_sem, *]) rfl ?_
      refine ⟨.inl ⟨HRN.out, rfl⟩, ?_⟩
      rw [HSS.out]
      exact (HB2.out.setCell (Nat.le_refl _) _).setCell (Nat.le_refl _) _
    · have HRN : Hid (readGoneS l = some (id, ps)) := Lib.hid (by rw [HRM.out]; exact hn)
      rw [HZ1.out] at ho
      have HO := Lib.hid ho
      have H4 := Lib.hid h4
      obtain ⟨a, cp, rfl⟩ : ∃ a cp, v = .slice a ps.length cp := by
        rcases ho.2 with ⟨e, h0⟩ | ⟨g, cap, cur, e, _⟩
        · exact ⟨_, _, by rw [h0]; exact e⟩
        · exact ⟨_, _, e⟩
      clear hn HRM ho h4
      go_wp2_with fail
      refine bodyPost_ret (v := .tuple #[.agg #[.int .i64 id, .slice a ps.length cp], .bool true]) (by simp [results, Tryz.results74, go_sem, *]) rfl ?_
      refine ⟨.inr ⟨id, ps, .slice a ps.length cp, HRN.out, rfl, ?_, h1, h2, h3, H4.out⟩, ?_⟩
      · rw [HSS.out]
        exact (own_after (own_after HO.out (by omega)) (by omega)).mono (by omega)
      · rw [HSS.out]
        exact (HB2.out.setCell (Nat.le_refl _) _).setCell (Nat.le_refl _) _
  · have HRM : Hid (readGoneS l = none) := Lib.hid (by
      cases l with
      | nil => rfl
      | cons c r =>
        have hc : ¬ c = 71 := fun e => h71 (by rw [e]; rfl)
        unfold readGoneS
        simp only
        rw [if_neg hc])
    have m1 : ((bs (outS ((some l).bind (bytesS 1)))).toList == [71]) = false := by
      rw [eq_lit]
      cases l with
      | nil => rfl
      | cons c r =>
        have hc : ¬ c = 71 := fun e => h71 (by rw [e]; rfl)
        show ([c] == [71]) = false
        simpa using hc
    obtain ⟨t, et⟩ : ∃ t, outS ((some l).bind (bytesS 1)) = t := ⟨_, rfl⟩
    rw [et] at m1 hc
    have HC0 := Lib.hid hc
    clear h71 et hc
    go_enter Tryz.func74, Tryz.ntmps74
    go_wp2_with fail
    rw [HW0.out]
    refine HC0.out.mono ?_
    rintro e w1 ⟨rfl, h1, h2⟩
    have R1 : LvAt w1 s 0 (.slice none 0 0) := (h2.2 s (by omega)).trans HR0.out
    have r0 : w1.cell? ⟨s, 0, none⟩ = some (.int .i64 0) := (R1.cell 0).1
    have g0 := (R1.cell 0).2
    have r1 : w1.cell? ⟨s, 1, none⟩ = some (.slice none 0 0) := (R1.cell 1).1
    have g1 := (R1.cell 1).2
    have HB1 := Lib.hid (HB0.out.trans (h2.below (by omega)))
    clear h1 h2 R1 HC0 HR0 HB0
    go_wp2_with fail
    refine bodyPost_ret (v := .tuple #[.agg #[.int .i64 0, .slice none 0 0], .bool false]) (by simp [results, Tryz.results74, go_sem, *]) rfl ?_
    refine ⟨.inl ⟨HRM.out, rfl⟩, ?_⟩
    rw [HSS.out]
    exact (HB1.out.setCell (Nat.le_refl _) _).setCell (Nat.le_refl _) _
end Go.Proofs.YtgjjjdccbpjnfaaGreatDoor

/- The program reads who failed. -/
namespace Go.Proofs.YtgjjjdccbpjnfaaGreatDoor
open Go.RowKit

set_option maxHeartbeats 1000000 in
set_option maxRecDepth 100000 in
theorem readFailed_any (l : List UInt8) (w : World) (hl : l.length ≤ 1048576) : Calls Tryz.prog 76 #[.string (bs l)] w (ReadFailedPost l w) := by
  have sl := bs_size l
  obtain ⟨s, hs⟩ : ∃ s, w.heap.size = s := ⟨_, rfl⟩
  obtain ⟨W0, hW0⟩ : ∃ W0 : World, (w.alloc (.cells #[.int .i64 0, .slice none 0 0] 127)).alloc (.cells #[.string (bs l), .bool false] 118) = W0 := ⟨_, rfl⟩
  obtain ⟨F0, R0, B0, Z0⟩ := two_boxes hs hl hW0
  have hc := fdBytes_any (s + 1) 1 (some l) W0 F0 (by decide)
  have HW0 := Lib.hid hW0
  have HSS := Lib.hid hs
  have HR0 := Lib.hid R0
  have HB0 := Lib.hid B0
  have HZ0 := Lib.hid Z0
  clear hW0 F0 R0 B0 Z0
  by_cases h70 : l.take 1 = [70]
  · obtain ⟨r, hr⟩ : ∃ r, l.drop 1 = r := ⟨_, rfl⟩
    have HL : Hid (l = 70 :: r) := Lib.hid (by rw [← List.take_append_drop 1 l, h70, hr]; rfl)
    have e1 : (some l).bind (bytesS 1) = some ([70], r) := by show bytesS 1 l = _; rw [HL.out]; rfl
    have HRM : Hid (readFailedS l = (numS 4 r).bind fun a => (leavingS a.2).bind fun x => if a.1 ≤ 1000000000 then some (a.1, x.1, x.2) else none) := Lib.hid (by rw [HL.out]; unfold readFailedS; simp only; rw [if_pos trivial])
    rw [e1] at hc
    have m1 : ((bs (outS (some ([70], r)))).toList == [70]) = true := by show ((bs [70]).toList == [70]) = true; rw [eq_lit]; rfl
    have HC0 := Lib.hid hc
    clear hc e1 hr h70
    go_enter Tryz.func76, Tryz.ntmps76
    go_wp2_with fail
    rw [HW0.out]
    refine HC0.out.mono ?_
    rintro e w1 ⟨rfl, h1, h2⟩
    have F1 : FdIn w1 (s + 1) (some r) := h1
    have R1 : LvAt w1 s 0 (.slice none 0 0) := (h2.2 s (by omega)).trans HR0.out
    have B1 := HB0.out.trans (h2.below (by omega))
    have Z1 : w1.heap.size = s + 2 := h2.1.trans HZ0.out
    obtain ⟨T, o1, hT⟩ : ∃ T o1, numO 4 (some r) = (T, o1) := ⟨_, _, rfl⟩
    have hT4 : T ≤ 4294967295 := by have := numO_lt 4 (some r); rw [hT] at this; simp at this; omega
    have HRT : Hid (readFailedS l = (leavingO o1).bind fun x => if T ≤ 1000000000 then some (T, x.1, x.2) else none) := Lib.hid (by
      rw [HRM.out, numS_lift, hT]
      cases o1 with
      | none => rfl
      | some q => rfl)
    have hcn : Calls Tryz.prog 69 #[.pointer (some ⟨s + 1, 0, none⟩), .int .i64 4] w1 fun e w' => e = .returned (.int .i64 (numO 4 (some r)).1) ∧ FdIn w' (s + 1) (numO 4 (some r)).2 ∧ Same (s + 1) w1 w' := fdNumber_any (s + 1) 4 (some r) w1 F1 (by decide)
    rw [hT] at hcn
    have HCN := Lib.hid hcn
    have HR1' := Lib.hid R1
    have HB1' := Lib.hid B1
    have HZ1' := Lib.hid Z1
    clear h1 h2 F1 R1 B1 Z1 HC0 HR0 HB0 HZ0 HW0 hT hcn HRM
    go_wp2_with fail
    refine HCN.out.mono ?_
    rintro e w1b ⟨rfl, h1, h2⟩
    have R1 : LvAt w1b s 0 (.slice none 0 0) := (h2.2 s (by omega)).trans HR1'.out
    have B1 := HB1'.out.trans (h2.below (by omega))
    have Z1 : w1b.heap.size = s + 2 := h2.1.trans HZ1'.out
    have HLV := Lib.hid (leaving_any (s + 1) o1 w1b h1 (by omega))
    have HR1 := Lib.hid R1
    have HB1 := Lib.hid B1
    have HZ1 := Lib.hid Z1
    clear h1 h2 R1 B1 Z1 HCN HR1' HB1' HZ1'
    go_wp2_with fail
    refine HLV.out.mono ?_
    rintro e w2 ⟨hcase, hbut⟩
    have R2 : LvAt w2 s 0 (.slice none 0 0) := (hbut.block s (by have := HZ1.out; omega) (by omega)).trans HR1.out
    have r0 : w2.cell? ⟨s, 0, none⟩ = some (.int .i64 0) := (R2.cell 0).1
    have g0 := (R2.cell 0).2
    have r1 : w2.cell? ⟨s, 1, none⟩ = some (.slice none 0 0) := (R2.cell 1).1
    have g1 := (R2.cell 1).2
    have HB2 : Hid (Below s w w2) := Lib.hid (HB1.out.trans (hbut.below (by omega) (by have := HZ1.out; omega)))
    have hs2 : s < w2.heap.size := block_lt r0
    have r0' : ∀ o : Obj, (w2.alloc o).cell? ⟨s, 0, none⟩ = some (.int .i64 0) := fun o => (((Below.refl w2.heap.size w2).alloc (Nat.le_refl _) o).cell (block_lt r0)).trans r0
    have r1' : ∀ o : Obj, (w2.alloc o).cell? ⟨s, 1, none⟩ = some (.slice none 0 0) := fun o => (((Below.refl w2.heap.size w2).alloc (Nat.le_refl _) o).cell (block_lt r1)).trans r1
    have g0' : ∀ o : Obj, (w2.alloc o).frozen? ⟨s, 0, none⟩ = false := fun o => (((Below.refl w2.heap.size w2).alloc (Nat.le_refl _) o).frozen (block_lt r0)).trans g0
    have g1' : ∀ o : Obj, (w2.alloc o).frozen? ⟨s, 1, none⟩ = false := fun o => (((Below.refl w2.heap.size w2).alloc (Nat.le_refl _) o).frozen (block_lt r1)).trans g1
    have nsw : ¬ w2.heap.size = s := by omega
    have nsw' : ¬ s = w2.heap.size := by omega
    clear hbut R2 HLV
    rcases hcase with ⟨hn, rfl⟩ | ⟨id, ps, v, hn, rfl, ho, h1, h2, h3, h4⟩
    · have HRN : Hid (readFailedS l = none) := Lib.hid (by rw [HRT.out, hn]; rfl)
      clear hn HRT
      go_wp2_with fail
      refine bodyPost_ret (v := .tuple #[.int .i64 0, .agg #[.int .i64 0, .slice none 0 0], .bool false]) (by simp [results, Tryz.results76, go_sem, *]) rfl ?_
      refine ⟨.inl ⟨HRN.out, rfl⟩, ?_⟩
      rw [HSS.out]
      exact ((HB2.out.setCell (Nat.le_refl _) _).setCell (Nat.le_refl _) _).alloc (by simp; omega) _
    · obtain ⟨a, cp, rfl⟩ : ∃ a cp, v = .slice a ps.length cp := by
        rcases ho.2 with ⟨e, h0⟩ | ⟨g, cap, cur, e, _⟩
        · exact ⟨_, _, by rw [h0]; exact e⟩
        · exact ⟨_, _, e⟩
      rw [HZ1.out] at ho
      have HO := Lib.hid ho
      have H4 := Lib.hid h4
      by_cases hTT : T ≤ 1000000000
      · have HRN : Hid (readFailedS l = some (T, id, ps)) := Lib.hid (by rw [HRT.out, hn, sb, if_pos hTT])
        have hd : decide (1000000000 < (T : Int)) = false := decide_eq_false (by omega)
        clear hn HRT ho h4
        go_wp2_with fail
        go_region
        go_wp2_with fail
        refine bodyPost_ret (v := .tuple #[.int .i64 T, .agg #[.int .i64 id, .slice a ps.length cp], .bool true]) (by simp [results, Tryz.results76, go_sem, *]) rfl ?_
        refine ⟨.inr ⟨T, id, ps, .slice a ps.length cp, HRN.out, rfl, ⟨?_, h1, h2, h3, H4.out⟩, hTT⟩, ?_⟩
        · rw [HSS.out]
          exact ((((own_after (own_after HO.out (by omega)) (by omega)).alloc _).drew)).mono (by omega)
        · rw [HSS.out]
          exact (((HB2.out.setCell (Nat.le_refl _) _).setCell (Nat.le_refl _) _).alloc (by simp; omega) _).drew
      · have HRN : Hid (readFailedS l = none) := Lib.hid (by rw [HRT.out, hn, sb, if_neg hTT])
        have hd : decide (1000000000 < (T : Int)) = true := decide_eq_true (by omega)
        clear hn HRT ho h4
        go_wp2_with fail
        refine bodyPost_ret (v := .tuple #[.int .i64 0, .agg #[.int .i64 0, .slice none 0 0], .bool false]) (by simp [results, Tryz.results76, go_sem, *]) rfl ?_
        refine ⟨.inl ⟨HRN.out, rfl⟩, ?_⟩
        rw [HSS.out]
        exact ((HB2.out.setCell (Nat.le_refl _) _).setCell (Nat.le_refl _) _).alloc (by simp; omega) _
  · have HRM : Hid (readFailedS l = none) := Lib.hid (by
      cases l with
      | nil => rfl
      | cons c r =>
        have hc : ¬ c = 70 := fun e => h70 (by rw [e]; rfl)
        unfold readFailedS
        simp only
        rw [if_neg hc])
    have m1 : ((bs (outS ((some l).bind (bytesS 1)))).toList == [70]) = false := by
      rw [eq_lit]
      cases l with
      | nil => rfl
      | cons c r =>
        have hc : ¬ c = 70 := fun e => h70 (by rw [e]; rfl)
        show ([c] == [70]) = false
        simpa using hc
    obtain ⟨t, et⟩ : ∃ t, outS ((some l).bind (bytesS 1)) = t := ⟨_, rfl⟩
    rw [et] at m1 hc
    have HC0 := Lib.hid hc
    clear h70 et hc
    go_enter Tryz.func76, Tryz.ntmps76
    go_wp2_with fail
    rw [HW0.out]
    refine HC0.out.mono ?_
    rintro e w1 ⟨rfl, h1, h2⟩
    have R1 : LvAt w1 s 0 (.slice none 0 0) := (h2.2 s (by omega)).trans HR0.out
    have r0 : w1.cell? ⟨s, 0, none⟩ = some (.int .i64 0) := (R1.cell 0).1
    have g0 := (R1.cell 0).2
    have r1 : w1.cell? ⟨s, 1, none⟩ = some (.slice none 0 0) := (R1.cell 1).1
    have g1 := (R1.cell 1).2
    have HB1 := Lib.hid (HB0.out.trans (h2.below (by omega)))
    clear h1 h2 R1 HC0 HR0 HB0
    go_wp2_with fail
    refine bodyPost_ret (v := .tuple #[.int .i64 0, .agg #[.int .i64 0, .slice none 0 0], .bool false]) (by simp [results, Tryz.results76, go_sem, *]) rfl ?_
    refine ⟨.inl ⟨HRM.out, rfl⟩, ?_⟩
    rw [HSS.out]
    exact (HB1.out.setCell (Nat.le_refl _) _).setCell (Nat.le_refl _) _
end Go.Proofs.YtgjjjdccbpjnfaaGreatDoor

/- A mail as the bag holds it. -/
namespace Go.Proofs.YtgjjjdccbpjnfaaGreatDoor
open Go.RowKit

/-- a mail's block in the bag -/
def BmAt (w : World) (q time : Nat) (frm : List UInt8) (v : Value) (body : List UInt8) (x : Int × Int) : Prop := w.heap[q]? = some (.cells #[.int .i64 time, .string (bs frm), v, .string (bs body), .int .i64 x.1, .int .i64 x.2] 136 (0, 0))
def recCells (l : List (Nat × List UInt8)) : List Value := l.flatMap fun x => [.int .i64 x.1, .string (bs x.2)]
theorem info_recip : (Tryz.prog.info? 140).map (fun i => (i.zero, i.size, i.bytes)) = some (some (.agg #[.int .i64 0, .string ⟨#[]⟩]), 2, 24) := by kernel_rfl

theorem stay_all (tos : List (List UInt8)) : stay tos (List.replicate tos.length false) = (List.range tos.length).map fun i => (i, tos.getD i []) := by
  unfold stay leftOf
  rw [List.length_replicate]
  congr 1
  rw [List.filter_eq_self]
  intro i hi
  have := List.mem_range.1 hi
  simp [List.getD_eq_getElem?_getD, this]
theorem recCells_snoc (l : List (Nat × List UInt8)) (x : Nat × List UInt8) : recCells (l ++ [x]) = recCells l ++ [.int .i64 x.1, .string (bs x.2)] := by simp [recCells]
theorem recCells_len (l : List (Nat × List UInt8)) : (recCells l).length = l.length * 2 := by
  induction l with
  | nil => rfl
  | cons x l ih => show ([_, _] ++ recCells l).length = _; rw [List.length_append, ih]; simp; omega
def firstK (tos : List (List UInt8)) (k : Nat) : List (Nat × List UInt8) := (List.range k).map fun i => (i, tos.getD i [])
theorem firstK_succ (tos : List (List UInt8)) (k : Nat) : firstK tos (k + 1) = firstK tos k ++ [(k, tos.getD k [])] := by simp [firstK, List.range_succ]
theorem firstK_len (tos : List (List UInt8)) (k : Nat) : (firstK tos k).length = k := by simp [firstK]
/-- two cells more are written -/
theorem two_more {D : Array Value} {k n : Nat} {xs : List Value} {x y : Value} (hD : D.size = n * 2) (hk : k < n) (hx : xs.length = k * 2) (h : D.toList.take (k * 2) = xs) : ((D.setIfInBounds (k * 2) x).setIfInBounds (k * 2 + 1) y).toList.take ((k + 1) * 2) = xs ++ [x, y] := by
  apply List.ext_getElem?
  intro j
  rw [List.getElem?_take]
  have hg : ∀ i, D.toList[i]? = D[i]? := fun i => Array.getElem?_toList
  rcases Nat.lt_or_ge j (k * 2) with hj | hj
  · rw [if_pos (by omega), List.getElem?_append_left (by omega), Array.getElem?_toList, Array.getElem?_setIfInBounds_ne (by omega), Array.getElem?_setIfInBounds_ne (by omega), ← h, List.getElem?_take, if_pos hj, hg]
  · rw [List.getElem?_append_right (by omega), hx]
    rcases Nat.lt_or_ge j (k * 2 + 2) with hj2 | hj2
    · rw [if_pos (by omega), Array.getElem?_toList]
      obtain rfl | rfl : j = k * 2 ∨ j = k * 2 + 1 := by omega
      · rw [Array.getElem?_setIfInBounds_ne (by omega), Array.getElem?_setIfInBounds]
        simp; omega
      · rw [Array.getElem?_setIfInBounds]
        rw [if_pos rfl]
        simp; omega
    · rw [if_neg (by omega), List.getElem?_eq_none (by simp; omega)]

set_option maxHeartbeats 1000000 in
set_option maxRecDepth 100000 in
theorem newMail_any (mm : PMail) (v : Value) (w : World) (h : RowAt w v mm.tos.length 1 (textCells mm.tos)) (hz : MailSz mm) :
    Calls Tryz.prog 167 #[.agg (mailCells mm v)] w fun e w' => ∃ q g, e = .returned (.pointer (some ⟨q, 0, none⟩)) ∧ BmAt w' q mm.time mm.frm (.slice (some ⟨g, 0, none⟩) mm.tos.length mm.tos.length) mm.body (mm.time, 0) ∧ w.heap.size ≤ q ∧ w'.ownsRow w.heap.size 140 2 (.slice (some ⟨g, 0, none⟩) mm.tos.length mm.tos.length) mm.tos.length (recCells (stay mm.tos (List.replicate mm.tos.length false))) ∧ Below w.heap.size w w' := by
  obtain ⟨id, time, frm, tos, body⟩ := mm
  obtain ⟨z1, z2, z3, z4, z5, z6⟩ := hz
  simp only at h z1 z2 z3 z4 z5 z6
  obtain ⟨a, cap, rfl, hc⟩ := h.one
  simp only [mailCells]
  have HC := Lib.hid hc
  have hmk := fun w' => make_n (P := Tryz.prog) Tryz.underlying134 info_recip tos.length (by omega) (by omega) w'
  obtain ⟨C, eC⟩ : ∃ C, madeCells (Value.agg #[.int .i64 0, .string ⟨#[]⟩]).cells (tos.length * 2) = C := ⟨_, rfl⟩
  have hCs : C.size = tos.length * 2 := by rw [← eC]; simp [madeCells]
  rw [eC] at hmk
  obtain ⟨s, hs⟩ : ∃ s, w.heap.size = s := ⟨_, rfl⟩
  obtain ⟨W0, hW0⟩ : ∃ W0 : World, (w.alloc (.cells #[.int .i64 id, .int .i64 time, .string (bs frm), .slice a tos.length cap, .string (bs body)] 26)).alloc (.cells C 140) = W0 := ⟨_, rfl⟩
  have hb1 : Below s w (w.alloc (.cells #[.int .i64 id, .int .i64 time, .string (bs frm), .slice a tos.length cap, .string (bs body)] 26)) := (Below.refl _ _).alloc (by omega) _
  have B0 : Hid (Below s w W0) := Lib.hid (by rw [← hW0]; exact hb1.alloc (by simp; omega) _)
  have X0 : Hid (MailAt W0 s id time frm (.slice a tos.length cap) body) := Lib.hid (by
    unfold MailAt
    rw [← hW0, ← hs, ((Below.refl (w.alloc (.cells #[.int .i64 id, .int .i64 time, .string (bs frm), .slice a tos.length cap, .string (bs body)] 26)).heap.size _).alloc (Nat.le_refl _) _).block w.heap.size (by simp)]
    exact heap_alloc_new w _)
  have G0 : Hid (W0.heap[s + 1]? = some (.cells C 140 (0, 0))) := Lib.hid (by
    rw [← hW0, ← hs]
    have := heap_alloc_new (w.alloc (.cells #[.int .i64 id, .int .i64 time, .string (bs frm), .slice a tos.length cap, .string (bs body)] 26)) (.cells C 140)
    simpa using this)
  have Z0 : Hid (W0.heap.size = s + 2) := Lib.hid (by rw [← hW0, ← hs]; simp)
  have HW0 := Lib.hid hW0
  have HSS := Lib.hid hs
  have HZ5 := Lib.hid z5
  clear h hc z5 hb1 hW0 eC
  go_enter Tryz.func167, Tryz.ntmps167
  go_wp2_with fail
  rw [HW0.out]
  go_loopw [13] (fun i w' => ∃ (k : Nat) (D : Array Value), k ≤ tos.length ∧ i = .int .i64 k ∧ D.size = tos.length * 2 ∧ Hid (D.toList.take (k * 2) = recCells (firstK tos k)) ∧ Hid (w'.heap[s + 1]? = some (.cells D 140 (0, 0))) ∧ Hid (Same (s + 1) W0 w')) (fun i _ => tos.length - (intOf i).toNat)
  case atStart => exact ⟨0, C, Nat.zero_le _, rfl, hCs, Lib.hid rfl, G0, Lib.hid (Same.refl _ _)⟩
  case round =>
    obtain ⟨k, D, hk, rfl, hD, HD, HG, HS⟩ := hrel
    have HB : Hid (Below s w wr) := Lib.hid (B0.out.trans (HS.out.below (by omega)))
    by_cases hlt : k < tos.length
    · have hlti : (k : Int) < (tos.length : Int) := by omega
      obtain ⟨b, off, rfl, hbw, hcell⟩ := HC.out k hlt
      rw [textCells_get tos k hlt] at hcell
      have hcr : wr.cell? ⟨b, off + k, none⟩ = some (.string (bs tos[k])) := (HB.out.cell (by show b < s; rw [← HSS.out]; exact hbw)).trans hcell
      have HFS : Hid (firstK tos (k + 1) = firstK tos k ++ [(k, tos[k])]) := Lib.hid (by rw [firstK_succ, List.getD_eq_getElem?_getD, List.getElem?_eq_getElem hlt]; rfl)
      obtain ⟨t, et⟩ : ∃ t, tos[k] = t := ⟨_, rfl⟩
      rw [et] at hcr HFS
      have x0 : ∃ u, wr.cell? ⟨s + 1, k * 2, none⟩ = some u := by rw [Lib.cell_of_heap HG.out]; exact ⟨_, Array.getElem?_eq_getElem (by omega)⟩
      have x1 : ∃ u, wr.cell? ⟨s + 1, k * 2 + 1, none⟩ = some u := by rw [Lib.cell_of_heap HG.out]; exact ⟨_, Array.getElem?_eq_getElem (by omega)⟩
      obtain ⟨u0, x0⟩ := x0
      obtain ⟨u1, x1⟩ := x1
      have y0 := Lib.frozen_of_heap HG.out (k * 2)
      have y1 := Lib.frozen_of_heap HG.out (k * 2 + 1)
      have HN := Lib.hid (two_more (x := .int .i64 k) (y := .string (bs t)) hD hlt (by rw [recCells_len, firstK_len]) HD.out)
      clear et hcell
      go_wp2_with fail
      have h1 := heap_setCell_same wr (s + 1) (k * 2) _ _ (.int .i64 k) HG.out
      have h2 := heap_setCell_same _ (s + 1) (k * 2 + 1) _ _ (.string (bs t)) h1
      exact ⟨⟨k + 1, _, by omega, by go_num, by simp [hD], Lib.hid (by rw [HN.out, HFS.out, recCells_snoc]), Lib.hid h2, Lib.hid ((HS.out.setCell _).setCell _)⟩, by simp [intOf]; omega⟩
    · have hk9 : k = tos.length := by omega
      subst hk9
      have HX : Hid (MailAt wr s id time frm (.slice a tos.length cap) body) := Lib.hid (X0.out.same HS.out (by omega))
      have k1 : wr.cell? ⟨s, 1, none⟩ = some (.int .i64 time) := (HX.out.cell 1).1
      have k2 : wr.cell? ⟨s, 2, none⟩ = some (.string (bs frm)) := (HX.out.cell 2).1
      have k4 : wr.cell? ⟨s, 4, none⟩ = some (.string (bs body)) := (HX.out.cell 4).1
      have z9 : wr.heap.size = s + 2 := HS.out.1.trans Z0.out
      have HZ9 := Lib.hid z9
      go_wp2_with fail
      go_ret
      refine ⟨s + 2, s + 1, ?_, ?_, by rw [HSS.out]; omega, ?_, ?_⟩
      · rfl
      · unfold BmAt
        rw [← HZ9.out]
        exact heap_alloc_new wr _
      · rw [HSS.out]
        refine World.ownsRow.alloc ?_ _
        refine ⟨by rw [recCells_len, stay_all]; simp, .inr ⟨s + 1, tos.length, D, rfl, by omega, HG.out, Nat.le_refl _, by unfold maxLen; omega, hD, ?_⟩⟩
        rw [HD.out, stay_all]
        rfl
      · rw [HSS.out]
        exact HB.out.alloc (by rw [HZ9.out]; omega) _
end Go.Proofs.YtgjjjdccbpjnfaaGreatDoor

/- The body of a return. -/
namespace Go.Proofs.YtgjjjdccbpjnfaaGreatDoor
open Go.RowKit

def namesE (l : List (List UInt8)) : List UInt8 := notE ++ l.flatMap fun t => [13, 10] ++ t
theorem namesE_take (l : List (List UInt8)) (k : Nat) (h : k < l.length) : namesE (l.take (k + 1)) = namesE (l.take k) ++ ([13, 10] ++ l[k]) := by
  unfold namesE
  rw [List.take_succ_eq_append_getElem h, List.flatMap_append]
  simp
theorem namesE_body (tos : List (List UInt8)) (ps : List Nat) : namesE (ps.map fun i => tos.getD i []) = bodyE tos ps := by
  unfold namesE bodyE
  rw [List.flatMap_map]
  rfl

set_option maxHeartbeats 400000 in
set_option maxRecDepth 100000 in
theorem returnBody_any (l : List (List UInt8)) (v : Value) (w : World) (h : RowAt w v l.length 1 (textCells l)) (hl : l.length ≤ 255) (hs : ∀ t ∈ l, t.length ≤ 255) :
    Calls Tryz.prog 118 #[v] w fun e w' => e = .returned (.string (bs (namesE l))) ∧ w = w' := by
  obtain ⟨a, cap, rfl, hc⟩ := h.one
  have HC := Lib.hid hc
  have HS := Lib.hid hs
  clear h hc hs
  go_enter Tryz.func118, Tryz.ntmps118
  go_wp2_with fail
  go_loop [3, 8] (fun b i => ∃ (k : Nat) (B : List UInt8), k ≤ l.length ∧ i = .int .i64 k ∧ b = .string (bs B) ∧ B.length ≤ 14 + 257 * k ∧ Hid (B = namesE (l.take k))) (fun _ i => l.length - (intOf i).toNat)
  case atStart => exact ⟨0, notE, Nat.zero_le _, rfl, rfl, by decide, Lib.hid (by simp [namesE])⟩
  case round =>
    obtain ⟨k, B, hk, rfl, rfl, hB, HB⟩ := hrel
    have sB := bs_size B
    by_cases hlt : k < l.length
    · have hlti : (k : Int) < (l.length : Int) := by omega
      obtain ⟨b, off, rfl, hbw, hcell⟩ := HC.out k hlt
      rw [textCells_get l k hlt] at hcell
      have hln := HS.out l[k] (List.getElem_mem hlt)
      have HN := Lib.hid (namesE_take l k hlt)
      obtain ⟨t, et⟩ : ∃ t, l[k] = t := ⟨_, rfl⟩
      rw [et] at hcell hln HN
      have st := bs_size t
      have s2 : ((⟨#[13, 10]⟩ : ByteArray) ++ bs t).size ≤ 257 := by rw [show (⟨#[13, 10]⟩ : ByteArray) = bs [13, 10] from rfl, bs_append, bs_size]; simp; omega
      clear et
      go_wp2_with fail
      refine ⟨⟨k + 1, B ++ ([13, 10] ++ t), by omega, by go_num, ?_, by simp; omega, Lib.hid (by rw [HN.out, ← HB.out])⟩, by simp [intOf]; omega⟩
      rw [show (⟨#[13, 10]⟩ : ByteArray) = bs [13, 10] from rfl, bs_append, bs_append]
    · have hk9 : k = l.length := by omega
      subst hk9
      rw [List.take_length] at HB
      go_wp2_with fail
      go_ret
      exact ⟨by rw [← HB.out]; rfl, rfl⟩
end Go.Proofs.YtgjjjdccbpjnfaaGreatDoor

/- Is a number among some? -/
namespace Go.Proofs.YtgjjjdccbpjnfaaGreatDoor
open Go.RowKit

theorem natCells_get (l : List Nat) (k : Nat) (h : k < l.length) : (natCells l)[k]? = some (.int .i64 (l[k] : Int)) := by simp [natCells, h]
theorem not_mem_takeN {l : List Nat} {t : Nat} {k : Nat} (hk : k < l.length) (h : t ∉ l.take k) (hn : ¬ t = l[k]) : t ∉ l.take (k + 1) := by
  rw [List.take_succ_eq_append_getElem hk, List.mem_append, List.mem_singleton]
  rintro (h1 | h1)
  · exact h h1
  · exact hn h1

set_option maxHeartbeats 400000 in
set_option maxRecDepth 100000 in
theorem indexInt_any (l : List Nat) (t : Nat) (v : Value) (w : World) (h : RowAt w v l.length 1 (natCells l)) (hl : l.length ≤ 255) :
    Calls Tryz.prog 273 #[v, .int .i64 (t : Int)] w fun e w' => ∃ r : Int, e = .returned (.int .i64 r) ∧ (-1 ≤ r ∧ r ≤ 255) ∧ (0 ≤ r ↔ t ∈ l) ∧ w = w' := by
  obtain ⟨a, cap, rfl, hc⟩ := h.one
  have HC := Lib.hid hc
  clear hc h
  go_enter Tryz.func273, Tryz.ntmps273
  go_wp2_with fail
  go_loop [8] (fun i => ∃ k : Nat, k ≤ l.length ∧ i = .int .i64 k ∧ Hid (t ∉ l.take k)) (fun i => l.length - (intOf i).toNat)
  case atStart => exact ⟨0, Nat.zero_le _, rfl, Lib.hid (by simp)⟩
  case round =>
    obtain ⟨k, hk, rfl, HN⟩ := hrel
    by_cases hlt : k < l.length
    · have hlti : (k : Int) < (l.length : Int) := by omega
      obtain ⟨b, off, rfl, _, hcell⟩ := HC.out k hlt
      rw [natCells_get l k hlt] at hcell
      by_cases he : t = l[k]
      · have hq : ((t : Int) == (l[k] : Int)) = true := by rw [he]; simp
        have HM : Hid (t ∈ l) := Lib.hid (by rw [he]; exact List.getElem_mem hlt)
        clear he
        go_wp2_with fail
        go_ret
        exact ⟨_, rfl, by omega, ⟨fun _ => HM.out, fun _ => by omega⟩, rfl⟩
      · have hq : ((t : Int) == (l[k] : Int)) = false := by rw [beq_eq_false_iff_ne]; omega
        have HM := Lib.hid (not_mem_takeN hlt HN.out he)
        clear he
        go_wp2_with fail
        exact ⟨⟨k + 1, by omega, by go_num, HM⟩, by simp [intOf]; omega⟩
    · have hk9 : k = l.length := by omega
      subst hk9
      have HM : Hid (t ∉ l) := Lib.hid (by
        have := HN.out
        rwa [List.take_length] at this)
      go_wp2_with fail
      go_ret
      exact ⟨_, rfl, by omega, ⟨fun h => by omega, fun h => absurd h HM.out⟩, rfl⟩

set_option maxHeartbeats 400000 in
set_option maxRecDepth 100000 in
theorem containsInt_any (l : List Nat) (t : Nat) (v : Value) (w : World) (h : RowAt w v l.length 1 (natCells l)) (hl : l.length ≤ 255) :
    Calls Tryz.prog 226 #[v, .int .i64 (t : Int)] w fun e w' => e = .returned (.bool (l.contains t)) ∧ w = w' := by
  have hi := indexInt_any l t v w h hl
  obtain ⟨a, cap, rfl, _⟩ := h.one
  clear h
  go_enter Tryz.func226, Tryz.ntmps226
  go_wp2_with fail
  refine hi.mono ?_
  rintro e w1 ⟨r, rfl, hr, hd, rfl⟩
  have HD : Hid (decide (0 ≤ r) = l.contains t) := Lib.hid (by rw [Bool.eq_iff_iff, decide_eq_true_iff, List.contains_iff_mem]; exact hd)
  clear hd hi
  go_wp2_with fail
  go_ret
  exact ⟨ret_bool HD.out, rfl⟩
end Go.Proofs.YtgjjjdccbpjnfaaGreatDoor

/- Those who leave a mail, those who stay. -/
namespace Go.Proofs.YtgjjjdccbpjnfaaGreatDoor
open Go.RowKit

theorem recCells_at (l : List (Nat × List UInt8)) (k : Nat) (h : k < l.length) : (recCells l)[k * 2]? = some (.int .i64 (l[k].1 : Int)) ∧ (recCells l)[k * 2 + 1]? = some (.string (bs l[k].2)) := by
  induction l generalizing k with
  | nil => simp at h
  | cons x l ih =>
    show ([Value.int .i64 (x.1 : Int), .string (bs x.2)] ++ recCells l)[k * 2]? = _ ∧ ([Value.int .i64 (x.1 : Int), .string (bs x.2)] ++ recCells l)[k * 2 + 1]? = _
    cases k with
    | zero => exact ⟨rfl, rfl⟩
    | succ k =>
      have := ih k (by simpa using h)
      rw [List.getElem?_append_right (by simp only [List.length_cons, List.length_nil]; omega), List.getElem?_append_right (by simp only [List.length_cons, List.length_nil]; omega)]
      simp only [List.length_cons, List.length_nil]
      rw [show (k + 1) * 2 - (0 + 1 + 1) = k * 2 by omega, show (k + 1) * 2 + 1 - (0 + 1 + 1) = k * 2 + 1 by omega]
      exact this
def gonesOf (l : List (Nat × List UInt8)) (ps : List Nat) : List (List UInt8) := (l.filter fun r => ps.contains r.1).map (·.2)
def staysOf (l : List (Nat × List UInt8)) (ps : List Nat) : List (Nat × List UInt8) := l.filter fun r => !(ps.contains r.1)
theorem part_take (l : List (Nat × List UInt8)) (ps : List Nat) (k : Nat) (h : k < l.length) : (ps.contains l[k].1 = true → gonesOf (l.take (k + 1)) ps = gonesOf (l.take k) ps ++ [l[k].2] ∧ staysOf (l.take (k + 1)) ps = staysOf (l.take k) ps) ∧ (ps.contains l[k].1 = false → gonesOf (l.take (k + 1)) ps = gonesOf (l.take k) ps ∧ staysOf (l.take (k + 1)) ps = staysOf (l.take k) ps ++ [l[k]]) := by
  unfold gonesOf staysOf
  rw [List.take_succ_eq_append_getElem h, List.filter_append, List.filter_append]
  constructor
  · intro e
    simp only [List.filter_cons, e, List.filter_nil, Bool.not_true, if_true, Bool.false_eq_true, if_false, List.append_nil, List.map_append]
    exact ⟨rfl, trivial⟩
  · intro e
    simp only [List.filter_cons, e, List.filter_nil, Bool.not_false, if_true, Bool.false_eq_true, if_false, List.append_nil]
    exact ⟨trivial, trivial⟩
theorem gones_le (l : List (Nat × List UInt8)) (ps : List Nat) : (gonesOf l ps).length ≤ l.length := by unfold gonesOf; rw [List.length_map]; exact List.length_filter_le _ _
theorem stays_le (l : List (Nat × List UInt8)) (ps : List Nat) : (staysOf l ps).length ≤ l.length := List.length_filter_le _ _
theorem far_row {w9 wa w10 : World} {base n m sz sz' : Nat} {e e' : TypeId} {x y : Value} {xs ys : List Value} (hx : w9.ownsRow base e sz x n xs) (hy : w9.ownsRow base e' sz' y m ys) (hne : e' ≠ e) (hB : Below w9.heap.size w9 wa) (hgrow : wa.grownBy w10 x.ownBlock) : w10.ownsRow base e' sz' y m ys := by
  refine (ownsRow_touch (Touch.below (ts := []) hB) (by simp) hy).kept hgrow ?_
  rcases hy.2 with ⟨e1, _⟩ | ⟨g, cap, cur, e1, _, hg, _⟩
  · subst e1; exact .inl rfl
  · refine .inr fun e2 => ?_
    rcases hx.2 with ⟨e3, _⟩ | ⟨g', cap', cur', e3, _, hg', _⟩
    · rw [e3, e1] at e2; cases e2
    · rw [e3, e1] at e2
      injection e2 with e2
      exact tag_ne hg hg' hne e2

set_option maxHeartbeats 1000000 in
set_option maxRecDepth 100000 in
theorem mailLeave_any (base q time : Nat) (frm body : List UInt8) (v vp : Value) (l : List (Nat × List UInt8)) (ps : List Nat) (x : Int × Int) (w : World) (h : BmAt w q time frm v body x) (_hb : base ≤ q) (hv : w.ownsRow base 140 2 v l.length (recCells l)) (hp : RowAt w vp ps.length 1 (natCells ps)) (hl : l.length ≤ 255) (hpl : ps.length ≤ 255) :
    Calls Tryz.prog 170 #[.pointer (some ⟨q, 0, none⟩), vp] w fun e w' => ∃ vn vs, e = .returned vn ∧ w'.ownsRow w.heap.size 9 1 vn (gonesOf l ps).length (textCells (gonesOf l ps)) ∧ BmAt w' q time frm vs body x ∧ w'.ownsRow w.heap.size 140 2 vs (staysOf l ps).length (recCells (staysOf l ps)) ∧ But q w w' := by
  obtain ⟨a, cap, rfl, _⟩ := hp.one
  have HP := Lib.hid hp
  have HV := Lib.hid hv
  have HH := Lib.hid h
  have k2 : w.cell? ⟨q, 2, none⟩ = some v := by rw [Lib.cell_of_heap h]; rfl
  obtain ⟨av, cv, rfl⟩ : ∃ a c, v = .slice a l.length c := by
    rcases hv.2 with ⟨e, h0⟩ | ⟨g, cap, cur, e, _⟩
    · exact ⟨_, _, by rw [h0]; exact e⟩
    · exact ⟨_, _, e⟩
  obtain ⟨s, hs⟩ : ∃ s, w.heap.size = s := ⟨_, rfl⟩
  have HSS := Lib.hid hs
  obtain ⟨is, his, hzs0, hzs1, hzs2⟩ := info_parts info_str'
  obtain ⟨ir, hir, hzr0, hzr1, hzr2⟩ := info_parts info_recip
  have hqs : q < s := by rw [← hs]; exact heap_lt h
  clear h hv hp hs
  go_enter Tryz.func170, Tryz.ntmps170
  go_wp2_with fail
  go_loopw [5, 6, 14] (fun vn vs i w' => ∃ k : Nat, k ≤ l.length ∧ i = .int .i64 k ∧ Hid (w'.ownsRow s 9 1 vn (gonesOf (l.take k) ps).length (textCells (gonesOf (l.take k) ps))) ∧ Hid (w'.ownsRow s 140 2 vs (staysOf (l.take k) ps).length (recCells (staysOf (l.take k) ps))) ∧ Hid (Below s w w')) (fun _ _ i _ => l.length - (intOf i).toNat)
  case atStart => exact ⟨0, Nat.zero_le _, rfl, Lib.hid (World.ownsRow_nil _ _ _ _), Lib.hid (World.ownsRow_nil _ _ _ _), Lib.hid (by rw [← HSS.out]; exact Below.refl _ _)⟩
  case round =>
    obtain ⟨k, hk, rfl, HN, HST, HB⟩ := hrel
    by_cases hlt : k < l.length
    · have hlti : (k : Int) < (l.length : Int) := by omega
      have HPT := Lib.hid (part_take l ps k hlt)
      have hgl := gones_le (l.take k) ps
      have hsl := stays_le (l.take k) ps
      rw [List.length_take] at hgl hsl
      obtain ⟨G, eG⟩ : ∃ G, gonesOf (l.take k) ps = G := ⟨_, rfl⟩
      obtain ⟨R, eR⟩ : ∃ R, staysOf (l.take k) ps = R := ⟨_, rfl⟩
      rw [eG] at HN hgl HPT
      rw [eR] at HST hsl HPT
      obtain ⟨g, rfl, c0, c1⟩ : ∃ g, av = some ⟨g, 0, none⟩ ∧ w.cell? ⟨g, k * 2, none⟩ = some (.int .i64 (l[k].1 : Int)) ∧ w.cell? ⟨g, k * 2 + 1, none⟩ = some (.string (bs l[k].2)) := by
        rcases HV.out.2 with ⟨_, h0⟩ | ⟨g, cp, cur, e, _, hg, _, _, _, htk⟩
        · omega
        · injection e with e1 _ _
          refine ⟨g, e1, ?_, ?_⟩
          · rw [Lib.cell_of_heap hg, ← Array.getElem?_toList, ← List.getElem?_take_of_lt (show k * 2 < l.length * 2 by omega), htk]; exact (recCells_at l k hlt).1
          · rw [Lib.cell_of_heap hg, ← Array.getElem?_toList, ← List.getElem?_take_of_lt (show k * 2 + 1 < l.length * 2 by omega), htk]; exact (recCells_at l k hlt).2
      have d0 : wr.cell? ⟨g, k * 2, none⟩ = some (.int .i64 (l[k].1 : Int)) := (HB.out.cell (by show g < s; rw [← HSS.out]; exact block_lt c0)).trans c0
      have d1 : wr.cell? ⟨g, k * 2 + 1, none⟩ = some (.string (bs l[k].2)) := (HB.out.cell (by show g < s; rw [← HSS.out]; exact block_lt c1)).trans c1
      obtain ⟨x, ex⟩ : ∃ x, l[k] = x := ⟨_, rfl⟩
      rw [ex] at d0 d1 HPT
      obtain ⟨P, T⟩ := x
      simp only at d0 d1
      have hsr : s ≤ wr.heap.size := by have := HB.out.size; have := HSS.out; omega
      obtain ⟨W1, hW1⟩ : ∃ W1 : World, wr.alloc (.cells #[.int .i64 (P : Int), .string (bs T)] 140) = W1 := ⟨_, rfl⟩
      have hB1 : Below wr.heap.size wr W1 := by rw [← hW1]; exact (Below.refl _ _).alloc (Nat.le_refl _) _
      have hX1 : W1.heap[wr.heap.size]? = some (.cells #[.int .i64 (P : Int), .string (bs T)] 140 (0, 0)) := by rw [← hW1]; exact heap_alloc_new wr _
      have p0 : W1.cell? ⟨wr.heap.size, 0, none⟩ = some (.int .i64 (P : Int)) := by rw [Lib.cell_of_heap hX1]; rfl
      have p1 : W1.cell? ⟨wr.heap.size, 1, none⟩ = some (.string (bs T)) := by rw [Lib.cell_of_heap hX1]; rfl
      have BW : Hid (Below s w W1) := Lib.hid (HB.out.trans (hB1.mono hsr))
      have HCT := Lib.hid (containsInt_any ps P (.slice a ps.length cap) W1 (HP.out.below (by rw [HSS.out]; exact BW.out)) hpl)
      have N1 := ownsRow_touch (Touch.below (ts := []) hB1) (by simp) HN.out
      have R1 := ownsRow_touch (Touch.below (ts := []) hB1) (by simp) HST.out
      have hz1 : s ≤ W1.heap.size := by have := hB1.size; omega
      have HW1 := Lib.hid hW1
      have HHN := Lib.hid N1
      have HHR := Lib.hid R1
      clear hW1 hB1 hX1 ex c0 c1 eG eR HN HST HB
      cases hq : ps.contains P with
      | true =>
        obtain ⟨q1, q2⟩ := HPT.out.1 hq
        have Q1 := Lib.hid q1
        have Q2 := Lib.hid q2
        rw [hq] at HCT
        clear q1 q2 HPT hq
        go_wp2_with fail
        rw [HW1.out]
        refine HCT.out.mono ?_
        rintro e w2 ⟨rfl, rfl⟩
        go_wp2_with (first
          | (at_builtin; refine wpList_append_own _ rfl _ _ 24 rfl s 9 is (.string ⟨#[]⟩) 1 16 Tryz.underlying24 his hzs0 hzs1 hzs2 rfl (by decide) _ _ _ rfl (N1.alloc _) ⟨W1.heap.size, 0, none⟩ 1 1 [.string (bs T)] rfl rfl ?c1 ?c2 ?c3 ?c4 ?c5 ?_)
          | fail)
        case c1 => exact World.news_of_block (cs := #[.string (bs T)]) (t := 9) (fr := (0, 0)) (heap_alloc_new W1 _)
        case c2 => intro u hu; simp at hu; subst hu; rfl
        case c3 => unfold maxLen; omega
        case c4 => omega
        case c5 => simp; omega
        · intro v' w4 hown hgrow _
          have hR4 := Lib.hid (far_row N1 R1 (by decide) ((Below.refl _ _).alloc (Nat.le_refl _) _) hgrow)
          have hB4 := Lib.hid ((BW.out.alloc hz1 _).grown hgrow (by simp; omega) (fun k hk => (N1.lt k hk).1))
          have HOW := Lib.hid hown
          clear hown hgrow N1 R1
          go_wp2_with fail
          exact ⟨⟨k + 1, by omega, by go_num, Lib.hid (by rw [Q1.out]; simpa [textCells] using HOW.out), Lib.hid (by rw [Q2.out]; exact hR4.out), hB4⟩, by simp [intOf]; omega⟩
      | false =>
        obtain ⟨q1, q2⟩ := HPT.out.2 hq
        have Q1 := Lib.hid q1
        have Q2 := Lib.hid q2
        rw [hq] at HCT
        clear q1 q2 HPT hq
        go_wp2_with fail
        rw [HW1.out]
        refine HCT.out.mono ?_
        rintro e w2 ⟨rfl, rfl⟩
        go_wp2_with (first
          | (at_builtin; refine wpList_append_own _ rfl _ _ 134 rfl s 140 ir _ 2 24 Tryz.underlying134 hir hzr0 hzr1 hzr2 rfl (by decide) _ _ _ rfl (R1.alloc _) ⟨W1.heap.size, 0, none⟩ 1 1 [.int .i64 (P : Int), .string (bs T)] rfl rfl ?c1 ?c2 ?c3 ?c4 ?c5 ?_)
          | fail)
        case c1 => exact World.news_of_block (cs := #[.int .i64 (P : Int), .string (bs T)]) (t := 140) (fr := (0, 0)) (heap_alloc_new W1 _)
        case c2 => intro u hu; simp at hu; rcases hu with rfl | rfl <;> rfl
        case c3 => unfold maxLen; omega
        case c4 => omega
        case c5 => simp; omega
        · intro v' w4 hown hgrow _
          have hN4 := Lib.hid (far_row R1 N1 (by decide) ((Below.refl _ _).alloc (Nat.le_refl _) _) hgrow)
          have hB4 := Lib.hid ((BW.out.alloc hz1 _).grown hgrow (by simp; omega) (fun k hk => (R1.lt k hk).1))
          have HOW := Lib.hid hown
          clear hown hgrow N1 R1
          go_wp2_with fail
          exact ⟨⟨k + 1, by omega, by go_num, Lib.hid (by rw [Q1.out]; exact hN4.out), Lib.hid (by rw [Q2.out, recCells_snoc, List.length_append]; exact HOW.out), hB4⟩, by simp [intOf]; omega⟩
    · have hk9 : k = l.length := by omega
      subst hk9
      rw [List.take_length] at HN HST
      have hP : BmAt wr q time frm (.slice av l.length cv) body x := by
        have := HH.out
        unfold BmAt at this ⊢
        rw [HB.out.block q hqs]; exact this
      have m2 : ∃ u, wr.cell? ⟨q, 2, none⟩ = some u := ⟨_, by rw [Lib.cell_of_heap hP]; rfl⟩
      obtain ⟨u2, m2⟩ := m2
      have f2 := Lib.frozen_of_heap hP 2
      have HPP := Lib.hid hP
      obtain ⟨gs, cs, e6⟩ : ∃ a c, u6 = .slice a (staysOf l ps).length c := by
        rcases HST.out.2 with ⟨e, h0⟩ | ⟨g, cap, cur, e, _⟩
        · exact ⟨_, _, by rw [h0]; exact e⟩
        · exact ⟨_, _, e⟩
      subst e6
      clear hP
      go_wp2_with fail
      go_ret
      have hq' := heap_setCell_same wr q 2 _ _ (.slice gs (staysOf l ps).length cs) HPP.out
      have hS : Same q wr (wr.setCell ⟨q, 2, none⟩ (.slice gs (staysOf l ps).length cs)) := (Same.refl _ _).setCell _
      refine ⟨u5, .slice gs (staysOf l ps).length cs, rfl, ?_, hq', ?_, ?_⟩
      · rw [HSS.out]; exact ownsRow_same HN.out hS hqs
      · rw [HSS.out]; exact ownsRow_same HST.out hS hqs
      · exact ⟨by rw [hS.1]; exact HB.out.size, fun k hk hne => (hS.2 k hne).trans (HB.out.block k (by rw [← HSS.out]; exact hk)), (Still.of_below HB.out).trans hS.3⟩
end Go.Proofs.YtgjjjdccbpjnfaaGreatDoor
