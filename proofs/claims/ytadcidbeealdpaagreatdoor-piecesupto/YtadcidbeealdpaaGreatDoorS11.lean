import Derived.Test.YtadcidbeealdpaaGreatDoorS09
import Derived.Test.YtadcidbeealdpaaGreatDoorS10
import Derived.Test.YtadcidbeealdpaaGreatDoorS07
import Derived.BigRegion

/- The program reads who leaves a mail. -/
namespace Go.Proofs.YtadcidbeealdpaaGreatDoor
open Go.RowKit

def LvAt (w : World) (q : Nat) (I : Nat) (v : Value) : Prop := w.heap[q]? = some (.cells #[.int .i64 I, v] 140 (0, 0))
theorem LvAt.cell {w : World} {q I : Nat} {v : Value} (h : LvAt w q I v) (j : Nat) : w.cell? ⟨q, j, none⟩ = (#[.int .i64 I, v] : Array Value)[j]? ∧ w.frozen? ⟨q, j, none⟩ = false :=
  ⟨Lib.cell_of_heap h j, Lib.frozen_of_heap h j⟩
def leavingO (o : Option (List UInt8)) : Option (Nat × List Nat) := o.bind leavingS
/-- what leaving answers -/
def LeavingPost (b : Nat) (o : Option (List UInt8)) (w : World) (e : Ending) (w' : World) : Prop :=
  (leavingO o = none ∧ e = .returned (.tuple #[.agg #[.int .i64 0, .slice none 0 0], .bool false]) ∨ ∃ id ps v, leavingO o = some (id, ps) ∧ e = .returned (.tuple #[.agg #[.int .i64 (id : Nat), v], .bool true]) ∧ w'.ownsRow w.heap.size 3 1 v ps.length (natCells ps) ∧ id ≤ 4294967295 ∧ 1 ≤ ps.length ∧ ps.length ≤ 255 ∧ ∀ x ∈ ps, x ≤ 255) ∧ But b w w'
theorem leaving_steps (o : Option (List UInt8)) {o1 o2 o3 : Option (List UInt8)} {I N : Nat} {Ps : List Nat} (h1 : numO 4 o = (I, o1)) (h2 : numO 1 o1 = (N, o2)) (h3 : numsO N o2 = (Ps, o3)) : leavingO o = if o3 = some [] ∧ 1 ≤ Ps.length ∧ risingB Ps = true then some (I, Ps) else none := by
  cases o with
  | none =>
    rw [numO_none] at h1
    injection h1 with _ h1
    subst h1
    rw [numO_none] at h2
    injection h2 with _ h2
    subst h2
    have := numsO_none N
    rw [h3] at this
    simp only at this
    rw [if_neg (by rw [this]; rintro ⟨h, _⟩; cases h)]
    rfl
  | some r =>
    show leavingS r = _
    unfold leavingS
    rw [list_steps r h1 h2 h3]
    by_cases h : o3 = some []
    · rw [if_pos h, sb]
      by_cases hp : 1 ≤ Ps.length ∧ risingB Ps = true
      · rw [if_pos (by simp only [Bool.and_eq_true, decide_eq_true_eq]; exact hp), if_pos ⟨h, hp⟩]
      · rw [if_neg (by simp only [Bool.and_eq_true, decide_eq_true_eq]; exact hp), if_neg (fun k => hp k.2)]
    · rw [if_neg h, if_neg (fun k => h k.1)]; rfl

theorem But.drewN {b : Nat} {w w' : World} (h : But b w w') (n : Nat) : But b w (w'.drewN n) :=
  ⟨by simpa using h.size, fun k hk hne => by simpa using h.block k hk hne, h.still.trans (still_drewN n w')⟩
theorem But.setNew {b p : Nat} {w w' : World} (h : But b w w') (hp : w.heap.size ≤ p) {j : Nat} (v : Value) : But b w (w'.setCell ⟨p, j, none⟩ v) :=
  ⟨by simpa using h.size, fun k hk hne => (heap_setCell_other w' ⟨p, j, none⟩ k v (by show k ≠ p; omega)).trans (h.block k hk hne), h.still.trans ⟨rfl, rfl, rfl⟩⟩
structure LS (w wk : World) (s b : Nat) (o : Option (List UInt8)) (I : Nat) (v : Value) : Prop where
  fd : FdIn wk b o
  res : LvAt wk s 0 (.slice none 0 0)
  lv : LvAt wk (s + 1) I v
  but : But b w wk
  size : s + 2 ≤ wk.heap.size
theorem LS.fdStep {w wk wk' : World} {s b I : Nat} {o o' : Option (List UInt8)} {v : Value} (h : LS w wk s b o I v) (hb : b < s) (hs : Same b wk wk') (hf : FdIn wk' b o') : LS w wk' s b o' I v :=
  ⟨hf, (hs.2 s (by omega)).trans h.res, (hs.2 (s + 1) (by omega)).trans h.lv, h.but.trans ⟨by rw [hs.1]; exact Nat.le_refl _, fun k _ hk => hs.2 k hk, hs.3⟩, by rw [hs.1]; exact h.size⟩
theorem LS.keep {w wk wk' : World} {s b I : Nat} {o : Option (List UInt8)} {v : Value} (h : LS w wk s b o I v) (hb : b < s) (hk : Below wk.heap.size wk wk') : LS w wk' s b o I v := by
  have hz := h.size
  exact ⟨h.fd.blk (hk.block b (by omega)), (hk.block s (by omega)).trans h.res, (hk.block (s + 1) (by omega)).trans h.lv, h.but.trans ⟨hk.size, fun k hlt _ => hk.block k hlt, Still.of_below hk⟩, Nat.le_trans h.size hk.size⟩
theorem LS.set {w wk : World} {s b I I' j : Nat} {o : Option (List UInt8)} {v v' u : Value} (h : LS w wk s b o I v) (hw : w.heap.size ≤ s + 1) (hb : b < s) (e : (#[.int .i64 I, v] : Array Value).setIfInBounds j u = #[.int .i64 I', v']) : LS w (wk.setCell ⟨s + 1, j, none⟩ u) s b o I' v' := by
  have hs : Same (s + 1) wk (wk.setCell ⟨s + 1, j, none⟩ u) := (Same.refl _ _).setCell _
  refine ⟨h.fd.same hs (by omega), (hs.2 s (by omega)).trans h.res, ?_, ⟨by rw [hs.1]; exact h.but.size, fun k hk hne => (hs.2 k (by omega)).trans (h.but.block k hk hne), h.but.still.trans hs.3⟩, by rw [hs.1]; exact h.size⟩
  have := heap_setCell_same wk (s + 1) j _ _ u h.lv
  unfold LvAt
  rw [this, e]
theorem LS.ofGrown {w wk wa wg : World} {s b I n : Nat} {o : Option (List UInt8)} {v : Value} {xs : List Value} (h : LS w wk s b o I v) (hw : w.heap.size ≤ s) (hb : b < s) (hO : wk.ownsRow (s + 2) 3 1 v n xs) (hB : Below wk.heap.size wk wa) (hg : wa.grownBy wg v.ownBlock) : LS w wg s b o I v := by
  have hz := h.size
  have hrow : ∀ j, v.ownBlock = some j → s + 2 ≤ j := fun j hj => (hO.lt j hj).1
  have old : ∀ k, k < s + 2 → wg.heap[k]? = wk.heap[k]? := fun k hk => by
    rw [hg.block k (by have := hB.size; omega) (fun e => by have := hrow k e.symm; omega), hB.block k (by omega)]
  exact ⟨h.fd.blk (old _ (by omega)), (old s (by omega)).trans h.res, (old (s + 1) (by omega)).trans h.lv, ⟨by have := hB.size; have := hg.size; have := h.but.size; omega, fun k hk hne => (old k (by omega)).trans (h.but.block k hk hne), h.but.still.trans ((Still.of_below hB).trans ⟨hg.os, hg.tape, hg.output⟩)⟩, by have := hB.size; have := hg.size; omega⟩

set_option maxHeartbeats 2000000 in
set_option maxRecDepth 100000 in
theorem leaving_any (b : Nat) (o : Option (List UInt8)) (w : World) (h : FdIn w b o) (hb : b < w.heap.size) :
    Calls Tryz.prog 100 #[.pointer (some ⟨b, 0, none⟩)] w (LeavingPost b o w) := by
  obtain ⟨s, hs⟩ : ∃ s, w.heap.size = s := ⟨_, rfl⟩
  rw [hs] at hb
  have HH := Lib.hid h
  have HSS := Lib.hid hs
  clear h
  go_enter Tryz.func100, Tryz.ntmps100
  go_wp2_with fail
  obtain ⟨W0, hW0⟩ : ∃ W0 : World, (w.alloc (.cells #[.int .i64 0, .slice none 0 0] 140)).alloc (.cells #[.int .i64 0, .slice none 0 0] 140) = W0 := ⟨_, rfl⟩
  have S0 : LS w W0 s b o 0 (.slice none 0 0) := by
    have hbl : Below w.heap.size w W0 := by rw [← hW0]; exact ((Below.refl _ _).alloc (Nat.le_refl _) _).alloc (by simp) _
    refine ⟨HH.out.blk (hbl.block b (by omega)), ?_, ?_, ⟨hbl.size, fun k hk _ => hbl.block k hk, Still.of_below hbl⟩, by rw [← hW0]; simp; omega⟩
    · unfold LvAt
      rw [← hW0, ← hs, ((Below.refl (w.alloc (.cells #[.int .i64 0, .slice none 0 0] 140)).heap.size _).alloc (Nat.le_refl _) _).block w.heap.size (by simp)]
      exact heap_alloc_new w _
    · unfold LvAt
      rw [← hW0, ← hs]
      have := heap_alloc_new (w.alloc (.cells #[.int .i64 0, .slice none 0 0] 140)) (.cells #[.int .i64 0, .slice none 0 0] 140)
      simpa using this
  have HS0 := Lib.hid S0
  rw [hW0]
  obtain ⟨I, o1, hI⟩ : ∃ I o1, numO 4 o = (I, o1) := ⟨_, _, rfl⟩
  have hI4 : I ≤ 4294967295 := by have := numO_lt 4 o; rw [hI] at this; simp at this; omega
  have hc : Calls Tryz.prog 56 #[.pointer (some ⟨b, 0, none⟩), .int .i64 4] W0 fun e w' => e = .returned (.int .i64 (numO 4 o).1) ∧ FdIn w' b (numO 4 o).2 ∧ Same b W0 w' := fdNumber_any b 4 o W0 HS0.out.fd (by decide)
  rw [hI] at hc
  have HI := Lib.hid hI
  clear hI S0 hW0
  refine hc.mono ?_
  rintro e w3 ⟨rfl, h1, h2⟩
  have S3 := HS0.out.fdStep hb h2 h1
  obtain ⟨c0, f0⟩ := S3.lv.cell 0
  have S3' : LS w (w3.setCell ⟨s + 1, 0, none⟩ (.int .i64 I)) s b o1 I (.slice none 0 0) := S3.set (by omega) hb rfl
  obtain ⟨W3, hW3⟩ : ∃ W3 : World, w3.setCell ⟨s + 1, 0, none⟩ (.int .i64 I) = W3 := ⟨_, rfl⟩
  rw [hW3] at S3'
  have HS3 := Lib.hid S3'
  have HW3 := Lib.hid hW3
  clear h1 h2 S3 S3' hW3 hc HS0 HH
  obtain ⟨N, o2, hN⟩ : ∃ N o2, numO 1 o1 = (N, o2) := ⟨_, _, rfl⟩
  have hN4 : N ≤ 255 := by have := numO_lt 1 o1; rw [hN] at this; simp at this; omega
  have hc : Calls Tryz.prog 56 #[.pointer (some ⟨b, 0, none⟩), .int .i64 1] W3 fun e w' => e = .returned (.int .i64 (numO 1 o1).1) ∧ FdIn w' b (numO 1 o1).2 ∧ Same b W3 w' := fdNumber_any b 1 o1 W3 HS3.out.fd (by decide)
  rw [hN] at hc
  have HC := Lib.hid hc
  have HN := Lib.hid hN
  clear hc hN
  go_wp2_with fail
  rw [HW3.out]
  refine HC.out.mono ?_
  rintro e w7 ⟨rfl, h1, h2⟩
  have HS7 := Lib.hid (HS3.out.fdStep hb h2 h1)
  clear h1 h2 HC HS3 HW3 c0 f0
  go_wp2_with fail
  obtain ⟨ii, hii, hzi0, hzi1, hzi2⟩ := info_parts info_int'
  go_loopw [10] (fun i w' => ∃ (k : Nat) (v : Value) (Ps : List Nat) (p : Option (List UInt8)), k ≤ N ∧ i = .int .i64 k ∧ Hid (numsO k o2 = (Ps, p)) ∧ Hid (LS w w' s b p I v) ∧ Hid (w'.ownsRow (s + 2) 3 1 v k (natCells Ps))) (fun i _ => N - (intOf i).toNat)
  case atStart => exact ⟨0, _, [], o2, Nat.zero_le _, rfl, Lib.hid rfl, HS7, Lib.hid (World.ownsRow_nil _ _ _ _)⟩
  case round =>
    clear HS7
    obtain ⟨k, v, Ps, p, hk, rfl, HTS, HS, HO⟩ := hrel
    have hPl : Ps.length = k := by have := numsO_len k o2; rw [HTS.out] at this; exact this
    have HPL := Lib.hid hPl
    obtain ⟨av, cv, rfl⟩ : ∃ a c, v = .slice a k c := by
      rcases HO.out.2 with ⟨e, h0⟩ | ⟨g, cap, cur, e, _⟩
      · exact ⟨_, _, by rw [h0]; exact e⟩
      · exact ⟨_, _, e⟩
    clear hPl
    by_cases hlt : k < N
    · have hlti : (k : Int) < (N : Int) := by omega
      obtain ⟨x, p', hx⟩ : ∃ x p', numO 1 p = (x, p') := ⟨_, _, rfl⟩
      have HNX : Hid (numsO (k + 1) o2 = (Ps ++ [x], p')) := Lib.hid (by rw [numsO, HTS.out]; simp only [hx])
      have HTX : Hid (∀ w', FdIn w' b p → Calls Tryz.prog 56 #[.pointer (some ⟨b, 0, none⟩), .int .i64 1] w' fun e w'' => e = .returned (.int .i64 (x : Int)) ∧ FdIn w'' b p' ∧ Same b w' w'') := Lib.hid (fun w' h' => by
        have hc : Calls Tryz.prog 56 #[.pointer (some ⟨b, 0, none⟩), .int .i64 1] w' fun e w'' => e = .returned (.int .i64 (numO 1 p).1) ∧ FdIn w'' b (numO 1 p).2 ∧ Same b w' w'' := fdNumber_any b 1 p w' h' (by decide)
        rw [hx] at hc
        exact hc)
      have Sd : Hid (LS w wr.drew s b p I (.slice av k cv)) := Lib.hid (HS.out.keep hb ((Below.refl _ _).drew))
      have Od : Hid (wr.drew.ownsRow (s + 2) 3 1 (.slice av k cv) k (natCells Ps)) := Lib.hid HO.out.drew
      have c3 : wr.drew.cell? ⟨s + 1, 1, none⟩ = some (.slice av k cv) := (Sd.out.lv.cell 1).1
      clear hx
      go_wp2_with fail
      go_region_law (first
        | (refine step_append_lies _ (by rfl) _ _ _ (by rfl) (s + 2) 3 ii _ 1 8 Tryz.underlying22 hii hzi0 hzi1 hzi2 rfl (by decide) (.slice av k cv) k (natCells Ps) (by rfl) (O9.out.alloc _) ⟨w9.heap.size, 0, none⟩ 1 1 [.int .i64 (x : Int)] (by rfl) (by rfl) (World.news_of_block (cs := #[.int .i64 (x : Int)]) (t := 3) (fr := (0, 0)) (heap_alloc_new w9 _)) (by simp [Value.oneCell']) (by decide) (by unfold maxLen; omega) (by omega) (by simp; omega) (w9.heap.size + 1) (by simp) ?_; intro ga capa w11 hown hgrow hat hlt11; have S11 := Lib.hid (S9.out.ofGrown (by rw [HSS.out]; exact Nat.le_refl _) hb O9.out ((Below.refl _ _).alloc (Nat.le_refl _) _) hgrow); have m11 : w11.cell? ⟨s + 1, 1, none⟩ = some (.slice av k cv) := (S11.out.lv.cell 1).1; have f11 := (S11.out.lv.cell 1).2; have HOW := Lib.hid hown; clear hown hgrow hat)
        | (go_simp; go_at_call 56; refine (HTX.out _ Sd.out.fd).mono ?_; rintro e w9 ⟨rfl, h1, h2⟩; have S9 := Lib.hid (Sd.out.fdStep hb h2 h1); have O9 := Lib.hid (ownsRow_same Od.out h2 (by omega)); have c9 : w9.cell? ⟨s + 1, 1, none⟩ = some (.slice av k cv) := (S9.out.lv.cell 1).1; have z9 := S9.out.size; have c9' : ∀ o : Obj, (w9.alloc o).cell? ⟨s + 1, 1, none⟩ = some (.slice av k cv) := (fun o => (((Below.refl w9.heap.size w9).alloc (Nat.le_refl _) o).cell (block_lt c9)).trans c9); clear h1 h2; dsimp only))
      all_goals
        have S12 := Lib.hid (S11.out.set (j := 1) (u := .slice (some ⟨ga, 0, none⟩) (k + 1) capa) (I' := I) (v' := .slice (some ⟨ga, 0, none⟩) (k + 1) capa) (by rw [HSS.out]; omega) hb rfl)
        have O12 := Lib.hid (ownsRow_same HOW.out (show Same (s + 1) w11 (w11.setCell ⟨s + 1, 1, none⟩ (.slice (some ⟨ga, 0, none⟩) (k + 1) capa)) from (Same.refl _ _).setCell _) (by omega))
        clear m11 f11 HOW S11
        go_wp2_with fail
        exact ⟨⟨k + 1, _, Ps ++ [x], p', by omega, by go_num, HNX, S12, Lib.hid (by rw [natCells_snoc]; exact O12.out)⟩, by simp [intOf]; omega⟩
    · have hkN : k = N := by omega
      subst hkN
      have HLS : Hid (leavingO o = if p = some [] ∧ 1 ≤ Ps.length ∧ risingB Ps = true then some (I, Ps) else none) := Lib.hid (leaving_steps o HI.out HN.out HTS.out)
      have hPt : ∀ x ∈ Ps, x < 256 := by have := numsO_lt k o2; rw [HTS.out] at this; exact this
      have HPT := Lib.hid hPt
      have HDN := Lib.hid (fdDone_any b p wr HS.out.fd)
      have d0 : wr.cell? ⟨s + 1, 0, none⟩ = some (.int .i64 I) := (HS.out.lv.cell 0).1
      have d1 : wr.cell? ⟨s + 1, 1, none⟩ = some (.slice av k cv) := (HS.out.lv.cell 1).1
      have r0 : wr.cell? ⟨s, 0, none⟩ = some (.int .i64 0) := (HS.out.res.cell 0).1
      have g0 := (HS.out.res.cell 0).2
      have r1 : wr.cell? ⟨s, 1, none⟩ = some (.slice none 0 0) := (HS.out.res.cell 1).1
      have g1 := (HS.out.res.cell 1).2
      have HB := Lib.hid HS.out.but
      have HX := Lib.hid HS.out.lv
      clear hPt
      go_wp2_with fail
      refine HDN.out.mono ?_
      rintro e w10 ⟨rfl, rfl⟩
      cases hq : decide (p = some []) with
      | false =>
        have HRN : Hid (leavingO o = none) := Lib.hid (by rw [HLS.out, if_neg (by rintro ⟨h, _⟩; simp [h] at hq)])
        clear HLS hq HDN
        go_wp2_with fail
        refine bodyPost_ret (v := .tuple #[.agg #[.int .i64 0, .slice none 0 0], .bool false]) (by simp [results, Tryz.results100, go_sem, *]) rfl ?_
        exact ⟨.inl ⟨HRN.out, rfl⟩, (HB.out.setNew (by rw [HSS.out]; exact Nat.le_refl _) _).setNew (by rw [HSS.out]; exact Nat.le_refl _) _⟩
      | true =>
        by_cases hk0 : k = 0
        · have HRN : Hid (leavingO o = none) := Lib.hid (by rw [HLS.out, if_neg (by rintro ⟨_, h, _⟩; have := HPL.out; omega)])
          have hd0 : ((k : Int) == 0) = true := by rw [hk0]; rfl
          clear HLS hq HDN
          go_wp2_with fail
          refine bodyPost_ret (v := .tuple #[.agg #[.int .i64 0, .slice none 0 0], .bool false]) (by simp [results, Tryz.results100, go_sem, *]) rfl ?_
          exact ⟨.inl ⟨HRN.out, rfl⟩, (HB.out.setNew (by rw [HSS.out]; exact Nat.le_refl _) _).setNew (by rw [HSS.out]; exact Nat.le_refl _) _⟩
        · have hd0 : ((k : Int) == 0) = false := by rw [beq_eq_false_iff_ne]; omega
          have hrow : RowAt wr (.slice av k cv) Ps.length 1 (natCells Ps) := by rw [HPL.out]; exact row_of_own HO.out
          have HIR := Lib.hid (isRising_any (.slice av k cv) Ps wr hrow (by have := HPL.out; omega))
          have hk0' : ¬ k = 0 := hk0
          cases hR : risingB Ps with
          | false =>
            have HRN : Hid (leavingO o = none) := Lib.hid (by rw [HLS.out, if_neg (by rintro ⟨_, _, h⟩; rw [hR] at h; cases h)])
            rw [hR] at HIR
            clear HLS hq HDN hR hrow
            go_wp2_with fail
            refine HIR.out.mono ?_
            rintro e w11 ⟨rfl, n, rfl⟩
            go_wp2_with fail
            refine bodyPost_ret (v := .tuple #[.agg #[.int .i64 0, .slice none 0 0], .bool false]) (by simp [results, Tryz.results100, go_sem, *]) rfl ?_
            exact ⟨.inl ⟨HRN.out, rfl⟩, ((HB.out.drewN n).setNew (by rw [HSS.out]; exact Nat.le_refl _) _).setNew (by rw [HSS.out]; exact Nat.le_refl _) _⟩
          | true =>
            have HRN : Hid (leavingO o = some (I, Ps)) := Lib.hid (by rw [HLS.out, if_pos ⟨by simpa using hq, by have := HPL.out; omega, hR⟩])
            rw [hR] at HIR
            clear HLS hq HDN hR hrow
            go_wp2_with fail
            refine HIR.out.mono ?_
            rintro e w11 ⟨rfl, n, rfl⟩
            go_wp2_with fail
            refine bodyPost_ret (v := .tuple #[.agg #[.int .i64 I, .slice av k cv], .bool true]) (by simp [results, Tryz.results100, go_sem, *]) rfl ?_
            have hpl := HPL.out
            refine ⟨.inr ⟨I, Ps, .slice av k cv, HRN.out, rfl, ?_, hI4, by omega, by omega, fun x hx => by have := HPT.out x hx; omega⟩, ((HB.out.drewN n).setNew (by rw [HSS.out]; exact Nat.le_refl _) _).setNew (by rw [HSS.out]; exact Nat.le_refl _) _⟩
            rw [HSS.out, hpl]
            refine World.ownsRow.mono (base := s + 2) ?_ (by omega)
            have hS : ∀ (u : World) (j : Nat) (x : Value), u.ownsRow (s + 2) 3 1 (.slice av k cv) k (natCells Ps) → (u.setCell ⟨s, j, none⟩ x).ownsRow (s + 2) 3 1 (.slice av k cv) k (natCells Ps) := fun u j x h => ownsRow_same h (show Same s u _ from (Same.refl _ _).setCell _) (by omega)
            exact hS _ _ _ (hS _ _ _ (ownsRow_touch ((Touch.refl [] wr).drewN n) (by simp) HO.out))
end Go.Proofs.YtadcidbeealdpaaGreatDoor

/- The program reads who is gone, who failed. -/
namespace Go.Proofs.YtadcidbeealdpaaGreatDoor
open Go.RowKit

def LvOk (w w' : World) (id : Nat) (ps : List Nat) (v : Value) : Prop := w'.ownsRow w.heap.size 3 1 v ps.length (natCells ps) ∧ id ≤ 4294967295 ∧ 1 ≤ ps.length ∧ ps.length ≤ 255 ∧ ∀ x ∈ ps, x ≤ 255
def ReadGonePost (l : List UInt8) (w : World) (e : Ending) (w' : World) : Prop :=
  (readGoneS l = none ∧ e = .returned (.tuple #[.agg #[.int .i64 0, .slice none 0 0], .bool false]) ∨ ∃ id ps v, readGoneS l = some (id, ps) ∧ e = .returned (.tuple #[.agg #[.int .i64 (id : Nat), v], .bool true]) ∧ LvOk w w' id ps v) ∧ Below w.heap.size w w'
def ReadFailedPost (l : List UInt8) (w : World) (e : Ending) (w' : World) : Prop :=
  (readFailedS l = none ∧ e = .returned (.tuple #[.int .i64 0, .agg #[.int .i64 0, .slice none 0 0], .bool false]) ∨ ∃ T id ps v, readFailedS l = some (T, id, ps) ∧ e = .returned (.tuple #[.int .i64 (T : Nat), .agg #[.int .i64 (id : Nat), v], .bool true]) ∧ LvOk w w' id ps v ∧ T ≤ 1000000000) ∧ Below w.heap.size w w'

/-- the two blocks at the beginning -/
theorem two_boxes {w W0 : World} {s : Nat} {l : List UInt8} (hs : w.heap.size = s) (hl : l.length ≤ 1048576) (hW0 : (w.alloc (.cells #[.int .i64 0, .slice none 0 0] 140)).alloc (.cells #[.string (bs l), .bool false] 131) = W0) :
    FdIn W0 (s + 1) (some l) ∧ LvAt W0 s 0 (.slice none 0 0) ∧ Below s w W0 ∧ W0.heap.size = s + 2 := by
  refine ⟨⟨by rw [← hW0, ← hs]; have := heap_alloc_new (w.alloc (.cells #[.int .i64 0, .slice none 0 0] 140)) (.cells #[.string (bs l), .bool false] 131); simpa using this, by unfold maxLen; omega⟩, ?_, ?_, ?_⟩
  · unfold LvAt
    rw [← hW0, ← hs, ((Below.refl (w.alloc (.cells #[.int .i64 0, .slice none 0 0] 140)).heap.size _).alloc (Nat.le_refl _) _).block w.heap.size (by simp)]
    exact heap_alloc_new w _
  · rw [← hW0]; exact ((Below.refl _ _).alloc (by omega) _).alloc (by simp; omega) _
  · rw [← hW0, ← hs]; simp
theorem own_after {s k j n : Nat} {u : World} {v x : Value} {xs : List Value} (h : u.ownsRow (s + 2) 3 1 v n xs) (hk : k < s + 2) : (u.setCell ⟨k, j, none⟩ x).ownsRow (s + 2) 3 1 v n xs := ownsRow_same h (show Same k u _ from (Same.refl _ _).setCell _) hk

set_option maxHeartbeats 1000000 in
set_option maxRecDepth 100000 in
theorem readGone_any (l : List UInt8) (w : World) (hl : l.length ≤ 1048576) : Calls Tryz.prog 61 #[.string (bs l)] w (ReadGonePost l w) := by
  have sl := bs_size l
  obtain ⟨s, hs⟩ : ∃ s, w.heap.size = s := ⟨_, rfl⟩
  obtain ⟨W0, hW0⟩ : ∃ W0 : World, (w.alloc (.cells #[.int .i64 0, .slice none 0 0] 140)).alloc (.cells #[.string (bs l), .bool false] 131) = W0 := ⟨_, rfl⟩
  obtain ⟨F0, R0, B0, Z0⟩ := two_boxes hs hl hW0
  have hc := fdBytes_any (s + 1) 1 (some l) W0 F0 (by decide)
  have HW0 := Lib.hid hW0
  have HSS := Lib.hid hs
  have HR0 := Lib.hid R0
  have HB0 := Lib.hid B0
  have HZ0 := Lib.hid Z0
  clear hW0 F0 R0 B0 Z0
  by_cases h71 : l.take 1 = [71]
  · obtain ⟨r, hr⟩ : ∃ r, l.drop 1 = r := ⟨_, rfl⟩
    have HL : Hid (l = 71 :: r) := Lib.hid (by rw [← List.take_append_drop 1 l, h71, hr]; rfl)
    have e1 : (some l).bind (bytesS 1) = some ([71], r) := by show bytesS 1 l = _; rw [HL.out]; rfl
    have HRM : Hid (readGoneS l = leavingS r) := Lib.hid (by rw [HL.out]; unfold readGoneS; simp only; rw [if_pos trivial])
    rw [e1] at hc
    have m1 : ((bs (outS (some ([71], r)))).toList == [71]) = true := by show ((bs [71]).toList == [71]) = true; rw [eq_lit]; rfl
    have HC0 := Lib.hid hc
    clear hc e1 hr h71
    go_enter Tryz.func61, Tryz.ntmps61
    go_wp2_with fail
    rw [HW0.out]
    refine HC0.out.mono ?_
    rintro e w1 ⟨rfl, h1, h2⟩
    have F1 : FdIn w1 (s + 1) (some r) := h1
    have R1 : LvAt w1 s 0 (.slice none 0 0) := (h2.2 s (by omega)).trans HR0.out
    have B1 := HB0.out.trans (h2.below (by omega))
    have Z1 : w1.heap.size = s + 2 := h2.1.trans HZ0.out
    have HLV := Lib.hid (leaving_any (s + 1) (some r) w1 F1 (by omega))
    have HR1 := Lib.hid R1
    have HB1 := Lib.hid B1
    have HZ1 := Lib.hid Z1
    clear h1 h2 F1 R1 B1 Z1 HC0 HR0 HB0 HZ0 HW0
    go_wp2_with fail
    refine HLV.out.mono ?_
    rintro e w2 ⟨hcase, hbut⟩
    have R2 : LvAt w2 s 0 (.slice none 0 0) := (hbut.block s (by have := HZ1.out; omega) (by omega)).trans HR1.out
    have r0 : w2.cell? ⟨s, 0, none⟩ = some (.int .i64 0) := (R2.cell 0).1
    have g0 := (R2.cell 0).2
    have r1 : w2.cell? ⟨s, 1, none⟩ = some (.slice none 0 0) := (R2.cell 1).1
    have g1 := (R2.cell 1).2
    have HB2 : Hid (Below s w w2) := Lib.hid (HB1.out.trans (hbut.below (by omega) (by have := HZ1.out; omega)))
    clear hbut R2 HLV
    rcases hcase with ⟨hn, rfl⟩ | ⟨id, ps, v, hn, rfl, ho, h1, h2, h3, h4⟩
    · have HRN : Hid (readGoneS l = none) := Lib.hid (by rw [HRM.out]; exact hn)
      clear hn HRM
      go_wp2_with fail
      refine bodyPost_ret (v := .tuple #[.agg #[.int .i64 0, .slice none 0 0], .bool false]) (by simp [results, Tryz.results61, go_sem, *]) rfl ?_
      refine ⟨.inl ⟨HRN.out, rfl⟩, ?_⟩
      rw [HSS.out]
      exact (HB2.out.setCell (Nat.le_refl _) _).setCell (Nat.le_refl _) _
    · have HRN : Hid (readGoneS l = some (id, ps)) := Lib.hid (by rw [HRM.out]; exact hn)
      rw [HZ1.out] at ho
      have HO := Lib.hid ho
      have H4 := Lib.hid h4
      obtain ⟨a, cp, rfl⟩ : ∃ a cp, v = .slice a ps.length cp := by
        rcases ho.2 with ⟨e, h0⟩ | ⟨g, cap, cur, e, _⟩
        · exact ⟨_, _, by rw [h0]; exact e⟩
        · exact ⟨_, _, e⟩
      clear hn HRM ho h4
      go_wp2_with fail
      refine bodyPost_ret (v := .tuple #[.agg #[.int .i64 id, .slice a ps.length cp], .bool true]) (by simp [results, Tryz.results61, go_sem, *]) rfl ?_
      refine ⟨.inr ⟨id, ps, .slice a ps.length cp, HRN.out, rfl, ?_, h1, h2, h3, H4.out⟩, ?_⟩
      · rw [HSS.out]
        exact (own_after (own_after HO.out (by omega)) (by omega)).mono (by omega)
      · rw [HSS.out]
        exact (HB2.out.setCell (Nat.le_refl _) _).setCell (Nat.le_refl _) _
  · have HRM : Hid (readGoneS l = none) := Lib.hid (by
      cases l with
      | nil => rfl
      | cons c r =>
        have hc : ¬ c = 71 := fun e => h71 (by rw [e]; rfl)
        unfold readGoneS
        simp only
        rw [if_neg hc])
    have m1 : ((bs (outS ((some l).bind (bytesS 1)))).toList == [71]) = false := by
      rw [eq_lit]
      cases l with
      | nil => rfl
      | cons c r =>
        have hc : ¬ c = 71 := fun e => h71 (by rw [e]; rfl)
        show ([c] == [71]) = false
        simpa using hc
    obtain ⟨t, et⟩ : ∃ t, outS ((some l).bind (bytesS 1)) = t := ⟨_, rfl⟩
    rw [et] at m1 hc
    have HC0 := Lib.hid hc
    clear h71 et hc
    go_enter Tryz.func61, Tryz.ntmps61
    go_wp2_with fail
    rw [HW0.out]
    refine HC0.out.mono ?_
    rintro e w1 ⟨rfl, h1, h2⟩
    have R1 : LvAt w1 s 0 (.slice none 0 0) := (h2.2 s (by omega)).trans HR0.out
    have r0 : w1.cell? ⟨s, 0, none⟩ = some (.int .i64 0) := (R1.cell 0).1
    have g0 := (R1.cell 0).2
    have r1 : w1.cell? ⟨s, 1, none⟩ = some (.slice none 0 0) := (R1.cell 1).1
    have g1 := (R1.cell 1).2
    have HB1 := Lib.hid (HB0.out.trans (h2.below (by omega)))
    clear h1 h2 R1 HC0 HR0 HB0
    go_wp2_with fail
    refine bodyPost_ret (v := .tuple #[.agg #[.int .i64 0, .slice none 0 0], .bool false]) (by simp [results, Tryz.results61, go_sem, *]) rfl ?_
    refine ⟨.inl ⟨HRM.out, rfl⟩, ?_⟩
    rw [HSS.out]
    exact (HB1.out.setCell (Nat.le_refl _) _).setCell (Nat.le_refl _) _
end Go.Proofs.YtadcidbeealdpaaGreatDoor

/- The program reads who failed. -/
namespace Go.Proofs.YtadcidbeealdpaaGreatDoor
open Go.RowKit

set_option maxHeartbeats 1000000 in
set_option maxRecDepth 100000 in
theorem readFailed_any (l : List UInt8) (w : World) (hl : l.length ≤ 1048576) : Calls Tryz.prog 63 #[.string (bs l)] w (ReadFailedPost l w) := by
  have sl := bs_size l
  obtain ⟨s, hs⟩ : ∃ s, w.heap.size = s := ⟨_, rfl⟩
  obtain ⟨W0, hW0⟩ : ∃ W0 : World, (w.alloc (.cells #[.int .i64 0, .slice none 0 0] 140)).alloc (.cells #[.string (bs l), .bool false] 131) = W0 := ⟨_, rfl⟩
  obtain ⟨F0, R0, B0, Z0⟩ := two_boxes hs hl hW0
  have hc := fdBytes_any (s + 1) 1 (some l) W0 F0 (by decide)
  have HW0 := Lib.hid hW0
  have HSS := Lib.hid hs
  have HR0 := Lib.hid R0
  have HB0 := Lib.hid B0
  have HZ0 := Lib.hid Z0
  clear hW0 F0 R0 B0 Z0
  by_cases h70 : l.take 1 = [70]
  · obtain ⟨r, hr⟩ : ∃ r, l.drop 1 = r := ⟨_, rfl⟩
    have HL : Hid (l = 70 :: r) := Lib.hid (by rw [← List.take_append_drop 1 l, h70, hr]; rfl)
    have e1 : (some l).bind (bytesS 1) = some ([70], r) := by show bytesS 1 l = _; rw [HL.out]; rfl
    have HRM : Hid (readFailedS l = (numS 4 r).bind fun a => (leavingS a.2).bind fun x => if a.1 ≤ 1000000000 then some (a.1, x.1, x.2) else none) := Lib.hid (by rw [HL.out]; unfold readFailedS; simp only; rw [if_pos trivial])
    rw [e1] at hc
    have m1 : ((bs (outS (some ([70], r)))).toList == [70]) = true := by show ((bs [70]).toList == [70]) = true; rw [eq_lit]; rfl
    have HC0 := Lib.hid hc
    clear hc e1 hr h70
    go_enter Tryz.func63, Tryz.ntmps63
    go_wp2_with fail
    rw [HW0.out]
    refine HC0.out.mono ?_
    rintro e w1 ⟨rfl, h1, h2⟩
    have F1 : FdIn w1 (s + 1) (some r) := h1
    have R1 : LvAt w1 s 0 (.slice none 0 0) := (h2.2 s (by omega)).trans HR0.out
    have B1 := HB0.out.trans (h2.below (by omega))
    have Z1 : w1.heap.size = s + 2 := h2.1.trans HZ0.out
    obtain ⟨T, o1, hT⟩ : ∃ T o1, numO 4 (some r) = (T, o1) := ⟨_, _, rfl⟩
    have hT4 : T ≤ 4294967295 := by have := numO_lt 4 (some r); rw [hT] at this; simp at this; omega
    have HRT : Hid (readFailedS l = (leavingO o1).bind fun x => if T ≤ 1000000000 then some (T, x.1, x.2) else none) := Lib.hid (by
      rw [HRM.out, numS_lift, hT]
      cases o1 with
      | none => rfl
      | some q => rfl)
    have hcn : Calls Tryz.prog 56 #[.pointer (some ⟨s + 1, 0, none⟩), .int .i64 4] w1 fun e w' => e = .returned (.int .i64 (numO 4 (some r)).1) ∧ FdIn w' (s + 1) (numO 4 (some r)).2 ∧ Same (s + 1) w1 w' := fdNumber_any (s + 1) 4 (some r) w1 F1 (by decide)
    rw [hT] at hcn
    have HCN := Lib.hid hcn
    have HR1' := Lib.hid R1
    have HB1' := Lib.hid B1
    have HZ1' := Lib.hid Z1
    clear h1 h2 F1 R1 B1 Z1 HC0 HR0 HB0 HZ0 HW0 hT hcn HRM
    go_wp2_with fail
    refine HCN.out.mono ?_
    rintro e w1b ⟨rfl, h1, h2⟩
    have R1 : LvAt w1b s 0 (.slice none 0 0) := (h2.2 s (by omega)).trans HR1'.out
    have B1 := HB1'.out.trans (h2.below (by omega))
    have Z1 : w1b.heap.size = s + 2 := h2.1.trans HZ1'.out
    have HLV := Lib.hid (leaving_any (s + 1) o1 w1b h1 (by omega))
    have HR1 := Lib.hid R1
    have HB1 := Lib.hid B1
    have HZ1 := Lib.hid Z1
    clear h1 h2 R1 B1 Z1 HCN HR1' HB1' HZ1'
    go_wp2_with fail
    refine HLV.out.mono ?_
    rintro e w2 ⟨hcase, hbut⟩
    have R2 : LvAt w2 s 0 (.slice none 0 0) := (hbut.block s (by have := HZ1.out; omega) (by omega)).trans HR1.out
    have r0 : w2.cell? ⟨s, 0, none⟩ = some (.int .i64 0) := (R2.cell 0).1
    have g0 := (R2.cell 0).2
    have r1 : w2.cell? ⟨s, 1, none⟩ = some (.slice none 0 0) := (R2.cell 1).1
    have g1 := (R2.cell 1).2
    have HB2 : Hid (Below s w w2) := Lib.hid (HB1.out.trans (hbut.below (by omega) (by have := HZ1.out; omega)))
    have hs2 : s < w2.heap.size := block_lt r0
    have r0' : ∀ o : Obj, (w2.alloc o).cell? ⟨s, 0, none⟩ = some (.int .i64 0) := fun o => (((Below.refl w2.heap.size w2).alloc (Nat.le_refl _) o).cell (block_lt r0)).trans r0
    have r1' : ∀ o : Obj, (w2.alloc o).cell? ⟨s, 1, none⟩ = some (.slice none 0 0) := fun o => (((Below.refl w2.heap.size w2).alloc (Nat.le_refl _) o).cell (block_lt r1)).trans r1
    have g0' : ∀ o : Obj, (w2.alloc o).frozen? ⟨s, 0, none⟩ = false := fun o => (((Below.refl w2.heap.size w2).alloc (Nat.le_refl _) o).frozen (block_lt r0)).trans g0
    have g1' : ∀ o : Obj, (w2.alloc o).frozen? ⟨s, 1, none⟩ = false := fun o => (((Below.refl w2.heap.size w2).alloc (Nat.le_refl _) o).frozen (block_lt r1)).trans g1
    have nsw : ¬ w2.heap.size = s := by omega
    have nsw' : ¬ s = w2.heap.size := by omega
    clear hbut R2 HLV
    rcases hcase with ⟨hn, rfl⟩ | ⟨id, ps, v, hn, rfl, ho, h1, h2, h3, h4⟩
    · have HRN : Hid (readFailedS l = none) := Lib.hid (by rw [HRT.out, hn]; rfl)
      clear hn HRT
      go_wp2_with fail
      refine bodyPost_ret (v := .tuple #[.int .i64 0, .agg #[.int .i64 0, .slice none 0 0], .bool false]) (by simp [results, Tryz.results63, go_sem, *]) rfl ?_
      refine ⟨.inl ⟨HRN.out, rfl⟩, ?_⟩
      rw [HSS.out]
      exact ((HB2.out.setCell (Nat.le_refl _) _).setCell (Nat.le_refl _) _).alloc (by simp; omega) _
    · obtain ⟨a, cp, rfl⟩ : ∃ a cp, v = .slice a ps.length cp := by
        rcases ho.2 with ⟨e, h0⟩ | ⟨g, cap, cur, e, _⟩
        · exact ⟨_, _, by rw [h0]; exact e⟩
        · exact ⟨_, _, e⟩
      rw [HZ1.out] at ho
      have HO := Lib.hid ho
      have H4 := Lib.hid h4
      by_cases hTT : T ≤ 1000000000
      · have HRN : Hid (readFailedS l = some (T, id, ps)) := Lib.hid (by rw [HRT.out, hn, sb, if_pos hTT])
        have hd : decide (1000000000 < (T : Int)) = false := decide_eq_false (by omega)
        clear hn HRT ho h4
        go_wp2_with fail
        go_region
        go_wp2_with fail
        refine bodyPost_ret (v := .tuple #[.int .i64 T, .agg #[.int .i64 id, .slice a ps.length cp], .bool true]) (by simp [results, Tryz.results63, go_sem, *]) rfl ?_
        refine ⟨.inr ⟨T, id, ps, .slice a ps.length cp, HRN.out, rfl, ⟨?_, h1, h2, h3, H4.out⟩, hTT⟩, ?_⟩
        · rw [HSS.out]
          exact ((((own_after (own_after HO.out (by omega)) (by omega)).alloc _).drew)).mono (by omega)
        · rw [HSS.out]
          exact (((HB2.out.setCell (Nat.le_refl _) _).setCell (Nat.le_refl _) _).alloc (by simp; omega) _).drew
      · have HRN : Hid (readFailedS l = none) := Lib.hid (by rw [HRT.out, hn, sb, if_neg hTT])
        have hd : decide (1000000000 < (T : Int)) = true := decide_eq_true (by omega)
        clear hn HRT ho h4
        go_wp2_with fail
        refine bodyPost_ret (v := .tuple #[.int .i64 0, .agg #[.int .i64 0, .slice none 0 0], .bool false]) (by simp [results, Tryz.results63, go_sem, *]) rfl ?_
        refine ⟨.inl ⟨HRN.out, rfl⟩, ?_⟩
        rw [HSS.out]
        exact ((HB2.out.setCell (Nat.le_refl _) _).setCell (Nat.le_refl _) _).alloc (by simp; omega) _
  · have HRM : Hid (readFailedS l = none) := Lib.hid (by
      cases l with
      | nil => rfl
      | cons c r =>
        have hc : ¬ c = 70 := fun e => h70 (by rw [e]; rfl)
        unfold readFailedS
        simp only
        rw [if_neg hc])
    have m1 : ((bs (outS ((some l).bind (bytesS 1)))).toList == [70]) = false := by
      rw [eq_lit]
      cases l with
      | nil => rfl
      | cons c r =>
        have hc : ¬ c = 70 := fun e => h70 (by rw [e]; rfl)
        show ([c] == [70]) = false
        simpa using hc
    obtain ⟨t, et⟩ : ∃ t, outS ((some l).bind (bytesS 1)) = t := ⟨_, rfl⟩
    rw [et] at m1 hc
    have HC0 := Lib.hid hc
    clear h70 et hc
    go_enter Tryz.func63, Tryz.ntmps63
    go_wp2_with fail
    rw [HW0.out]
    refine HC0.out.mono ?_
    rintro e w1 ⟨rfl, h1, h2⟩
    have R1 : LvAt w1 s 0 (.slice none 0 0) := (h2.2 s (by omega)).trans HR0.out
    have r0 : w1.cell? ⟨s, 0, none⟩ = some (.int .i64 0) := (R1.cell 0).1
    have g0 := (R1.cell 0).2
    have r1 : w1.cell? ⟨s, 1, none⟩ = some (.slice none 0 0) := (R1.cell 1).1
    have g1 := (R1.cell 1).2
    have HB1 := Lib.hid (HB0.out.trans (h2.below (by omega)))
    clear h1 h2 R1 HC0 HR0 HB0
    go_wp2_with fail
    refine bodyPost_ret (v := .tuple #[.int .i64 0, .agg #[.int .i64 0, .slice none 0 0], .bool false]) (by simp [results, Tryz.results63, go_sem, *]) rfl ?_
    refine ⟨.inl ⟨HRM.out, rfl⟩, ?_⟩
    rw [HSS.out]
    exact (HB1.out.setCell (Nat.le_refl _) _).setCell (Nat.le_refl _) _
end Go.Proofs.YtadcidbeealdpaaGreatDoor

/- A mail as the bag holds it. -/
namespace Go.Proofs.YtadcidbeealdpaaGreatDoor
open Go.RowKit

/-- a mail's block in the bag -/
def BmAt (w : World) (q time : Nat) (frm : List UInt8) (v : Value) (body : List UInt8) (x : Int × Int) : Prop := w.heap[q]? = some (.cells #[.int .i64 time, .string (bs frm), v, .string (bs body), .int .i64 x.1, .int .i64 x.2] 149 (0, 0))
def recCells (l : List (Nat × List UInt8)) : List Value := l.flatMap fun x => [.int .i64 x.1, .string (bs x.2)]
theorem info_recip : (Tryz.prog.info? 152).map (fun i => (i.zero, i.size, i.bytes)) = some (some (.agg #[.int .i64 0, .string ⟨#[]⟩]), 2, 24) := by kernel_rfl

theorem stay_all (tos : List (List UInt8)) : stay tos (List.replicate tos.length false) = (List.range tos.length).map fun i => (i, tos.getD i []) := by
  unfold stay leftOf
  rw [List.length_replicate]
  congr 1
  rw [List.filter_eq_self]
  intro i hi
  have := List.mem_range.1 hi
  simp [List.getD_eq_getElem?_getD, this]
theorem recCells_snoc (l : List (Nat × List UInt8)) (x : Nat × List UInt8) : recCells (l ++ [x]) = recCells l ++ [.int .i64 x.1, .string (bs x.2)] := by simp [recCells]
theorem recCells_len (l : List (Nat × List UInt8)) : (recCells l).length = l.length * 2 := by
  induction l with
  | nil => rfl
  | cons x l ih => show ([_, _] ++ recCells l).length = _; rw [List.length_append, ih]; simp; omega
def firstK (tos : List (List UInt8)) (k : Nat) : List (Nat × List UInt8) := (List.range k).map fun i => (i, tos.getD i [])
theorem firstK_succ (tos : List (List UInt8)) (k : Nat) : firstK tos (k + 1) = firstK tos k ++ [(k, tos.getD k [])] := by simp [firstK, List.range_succ]
theorem firstK_len (tos : List (List UInt8)) (k : Nat) : (firstK tos k).length = k := by simp [firstK]
/-- two cells more are written -/
theorem two_more {D : Array Value} {k n : Nat} {xs : List Value} {x y : Value} (hD : D.size = n * 2) (hk : k < n) (hx : xs.length = k * 2) (h : D.toList.take (k * 2) = xs) : ((D.setIfInBounds (k * 2) x).setIfInBounds (k * 2 + 1) y).toList.take ((k + 1) * 2) = xs ++ [x, y] := by
  apply List.ext_getElem?
  intro j
  rw [List.getElem?_take]
  have hg : ∀ i, D.toList[i]? = D[i]? := fun i => Array.getElem?_toList
  rcases Nat.lt_or_ge j (k * 2) with hj | hj
  · rw [if_pos (by omega), List.getElem?_append_left (by omega), Array.getElem?_toList, Array.getElem?_setIfInBounds_ne (by omega), Array.getElem?_setIfInBounds_ne (by omega), ← h, List.getElem?_take, if_pos hj, hg]
  · rw [List.getElem?_append_right (by omega), hx]
    rcases Nat.lt_or_ge j (k * 2 + 2) with hj2 | hj2
    · rw [if_pos (by omega), Array.getElem?_toList]
      obtain rfl | rfl : j = k * 2 ∨ j = k * 2 + 1 := by omega
      · rw [Array.getElem?_setIfInBounds_ne (by omega), Array.getElem?_setIfInBounds]
        simp; omega
      · rw [Array.getElem?_setIfInBounds]
        rw [if_pos rfl]
        simp; omega
    · rw [if_neg (by omega), List.getElem?_eq_none (by simp; omega)]

set_option maxHeartbeats 1000000 in
set_option maxRecDepth 100000 in
theorem newMail_any (mm : PMail) (v : Value) (w : World) (h : RowAt w v mm.tos.length 1 (textCells mm.tos)) (hz : MailSz mm) :
    Calls Tryz.prog 137 #[.agg (mailCells mm v)] w fun e w' => ∃ q g, e = .returned (.pointer (some ⟨q, 0, none⟩)) ∧ BmAt w' q mm.time mm.frm (.slice (some ⟨g, 0, none⟩) mm.tos.length mm.tos.length) mm.body (mm.time, 0) ∧ w.heap.size ≤ q ∧ w'.ownsRow w.heap.size 152 2 (.slice (some ⟨g, 0, none⟩) mm.tos.length mm.tos.length) mm.tos.length (recCells (stay mm.tos (List.replicate mm.tos.length false))) ∧ Below w.heap.size w w' := by
  obtain ⟨id, time, frm, tos, body⟩ := mm
  obtain ⟨z1, z2, z3, z4, z5, z6⟩ := hz
  simp only at h z1 z2 z3 z4 z5 z6
  obtain ⟨a, cap, rfl, hc⟩ := h.one
  simp only [mailCells]
  have HC := Lib.hid hc
  have hmk := fun w' => make_n (P := Tryz.prog) Tryz.underlying147 info_recip tos.length (by omega) (by omega) w'
  obtain ⟨C, eC⟩ : ∃ C, madeCells (Value.agg #[.int .i64 0, .string ⟨#[]⟩]).cells (tos.length * 2) = C := ⟨_, rfl⟩
  have hCs : C.size = tos.length * 2 := by rw [← eC]; simp [madeCells]
  rw [eC] at hmk
  obtain ⟨s, hs⟩ : ∃ s, w.heap.size = s := ⟨_, rfl⟩
  obtain ⟨W0, hW0⟩ : ∃ W0 : World, (w.alloc (.cells #[.int .i64 id, .int .i64 time, .string (bs frm), .slice a tos.length cap, .string (bs body)] 54)).alloc (.cells C 152) = W0 := ⟨_, rfl⟩
  have hb1 : Below s w (w.alloc (.cells #[.int .i64 id, .int .i64 time, .string (bs frm), .slice a tos.length cap, .string (bs body)] 54)) := (Below.refl _ _).alloc (by omega) _
  have B0 : Hid (Below s w W0) := Lib.hid (by rw [← hW0]; exact hb1.alloc (by simp; omega) _)
  have X0 : Hid (MailAt W0 s id time frm (.slice a tos.length cap) body) := Lib.hid (by
    unfold MailAt
    rw [← hW0, ← hs, ((Below.refl (w.alloc (.cells #[.int .i64 id, .int .i64 time, .string (bs frm), .slice a tos.length cap, .string (bs body)] 54)).heap.size _).alloc (Nat.le_refl _) _).block w.heap.size (by simp)]
    exact heap_alloc_new w _)
  have G0 : Hid (W0.heap[s + 1]? = some (.cells C 152 (0, 0))) := Lib.hid (by
    rw [← hW0, ← hs]
    have := heap_alloc_new (w.alloc (.cells #[.int .i64 id, .int .i64 time, .string (bs frm), .slice a tos.length cap, .string (bs body)] 54)) (.cells C 152)
    simpa using this)
  have Z0 : Hid (W0.heap.size = s + 2) := Lib.hid (by rw [← hW0, ← hs]; simp)
  have HW0 := Lib.hid hW0
  have HSS := Lib.hid hs
  have HZ5 := Lib.hid z5
  clear h hc z5 hb1 hW0 eC
  go_enter Tryz.func137, Tryz.ntmps137
  go_wp2_with fail
  rw [HW0.out]
  go_loopw [13] (fun i w' => ∃ (k : Nat) (D : Array Value), k ≤ tos.length ∧ i = .int .i64 k ∧ D.size = tos.length * 2 ∧ Hid (D.toList.take (k * 2) = recCells (firstK tos k)) ∧ Hid (w'.heap[s + 1]? = some (.cells D 152 (0, 0))) ∧ Hid (Same (s + 1) W0 w')) (fun i _ => tos.length - (intOf i).toNat)
  case atStart => exact ⟨0, C, Nat.zero_le _, rfl, hCs, Lib.hid rfl, G0, Lib.hid (Same.refl _ _)⟩
  case round =>
    obtain ⟨k, D, hk, rfl, hD, HD, HG, HS⟩ := hrel
    have HB : Hid (Below s w wr) := Lib.hid (B0.out.trans (HS.out.below (by omega)))
    by_cases hlt : k < tos.length
    · have hlti : (k : Int) < (tos.length : Int) := by omega
      obtain ⟨b, off, rfl, hbw, hcell⟩ := HC.out k hlt
      rw [textCells_get tos k hlt] at hcell
      have hcr : wr.cell? ⟨b, off + k, none⟩ = some (.string (bs tos[k])) := (HB.out.cell (by show b < s; rw [← HSS.out]; exact hbw)).trans hcell
      have HFS : Hid (firstK tos (k + 1) = firstK tos k ++ [(k, tos[k])]) := Lib.hid (by rw [firstK_succ, List.getD_eq_getElem?_getD, List.getElem?_eq_getElem hlt]; rfl)
      obtain ⟨t, et⟩ : ∃ t, tos[k] = t := ⟨_, rfl⟩
      rw [et] at hcr HFS
      have x0 : ∃ u, wr.cell? ⟨s + 1, k * 2, none⟩ = some u := by rw [Lib.cell_of_heap HG.out]; exact ⟨_, Array.getElem?_eq_getElem (by omega)⟩
      have x1 : ∃ u, wr.cell? ⟨s + 1, k * 2 + 1, none⟩ = some u := by rw [Lib.cell_of_heap HG.out]; exact ⟨_, Array.getElem?_eq_getElem (by omega)⟩
      obtain ⟨u0, x0⟩ := x0
      obtain ⟨u1, x1⟩ := x1
      have y0 := Lib.frozen_of_heap HG.out (k * 2)
      have y1 := Lib.frozen_of_heap HG.out (k * 2 + 1)
      have HN := Lib.hid (two_more (x := .int .i64 k) (y := .string (bs t)) hD hlt (by rw [recCells_len, firstK_len]) HD.out)
      clear et hcell
      go_wp2_with fail
      have h1 := heap_setCell_same wr (s + 1) (k * 2) _ _ (.int .i64 k) HG.out
      have h2 := heap_setCell_same _ (s + 1) (k * 2 + 1) _ _ (.string (bs t)) h1
      exact ⟨⟨k + 1, _, by omega, by go_num, by simp [hD], Lib.hid (by rw [HN.out, HFS.out, recCells_snoc]), Lib.hid h2, Lib.hid ((HS.out.setCell _).setCell _)⟩, by simp [intOf]; omega⟩
    · have hk9 : k = tos.length := by omega
      subst hk9
      have HX : Hid (MailAt wr s id time frm (.slice a tos.length cap) body) := Lib.hid (X0.out.same HS.out (by omega))
      have k1 : wr.cell? ⟨s, 1, none⟩ = some (.int .i64 time) := (HX.out.cell 1).1
      have k2 : wr.cell? ⟨s, 2, none⟩ = some (.string (bs frm)) := (HX.out.cell 2).1
      have k4 : wr.cell? ⟨s, 4, none⟩ = some (.string (bs body)) := (HX.out.cell 4).1
      have z9 : wr.heap.size = s + 2 := HS.out.1.trans Z0.out
      have HZ9 := Lib.hid z9
      go_wp2_with fail
      go_ret
      refine ⟨s + 2, s + 1, ?_, ?_, by rw [HSS.out]; omega, ?_, ?_⟩
      · rfl
      · unfold BmAt
        rw [← HZ9.out]
        exact heap_alloc_new wr _
      · rw [HSS.out]
        refine World.ownsRow.alloc ?_ _
        refine ⟨by rw [recCells_len, stay_all]; simp, .inr ⟨s + 1, tos.length, D, rfl, by omega, HG.out, Nat.le_refl _, by unfold maxLen; omega, hD, ?_⟩⟩
        rw [HD.out, stay_all]
        rfl
      · rw [HSS.out]
        exact HB.out.alloc (by rw [HZ9.out]; omega) _
end Go.Proofs.YtadcidbeealdpaaGreatDoor
