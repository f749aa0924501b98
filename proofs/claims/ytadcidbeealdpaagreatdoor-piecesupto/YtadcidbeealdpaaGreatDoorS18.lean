import Derived.Test.YtadcidbeealdpaaGreatDoorS15
import Derived.Test.YtadcidbeealdpaaGreatDoorS02

/- A mail is told. -/
namespace Go.Proofs.YtadcidbeealdpaaGreatDoor
open Go.RowKit

set_option maxHeartbeats 400000 in
theorem cloneL_any (l : List UInt8) (w : World) (hl : l.length ≤ 281474976710656) : Calls Tryz.prog 30 #[.string (bs l)] w fun e w' => e = .returned (.string (bs l)) ∧ Below w.heap.size w w' := by
  have hc := Tryz.stringslite_Clone (bs l) w (by rw [bs_size]; exact hl)
  go_enter Tryz.func30, Tryz.ntmps30
  go_wp2_with fail
  refine hc.mono ?_
  rintro e w' ⟨rfl, hb⟩
  go_wp2_with fail
  go_ret
  exact ⟨rfl, hb⟩

def namesL (l : List (Nat × List UInt8)) : List (List UInt8) := l.map (·.2)
theorem one_more {D : Array Value} {k n : Nat} {xs : List Value} {x : Value} (hD : D.size = n) (hk : k < n) (hx : xs.length = k) (h : D.toList.take k = xs) : (D.setIfInBounds k x).toList.take (k + 1) = xs ++ [x] := by
  apply List.ext_getElem?
  intro j
  rw [List.getElem?_take]
  rcases Nat.lt_or_ge j k with hj | hj
  · rw [if_pos (by omega), List.getElem?_append_left (by omega), Array.getElem?_toList, Array.getElem?_setIfInBounds_ne (by omega), ← h, List.getElem?_take, if_pos hj, Array.getElem?_toList]
  · rw [List.getElem?_append_right (by omega), hx]
    rcases Nat.lt_or_ge j (k + 1) with hj2 | hj2
    · obtain rfl : j = k := by omega
      rw [if_pos (by omega), Array.getElem?_toList, Array.getElem?_setIfInBounds]
      simp; omega
    · rw [if_neg (by omega), List.getElem?_eq_none (by simp; omega)]
/-- what lies there while a mail is told -/
structure TS (w : World) (W : World) (s n : Nat) (D : Array Value) (xs : List Value) (k : Nat) : Prop where
  size : D.size = n
  take : D.toList.take k = xs
  row : W.heap[s + 1]? = some (.cells D 9 (0, 0))
  mail : W.heap[s]? = some (.cells #[.int .i64 0, .int .i64 0, .string ⟨#[]⟩, .slice none 0 0, .string ⟨#[]⟩] 54 (0, 0))
  below : Below s w W
  big : s + 2 ≤ W.heap.size
theorem TS.keep {w W W' : World} {s n k : Nat} {D : Array Value} {xs : List Value} (h : TS w W s n D xs k) (hb : Below W.heap.size W W') : TS w W' s n D xs k :=
  ⟨h.size, h.take, below_some hb h.row, below_some hb h.mail, h.below.trans (hb.mono (by have := h.big; omega)), Nat.le_trans h.big hb.size⟩
theorem TS.put {w W : World} {s n k : Nat} {D : Array Value} {xs : List Value} (h : TS w W s n D xs k) (hk : k < n) (hx : xs.length = k) (x : Value) : TS w (W.setCell ⟨s + 1, k, none⟩ x) s n (D.setIfInBounds k x) (xs ++ [x]) (k + 1) := by
  have S1 : Same (s + 1) W (W.setCell ⟨s + 1, k, none⟩ x) := (Same.refl _ _).setCell _
  exact ⟨by simp [h.size], one_more h.size hk hx h.take, heap_setCell_same W (s + 1) k _ _ x h.row, same_some S1 h.mail (by omega), h.below.trans (S1.below (by omega)), by rw [S1.1]; exact h.big⟩

theorem told_end {w W W2 : World} {l : List (Nat × List UInt8)} {id time : Nat} {frm body : List UInt8} {D : Array Value} (h : TS w W w.heap.size l.length D (textCells (namesL l)) l.length)
    (h2 : (((((W.setCell ⟨w.heap.size, 0, none⟩ (.int .i64 id)).setCell ⟨w.heap.size, 1, none⟩ (.int .i64 time)).setCell ⟨w.heap.size, 2, none⟩ (.string (bs frm))).setCell ⟨w.heap.size, 3, none⟩ (.slice (some ⟨w.heap.size + 1, 0, none⟩) l.length l.length)).setCell ⟨w.heap.size, 4, none⟩ (.string (bs body))) = W2) (hl : l.length ≤ 255) :
    W2.heap[w.heap.size]? = some (.cells #[.int .i64 id, .int .i64 time, .string (bs frm), .slice (some ⟨w.heap.size + 1, 0, none⟩) l.length l.length, .string (bs body)] 54 (0, 0)) ∧ W2.ownsRow w.heap.size 9 1 (.slice (some ⟨w.heap.size + 1, 0, none⟩) l.length l.length) l.length (textCells (namesL l)) ∧ Below w.heap.size w W2 := by
  have S1 : Same w.heap.size W W2 := by rw [← h2]; exact (((((Same.refl _ _).setCell _).setCell _).setCell _).setCell _).setCell _
  refine ⟨?_, ⟨by simp [textCells, namesL], .inr ⟨w.heap.size + 1, l.length, D, rfl, by omega, same_some S1 h.row (by omega), Nat.le_refl _, by unfold maxLen; omega, by rw [h.size]; omega, ?_⟩⟩, h.below.trans (S1.below (Nat.le_refl _))⟩
  · rw [← h2]
    exact heap_setCell_same _ _ 4 _ _ _ (heap_setCell_same _ _ 3 _ _ _ (heap_setCell_same _ _ 2 _ _ _ (heap_setCell_same _ _ 1 _ _ _ (heap_setCell_same _ _ 0 _ _ _ h.mail))))
  · rw [Nat.mul_one, h.take]

set_option maxHeartbeats 4000000 in
set_option maxRecDepth 100000 in
theorem told_any (base q id time : Nat) (frm body : List UInt8) (v : Value) (l : List (Nat × List UInt8)) (x : Int × Int) (w : World) (h : BmAt w q time frm v body x) (hv : w.ownsRow base 152 2 v l.length (recCells l)) (hl : l.length ≤ 255) (hf : frm.length ≤ 255) (hbd : body.length ≤ 1048576) (hn : ∀ x ∈ l, x.2.length ≤ 255) :
    Calls Tryz.prog 40 #[.pointer (some ⟨q, 0, none⟩), .int .i64 id] w fun e w' => ∃ g, e = .returned (.agg (mailCells ⟨id, time, frm, namesL l, body⟩ (.slice (some ⟨g, 0, none⟩) l.length l.length))) ∧ w.heap.size ≤ g ∧ w'.ownsRow w.heap.size 9 1 (.slice (some ⟨g, 0, none⟩) l.length l.length) l.length (textCells (namesL l)) ∧ Below w.heap.size w w' := by
  have HV := Lib.hid hv
  have HH := Lib.hid h
  obtain ⟨av, cv, rfl⟩ : ∃ a c, v = .slice a l.length c := by
    rcases hv.2 with ⟨e, h0⟩ | ⟨g, cap, cur, e, _⟩
    · exact ⟨_, _, by rw [h0]; exact e⟩
    · exact ⟨_, _, e⟩
  have hmk := fun w' => make_n (P := Tryz.prog) Tryz.underlying23 info_str' l.length (by omega) (by omega) w'
  obtain ⟨C, eC⟩ : ∃ C, madeCells (Value.string ⟨#[]⟩).cells (l.length * 1) = C := ⟨_, rfl⟩
  have hCs : C.size = l.length := by rw [← eC]; simp [madeCells]
  rw [eC] at hmk
  obtain ⟨W0, hW0⟩ : ∃ W0 : World, (w.alloc (.cells #[.int .i64 0, .int .i64 0, .string ⟨#[]⟩, .slice none 0 0, .string ⟨#[]⟩] 54)).alloc (.cells C 9) = W0 := ⟨_, rfl⟩
  have T0 : Hid (TS w W0 w.heap.size l.length C [] 0) := Lib.hid ⟨hCs, rfl, by
      rw [← hW0]
      have := heap_alloc_new (w.alloc (.cells #[.int .i64 0, .int .i64 0, .string ⟨#[]⟩, .slice none 0 0, .string ⟨#[]⟩] 54)) (.cells C 9)
      simpa using this, by
      rw [← hW0]
      exact below_some ((Below.refl _ _).alloc (Nat.le_refl _) _) (heap_alloc_new w _), by
      rw [← hW0]
      exact ((Below.refl _ _).alloc (Nat.le_refl _) _).alloc (by simp) _, by rw [← hW0]; simp⟩
  have hqs : q < w.heap.size := heap_lt h
  have k0 : ∀ o : Obj, (w.alloc o).cell? ⟨q, 2, none⟩ = some (.slice av l.length cv) := fun o => by
    rw [Lib.cell_of_heap (below_some ((Below.refl _ w).alloc (Nat.le_refl _) o) h)]; rfl
  have k1 : ∀ o o' : Obj, ((w.alloc o).alloc o').cell? ⟨q, 2, none⟩ = some (.slice av l.length cv) := fun o o' => by
    rw [Lib.cell_of_heap (below_some ((Below.refl _ (w.alloc o)).alloc (Nat.le_refl _) o') (below_some ((Below.refl _ w).alloc (Nat.le_refl _) o) h))]; rfl
  have HW0 := Lib.hid hW0
  clear h hv hW0
  go_enter Tryz.func40, Tryz.ntmps40
  go_wp2_with fail
  rw [HW0.out]
  have HSW : Hid (∀ x ∈ l, x.2.length ≤ 255) := Lib.hid hn
  clear k0 k1 hn hmk
  go_loopw [6, 7, 19] (fun _ _ i w' => ∃ (k : Nat) (D : Array Value), k ≤ l.length ∧ i = .int .i64 k ∧ Hid (TS w w' w.heap.size l.length D (textCells (namesL (l.take k))) k)) (fun _ _ i _ => l.length - (intOf i).toNat)
  case atStart => exact ⟨0, C, Nat.zero_le _, rfl, T0⟩
  case round =>
    clear T0 hCs eC
    obtain ⟨k, D, hk, rfl, HT⟩ := hrel
    by_cases hlt : k < l.length
    · have hlti : (k : Int) < (l.length : Int) := by omega
      obtain ⟨g, rfl, c0, c1⟩ : ∃ g, av = some ⟨g, 0, none⟩ ∧ w.cell? ⟨g, k * 2, none⟩ = some (.int .i64 (l[k].1 : Int)) ∧ w.cell? ⟨g, k * 2 + 1, none⟩ = some (.string (bs l[k].2)) := by
        rcases HV.out.2 with ⟨_, h0⟩ | ⟨g, cp, cur, e, _, hg, _, _, _, htk⟩
        · omega
        · injection e with e1 _ _
          refine ⟨g, e1, ?_, ?_⟩
          · rw [Lib.cell_of_heap hg, ← Array.getElem?_toList, ← List.getElem?_take_of_lt (show k * 2 < l.length * 2 by omega), htk]; exact (recCells_at l k hlt).1
          · rw [Lib.cell_of_heap hg, ← Array.getElem?_toList, ← List.getElem?_take_of_lt (show k * 2 + 1 < l.length * 2 by omega), htk]; exact (recCells_at l k hlt).2
      have d0 : wr.cell? ⟨g, k * 2, none⟩ = some (.int .i64 (l[k].1 : Int)) := (HT.out.below.cell (by exact block_lt c0)).trans c0
      have d1 : wr.cell? ⟨g, k * 2 + 1, none⟩ = some (.string (bs l[k].2)) := (HT.out.below.cell (by exact block_lt c1)).trans c1
      have hxl := HSW.out l[k] (List.getElem_mem hlt)
      have HNX : Hid (textCells (namesL (l.take (k + 1))) = textCells (namesL (l.take k)) ++ [.string (bs l[k].2)]) := Lib.hid (by rw [List.take_succ_eq_append_getElem hlt]; unfold namesL textCells; rw [List.map_append, List.map_append]; rfl)
      have HXL : Hid ((textCells (namesL (l.take k))).length = k) := Lib.hid (by simp [namesL, textCells]; omega)
      obtain ⟨x, ex⟩ : ∃ x, l[k] = x := ⟨_, rfl⟩
      rw [ex] at d0 d1 hxl HNX
      obtain ⟨P, T⟩ := x
      simp only at d0 d1 hxl HNX
      obtain ⟨W1, hW1⟩ : ∃ W1 : World, wr.alloc (.cells #[.int .i64 (P : Int), .string (bs T)] 152) = W1 := ⟨_, rfl⟩
      have B1 : Below wr.heap.size wr W1 := by rw [← hW1]; exact (Below.refl _ _).alloc (Nat.le_refl _) _
      have T1 := Lib.hid (HT.out.keep B1)
      have HW1 := Lib.hid hW1
      have HCL := Lib.hid (cloneL_any T W1 (by omega))
      clear ex c0 c1 HT B1 hW1
      go_wp2_with fail
      rw [HW1.out]
      refine HCL.out.mono ?_
      rintro e w2 ⟨rfl, hb2⟩
      have T2 := T1.out.keep hb2
      have x0 : ∃ u, w2.cell? ⟨w.heap.size + 1, k, none⟩ = some u := by rw [Lib.cell_of_heap T2.row]; exact ⟨_, Array.getElem?_eq_getElem (by have := T2.size; omega)⟩
      obtain ⟨u0, x0⟩ := x0
      have y0 := Lib.frozen_of_heap T2.row k
      have T3 := Lib.hid (T2.put hlt HXL.out (.string (bs T)))
      clear T2 hb2
      go_wp2_with fail
      exact ⟨⟨k + 1, _, by omega, by go_num, Lib.hid (by rw [HNX.out]; exact T3.out)⟩, by simp [intOf]; omega⟩
    · have hk9 : k = l.length := by omega
      subst hk9
      rw [List.take_length] at HT
      have hP : BmAt wr q time frm (.slice av l.length cv) body x := (HT.out.below.block q hqs).trans HH.out
      have p0 : wr.drew.cell? ⟨q, 0, none⟩ = some (.int .i64 time) := by show wr.cell? _ = _; rw [Lib.cell_of_heap hP]; rfl
      have p1 : wr.drew.cell? ⟨q, 1, none⟩ = some (.string (bs frm)) := by show wr.cell? _ = _; rw [Lib.cell_of_heap hP]; rfl
      have p3 : wr.drew.cell? ⟨q, 3, none⟩ = some (.string (bs body)) := by show wr.cell? _ = _; rw [Lib.cell_of_heap hP]; rfl
      have HTD := Lib.hid (HT.out.keep ((Below.refl _ _).drew))
      have HPP : Hid (BmAt wr.drew q time frm (.slice av l.length cv) body x) := Lib.hid hP
      have HCF := Lib.hid (cloneL_any frm wr.drew (by omega))
      have HCB : Hid (∀ W : World, Calls Tryz.prog 30 #[.string (bs body)] W fun e w' => e = .returned (.string (bs body)) ∧ Below W.heap.size W w') := Lib.hid (fun W => cloneL_any body W (by omega))
      clear hP HT
      go_wp2_with fail
      go_region_law (first
        | (go_simp; go_at_call 30; refine HCF.out.mono ?_; rintro e w9 ⟨rfl, hb9⟩; have T9 := Lib.hid (HTD.out.keep hb9); have P9 : Hid (BmAt w9 q time frm (.slice av l.length cv) body x) := Lib.hid (below_some hb9 HPP.out); have p09 : w9.cell? ⟨q, 0, none⟩ = some (.int .i64 time) := (by rw [Lib.cell_of_heap P9.out]; rfl); have p39 : w9.cell? ⟨q, 3, none⟩ = some (.string (bs body)) := (by rw [Lib.cell_of_heap P9.out]; rfl); clear hb9)
        | (go_simp; go_at_call 30; refine (HCB.out w9).mono ?_; rintro e w10 ⟨rfl, hb10⟩; have TT := T9.out.keep hb10; have P10 : BmAt w10 q time frm (.slice av l.length cv) body x := below_some hb10 P9.out; have p010 : w10.cell? ⟨q, 0, none⟩ = some (.int .i64 time) := (by rw [Lib.cell_of_heap P10]; rfl); have m0 : w10.cell? ⟨w.heap.size, 0, none⟩ = some (.int .i64 0) := (by rw [Lib.cell_of_heap TT.mail]; rfl); have m1 : w10.cell? ⟨w.heap.size, 1, none⟩ = some (.int .i64 0) := (by rw [Lib.cell_of_heap TT.mail]; rfl); have m2 : w10.cell? ⟨w.heap.size, 2, none⟩ = some (.string ⟨#[]⟩) := (by rw [Lib.cell_of_heap TT.mail]; rfl); have m3 : w10.cell? ⟨w.heap.size, 3, none⟩ = some (.slice none 0 0) := (by rw [Lib.cell_of_heap TT.mail]; rfl); have m4 : w10.cell? ⟨w.heap.size, 4, none⟩ = some (.string ⟨#[]⟩) := (by rw [Lib.cell_of_heap TT.mail]; rfl); have n0 := Lib.frozen_of_heap TT.mail 0; have n1 := Lib.frozen_of_heap TT.mail 1; have n2 := Lib.frozen_of_heap TT.mail 2; have n3 := Lib.frozen_of_heap TT.mail 3; have n4 := Lib.frozen_of_heap TT.mail 4; have T10 := Lib.hid TT; clear hb10 TT P10))
      all_goals
        obtain ⟨w11, hw11⟩ : ∃ w11 : World, (((((w10.setCell ⟨w.heap.size, 0, none⟩ (.int .i64 id)).setCell ⟨w.heap.size, 1, none⟩ (.int .i64 time)).setCell ⟨w.heap.size, 2, none⟩ (.string (bs frm))).setCell ⟨w.heap.size, 3, none⟩ (.slice (some ⟨w.heap.size + 1, 0, none⟩) l.length l.length)).setCell ⟨w.heap.size, 4, none⟩ (.string (bs body))) = w11 := ⟨_, rfl⟩
        rw [hw11]
        obtain ⟨M11, O11, B11⟩ := told_end T10.out hw11 hl
        have c0 : w11.cell? ⟨w.heap.size, 0, none⟩ = some (.int .i64 id) := by rw [Lib.cell_of_heap M11]; rfl
        have c1 : w11.cell? ⟨w.heap.size, 1, none⟩ = some (.int .i64 time) := by rw [Lib.cell_of_heap M11]; rfl
        have c2 : w11.cell? ⟨w.heap.size, 2, none⟩ = some (.string (bs frm)) := by rw [Lib.cell_of_heap M11]; rfl
        have c3 : w11.cell? ⟨w.heap.size, 3, none⟩ = some (.slice (some ⟨w.heap.size + 1, 0, none⟩) l.length l.length) := by rw [Lib.cell_of_heap M11]; rfl
        have c4 : w11.cell? ⟨w.heap.size, 4, none⟩ = some (.string (bs body)) := by rw [Lib.cell_of_heap M11]; rfl
        have HO11 := Lib.hid O11
        have HB11 := Lib.hid B11
        clear hw11 M11 O11 B11 m0 m1 m2 m3 m4 n0 n1 n2 n3 n4 p010 p0 p1 p3
        go_wp2_with fail
        refine bodyPost_ret (v := .agg #[.int .i64 id, .int .i64 time, .string (bs frm), .slice (some ⟨w.heap.size + 1, 0, none⟩) l.length l.length, .string (bs body)]) (by simp [results, Tryz.results40, go_sem, c0, c1, c2, c3, c4]) rfl ?_
        exact ⟨w.heap.size + 1, rfl, by omega, HO11.out, HB11.out⟩
end Go.Proofs.YtadcidbeealdpaaGreatDoor
