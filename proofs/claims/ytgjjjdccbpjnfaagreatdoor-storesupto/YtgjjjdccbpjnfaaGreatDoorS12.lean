import Derived.Test.YtgjjjdccbpjnfaaGreatDoorS11
import Derived.Deep.Onto

/- What the document's store takes of a content: a mail. -/
namespace Go.Proofs.YtgjjjdccbpjnfaaGreatDoor
open Go.RowKit

/-- a mail's own block -/
def MailAt (w : World) (q id t : Nat) (f : List UInt8) (v : Value) (b : List UInt8) : Prop := w.heap[q]? = some (.cells #[.int .i64 id, .int .i64 t, .string (bs f), v, .string (bs b)] 26 (0, 0))
theorem MailAt.same {w w' : World} {q id t s : Nat} {f b : List UInt8} {v : Value} (h : MailAt w q id t f v b) (hs : Same s w w') (hne : q ≠ s) : MailAt w' q id t f v b := by
  unfold MailAt at h ⊢
  rw [hs.2 q hne]; exact h
theorem MailAt.cell {w : World} {q id t : Nat} {f b : List UInt8} {v : Value} (h : MailAt w q id t f v b) (j : Nat) : w.cell? ⟨q, j, none⟩ = (#[.int .i64 id, .int .i64 t, .string (bs f), v, .string (bs b)] : Array Value)[j]? ∧ w.frozen? ⟨q, j, none⟩ = false :=
  ⟨Lib.cell_of_heap h j, Lib.frozen_of_heap h j⟩
theorem Rd.other {w w' : World} {b q : Nat} {l : List UInt8} (h : Rd w b l) (hs : Same q w w') (hne : b ≠ q) : Rd w' b l := by
  unfold Rd at h ⊢
  rw [hs.2 b hne]; exact h
theorem Touch.mail {a w w' : World} {q id t : Nat} {f b : List UInt8} {v : Value} (h : Touch [194, 26] a w) (hm : MailAt w q id t f v b) (hs : Same q w w') : Touch [194, 26] a w' := h.same hm (by simp) hs
theorem Touch.rd {a w w' : World} {q : Nat} {l : List UInt8} (h : Touch [194, 26] a w) (hm : Rd w q l) (hs : Same q w w') : Touch [194, 26] a w' := h.same hm (by simp) hs

theorem info_str' : (Tryz.prog.info? 9).map (fun i => (i.zero, i.size, i.bytes)) = some (some (.string ⟨#[]⟩), 1, 16) := by kernel_rfl
theorem txsL_rest : ∀ (n : Nat) (l : List UInt8), (txsL n l).2.length ≤ l.length
  | 0, _ => Nat.le_refl _
  | n + 1, l => by
    have h := txsL_rest n (txL l).2
    have h' : (txL l).2.length ≤ l.length := by unfold txL; simp only [List.length_drop]; omega
    rw [txsL]
    exact Nat.le_trans h h'
theorem ownsRow_same {w w' : World} {base sz n b : Nat} {e : TypeId} {v : Value} {xs : List Value} (h : w.ownsRow base e sz v n xs) (hs : Same b w w') (hb : b < base) : w'.ownsRow base e sz v n xs := by
  refine ⟨h.1, ?_⟩
  rcases h.2 with h | ⟨g, cap, cur, e1, e2, e3, e4⟩
  · exact .inl h
  · exact .inr ⟨g, cap, cur, e1, e2, (hs.2 g (by omega)).trans e3, e4⟩

theorem StoreIn.head {base p : Nat} {S : PStore} {w : World} (h : StoreIn base w p S) : ∃ aL capL, w.cell? ⟨p, 0, none⟩ = some (.slice aL S.items.length capL) ∧ w.cell? ⟨p, 1, none⟩ = some (.int .i64 S.time) ∧ p < w.heap.size := by
  obtain ⟨vL, l, hl, hp, hP, hrow, _⟩ := h
  have hlen : S.items.length = l.length := by rw [← hl, List.length_map]
  have c0 : w.cell? ⟨p, 0, none⟩ = some vL := by rw [Lib.cell_of_heap hP]; rfl
  have c1 : w.cell? ⟨p, 1, none⟩ = some (.int .i64 S.time) := by rw [Lib.cell_of_heap hP]; rfl
  rw [hlen]
  rcases hrow.2 with ⟨e, h0⟩ | ⟨g, cap, cur, e, _⟩
  · refine ⟨none, 0, ?_, c1, heap_lt hP⟩
    rw [c0, e, h0]
  · refine ⟨some ⟨g, 0, none⟩, cap, ?_, c1, heap_lt hP⟩
    rw [c0, e]
/-- behind a recipient more -/
structure MailNext (W0 w10 w11 : World) (s I T : Nat) (f : List UInt8) (v : Value) (R : List UInt8) (k : Nat) (Ts : List (List UInt8)) : Prop where
  hasCell : ∃ u, w10.cell? ⟨s + 1, 3, none⟩ = some u
  soft : w10.frozen? ⟨s + 1, 3, none⟩ = false
  rd : Rd w11 s R
  mail : MailAt w11 (s + 1) I T f v []
  own : w11.ownsRow (s + 2) 9 1 v k (textCells Ts)
  touch : Touch [194, 26] W0 w11
  below : Below s W0 w11
  size : s + 2 ≤ w11.heap.size
theorem mail_step {W0 w9 w10 : World} {s I T k : Nat} {f t R : List UInt8} {v v' : Value} {Ts : List (List UInt8)} {o : Obj} (F9 : Rd w9 s R) (M9 : MailAt w9 (s + 1) I T f v []) (T9 : Touch [194, 26] W0 w9) (B9 : Below s W0 w9) (hs1 : W0.heap.size = s + 1) (Z9 : s + 2 ≤ w9.heap.size)
    (O9 : w9.ownsRow (s + 2) 9 1 v k (textCells Ts)) (hown : w10.ownsRow (s + 2) 9 1 v' (k + 1) (textCells Ts ++ [.string (bs t)])) (hgrow : (w9.alloc o).grownBy w10 v.ownBlock) :
    MailNext W0 w10 (w10.setCell ⟨s + 1, 3, none⟩ v') s I T f v' R (k + 1) (Ts ++ [t]) := by
  have hrow : ∀ j, v.ownBlock = some j → s + 2 ≤ j := fun j hj => (O9.lt j hj).1
  have hsz : s + 2 ≤ w10.heap.size := by have := hgrow.size; simp at this; omega
  have hM : w10.heap[s + 1]? = some (.cells #[.int .i64 I, .int .i64 T, .string (bs f), v, .string (bs [])] 26 (0, 0)) := by
    rw [hgrow.block (s + 1) (by simp; omega) (fun e => by have := hrow _ e.symm; omega)]
    rw [((Below.refl w9.heap.size w9).alloc (Nat.le_refl _) o).block (s + 1) (by omega)]
    exact M9
  have hS : Same (s + 1) w10 (w10.setCell ⟨s + 1, 3, none⟩ v') := (Same.refl _ _).setCell _
  refine ⟨⟨v, by rw [Lib.cell_of_heap hM]; rfl⟩, Lib.frozen_of_heap hM 3, ?_, ?_, ?_, ?_, ?_, ?_⟩
  · exact ((F9.alloc o).grown hgrow (fun e => by have := hrow _ e.symm; omega)).other hS (by omega)
  · exact heap_setCell_same w10 (s + 1) 3 _ _ v' hM
  · rw [show textCells (Ts ++ [t]) = textCells Ts ++ [.string (bs t)] by simp [textCells]]
    exact ownsRow_same hown hS (by omega)
  · exact ((T9.alloc o).grownNew hgrow (fun j hj => by have := hrow j hj; omega)).mail (v := v) hM hS
  · exact (((B9.alloc (by omega) o).grown hgrow (by simp; omega) (fun j hj => by have := hrow j hj; omega))).trans (hS.below (by omega))
  · rw [hS.1]; exact hsz

set_option maxHeartbeats 1000000 in
set_option maxRecDepth 100000 in
theorem refTakes_mail (base p : Nat) (S : PStore) (l : List UInt8) (w : World) (h : StoreIn base w p S) (hb : base ≤ w.heap.size) (hn : S.items.length ≤ 1048575) (hT : S.time ≤ 1000000000) (hl : l.length ≤ 1048576) (hM : l.take 1 = [77]) :
    Calls Tryz.prog 126 #[.pointer (some ⟨p, 0, none⟩), .string (bs l)] w fun e w' => e = .returned (.bool (S.takes l).isSome) ∧ StoreIn base w' p ((S.takes l).getD S) ∧ Below base w w' := by
  have hpl : p < w.heap.size := by
    obtain ⟨_, _, _, _, hP, _⟩ := h
    exact heap_lt hP
  obtain ⟨s, hs⟩ : ∃ s, w.heap.size = s := ⟨_, rfl⟩
  obtain ⟨W0, hW0⟩ : ∃ W0 : World, w.alloc (.cells #[.string (bs l)] 194) = W0 := ⟨_, rfl⟩
  have HR0 : Hid (Rd W0 s l) := Lib.hid (by rw [← hW0, ← hs]; exact heap_alloc_new w _)
  have T0 : Touch [] w W0 := by rw [← hW0]; exact (Touch.refl _ w).alloc _
  have HS0 : Hid (StoreIn base W0 p S) := Lib.hid (h.touch T0 (by simp) (by simp) (by simp) (by simp))
  have HB0 : Hid (Below base w W0) := Lib.hid (by rw [← hW0]; exact (Below.refl _ _).alloc hb _)
  have hs0 : W0.heap.size = s + 1 := by rw [← hW0, ← hs]; simp
  have HW0 := Lib.hid hW0
  have HS1 := Lib.hid hs0
  obtain ⟨r, hr⟩ : ∃ r, l.drop 1 = r := ⟨_, rfl⟩
  have HL : Hid (l = 77 :: r) := Lib.hid (by rw [← List.take_append_drop 1 l, hM, hr]; rfl)
  have hc0 := rdTake_any s 1 l W0 HR0.out (by unfold maxLen; omega) (by decide)
  rw [hM, hr] at hc0
  have m1 : ((bs [77]).toList == [77]) = true := by rw [eq_lit]; rfl
  have hrl : r.length ≤ 1048576 := by rw [← hr, List.length_drop]; omega
  have HSS := Lib.hid hs
  have hbs : base ≤ s := by omega
  clear hM hr T0 h hW0 hs0 hb
  go_enter Tryz.func126, Tryz.ntmps126
  go_wp2_with fail
  rw [HW0.out]
  refine hc0.mono ?_
  rintro e w1 ⟨rfl, h1, h2⟩
  have F1 := Lib.hid h1
  have S1 := Lib.hid h2
  clear hc0 h1 h2
  have hc1 := rdNumber_any s 4 r w1 F1.out (by unfold maxLen; omega) (by decide)
  have hI4 : be (r.take 4) ≤ 4294967295 := by have := be_four (l := r.take 4) (by rw [List.length_take]; omega); omega
  obtain ⟨I, eI⟩ : ∃ I, be (r.take 4) = I := ⟨_, rfl⟩
  obtain ⟨r1, e1⟩ : ∃ r1, r.drop 4 = r1 := ⟨_, rfl⟩
  rw [eI, e1] at hc1
  rw [eI] at hI4
  have HC1 := Lib.hid hc1
  clear hc1
  go_wp2_with fail
  refine HC1.out.mono ?_
  rintro e w2 ⟨rfl, h1, h2⟩
  have hq : w2.heap.size = s + 1 := by rw [h2.1, S1.out.1, HS1.out]
  have F2 := Lib.hid h1
  have T2 : Hid (Touch [194, 26] W0 w2) := Lib.hid (((Touch.refl _ W0).rd HR0.out S1.out).rd F1.out h2)
  have B2 : Hid (Below s W0 w2) := Lib.hid ((S1.out.trans h2).below (Nat.le_refl _))
  clear HC1 h1 h2 F1 S1
  obtain ⟨W3, hW3⟩ : ∃ W3 : World, w2.alloc (.cells #[.int .i64 I, .int .i64 0, .string ⟨#[]⟩, .slice none 0 0, .string ⟨#[]⟩] 26) = W3 := ⟨_, rfl⟩
  have F3 : Hid (Rd W3 s r1) := Lib.hid (by rw [← hW3]; exact F2.out.alloc _)
  have M3 : Hid (MailAt W3 (s + 1) I 0 [] (.slice none 0 0) []) := Lib.hid (by rw [← hW3, ← hq]; exact heap_alloc_new w2 _)
  have T3 : Hid (Touch [194, 26] W0 W3) := Lib.hid (by rw [← hW3]; exact T2.out.alloc _)
  have B3 : Hid (Below s W0 W3) := Lib.hid (by rw [← hW3]; exact B2.out.alloc (by omega) _)
  have Z3 : Hid (W3.heap.size = s + 2) := Lib.hid (by rw [← hW3]; simp [hq])
  have HW3 := Lib.hid hW3
  have h1l : r1.length ≤ 1048576 := by rw [← e1, List.length_drop]; omega
  have hc1 := rdNumber_any s 4 r1 W3 F3.out (by unfold maxLen; omega) (by decide)
  have hT4 : be (r1.take 4) ≤ 4294967295 := by have := be_four (l := r1.take 4) (by rw [List.length_take]; omega); omega
  obtain ⟨T, eT⟩ : ∃ T, be (r1.take 4) = T := ⟨_, rfl⟩
  obtain ⟨r2, e2⟩ : ∃ r2, r1.drop 4 = r2 := ⟨_, rfl⟩
  rw [eT, e2] at hc1
  rw [eT] at hT4
  have HC1 := Lib.hid hc1
  clear hc1 hW3 T2 B2 F2
  go_wp2_with fail
  rw [HW3.out]
  refine HC1.out.mono ?_
  rintro e w4 ⟨rfl, h1, h2⟩
  have F4 := Lib.hid h1
  have M4 := Lib.hid (M3.out.same h2 (by omega))
  have T4 := Lib.hid (T3.out.rd F3.out h2)
  have B4 := Lib.hid (B3.out.trans (h2.below (Nat.le_refl _)))
  have Z4 : Hid (w4.heap.size = s + 2) := Lib.hid (h2.1.trans Z3.out)
  obtain ⟨c1, f1⟩ := M4.out.cell 1
  clear HC1 h1 h2 F3 M3 T3 B3 Z3 HW3
  obtain ⟨w5, hw5⟩ : ∃ w5 : World, w4.setCell ⟨s + 1, 1, none⟩ (.int .i64 T) = w5 := ⟨_, rfl⟩
  have h5 : Same (s + 1) w4 w5 := by rw [← hw5]; exact (Same.refl _ _).setCell _
  have F5 := Lib.hid (F4.out.other h5 (by omega))
  have M5 : Hid (MailAt w5 (s + 1) I T [] (.slice none 0 0) []) := Lib.hid (by rw [← hw5]; exact heap_setCell_same w4 (s + 1) 1 _ _ (.int .i64 T) M4.out)
  have T5 := Lib.hid (T4.out.mail M4.out h5)
  have B5 := Lib.hid (B4.out.trans (h5.below (show s ≤ s + 1 by omega)))
  have Z5 : Hid (w5.heap.size = s + 2) := Lib.hid (h5.1.trans Z4.out)
  have h2l : r2.length ≤ 1048576 := by rw [← e2, List.length_drop]; omega
  have hc1 := rdText_any s r2 w5 F5.out (by unfold maxLen; omega)
  obtain ⟨f, ef⟩ : ∃ f, (r2.drop 1).take (be (r2.take 1)) = f := ⟨_, rfl⟩
  obtain ⟨r3, e3⟩ : ∃ r3, (r2.drop 1).drop (be (r2.take 1)) = r3 := ⟨_, rfl⟩
  have HX2 : Hid (txL r2 = (f, r3)) := Lib.hid (by unfold txL; rw [ef, e3])
  have hfl : f.length < 256 := by have := txL_lt r2; rw [HX2.out] at this; exact this
  have h3l : r3.length ≤ 1048576 := by rw [← e3, List.length_drop, List.length_drop]; omega
  rw [ef, e3] at hc1
  have HC1 := Lib.hid hc1
  have HW5 := Lib.hid hw5
  clear hc1 hw5 h5 ef e3
  go_wp2_with fail
  rw [HW5.out]
  refine HC1.out.mono ?_
  rintro e w6 ⟨rfl, h1, h2⟩
  have F6 := Lib.hid h1
  have M6 := Lib.hid (M5.out.same h2 (by omega))
  have T6 := Lib.hid (T5.out.rd F5.out h2)
  have B6 := Lib.hid (B5.out.trans (h2.below (Nat.le_refl _)))
  have Z6 : Hid (w6.heap.size = s + 2) := Lib.hid (h2.1.trans Z5.out)
  obtain ⟨c2, f2⟩ := M6.out.cell 2
  clear HC1 h1 h2 F4 M4 T4 B4 Z4 F5 M5 T5 B5 Z5 HW5 c1 f1
  obtain ⟨w7, hw7⟩ : ∃ w7 : World, w6.setCell ⟨s + 1, 2, none⟩ (.string (bs f)) = w7 := ⟨_, rfl⟩
  have h7 : Same (s + 1) w6 w7 := by rw [← hw7]; exact (Same.refl _ _).setCell _
  have F7 := Lib.hid (F6.out.other h7 (by omega))
  have M7 : Hid (MailAt w7 (s + 1) I T f (.slice none 0 0) []) := Lib.hid (by rw [← hw7]; exact heap_setCell_same w6 (s + 1) 2 _ _ (.string (bs f)) M6.out)
  have T7 := Lib.hid (T6.out.mail M6.out h7)
  have B7 := Lib.hid (B6.out.trans (h7.below (show s ≤ s + 1 by omega)))
  have Z7 : Hid (w7.heap.size = s + 2) := Lib.hid (h7.1.trans Z6.out)
  have hc1 := rdNumber_any s 1 r3 w7 F7.out (by unfold maxLen; omega) (by decide)
  have hN := be_byte r3
  obtain ⟨N, eN⟩ : ∃ N, be (r3.take 1) = N := ⟨_, rfl⟩
  obtain ⟨r4, e4⟩ : ∃ r4, r3.drop 1 = r4 := ⟨_, rfl⟩
  have h4l : r4.length ≤ 1048576 := by rw [← e4, List.length_drop]; omega
  rw [eN, e4] at hc1
  rw [eN] at hN
  have HC1 := Lib.hid hc1
  have HW7 := Lib.hid hw7
  clear hc1 hw7 h7
  go_wp2_with fail
  rw [HW7.out]
  refine HC1.out.mono ?_
  rintro e w8 ⟨rfl, h1, h2⟩
  have F8 := Lib.hid h1
  have M8 := Lib.hid (M7.out.same h2 (by omega))
  have T8 := Lib.hid (T7.out.rd F7.out h2)
  have B8 := Lib.hid (B7.out.trans (h2.below (Nat.le_refl _)))
  have Z8 : Hid (w8.heap.size = s + 2) := Lib.hid (h2.1.trans Z7.out)
  clear HC1 h1 h2 F6 M6 T6 B6 Z6 F7 M7 T7 B7 Z7 HW7 c2 f2
  go_wp2_with fail
  obtain ⟨i0, hi0, hz0, hz1, hz2⟩ := info_parts info_str'
  go_loopw [8] (fun i w' => ∃ (k : Nat) (v : Value), k ≤ N ∧ i = .int .i64 k ∧ Hid (Rd w' s (txsL k r4).2) ∧ Hid (MailAt w' (s + 1) I T f v []) ∧ Hid (w'.ownsRow (s + 2) 9 1 v k (textCells (txsL k r4).1)) ∧ Hid (Touch [194, 26] W0 w') ∧ Hid (Below s W0 w') ∧ s + 2 ≤ w'.heap.size) (fun i _ => N - (intOf i).toNat)
  case atStart => exact ⟨0, .slice none 0 0, Nat.zero_le _, rfl, F8, M8, Lib.hid (World.ownsRow_nil _ _ _ _), T8, B8, by have := Z8.out; omega⟩
  case round =>
    clear F8 M8 T8 B8 Z8
    obtain ⟨k, v, hk, rfl, F8, M8, O8, T8, B8, Z8⟩ := hrel
    obtain ⟨a, n, c, rfl⟩ : ∃ a n c, v = .slice a n c := by
      rcases O8.out.2 with ⟨e, _⟩ | ⟨g, cap, cur, e, _⟩
      · exact ⟨_, _, _, e⟩
      · exact ⟨_, _, _, e⟩
    by_cases hlt : k < N
    · have hRl := txsL_rest k r4
      have hSN := txsL_snoc k r4
      obtain ⟨R, eR⟩ : ∃ R, (txsL k r4).2 = R := ⟨_, rfl⟩
      obtain ⟨Ts, eTs⟩ : ∃ Ts, (txsL k r4).1 = Ts := ⟨_, rfl⟩
      rw [eR] at F8 hRl
      rw [eTs] at O8
      rw [eR, eTs] at hSN
      have hc1 := rdText_any s R wr F8.out (by unfold maxLen; omega)
      obtain ⟨t, et⟩ : ∃ t, (R.drop 1).take (be (R.take 1)) = t := ⟨_, rfl⟩
      obtain ⟨R', eR'⟩ : ∃ R', (R.drop 1).drop (be (R.take 1)) = R' := ⟨_, rfl⟩
      have HX : Hid (txsL (k + 1) r4 = (Ts ++ [t], R')) := Lib.hid (by rw [hSN]; unfold txL; rw [et, eR'])
      rw [et, eR'] at hc1
      have HC1 := Lib.hid hc1
      clear hc1 et eR' hSN eR eTs
      go_wp2_with fail
      refine HC1.out.mono ?_
      rintro e w9 ⟨rfl, h1, h2⟩
      have F9 := Lib.hid h1
      have M9 := Lib.hid (M8.out.same h2 (by omega))
      have T9 := Lib.hid (T8.out.rd F8.out h2)
      have B9 := Lib.hid (B8.out.trans (h2.below (Nat.le_refl _)))
      have Z9 : s + 2 ≤ w9.heap.size := by rw [h2.1]; exact Z8
      have O9 : w9.ownsRow (s + 2) 9 1 (.slice a n c) k (textCells Ts) := ownsRow_same O8.out h2 (by omega)
      obtain ⟨c3, f3⟩ := M9.out.cell 3
      clear HC1 h1 h2 F8 M8 T8 B8 O8
      have HM9 := Lib.hid (show w9.cell? ⟨s + 1, 3, none⟩ = some (.slice a n c) from c3)
      go_wp2_with (first
        | (at_builtin; go_must (refine wpList_append_lies _ rfl _ _ 24 rfl (s + 2) 9 i0 (.string ⟨#[]⟩) 1 16 Tryz.underlying24 hi0 hz0 hz1 hz2 rfl (by decide) (.slice a n c) k (textCells Ts) rfl (O9.alloc _) ⟨w9.heap.size, 0, none⟩ 1 1 [.string (bs t)] rfl rfl ?c1 ?c2 (by decide) ?c3 ?c4 ?c5 (w9.heap.size + 1) (by simp) ?_))
        | fail)
      case c1 =>
        intro j u hj
        match j, hj with
        | 0, hj =>
          simp only [List.getElem?_cons_zero, Option.some.injEq] at hj
          subst hj
          simp [Addr.add]
      case c2 => intro u hu; simp at hu; subst hu; rfl
      case c3 => unfold maxLen; omega
      case c4 => omega
      case c5 => simp; omega
      · intro g cap w10 hown hgrow hat hlt9
        have D := mail_step F9.out M9.out T9.out B9.out HS1.out Z9 O9 hown hgrow
        have HD := Lib.hid D
        obtain ⟨u9, d1⟩ := D.hasCell
        have d2 := D.soft
        clear D hown hgrow hat
        go_wp2_with fail
        have d := HD.out
        exact ⟨⟨k + 1, _, by omega, by go_num, Lib.hid (by rw [HX.out]; exact d.rd), Lib.hid d.mail, Lib.hid (by rw [HX.out]; exact d.own), Lib.hid d.touch, Lib.hid d.below, d.size⟩, by simp [intOf]; omega⟩
    · have hkN : k = N := by omega
      subst hkN
      have hRl := txsL_rest k r4
      have hTl := txsL_len k r4
      have hTt := txsL_lt k r4
      obtain ⟨R, eR⟩ : ∃ R, (txsL k r4).2 = R := ⟨_, rfl⟩
      obtain ⟨Ts, eTs⟩ : ∃ Ts, (txsL k r4).1 = Ts := ⟨_, rfl⟩
      rw [eR] at F8 hRl
      rw [eTs] at O8 hTl hTt
      have hc1 := rdNumber_any s 2 R wr F8.out (by unfold maxLen; omega) (by decide)
      have hB2 : be (R.take 2) < 65536 := by
        have h1 := be_lt (R.take 2)
        have h2 : 256 ^ (R.take 2).length ≤ 256 ^ 2 := Nat.pow_le_pow_right (by decide) (by rw [List.length_take]; omega)
        have h3 : 256 ^ 2 = 65536 := by decide
        omega
      obtain ⟨B, eB⟩ : ∃ B, be (R.take 2) = B := ⟨_, rfl⟩
      obtain ⟨R', eR'⟩ : ∃ R', R.drop 2 = R' := ⟨_, rfl⟩
      have hR'l : R'.length ≤ 1048576 := by rw [← eR', List.length_drop]; omega
      obtain ⟨D, eD⟩ : ∃ D, R'.take B = D := ⟨_, rfl⟩
      have HML : Hid (mailL r = ⟨I, T, f, Ts, D⟩) := Lib.hid (by
        have e8 : r.drop 8 = r2 := by rw [← e2, ← e1, List.drop_drop]
        unfold mailL
        rw [e8, HX2.out, e1, eI, eT]
        simp only
        rw [eN, e4, eR, eTs, eB, eR', eD])
      rw [eB, eR'] at hc1
      rw [eB] at hB2
      have hDl : D.length ≤ 65535 := by rw [← eD, List.length_take]; omega
      have HC1 := Lib.hid hc1
      have HTL := Lib.hid hTl
      have HTT := Lib.hid hTt
      have HED := Lib.hid eD
      clear hc1 hTt hTl eB eR' eR eTs eD e1 e2 e4 eN eI eT
      go_wp2_with fail
      refine HC1.out.mono ?_
      rintro e w9 ⟨rfl, h1, h2⟩
      have F9 := Lib.hid h1
      have M9 := Lib.hid (M8.out.same h2 (by omega))
      have T9 := Lib.hid (T8.out.rd F8.out h2)
      have B9 := Lib.hid (B8.out.trans (h2.below (Nat.le_refl _)))
      have Z9 : s + 2 ≤ w9.heap.size := by rw [h2.1]; exact Z8
      have O9 : Hid (w9.ownsRow (s + 2) 9 1 (.slice a n c) k (textCells Ts)) := Lib.hid (ownsRow_same O8.out h2 (by omega))
      clear HC1 h1 h2 F8 M8 T8 B8 O8
      have hc1 := rdTake_any s B R' w9 F9.out (by unfold maxLen; omega) (by unfold maxLen; omega)
      rw [HED.out] at hc1
      have HC1 := Lib.hid hc1
      clear hc1
      go_wp2_with fail
      refine HC1.out.mono ?_
      rintro e w10 ⟨rfl, h1, h2⟩
      have M10 := Lib.hid (M9.out.same h2 (by omega))
      have T10 := Lib.hid (T9.out.rd F9.out h2)
      have B10 := Lib.hid (B9.out.trans (h2.below (Nat.le_refl _)))
      have Z10 : s + 2 ≤ w10.heap.size := by rw [h2.1]; exact Z9
      have O10 := Lib.hid (ownsRow_same O9.out h2 (by omega))
      obtain ⟨c4, f4⟩ := M10.out.cell 4
      have k0 : w10.cell? ⟨s + 1, 0, none⟩ = some (.int .i64 I) := (M10.out.cell 0).1
      have k1 : w10.cell? ⟨s + 1, 1, none⟩ = some (.int .i64 T) := (M10.out.cell 1).1
      have k2 : w10.cell? ⟨s + 1, 2, none⟩ = some (.string (bs f)) := (M10.out.cell 2).1
      have k3 : w10.cell? ⟨s + 1, 3, none⟩ = some (.slice a n c) := (M10.out.cell 3).1
      clear HC1 h1 h2 F9 M9 T9 B9 O9
      obtain ⟨w11, hw11⟩ : ∃ w11 : World, w10.setCell ⟨s + 1, 4, none⟩ (.string (bs D)) = w11 := ⟨_, rfl⟩
      have h11 : Same (s + 1) w10 w11 := by rw [← hw11]; exact (Same.refl _ _).setCell _
      have M11 : MailAt w11 (s + 1) I T f (.slice a n c) D := by rw [← hw11]; exact heap_setCell_same w10 (s + 1) 4 _ _ (.string (bs D)) M10.out
      have T11 := Lib.hid (T10.out.mail M10.out h11)
      have B11 := Lib.hid (B10.out.trans (h11.below (show s ≤ s + 1 by omega)))
      have Z11 : s + 2 ≤ w11.heap.size := by rw [h11.1]; exact Z10
      have O11 := Lib.hid (ownsRow_same O10.out h11 (by omega))
      have HS11 : Hid (StoreIn base w11 p S) := Lib.hid (HS0.out.touch T11.out (by decide) (by decide) (by decide) (by decide))
      have HW11 := Lib.hid hw11
      have HM11 := Lib.hid M11
      clear hw11 h11 M10 T10 B10 O10 M11
      go_wp2_with fail
      rw [HW11.out]
      obtain ⟨aL, capL, hL0, hL1, hLp⟩ := HS11.out.head
      have hzm : MailSz ⟨I, T, f, Ts, D⟩ := ⟨hI4, hT4, by show f.length ≤ 255; omega, by show Ts.length ≤ 255; have := HTL.out; omega, fun x hx => by have := HTT.out x hx; omega, by show D.length ≤ 1048576; omega⟩
      have hTk : (⟨I, T, f, Ts, D⟩ : PMail).tos.length = k := HTL.out
      have hrow : RowAt w11 (.slice a n c) (⟨I, T, f, Ts, D⟩ : PMail).tos.length 1 (textCells (⟨I, T, f, Ts, D⟩ : PMail).tos) := by rw [hTk]; exact row_of_own O11.out
      refine (refProper_any p S.items.length S.time capL aL ⟨I, T, f, Ts, D⟩ (.slice a n c) w11 hL0 hL1 (by omega) (by omega) hLp hrow hzm).mono ?_
      rintro e w12 ⟨rfl, hb12⟩
      have HTK : Hid (S.takes l = if properB S.items.length S.time ⟨I, T, f, Ts, D⟩ && (mailE ⟨I, T, f, Ts, D⟩ == l) then some ⟨S.items ++ [⟨⟨I, T, f, Ts, D⟩, List.replicate Ts.length false⟩], T⟩ else none) := Lib.hid (by
        rw [HL.out, takes_M, HML.out])
      have HS12 : Hid (StoreIn base w12 p S) := Lib.hid (HS11.out.touch (Touch.below (ts := []) hb12) (by simp) (by simp) (by simp) (by simp))
      have B12 : Hid (Below base w w12) := Lib.hid (HB0.out.trans ((B11.out.mono hbs).trans (hb12.mono (by omega))))
      have O12 := Lib.hid (ownsRow_touch (Touch.below (ts := []) hb12) (by simp) O11.out)
      have hM12 : MailAt w12 (s + 1) I T f (.slice a n c) D := by
        have h := HM11.out
        unfold MailAt at h ⊢
        rw [hb12.block (s + 1) (by omega)]; exact h
      have Z12 : s + 2 ≤ w12.heap.size := by have := hb12.size; omega
      have q0 : w12.cell? ⟨s + 1, 0, none⟩ = some (.int .i64 I) := (hM12.cell 0).1
      have q1 : w12.cell? ⟨s + 1, 1, none⟩ = some (.int .i64 T) := (hM12.cell 1).1
      have q2 : w12.cell? ⟨s + 1, 2, none⟩ = some (.string (bs f)) := (hM12.cell 2).1
      have q3 : w12.cell? ⟨s + 1, 3, none⟩ = some (.slice a n c) := (hM12.cell 3).1
      have q4 : w12.cell? ⟨s + 1, 4, none⟩ = some (.string (bs D)) := (hM12.cell 4).1
      have HM12 := Lib.hid hM12
      have hrow12 : RowAt w12 (.slice a n c) (⟨I, T, f, Ts, D⟩ : PMail).tos.length 1 (textCells (⟨I, T, f, Ts, D⟩ : PMail).tos) := by rw [hTk]; exact row_of_own O12.out
      have HMD := Lib.hid (refMailed_any ⟨I, T, f, Ts, D⟩ (.slice a n c) w12 hrow12 hzm)
      have HZM := Lib.hid hzm
      have HTK' := Lib.hid hTk
      clear k0 k1 k2 k3 c4 f4 hb12 hM12 hrow hrow12 hzm hTk HM11 O11 HS11 T11 B11 HW11 hL0 hL1 hLp Z11 Z10
      cases hO : properB S.items.length S.time ⟨I, T, f, Ts, D⟩ with
      | false =>
        have HE : Hid (S.takes l = none) := Lib.hid (by rw [HTK.out, hO]; rfl)
        go_wp2_with fail
        go_ret
        rw [HE.out]
        exact ⟨rfl, HS12.out, B12.out⟩
      | true =>
        obtain ⟨E, eE⟩ : ∃ E, mailE ⟨I, T, f, Ts, D⟩ = E := ⟨_, rfl⟩
        have h1t : 1 ≤ Ts.length := by
          unfold properB at hO
          simp only [Bool.and_eq_true, decide_eq_true_eq] at hO
          exact hO.1.1.1.1.2
        have HTK2 : Hid (S.takes l = if (E == l) then some ⟨S.items ++ [⟨⟨I, T, f, Ts, D⟩, List.replicate Ts.length false⟩], T⟩ else none) := Lib.hid (by
          rw [HTK.out, hO, eE, Bool.true_and])
        rw [eE] at HMD
        clear eE HTK hO
        go_wp2_with fail
        refine HMD.out.mono ?_
        rintro e w13 ⟨rfl, hb13⟩
        have HS13 : Hid (StoreIn base w13 p S) := Lib.hid (HS12.out.touch (Touch.below (ts := []) hb13) (by simp) (by simp) (by simp) (by simp))
        have B13 : Hid (Below base w w13) := Lib.hid (B12.out.trans (hb13.mono (by omega)))
        have O13 := Lib.hid (ownsRow_touch (Touch.below (ts := []) hb13) (by simp) O12.out)
        have hM13 : MailAt w13 (s + 1) I T f (.slice a n c) D := by
          have h := HM12.out
          unfold MailAt at h ⊢
          rw [hb13.block (s + 1) (by omega)]; exact h
        have p0 : w13.cell? ⟨s + 1, 0, none⟩ = some (.int .i64 I) := (hM13.cell 0).1
        have p1 : w13.cell? ⟨s + 1, 1, none⟩ = some (.int .i64 T) := (hM13.cell 1).1
        have p2 : w13.cell? ⟨s + 1, 2, none⟩ = some (.string (bs f)) := (hM13.cell 2).1
        have p3 : w13.cell? ⟨s + 1, 3, none⟩ = some (.slice a n c) := (hM13.cell 3).1
        have p4 : w13.cell? ⟨s + 1, 4, none⟩ = some (.string (bs D)) := (hM13.cell 4).1
        clear q0 q1 q2 q3 q4 hb13 hM13 HM12 HMD O12 HS12 B12
        cases hQ : (E == l) with
        | false =>
          have hq : ((bs E).toList == (bs l).toList) = false := by rw [bs_beq]; exact hQ
          have HE : Hid (S.takes l = none) := Lib.hid (by rw [HTK2.out, hQ]; rfl)
          clear HTK2 hQ
          go_wp2_with fail
          go_ret
          rw [HE.out]
          exact ⟨rfl, HS13.out, B13.out⟩
        | true =>
          have hq : ((bs E).toList == (bs l).toList) = true := by rw [bs_beq]; exact hQ
          have HE : Hid (S.takes l = some ⟨S.items ++ [⟨⟨I, T, f, Ts, D⟩, List.replicate Ts.length false⟩], T⟩) := Lib.hid (by rw [HTK2.out, hQ]; rfl)
          have HAD := Lib.hid (refAdd_any base p S ⟨I, T, f, Ts, D⟩ (.slice a n c) w13 HS13.out (by omega) (by rw [HTK'.out]; exact O13.out.mono (by omega)) HZM.out h1t)
          clear HTK2 hQ
          go_wp2_with fail
          refine HAD.out.mono ?_
          rintro e w14 ⟨rfl, r1, r2, r3⟩
          have R1 := Lib.hid r1
          have R3 := Lib.hid (B13.out.trans r3)
          clear r1 r2 r3
          go_wp2_with fail
          go_ret
          rw [HE.out]
          exact ⟨rfl, R1.out, R3.out⟩
end Go.Proofs.YtgjjjdccbpjnfaaGreatDoor

/- What the document's store takes of a content. -/
namespace Go.Proofs.YtgjjjdccbpjnfaaGreatDoor
open Go.RowKit

set_option maxHeartbeats 1000000 in
set_option maxRecDepth 100000 in
theorem refTakes_any (base p : Nat) (S : PStore) (l : List UInt8) (w : World) (h : StoreIn base w p S) (hb : base ≤ w.heap.size) (hn : S.items.length ≤ 1048575) (hT : S.time ≤ 1000000000) (hl : l.length ≤ 1048576) :
    Calls Tryz.prog 126 #[.pointer (some ⟨p, 0, none⟩), .string (bs l)] w fun e w' => e = .returned (.bool (S.takes l).isSome) ∧ StoreIn base w' p ((S.takes l).getD S) ∧ Below base w w' := by
  by_cases hM0 : l.take 1 = [77]
  · exact refTakes_mail base p S l w h hb hn hT hl hM0
  have hpl : p < w.heap.size := by
    obtain ⟨_, _, _, _, hP, _⟩ := h
    exact heap_lt hP
  obtain ⟨W0, hW0⟩ : ∃ W0 : World, w.alloc (.cells #[.string (bs l)] 194) = W0 := ⟨_, rfl⟩
  have HR0 : Hid (Rd W0 w.heap.size l) := Lib.hid (by rw [← hW0]; exact heap_alloc_new w _)
  have T0 : Touch [] w W0 := by rw [← hW0]; exact (Touch.refl _ w).alloc _
  have HS0 : Hid (StoreIn base W0 p S) := Lib.hid (h.touch T0 (by simp) (by simp) (by simp) (by simp))
  have HB0 : Hid (Below base w W0) := Lib.hid (by rw [← hW0]; exact (Below.refl _ _).alloc hb _)
  have hs0 : W0.heap.size = w.heap.size + 1 := by rw [← hW0]; simp
  have HW0 := Lib.hid hW0
  have HS1 := Lib.hid hs0
  have hc0 := rdTake_any w.heap.size 1 l W0 HR0.out (by unfold maxLen; omega) (by decide)
  obtain ⟨t, ht⟩ : ∃ t, l.take 1 = t := ⟨_, rfl⟩
  obtain ⟨r, hr⟩ : ∃ r, l.drop 1 = r := ⟨_, rfl⟩
  rw [ht, hr] at hc0
  have HTT := Lib.hid ht
  have HRR := Lib.hid hr
  have hrl : r.length ≤ 1048576 := by rw [← hr, List.length_drop]; omega
  clear ht hr T0 h hW0 hs0
  go_enter Tryz.func126, Tryz.ntmps126
  go_wp2_with fail
  rw [HW0.out]
  refine hc0.mono ?_
  rintro e w1 ⟨rfl, h1, h2⟩
  have F1 := Lib.hid h1
  have S1 := Lib.hid h2
  clear hc0 h1 h2
  have hM : ¬ t = [77] := by rw [← HTT.out]; exact hM0
  clear hM0
  · have m1 : ((bs t).toList == [77]) = false := by rw [eq_lit]; simpa using hM
    by_cases hG : t = [71]
    · have m2 : ((bs t).toList == [71]) = true := by rw [eq_lit]; simpa using hG
      have HLG : Hid (l = 71 :: r) := Lib.hid (by rw [← List.take_append_drop 1 l, HTT.out, HRR.out, hG]; rfl)
      have hcl := rdList_any w.heap.size r w1 F1.out (by unfold maxLen; omega) (by rw [S1.out.1, HS1.out]; omega)
      have hI4 : be (r.take 4) ≤ 4294967295 := by have := be_four (l := r.take 4) (by rw [List.length_take]; omega); omega
      have hN := be_byte (r.drop 4)
      obtain ⟨I, eI⟩ : ∃ I, be (r.take 4) = I := ⟨_, rfl⟩
      obtain ⟨N, eN⟩ : ∃ N, be ((r.drop 4).take 1) = N := ⟨_, rfl⟩
      obtain ⟨PS, eP⟩ : ∃ PS, numsOf N (r.drop 5) = PS := ⟨_, rfl⟩
      have hPl : PS.length = N := by rw [← eP, numsOf_len]
      have hP2 : ∀ x ∈ PS, x ≤ 255 := by rw [← eP]; exact numsOf_le _ _
      rw [eI, eN, eP] at hcl
      rw [eI] at hI4
      rw [eN] at hN
      have HTK : Hid (S.takes l = if outsB S I PS && (71 :: listedE I PS == l) then some (S.outs (I - 1) PS) else none) := Lib.hid (by
        have e : listL r = (I, PS) := by unfold listL; rw [eI, eN, eP]
        rw [HLG.out, takes_G, e])
      have HP2 := Lib.hid hP2
      have HPL := Lib.hid hPl
      have HCL := Lib.hid hcl
      clear hM hG eI eN eP hP2 hcl
      go_wp2_with fail
      refine HCL.out.mono ?_
      rintro e w2 ⟨v, rfl, hown, hrd, ht2, hb2⟩
      have T1 : Touch [194] W0 w1 := (Touch.refl _ W0).same HR0.out (by simp) S1.out
      have HS2 : Hid (StoreIn base w2 p S) := Lib.hid ((HS0.out.touch T1 (by decide) (by decide) (by decide) (by decide)).touch ht2 (by decide) (by decide) (by decide) (by decide))
      have HB2 : Hid (Below base w w2) := Lib.hid (HB0.out.trans ((S1.out.below hb).trans (hb2.mono hb)))
      have hvs : ∃ a cap, v = .slice a N cap := by
        rcases hown.2 with ⟨e, h0⟩ | ⟨g, cp, cur, e, _⟩
        · exact ⟨_, _, by rw [h0]; exact e⟩
        · exact ⟨_, _, e⟩
      obtain ⟨a, cap, rfl⟩ := hvs
      rw [← hPl] at hown
      have HOW := Lib.hid hown
      have hbw2 : base ≤ w2.heap.size := by have := HB2.out.size; omega
      clear T1 hown hrd ht2 hb2
      have ho := refOuts_any base p I S (.slice a PS.length cap) PS w2 HS2.out (by omega) hI4 (row_of_own HOW.out) (by omega) HP2.out
      have HOO := Lib.hid ho
      rw [hPl] at HOO
      clear ho
      go_wp2_with fail
      refine HOO.out.mono ?_
      rintro e w3 ⟨rfl, hb3⟩
      have HB3 := Lib.hid hb3
      clear hb3
      cases hO : outsB S I PS with
      | false =>
        have HE : Hid (S.takes l = none) := Lib.hid (by rw [HTK.out, hO]; rfl)
        go_wp2_with fail
        go_ret
        rw [HE.out]
        exact ⟨rfl, HS2.out.touch (Touch.below (ts := []) HB3.out) (by simp) (by simp) (by simp) (by simp), HB2.out.trans (HB3.out.mono hbw2)⟩
      | true =>
        have hL := refListed_any I (.slice a PS.length cap) PS w3 (by unfold maxLen; omega) (row_of_own (ownsRow_touch (Touch.below (ts := []) HB3.out) (by simp) HOW.out)) (by omega) HP2.out
        obtain ⟨L, eL⟩ : ∃ L, listedE I PS = L := ⟨_, rfl⟩
        have hLl : L.length ≤ 300 := by rw [← eL]; unfold listedE; rw [List.length_append, List.length_append, beBytes_len, beBytes_len, placesE_len]; omega
        rw [eL] at hL HTK
        have sL := bs_size L
        have HLL := Lib.hid hL
        rw [hPl] at HLL
        clear hL eL
        go_wp2_with fail
        refine HLL.out.mono ?_
        rintro e w4 ⟨rfl, hb4⟩
        have HB4 := Lib.hid (HB3.out.trans (hb4.mono HB3.out.size))
        clear hb4
        go_wp2_with fail
        · have h : (!((⟨#[71]⟩ : ByteArray) ++ bs L).toList == (bs l).toList) = true := by assumption
          have HE : Hid (S.takes l = none) := Lib.hid (by
            rw [show (⟨#[71]⟩ : ByteArray) = bs [71] from rfl, bs_append, bs_beq] at h
            have h' : (71 :: L == l) = false := by simpa using h
            rw [HTK.out, hO, h']; rfl)
          go_ret
          rw [HE.out]
          exact ⟨rfl, HS2.out.touch (Touch.below (ts := []) HB4.out) (by simp) (by simp) (by simp) (by simp), HB2.out.trans (HB4.out.mono hbw2)⟩
        · have h : (!((⟨#[71]⟩ : ByteArray) ++ bs L).toList == (bs l).toList) = false := by assumption
          have HE : Hid (S.takes l = some (S.outs (I - 1) PS)) := Lib.hid (by
            rw [show (⟨#[71]⟩ : ByteArray) = bs [71] from rfl, bs_append, bs_beq] at h
            have h' : (71 :: L == l) = true := by simpa using h
            rw [HTK.out, hO, h']; rfl)
          have hI1 : 1 ≤ I := by
            unfold outsB at hO
            simp only [Bool.and_eq_true, decide_eq_true_eq] at hO
            omega
          obtain ⟨K, rfl⟩ : ∃ K, I = K + 1 := ⟨I - 1, by omega⟩
          have hv4 := ownsRow_touch (Touch.below (ts := []) HB4.out) (by simp) HOW.out
          have hR := refOut_any base w1.heap.size p K S (.slice a PS.length cap) PS w4 (HS2.out.touch (Touch.below (ts := []) HB4.out) (by simp) (by simp) (by simp) (by simp)) (by omega) hv4 (by omega) HP2.out hO
          rw [hPl] at hR
          refine hR.mono ?_
          rintro e w5 ⟨rfl, r1, r2, r3⟩
          have R1 := Lib.hid r1
          have R3 := Lib.hid (HB2.out.trans ((HB4.out.mono hbw2).trans r3))
          clear r1 r2 r3 hR hv4
          go_wp2_with fail
          go_ret
          rw [HE.out]
          exact ⟨rfl, R1.out, R3.out⟩
    · have m2 : ((bs t).toList == [71]) = false := by rw [eq_lit]; simpa using hG
      by_cases hF : t = [70]
      · have m3 : ((bs t).toList == [70]) = true := by rw [eq_lit]; simpa using hF
        have HLF : Hid (l = 70 :: r) := Lib.hid (by rw [← List.take_append_drop 1 l, HTT.out, HRR.out, hF]; rfl)
        have hct := rdNumber_any w.heap.size 4 r w1 F1.out (by unfold maxLen; omega) (by decide)
        have hT4 : be (r.take 4) ≤ 4294967295 := by have := be_four (l := r.take 4) (by rw [List.length_take]; omega); omega
        obtain ⟨T, eT⟩ : ∃ T, be (r.take 4) = T := ⟨_, rfl⟩
        obtain ⟨s, es⟩ : ∃ s, r.drop 4 = s := ⟨_, rfl⟩
        rw [eT, es] at hct
        rw [eT] at hT4
        have hsl : s.length ≤ 1048576 := by rw [← es, List.length_drop]; omega
        have hI4 : be (s.take 4) ≤ 4294967295 := by have := be_four (l := s.take 4) (by rw [List.length_take]; omega); omega
        have hN := be_byte (s.drop 4)
        obtain ⟨I, eI⟩ : ∃ I, be (s.take 4) = I := ⟨_, rfl⟩
        obtain ⟨N, eN⟩ : ∃ N, be ((s.drop 4).take 1) = N := ⟨_, rfl⟩
        obtain ⟨PS, eP⟩ : ∃ PS, numsOf N (s.drop 5) = PS := ⟨_, rfl⟩
        have hPl : PS.length = N := by rw [← eP, numsOf_len]
        have hP2 : ∀ x ∈ PS, x ≤ 255 := by rw [← eP]; exact numsOf_le _ _
        have hcl := fun w' (h1 : Rd w' w.heap.size s) h2 => rdList_any w.heap.size s w' h1 (by unfold maxLen; omega) h2
        rw [eI, eN, eP] at hcl
        rw [eI] at hI4
        rw [eN] at hN
        have HTK : Hid (S.takes l = if outsB S I PS && decide (S.time ≤ T) && decide (T ≤ 1000000000) && (70 :: (beBytes 4 T ++ listedE I PS) == l) then some ((S.outs (I - 1) PS).failed (S.mailOf (I - 1)) PS T) else none) := Lib.hid (by
          have e : listL (r.drop 4) = (I, PS) := by rw [es]; unfold listL; rw [eI, eN, eP]
          rw [HLF.out, takes_F, e, eT])
        have HP2 := Lib.hid hP2
        have HCL := Lib.hid hcl
        have HCT := Lib.hid hct
        clear hM hG hF eI eN eP hP2 hcl hct eT es
        go_wp2_with fail
        refine HCT.out.mono ?_
        rintro e w2 ⟨rfl, hrd, hs2⟩
        have F2 := Lib.hid hrd
        have S2 := Lib.hid (S1.out.trans hs2)
        clear hrd hs2
        go_wp2_with fail
        refine (HCL.out _ F2.out (by rw [S2.out.1, HS1.out]; omega)).mono ?_
        rintro e w3 ⟨v, rfl, hown, hrd, ht3, hb3⟩
        have T1 : Touch [194] W0 w2 := (Touch.refl _ W0).same HR0.out (by simp) S2.out
        have HS3 : Hid (StoreIn base w3 p S) := Lib.hid ((HS0.out.touch T1 (by decide) (by decide) (by decide) (by decide)).touch ht3 (by decide) (by decide) (by decide) (by decide))
        have HB3 : Hid (Below base w w3) := Lib.hid (HB0.out.trans ((S2.out.below hb).trans (hb3.mono hb)))
        have hvs : ∃ a cap, v = .slice a N cap := by
          rcases hown.2 with ⟨e, h0⟩ | ⟨g, cp, cur, e, _⟩
          · exact ⟨_, _, by rw [h0]; exact e⟩
          · exact ⟨_, _, e⟩
        obtain ⟨a, cap, rfl⟩ := hvs
        rw [← hPl] at hown
        have HOW := Lib.hid hown
        have hbw3 : base ≤ w3.heap.size := by have := HB3.out.size; omega
        clear T1 hown hrd ht3 hb3
        have ho := refOuts_any base p I S (.slice a PS.length cap) PS w3 HS3.out (by omega) hI4 (row_of_own HOW.out) (by omega) HP2.out
        have HOO := Lib.hid ho
        rw [hPl] at HOO
        clear ho
        go_wp2_with fail
        refine HOO.out.mono ?_
        rintro e w4 ⟨rfl, hb4⟩
        have HB4 := Lib.hid hb4
        have HS4 : Hid (StoreIn base w4 p S) := Lib.hid (HS3.out.touch (Touch.below (ts := []) hb4) (by simp) (by simp) (by simp) (by simp))
        have HBW4 : Hid (Below base w w4) := Lib.hid (HB3.out.trans (hb4.mono hbw3))
        have HOW4 := Lib.hid (ownsRow_touch (Touch.below (ts := []) hb4) (by simp) HOW.out)
        clear hb4
        have p1 : w4.cell? ⟨p, 1, none⟩ = some (.int .i64 S.time) := by
          obtain ⟨_, _, _, _, hP, _⟩ := HS4.out
          rw [Lib.cell_of_heap hP]; rfl
        have hbw4 : base ≤ w4.heap.size := by have := HBW4.out.size; omega
        cases hO : outsB S I PS with
        | false =>
          have HE : Hid (S.takes l = none) := Lib.hid (by rw [HTK.out, hO]; rfl)
          go_wp2_with fail
          go_ret
          rw [HE.out]
          exact ⟨rfl, HS4.out, HBW4.out⟩
        | true =>
          cases c2 : decide (T < S.time) with
          | true =>
            have HE : Hid (S.takes l = none) := Lib.hid (by rw [HTK.out, hO, decide_eq_false (show ¬ S.time ≤ T by simp at c2; omega)]; rfl)
            go_wp2_with fail
            go_ret
            rw [HE.out]
            exact ⟨rfl, HS4.out, HBW4.out⟩
          | false =>
            cases c3 : decide (1000000000 < (T : Int)) with
            | true =>
              have HE : Hid (S.takes l = none) := Lib.hid (by rw [HTK.out, hO, decide_eq_false (show ¬ T ≤ 1000000000 by simp at c3; omega)]; simp)
              go_wp2_with fail
              go_ret
              rw [HE.out]
              exact ⟨rfl, HS4.out, HBW4.out⟩
            | false =>
              have HTK2 : Hid (S.takes l = if (70 :: (beBytes 4 T ++ listedE I PS) == l) then some ((S.outs (I - 1) PS).failed (S.mailOf (I - 1)) PS T) else none) := Lib.hid (by
                rw [HTK.out, hO, decide_eq_true (show S.time ≤ T by simp at c2; omega), decide_eq_true (show T ≤ 1000000000 by simp at c3; omega)]
                simp)
              have hby := refBytes_any T 4 w4 (by unfold maxLen; omega) (by decide)
              obtain ⟨P, eP⟩ : ∃ P, beBytes 4 T = P := ⟨_, rfl⟩
              have hPP : P.length = 4 := by rw [← eP, beBytes_len]
              obtain ⟨L, eL⟩ : ∃ L, listedE I PS = L := ⟨_, rfl⟩
              have hLl : L.length ≤ 300 := by rw [← eL]; unfold listedE; rw [List.length_append, List.length_append, beBytes_len, beBytes_len, placesE_len]; omega
              have hLi := fun w' hb' => refListed_any I (.slice a PS.length cap) PS w' (by unfold maxLen; omega) (row_of_own (ownsRow_touch (Touch.below (ts := []) hb') (by simp) HOW4.out)) (by omega) HP2.out
              rw [eP] at hby HTK2
              rw [eL] at hLi HTK2
              rw [hPl] at hLi
              have sP := bs_size P
              have sL := bs_size L
              have HBY := Lib.hid hby
              have HLI := Lib.hid hLi
              clear hby hLi eP eL
              go_wp2_with fail
              refine HBY.out.mono ?_
              rintro e w5 ⟨rfl, hb5⟩
              have HB5 := Lib.hid hb5
              clear hb5
              go_wp2_with fail
              refine (HLI.out _ HB5.out).mono ?_
              rintro e w6 ⟨rfl, hb6⟩
              have HB6 := Lib.hid (HB5.out.trans (hb6.mono HB5.out.size))
              clear hb6
              have hs6 : (bs P ++ bs L).size ≤ 304 := by rw [bs_append, bs_size, List.length_append]; omega
              go_wp2_with fail
              · have h : (!((⟨#[70]⟩ : ByteArray) ++ bs P ++ bs L).toList == (bs l).toList) = true := by assumption
                have HE : Hid (S.takes l = none) := Lib.hid (by
                  rw [show (⟨#[70]⟩ : ByteArray) = bs [70] from rfl, bs_append, bs_append, bs_beq] at h
                  have h' : (70 :: (P ++ L) == l) = false := by simpa using h
                  rw [HTK2.out, h']; rfl)
                go_ret
                rw [HE.out]
                exact ⟨rfl, HS4.out.touch (Touch.below (ts := []) HB6.out) (by simp) (by simp) (by simp) (by simp), HBW4.out.trans (HB6.out.mono hbw4)⟩
              · have h : (!((⟨#[70]⟩ : ByteArray) ++ bs P ++ bs L).toList == (bs l).toList) = false := by assumption
                have HE : Hid (S.takes l = some ((S.outs (I - 1) PS).failed (S.mailOf (I - 1)) PS T)) := Lib.hid (by
                  rw [show (⟨#[70]⟩ : ByteArray) = bs [70] from rfl, bs_append, bs_append, bs_beq] at h
                  have h' : (70 :: (P ++ L) == l) = true := by simpa using h
                  rw [HTK2.out, h']; rfl)
                have hI1 : 1 ≤ I := by
                  unfold outsB at hO
                  simp only [Bool.and_eq_true, decide_eq_true_eq] at hO
                  omega
                obtain ⟨K, rfl⟩ : ∃ K, I = K + 1 := ⟨I - 1, by omega⟩
                obtain ⟨hKS, hK2⟩ := outs_lt hO
                have hx : S.items[K]? = some S.items[K] := List.getElem?_eq_getElem hKS
                have hol := HS4.out.out_len hx
                have hmo : S.mailOf (K + 1 - 1) = S.items[K].m := by unfold PStore.mailOf; rw [show K + 1 - 1 = K by omega, hx]; rfl
                have hg1 : ((S.items.map (·.out)).getD K []) = S.items[K].out := by rw [List.getD_eq_getElem?_getD, List.getElem?_map, hx]; rfl
                rw [hg1, hol] at hK2
                have hit : (S.outs K PS).items[K]? = some ⟨S.items[K].m, outSet S.items[K].out PS⟩ := by
                  unfold PStore.outs
                  simp only
                  rw [List.getElem?_modify, hx]
                  simp
                have hnn : (S.outs K PS).items.length = S.items.length := by unfold PStore.outs; simp
                have hv6 := ownsRow_touch (Touch.below (ts := []) HB6.out) (by simp) HOW4.out
                have hR := refOut_any base w2.heap.size p K S (.slice a PS.length cap) PS w6 (HS4.out.touch (Touch.below (ts := []) HB6.out) (by simp) (by simp) (by simp) (by simp)) (by omega) hv6 (by omega) HP2.out hO
                rw [hPl] at hR
                refine hR.mono ?_
                rintro e w7 ⟨rfl, r1, r2, r3⟩
                have hF := refFailed_any base w2.heap.size p K T (S.outs K PS) ⟨S.items[K].m, outSet S.items[K].out PS⟩ (.slice a PS.length cap) PS w7 r1 (by omega) hT4 (ownsRow_touch r2 (by decide) hv6) (by omega) hit hK2
                rw [hPl] at hF
                have HF := Lib.hid hF
                have R3 := Lib.hid (HBW4.out.trans ((HB6.out.mono hbw4).trans r3))
                have HMO := Lib.hid hmo
                clear r1 r2 r3 hR hv6 hF hmo hg1 hit hnn hx hol hK2
                go_wp2_with fail
                refine HF.out.mono ?_
                rintro e w8 ⟨rfl, f1, f2, f3⟩
                have G1 := Lib.hid f1
                have G3 := Lib.hid (R3.out.trans f3)
                clear f1 f2 f3
                go_wp2_with fail
                go_ret
                rw [HE.out, HMO.out]
                exact ⟨rfl, G1.out, G3.out⟩
      · have m3 : ((bs t).toList == [70]) = false := by rw [eq_lit]; simpa using hF
        have HE : Hid (S.takes l = none) := Lib.hid (takes_no (by rw [HTT.out]; exact hM) (by rw [HTT.out]; exact hG) (by rw [HTT.out]; exact hF))
        have T1 : Touch [194] W0 w1 := (Touch.refl _ W0).same HR0.out (by simp) S1.out
        have HS2 : Hid (StoreIn base w1 p S) := Lib.hid (HS0.out.touch T1 (by decide) (by decide) (by decide) (by decide))
        clear hM hG hF T1
        go_wp2_with fail
        go_ret
        rw [HE.out]
        exact ⟨rfl, HS2.out, HB0.out.trans (S1.out.below hb)⟩
end Go.Proofs.YtgjjjdccbpjnfaaGreatDoor
