import Derived.Test.YtadcidbeealdpaaGreatDoorS11
import Derived.Test.YtadcidbeealdpaaGreatDoorS08
import Derived.Test.YtadcidbeealdpaaGreatDoorS07
import Derived.Maps.OwnSet
import Derived.WalkArith
import Derived.Test.YtadcidbeealdpaaGreatDoorS01
import Derived.Deep.AppendLies

/- The body of a return. -/
namespace Go.Proofs.YtadcidbeealdpaaGreatDoor
open Go.RowKit

def namesE (l : List (List UInt8)) : List UInt8 := notE ++ l.flatMap fun t => [13, 10] ++ t
theorem namesE_take (l : List (List UInt8)) (k : Nat) (h : k < l.length) : namesE (l.take (k + 1)) = namesE (l.take k) ++ ([13, 10] ++ l[k]) := by
  unfold namesE
  rw [List.take_succ_eq_append_getElem h, List.flatMap_append]
  simp
theorem namesE_body (tos : List (List UInt8)) (ps : List Nat) : namesE (ps.map fun i => tos.getD i []) = bodyE tos ps := by
  unfold namesE bodyE
  rw [List.flatMap_map]
  rfl

set_option maxHeartbeats 400000 in
set_option maxRecDepth 100000 in
theorem returnBody_any (l : List (List UInt8)) (v : Value) (w : World) (h : RowAt w v l.length 1 (textCells l)) (hl : l.length ≤ 255) (hs : ∀ t ∈ l, t.length ≤ 255) :
    Calls Tryz.prog 103 #[v] w fun e w' => e = .returned (.string (bs (namesE l))) ∧ w = w' := by
  obtain ⟨a, cap, rfl, hc⟩ := h.one
  have HC := Lib.hid hc
  have HS := Lib.hid hs
  clear h hc hs
  go_enter Tryz.func103, Tryz.ntmps103
  go_wp2_with fail
  go_loop [3, 8] (fun b i => ∃ (k : Nat) (B : List UInt8), k ≤ l.length ∧ i = .int .i64 k ∧ b = .string (bs B) ∧ B.length ≤ 14 + 257 * k ∧ Hid (B = namesE (l.take k))) (fun _ i => l.length - (intOf i).toNat)
  case atStart => exact ⟨0, notE, Nat.zero_le _, rfl, rfl, by decide, Lib.hid (by simp [namesE])⟩
  case round =>
    obtain ⟨k, B, hk, rfl, rfl, hB, HB⟩ := hrel
    have sB := bs_size B
    by_cases hlt : k < l.length
    · have hlti : (k : Int) < (l.length : Int) := by omega
      obtain ⟨b, off, rfl, hbw, hcell⟩ := HC.out k hlt
      rw [textCells_get l k hlt] at hcell
      have hln := HS.out l[k] (List.getElem_mem hlt)
      have HN := Lib.hid (namesE_take l k hlt)
      obtain ⟨t, et⟩ : ∃ t, l[k] = t := ⟨_, rfl⟩
      rw [et] at hcell hln HN
      have st := bs_size t
      have s2 : ((⟨#[13, 10]⟩ : ByteArray) ++ bs t).size ≤ 257 := by rw [show (⟨#[13, 10]⟩ : ByteArray) = bs [13, 10] from rfl, bs_append, bs_size]; simp; omega
      clear et
      go_wp2_with fail
      refine ⟨⟨k + 1, B ++ ([13, 10] ++ t), by omega, by go_num, ?_, by simp; omega, Lib.hid (by rw [HN.out, ← HB.out])⟩, by simp [intOf]; omega⟩
      rw [show (⟨#[13, 10]⟩ : ByteArray) = bs [13, 10] from rfl, bs_append, bs_append]
    · have hk9 : k = l.length := by omega
      subst hk9
      rw [List.take_length] at HB
      go_wp2_with fail
      go_ret
      exact ⟨by rw [← HB.out]; rfl, rfl⟩
end Go.Proofs.YtadcidbeealdpaaGreatDoor

/- Is a number among some? -/
namespace Go.Proofs.YtadcidbeealdpaaGreatDoor
open Go.RowKit

theorem natCells_get (l : List Nat) (k : Nat) (h : k < l.length) : (natCells l)[k]? = some (.int .i64 (l[k] : Int)) := by simp [natCells, h]
theorem not_mem_takeN {l : List Nat} {t : Nat} {k : Nat} (hk : k < l.length) (h : t ∉ l.take k) (hn : ¬ t = l[k]) : t ∉ l.take (k + 1) := by
  rw [List.take_succ_eq_append_getElem hk, List.mem_append, List.mem_singleton]
  rintro (h1 | h1)
  · exact h h1
  · exact hn h1

set_option maxHeartbeats 400000 in
set_option maxRecDepth 100000 in
theorem indexInt_any (l : List Nat) (t : Nat) (v : Value) (w : World) (h : RowAt w v l.length 1 (natCells l)) (hl : l.length ≤ 255) :
    Calls Tryz.prog 214 #[v, .int .i64 (t : Int)] w fun e w' => ∃ r : Int, e = .returned (.int .i64 r) ∧ (-1 ≤ r ∧ r ≤ 255) ∧ (0 ≤ r ↔ t ∈ l) ∧ w = w' := by
  obtain ⟨a, cap, rfl, hc⟩ := h.one
  have HC := Lib.hid hc
  clear hc h
  go_enter Tryz.func214, Tryz.ntmps214
  go_wp2_with fail
  go_loop [8] (fun i => ∃ k : Nat, k ≤ l.length ∧ i = .int .i64 k ∧ Hid (t ∉ l.take k)) (fun i => l.length - (intOf i).toNat)
  case atStart => exact ⟨0, Nat.zero_le _, rfl, Lib.hid (by simp)⟩
  case round =>
    obtain ⟨k, hk, rfl, HN⟩ := hrel
    by_cases hlt : k < l.length
    · have hlti : (k : Int) < (l.length : Int) := by omega
      obtain ⟨b, off, rfl, _, hcell⟩ := HC.out k hlt
      rw [natCells_get l k hlt] at hcell
      by_cases he : t = l[k]
      · have hq : ((t : Int) == (l[k] : Int)) = true := by rw [he]; simp
        have HM : Hid (t ∈ l) := Lib.hid (by rw [he]; exact List.getElem_mem hlt)
        clear he
        go_wp2_with fail
        go_ret
        exact ⟨_, rfl, by omega, ⟨fun _ => HM.out, fun _ => by omega⟩, rfl⟩
      · have hq : ((t : Int) == (l[k] : Int)) = false := by rw [beq_eq_false_iff_ne]; omega
        have HM := Lib.hid (not_mem_takeN hlt HN.out he)
        clear he
        go_wp2_with fail
        exact ⟨⟨k + 1, by omega, by go_num, HM⟩, by simp [intOf]; omega⟩
    · have hk9 : k = l.length := by omega
      subst hk9
      have HM : Hid (t ∉ l) := Lib.hid (by
        have := HN.out
        rwa [List.take_length] at this)
      go_wp2_with fail
      go_ret
      exact ⟨_, rfl, by omega, ⟨fun h => by omega, fun h => absurd h HM.out⟩, rfl⟩

set_option maxHeartbeats 400000 in
set_option maxRecDepth 100000 in
theorem containsInt_any (l : List Nat) (t : Nat) (v : Value) (w : World) (h : RowAt w v l.length 1 (natCells l)) (hl : l.length ≤ 255) :
    Calls Tryz.prog 182 #[v, .int .i64 (t : Int)] w fun e w' => e = .returned (.bool (l.contains t)) ∧ w = w' := by
  have hi := indexInt_any l t v w h hl
  obtain ⟨a, cap, rfl, _⟩ := h.one
  clear h
  go_enter Tryz.func182, Tryz.ntmps182
  go_wp2_with fail
  refine hi.mono ?_
  rintro e w1 ⟨r, rfl, hr, hd, rfl⟩
  have HD : Hid (decide (0 ≤ r) = l.contains t) := Lib.hid (by rw [Bool.eq_iff_iff, decide_eq_true_iff, List.contains_iff_mem]; exact hd)
  clear hd hi
  go_wp2_with fail
  go_ret
  exact ⟨ret_bool HD.out, rfl⟩
end Go.Proofs.YtadcidbeealdpaaGreatDoor

/- Those who leave a mail, those who stay. -/
namespace Go.Proofs.YtadcidbeealdpaaGreatDoor
open Go.RowKit

theorem recCells_at (l : List (Nat × List UInt8)) (k : Nat) (h : k < l.length) : (recCells l)[k * 2]? = some (.int .i64 (l[k].1 : Int)) ∧ (recCells l)[k * 2 + 1]? = some (.string (bs l[k].2)) := by
  induction l generalizing k with
  | nil => simp at h
  | cons x l ih =>
    show ([Value.int .i64 (x.1 : Int), .string (bs x.2)] ++ recCells l)[k * 2]? = _ ∧ ([Value.int .i64 (x.1 : Int), .string (bs x.2)] ++ recCells l)[k * 2 + 1]? = _
    cases k with
    | zero => exact ⟨rfl, rfl⟩
    | succ k =>
      have := ih k (by simpa using h)
      rw [List.getElem?_append_right (by simp only [List.length_cons, List.length_nil]; omega), List.getElem?_append_right (by simp only [List.length_cons, List.length_nil]; omega)]
      simp only [List.length_cons, List.length_nil]
      rw [show (k + 1) * 2 - (0 + 1 + 1) = k * 2 by omega, show (k + 1) * 2 + 1 - (0 + 1 + 1) = k * 2 + 1 by omega]
      exact this
def gonesOf (l : List (Nat × List UInt8)) (ps : List Nat) : List (List UInt8) := (l.filter fun r => ps.contains r.1).map (·.2)
def staysOf (l : List (Nat × List UInt8)) (ps : List Nat) : List (Nat × List UInt8) := l.filter fun r => !(ps.contains r.1)
theorem part_take (l : List (Nat × List UInt8)) (ps : List Nat) (k : Nat) (h : k < l.length) : (ps.contains l[k].1 = true → gonesOf (l.take (k + 1)) ps = gonesOf (l.take k) ps ++ [l[k].2] ∧ staysOf (l.take (k + 1)) ps = staysOf (l.take k) ps) ∧ (ps.contains l[k].1 = false → gonesOf (l.take (k + 1)) ps = gonesOf (l.take k) ps ∧ staysOf (l.take (k + 1)) ps = staysOf (l.take k) ps ++ [l[k]]) := by
  unfold gonesOf staysOf
  rw [List.take_succ_eq_append_getElem h, List.filter_append, List.filter_append]
  constructor
  · intro e
    simp only [List.filter_cons, e, List.filter_nil, Bool.not_true, if_true, Bool.false_eq_true, if_false, List.append_nil, List.map_append]
    exact ⟨rfl, trivial⟩
  · intro e
    simp only [List.filter_cons, e, List.filter_nil, Bool.not_false, if_true, Bool.false_eq_true, if_false, List.append_nil]
    exact ⟨trivial, trivial⟩
theorem gones_le (l : List (Nat × List UInt8)) (ps : List Nat) : (gonesOf l ps).length ≤ l.length := by unfold gonesOf; rw [List.length_map]; exact List.length_filter_le _ _
theorem stays_le (l : List (Nat × List UInt8)) (ps : List Nat) : (staysOf l ps).length ≤ l.length := List.length_filter_le _ _
theorem far_row {w9 wa w10 : World} {base n m sz sz' : Nat} {e e' : TypeId} {x y : Value} {xs ys : List Value} (hx : w9.ownsRow base e sz x n xs) (hy : w9.ownsRow base e' sz' y m ys) (hne : e' ≠ e) (hB : Below w9.heap.size w9 wa) (hgrow : wa.grownBy w10 x.ownBlock) : w10.ownsRow base e' sz' y m ys := by
  refine (ownsRow_touch (Touch.below (ts := []) hB) (by simp) hy).kept hgrow ?_
  rcases hy.2 with ⟨e1, _⟩ | ⟨g, cap, cur, e1, _, hg, _⟩
  · subst e1; exact .inl rfl
  · refine .inr fun e2 => ?_
    rcases hx.2 with ⟨e3, _⟩ | ⟨g', cap', cur', e3, _, hg', _⟩
    · rw [e3, e1] at e2; cases e2
    · rw [e3, e1] at e2
      injection e2 with e2
      exact tag_ne hg hg' hne e2

set_option maxHeartbeats 1000000 in
set_option maxRecDepth 100000 in
theorem mailLeave_any (base q time : Nat) (frm body : List UInt8) (v vp : Value) (l : List (Nat × List UInt8)) (ps : List Nat) (x : Int × Int) (w : World) (h : BmAt w q time frm v body x) (_hb : base ≤ q) (hv : w.ownsRow base 152 2 v l.length (recCells l)) (hp : RowAt w vp ps.length 1 (natCells ps)) (hl : l.length ≤ 255) (hpl : ps.length ≤ 255) :
    Calls Tryz.prog 140 #[.pointer (some ⟨q, 0, none⟩), vp] w fun e w' => ∃ vn vs, e = .returned vn ∧ w'.ownsRow w.heap.size 9 1 vn (gonesOf l ps).length (textCells (gonesOf l ps)) ∧ BmAt w' q time frm vs body x ∧ w'.ownsRow w.heap.size 152 2 vs (staysOf l ps).length (recCells (staysOf l ps)) ∧ But q w w' := by
  obtain ⟨a, cap, rfl, _⟩ := hp.one
  have HP := Lib.hid hp
  have HV := Lib.hid hv
  have HH := Lib.hid h
  have k2 : w.cell? ⟨q, 2, none⟩ = some v := by rw [Lib.cell_of_heap h]; rfl
  obtain ⟨av, cv, rfl⟩ : ∃ a c, v = .slice a l.length c := by
    rcases hv.2 with ⟨e, h0⟩ | ⟨g, cap, cur, e, _⟩
    · exact ⟨_, _, by rw [h0]; exact e⟩
    · exact ⟨_, _, e⟩
  obtain ⟨s, hs⟩ : ∃ s, w.heap.size = s := ⟨_, rfl⟩
  have HSS := Lib.hid hs
  obtain ⟨is, his, hzs0, hzs1, hzs2⟩ := info_parts info_str'
  obtain ⟨ir, hir, hzr0, hzr1, hzr2⟩ := info_parts info_recip
  have hqs : q < s := by rw [← hs]; exact heap_lt h
  clear h hv hp hs
  go_enter Tryz.func140, Tryz.ntmps140
  go_wp2_with fail
  go_loopw [5, 6, 14] (fun vn vs i w' => ∃ k : Nat, k ≤ l.length ∧ i = .int .i64 k ∧ Hid (w'.ownsRow s 9 1 vn (gonesOf (l.take k) ps).length (textCells (gonesOf (l.take k) ps))) ∧ Hid (w'.ownsRow s 152 2 vs (staysOf (l.take k) ps).length (recCells (staysOf (l.take k) ps))) ∧ Hid (Below s w w')) (fun _ _ i _ => l.length - (intOf i).toNat)
  case atStart => exact ⟨0, Nat.zero_le _, rfl, Lib.hid (World.ownsRow_nil _ _ _ _), Lib.hid (World.ownsRow_nil _ _ _ _), Lib.hid (by rw [← HSS.out]; exact Below.refl _ _)⟩
  case round =>
    obtain ⟨k, hk, rfl, HN, HST, HB⟩ := hrel
    by_cases hlt : k < l.length
    · have hlti : (k : Int) < (l.length : Int) := by omega
      have HPT := Lib.hid (part_take l ps k hlt)
      have hgl := gones_le (l.take k) ps
      have hsl := stays_le (l.take k) ps
      rw [List.length_take] at hgl hsl
      obtain ⟨G, eG⟩ : ∃ G, gonesOf (l.take k) ps = G := ⟨_, rfl⟩
      obtain ⟨R, eR⟩ : ∃ R, staysOf (l.take k) ps = R := ⟨_, rfl⟩
      rw [eG] at HN hgl HPT
      rw [eR] at HST hsl HPT
      obtain ⟨g, rfl, c0, c1⟩ : ∃ g, av = some ⟨g, 0, none⟩ ∧ w.cell? ⟨g, k * 2, none⟩ = some (.int .i64 (l[k].1 : Int)) ∧ w.cell? ⟨g, k * 2 + 1, none⟩ = some (.string (bs l[k].2)) := by
        rcases HV.out.2 with ⟨_, h0⟩ | ⟨g, cp, cur, e, _, hg, _, _, _, htk⟩
        · omega
        · injection e with e1 _ _
          refine ⟨g, e1, ?_, ?_⟩
          · rw [Lib.cell_of_heap hg, ← Array.getElem?_toList, ← List.getElem?_take_of_lt (show k * 2 < l.length * 2 by omega), htk]; exact (recCells_at l k hlt).1
          · rw [Lib.cell_of_heap hg, ← Array.getElem?_toList, ← List.getElem?_take_of_lt (show k * 2 + 1 < l.length * 2 by omega), htk]; exact (recCells_at l k hlt).2
      have d0 : wr.cell? ⟨g, k * 2, none⟩ = some (.int .i64 (l[k].1 : Int)) := (HB.out.cell (by show g < s; rw [← HSS.out]; exact block_lt c0)).trans c0
      have d1 : wr.cell? ⟨g, k * 2 + 1, none⟩ = some (.string (bs l[k].2)) := (HB.out.cell (by show g < s; rw [← HSS.out]; exact block_lt c1)).trans c1
      obtain ⟨x, ex⟩ : ∃ x, l[k] = x := ⟨_, rfl⟩
      rw [ex] at d0 d1 HPT
      obtain ⟨P, T⟩ := x
      simp only at d0 d1
      have hsr : s ≤ wr.heap.size := by have := HB.out.size; have := HSS.out; omega
      obtain ⟨W1, hW1⟩ : ∃ W1 : World, wr.alloc (.cells #[.int .i64 (P : Int), .string (bs T)] 152) = W1 := ⟨_, rfl⟩
      have hB1 : Below wr.heap.size wr W1 := by rw [← hW1]; exact (Below.refl _ _).alloc (Nat.le_refl _) _
      have hX1 : W1.heap[wr.heap.size]? = some (.cells #[.int .i64 (P : Int), .string (bs T)] 152 (0, 0)) := by rw [← hW1]; exact heap_alloc_new wr _
      have p0 : W1.cell? ⟨wr.heap.size, 0, none⟩ = some (.int .i64 (P : Int)) := by rw [Lib.cell_of_heap hX1]; rfl
      have p1 : W1.cell? ⟨wr.heap.size, 1, none⟩ = some (.string (bs T)) := by rw [Lib.cell_of_heap hX1]; rfl
      have BW : Hid (Below s w W1) := Lib.hid (HB.out.trans (hB1.mono hsr))
      have HCT := Lib.hid (containsInt_any ps P (.slice a ps.length cap) W1 (HP.out.below (by rw [HSS.out]; exact BW.out)) hpl)
      have N1 := ownsRow_touch (Touch.below (ts := []) hB1) (by simp) HN.out
      have R1 := ownsRow_touch (Touch.below (ts := []) hB1) (by simp) HST.out
      have hz1 : s ≤ W1.heap.size := by have := hB1.size; omega
      have HW1 := Lib.hid hW1
      have HHN := Lib.hid N1
      have HHR := Lib.hid R1
      clear hW1 hB1 hX1 ex c0 c1 eG eR HN HST HB
      cases hq : ps.contains P with
      | true =>
        obtain ⟨q1, q2⟩ := HPT.out.1 hq
        have Q1 := Lib.hid q1
        have Q2 := Lib.hid q2
        rw [hq] at HCT
        clear q1 q2 HPT hq
        go_wp2_with fail
        rw [HW1.out]
        refine HCT.out.mono ?_
        rintro e w2 ⟨rfl, rfl⟩
        go_wp2_with (first
          | (at_builtin; refine wpList_append_own _ rfl _ _ 23 rfl s 9 is (.string ⟨#[]⟩) 1 16 Tryz.underlying23 his hzs0 hzs1 hzs2 rfl (by decide) _ _ _ rfl (N1.alloc _) ⟨W1.heap.size, 0, none⟩ 1 1 [.string (bs T)] rfl rfl ?c1 ?c2 ?c3 ?c4 ?c5 ?_)
          | fail)
        case c1 => exact World.news_of_block (cs := #[.string (bs T)]) (t := 9) (fr := (0, 0)) (heap_alloc_new W1 _)
        case c2 => intro u hu; simp at hu; subst hu; rfl
        case c3 => unfold maxLen; omega
        case c4 => omega
        case c5 => simp; omega
        · intro v' w4 hown hgrow _
          have hR4 := Lib.hid (far_row N1 R1 (by decide) ((Below.refl _ _).alloc (Nat.le_refl _) _) hgrow)
          have hB4 := Lib.hid ((BW.out.alloc hz1 _).grown hgrow (by simp; omega) (fun k hk => (N1.lt k hk).1))
          have HOW := Lib.hid hown
          clear hown hgrow N1 R1
          go_wp2_with fail
          exact ⟨⟨k + 1, by omega, by go_num, Lib.hid (by rw [Q1.out]; simpa [textCells] using HOW.out), Lib.hid (by rw [Q2.out]; exact hR4.out), hB4⟩, by simp [intOf]; omega⟩
      | false =>
        obtain ⟨q1, q2⟩ := HPT.out.2 hq
        have Q1 := Lib.hid q1
        have Q2 := Lib.hid q2
        rw [hq] at HCT
        clear q1 q2 HPT hq
        go_wp2_with fail
        rw [HW1.out]
        refine HCT.out.mono ?_
        rintro e w2 ⟨rfl, rfl⟩
        go_wp2_with (first
          | (at_builtin; refine wpList_append_own _ rfl _ _ 147 rfl s 152 ir _ 2 24 Tryz.underlying147 hir hzr0 hzr1 hzr2 rfl (by decide) _ _ _ rfl (R1.alloc _) ⟨W1.heap.size, 0, none⟩ 1 1 [.int .i64 (P : Int), .string (bs T)] rfl rfl ?c1 ?c2 ?c3 ?c4 ?c5 ?_)
          | fail)
        case c1 => exact World.news_of_block (cs := #[.int .i64 (P : Int), .string (bs T)]) (t := 152) (fr := (0, 0)) (heap_alloc_new W1 _)
        case c2 => intro u hu; simp at hu; rcases hu with rfl | rfl <;> rfl
        case c3 => unfold maxLen; omega
        case c4 => omega
        case c5 => simp; omega
        · intro v' w4 hown hgrow _
          have hN4 := Lib.hid (far_row R1 N1 (by decide) ((Below.refl _ _).alloc (Nat.le_refl _) _) hgrow)
          have hB4 := Lib.hid ((BW.out.alloc hz1 _).grown hgrow (by simp; omega) (fun k hk => (R1.lt k hk).1))
          have HOW := Lib.hid hown
          clear hown hgrow N1 R1
          go_wp2_with fail
          exact ⟨⟨k + 1, by omega, by go_num, Lib.hid (by rw [Q1.out]; exact hN4.out), Lib.hid (by rw [Q2.out, recCells_snoc, List.length_append]; exact HOW.out), hB4⟩, by simp [intOf]; omega⟩
    · have hk9 : k = l.length := by omega
      subst hk9
      rw [List.take_length] at HN HST
      have hP : BmAt wr q time frm (.slice av l.length cv) body x := by
        have := HH.out
        unfold BmAt at this ⊢
        rw [HB.out.block q hqs]; exact this
      have m2 : ∃ u, wr.cell? ⟨q, 2, none⟩ = some u := ⟨_, by rw [Lib.cell_of_heap hP]; rfl⟩
      obtain ⟨u2, m2⟩ := m2
      have f2 := Lib.frozen_of_heap hP 2
      have HPP := Lib.hid hP
      obtain ⟨gs, cs, e6⟩ : ∃ a c, u6 = .slice a (staysOf l ps).length c := by
        rcases HST.out.2 with ⟨e, h0⟩ | ⟨g, cap, cur, e, _⟩
        · exact ⟨_, _, by rw [h0]; exact e⟩
        · exact ⟨_, _, e⟩
      subst e6
      clear hP
      go_wp2_with fail
      go_ret
      have hq' := heap_setCell_same wr q 2 _ _ (.slice gs (staysOf l ps).length cs) HPP.out
      have hS : Same q wr (wr.setCell ⟨q, 2, none⟩ (.slice gs (staysOf l ps).length cs)) := (Same.refl _ _).setCell _
      refine ⟨u5, .slice gs (staysOf l ps).length cs, rfl, ?_, hq', ?_, ?_⟩
      · rw [HSS.out]; exact ownsRow_same HN.out hS hqs
      · rw [HSS.out]; exact ownsRow_same HST.out hS hqs
      · exact ⟨by rw [hS.1]; exact HB.out.size, fun k hk hne => (hS.2 k hne).trans (HB.out.block k (by rw [← HSS.out]; exact hk)), (Still.of_below HB.out).trans hS.3⟩
end Go.Proofs.YtadcidbeealdpaaGreatDoor

/- Plain mathematics: which mails still have somebody, and what becomes of them. -/
namespace Go.Proofs.YtadcidbeealdpaaGreatDoor

def PStore.stayOf (S : PStore) (i : Nat) : List (Nat × List UInt8) := stay (S.mailOf i).tos (S.outOf i)
/-- the mails that still have recipients, by their numbers from 0 on -/
def PStore.live (S : PStore) : List Nat := (List.range S.items.length).filter fun i => !(S.stayOf i).isEmpty
def PStore.plus (S : PStore) (m : PMail) : PStore := ⟨S.items ++ [⟨m, List.replicate m.tos.length false⟩], m.time⟩

theorem mailOf_lt {S : PStore} {i : Nat} (h : i < S.items.length) : S.mailOf i = S.items[i].m := by
  unfold PStore.mailOf
  rw [List.getElem?_eq_getElem h]; rfl
theorem outOf_lt {S : PStore} {i : Nat} (h : i < S.items.length) : S.outOf i = S.items[i].out := by
  unfold PStore.outOf
  rw [List.getD_eq_getElem?_getD, List.getElem?_map, List.getElem?_eq_getElem h]; rfl
theorem stayOf_lt {S : PStore} {i : Nat} (h : i < S.items.length) : S.stayOf i = stay S.items[i].m.tos S.items[i].out := by
  unfold PStore.stayOf
  rw [mailOf_lt h, outOf_lt h]
theorem stayOf_ge {S : PStore} {i : Nat} (h : S.items.length ≤ i) : S.stayOf i = [] := by
  unfold PStore.stayOf PStore.outOf
  rw [List.getD_eq_getElem?_getD, List.getElem?_eq_none (by rw [List.length_map]; exact h)]
  rfl
theorem mem_live {S : PStore} {i : Nat} : i ∈ S.live ↔ i < S.items.length ∧ S.stayOf i ≠ [] := by
  unfold PStore.live
  rw [List.mem_filter, List.mem_range]
  simp
theorem live_nodup (S : PStore) : S.live.Nodup := List.Pairwise.filter _ List.nodup_range
theorem live_lt {S : PStore} {i : Nat} (h : i ∈ S.live) : i < S.items.length := (mem_live.1 h).1
theorem live_of {S : PStore} {i : Nat} (h : S.stayOf i ≠ []) : i ∈ S.live := by
  refine mem_live.2 ⟨?_, h⟩
  rcases Nat.lt_or_ge i S.items.length with h' | h'
  · exact h'
  · exact absurd (stayOf_ge h') h

/-! one mail more -/
theorem plus_len (S : PStore) (m : PMail) : (S.plus m).items.length = S.items.length + 1 := by simp [PStore.plus]
theorem plus_mailOf {S : PStore} {m : PMail} {i : Nat} (h : i < S.items.length) : (S.plus m).mailOf i = S.mailOf i := by
  rw [mailOf_lt h, mailOf_lt (by rw [plus_len]; omega)]
  simp only [PStore.plus]
  rw [List.getElem_append_left h]
theorem plus_stayOf {S : PStore} {m : PMail} {i : Nat} (h : i < S.items.length) : (S.plus m).stayOf i = S.stayOf i := by
  rw [stayOf_lt h, stayOf_lt (by rw [plus_len]; omega)]
  simp only [PStore.plus]
  rw [List.getElem_append_left h]
theorem plus_mailOf_new (S : PStore) (m : PMail) : (S.plus m).mailOf S.items.length = m := by
  rw [mailOf_lt (by rw [plus_len]; omega)]
  simp [PStore.plus]
theorem plus_stayOf_new (S : PStore) (m : PMail) : (S.plus m).stayOf S.items.length = stay m.tos (List.replicate m.tos.length false) := by
  rw [stayOf_lt (by rw [plus_len]; omega)]
  simp [PStore.plus]
theorem stay_all_ne {m : PMail} (h : 1 ≤ m.tos.length) : stay m.tos (List.replicate m.tos.length false) ≠ [] := by
  rw [stay_all]
  intro e
  have := congrArg List.length e
  simp only [List.length_map, List.length_range, List.length_nil] at this
  omega
theorem plus_live {S : PStore} {m : PMail} (h : 1 ≤ m.tos.length) : (S.plus m).live = S.live ++ [S.items.length] := by
  unfold PStore.live
  rw [plus_len, List.range_succ, List.filter_append]
  congr 1
  · apply List.filter_congr
    intro i hi
    rw [plus_stayOf (List.mem_range.1 hi)]
  · rw [List.filter_cons, plus_stayOf_new, if_pos]
    · rfl
    · have := stay_all_ne h
      simpa using this

/-! somebody leaves -/
theorem outs_len (S : PStore) (K : Nat) (ps : List Nat) : (S.outs K ps).items.length = S.items.length := by simp [PStore.outs]
theorem outs_mailOf (S : PStore) (K : Nat) (ps : List Nat) (i : Nat) : (S.outs K ps).mailOf i = S.mailOf i := by
  unfold PStore.mailOf PStore.outs
  rw [List.getElem?_modify]
  by_cases h : K = i
  · subst h
    cases S.items[K]? <;> simp
  · simp [h]
theorem outs_stayOf_ne {S : PStore} {K i : Nat} {ps : List Nat} (h : i ≠ K) : (S.outs K ps).stayOf i = S.stayOf i := by
  unfold PStore.stayOf
  rw [outs_mailOf]
  congr 1
  unfold PStore.outOf PStore.outs
  rw [List.getD_eq_getElem?_getD, List.getD_eq_getElem?_getD, List.getElem?_map, List.getElem?_map, List.getElem?_modify]
  simp [Ne.symm h]
theorem outs_stayOf {S : PStore} {K : Nat} {ps : List Nat} (h : K < S.items.length) : (S.outs K ps).stayOf K = staysOf (S.stayOf K) ps := by
  rw [stayOf_lt (by rw [outs_len]; exact h), stayOf_lt h]
  unfold staysOf
  rw [← stay_outSet]
  have e1 : (S.outs K ps).items[K]'(by rw [outs_len]; exact h) = ⟨S.items[K].m, outSet S.items[K].out ps⟩ := by
    simp [PStore.outs]
  rw [e1]
theorem outs_live_some {S : PStore} {K : Nat} {ps : List Nat} (h : K ∈ S.live) (hs : staysOf (S.stayOf K) ps ≠ []) : (S.outs K ps).live = S.live := by
  unfold PStore.live
  rw [outs_len]
  apply List.filter_congr
  intro i hi
  by_cases e : i = K
  · subst e
    have := (mem_live.1 h).2
    rw [outs_stayOf (live_lt h)]
    rw [Bool.eq_iff_iff]
    simp [hs, this]
  · rw [outs_stayOf_ne e]
theorem outs_live_none {S : PStore} {K : Nat} {ps : List Nat} (h : K ∈ S.live) (hs : staysOf (S.stayOf K) ps = []) : (S.outs K ps).live = S.live.filter fun i => decide (i ≠ K) := by
  unfold PStore.live
  rw [outs_len, List.filter_filter]
  apply List.filter_congr
  intro i hi
  by_cases e : i = K
  · subst e
    rw [outs_stayOf (live_lt h), hs]
    simp
  · rw [outs_stayOf_ne e]
    simp [e]
/-- who may leave, in the program's way -/
theorem mayLeave_live {S : PStore} {id : Nat} {ps : List Nat} (hp : 1 ≤ ps.length) : mayLeaveB S id ps = (decide (1 ≤ id ∧ id - 1 ∈ S.live) && ps.all fun x => (S.stayOf (id - 1)).any fun r => decide (r.1 = x)) := by
  unfold mayLeaveB PStore.stayOf
  simp only [stay_has]
  obtain ⟨B, eB⟩ : ∃ B, (ps.all fun x => decide (x < (S.outOf (id - 1)).length) && !((S.outOf (id - 1)).getD x false)) = B := ⟨_, rfl⟩
  rw [eB]
  cases B with
  | false => simp
  | true =>
    rw [Bool.and_true, Bool.and_true, Bool.eq_iff_iff]
    simp only [Bool.and_eq_true, decide_eq_true_eq]
    constructor
    · rintro ⟨h1, h2⟩
      refine ⟨h1, mem_live.2 ⟨by omega, ?_⟩⟩
      obtain ⟨x, hx⟩ : ∃ x, x ∈ ps := by
        cases ps with
        | nil => simp at hp
        | cons x l => exact ⟨x, by simp⟩
      have := List.all_eq_true.1 eB x hx
      rw [← stay_has (S.mailOf (id - 1)).tos] at this
      intro e
      unfold PStore.stayOf at e
      rw [e] at this
      simp at this
    · rintro ⟨h1, h2⟩
      have := live_lt h2
      exact ⟨h1, by omega⟩
/-- the plain invariants of a store -/
structure PStore.Ok (S : PStore) : Prop where
  id : ∀ i (h : i < S.items.length), S.items[i].m.id = i + 1
  sz : ∀ x ∈ S.items, MailSz x.m ∧ 1 ≤ x.m.tos.length ∧ x.m.tos.length ≤ 10 ∧ x.out.length = x.m.tos.length
theorem PStore.Ok.nil (T : Nat) : PStore.Ok ⟨[], T⟩ := ⟨fun i h => by simp at h, fun x h => by simp at h⟩
theorem PStore.Ok.plus {S : PStore} (h : S.Ok) {m : PMail} (hi : m.id = S.items.length + 1) (hz : MailSz m) (h1 : 1 ≤ m.tos.length) (h2 : m.tos.length ≤ 10) : (S.plus m).Ok := by
  refine ⟨fun i hi' => ?_, fun x hx => ?_⟩
  · rw [plus_len] at hi'
    by_cases e : i < S.items.length
    · simp only [PStore.plus]
      rw [List.getElem_append_left e]
      exact h.id i e
    · obtain rfl : i = S.items.length := by omega
      simp [PStore.plus, hi]
  · simp only [PStore.plus, List.mem_append, List.mem_singleton] at hx
    rcases hx with hx | rfl
    · exact h.sz x hx
    · exact ⟨hz, h1, h2, by simp⟩
theorem PStore.Ok.outs {S : PStore} (h : S.Ok) (K : Nat) (ps : List Nat) : (S.outs K ps).Ok := by
  refine ⟨fun i hi => ?_, fun x hx => ?_⟩
  · rw [outs_len] at hi
    have e1 := outs_mailOf S K ps i
    rw [mailOf_lt (by rw [outs_len]; exact hi), mailOf_lt hi] at e1
    rw [e1]
    exact h.id i hi
  · obtain ⟨i, hi, rfl⟩ := List.getElem_of_mem hx
    have hi' : i < S.items.length := by rwa [outs_len] at hi
    obtain ⟨a, b, c, d⟩ := h.sz S.items[i] (List.getElem_mem hi')
    have e1 : ((S.outs K ps).items[i]).m = S.items[i].m := by
      have e1 := outs_mailOf S K ps i
      rwa [mailOf_lt (by rw [outs_len]; exact hi'), mailOf_lt hi'] at e1
    have e2 : ((S.outs K ps).items[i]).out.length = S.items[i].out.length := by
      simp only [PStore.outs, List.getElem_modify]
      split
      · rw [outSet_len]
      · rfl
    rw [e1, e2]
    exact ⟨a, b, c, d⟩
theorem PStore.Ok.time {S : PStore} (h : S.Ok) (T : Nat) : PStore.Ok ⟨S.items, T⟩ := ⟨h.id, h.sz⟩
theorem stayOf_le {S : PStore} (h : S.Ok) (i : Nat) : (S.stayOf i).length ≤ 10 := by
  rcases Nat.lt_or_ge i S.items.length with hi | hi
  · rw [stayOf_lt hi]
    unfold stay
    rw [List.length_map]
    have := leftOf_len S.items[i].out S.items[i].out.length
    have := h.sz S.items[i] (List.getElem_mem hi)
    omega
  · rw [stayOf_ge hi]; simp
end Go.Proofs.YtadcidbeealdpaaGreatDoor

/- A map from numbers (1, 2, and so on) to blocks, laid in the order in which they came: what a look-up, a store of the next number and a delete do. -/
namespace Go.Proofs.YtadcidbeealdpaaGreatDoor
open Go.RowKit

def ent (q : Nat → Nat) (i : Nat) : MapEntry := ⟨.int .i64 ((i : Int) + 1), .pointer (some ⟨q i, 0, none⟩), i⟩
def ents (q : Nat → Nat) (l : List Nat) : Array MapEntry := (l.map (ent q)).toArray
def MapIn (w : World) (b : Nat) (q : Nat → Nat) (l : List Nat) (c : Nat) : Prop := w.heap[b]? = some (.map (ents q l) c)

theorem ent_key (q : Nat → Nat) {i j : Nat} (h : (ent q i).key = .int .i64 ((j : Int) + 1)) : i = j := by
  unfold ent at h
  simp only [Value.int.injEq, true_and] at h
  omega
theorem ents_list (q : Nat → Nat) (l : List Nat) : (ents q l).toList = l.map (ent q) := by simp [ents]
theorem ents_congr {q q' : Nat → Nat} {l : List Nat} (h : ∀ i ∈ l, q i = q' i) : ents q l = ents q' l := by
  unfold ents
  congr 1
  exact List.map_congr_left fun i hi => by unfold ent; rw [h i hi]

section
variable {P : Program} {k e t : TypeId} {w : World} {b c : Nat} {q : Nat → Nat} {l : List Nat}

theorem ent_reads (hk : P.underlying k = some (.int .i64)) (q : Nat → Nat) (l : List Nat) (hl : ∀ i ∈ l, i < 4294967296) : ∀ x ∈ l.map (ent q), ∃ y, keyOf P k x.key = some y := by
  intro x hx
  obtain ⟨i, hi, rfl⟩ := List.mem_map.1 hx
  exact ⟨_, Maps.keyOf_int_mk hk (a := (i : Int) + 1) (WalkArith.wf_i64 (by have := hl i hi; omega))⟩
theorem find_at (hk : P.underlying k = some (.int .i64)) (hl : ∀ i ∈ l, i < 4294967296) (j : Nat) (hj : j < 4294967296) :
    (j ∉ l → (Instr.findKey k (.int .i64 ((j : Int) + 1)) (l.map (ent q))).run P w = .ok none w) ∧
    (j ∈ l → ∃ n, (Instr.findKey k (.int .i64 ((j : Int) + 1)) (l.map (ent q))).run P w = .ok (some (n, .pointer (some ⟨q j, 0, none⟩))) w ∧ l[n]? = some j) := by
  have hkey : keyOf P k (.int .i64 ((j : Int) + 1)) = some (.int .i64 ((j : Int) + 1)) := Maps.keyOf_int_mk hk (WalkArith.wf_i64 (by omega))
  rcases (Maps.int_keyed hk).find w hkey (l.map (ent q)) (ent_reads hk q l hl) with ⟨h1, h2⟩ | ⟨n, x, h1, h2, h3⟩
  · exact ⟨fun _ => h1, fun hm => absurd rfl (h2 (ent q j) (List.mem_map.2 ⟨j, hm, rfl⟩))⟩
  · rw [List.getElem?_map, Option.map_eq_some_iff] at h2
    obtain ⟨i, hi, rfl⟩ := h2
    have e1 := ent_key q h3
    subst e1
    exact ⟨fun hn => absurd (List.mem_of_getElem? hi) hn, fun _ => ⟨n, h1, hi⟩⟩
theorem check_at (hk : P.underlying k = some (.int .i64)) (j : Nat) (hj : j < 4294967296) (em : Bool) : (Instr.checkKey em 10000 k (.int .i64 ((j : Int) + 1))).run P w = .ok () w :=
  (Maps.int_keyed hk).check w em (Maps.keyOf_int_mk hk (WalkArith.wf_i64 (by omega)))

/-- a look-up at a number that is there -/
theorem map_look (hk : P.underlying k = some (.int .i64)) (ht : P.underlying t = some (.map k e)) (h : MapIn w b q l c) (hl : ∀ i ∈ l, i < 4294967296) (j : Nat) (hj : j < 4294967296) (hm : j ∈ l) (ok : Bool) :
    (Instr.lookup t (.map (some b)) (.int .i64 ((j : Int) + 1)) ok).run P w = .ok (if ok then .tuple #[.pointer (some ⟨q j, 0, none⟩), .bool true] else .pointer (some ⟨q j, 0, none⟩)) w := by
  obtain ⟨n, h1, _⟩ := (find_at (w := w) (q := q) hk hl j hj).2 hm
  simp [Instr.lookup, run_underlying ht, MapKept.run_getObj_map h, check_at hk j hj, ents_list, h1, Result.andThen]
/-- a look-up at one that is not -/
theorem map_look_no (hk : P.underlying k = some (.int .i64)) (ht : P.underlying t = some (.map k e)) (hz : (zeroValue e).run P w = .ok (.pointer none) w) (h : MapIn w b q l c) (hl : ∀ i ∈ l, i < 4294967296) (j : Nat) (hj : j < 4294967296) (hm : j ∉ l) (ok : Bool) :
    (Instr.lookup t (.map (some b)) (.int .i64 ((j : Int) + 1)) ok).run P w = .ok (if ok then .tuple #[.pointer none, .bool false] else .pointer none) w := by
  have h1 := (find_at (w := w) (q := q) hk hl j hj).1 hm
  simp [Instr.lookup, run_underlying ht, MapKept.run_getObj_map h, check_at hk j hj, ents_list, h1, hz, Result.andThen]
/-- no number is below 1 -/
theorem map_look_zero (hk : P.underlying k = some (.int .i64)) (ht : P.underlying t = some (.map k e)) (hz : (zeroValue e).run P w = .ok (.pointer none) w) (h : MapIn w b q l c) (hl : ∀ i ∈ l, i < 4294967296) (ok : Bool) :
    (Instr.lookup t (.map (some b)) (.int .i64 0) ok).run P w = .ok (if ok then .tuple #[.pointer none, .bool false] else .pointer none) w := by
  have hkey : keyOf P k (.int .i64 0) = some (.int .i64 0) := Maps.keyOf_int_mk hk (WalkArith.wf_i64 (by omega))
  have h1 : (Instr.findKey k (.int .i64 0) (l.map (ent q))).run P w = .ok none w := by
    rcases (Maps.int_keyed hk).find w hkey (l.map (ent q)) (ent_reads hk q l hl) with ⟨h1, h2⟩ | ⟨n, x, h1, h2, h3⟩
    · exact h1
    · rw [List.getElem?_map, Option.map_eq_some_iff] at h2
      obtain ⟨i, hi, rfl⟩ := h2
      unfold ent at h3
      simp only [Value.int.injEq, true_and] at h3
      omega
  simp [Instr.lookup, run_underlying ht, MapKept.run_getObj_map h, (Maps.int_keyed hk).check w _ hkey, ents_list, h1, hz, Result.andThen]
/-- a store at the next number -/
theorem map_add (hk : P.underlying k = some (.int .i64)) (ht : P.underlying t = some (.map k e)) (h : MapIn w b q l c) (hl : ∀ i ∈ l, i < c) (hc : c < 4294967295) (p : Nat) (q' : Nat → Nat) (hq : ∀ i ∈ l, q' i = q i) (hp : q' c = p) :
    (Instr.mapUpdate t (.map (some b)) (.int .i64 ((c : Int) + 1)) (.pointer (some ⟨p, 0, none⟩))).run P w = .ok () (ChangeMaps.setBlock w b (.map (ents q' (l ++ [c])) (c + 1))) := by
  have h1 := (find_at (w := w) (q := q) hk (fun i hi => by have := hl i hi; omega) c (by omega)).1 (fun hm => by have := hl c hm; omega)
  have e1 : (ents q l).push ⟨.int .i64 ((c : Int) + 1), .pointer (some ⟨p, 0, none⟩), c⟩ = ents q' (l ++ [c]) := by
    rw [ents_congr (fun i hi => (hq i hi).symm)]
    unfold ents
    rw [List.map_append, List.push_toArray]
    simp [ent, hp]
  simp [Instr.mapUpdate, run_underlying ht, MapKept.run_getObj_map h, check_at hk c (by omega), ents_list, h1, MapKept.run_setObj_map _ h, Result.andThen, ChangeMaps.setBlock, e1]
theorem filter_idx {l : List Nat} (hn : l.Nodup) {n j : Nat} (h : l[n]? = some j) : l.eraseIdx n = l.filter fun i => decide (i ≠ j) := by
  induction l generalizing n with
  | nil => simp at h
  | cons x l ih =>
    rw [List.nodup_cons] at hn
    cases n with
    | zero =>
      simp only [List.getElem?_cons_zero, Option.some.injEq] at h
      subst h
      rw [List.eraseIdx_cons_zero, List.filter_cons]
      simp only [ne_eq, not_true_eq_false, decide_false, Bool.false_eq_true, if_false]
      refine (List.filter_eq_self.2 fun i hi => ?_).symm
      have : i ≠ x := fun e => hn.1 (e ▸ hi)
      simpa using this
    | succ n =>
      simp only [List.getElem?_cons_succ] at h
      have hx : x ≠ j := fun e => hn.1 (e ▸ List.mem_of_getElem? h)
      rw [List.eraseIdx_cons_succ, List.filter_cons, if_pos (by simpa using hx), ih hn.2 h]
/-- a delete of a number that is there -/
theorem map_drop {ty : TypeId} (hk : P.underlying k = some (.int .i64)) (ht : P.underlying t = some (.map k e)) (h : MapIn w b q l c) (hl : ∀ i ∈ l, i < 4294967296) (hn : l.Nodup) (j : Nat) (hj : j < 4294967296) (hm : j ∈ l) :
    (Builtin.delete_ #[t, k] ty #[.map (some b), .int .i64 ((j : Int) + 1)]).run P w = .ok (.tuple #[]) (ChangeMaps.setBlock w b (.map (ents q (l.filter fun i => decide (i ≠ j))) c)) := by
  obtain ⟨n, h1, h2⟩ := (find_at (w := w) (q := q) hk hl j hj).2 hm
  have hlen : n < l.length := (List.getElem?_eq_some_iff.1 h2).1
  have e1 : (ents q l).eraseIdxIfInBounds n = ents q (l.filter fun i => decide (i ≠ j)) := by
    rw [← filter_idx hn h2]
    have hs : n < (ents q l).size := by simpa [ents] using hlen
    apply Array.toList_inj.1
    unfold Array.eraseIdxIfInBounds
    rw [dif_pos hs, Array.toList_eraseIdx, ents_list, ents_list, ← ChangeMaps.map_eraseIdx]
  simp [Builtin.delete_, run_underlying ht, MapKept.run_getObj_map h, check_at hk j hj, ents_list, h1, MapKept.run_setObj_map _ h, Result.andThen, ChangeMaps.setBlock, e1]
end
end Go.Proofs.YtadcidbeealdpaaGreatDoor

/- Frames: all blocks but some are as they were. -/
namespace Go.Proofs.YtadcidbeealdpaaGreatDoor
open Go.RowKit

theorem ownsRow_keeps {w w' : World} {base sz n : Nat} {e : TypeId} {v : Value} {xs : List Value} (h : w.ownsRow base e sz v n xs) (hk : ∀ g cur, w.heap[g]? = some (.cells cur e (0, 0)) → base ≤ g → w'.heap[g]? = some (.cells cur e (0, 0))) : w'.ownsRow base e sz v n xs := by
  obtain ⟨h1, h2⟩ := h
  refine ⟨h1, ?_⟩
  rcases h2 with h2 | ⟨g, cap, cur, e1, e2, e3, r⟩
  · exact .inl h2
  · exact .inr ⟨g, cap, cur, e1, e2, hk g cur e3 e2, r⟩
theorem heap_some_lt {w : World} {k : Nat} {o : Obj} (h : w.heap[k]? = some o) : k < w.heap.size := (Array.getElem?_eq_some_iff.1 h).1
theorem below_some {w w' : World} (hb : Below w.heap.size w w') {k : Nat} {o : Obj} (h : w.heap[k]? = some o) : w'.heap[k]? = some o := (hb.block k (heap_some_lt h)).trans h
theorem same_some {p : Nat} {w w' : World} (hb : Same p w w') {k : Nat} {o : Obj} (h : w.heap[k]? = some o) (hne : k ≠ p) : w'.heap[k]? = some o := (hb.2 k hne).trans h

/-- all blocks but those in A are as they were -/
structure Chg (A : Nat → Prop) (w w' : World) : Prop where
  size : w.heap.size ≤ w'.heap.size
  block : ∀ k, k < w.heap.size → ¬ A k → w'.heap[k]? = w.heap[k]?
  still : Still w w'
theorem Chg.refl (A : Nat → Prop) (w : World) : Chg A w w := ⟨Nat.le_refl _, fun _ _ _ => rfl, Still.refl w⟩
theorem Chg.trans {A A1 : Nat → Prop} {a b c : World} (h : Chg A a b) (h' : Chg A1 b c) (hs : ∀ k, k < a.heap.size → A1 k → A k) : Chg A a c :=
  ⟨Nat.le_trans h.size h'.size, fun k hk hn => (h'.block k (Nat.lt_of_lt_of_le hk h.size) (fun e => hn (hs k hk e))).trans (h.block k hk hn), h.still.trans h'.still⟩
theorem Chg.mono {A B : Nat → Prop} {a b : World} (h : Chg A a b) (hs : ∀ k, k < a.heap.size → A k → B k) : Chg B a b := ⟨h.size, fun k hk hn => h.block k hk (fun e => hn (hs k hk e)), h.still⟩
theorem Chg.below {A : Nat → Prop} {a b : World} (h : Below a.heap.size a b) : Chg A a b := ⟨h.size, fun k hk _ => h.block k hk, Still.of_below h⟩
theorem Chg.same {p : Nat} {a b : World} (h : Same p a b) : Chg (fun k => k = p) a b := ⟨by rw [h.1]; exact Nat.le_refl _, fun k _ hn => h.2 k hn, h.3⟩
theorem Chg.grown {a b : World} {row : Option Nat} (h : a.grownBy b row) : Chg (fun k => row = some k) a b := ⟨h.size, fun k hk hn => h.block k hk (fun e => hn e.symm), ⟨h.os, h.tape, h.output⟩⟩
theorem Chg.some_ {A : Nat → Prop} {a b : World} (h : Chg A a b) {k : Nat} {o : Obj} (e : a.heap[k]? = some o) (hn : ¬ A k) : b.heap[k]? = some o := (h.block k (heap_some_lt e) hn).trans e

end Go.Proofs.YtadcidbeealdpaaGreatDoor
