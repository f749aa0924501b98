import Derived.Test.YtadcidbeealdpaaGreatDoorS25
import Derived.Test.YtadcidbeealdpaaGreatDoorS12
import Derived.Test.YtadcidbeealdpaaGreatDoorS03
import Derived.Test.YtadcidbeealdpaaGreatDoorS20
import Derived.BigRegion
import Derived.Test.YtadcidbeealdpaaGreatDoorS02
import Derived.Lib.SlBytesConst

/- A line is read. -/
namespace Go.Proofs.YtadcidbeealdpaaGreatDoor
open Go.RowKit

/-- the bytes l in block g, from its beginning -/
def ByAt (w : World) (g : Nat) (l : List UInt8) : Prop := ∀ j, j < l.length → w.cell? ⟨g, j, none⟩ = some (.int .u8 ((l.getD j 0).toNat : Int))
theorem ByAt.below {w w' : World} {g : Nat} {l : List UInt8} (h : ByAt w g l) (hb : Below w.heap.size w w') : ByAt w' g l := fun j hj => (hb.cell (block_lt (h j hj))).trans (h j hj)
theorem ByAt.string {w : World} {g cap : Nat} {l : List UInt8} (h : ByAt w g l) : (convert 76 9 (.slice (some ⟨g, 0, none⟩) l.length cap)).run Tryz.prog w = .ok (.string (bs l)) w := bytes_back w g cap l.length l rfl h
theorem ByAt.at {w : World} {g : Nat} {l : List UInt8} (h : ByAt w g l) : BytesAt (bs l) g 0 w := fun j hj => by
  have hj' : j < l.length := by have := bs_size l; omega
  rw [Nat.zero_add, h j hj', get_list l j hj', List.getD_eq_getElem?_getD, List.getElem?_eq_getElem hj']
  rfl

set_option maxHeartbeats 1000000 in
theorem bytesIndexFunc_any (l : List UInt8) (g cap : Nat) (w : World) (h : ByAt w g l) (hcap : l.length ≤ cap) (hl : l.length ≤ 1048576) (hu : Lib.Utf8Tabs 2 3 w) :
    Calls Tryz.prog 152 #[.slice (some ⟨g, 0, none⟩) l.length cap, .func (.func 71) #[] #[], .bool true] w fun e w' => e = .returned (.int .i64 (Lib.idxFunc badR true (bs l))) ∧ Below w.heap.size w w' := by
  have hs := bs_size l
  have h1 := Any7.bytes_indexFunc (P := Tryz.prog) Tryz.lays755 71 #[] (fun args w => enters_of Tryz.func71 rfl rfl args w) badR true (bs l) g 0 cap w (by omega) (by omega) h.at hu (fun W x hx _ => isBad_any x W hx)
  rw [hs] at h1
  exact h1
set_option maxHeartbeats 1000000 in
theorem containsBad_any (l : List UInt8) (g cap : Nat) (w : World) (h : ByAt w g l) (hcap : l.length ≤ cap) (hl : l.length ≤ 1048576) (hu : Lib.Utf8Tabs 2 3 w) :
    Calls Tryz.prog 70 #[.slice (some ⟨g, 0, none⟩) l.length cap, .func (.func 71) #[] #[]] w fun e w' => e = .returned (.bool (l.any badB)) ∧ Below w.heap.size w w' := by
  have H1 := Lib.hid (bytesIndexFunc_any l g cap w h hcap hl hu)
  have hI : Calls Tryz.prog 109 #[.slice (some ⟨g, 0, none⟩) l.length cap, .func (.func 71) #[] #[]] w fun e w' => e = .returned (.int .i64 (Lib.idxFunc badR true (bs l))) ∧ Below w.heap.size w w' := by
    clear h hu
    go_enter Tryz.func109, Tryz.ntmps109
    go_wp2_with fail
    refine H1.out.mono ?_
    rintro e w1 ⟨rfl, hb⟩
    go_wp2_with fail
    go_ret
    exact ⟨rfl, hb⟩
  have HB : Hid (l.any badB = decide (0 ≤ Lib.idxFunc badR true (bs l))) := Lib.hid (by
    have := idx_bad l l.length 0 (by omega) (by omega)
    rw [List.drop_zero] at this
    rw [Bool.eq_iff_iff, decide_eq_true_eq, ← this]
    unfold Lib.idxFunc
    rw [bs_size])
  obtain ⟨r, er⟩ : ∃ r, Lib.idxFunc badR true (bs l) = r := ⟨_, rfl⟩
  rw [er] at hI HB
  have HI := Lib.hid hI
  clear h hu hI H1 er
  go_enter Tryz.func70, Tryz.ntmps70
  go_wp2_with fail
  refine HI.out.mono ?_
  rintro e w1 ⟨rfl, hb⟩
  go_wp2_with fail
  go_ret
  exact ⟨by rw [HB.out]; rfl, hb⟩

/-- a struct of two cells is written -/
theorem two_put {w1 : World} {k : Nat} {a b x y : Value} {t : TypeId} (h : w1.heap[k]? = some (.cells #[a, b] t (0, 0))) : ((w1.setCell ⟨k, 0, none⟩ x).setCell ⟨k, 1, none⟩ y).cell? ⟨k, 0, none⟩ = some x ∧ ((w1.setCell ⟨k, 0, none⟩ x).setCell ⟨k, 1, none⟩ y).cell? ⟨k, 1, none⟩ = some y ∧ Same k w1 ((w1.setCell ⟨k, 0, none⟩ x).setCell ⟨k, 1, none⟩ y) := by
  have h1 := heap_setCell_same w1 k 0 _ _ x h
  have h2 := heap_setCell_same _ k 1 _ _ y h1
  exact ⟨by rw [Lib.cell_of_heap h2]; rfl, by rw [Lib.cell_of_heap h2]; rfl, ((Same.refl _ _).setCell _).setCell _⟩
def lineS (l : List UInt8) : List UInt8 × Bool := if 100 < l.length || l.any badB then ([], true) else (l, false)
set_option maxHeartbeats 1000000 in
set_option maxRecDepth 100000 in
theorem linRead_any (l : List UInt8) (g cap : Nat) (w : World) (h : ByAt w g l) (hcap : l.length ≤ cap) (hl : l.length ≤ 1048576) (hu : Lib.Utf8Tabs 2 3 w) :
    Calls Tryz.prog 44 #[.slice (some ⟨g, 0, none⟩) l.length cap] w fun e w' => e = .returned (.agg #[.string (bs (lineS l).1), .bool (lineS l).2]) ∧ Below w.heap.size w w' := by
  obtain ⟨W0, hW0⟩ : ∃ W0 : World, w.alloc (.cells #[.string ⟨#[]⟩, .bool false] 89) = W0 := ⟨_, rfl⟩
  have B0 : Below w.heap.size w W0 := by rw [← hW0]; exact (Below.refl _ _).alloc (Nat.le_refl _) _
  have X0 : W0.heap[w.heap.size]? = some (.cells #[.string ⟨#[]⟩, .bool false] 89 (0, 0)) := by rw [← hW0]; exact heap_alloc_new w _
  have HC := Lib.hid (containsBad_any l g cap W0 (h.below B0) hcap hl (Utf8Tabs_below hu B0))
  have HH := Lib.hid (h.below B0)
  have HB0 := Lib.hid B0
  have HX0 := Lib.hid X0
  have HW0 := Lib.hid hW0
  clear hW0 B0 X0
  by_cases hlong : 100 < l.length
  · have HL : Hid (lineS l = ([], true)) := Lib.hid (by unfold lineS; rw [decide_eq_true hlong]; rfl)
    have hi : (100 : Int) < (l.length : Int) := by omega
    clear h hu HC
    go_enter Tryz.func44, Tryz.ntmps44
    go_wp2_with fail
    have X := heap_alloc_new w (.cells #[.string ⟨#[]⟩, .bool true] 89)
    have c0 : (w.alloc (.cells #[.string ⟨#[]⟩, .bool true] 89)).cell? ⟨w.heap.size, 0, none⟩ = some (.string ⟨#[]⟩) := by rw [Lib.cell_of_heap X]; rfl
    have c1 : (w.alloc (.cells #[.string ⟨#[]⟩, .bool true] 89)).cell? ⟨w.heap.size, 1, none⟩ = some (.bool true) := by rw [Lib.cell_of_heap X]; rfl
    refine bodyPost_ret (v := .agg #[.string ⟨#[]⟩, .bool true]) (by simp [results, Tryz.results44, go_sem, c0, c1]) rfl ?_
    exact ⟨by rw [HL.out]; rfl, (Below.refl _ _).alloc (Nat.le_refl _) _⟩
  · have hi : ¬ (100 : Int) < (l.length : Int) := by omega
    cases hb : l.any badB with
    | true =>
      have HL : Hid (lineS l = ([], true)) := Lib.hid (by unfold lineS; rw [hb, Bool.or_true]; rfl)
      rw [hb] at HC
      clear h hu hb
      go_enter Tryz.func44, Tryz.ntmps44
      go_wp2_with fail
      rw [HW0.out]
      refine HC.out.mono ?_
      rintro e w1 ⟨rfl, hb1⟩
      have X1 := below_some hb1 HX0.out
      have c0 : w1.cell? ⟨w.heap.size, 0, none⟩ = some (.string ⟨#[]⟩) := by rw [Lib.cell_of_heap X1]; rfl
      have c1 : w1.cell? ⟨w.heap.size, 1, none⟩ = some (.bool false) := by rw [Lib.cell_of_heap X1]; rfl
      have f0 := Lib.frozen_of_heap X1 0
      have f1 := Lib.frozen_of_heap X1 1
      have HX1 := Lib.hid X1
      have HB1 := Lib.hid (HB0.out.trans (hb1.mono HB0.out.size))
      clear X1 hb1
      go_wp2_with fail
      obtain ⟨p0, p1, pS⟩ := two_put (x := .string ⟨#[]⟩) (y := .bool true) HX1.out
      refine bodyPost_ret (v := .agg #[.string ⟨#[]⟩, .bool true]) (by simp [results, Tryz.results44, go_sem, p0, p1]) rfl ?_
      exact ⟨by rw [HL.out]; rfl, HB1.out.trans (pS.below (Nat.le_refl _))⟩
    | false =>
      have HL : Hid (lineS l = (l, false)) := Lib.hid (by unfold lineS; rw [hb, decide_eq_false hlong]; rfl)
      rw [hb] at HC
      clear h hu hb
      go_enter Tryz.func44, Tryz.ntmps44
      go_wp2_with fail
      rw [HW0.out]
      refine HC.out.mono ?_
      rintro e w1 ⟨rfl, hb1⟩
      have hcv := (HH.out.below hb1).string (cap := cap)
      have X1 := below_some hb1 HX0.out
      have c0 : w1.cell? ⟨w.heap.size, 0, none⟩ = some (.string ⟨#[]⟩) := by rw [Lib.cell_of_heap X1]; rfl
      have c1 : w1.cell? ⟨w.heap.size, 1, none⟩ = some (.bool false) := by rw [Lib.cell_of_heap X1]; rfl
      have f0 := Lib.frozen_of_heap X1 0
      have f1 := Lib.frozen_of_heap X1 1
      have HX1 := Lib.hid X1
      have HB1 := Lib.hid (HB0.out.trans (hb1.mono HB0.out.size))
      clear X1 hb1
      go_wp2_with fail
      obtain ⟨p0, p1, pS⟩ := two_put (x := .string (bs l)) (y := .bool false) HX1.out
      refine bodyPost_ret (v := .agg #[.string (bs l), .bool false]) (by simp [results, Tryz.results44, go_sem, p0, p1]) rfl ?_
      exact ⟨by rw [HL.out], HB1.out.trans (pS.below (Nat.le_refl _))⟩
end Go.Proofs.YtadcidbeealdpaaGreatDoor

/- What has come of a line is shortened. -/
namespace Go.Proofs.YtadcidbeealdpaaGreatDoor
open Go.RowKit

def RowZ (w : World) (v : Value) (l : List UInt8) : Prop := w.ownsRow 0 5 1 v l.length (Lib.byteCells l)
theorem Same.drew' {b : Nat} {w w' : World} (h : Same b w w') : Same b w w'.drew := ⟨h.1, h.2, h.3.trans ⟨rfl, rfl, rfl⟩⟩
theorem byteCells_take (l : List UInt8) (n : Nat) : Lib.byteCells (l.take n) = (Lib.byteCells l).take n := by simp [Lib.byteCells, List.map_take]
/-- its parts -/
theorem RowZ.parts {w : World} {v : Value} {l : List UInt8} (h : RowZ w v l) (hl : l ≠ []) : ∃ g cap cur, v = .slice (some ⟨g, 0, none⟩) l.length cap ∧ w.heap[g]? = some (.cells cur 5 (0, 0)) ∧ l.length ≤ cap ∧ cap ≤ maxLen ∧ cur.size = cap ∧ cur.toList.take l.length = Lib.byteCells l := by
  rcases h.2 with ⟨_, h0⟩ | ⟨g, cap, cur, e, _, hg, h1, h2, h3, h4⟩
  · exact absurd (List.length_eq_zero_iff.1 h0) hl
  · exact ⟨g, cap, cur, e, hg, h1, h2, by omega, by rw [Nat.mul_one] at h4; exact h4⟩
theorem RowZ.mk {w : World} {l : List UInt8} {g cap : Nat} {cur : Array Value} (hg : w.heap[g]? = some (.cells cur 5 (0, 0))) (h1 : l.length ≤ cap) (h2 : cap ≤ maxLen) (h3 : cur.size = cap) (h4 : cur.toList.take l.length = Lib.byteCells l) : RowZ w (.slice (some ⟨g, 0, none⟩) l.length cap) l :=
  ⟨by rw [Nat.mul_one]; exact byteCells_len l, .inr ⟨g, cap, cur, rfl, Nat.zero_le _, hg, h1, h2, by omega, by rw [Nat.mul_one]; exact h4⟩⟩
theorem cur_at {cur : Array Value} {l : List UInt8} (h : cur.toList.take l.length = Lib.byteCells l) (j : Nat) (hj : j < l.length) : cur[j]? = some (.int .u8 ((l.getD j 0).toNat : Int)) := by
  rw [← Array.getElem?_toList, ← List.getElem?_take_of_lt hj, h, Lib.byteCells, List.getElem?_map, List.getElem?_eq_getElem hj, List.getD_eq_getElem?_getD, List.getElem?_eq_getElem hj]
  rfl
def shortS (l : List UInt8) : List UInt8 := if 102 < l.length then l.take 101 ++ [l.getD 102 0] else l
theorem shortS_len (l : List UInt8) : (shortS l).length ≤ 102 := by
  unfold shortS
  split
  · rename_i h
    simp only [List.length_append, List.length_take, List.length_cons, List.length_nil]
    omega
  · omega
/-- a session's block, its third cell -/
structure CutAt (w : World) (sb : Nat) (C : Array Value) (v : Value) (l : List UInt8) : Prop where
  blk : w.heap[sb]? = some (.cells C 81 (0, 0))
  size : C.size = 9
  at2 : C[2]? = some v
  row : RowZ w v l
theorem CutAt.far {w : World} {sb : Nat} {C : Array Value} {v : Value} {l : List UInt8} (h : CutAt w sb C v l) : v.ownBlock ≠ some sb := fun e => by
  obtain ⟨cur, h1⟩ := own_tag' h.row e
  rw [h.blk] at h1
  simp at h1
theorem CutAt.below {w w' : World} {sb : Nat} {C : Array Value} {v : Value} {l : List UInt8} (h : CutAt w sb C v l) (hb : Below w.heap.size w w') : CutAt w' sb C v l := ⟨below_some hb h.blk, h.size, h.at2, ownsRow_keeps h.row fun _ _ e _ => below_some hb e⟩
def CtPost (sb : Nat) (C : Array Value) (v : Value) (l' : List UInt8) (w w' : World) : Prop :=
  ∃ v', CutAt w' sb (C.setIfInBounds 2 v') v' l' ∧ Chg (fun k => k = sb ∨ v.ownBlock = some k) w w' ∧ ∀ k, v'.ownBlock = some k → v.ownBlock = some k ∨ w.heap.size ≤ k

set_option maxHeartbeats 1000000 in
set_option maxRecDepth 100000 in
theorem shorten_any (sb : Nat) (C : Array Value) (v : Value) (l : List UInt8) (w : World) (h : CutAt w sb C v l) (hl : l.length ≤ 103) (hl1 : 1 ≤ l.length) :
    Calls Tryz.prog 43 #[.pointer (some ⟨sb, 2, none⟩)] w fun e w' => e = .returned (.tuple #[]) ∧ CtPost sb C v (shortS l) w w' := by
  obtain ⟨g, cap, cur, rfl, hg, p1, p2, p3, p4⟩ := h.row.parts (fun e => by rw [e] at hl1; simp at hl1)
  have c2 : w.cell? ⟨sb, 2, none⟩ = some (.slice (some ⟨g, 0, none⟩) l.length cap) := by rw [Lib.cell_of_heap h.blk]; exact h.at2
  have f2 := Lib.frozen_of_heap h.blk 2
  have hC2 : C.setIfInBounds 2 (.slice (some ⟨g, 0, none⟩) l.length cap) = C := by
    apply Array.ext_getElem?
    intro i
    rw [Array.getElem?_setIfInBounds]
    split
    · rename_i hi
      subst hi
      rw [h.at2, if_pos (by have := h.size; omega)]
    · rfl
  by_cases hlong : 102 < l.length
  · have hle : l.length = 103 := by omega
    obtain ⟨x2, hx2⟩ : ∃ x2, l.getD 102 0 = x2 := ⟨_, rfl⟩
    obtain ⟨x1, hx1⟩ : ∃ x1, l.getD 101 0 = x1 := ⟨_, rfl⟩
    have hne : sb ≠ g := fun e => h.far (by rw [e]; rfl)
    have g101 : w.drew.cell? ⟨g, 101, none⟩ = some (.int .u8 (x1.toNat : Int)) := by show w.cell? _ = _; rw [Lib.cell_of_heap hg, ← hx1]; exact cur_at p4 101 (by omega)
    have g102 : w.drew.cell? ⟨g, 102, none⟩ = some (.int .u8 (x2.toNat : Int)) := by show w.cell? _ = _; rw [Lib.cell_of_heap hg, ← hx2]; exact cur_at p4 102 (by omega)
    have fg : w.drew.frozen? ⟨g, 101, none⟩ = false := Lib.frozen_of_heap hg 101
    have c2d : w.drew.cell? ⟨sb, 2, none⟩ = some (.slice (some ⟨g, 0, none⟩) l.length cap) := c2
    have hi : (102 : Int) < (l.length : Int) := by omega
    have hi2 : (101 : Int) < (l.length : Int) := by omega
    have S1 : Same g w ((w.setCell ⟨g, 101, none⟩ (.int .u8 (x2.toNat : Int))).drew) := ((Same.refl _ _).setCell _).drew'
    have hg1 := heap_setCell_same w g 101 _ _ (.int .u8 (x2.toNat : Int)) hg
    obtain ⟨W1, hW1⟩ : ∃ W1 : World, (w.setCell ⟨g, 101, none⟩ (.int .u8 (x2.toNat : Int))).drew = W1 := ⟨_, rfl⟩
    have HW1 := Lib.hid hW1
    replace hg1 : (w.setCell ⟨g, 101, none⟩ (.int .u8 (x2.toNat : Int))).drew.heap[g]? = _ := hg1
    rw [hW1] at S1 hg1
    have hb1 := (S1.2 sb hne).trans h.blk
    have HS : Hid (shortS l = l.take 101 ++ [x2]) := Lib.hid (by unfold shortS; rw [if_pos hlong, hx2])
    have S2 : Same sb W1 (W1.setCell ⟨sb, 2, none⟩ (.slice (some ⟨g, 0, none⟩) 102 cap)) := (Same.refl _ _).setCell _
    have hsl : (l.take 101 ++ [x2]).length = 102 := by simp only [List.length_append, List.length_take, List.length_cons, List.length_nil]; omega
    have R2 : RowZ (W1.setCell ⟨sb, 2, none⟩ (.slice (some ⟨g, 0, none⟩) 102 cap)) (.slice (some ⟨g, 0, none⟩) 102 cap) (l.take 101 ++ [x2]) := by
      have := RowZ.mk (l := l.take 101 ++ [x2]) (w := W1.setCell ⟨sb, 2, none⟩ (.slice (some ⟨g, 0, none⟩) 102 cap)) (cap := cap) ((S2.2 g (Ne.symm hne)).trans hg1) (by omega) p2 (by simp [p3]) (by
        rw [hsl]
        apply List.ext_getElem?
        intro j
        rw [List.getElem?_take]
        by_cases hj : j < 102
        · rw [if_pos hj, Array.getElem?_toList]
          by_cases hj1 : j = 101
          · subst hj1
            rw [Array.getElem?_setIfInBounds_self_of_lt (by omega), Lib.byteCells, List.getElem?_map, List.getElem?_append_right (by rw [List.length_take]; omega), List.length_take, show 101 - min 101 l.length = 0 by omega]
            rfl
          · rw [Array.getElem?_setIfInBounds_ne (fun e => hj1 e.symm), cur_at p4 j (by omega)]
            rw [Lib.byteCells, List.getElem?_map, List.getElem?_append_left (by rw [List.length_take]; omega), List.getElem?_take_of_lt (by omega), List.getElem?_eq_getElem (by omega), List.getD_eq_getElem?_getD, List.getElem?_eq_getElem (by omega)]
            rfl
        · rw [if_neg hj, List.getElem?_eq_none (by rw [byteCells_len]; omega)])
      rw [hsl] at this
      exact this
    have HR2 := Lib.hid R2
    have HK : Hid (Chg (fun k => k = sb ∨ (Value.slice (some ⟨g, 0, none⟩) l.length cap).ownBlock = some k) w (W1.setCell ⟨sb, 2, none⟩ (.slice (some ⟨g, 0, none⟩) 102 cap))) := Lib.hid (((Chg.same S1).mono (fun k _ e => .inr (by rw [e]; rfl))).trans (Chg.same S2) (fun k _ e => .inl e))
    have HB2 := Lib.hid (heap_setCell_same W1 sb 2 _ _ (.slice (some ⟨g, 0, none⟩) 102 cap) hb1)
    have c21 : W1.cell? ⟨sb, 2, none⟩ = some (.slice (some ⟨g, 0, none⟩) l.length cap) := by rw [Lib.cell_of_heap hb1]; exact h.at2
    have f21 := Lib.frozen_of_heap hb1 2
    have HZ := Lib.hid h.size
    have hcap : (102 : Int) ≤ (cap : Int) := by omega
    clear h hg hg1 S1 S2 R2 hb1 p4 hW1 hx1 hx2 hle hsl
    go_enter Tryz.func43, Tryz.ntmps43
    go_wp2_with fail
    go_region
    rw [HW1.out]
    go_wp2_with fail
    refine bodyPost_end (results_none rfl _ _ _) rfl ?_
    exact ⟨rfl, .slice (some ⟨g, 0, none⟩) 102 cap, by rw [HS.out]; exact ⟨HB2.out, by rw [Array.size_setIfInBounds]; exact HZ.out, by rw [Array.getElem?_setIfInBounds_self_of_lt (by have := HZ.out; omega)], HR2.out⟩, HK.out, fun k e => .inl e⟩
  · have HS : Hid (shortS l = l) := Lib.hid (by unfold shortS; rw [if_neg hlong])
    have hi : ¬ (102 : Int) < (l.length : Int) := by omega
    have HH := Lib.hid h
    have HC2 := Lib.hid hC2
    clear h hg p4 hC2
    go_enter Tryz.func43, Tryz.ntmps43
    go_wp2_with fail
    refine bodyPost_end (results_none rfl _ _ _) rfl ?_
    exact ⟨rfl, _, by rw [HS.out, HC2.out]; exact HH.out, Chg.refl _ _, fun k e => .inl e⟩
end Go.Proofs.YtadcidbeealdpaaGreatDoor

/- One byte more is taken. -/
namespace Go.Proofs.YtadcidbeealdpaaGreatDoor
open Go.RowKit

def endsB (l : List UInt8) : Bool := Lib.hasSuffix l [13, 10]
def takeS (wait : List UInt8) (b : UInt8) : List UInt8 × Option (List UInt8 × Bool) :=
  if endsB (wait ++ [b]) then ([], some (lineS ((wait ++ [b]).take ((wait ++ [b]).length - 2)))) else (shortS (wait ++ [b]), none)
def takeRet (o : Option (List UInt8 × Bool)) : Value :=
  match o with
  | none => .tuple #[.agg #[.string ⟨#[]⟩, .bool false], .bool false]
  | some x => .tuple #[.agg #[.string (bs x.1), .bool x.2], .bool true]
def intsOf (l : List UInt8) : List Int := l.map fun b => (b.toNat : Int)
theorem bytesOf_ints (l : List UInt8) : Lib.bytesOf (intsOf l) = l := by
  unfold Lib.bytesOf intsOf
  rw [List.map_map]
  conv => rhs; rw [← List.map_id l]
  congr 1
  funext b
  simp
theorem intsOf_getD (l : List UInt8) (i : Nat) (h : i < l.length) : (intsOf l).getD i 0 = ((l.getD i 0).toNat : Int) := by
  rw [List.getD_eq_getElem?_getD, List.getD_eq_getElem?_getD, intsOf, List.getElem?_map, List.getElem?_eq_getElem h]
  rfl
theorem RowZ.by {w : World} {l : List UInt8} {g n cap : Nat} (h : RowZ w (.slice (some ⟨g, 0, none⟩) n cap) l) : ByAt w g l := fun j hj => by
  obtain ⟨g', cap', cur, e, hg, _, _, _, h4⟩ := h.parts (fun e => by rw [e] at hj; simp at hj)
  injection e with e _ _
  injection e with e
  injection e with e _
  subst e
  rw [Lib.cell_of_heap hg]
  exact cur_at h4 j hj
theorem cutSuffix_any (l : List UInt8) (g cap e2 : Nat) (w : World) (h : ByAt w g l) (hcap : l.length ≤ cap) (hl : l.length ≤ 1048576) (h2 : w.heap[e2]? = some (.cells #[.int .u8 13, .int .u8 10] 5 (2, 3))) :
    Calls Tryz.prog 42 #[.slice (some ⟨g, 0, none⟩) l.length cap, .slice (some ⟨e2, 0, none⟩) 2 2] w fun e w' => e = .returned (.tuple #[if endsB l then .slice (some ⟨g, 0, none⟩) (l.length - 2) cap else .slice (some ⟨g, 0, none⟩) l.length cap, .bool (endsB l)]) ∧ w' = w := by
  refine (Tryz.bytes_CutSuffix g 0 l.length cap e2 0 2 2 (intsOf l) [13, 10] w (by simp [intsOf]) rfl hcap (by omega) (fun i hi => ?_) (fun i hi => ?_)).mono ?_
  · rw [Nat.zero_add, intsOf_getD l i hi]
    exact h i hi
  · rw [Nat.zero_add, Lib.cell_of_heap h2]
    have : i = 0 ∨ i = 1 := by omega
    rcases this with rfl | rfl <;> rfl
  · rintro e w' ⟨rfl, rfl⟩
    refine ⟨?_, rfl⟩
    unfold Lib.bytesTrimSuffix Lib.sliceTo
    rw [bytesOf_ints, show Lib.bytesOf [13, 10] = [13, 10] from rfl]
    rfl
end Go.Proofs.YtadcidbeealdpaaGreatDoor

/- One byte more is taken: the walk. -/
namespace Go.Proofs.YtadcidbeealdpaaGreatDoor
open Go.RowKit

theorem CutAt.grow {w w' : World} {sb : Nat} {C : Array Value} {v v' : Value} {l l' : List UInt8} (h : CutAt w sb C v l) (hc : Chg (fun k => v.ownBlock = some k) w w') (hr : RowZ w' v' l') : CutAt (w'.setCell ⟨sb, 2, none⟩ v') sb (C.setIfInBounds 2 v') v' l' := by
  have hb := hc.some_ h.blk h.far
  refine ⟨heap_setCell_same w' sb 2 _ _ v' hb, by rw [Array.size_setIfInBounds]; exact h.size, by rw [Array.getElem?_setIfInBounds_self_of_lt (by have := h.size; omega)], own_chg hr (Chg.same ((Same.refl sb w').setCell _)) (fun g hg e => ?_)⟩
  obtain ⟨cur, h1⟩ := own_tag' hr hg
  rw [e, hb] at h1
  simp at h1

/-- the cutter, behind its call: a box of the call's own was written -/
theorem CtPost.fin {sb bx : Nat} {C C1 : Array Value} {v v1 v5 : Value} {l' : List UInt8} {w W2 W3 w5 wF : World} {D : Array Value} (hK2 : Chg (fun k => k = sb ∨ v.ownBlock = some k) w W2) (hB3 : Below W2.heap.size W2 W3) (hO : ∀ k, v1.ownBlock = some k → v.ownBlock = some k ∨ w.heap.size ≤ k) (hC1 : C1 = C.setIfInBounds 2 v1) (hA5 : CutAt w5 sb (C1.setIfInBounds 2 v5) v5 l') (hK5 : Chg (fun k => k = sb ∨ v1.ownBlock = some k) W3 w5) (hO5 : ∀ k, v5.ownBlock = some k → v1.ownBlock = some k ∨ W3.heap.size ≤ k) (hbx : w.heap.size ≤ bx) (hX : w5.heap[bx]? = some (.cells D 89 (0, 0))) (hF : Same bx w5 wF) : CtPost sb C v l' w wF := by
  have hsz : w.heap.size ≤ W3.heap.size := Nat.le_trans hK2.size hB3.size
  refine ⟨v5, ⟨?_, ?_, ?_, ?_⟩, ?_, fun k hk => (hO5 k hk).elim (hO k) (fun e => .inr (by omega))⟩
  · have := (hF.2 sb (fun e => by have := hA5.blk; rw [e, hX] at this; simp at this)).trans hA5.blk
    rw [hC1, Array.setIfInBounds_setIfInBounds] at this
    exact this
  · have := hA5.size; rw [hC1] at this; simpa using this
  · have := hA5.at2; rw [hC1, Array.setIfInBounds_setIfInBounds] at this; exact this
  · exact own_chg hA5.row (Chg.same hF) (fun g hg e => by
      obtain ⟨cur, hq⟩ := own_tag' hA5.row hg
      rw [e, hX] at hq
      simp at hq)
  · exact ((hK2.trans (Chg.below hB3 : Chg (fun _ => False) _ _) (fun _ _ e => e.elim)).trans hK5 (fun k hk e => e.elim .inl (fun e => (hO k e).elim .inr (fun e => absurd hk (by omega))))).trans (Chg.same hF) (fun k hk e => absurd hk (by omega))
theorem utf_chg2 {A : Nat → Prop} {w w' : World} {g h : Nat} (hu : Lib.Utf8Tabs g h w) (hc : Chg A w w') (n1 : ¬ A g) (n2 : ¬ A h) : Lib.Utf8Tabs g h w' := by
  have l1 : g < w.heap.size := block_lt (hu.1 0 (by decide))
  have l2 : h < w.heap.size := block_lt (hu.2 0 (by decide)).1
  have m1 : ∀ o, w'.cell? ⟨g, o, none⟩ = w.cell? ⟨g, o, none⟩ := fun o => World.cell?_of_block (hc.block _ l1 n1)
  have m2 : ∀ o, w'.cell? ⟨h, o, none⟩ = w.cell? ⟨h, o, none⟩ := fun o => World.cell?_of_block (hc.block _ l2 n2)
  exact ⟨fun k hk => (m1 k).trans (hu.1 k hk), fun i hi => ⟨(m2 _).trans (hu.2 i hi).1, (m2 _).trans (hu.2 i hi).2⟩⟩

set_option maxHeartbeats 1000000 in
set_option maxRecDepth 100000 in
theorem take_any (sb : Nat) (C : Array Value) (v : Value) (l : List UInt8) (b : UInt8) (w : World) (h : CutAt w sb C v l) (hl : l.length ≤ 102) (hu : Lib.Utf8Tabs 2 3 w) (hn1 : ¬ (2 = sb ∨ v.ownBlock = some 2)) (hn2 : ¬ (3 = sb ∨ v.ownBlock = some 3)) :
    Calls Tryz.prog 27 #[.pointer (some ⟨sb, 2, none⟩), .int .u8 (b.toNat : Int)] w fun e w' => e = .returned (takeRet (takeS l b).2) ∧ CtPost sb C v (takeS l b).1 w w' := by
  obtain ⟨W0, hW0⟩ : ∃ W0 : World, w.alloc (.cells #[.string ⟨#[]⟩, .bool false] 89) = W0 := ⟨_, rfl⟩
  have B0 : Below w.heap.size w W0 := by rw [← hW0]; exact (Below.refl _ _).alloc (Nat.le_refl _) _
  have X0 : W0.heap[w.heap.size]? = some (.cells #[.string ⟨#[]⟩, .bool false] 89 (0, 0)) := by rw [← hW0]; exact heap_alloc_new w _
  have hs0 : W0.heap.size = w.heap.size + 1 := by rw [← hW0]; simp
  have h0 := h.below B0
  have hu0 := Utf8Tabs_below hu B0
  have c20 : W0.cell? ⟨sb, 2, none⟩ = some v := by rw [Lib.cell_of_heap h0.blk]; exact h0.at2
  have c2 : ∀ o : Obj, (W0.alloc o).cell? ⟨sb, 2, none⟩ = some v := fun o => by rw [Lib.cell_of_heap (below_some ((Below.refl _ W0).alloc (Nat.le_refl _) o) h0.blk)]; exact h0.at2
  obtain ⟨i, hi, hz0, hz1, hz2⟩ := info_parts info_byte
  obtain ⟨g, cap, W1, hr1, ho1, K1, O1⟩ := app_one (P := Tryz.prog) Tryz.underlying76 hi hz0 hz1 hz2 rfl W0 (W0.alloc (.cells #[.int .u8 (b.toNat : Int)] 5)) v (.int .u8 (b.toNat : Int)) l.length (Lib.byteCells l) h0.row rfl ((Below.refl _ _).alloc (Nat.le_refl _) _) (heap_alloc_new W0 _) (by unfold maxLen; omega) (by omega)
  have R1 : RowZ W1 (.slice (some ⟨g, 0, none⟩) (l.length + 1) cap) (l ++ [b]) := by
    have e : Lib.byteCells (l ++ [b]) = Lib.byteCells l ++ [.int .u8 (b.toNat : Int)] := by simp [Lib.byteCells]
    unfold RowZ
    rw [e, List.length_append]
    exact ho1
  have c21 : W1.cell? ⟨sb, 2, none⟩ = some v := by rw [Lib.cell_of_heap (K1.some_ h0.blk h0.far)]; exact h0.at2
  have f21 := Lib.frozen_of_heap (K1.some_ h0.blk h0.far) 2
  have A2 := h0.grow K1 R1
  have S2 : Same sb W1 (W1.setCell ⟨sb, 2, none⟩ (.slice (some ⟨g, 0, none⟩) (l.length + 1) cap)) := (Same.refl _ _).setCell _
  obtain ⟨W2, hW2⟩ : ∃ W2 : World, W1.setCell ⟨sb, 2, none⟩ (.slice (some ⟨g, 0, none⟩) (l.length + 1) cap) = W2 := ⟨_, rfl⟩
  rw [hW2] at A2 S2
  have X2 : W2.heap[w.heap.size]? = some (.cells #[.string ⟨#[]⟩, .bool false] 89 (0, 0)) := (S2.2 _ (by have := heap_some_lt h.blk; omega)).trans (K1.some_ X0 (fun e => by
    obtain ⟨cur, hq⟩ := own_tag' h0.row e
    rw [X0] at hq
    simp at hq))
  have K2 : Chg (fun k => k = sb ∨ v.ownBlock = some k) w W2 := (((Chg.below B0 : Chg (fun k => k = sb ∨ v.ownBlock = some k) w W0)).trans K1 (fun k _ e => .inr e)).trans (Chg.same S2) (fun k _ e => .inl e)
  have hu2 : Lib.Utf8Tabs 2 3 W2 := utf_chg2 hu K2 hn1 hn2
  have hcv := Lib.run_convert_bytes_const (P := Tryz.prog) W2 76 5 #[.int .u8 13, .int .u8 10] 2 2 Tryz.underlying76 Tryz.underlying5
  rw [show (#[Value.int .u8 13, Value.int .u8 10] : Array Value).size = 2 from rfl] at hcv
  have B3 : Below W2.heap.size W2 (W2.alloc (.cells #[.int .u8 13, .int .u8 10] 5 (2, 3))) := (Below.refl _ _).alloc (Nat.le_refl _) _
  have E3 := heap_alloc_new W2 (.cells #[.int .u8 13, .int .u8 10] 5 (2, 3))
  obtain ⟨W3, hW3⟩ : ∃ W3 : World, W2.alloc (.cells #[.int .u8 13, .int .u8 10] 5 (2, 3)) = W3 := ⟨_, rfl⟩
  rw [hW3] at hcv B3 E3
  have A3 := A2.below B3
  have X3 := below_some B3 X2
  have hu3 := Utf8Tabs_below hu2 B3
  have hcap : (l ++ [b]).length ≤ cap := by
    obtain ⟨g', cap', cur, e, _, p1, _⟩ := R1.parts (by simp)
    injection e with _ _ e
    omega
  have c22 : W2.cell? ⟨sb, 2, none⟩ = some (.slice (some ⟨g, 0, none⟩) (l.length + 1) cap) := by rw [Lib.cell_of_heap A2.blk]; exact A2.at2
  have c22' : ∀ o : Obj, (W2.alloc o).cell? ⟨sb, 2, none⟩ = some (.slice (some ⟨g, 0, none⟩) (l.length + 1) cap) := fun o => by rw [Lib.cell_of_heap (A2.below ((Below.refl _ W2).alloc (Nat.le_refl _) o)).blk]; exact A2.at2
  have hBY := RowZ.by A3.row
  have hCS := cutSuffix_any (l ++ [b]) g cap W2.heap.size W3 hBY hcap (by simp; omega) E3
  have HTS : Hid (takeS l b = if endsB (l ++ [b]) then ([], some (lineS ((l ++ [b]).take ((l ++ [b]).length - 2)))) else (shortS (l ++ [b]), none)) := Lib.hid rfl
  obtain ⟨acc, eacc⟩ : ∃ acc, l ++ [b] = acc := ⟨_, rfl⟩
  have hal : acc.length = l.length + 1 := by rw [← eacc]; simp
  rw [eacc] at A3 hcap hBY hCS HTS
  rw [hal] at hCS hcap
  rw [hs0] at hr1
  have HR1 := Lib.hid hr1
  have HK2 := Lib.hid K2
  have HA3 := Lib.hid A3
  have HB3 := Lib.hid B3
  have HX3 := Lib.hid X3
  have HU3 := Lib.hid hu3
  have HBY := Lib.hid hBY
  have HCS := Lib.hid hCS
  have HO : Hid (∀ k, (Value.slice (some ⟨g, 0, none⟩) (l.length + 1) cap).ownBlock = some k → v.ownBlock = some k ∨ w.heap.size ≤ k) := Lib.hid (fun k e => by
    injection e with e
    have e : g = k := e
    subst e
    exact O1.imp id (fun e => by omega))
  have HC := Lib.hid h.size
  obtain ⟨av, cv, ev⟩ := slice_of (row_of_own' h.row)
  subst ev
  clear h hu h0 hu0 X0 B0 hr1 ho1 K1 O1 R1 A2 S2 X2 K2 hu2 B3 E3 A3 X3 hu3 hBY hCS eacc
  go_enter Tryz.func27, Tryz.ntmps27
  go_wp2_with (first
    | (at_builtin; refine wpList_append_run rfl _ _ 76 rfl _ _ (.slice (some ⟨g, 0, none⟩) (l.length + 1) cap) W1 rfl rfl HR1.out ?_)
    | fail)
  refine HCS.out.mono ?_
  rintro e w4 ⟨rfl, rfl⟩
  obtain ⟨t, et⟩ : ∃ t, endsB acc = t := ⟨_, rfl⟩
  rw [et] at HTS ⊢
  clear HCS et hcv c20 c2 c21 f21 c22 c22' hW0 hW2 hW3
  cases t with
  | false =>
    simp only [Bool.false_eq_true, if_false] at HTS ⊢
    have HSH := Lib.hid (shorten_any sb _ _ acc w4 HA3.out (by omega) (by omega))
    go_wp2_with fail
    refine HSH.out.mono ?_
    rintro e w5 ⟨rfl, v5, A5, K5, O5⟩
    have X5 := K5.some_ HX3.out (fun e => by
      rcases e with e | e
      · have := HA3.out.blk; rw [← e, HX3.out] at this; simp at this
      · obtain ⟨cur, hq⟩ := own_tag' HA3.out.row e
        rw [HX3.out] at hq
        simp at hq)
    have p0 : w5.cell? ⟨w.heap.size, 0, none⟩ = some (.string ⟨#[]⟩) := by rw [Lib.cell_of_heap X5]; rfl
    have p1 : w5.cell? ⟨w.heap.size, 1, none⟩ = some (.bool false) := by rw [Lib.cell_of_heap X5]; rfl
    have q0 := Lib.frozen_of_heap X5 0
    have q1 := Lib.frozen_of_heap X5 1
    have HX5 := Lib.hid X5
    have HA5 := Lib.hid A5
    have HK5 := Lib.hid K5
    have HO5 := Lib.hid O5
    clear X5 A5 K5 O5 HSH
    go_wp2_with fail
    obtain ⟨r0, r1, rS⟩ := two_put (x := .string ⟨#[]⟩) (y := .bool false) HX5.out
    refine bodyPost_ret (v := .tuple #[.agg #[.string ⟨#[]⟩, .bool false], .bool false]) (by simp [results, Tryz.results27, go_sem, r0, r1]) rfl ?_
    rw [HTS.out]
    exact ⟨rfl, CtPost.fin HK2.out HB3.out HO.out rfl HA5.out HK5.out HO5.out (Nat.le_refl _) HX5.out rS⟩
  | true =>
    simp only [if_true] at HTS ⊢
    obtain ⟨n2, hn2⟩ : ∃ n2, l.length + 1 - 2 = n2 := ⟨_, rfl⟩
    rw [hn2]
    have HTS2 : Hid (takeS l b = ([], some (lineS (acc.take n2)))) := Lib.hid (by rw [HTS.out, hal, hn2])
    have htl : (acc.take n2).length = n2 := by rw [List.length_take]; omega
    have hbt : ByAt w4 g (acc.take n2) := fun j hj => by
      have hj2 : j < n2 := by omega
      rw [HBY.out j (by omega), List.getD_eq_getElem?_getD, List.getD_eq_getElem?_getD, List.getElem?_take_of_lt hj2]
    have hRD := linRead_any (acc.take n2) g cap w4 hbt (by omega) (by omega) HU3.out
    rw [htl] at hRD
    have HRD := Lib.hid hRD
    obtain ⟨x, ex⟩ : ∃ x, lineS (acc.take n2) = x := ⟨_, rfl⟩
    rw [ex] at HRD HTS2
    obtain ⟨tx, bd⟩ := x
    simp only at HRD
    clear hRD hbt ex htl hn2 HTS
    go_wp2_with fail
    refine HRD.out.mono ?_
    rintro e w5 ⟨rfl, hb5⟩
    have A5 := HA3.out.below hb5
    have X5 := below_some hb5 HX3.out
    have d2 : ∀ o : Obj, (w5.alloc o).cell? ⟨sb, 2, none⟩ = some (.slice (some ⟨g, 0, none⟩) (l.length + 1) cap) := fun o => by rw [Lib.cell_of_heap (A5.below ((Below.refl _ w5).alloc (Nat.le_refl _) o)).blk]; exact A5.at2
    have d2' : w5.cell? ⟨sb, 2, none⟩ = some (.slice (some ⟨g, 0, none⟩) (l.length + 1) cap) := by rw [Lib.cell_of_heap A5.blk]; exact A5.at2
    have g2 := Lib.frozen_of_heap A5.blk 2
    have g2' : ∀ o : Obj, (w5.alloc o).frozen? ⟨sb, 2, none⟩ = false := fun o => Lib.frozen_of_heap (A5.below ((Below.refl _ w5).alloc (Nat.le_refl _) o)).blk 2
    have B6 : Below w5.heap.size w5 (w5.alloc (.cells #[.string (bs tx), .bool bd] 89)) := (Below.refl _ _).alloc (Nat.le_refl _) _
    obtain ⟨W6, hW6⟩ : ∃ W6 : World, w5.alloc (.cells #[.string (bs tx), .bool bd] 89) = W6 := ⟨_, rfl⟩
    have L6 := heap_alloc_new w5 (.cells #[.string (bs tx), .bool bd] 89)
    rw [hW6] at B6 L6
    have A6 := A5.below B6
    have X6 := below_some B6 X5
    have d6 : W6.cell? ⟨sb, 2, none⟩ = some (.slice (some ⟨g, 0, none⟩) (l.length + 1) cap) := by rw [Lib.cell_of_heap A6.blk]; exact A6.at2
    have g6 := Lib.frozen_of_heap A6.blk 2
    have S7 : Same sb W6 (W6.setCell ⟨sb, 2, none⟩ (.slice (some ⟨g, 0, none⟩) 0 cap)) := (Same.refl _ _).setCell _
    have b7 := heap_setCell_same W6 sb 2 _ _ (.slice (some ⟨g, 0, none⟩) 0 cap) A6.blk
    obtain ⟨W7, hW7⟩ : ∃ W7 : World, W6.setCell ⟨sb, 2, none⟩ (.slice (some ⟨g, 0, none⟩) 0 cap) = W7 := ⟨_, rfl⟩
    rw [hW7] at S7 b7
    have hsb : sb ≠ w.heap.size := fun e => by have := A5.blk; rw [e, X5] at this; simp at this
    have X7 := (S7.2 _ (Ne.symm hsb)).trans X6
    have L7 := (S7.2 _ (by have := heap_some_lt A5.blk; omega)).trans L6
    have t0 : W7.cell? ⟨w5.heap.size, 0, none⟩ = some (.string (bs tx)) := by rw [Lib.cell_of_heap L7]; rfl
    have t1 : W7.cell? ⟨w5.heap.size, 1, none⟩ = some (.bool bd) := by rw [Lib.cell_of_heap L7]; rfl
    have R7 : RowZ W7 (.slice (some ⟨g, 0, none⟩) 0 cap) [] := by
      obtain ⟨g', cap', cur, e, hg, p1, p2, p3, p4⟩ := A6.row.parts (fun e => by rw [e] at hal; simp at hal)
      injection e with e _ e3
      injection e with e
      injection e with e _
      subst e e3
      exact RowZ.mk (l := []) ((S7.2 g (fun e => A6.far (by rw [← e]; rfl))).trans hg) (Nat.zero_le _) p2 p3 rfl
    have p0 : W7.cell? ⟨w.heap.size, 0, none⟩ = some (.string ⟨#[]⟩) := by rw [Lib.cell_of_heap X7]; rfl
    have p1 : W7.cell? ⟨w.heap.size, 1, none⟩ = some (.bool false) := by rw [Lib.cell_of_heap X7]; rfl
    have q0 := Lib.frozen_of_heap X7 0
    have q1 := Lib.frozen_of_heap X7 1
    have A7 : CutAt W7 sb ((C.setIfInBounds 2 (.slice (some ⟨g, 0, none⟩) (l.length + 1) cap)).setIfInBounds 2 (.slice (some ⟨g, 0, none⟩) 0 cap)) (.slice (some ⟨g, 0, none⟩) 0 cap) [] := ⟨b7, by rw [Array.size_setIfInBounds]; exact A6.size, by rw [Array.getElem?_setIfInBounds_self_of_lt (by have := A6.size; omega)], R7⟩
    have K7 : Chg (fun k => k = sb ∨ (Value.slice (some ⟨g, 0, none⟩) (l.length + 1) cap).ownBlock = some k) w4 W7 := ((Chg.below hb5 : Chg (fun k => k = sb ∨ (Value.slice (some ⟨g, 0, none⟩) (l.length + 1) cap).ownBlock = some k) w4 w5).trans (Chg.below B6 : Chg (fun _ => False) _ _) (fun _ _ e => e.elim)).trans (Chg.same S7) (fun k _ e => .inl e)
    have HA7 := Lib.hid A7
    have HX7 := Lib.hid X7
    have HK7 := Lib.hid K7
    clear A5 X5 hb5 HRD S7 b7 X6 R7 B6 X7 A6 A7 K7 d2 g2' d2' g2 L6 L7
    go_wp2_with fail
    obtain ⟨r0, r1, rS⟩ := two_put (x := .string (bs tx)) (y := .bool bd) HX7.out
    refine bodyPost_ret (v := .tuple #[.agg #[.string (bs tx), .bool bd], .bool true]) (by simp [results, Tryz.results27, go_sem, r0, r1]) rfl ?_
    rw [HTS2.out]
    exact ⟨rfl, CtPost.fin HK2.out HB3.out HO.out rfl HA7.out HK7.out (fun k e => .inl e) (Nat.le_refl _) HX7.out rS⟩
end Go.Proofs.YtadcidbeealdpaaGreatDoor
