import Derived.Test.YtadcidbeealdpaaGreatDoorS14
import Derived.Test.YtadcidbeealdpaaGreatDoorS10
import Derived.Lib.ConvBytes
import Derived.Test.YtadcidbeealdpaaGreatDoorS01
import Derived.Lib.SliceRun

/- The bag is read of what was kept. -/
namespace Go.Proofs.YtadcidbeealdpaaGreatDoor
open Go.RowKit
open Go.Lib (bytesWorld bytesWorld_size bytesWorld_at_old bytesWorld_cell)

/-- bytes in a row -/
def RecsAt (w : World) (v : Value) (l : List UInt8) : Prop := ∃ g cap cur z, v = .slice (some ⟨g, 0, none⟩) l.length cap ∧ w.heap[g]? = some (.cells cur 5 z) ∧ (∀ j, j < l.length → w.cell? ⟨g, j, none⟩ = some (.int .u8 (l.getD j 0).toNat)) ∧ cap ≤ z.1 ∧ l.length ≤ cap ∧ cap ≤ maxLen ∧ cur.size = cap ∧ cur.toList.take l.length = Lib.byteCells l
theorem RecsAt.moves {w w' : World} {v : Value} {l : List UInt8} (h : RecsAt w v l) (hk : ∀ (g : Nat) (cur : Array Value) (z : Nat × Nat), w.heap[g]? = some (.cells cur 5 z) → w'.heap[g]? = some (.cells cur 5 z)) : RecsAt w' v l := by
  obtain ⟨g, cap, cur, z, e, hg, hc, hr⟩ := h
  have hg' := hk g cur z hg
  exact ⟨g, cap, cur, z, e, hg', fun j hj => (World.cell?_of_block (w := w) (hg'.trans hg.symm)).trans (hc j hj), hr⟩
theorem RecsAt.keep {w w' : World} {v : Value} {l : List UInt8} (h : RecsAt w v l) (hb : Below w.heap.size w w') : RecsAt w' v l := h.moves fun _g _cur _z e => below_some hb e
theorem BagIn.nil {w : World} : BagIn w.heap.size ((w.alloc (.map #[] 0)).alloc (.cells #[.slice none 0 0, .int .i64 0, .int .i64 0, .map (some w.heap.size)] 95)) (w.heap.size + 1) w.heap.size (fun _ => 0) (.slice none 0 0) ⟨[], 0⟩ := by
  have h1 : ((w.alloc (.map #[] 0)).alloc (.cells #[.slice none 0 0, .int .i64 0, .int .i64 0, .map (some w.heap.size)] 95)).heap[w.heap.size + 1]? = some (.cells #[.slice none 0 0, .int .i64 0, .int .i64 0, .map (some w.heap.size)] 95 (0, 0)) := by
    have := heap_alloc_new (w.alloc (.map #[] 0)) (.cells #[.slice none 0 0, .int .i64 0, .int .i64 0, .map (some w.heap.size)] 95)
    simpa using this
  refine ⟨h1, ?_, by omega, Nat.le_refl _, fun i hi => ?_, fun i hi => ?_⟩
  · exact below_some ((Below.refl _ _).alloc (Nat.le_refl _) _) (heap_alloc_new w (.map #[] 0))
  · have := live_lt hi; simp at this
  · have := live_lt hi; simp at this
theorem below_bytes {W : World} {e : TypeId} {x : ByteArray} : Below W.heap.size W (bytesWorld W e x) :=
  ⟨by simp [bytesWorld, World.freeze, World.alloc, World.drew, -World.alloc_eq, -World.drew_eq], by simp [bytesWorld, World.freeze, World.alloc, World.drew, -World.alloc_eq, -World.drew_eq], by simp [bytesWorld, World.freeze, World.alloc, World.drew, -World.alloc_eq, -World.drew_eq], by rw [bytesWorld_size]; omega, fun k hk => bytesWorld_at_old W e x k hk⟩
theorem bytesCells_size (W : World) (e : TypeId) (x : ByteArray) : (Lib.bytesCells W e x).size = grownCap W x.size 0 e := by
  have := grownCap_ge W x.size 0 e
  simp only [Lib.bytesCells, Array.size_append, Array.size_map, Array.size_replicate]
  have e1 : x.data.size = x.size := rfl
  omega
theorem bytesCells_take (W : World) (e : TypeId) (l : List UInt8) : (Lib.bytesCells W e (bs l)).toList.take l.length = Lib.byteCells l := by
  have e1 : (bs l).data.toList = l := bs_toList l
  simp only [Lib.bytesCells, Array.toList_append, Array.toList_map, e1, Lib.byteCells]
  rw [List.take_append_of_le_length (by simp), List.take_of_length_le (by simp)]
/-- the records are laid -/
theorem read_end {s pb mb k : Nat} {q : Nat → Nat} {vr : Value} {S : PStore} {w W : World} {l : List UInt8} (h : BagIn s W pb mb q vr S) (hb : Below s w W) :
    let v := Value.slice (some ⟨W.heap.size, 0, none⟩) (bs (l.take k)).size (grownCap W (bs (l.take k)).size 0 5)
    let W2 := (bytesWorld W 5 (bs (l.take k))).setCell ⟨pb, 0, none⟩ v
    (l.take k).length ≤ maxLen → BagIn s W2 pb mb q v S ∧ RecsAt W2 v (l.take k) ∧ Below s w W2 := by
  intro v W2 hml
  have A1 := h.keep (below_bytes (e := 5) (x := bs (l.take k)))
  have S2 : Same pb (bytesWorld W 5 (bs (l.take k))) W2 := (Same.refl _ _).setCell _
  have hlt := h.pblt
  refine ⟨A1.timed (T := S.time) S2 (heap_setCell_same _ pb 0 _ _ v A1.bag), ⟨W.heap.size, _, _, _, by rw [← bs_size], same_some S2 (Lib.bytesWorld_at_new W 5 _) (by omega), fun j hj => ?_, ?_, ?_, ?_, ?_, ?_⟩, ?_⟩
  · have e1 : W2.cell? ⟨W.heap.size, j, none⟩ = (bytesWorld W 5 (bs (l.take k))).cell? ⟨W.heap.size, j, none⟩ := World.cell?_of_block (S2.2 W.heap.size (by omega))
    rw [e1, bytesWorld_cell _ _ _ _ (by rw [bs_size]; exact hj), bs_toList]
  · show _ ≤ (Lib.bytesCells W 5 (bs (l.take k))).size
    rw [bytesCells_size]
    exact Nat.le_refl _
  · rw [← bs_size]; exact grownCap_ge _ _ _ _
  · exact grownCap_le_maxLen _ _ _ _ (by rw [bs_size]; exact hml)
  · exact bytesCells_size _ _ _
  · exact bytesCells_take _ _ _
  · exact (hb.trans (below_bytes.mono h.le)).trans (S2.below h.pbb)

theorem cutS_drop {l : List UInt8} {c : List UInt8 × List UInt8} (h : cutS l = some c) : c.2 = l.drop (8 + c.1.length) := by
  rw [cut_doc] at h
  split at h
  · cases h
  · rename_i hn
    cases h
    have h1 : ((l.drop 8).take (be (l.take 4))).length = be (l.take 4) := by rw [List.length_take, List.length_drop]; omega
    simp only
    rw [h1, List.drop_drop]

set_option maxHeartbeats 1000000 in
set_option maxRecDepth 100000 in
theorem bagRead_any (l : List UInt8) (n : Int) (w : World) (hl : l.length ≤ 1048576) (hm : w.cell? ⟨0, 0, none⟩ = some (.int .i64 n)) :
    Calls Tryz.prog 20 #[.string (bs l)] w fun e w' => ∃ pb mb q vr, e = .returned (.pointer (some ⟨pb, 0, none⟩)) ∧ BagIn w.heap.size w' pb mb q vr (readS l).1 ∧ (readS l).1.Ok ∧ RecsAt w' vr (l.take (readS l).2) ∧ (∀ g, vr.ownBlock = some g → w.heap.size ≤ g) ∧ Below w.heap.size w w' := by
  obtain ⟨W0, hW0⟩ : ∃ W0 : World, (w.alloc (.map #[] 0)).alloc (.cells #[.slice none 0 0, .int .i64 0, .int .i64 0, .map (some w.heap.size)] 95) = W0 := ⟨_, rfl⟩
  have HS0 : Hid (BagIn w.heap.size W0 (w.heap.size + 1) w.heap.size (fun _ => 0) (.slice none 0 0) ⟨[], 0⟩) := Lib.hid (by rw [← hW0]; exact BagIn.nil)
  have HB0 : Hid (Below w.heap.size w W0) := Lib.hid (by rw [← hW0]; exact ((Below.refl _ _).alloc (Nat.le_refl _) _).alloc (by simp) _)
  have sl := bs_size l
  have HW0 := Lib.hid hW0
  have HM := Lib.hid hm
  have hmm := @run_makeMap Tryz.prog
  have hcv : ∀ (W : World) (x : ByteArray), (convert 9 76 (.string x)).run Tryz.prog W = .ok (.slice (some ⟨W.heap.size, 0, none⟩) x.size (grownCap W x.size 0 5)) (bytesWorld W 5 x) := fun W x => Lib.run_convert_string_bytes W _ _ _ x Tryz.underlying9 Tryz.underlying76 Tryz.underlying5
  clear hW0 hm
  go_enter Tryz.func20, Tryz.ntmps20
  go_wp2_with fail
  rw [HW0.out]
  go_loopw [4] (fun v w' => ∃ (k f : Nat) (S : PStore) (q : Nat → Nat), v = .int .i64 k ∧ k ≤ l.length ∧ 8 * S.items.length ≤ k ∧ Hid (l.length + 1 ≤ k + f) ∧ Hid (S.time ≤ 1000000000) ∧ Hid S.Ok ∧ Hid (BagIn w.heap.size w' (w.heap.size + 1) w.heap.size q (.slice none 0 0) S) ∧ Hid (Below w.heap.size w w') ∧ Hid (readS l = readF f S k (l.drop k))) (fun v _ => l.length - (intOf v).toNat)
  case atStart => exact ⟨0, l.length + 1, ⟨[], 0⟩, _, rfl, Nat.zero_le _, by simp, Lib.hid (by omega), Lib.hid (by simp), Lib.hid (PStore.Ok.nil 0), HS0, HB0, Lib.hid rfl⟩
  case round =>
    clear HS0 HB0
    obtain ⟨k, f, S, q, rfl, hk, hS, HF, HT, HO, HS, HB, HR⟩ := hrel
    obtain ⟨f, rfl⟩ : ∃ g, f = g + 1 := ⟨f - 1, by have := HF.out; omega⟩
    obtain ⟨R, eR⟩ : ∃ R, l.drop k = R := ⟨_, rfl⟩
    have hRl : R.length = l.length - k := by rw [← eR, List.length_drop]
    rw [eR] at HR
    have HER := Lib.hid eR
    have HEX : Hid ((bs l).extract k l.length = bs R) := Lib.hid (by rw [bs_extract, List.take_length, eR])
    clear eR
    go_wp2_with fail
    rw [HEX.out]
    refine (recCut_any R wr (by unfold maxLen; omega)).mono ?_
    rintro e w1 ⟨rfl, ht1⟩
    have hb1 : Below wr.heap.size wr w1 := ht1.toBelow (Nat.le_refl _)
    have A1 := Lib.hid (HS.out.keep hb1)
    have B1 := Lib.hid (HB.out.trans (hb1.mono HS.out.le))
    clear ht1 hb1
    have HE0 : Hid (∀ (W : World) (q' : Nat → Nat), BagIn w.heap.size W (w.heap.size + 1) w.heap.size q' (.slice none 0 0) S → ∀ x : ByteArray, (bytesWorld W 5 x).cell? ⟨w.heap.size + 1, 0, none⟩ = some (.slice none 0 0) ∧ (bytesWorld W 5 x).frozen? ⟨w.heap.size + 1, 0, none⟩ = false) := Lib.hid (fun W q' hA x => by
      have := (hA.keep (below_bytes (e := 5) (x := x))).bag
      exact ⟨by rw [Lib.cell_of_heap this]; rfl, Lib.frozen_of_heap this 0⟩)
    have HX0 : Hid ((bs l).extract 0 k = bs (l.take k)) := Lib.hid (by rw [bs_extract, List.drop_zero])
    have sk : (bs (l.take k)).size = k := by rw [bs_size, List.length_take]; omega
    cases hc : cutS R with
    | none =>
      have HRR := Lib.hid (HR.out.trans (readF_no hc))
      have g0 := fun x => (HE0.out w1 q A1.out x).1
      have g1 := fun x => (HE0.out w1 q A1.out x).2
      clear hc
      simp only [CutRet]
      go_wp2_with fail
      rw [HX0.out]
      obtain ⟨Y1, Y2, Y3⟩ := read_end (l := l) (k := k) A1.out B1.out (by rw [List.length_take]; unfold maxLen; omega)
      have HB9 := B1.out
      rw [sk] at Y1 Y2 Y3
      refine (makeAllDue_any _ _ _ _ _ _ _ Y1).mono ?_
      rintro e w9 ⟨rfl, A9, T9, B9⟩
      have HA9 := Lib.hid A9
      have HR9 := Lib.hid (Y2.moves fun g cur z e => T9.cells e (by decide))
      have HY9 := Lib.hid (Y3.trans B9)
      clear A9 T9 B9 Y1 Y2 Y3
      go_wp2_with fail
      go_ret
      exact ⟨w.heap.size + 1, w.heap.size, q, _, rfl, by rw [HRR.out]; exact HA9.out, by rw [HRR.out]; exact HO.out, by rw [HRR.out]; exact HR9.out, fun g e => (by injection e with e; simp only at e; rw [← e]; exact HB9.size), HY9.out⟩
    | some c =>
      have hcl := cutS_len hc
      obtain ⟨c1, c2⟩ := c
      simp only at hcl
      have hm1 : w1.cell? ⟨0, 0, none⟩ = some (.int .i64 n) := (B1.out.cell (by exact block_lt HM.out)).trans HM.out
      have HTK := Lib.hid (bagTake_any w.heap.size (w.heap.size + 1) w.heap.size q (.slice none 0 0) S c1 n w1 A1.out HO.out (by omega) hm1 (by omega))
      have HNO : Hid (S.takes c1 = none → readS l = (S, k)) := Lib.hid (fun ht => HR.out.trans (readF_not hc ht))
      have HYES : Hid (∀ S', S.takes c1 = some S' → readS l = readF f S' (k + 8 + c1.length) (l.drop (k + 8 + c1.length)) ∧ 8 * S'.items.length ≤ k + 8 + c1.length ∧ S'.time ≤ 1000000000) := Lib.hid (fun S' ht => by
        have hz := takes_sizes ht HT.out
        refine ⟨?_, by omega, hz.2⟩
        rw [HR.out, readF_yes hc ht]
        rw [show l.drop (k + 8 + c1.length) = c2 by
          have e9 := cutS_drop hc
          simp only at e9
          rw [e9, ← HER.out, List.drop_drop]
          congr 1; omega])
      have s1 := bs_size c1
      have s2 := bs_size c2
      clear hc hm1
      simp only [CutRet]
      go_wp2_with fail
      refine HTK.out.mono ?_
      intro e w2 hpost
      obtain ⟨hT, hokk⟩ := hpost
      unfold TakePost at hT
      obtain ⟨hor, hb2⟩ := hT
      have B2 := Lib.hid (B1.out.trans hb2)
      have HOK := Lib.hid hokk
      clear hb2 hokk
      rcases hor with ⟨h9, rfl, hA⟩ | ⟨S', q', h9, rfl, hA⟩
      · have HRR := Lib.hid (HNO.out h9)
        have g0 := fun x => (HE0.out w2 q hA x).1
        have g1 := fun x => (HE0.out w2 q hA x).2
        have A2 := Lib.hid hA
        clear h9 hA
        go_wp2_with fail
        rw [HX0.out]
        obtain ⟨Y1, Y2, Y3⟩ := read_end (l := l) (k := k) A2.out B2.out (by rw [List.length_take]; unfold maxLen; omega)
        have HB9 := B2.out
        rw [sk] at Y1 Y2 Y3
        refine (makeAllDue_any _ _ _ _ _ _ _ Y1).mono ?_
        rintro e w9 ⟨rfl, A9, T9, B9⟩
        have HA9 := Lib.hid A9
        have HR9 := Lib.hid (Y2.moves fun g cur z e => T9.cells e (by decide))
        have HY9 := Lib.hid (Y3.trans B9)
        clear A9 T9 B9 Y1 Y2 Y3
        go_wp2_with fail
        go_ret
        exact ⟨w.heap.size + 1, w.heap.size, q, _, rfl, by rw [HRR.out]; exact HA9.out, by rw [HRR.out]; exact HO.out, by rw [HRR.out]; exact HR9.out, fun g e => (by injection e with e; simp only at e; rw [← e]; exact HB9.size), HY9.out⟩
      · have HRR := Lib.hid (HYES.out S' h9)
        have HO2 := Lib.hid (HOK.out S' h9)
        have A2 := Lib.hid hA
        have hwr : IntKind.i64.wrap ((l.length : Int) - (c2.length : Int)) = ((k + 8 + c1.length : Nat) : Int) := by rw [IntKind.wrap_i64]; omega
        clear h9 hA
        go_wp2_with fail
        exact ⟨⟨k + 8 + c1.length, f, S', q', rfl, by omega, HRR.out.2.1, Lib.hid (by have := HF.out; omega), Lib.hid HRR.out.2.2, HO2, A2, B2, Lib.hid HRR.out.1⟩, by simp only [intOf]; omega⟩
end Go.Proofs.YtadcidbeealdpaaGreatDoor

/- A post, and what it keeps. -/
namespace Go.Proofs.YtadcidbeealdpaaGreatDoor
open Go.RowKit

/-- a post that was opened of l -/
def PostIn (base : Nat) (w : World) (pp : Nat) (l : List UInt8) : Prop :=
  ∃ pb mb q vr, (∃ C : Array Value, w.heap[pp]? = some (.cells C 61 (0, 0)) ∧ C[9]? = some (.pointer (some ⟨pb, 0, none⟩))) ∧ BagIn base w pb mb q vr (readS l).1 ∧ (readS l).1.Ok ∧ RecsAt w vr (l.take (readS l).2) ∧ base ≤ pp ∧ ∀ g, vr.ownBlock = some g → base ≤ g
theorem PostIn.keep {base pp : Nat} {w w' : World} {l : List UInt8} (h : PostIn base w pp l) (hb : Below w.heap.size w w') : PostIn base w' pp l := by
  obtain ⟨pb, mb, q, vr, ⟨C, h1, hC⟩, h2, h3, h4, h5⟩ := h
  exact ⟨pb, mb, q, vr, ⟨C, below_some hb h1, hC⟩, h2.keep hb, h3, h4.keep hb, h5⟩

set_option maxHeartbeats 400000 in
theorem bagKept_any (base pb mb : Nat) (q : Nat → Nat) (vr : Value) (S : PStore) (l : List UInt8) (w : World) (h : BagIn base w pb mb q vr S) (hr : RecsAt w vr l) :
    Calls Tryz.prog 17 #[.pointer (some ⟨pb, 0, none⟩)] w fun e w' => e = .returned (.string (bs l)) ∧ w = w' := by
  obtain ⟨g, cap, _, _, rfl, _, hc, _⟩ := hr
  have c0 : w.cell? ⟨pb, 0, none⟩ = some (.slice (some ⟨g, 0, none⟩) l.length cap) := by rw [Lib.cell_of_heap h.bag]; rfl
  have hcv := bytes_back w g cap l.length l rfl hc
  clear hc h
  go_enter Tryz.func17, Tryz.ntmps17
  go_wp2_with fail
  go_ret
  exact ⟨rfl, rfl⟩
set_option maxHeartbeats 400000 in
theorem postKept_any (base pp : Nat) (l : List UInt8) (w : World) (h : PostIn base w pp l) :
    Calls Tryz.prog 9 #[.pointer (some ⟨pp, 0, none⟩)] w fun e w' => e = .returned (.tuple #[.string (bs (l.take (readS l).2)), .int .i64 0]) ∧ w = w' := by
  obtain ⟨pb, mb, q, vr, ⟨C, h1, hC⟩, h2, h3, h4, _⟩ := h
  have c0 : w.cell? ⟨pp, 9, none⟩ = some (.pointer (some ⟨pb, 0, none⟩)) := by rw [Lib.cell_of_heap h1]; exact hC
  have HK := Lib.hid (bagKept_any base pb mb q vr _ _ w h2 h4)
  clear h1 h2 h3 h4 hC
  go_enter Tryz.func9, Tryz.ntmps9
  go_wp2_with fail
  refine HK.out.mono ?_
  rintro e w' ⟨rfl, rfl⟩
  go_wp2_with fail
  go_ret2
  exact ⟨rfl, rfl⟩
set_option maxHeartbeats 400000 in
theorem postKept_nil (w : World) : Calls Tryz.prog 9 #[.pointer none] w fun e w' => e = .returned (.tuple #[.string (bs []), .int .i64 1]) ∧ w = w' := by
  go_enter Tryz.func9, Tryz.ntmps9
  go_wp2_with fail
  go_ret2
  exact ⟨rfl, rfl⟩
set_option maxHeartbeats 400000 in
theorem postQueue_nil (w : World) : Calls Tryz.prog 12 #[.pointer none] w fun e w' => e = .returned (.tuple #[.slice none 0 0, .int .i64 1]) ∧ w = w' := by
  go_enter Tryz.func12, Tryz.ntmps12
  go_wp2_with fail
  go_ret2
  exact ⟨rfl, rfl⟩
end Go.Proofs.YtadcidbeealdpaaGreatDoor

/- The program's settings, copied: the lists. -/
namespace Go.Proofs.YtadcidbeealdpaaGreatDoor
open Go.RowKit

set_option maxHeartbeats 400000 in
set_option maxRecDepth 100000 in
theorem cloneD_any (l : List ByteArray) (v : Value) (w : World) (h : RowAt w v l.length 1 (strCellsOf l)) (hl : l.length ≤ 5) :
    Calls Tryz.prog 31 #[v] w fun e w' => ∃ a c, e = .returned (.slice a l.length c) ∧ w'.ownsRow w.heap.size 9 1 (.slice a l.length c) l.length (strCellsOf l) ∧ Below w.heap.size w w' := by
  obtain ⟨a, cap, ev⟩ := slice_of h
  subst ev
  cases a with
  | none =>
    have h0 : l.length = 0 := by
      rcases h.2 with ⟨h0, _⟩ | ⟨b, off, cap', e, _⟩
      · exact h0
      · cases e
    have hl0 : l = [] := List.length_eq_zero_iff.1 h0
    subst hl0
    clear h
    have qn := fun (w : World) (a : Option Addr) (n c n' c' : Nat) => Lib.run_eql_slice_nil (P := Tryz.prog) w 23 _ a n c n' c' Tryz.underlying23
    go_enter Tryz.func31, Tryz.ntmps31
    go_wp2_with fail
    go_ret
    exact ⟨none, 0, rfl, World.ownsRow_nil _ _ _ _, Below.refl _ _⟩
  | some a =>
    have nw : (w.alloc (.cells #[] 9)).heap[w.heap.size]? = some (.cells #[] 9 (0, 0)) := heap_alloc_new w _
    obtain ⟨g, cp, W1, hr, ho, hg, hgg⟩ := append_all (P := Tryz.prog) (w.alloc (.cells #[] 9)) 23 23 9 (.string ⟨#[]⟩) 1 16 Tryz.underlying23 info_str rfl (by decide) w.heap.size nw (.slice (some a) l.length cap) l.length (strCellsOf l) (h.below ((Below.refl _ _).alloc (Nat.le_refl _) _)) (one_strs l) (by unfold maxLen; omega) (by omega)
    have hb : Below w.heap.size w W1 := ((Below.refl w.heap.size w).alloc (Nat.le_refl _) _).grown hg (by simp) (fun k hk => by injection hk with hk; omega)
    have HR := Lib.hid hr
    have HO := Lib.hid ho
    have HB := Lib.hid hb
    clear hr ho hb hg hgg nw h
    have qn := fun (w : World) (a : Option Addr) (n c n' c' : Nat) => Lib.run_eql_slice_nil (P := Tryz.prog) w 23 _ a n c n' c' Tryz.underlying23
    go_enter Tryz.func31, Tryz.ntmps31
    go_wp2_with (first
      | (at_builtin; refine wpList_append_run rfl _ _ 23 rfl _ _ (.slice (some ⟨g, 0, none⟩) l.length cp) W1 rfl rfl HR.out ?_)
      | fail)
    go_ret
    exact ⟨_, _, rfl, HO.out, HB.out⟩

set_option maxHeartbeats 400000 in
set_option maxRecDepth 100000 in
theorem cloneN_any (l : List (Int × Int)) (v : Value) (w : World) (h : RowAt w v l.length 2 (netCells l)) (hl : l.length ≤ 5) :
    Calls Tryz.prog 32 #[v] w fun e w' => ∃ a c, e = .returned (.slice a l.length c) ∧ w'.ownsRow w.heap.size 46 2 (.slice a l.length c) l.length (netCells l) ∧ Below w.heap.size w w' := by
  obtain ⟨a, cap, ev⟩ := slice_of h
  subst ev
  cases a with
  | none =>
    have h0 : l.length = 0 := by
      rcases h.2 with ⟨h0, _⟩ | ⟨b, off, cap', e, _⟩
      · exact h0
      · cases e
    have hl0 : l = [] := List.length_eq_zero_iff.1 h0
    subst hl0
    clear h
    have qn := fun (w : World) (a : Option Addr) (n c n' c' : Nat) => Lib.run_eql_slice_nil (P := Tryz.prog) w 24 _ a n c n' c' Tryz.underlying24
    go_enter Tryz.func32, Tryz.ntmps32
    go_wp2_with fail
    go_ret
    exact ⟨none, 0, rfl, World.ownsRow_nil _ _ _ _, Below.refl _ _⟩
  | some a =>
    have nw : (w.alloc (.cells #[] 46)).heap[w.heap.size]? = some (.cells #[] 46 (0, 0)) := heap_alloc_new w _
    obtain ⟨g, cp, W1, hr, ho, hg, hgg⟩ := append_all (P := Tryz.prog) (w.alloc (.cells #[] 46)) 24 24 46 (.agg #[.int .i64 0, .int .i64 0]) 2 16 Tryz.underlying24 info_net rfl (by decide) w.heap.size nw (.slice (some a) l.length cap) l.length (netCells l) (h.below ((Below.refl _ _).alloc (Nat.le_refl _) _)) (one_nets l) (by unfold maxLen; omega) (by omega)
    have hb : Below w.heap.size w W1 := ((Below.refl w.heap.size w).alloc (Nat.le_refl _) _).grown hg (by simp) (fun k hk => by injection hk with hk; omega)
    have HR := Lib.hid hr
    have HO := Lib.hid ho
    have HB := Lib.hid hb
    clear hr ho hb hg hgg nw h
    have qn := fun (w : World) (a : Option Addr) (n c n' c' : Nat) => Lib.run_eql_slice_nil (P := Tryz.prog) w 24 _ a n c n' c' Tryz.underlying24
    go_enter Tryz.func32, Tryz.ntmps32
    go_wp2_with (first
      | (at_builtin; refine wpList_append_run rfl _ _ 24 rfl _ _ (.slice (some ⟨g, 0, none⟩) l.length cp) W1 rfl rfl HR.out ?_)
      | fail)
    go_ret
    exact ⟨_, _, rfl, HO.out, HB.out⟩

set_option maxHeartbeats 400000 in
set_option maxRecDepth 100000 in
theorem cloneU_any (l : List (ByteArray × ByteArray)) (v : Value) (w : World) (h : RowAt w v l.length 2 (userCells l)) (hl : l.length ≤ 5) :
    Calls Tryz.prog 33 #[v] w fun e w' => ∃ a c, e = .returned (.slice a l.length c) ∧ w'.ownsRow w.heap.size 48 2 (.slice a l.length c) l.length (userCells l) ∧ Below w.heap.size w w' := by
  obtain ⟨a, cap, ev⟩ := slice_of h
  subst ev
  cases a with
  | none =>
    have h0 : l.length = 0 := by
      rcases h.2 with ⟨h0, _⟩ | ⟨b, off, cap', e, _⟩
      · exact h0
      · cases e
    have hl0 : l = [] := List.length_eq_zero_iff.1 h0
    subst hl0
    clear h
    have qn := fun (w : World) (a : Option Addr) (n c n' c' : Nat) => Lib.run_eql_slice_nil (P := Tryz.prog) w 25 _ a n c n' c' Tryz.underlying25
    go_enter Tryz.func33, Tryz.ntmps33
    go_wp2_with fail
    go_ret
    exact ⟨none, 0, rfl, World.ownsRow_nil _ _ _ _, Below.refl _ _⟩
  | some a =>
    have nw : (w.alloc (.cells #[] 48)).heap[w.heap.size]? = some (.cells #[] 48 (0, 0)) := heap_alloc_new w _
    obtain ⟨g, cp, W1, hr, ho, hg, hgg⟩ := append_all (P := Tryz.prog) (w.alloc (.cells #[] 48)) 25 25 48 (.agg #[.string ⟨#[]⟩, .string ⟨#[]⟩]) 2 32 Tryz.underlying25 info_user rfl (by decide) w.heap.size nw (.slice (some a) l.length cap) l.length (userCells l) (h.below ((Below.refl _ _).alloc (Nat.le_refl _) _)) (one_users l) (by unfold maxLen; omega) (by omega)
    have hb : Below w.heap.size w W1 := ((Below.refl w.heap.size w).alloc (Nat.le_refl _) _).grown hg (by simp) (fun k hk => by injection hk with hk; omega)
    have HR := Lib.hid hr
    have HO := Lib.hid ho
    have HB := Lib.hid hb
    clear hr ho hb hg hgg nw h
    have qn := fun (w : World) (a : Option Addr) (n c n' c' : Nat) => Lib.run_eql_slice_nil (P := Tryz.prog) w 25 _ a n c n' c' Tryz.underlying25
    go_enter Tryz.func33, Tryz.ntmps33
    go_wp2_with (first
      | (at_builtin; refine wpList_append_run rfl _ _ 25 rfl _ _ (.slice (some ⟨g, 0, none⟩) l.length cp) W1 rfl rfl HR.out ?_)
      | fail)
    go_ret
    exact ⟨_, _, rfl, HO.out, HB.out⟩

set_option maxHeartbeats 400000 in
set_option maxRecDepth 100000 in
theorem cloneW_any (l : List Int) (v : Value) (w : World) (h : RowAt w v l.length 1 (intCells l)) (hl : l.length ≤ 5) :
    Calls Tryz.prog 34 #[v] w fun e w' => ∃ a c, e = .returned (.slice a l.length c) ∧ w'.ownsRow w.heap.size 3 1 (.slice a l.length c) l.length (intCells l) ∧ Below w.heap.size w w' := by
  obtain ⟨a, cap, ev⟩ := slice_of h
  subst ev
  cases a with
  | none =>
    have h0 : l.length = 0 := by
      rcases h.2 with ⟨h0, _⟩ | ⟨b, off, cap', e, _⟩
      · exact h0
      · cases e
    have hl0 : l = [] := List.length_eq_zero_iff.1 h0
    subst hl0
    clear h
    have qn := fun (w : World) (a : Option Addr) (n c n' c' : Nat) => Lib.run_eql_slice_nil (P := Tryz.prog) w 22 _ a n c n' c' Tryz.underlying22
    go_enter Tryz.func34, Tryz.ntmps34
    go_wp2_with fail
    go_ret
    exact ⟨none, 0, rfl, World.ownsRow_nil _ _ _ _, Below.refl _ _⟩
  | some a =>
    have nw : (w.alloc (.cells #[] 3)).heap[w.heap.size]? = some (.cells #[] 3 (0, 0)) := heap_alloc_new w _
    obtain ⟨g, cp, W1, hr, ho, hg, hgg⟩ := append_all (P := Tryz.prog) (w.alloc (.cells #[] 3)) 22 22 3 (.int .i64 0) 1 8 Tryz.underlying22 info_int rfl (by decide) w.heap.size nw (.slice (some a) l.length cap) l.length (intCells l) (h.below ((Below.refl _ _).alloc (Nat.le_refl _) _)) (one_ints l) (by unfold maxLen; omega) (by omega)
    have hb : Below w.heap.size w W1 := ((Below.refl w.heap.size w).alloc (Nat.le_refl _) _).grown hg (by simp) (fun k hk => by injection hk with hk; omega)
    have HR := Lib.hid hr
    have HO := Lib.hid ho
    have HB := Lib.hid hb
    clear hr ho hb hg hgg nw h
    have qn := fun (w : World) (a : Option Addr) (n c n' c' : Nat) => Lib.run_eql_slice_nil (P := Tryz.prog) w 22 _ a n c n' c' Tryz.underlying22
    go_enter Tryz.func34, Tryz.ntmps34
    go_wp2_with (first
      | (at_builtin; refine wpList_append_run rfl _ _ 22 rfl _ _ (.slice (some ⟨g, 0, none⟩) l.length cp) W1 rfl rfl HR.out ?_)
      | fail)
    go_ret
    exact ⟨_, _, rfl, HO.out, HB.out⟩

end Go.Proofs.YtadcidbeealdpaaGreatDoor
