import Derived.Test.YtadcidbeealdpaaGreatDoorS19
import Derived.Test.YtadcidbeealdpaaGreatDoorS21
import Derived.Test.YtadcidbeealdpaaGreatDoorS12
import Derived.Test.YtadcidbeealdpaaGreatDoorS01
import Derived.Test.YtadcidbeealdpaaGreatDoorS20
import Derived.Lib.ConvBytes
import Derived.Test.YtadcidbeealdpaaGreatDoorS13
import Derived.Test.YtadcidbeealdpaaGreatDoorS14
import Derived.Test.YtadcidbeealdpaaGreatDoorS09
import Derived.Test.YtadcidbeealdpaaGreatDoorS06
import Derived.Test.YtadcidbeealdpaaGreatDoorS10

/- What a command needs. -/
namespace Go.Proofs.YtadcidbeealdpaaGreatDoor
open Go.RowKit

/-- is a session ready for a command? tx: how many recipients its transaction has, if there is one -/
def readyB (verb : Int) (greeted : Bool) (tx : Option Nat) : Bool :=
  if verb = 5 then (match tx with | none => false | some n => decide (0 < n)) && greeted
  else if verb = 10 then tx.isSome && greeted
  else if verb = 8 ∨ verb = 9 then greeted else true

set_option maxHeartbeats 400000 in
set_option maxRecDepth 100000 in
theorem ready_none (sb ch : Nat) (C : Array Value) (ls : List (List UInt8)) (verb : Int) (g : Bool) (w : World) (h : SesAt w sb ch C ls) (h5 : C[5]? = some (.bool g)) (h8 : C[8]? = some (.pointer none)) :
    Calls Tryz.prog 74 #[.pointer (some ⟨sb, 0, none⟩), .int .i64 verb] w fun e w' => e = .returned (.bool (readyB verb g none)) ∧ w = w' := by
  have c5 := (h.cell 5).trans h5
  have c8 := (h.cell 8).trans h8
  have HN := Lib.hid (hasRecipients_none w)
  clear h
  by_cases e5 : verb = 5
  · subst e5
    go_enter Tryz.func74, Tryz.ntmps74
    go_wp2_with fail
    refine HN.out.mono ?_
    rintro e w' ⟨rfl, rfl⟩
    go_wp2_with fail
    go_ret
    exact ⟨rfl, rfl⟩
  · by_cases e10 : verb = 10
    · subst e10
      go_enter Tryz.func74, Tryz.ntmps74
      go_wp2_with fail
      go_ret
      exact ⟨rfl, rfl⟩
    · by_cases e8 : verb = 8
      · subst e8
        go_enter Tryz.func74, Tryz.ntmps74
        go_wp2_with fail
        go_ret
        exact ⟨rfl, rfl⟩
      · by_cases e9 : verb = 9
        · subst e9
          go_enter Tryz.func74, Tryz.ntmps74
          go_wp2_with fail
          go_ret
          exact ⟨rfl, rfl⟩
        · have q5 : (verb == 5) = false := by rw [beq_eq_false_iff_ne]; exact e5
          have q10 : (verb == 10) = false := by rw [beq_eq_false_iff_ne]; exact e10
          have q8 : (verb == 8) = false := by rw [beq_eq_false_iff_ne]; exact e8
          have q9 : (verb == 9) = false := by rw [beq_eq_false_iff_ne]; exact e9
          have hr : readyB verb g none = true := by unfold readyB; rw [if_neg e5, if_neg e10, if_neg (by omega)]
          rw [hr]
          go_enter Tryz.func74, Tryz.ntmps74
          go_wp2_with fail
          go_ret
          exact ⟨rfl, rfl⟩

set_option maxHeartbeats 400000 in
set_option maxRecDepth 100000 in
theorem ready_some (sb ch tb n c : Nat) (a : Option Addr) (C : Array Value) (ls : List (List UInt8)) (verb : Int) (g : Bool) (w : World) (h : SesAt w sb ch C ls) (h5 : C[5]? = some (.bool g)) (h8 : C[8]? = some (.pointer (some ⟨tb, 0, none⟩))) (ht : w.cell? ⟨tb, 1, none⟩ = some (.slice a n c)) :
    Calls Tryz.prog 74 #[.pointer (some ⟨sb, 0, none⟩), .int .i64 verb] w fun e w' => e = .returned (.bool (readyB verb g (some n))) ∧ w = w' := by
  have c5 := (h.cell 5).trans h5
  have c8 := (h.cell 8).trans h8
  have HN := Lib.hid (hasRecipients_any tb n c a w ht)
  clear h ht
  by_cases e5 : verb = 5
  · subst e5
    have hr : readyB 5 g (some n) = (decide (0 < n) && g) := rfl
    rw [hr]
    by_cases h0 : 0 < n
    · rw [decide_eq_true h0] at HN ⊢
      go_enter Tryz.func74, Tryz.ntmps74
      go_wp2_with fail
      refine HN.out.mono ?_
      rintro e w' ⟨rfl, rfl⟩
      go_wp2_with fail
      go_ret
      exact ⟨by simp, rfl⟩
    · rw [decide_eq_false h0] at HN ⊢
      go_enter Tryz.func74, Tryz.ntmps74
      go_wp2_with fail
      refine HN.out.mono ?_
      rintro e w' ⟨rfl, rfl⟩
      go_wp2_with fail
      go_ret
      exact ⟨by simp, rfl⟩
  · by_cases e10 : verb = 10
    · subst e10
      have hr : readyB 10 g (some n) = g := by cases g <;> rfl
      rw [hr]
      go_enter Tryz.func74, Tryz.ntmps74
      go_wp2_with fail
      go_ret
      exact ⟨rfl, rfl⟩
    · by_cases e8 : verb = 8
      · subst e8
        go_enter Tryz.func74, Tryz.ntmps74
        go_wp2_with fail
        go_ret
        exact ⟨rfl, rfl⟩
      · by_cases e9 : verb = 9
        · subst e9
          go_enter Tryz.func74, Tryz.ntmps74
          go_wp2_with fail
          go_ret
          exact ⟨rfl, rfl⟩
        · have q5 : (verb == 5) = false := by rw [beq_eq_false_iff_ne]; exact e5
          have q10 : (verb == 10) = false := by rw [beq_eq_false_iff_ne]; exact e10
          have q8 : (verb == 8) = false := by rw [beq_eq_false_iff_ne]; exact e8
          have q9 : (verb == 9) = false := by rw [beq_eq_false_iff_ne]; exact e9
          have hr : readyB verb g (some n) = true := by unfold readyB; rw [if_neg e5, if_neg e10, if_neg (by omega)]
          rw [hr]
          go_enter Tryz.func74, Tryz.ntmps74
          go_wp2_with fail
          go_ret
          exact ⟨rfl, rfl⟩
end Go.Proofs.YtadcidbeealdpaaGreatDoor

/- A row of bytes of one's own, of which a stretch outside of its room may be marked. -/
namespace Go.Proofs.YtadcidbeealdpaaGreatDoor
open Go.RowKit

theorem run_storeCells_M (P : Program) (g o : Nat) (t : TypeId) (fz : Nat × Nat) : ∀ (vs : List Value) (i : Nat) (cur : Array Value) (w : World), w.heap[g]? = some (.cells cur t fz) → (fz.2 ≤ o + i ∨ o + i + vs.length ≤ fz.1) → o + i + vs.length ≤ cur.size → (∀ v ∈ vs, v.oneCell' = true) →
    (storeCells ⟨g, o, none⟩ vs i).run P w = .ok () (w.setRow g (cur.toList.take (o + i) ++ vs ++ cur.toList.drop (o + i + vs.length)).toArray)
  | [], i, cur, w, hg, _, _, _ => by
    simp only [storeCells, List.append_nil, List.length_nil, Nat.add_zero, List.take_append_drop, Array.toArray_toList]
    rw [setRow_self w g cur t fz hg]
    rfl
  | v :: rest, i, cur, w, hg, hfz, hl, h1 => by
    have hi : o + i < cur.size := by simp at hl; omega
    have hadd : (⟨g, o, none⟩ : Addr).add i = ⟨g, o + i, none⟩ := by unfold Addr.add; split <;> simp_all
    have hcell : w.cell? ⟨g, o + i, none⟩ = some cur[o + i] := by simp [World.cell?, hg, hi]
    have hfro : w.frozen? ⟨g, o + i, none⟩ = false := by
      obtain ⟨lo, hi'⟩ := fz
      simp only [World.frozen?, hg, Bool.and_eq_false_iff, decide_eq_false_iff_not]
      simp only [List.length_cons] at hfz
      omega
    have hst : (store ((⟨g, o, none⟩ : Addr).add i) v).run P w = .ok () (w.setRow g (cur.setIfInBounds (o + i) v)) := by
      rw [hadd, run_store P w _ v _ (h1 v (by simp)), hcell]
      simp [hfro, setCell_eq_setRow w g (o + i) cur t fz v hg]
    have ih := run_storeCells_M P g o t fz rest (i + 1) (cur.setIfInBounds (o + i) v) (w.setRow g (cur.setIfInBounds (o + i) v)) (setRow_heap w g cur _ t _ hg) (by simp only [List.length_cons] at hfz; omega) (by simp at hl ⊢; omega) (fun x hx => h1 x (by simp [hx]))
    simp only [storeCells, Sem.run_bind, hst, Result.andThen_ok, ih, setRow_setRow]
    congr 3
    have e := list_seg_step cur.toList (o + i) v rest (by simp at hl ⊢; omega)
    simpa [Array.toList_setIfInBounds, Nat.add_assoc] using e

/-- the bytes l at v -/
def RowM (w : World) (v : Value) (l : List UInt8) : Prop :=
  (v = .slice none 0 0 ∧ l = []) ∨ ∃ g cap cur fz, v = .slice (some ⟨g, 0, none⟩) l.length cap ∧ w.heap[g]? = some (.cells cur 5 fz) ∧ (fz.2 ≤ l.length ∨ cap ≤ fz.1) ∧ l.length ≤ cap ∧ cap ≤ maxLen ∧ cur.size = cap ∧ cur.toList.take l.length = Lib.byteCells l
theorem byteCells_len (l : List UInt8) : (Lib.byteCells l).length = l.length := by simp [Lib.byteCells]
theorem RowM.nil (w : World) : RowM w (.slice none 0 0) [] := .inl ⟨rfl, rfl⟩
theorem RowM.ofF {w : World} {base : Nat} {v : Value} {l : List UInt8} (h : w.ownsRowF base 5 1 v l.length (Lib.byteCells l)) : RowM w v l := by
  rcases h.2 with ⟨h1, h2⟩ | ⟨g, cap, cur, fz, h1, _, h3, h4, h5, h6, h7, h8⟩
  · exact .inl ⟨h1, List.length_eq_zero_iff.1 h2⟩
  · exact .inr ⟨g, cap, cur, fz, h1, h3, .inl (by omega), h5, h6, by omega, by rw [Nat.mul_one] at h8; exact h8⟩
theorem RowM.len {w : World} {v : Value} {l : List UInt8} (h : RowM w v l) : ∃ a c, v = .slice a l.length c := by
  rcases h with ⟨h1, h2⟩ | ⟨g, cap, cur, fz, h1, _⟩
  · exact ⟨none, 0, by rw [h1, h2]; rfl⟩
  · exact ⟨_, _, h1⟩
theorem RowM.tag {w : World} {v : Value} {l : List UInt8} (h : RowM w v l) {g : Nat} (hg : v.ownBlock = some g) : ∃ cur z, w.heap[g]? = some (.cells cur 5 z) := by
  rcases h with ⟨h1, _⟩ | ⟨g', cap, cur, fz, h1, h3, _⟩
  · rw [h1] at hg; cases hg
  · rw [h1] at hg
    injection hg with hg
    subst hg
    exact ⟨_, _, h3⟩
theorem RowM.lt {w : World} {v : Value} {l : List UInt8} (h : RowM w v l) {g : Nat} (hg : v.ownBlock = some g) : g < w.heap.size := by
  obtain ⟨cur, z, h1⟩ := h.tag hg
  exact heap_some_lt h1
theorem RowM.chg {A : Nat → Prop} {w w' : World} {v : Value} {l : List UInt8} (h : RowM w v l) (hc : Chg A w w') (hn : ∀ g, v.ownBlock = some g → ¬ A g) : RowM w' v l := by
  rcases h with h | ⟨g, cap, cur, fz, h1, h3, r⟩
  · exact .inl h
  · exact .inr ⟨g, cap, cur, fz, h1, hc.some_ h3 (hn g (by rw [h1]; rfl)), r⟩
theorem RowM.below {w w' : World} {v : Value} {l : List UInt8} (h : RowM w v l) (hb : Below w.heap.size w w') : RowM w' v l := h.chg (Chg.below hb : Chg (fun _ => False) w w') (fun _ _ e => e)
theorem RowM.cell {w : World} {v : Value} {l : List UInt8} (h : RowM w v l) {g : Nat} (hg : v.ownBlock = some g) (j : Nat) (hj : j < l.length) : w.cell? ⟨g, j, none⟩ = some (.int .u8 ((l.getD j 0).toNat : Int)) := by
  rcases h with ⟨_, h1⟩ | ⟨g', cap, cur, fz, h1, h3, _, _, _, _, h8⟩
  · rw [h1] at hj; simp at hj
  · rw [h1] at hg
    injection hg with hg
    subst hg
    rw [Lib.cell_of_heap h3, ← Array.getElem?_toList, ← List.getElem?_take_of_lt hj, h8, Lib.byteCells, List.getElem?_map, List.getElem?_eq_getElem hj, List.getD_eq_getElem?_getD, List.getElem?_eq_getElem hj]
    rfl
theorem RowM.cells {w : World} {l : List UInt8} {g n c : Nat} (h : RowM w (.slice (some ⟨g, 0, none⟩) n c) l) : ∀ j u, (Lib.byteCells l)[j]? = some u → w.cell? ((⟨g, 0, none⟩ : Addr).add j) = some u := by
  intro j u hu
  have hadd : (⟨g, 0, none⟩ : Addr).add j = ⟨g, j, none⟩ := by unfold Addr.add; split <;> simp_all
  have hj : j < l.length := by have := (List.getElem?_eq_some_iff.1 hu).1; rwa [byteCells_len] at this
  rw [hadd, h.cell rfl j hj, ← hu, Lib.byteCells, List.getElem?_map, List.getElem?_eq_getElem hj, List.getD_eq_getElem?_getD, List.getElem?_eq_getElem hj]
  rfl
/-- string(v) -/
theorem RowM.string {w : World} {v : Value} {l : List UInt8} (h : RowM w v l) : (convert 76 9 v).run Tryz.prog w = .ok (.string (bs l)) w := by
  rcases h with ⟨rfl, rfl⟩ | ⟨g, cap, cur, fz, rfl, h3, r⟩
  · rw [run_convert_bytes_string w 76 9 5 none 0 0 Tryz.underlying76 Tryz.underlying5 Tryz.underlying9]
    simp [Conv.bytesToString, Sem.run_pure]
    rfl
  · exact bytes_back w g cap l.length l rfl (fun j hj => RowM.cell (.inr ⟨g, cap, cur, fz, rfl, h3, r⟩) rfl j hj)
/-- []byte(s) -/
theorem RowM.conv (w : World) (l : List UInt8) (hl : l.length ≤ maxLen) : RowM (Lib.bytesWorld w 5 (bs l)) (.slice (some ⟨w.heap.size, 0, none⟩) (bs l).size (grownCap w (bs l).size 0 5)) l := by
  have hs := bs_size l
  have hge := grownCap_ge w l.length 0 5
  have hle := grownCap_le_maxLen w l.length 0 5 hl
  refine .inr ⟨w.heap.size, grownCap w l.length 0 5, _, _, by rw [hs], Lib.bytesWorld_at_new w 5 (bs l), .inr ?_, hge, hle, ?_, ?_⟩
  · simp only [Lib.bytesCells, hs, Array.size_append, Array.size_map, Array.size_replicate]
    have : (bs l).data.size = l.length := hs
    omega
  · simp only [Lib.bytesCells, hs, Array.size_append, Array.size_map, Array.size_replicate]
    have : (bs l).data.size = l.length := hs
    omega
  · simp only [Lib.bytesCells, Array.toList_append, Array.toList_map]
    rw [List.take_left' (by simp [bs])]
    simp [Lib.byteCells, bs]

theorem take_seg {α : Type} (a b c : List α) {n : Nat} (h : n = a.length + b.length) : (a ++ b ++ c).take n = a ++ b := by
  rw [h, ← List.length_append]; exact List.take_left
/-- a text more -/
theorem RowM.text {w : World} {v : Value} {l : List UInt8} (h : RowM w v l) (s : List UInt8) (hb : l.length + s.length ≤ 140737488355328) :
    ∃ a n c w', (Builtin.append_ #[76, 9] 76 #[v, .string (bs s)]).run Tryz.prog w = .ok (.slice a n c) w' ∧ RowM w' (.slice a n c) (l ++ s) ∧ Chg (fun k => v.ownBlock = some k) w w' ∧ ∀ k, (Value.slice a n c).ownBlock = some k → v.ownBlock = some k ∨ w.heap.size ≤ k := by
  obtain ⟨i, hi, hz0, hz1, hz2⟩ := info_parts info_byte
  have hs := bs_size s
  rcases h with ⟨rfl, rfl⟩ | ⟨g, cap, cur, fz, rfl, h3, h4, h5, h6, h7, h8⟩
  · obtain ⟨v', w', h1, h2, h3, h4⟩ := run_append_text (P := Tryz.prog) w 0 76 9 76 5 i Tryz.underlying76 Tryz.underlying9 hi hz0 hz1 hz2 (.slice none 0 0) 0 [] (World.ownsRowF_nil w 0 5 1) (bs s) (by unfold maxLen; simp at hb; omega) (by simp at hb; omega) (Nat.zero_le _)
    obtain ⟨a, n, c, rfl⟩ : ∃ a m c, v' = .slice a m c := by
      rcases h2.2 with ⟨e, _⟩ | ⟨g, cap, cur, fz, e, _⟩
      · exact ⟨_, _, _, e⟩
      · exact ⟨_, _, _, e⟩
    refine ⟨a, n, c, w', h1, RowM.ofF (base := 0) ?_, Chg.grown h3, h4⟩
    have e2 : [] ++ Lib.strCells (bs s) = Lib.byteCells s := by simp [Lib.byteCells, Lib.strCells, bs]
    rw [e2, Nat.zero_add, hs] at h2
    exact h2
  · have hH : RowM w (.slice (some ⟨g, 0, none⟩) l.length cap) l := .inr ⟨g, cap, cur, fz, rfl, h3, h4, h5, h6, h7, h8⟩
    have hstr : Lib.strCells (bs s) = Lib.byteCells s := by simp [Lib.byteCells, Lib.strCells, bs]
    have hbl := byteCells_len s
    have hbl0 := byteCells_len l
    have hba : Lib.byteCells (l ++ s) = Lib.byteCells l ++ Lib.byteCells s := by simp [Lib.byteCells]
    by_cases hroom : l.length + s.length ≤ cap
    · have hf := Lib.run_firstCells_string (P := Tryz.prog) w 1 (bs s)
      have hst := run_storeCells_M Tryz.prog g l.length 5 fz (Lib.strCells (bs s)) 0 cur w h3 (by rw [hstr]; omega) (by rw [hstr]; omega) (Lib.strCells_oneCell (bs s))
      simp only [Nat.add_zero, Lib.strCells_length, hs] at hst
      rw [hs] at hf
      have hr : (Builtin.append_ #[76, 9] 76 #[.slice (some ⟨g, 0, none⟩) l.length cap, .string (bs s)]).run Tryz.prog w = .ok (.slice (some ⟨g, 0, none⟩) (l.length + s.length) cap) (w.setRow g (cur.toList.take l.length ++ Lib.strCells (bs s) ++ cur.toList.drop (l.length + s.length)).toArray) := by
        simp [Builtin.append_, run_underlying Tryz.underlying76, run_underlying Tryz.underlying9, sizeOf, typeInfo, hi, hz1, Builtin.lenOf, hs, hroom, hf, Addr.add_lit, hst]
      refine ⟨_, _, _, _, hr, .inr ⟨g, cap, _, fz, by rw [List.length_append], setRow_heap w g cur _ 5 _ h3, by rw [List.length_append]; omega, by rw [List.length_append]; exact hroom, h6, ?_, ?_⟩, ⟨by simp [World.setRow], fun k _ hk => setRow_other w g k _ (fun e => hk (by rw [e]; rfl)), ⟨rfl, rfl, rfl⟩⟩, fun k hk => .inl hk⟩
      · simp only [List.size_toArray, List.length_append, List.length_take, List.length_drop, Array.length_toList, hstr, hbl]
        omega
      · rw [h8, hstr, hba, List.length_append]
        exact take_seg _ _ _ (by omega)
    · have hr := Lib.run_append_grow_string (P := Tryz.prog) w 76 9 76 5 i (.int .u8 0) Tryz.underlying76 Tryz.underlying9 hi hz0 ⟨g, 0, none⟩ l.length cap (Lib.byteCells l) (by rw [hz1]; omega) hH.cells (bs s) (by omega) (by omega) (by rw [hz2]; exact growslice_fits (by omega) (by omega))
      rw [hs] at hr
      have hge := grownCap_ge w (l.length + s.length) cap 5
      have hle := grownCap_le_maxLen w (l.length + s.length) cap 5 (by unfold maxLen; omega)
      refine ⟨_, _, _, _, hr, .inr ⟨w.heap.size, _, _, (0, 0), by rw [List.length_append], heap_alloc_new w.drew _, .inl (Nat.zero_le _), by rw [List.length_append]; exact hge, hle, ?_, ?_⟩, Chg.below ((Below.refl w.heap.size w).drew.alloc (Nat.le_refl _) _), fun k hk => .inr (by injection hk with hk; exact Nat.le_of_eq hk)⟩
      · have hq : (Value.int IntKind.u8 0).cells.size = 1 := rfl
        simp only [Array.size_append, List.size_toArray, size_zeroCells, hq, hstr, hbl, hbl0]
        omega
      · simp only [Array.toList_append, hstr, hba, List.length_append]
        exact take_seg _ _ _ (by omega)
/-- one byte more; W: the world w with the byte in a new block -/
theorem RowM.one {w W : World} {v : Value} {l : List UInt8} (h : RowM w v l) (x : UInt8) (hB : Below w.heap.size w W) (hW : W.heap[w.heap.size]? = some (.cells #[.int .u8 (x.toNat : Int)] 5 (0, 0))) (hb : l.length + 1 ≤ 140737488355328) :
    ∃ a n c w', (Builtin.append_ #[76, 76] 76 #[v, .slice (some ⟨w.heap.size, 0, none⟩) 1 1]).run Tryz.prog W = .ok (.slice a n c) w' ∧ RowM w' (.slice a n c) (l ++ [x]) ∧ Chg (fun k => v.ownBlock = some k) w w' ∧ ∀ k, (Value.slice a n c).ownBlock = some k → v.ownBlock = some k ∨ w.heap.size ≤ k := by
  obtain ⟨i, hi, hz0, hz1, hz2⟩ := info_parts info_byte
  have hnews : ∀ j u, [Value.int .u8 (x.toNat : Int)][j]? = some u → W.cell? ((⟨w.heap.size, 0, none⟩ : Addr).add j) = some u := World.news_of_block (cs := #[.int .u8 (x.toNat : Int)]) (t := 5) (fr := (0, 0)) hW
  have hHW := h.below hB
  have hba : Lib.byteCells (l ++ [x]) = Lib.byteCells l ++ [.int .u8 (x.toNat : Int)] := by simp [Lib.byteCells]
  have hbl0 := byteCells_len l
  rcases hHW with ⟨rfl, rfl⟩ | ⟨g, cap, cur, fz, rfl, h3, h4, h5, h6, h7, h8⟩
  · obtain ⟨g, cap, w', h1, h2, h3⟩ := run_append_sharp (P := Tryz.prog) W 76 76 0 5 i (.int .u8 0) 1 1 Tryz.underlying76 hi hz0 hz1 hz2 rfl (by decide) (.slice none 0 0) 0 [] ⟨rfl, .inl ⟨rfl, rfl⟩⟩ ⟨w.heap.size, 0, none⟩ 1 1 [.int .u8 (x.toNat : Int)] rfl hnews (by intro u hu; simp at hu; rw [hu]; rfl) (by decide) (by unfold maxLen; decide) (by decide) (Nat.zero_le _)
    rcases h3 with ⟨e, _⟩ | ⟨e, h3⟩
    · cases e
    · refine ⟨_, _, _, w', h1, RowM.ofF (base := 0) (World.ownsRowF_of h2), (Chg.below hB : Chg _ w W).trans (Chg.grown h3) (fun k _ e => by cases e), fun k hk => .inr ?_⟩
      injection hk with hk
      have hk : g = k := hk
      have := hB.size
      omega
  · have hH : RowM W (.slice (some ⟨g, 0, none⟩) l.length cap) l := .inr ⟨g, cap, cur, fz, rfl, h3, h4, h5, h6, h7, h8⟩
    by_cases hroom : l.length + 1 ≤ cap
    · have hf := run_firstCells_some (P := Tryz.prog) W 1 1 ⟨w.heap.size, 0, none⟩ 1 1 [.int .u8 (x.toNat : Int)] rfl hnews
      have hst := run_storeCells_M Tryz.prog g l.length 5 fz [.int .u8 (x.toNat : Int)] 0 cur W h3 (by simp only [List.length_cons, List.length_nil]; omega) (by simp only [List.length_cons, List.length_nil]; omega) (by intro u hu; simp at hu; rw [hu]; rfl)
      simp only [Nat.add_zero, List.length_cons, List.length_nil, Nat.zero_add] at hst
      have hr : (Builtin.append_ #[76, 76] 76 #[.slice (some ⟨g, 0, none⟩) l.length cap, .slice (some ⟨w.heap.size, 0, none⟩) 1 1]).run Tryz.prog W = .ok (.slice (some ⟨g, 0, none⟩) (l.length + 1) cap) (W.setRow g (cur.toList.take l.length ++ [Value.int .u8 (x.toNat : Int)] ++ cur.toList.drop (l.length + 1)).toArray) := by
        simp [Builtin.append_, run_underlying Tryz.underlying76, sizeOf, typeInfo, hi, hz1, Builtin.lenOf, hroom, hf, Addr.add_lit, hst]
      refine ⟨_, _, _, _, hr, .inr ⟨g, cap, _, fz, by rw [List.length_append]; rfl, setRow_heap W g cur _ 5 _ h3, by rw [List.length_append]; simp only [List.length_cons, List.length_nil]; omega, by rw [List.length_append]; exact hroom, h6, ?_, ?_⟩, (Chg.below hB : Chg _ w W).trans (A1 := fun k => k = g) ⟨by simp [World.setRow], fun k _ hk => setRow_other W g k _ hk, ⟨rfl, rfl, rfl⟩⟩ (fun k _ e => by rw [e]; rfl), fun k hk => .inl hk⟩
      · simp only [List.size_toArray, List.length_append, List.length_take, List.length_drop, Array.length_toList, List.length_cons, List.length_nil]
        omega
      · rw [h8, hba, List.length_append]
        exact take_seg _ _ _ (by simp only [List.length_cons, List.length_nil]; omega)
    · have hr := run_append_grow (P := Tryz.prog) W 76 76 5 i (.int .u8 0) Tryz.underlying76 hi hz0 ⟨g, 0, none⟩ l.length cap (Lib.byteCells l) (by rw [hz1]; omega) hH.cells ⟨w.heap.size, 0, none⟩ 1 1 [.int .u8 (x.toNat : Int)] (by rw [hz1]; rfl) hnews (by omega) (by omega) (by rw [hz2]; exact growslice_fits (by omega) (by omega))
      have hge := grownCap_ge W (l.length + 1) cap 5
      have hle := grownCap_le_maxLen W (l.length + 1) cap 5 (by unfold maxLen; omega)
      refine ⟨_, _, _, _, hr, .inr ⟨W.heap.size, _, _, (0, 0), by rw [List.length_append]; rfl, heap_alloc_new W.drew _, .inl (Nat.zero_le _), by rw [List.length_append]; exact hge, hle, ?_, ?_⟩, (Chg.below hB : Chg _ w W).trans (Chg.below ((Below.refl W.heap.size W).drew.alloc (Nat.le_refl _) _) : Chg (fun _ => False) _ _) (fun _ _ e => e.elim), fun k hk => .inr (by injection hk with hk; have hk : W.heap.size = k := hk; have := hB.size; omega)⟩
      · have hq : (Value.int IntKind.u8 0).cells.size = 1 := rfl
        simp only [Array.size_append, List.size_toArray, size_zeroCells, hq, hbl0, List.length_cons, List.length_nil]
        omega
      · simp only [Array.toList_append, hba, List.length_append]
        exact take_seg _ _ _ (by simp only [List.length_cons, List.length_nil]; omega)
end Go.Proofs.YtadcidbeealdpaaGreatDoor

/- A mail more in the bag: which blocks turn. -/
namespace Go.Proofs.YtadcidbeealdpaaGreatDoor
open Go.RowKit

/-- the blocks of a bag: its own, its map, its mails, their lists -/
def bagBlk (w : World) (pb mb : Nat) (q : Nat → Nat) (S : PStore) (k : Nat) : Prop :=
  k = pb ∨ k = mb ∨ ∃ i ∈ S.live, k = q i ∨ ∃ C z, w.heap[q i]? = some (.cells C 149 z) ∧ (C.getD 2 undef).ownBlock = some k
theorem bagBlk.keep {w w' : World} {pb mb : Nat} {q : Nat → Nat} {S : PStore} (h : ∀ i ∈ S.live, w'.heap[q i]? = w.heap[q i]?) {k : Nat} (hk : bagBlk w' pb mb q S k) : bagBlk w pb mb q S k := by
  rcases hk with e | e | ⟨i, hi, e | ⟨C, z, e1, e2⟩⟩
  · exact .inl e
  · exact .inr (.inl e)
  · exact .inr (.inr ⟨i, hi, .inl e⟩)
  · exact .inr (.inr ⟨i, hi, .inr ⟨C, z, by rw [← h i hi]; exact e1, e2⟩⟩)
theorem bagBlk_added {base pb mb : Nat} {q : Nat → Nat} {vr : Value} {S : PStore} {w W0 W1 w2 : World} (hh : BagIn base w pb mb q vr S) (h0 : Below w.heap.size w W0) (h : BagIn base W0 pb mb q vr S) {m : PMail} {Q : Nat} {v : Value} {x : Int × Int} (h1 : Same pb W0 W1) (_hp1 : W1.heap[pb]? = some (.cells #[vr, .int .i64 m.time, .int .i64 ((S.items.length : Int) + 1), .map (some mb)] 95 (0, 0)))
    (h2 : Below W1.heap.size W1 w2) (hQ : W1.heap.size ≤ Q) (hm : BmAt w2 Q m.time m.frm v m.body x) (hr : w2.ownsRow W1.heap.size 152 2 v m.tos.length (recCells (stay m.tos (List.replicate m.tos.length false)))) (ht : 1 ≤ m.tos.length) :
    Chg (fun k => k = pb ∨ k = mb) w (ChangeMaps.setBlock w2 mb (.map (ents (fun i => if i = S.items.length then Q else q i) (S.live ++ [S.items.length])) (S.items.length + 1))) ∧ ∀ k, bagBlk (ChangeMaps.setBlock w2 mb (.map (ents (fun i => if i = S.items.length then Q else q i) (S.live ++ [S.items.length])) (S.items.length + 1))) pb mb (fun i => if i = S.items.length then Q else q i) (S.plus m) k → bagBlk w pb mb q S k ∨ w.heap.size ≤ k := by
  have hmb1 : W1.heap[mb]? = some (.map (ents q S.live) S.items.length) := same_some h1 h.map (fun e => by have := h.map; unfold MapIn at this; rw [e, h.bag] at this; simp at this)
  have hmb2 : w2.heap[mb]? = some (.map (ents q S.live) S.items.length) := below_some h2 hmb1
  have hS := same_setBlock hmb2 (.map (ents (fun i => if i = S.items.length then Q else q i) (S.live ++ [S.items.length])) (S.items.length + 1))
  have hsz1 : W1.heap.size = W0.heap.size := h1.1
  have hsz0 := h0.size
  have K : Chg (fun k => k = pb ∨ k = mb) w (ChangeMaps.setBlock w2 mb (.map (ents (fun i => if i = S.items.length then Q else q i) (S.live ++ [S.items.length])) (S.items.length + 1))) :=
    (((Chg.below h0 : Chg (fun k => k = pb ∨ k = mb) w W0).trans (Chg.same h1) (fun k _ e => .inl e)).trans (Chg.below h2 : Chg (fun _ => False) _ _) (fun k _ e => e.elim)).trans (Chg.same hS) (fun k _ e => .inr e)
  refine ⟨K, fun k hk => ?_⟩
  rcases hk with e | e | ⟨i, hi, hk⟩
  · exact .inl (.inl e)
  · exact .inl (.inr (.inl e))
  · rw [plus_live ht] at hi
    simp only [List.mem_append, List.mem_singleton] at hi
    rcases hi with hi | rfl
    · have hne : i ≠ S.items.length := by have := live_lt hi; omega
      obtain ⟨a, v', x', b, c⟩ := hh.mail i hi
      have b' := K.some_ b (fun e => by
        unfold BmAt at b
        rcases e with e | e
        · rw [e, hh.bag] at b; simp at b
        · have := hh.map; unfold MapIn at this; rw [e, this] at b; simp at b)
      simp only [if_neg hne] at hk
      rcases hk with e | ⟨C, z, e1, e2⟩
      · exact .inl (.inr (.inr ⟨i, hi, .inl e⟩))
      · refine .inl (.inr (.inr ⟨i, hi, .inr ⟨C, z, ?_, e2⟩⟩))
        rw [b'] at e1
        rw [← e1]
        exact b
    · simp only [if_true] at hk
      right
      rcases hk with e | ⟨C, z, e1, e2⟩
      · omega
      · have hm' := same_some hS hm (fun e => by unfold BmAt at hm; rw [e, hmb2] at hm; simp at hm)
        rw [hm'] at e1
        injection e1 with e1
        injection e1 with e1 _ _
        rw [← e1] at e2
        have := hr.lt k e2
        omega

set_option maxHeartbeats 1000000 in
set_option maxRecDepth 100000 in
theorem bagAdd_sharp (base pb mb : Nat) (q : Nat → Nat) (vr : Value) (S : PStore) (m : PMail) (v : Value) (w : World) (h : BagIn base w pb mb q vr S) (B : Nat) (hv : w.ownsRow B 9 1 v m.tos.length (textCells m.tos)) (hz : MailSz m) (hid : m.id = S.items.length + 1) (ht : 1 ≤ m.tos.length) (hn : S.items.length < 4294967295) :
    Calls Tryz.prog 99 #[.pointer (some ⟨pb, 0, none⟩), .agg (mailCells m v)] w fun e w' => e = .returned (.tuple #[]) ∧ ∃ q', BagIn base w' pb mb q' vr (S.plus m) ∧ Chg (fun k => k = pb ∨ k = mb) w w' ∧ ∀ k, bagBlk w' pb mb q' (S.plus m) k → bagBlk w pb mb q S k ∨ w.heap.size ≤ k := by
  have HH := Lib.hid h
  have HV := Lib.hid hv
  have HZ := Lib.hid hz
  have hpb : ∀ o : Obj, (w.alloc o).heap[pb]? = some (.cells #[vr, .int .i64 S.time, .int .i64 S.items.length, .map (some mb)] 95 (0, 0)) := fun o => below_some ((Below.refl _ w).alloc (Nat.le_refl _) o) h.bag
  have c1 : ∀ o : Obj, (w.alloc o).cell? ⟨pb, 1, none⟩ = some (.int .i64 S.time) := fun o => by rw [Lib.cell_of_heap (hpb o)]; rfl
  have c2 : ∀ o : Obj, (w.alloc o).cell? ⟨pb, 2, none⟩ = some (.int .i64 S.items.length) := fun o => by rw [Lib.cell_of_heap (hpb o)]; rfl
  have c3 : ∀ o : Obj, (w.alloc o).cell? ⟨pb, 3, none⟩ = some (.map (some mb)) := fun o => by rw [Lib.cell_of_heap (hpb o)]; rfl
  have f1 : ∀ o : Obj, (w.alloc o).frozen? ⟨pb, 1, none⟩ = false := fun o => Lib.frozen_of_heap (hpb o) 1
  have f2 : ∀ o : Obj, (w.alloc o).frozen? ⟨pb, 2, none⟩ = false := fun o => Lib.frozen_of_heap (hpb o) 2
  have HPB := Lib.hid hpb
  obtain ⟨s, hs⟩ : ∃ s, w.heap.size = s := ⟨_, rfl⟩
  have hps : pb ≠ s := by have := h.pblt; omega
  have HSS := Lib.hid hs
  unfold mailCells
  have HID := Lib.hid hid
  clear h hv hz hpb hs hid
  go_enter Tryz.func99, Tryz.ntmps99
  go_wp2_with fail
  obtain ⟨W1, hW1⟩ : ∃ W1 : World, (((w.alloc (.cells #[.int .i64 m.id, .int .i64 m.time, .string (bs m.frm), v, .string (bs m.body)] 54)).setCell ⟨pb, 2, none⟩ (.int .i64 m.id)).setCell ⟨pb, 1, none⟩ (.int .i64 m.time)) = W1 := ⟨_, rfl⟩
  rw [hW1]
  obtain ⟨W0, hW0⟩ : ∃ W0 : World, w.alloc (.cells #[.int .i64 m.id, .int .i64 m.time, .string (bs m.frm), v, .string (bs m.body)] 54) = W0 := ⟨_, rfl⟩
  have B0 : Below w.heap.size w W0 := by rw [← hW0]; exact (Below.refl _ _).alloc (Nat.le_refl _) _
  have A0 : BagIn base W0 pb mb q vr S := HH.out.keep B0
  have X0 : W0.heap[w.heap.size]? = some (.cells #[.int .i64 m.id, .int .i64 m.time, .string (bs m.frm), v, .string (bs m.body)] 54 (0, 0)) := by rw [← hW0]; exact heap_alloc_new w _
  have S1 : Same pb W0 W1 := by rw [← hW1, hW0]; exact ((Same.refl pb W0).setCell _).setCell _
  have P1 : W1.heap[pb]? = some (.cells #[vr, .int .i64 m.time, .int .i64 ((S.items.length : Int) + 1), .map (some mb)] 95 (0, 0)) := by
    rw [← hW1, hW0]
    have := heap_setCell_same _ pb 1 _ _ (.int .i64 m.time) (heap_setCell_same W0 pb 2 _ _ (.int .i64 m.id) A0.bag)
    refine Eq.trans this ?_
    rw [HID.out]
    rfl
  have X1 : W1.heap[w.heap.size]? = some (.cells #[.int .i64 m.id, .int .i64 m.time, .string (bs m.frm), v, .string (bs m.body)] 54 (0, 0)) := same_some S1 X0 (by rw [HSS.out]; exact fun e => hps e.symm)
  have d3 : W1.drew.cell? ⟨pb, 3, none⟩ = some (.map (some mb)) := by show W1.cell? _ = _; rw [Lib.cell_of_heap P1]; rfl
  have e0 : W1.drew.cell? ⟨w.heap.size, 0, none⟩ = some (.int .i64 m.id) := by show W1.cell? _ = _; rw [Lib.cell_of_heap X1]; rfl
  have e1 : W1.drew.cell? ⟨w.heap.size, 1, none⟩ = some (.int .i64 m.time) := by show W1.cell? _ = _; rw [Lib.cell_of_heap X1]; rfl
  have e2 : W1.drew.cell? ⟨w.heap.size, 2, none⟩ = some (.string (bs m.frm)) := by show W1.cell? _ = _; rw [Lib.cell_of_heap X1]; rfl
  have e3 : W1.drew.cell? ⟨w.heap.size, 3, none⟩ = some v := by show W1.cell? _ = _; rw [Lib.cell_of_heap X1]; rfl
  have e4 : W1.drew.cell? ⟨w.heap.size, 4, none⟩ = some (.string (bs m.body)) := by show W1.cell? _ = _; rw [Lib.cell_of_heap X1]; rfl
  have hv1 : RowAt W1.drew v m.tos.length 1 (textCells m.tos) := row_of_own' (ownsRow_keeps HV.out fun g cur e _ => same_some (S1.drew) (below_some B0 e) (fun e' => by rw [e', HH.out.bag] at e; simp at e))
  have HNM := Lib.hid (newMail_any m v W1.drew hv1 HZ.out)
  have HW1 := Lib.hid (show W1.drew.heap[pb]? = _ from P1)
  have HS1 := Lib.hid S1.drew
  have HA0 := Lib.hid A0
  have HX1 := Lib.hid (show W1.drew.heap[w.heap.size]? = _ from X1)
  have HLW := Lib.hid B0
  clear c1 c2 c3 f1 f2 hW1 hW0 P1 S1 A0 X1 X0 B0 hv1
  go_region_law (first
    | (go_simp; go_at_call 137; refine HNM.out.mono ?_; rintro e w2 ⟨Q, g, rfl, hm, hq, hr, hb⟩; have d3' : w2.cell? ⟨pb, 3, none⟩ = some (.map (some mb)) := (by rw [Lib.cell_of_heap (below_some hb HW1.out)]; rfl); have e0' : w2.cell? ⟨w.heap.size, 0, none⟩ = some (.int .i64 m.id) := (by rw [Lib.cell_of_heap (below_some hb HX1.out)]; rfl); have hmu := add_run (Q := Q) HA0.out HS1.out HW1.out hb HID.out hn; have HR := Lib.hid (HA0.out.added HS1.out HW1.out hb hq hm hr ht); have HL := Lib.hid (bagBlk_added HH.out HLW.out HA0.out HS1.out HW1.out hb hq hm hr ht); clear hm hq hr hb))
  all_goals
    refine bodyPost_end (results_none rfl _ _ _) rfl ?_
    exact ⟨rfl, _, HR.out, HL.out.1, HL.out.2⟩
end Go.Proofs.YtadcidbeealdpaaGreatDoor

/- What is written: numbers, texts, a record, a mail. -/
namespace Go.Proofs.YtadcidbeealdpaaGreatDoor
open Go.RowKit

theorem beBytes_head : ∀ (k n : Nat), beBytes (k + 1) n = UInt8.ofNat (n / 256 ^ k) :: beBytes k n
  | 0, n => by simp [beBytes]
  | k + 1, n => by
    rw [beBytes, beBytes_head k (n / 256), Nat.div_div_eq_div_mul, ← Nat.pow_succ', beBytes]
    rfl

theorem beBytes_at : ∀ (size n k : Nat) (h : k < size), (beBytes size n)[k]'(by rw [beBytes_len]; exact h) = UInt8.ofNat (n / 256 ^ (size - 1 - k))
  | 0, n, k, h => by omega
  | size + 1, n, 0, h => by simp [beBytes_head]
  | size + 1, n, k + 1, h => by
    simp only [beBytes_head, List.getElem_cons_succ]
    rw [beBytes_at size n k (by omega)]
    congr 3
    omega

set_option maxHeartbeats 1000000 in
set_option maxRecDepth 100000 in
theorem appendNum_any (v : Value) (l : List UInt8) (n size : Nat) (w : World) (h : RowM w v l) (hl : l.length ≤ 1073741824) (_hn : n ≤ 4294967295) (hs : 1 ≤ size ∧ size ≤ 4) :
    Calls Tryz.prog 190 #[v, .int .i64 n, .int .i64 size] w fun e w' => ∃ v', e = .returned v' ∧ RowM w' v' (l ++ beBytes size n) ∧ Chg (fun k => v.ownBlock = some k) w w' ∧ ∀ k, v'.ownBlock = some k → v.ownBlock = some k ∨ w.heap.size ≤ k := by
  have HH := Lib.hid h
  clear h
  go_enter Tryz.func190, Tryz.ntmps190
  go_wp2_with fail
  go_loopw [0, 7] (fun b sh w' => ∃ k : Nat, k ≤ size ∧ sh = .int .i64 (8 * ((size : Int) - k) - 8) ∧ Hid (RowM w' b (l ++ (beBytes size n).take k)) ∧ Hid (Chg (fun j => v.ownBlock = some j) w w') ∧ Hid (∀ j, b.ownBlock = some j → v.ownBlock = some j ∨ w.heap.size ≤ j)) (fun _ sh _ => ((intOf sh) + 8).toNat)
  case atStart =>
    refine ⟨0, Nat.zero_le _, congrArg (Value.int .i64) (by omega), Lib.hid ?_, Lib.hid (Chg.refl _ _), Lib.hid (fun _ e => .inl e)⟩
    rw [List.take_zero, List.append_nil]
    exact HH.out
  case round =>
    obtain ⟨k, hk, rfl, HR, HC, HO⟩ := hrel
    by_cases hlt : k < size
    · obtain ⟨s8, hs8⟩ : ∃ s8 : Nat, 8 * (size - k) - 8 = s8 := ⟨_, rfl⟩
      have e8 : (8 * ((size : Int) - k) - 8) = (s8 : Int) := by omega
      rw [e8]
      have hs8l : s8 ≤ 24 := by omega
      have hx : ((UInt8.ofNat (n / 2 ^ s8)).toNat : Int) = (n : Int) / 2 ^ s8 % 256 := by
        rw [UInt8.toNat_ofNat']
        rfl
      have hnext : (beBytes size n).take (k + 1) = (beBytes size n).take k ++ [UInt8.ofNat (n / 2 ^ s8)] := by
        rw [List.take_succ_eq_append_getElem (by rw [beBytes_len]; exact hlt)]
        congr 2
        rw [beBytes_at size n k hlt, ← hs8]
        congr 2
        rw [show (256 : Nat) = 2 ^ 8 from rfl, ← Nat.pow_mul]
        congr 1
        omega
      obtain ⟨acc, eacc⟩ : ∃ acc, l ++ (beBytes size n).take k = acc := ⟨_, rfl⟩
      have hal : acc.length ≤ 1073741828 := by rw [← eacc, List.length_append, List.length_take]; omega
      have HN : Hid (l ++ (beBytes size n).take (k + 1) = acc ++ [UInt8.ofNat (n / 2 ^ s8)]) := Lib.hid (by rw [hnext, ← List.append_assoc, eacc])
      rw [eacc] at HR
      obtain ⟨av, cv, ev⟩ := HR.out.len
      subst ev
      have W1 := heap_alloc_new wr (.cells #[.int .u8 ((n : Int) / 2 ^ s8 % 256)] 5)
      rw [← hx] at W1
      obtain ⟨a3, n3, c3, w3, hr3, R3, K3, O3⟩ := HR.out.one (UInt8.ofNat (n / 2 ^ s8)) (W := wr.alloc (.cells #[.int .u8 ((UInt8.ofNat (n / 2 ^ s8)).toNat : Int)] 5)) ((Below.refl _ _).alloc (Nat.le_refl _) _) W1 (by omega)
      rw [hx] at hr3
      have HR3 := Lib.hid hr3
      have HRR := Lib.hid R3
      have HK3 := Lib.hid (HC.out.trans K3 (fun j hj e => (HO.out j e).elim id (fun e => absurd hj (by omega))))
      have HO3 : Hid (∀ j, (Value.slice a3 n3 c3).ownBlock = some j → v.ownBlock = some j ∨ w.heap.size ≤ j) := Lib.hid (fun j e => (O3 j e).elim (HO.out j) (fun e => .inr (Nat.le_trans HC.out.size e)))
      clear hx hnext eacc hs8 W1 hr3 R3 K3 O3
      go_wp2_with (first
        | (at_builtin; refine wpList_append_run rfl _ _ 76 rfl _ _ (.slice a3 n3 c3) w3 rfl rfl HR3.out ?_)
        | fail)
      exact ⟨⟨k + 1, by omega, congrArg (Value.int .i64) (by omega), by rw [HN.out]; exact HRR, HK3, HO3⟩, by simp [intOf]; omega⟩
    · have hk9 : k = size := by omega
      subst hk9
      have hneg : ¬ (0 : Int) ≤ 8 * ((k : Int) - k) - 8 := by omega
      rw [List.take_of_length_le (by rw [beBytes_len]; exact Nat.le_refl _)] at HR
      go_wp2_with fail
      go_ret
      exact ⟨_, rfl, HR.out, HC.out, HO.out⟩
end Go.Proofs.YtadcidbeealdpaaGreatDoor

/- What is written: texts, a record. -/
namespace Go.Proofs.YtadcidbeealdpaaGreatDoor
open Go.RowKit

set_option maxHeartbeats 1000000 in
set_option maxRecDepth 100000 in
theorem appendTxt_any (v : Value) (l t : List UInt8) (size : Nat) (w : World) (h : RowM w v l) (hl : l.length ≤ 536870912) (ht : t.length ≤ 1048576) (hs : 1 ≤ size ∧ size ≤ 4) :
    Calls Tryz.prog 191 #[v, .string (bs t), .int .i64 size] w fun e w' => ∃ v', e = .returned v' ∧ RowM w' v' (l ++ (beBytes size t.length ++ t)) ∧ Chg (fun k => v.ownBlock = some k) w w' ∧ ∀ k, v'.ownBlock = some k → v.ownBlock = some k ∨ w.heap.size ≤ k := by
  have hst := bs_size t
  have HA := Lib.hid (appendNum_any v l t.length size w h (by omega) (by omega) hs)
  obtain ⟨av, cv, rfl⟩ := h.len
  clear h
  go_enter Tryz.func191, Tryz.ntmps191
  go_wp2_with fail
  refine HA.out.mono ?_
  rintro e w1 ⟨v1, rfl, R1, K1, O1⟩
  have hal : (l ++ beBytes size t.length).length ≤ 536870916 := by rw [List.length_append, beBytes_len]; omega
  have HE : Hid (l ++ (beBytes size t.length ++ t) = (l ++ beBytes size t.length) ++ t) := Lib.hid (List.append_assoc ..).symm
  obtain ⟨acc, eacc⟩ : ∃ acc, l ++ beBytes size t.length = acc := ⟨_, rfl⟩
  rw [eacc] at R1 hal HE
  obtain ⟨a3, n3, c3, w3, hr3, R3, K3, O3⟩ := R1.text t (by omega)
  obtain ⟨a1, c1, rfl⟩ := R1.len
  have HR3 := Lib.hid hr3
  have HRR := Lib.hid R3
  have HK3 := Lib.hid (K1.trans K3 (fun j hj e => (O1 j e).elim id (fun e => absurd hj (by omega))))
  have HO3 : Hid (∀ j, (Value.slice a3 n3 c3).ownBlock = some j → (Value.slice av l.length cv).ownBlock = some j ∨ w.heap.size ≤ j) := Lib.hid (fun j e => (O3 j e).elim (O1 j) (fun e => .inr (Nat.le_trans K1.size e)))
  clear R1 K1 O1 hr3 R3 K3 O3
  go_wp2_with (first
    | (at_builtin; refine wpList_append_text rfl _ _ 76 9 rfl _ (.slice a3 n3 c3) (bs t) w3 rfl rfl HR3.out ?_)
    | fail)
  go_ret
  exact ⟨_, rfl, by rw [HE.out]; exact HRR.out, HK3.out, HO3.out⟩

theorem recSize_any (t : List UInt8) (w : World) (ht : t.length ≤ 1073741824) :
    Calls Tryz.prog 154 #[.string (bs t)] w fun e w' => e = .returned (.int .i64 ((8 + t.length : Nat) : Int)) ∧ w = w' := by
  have hst := bs_size t
  go_enter Tryz.func154, Tryz.ntmps154
  go_wp2_with fail
  go_ret
  exact ⟨by congr 1, rfl⟩

theorem crc_le (l : List UInt8) : crc l ≤ 4294967295 := by unfold crc; omega
set_option maxHeartbeats 1000000 in
set_option maxRecDepth 100000 in
theorem whole_any (t : List UInt8) (w : World) (ht : t.length ≤ 1048576) :
    Calls Tryz.prog 192 #[.string (bs t)] w fun e w' => e = .returned (.string (bs (frameE t))) ∧ Below w.heap.size w w' := by
  have hst := bs_size t
  have HA := Lib.hid (appendNum_any (.slice none 0 0) [] t.length 4 w (RowM.nil w) (by simp) (by omega) (by omega))
  have HC : Hid (∀ W : World, Calls Tryz.prog 58 #[.string (bs t)] W fun e w' => e = .returned (.int .u32 (crc t)) ∧ W = w') := Lib.hid (fun W => recSum_any (bs t) W (by unfold maxLen; omega))
  have hcl := crc_le t
  obtain ⟨cr, ecr⟩ : ∃ cr, crc t = cr := ⟨_, rfl⟩
  rw [ecr] at HC hcl
  have HE : Hid (frameE t = (beBytes 4 t.length ++ beBytes 4 cr) ++ t) := Lib.hid (by unfold frameE; rw [ecr, List.append_assoc])
  clear ecr
  go_enter Tryz.func192, Tryz.ntmps192
  go_wp2_with fail
  refine HA.out.mono ?_
  rintro e w1 ⟨v1, rfl, R1, K1, O1⟩
  have hal : ([] ++ beBytes 4 t.length).length ≤ 4 := by rw [List.nil_append, beBytes_len]; exact Nat.le_refl _
  rw [List.nil_append] at R1 hal
  obtain ⟨acc, eacc⟩ : ∃ acc, beBytes 4 t.length = acc := ⟨_, rfl⟩
  rw [eacc] at R1 hal HE
  obtain ⟨a1, c1, rfl⟩ := R1.len
  have HR1 := Lib.hid R1
  have B1 : Below w.heap.size w w1 := ⟨K1.still.1, K1.still.2.1, K1.still.2.2, K1.size, fun k hk => K1.block k hk (fun e => by cases e)⟩
  have HB1 := Lib.hid B1
  have HO1 := Lib.hid O1
  clear R1 K1 O1 B1
  go_wp2_with fail
  refine (HC.out w1).mono ?_
  rintro e w2 ⟨rfl, rfl⟩
  have HA2 := Lib.hid (appendNum_any _ acc cr 4 w1 HR1.out (by omega) hcl (by omega))
  clear eacc HA HC
  go_wp2_with fail
  refine HA2.out.mono ?_
  rintro e w3 ⟨v3, rfl, R3, K3, O3⟩
  have hal3 : (acc ++ beBytes 4 cr).length ≤ 8 := by rw [List.length_append, beBytes_len]; omega
  obtain ⟨acc3, eacc3⟩ : ∃ acc3, acc ++ beBytes 4 cr = acc3 := ⟨_, rfl⟩
  rw [eacc3] at R3 hal3 HE
  have hsz3 := bs_size acc3
  have hcv := R3.string
  obtain ⟨a3, c3, rfl⟩ := R3.len
  have hadd : bs acc3 ++ bs t = bs (acc3 ++ t) := (bs_append acc3 t).symm
  have HAD := Lib.hid hadd
  have B3 : Below w.heap.size w w3 := by
    refine HB1.out.trans ⟨K3.still.1, K3.still.2.1, K3.still.2.2, K3.size, fun k hk => K3.block k (Nat.lt_of_lt_of_le hk HB1.out.size) (fun e => ?_)⟩
    rcases HO1.out k e with e | e
    · cases e
    · omega
  have HB3 := Lib.hid B3
  clear R3 K3 O3 eacc3 B3 hadd HA2
  go_wp2_with fail
  go_ret
  exact ⟨by rw [HE.out, ← HAD.out]; rfl, HB3.out⟩
end Go.Proofs.YtadcidbeealdpaaGreatDoor
