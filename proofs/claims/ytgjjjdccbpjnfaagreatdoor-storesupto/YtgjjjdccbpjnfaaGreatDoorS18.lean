import Derived.Test.YtgjjjdccbpjnfaaGreatDoorS14
import Derived.Deep.QuietTactic
import Derived.BigQuiet
import Derived.Test.YtgjjjdccbpjnfaaGreatDoorS15
import Derived.Maps.AppendAt
import Derived.Test.YtgjjjdccbpjnfaaGreatDoorS17
import Derived.Test.YtgjjjdccbpjnfaaGreatDoorS16

/- The document's post: mail that is new is due now. -/
namespace Go.Proofs.YtgjjjdccbpjnfaaGreatDoor
open Go.RowKit

/-- the document's post at block p: its fifteen cells; what is due, and how often it failed -/
structure PostAt (base : Nat) (w : World) (p : Nat) (A : Array Value) (vD vF : Value) (due fails : List Nat) : Prop where
  low : base ≤ p
  block : w.heap[p]? = some (.cells A 150 (0, 0))
  size : A.size = 15
  atDue : A[12]? = some vD
  atFails : A[13]? = some vF
  due : w.ownsRow base 3 1 vD due.length (natCells due)
  fails : w.ownsRow base 3 1 vF fails.length (natCells fails)
  apart : vD.ownBlock = none ∨ vD.ownBlock ≠ vF.ownBlock

def dueLen (w : World) (p : Nat) : Nat :=
  match w.cell? ⟨p, 12, none⟩ with
  | some (.slice _ n _) => n
  | _ => 0
theorem PostAt.touch {base p : Nat} {w w' : World} {A : Array Value} {vD vF : Value} {due fails : List Nat} {ts : List TypeId} (h : PostAt base w p A vD vF due fails) (ht : Touch ts w w') (h1 : 3 ∉ ts) (h2 : 150 ∉ ts) : PostAt base w' p A vD vF due fails :=
  ⟨h.low, ht.cells h.block h2, h.size, h.atDue, h.atFails, ownsRow_touch ht h1 h.due, ownsRow_touch ht h1 h.fails, h.apart⟩
theorem PostAt.len {base p : Nat} {w : World} {A : Array Value} {vD vF : Value} {due fails : List Nat} (h : PostAt base w p A vD vF due fails) : dueLen w p = due.length := by
  unfold dueLen
  rw [Lib.cell_of_heap h.block, h.atDue]
  rcases h.due.2 with ⟨e, h0⟩ | ⟨g, cap, cur, e, _⟩
  · rw [e, h0]
  · rw [e]
theorem Touch.toBelow {a b : World} {B : Nat} (h : Touch [] a b) (hB : B ≤ a.heap.size) : Below B a b :=
  ⟨h.still.1, h.still.2.1, h.still.2.2, h.size, fun k hk => by
    have hk' : k < a.heap.size := by omega
    have e := Array.getElem?_eq_getElem hk'
    rw [e]
    exact h.block k _ e (by simp)⟩
theorem natCells_snoc (l : List Nat) (n : Nat) : natCells (l ++ [n]) = natCells l ++ [.int .i64 (n : Int)] := by simp [natCells]
/-- one row grows, the other stays -/
theorem grow_apart {base H g n m cap k : Nat} {w9 w10 : World} {x y : Value} {xs ys zs : List Value} {wa : World} (_hx : w9.ownsRow base 3 1 x n xs) (hy : w9.ownsRow base 3 1 y m ys) (ha : x.ownBlock = none ∨ x.ownBlock ≠ y.ownBlock) (hB : Below w9.heap.size w9 wa) (hgrow : wa.grownBy w10 x.ownBlock) (hat : x.ownBlock = some g ∨ g = H) (hH : w9.heap.size ≤ H)
    (_hown : w10.ownsRow base 3 1 (.slice (some ⟨g, 0, none⟩) k cap) k zs) : w10.ownsRow base 3 1 y m ys ∧ some g ≠ y.ownBlock := by
  refine ⟨(ownsRow_touch (Touch.below (ts := []) hB) (by simp) hy).kept hgrow ?_, fun e => ?_⟩
  · rcases ha with ha | ha
    · cases hyb : y.ownBlock with
      | none => exact .inl rfl
      | some b => exact .inr (by rw [ha]; simp)
    · exact .inr (Ne.symm ha)
  · rcases hat with hat | hat
    · rcases ha with ha | ha
      · rw [ha] at hat; cases hat
      · exact ha (hat.trans e)
    · have := (hy.lt g e.symm).2; omega
structure DuesNext (base : Nat) (w9 w10 w11 : World) (p j : Nat) (A : Array Value) (v vD vF : Value) (due fails : List Nat) : Prop where
  there : ∃ u, w10.cell? ⟨p, j, none⟩ = some u
  soft : w10.frozen? ⟨p, j, none⟩ = false
  post : PostAt base w11 p (A.setIfInBounds j v) vD vF due fails
  touch : Touch [3, 150] w9 w11
  below : Below base w9 w11
theorem post_block {base p n : Nat} {w9 w10 : World} {A : Array Value} {x : Value} {xs : List Value} {wa : World} (hb : w9.heap[p]? = some (.cells A 150 (0, 0))) (hx : w9.ownsRow base 3 1 x n xs) (hB : Below w9.heap.size w9 wa) (hgrow : wa.grownBy w10 x.ownBlock) : w10.heap[p]? = some (.cells A 150 (0, 0)) := by
  have hp := heap_lt hb
  rw [hgrow.block p (by have := hB.size; omega) (fun e => by
    rcases hx.2 with ⟨e1, _⟩ | ⟨_g, cp, cur, e1, _, hg, _⟩
    · rw [e1] at e; cases e
    · rw [e1] at e
      injection e with e
      exact tag_ne hb hg (by decide) e), hB.block p hp]
  exact hb
theorem post_touch {base p j n : Nat} {w9 w10 : World} {A : Array Value} {x v : Value} {xs : List Value} {wa : World} (hlow : base ≤ p) (hb : w9.heap[p]? = some (.cells A 150 (0, 0))) (hx : w9.ownsRow base 3 1 x n xs) (hB : Below w9.heap.size w9 wa) (hgrow : wa.grownBy w10 x.ownBlock) :
    Touch [3, 150] w9 (w10.setCell ⟨p, j, none⟩ v) ∧ Below base w9 (w10.setCell ⟨p, j, none⟩ v) := by
  have h10 := post_block hb hx hB hgrow
  have hS : Same p w10 (w10.setCell ⟨p, j, none⟩ v) := (Same.refl _ _).setCell _
  have hp := heap_lt hb
  refine ⟨?_, ?_⟩
  · have h1 : Touch [3, 150] w9 wa := Touch.below hB
    have h2 : Touch [3, 150] w9 w10 := h1.grown hgrow (fun k hk => by
      rcases hx.2 with ⟨e1, _⟩ | ⟨g, cp, cur, e1, _, hg, _⟩
      · rw [e1] at hk; cases hk
      · rw [e1] at hk
        injection hk with hk
        subst hk
        exact ⟨cur, 3, (0, 0), (hB.block g (heap_lt hg)).trans hg, by simp⟩)
    exact h2.same h10 (by simp) hS
  · have h1 : Below base w9 wa := hB.mono (by omega)
    exact (h1.grown hgrow (by have := hB.size; omega) (fun k hk => (hx.lt k hk).1)).trans (hS.below hlow)
theorem dues_step {base p g cap T H : Nat} {w9 w10 : World} {A : Array Value} {vD vF : Value} {due fails : List Nat} {wa : World} (h : PostAt base w9 p A vD vF due fails) (hB : Below w9.heap.size w9 wa) (hgrow : wa.grownBy w10 vD.ownBlock) (hat : vD.ownBlock = some g ∨ g = H) (hH : w9.heap.size ≤ H)
    (hown : w10.ownsRow base 3 1 (.slice (some ⟨g, 0, none⟩) (due.length + 1) cap) (due.length + 1) (natCells due ++ [.int .i64 (T : Int)])) :
    DuesNext base w9 w10 (w10.setCell ⟨p, 12, none⟩ (.slice (some ⟨g, 0, none⟩) (due.length + 1) cap)) p 12 A (.slice (some ⟨g, 0, none⟩) (due.length + 1) cap) (.slice (some ⟨g, 0, none⟩) (due.length + 1) cap) vF (due ++ [T]) fails := by
  have h10 := post_block h.block h.due hB hgrow
  have hS : Same p w10 (w10.setCell ⟨p, 12, none⟩ (.slice (some ⟨g, 0, none⟩) (due.length + 1) cap)) := (Same.refl _ _).setCell _
  obtain ⟨ga, gb⟩ := grow_apart h.due h.fails h.apart hB hgrow hat hH hown
  obtain ⟨t1, t2⟩ := post_touch (j := 12) (v := .slice (some ⟨g, 0, none⟩) (due.length + 1) cap) h.low h.block h.due hB hgrow
  have other : ∀ (v : Value) (n : Nat) (xs : List Value), w10.ownsRow base 3 1 v n xs → (w10.setCell ⟨p, 12, none⟩ (.slice (some ⟨g, 0, none⟩) (due.length + 1) cap)).ownsRow base 3 1 v n xs := fun v n xs hv => by
    refine ⟨hv.1, ?_⟩
    rcases hv.2 with hv | ⟨g', cp, cur, e1, e2, e3, e4⟩
    · exact .inl hv
    · exact .inr ⟨g', cp, cur, e1, e2, (hS.2 g' (fun e => by subst e; exact tag_ne e3 h10 (by decide) rfl)).trans e3, e4⟩
  refine ⟨⟨vD, by rw [Lib.cell_of_heap h10]; exact h.atDue⟩, Lib.frozen_of_heap h10 12, ⟨h.low, ?_, by simp [h.size], ?_, ?_, ?_, other _ _ _ ga, .inr gb⟩, t1, t2⟩
  · exact heap_setCell_same w10 p 12 _ _ _ h10
  · rw [Array.getElem?_setIfInBounds]; simp [h.size]
  · rw [Array.getElem?_setIfInBounds_ne (by decide)]; exact h.atFails
  · rw [natCells_snoc, List.length_append]; exact other _ _ _ hown
theorem fails_step {base p g cap H : Nat} {w9 w10 : World} {A : Array Value} {vD vF : Value} {due fails : List Nat} {wa : World} (h : PostAt base w9 p A vD vF due fails) (hB : Below w9.heap.size w9 wa) (hgrow : wa.grownBy w10 vF.ownBlock) (hat : vF.ownBlock = some g ∨ g = H) (hH : w9.heap.size ≤ H)
    (hown : w10.ownsRow base 3 1 (.slice (some ⟨g, 0, none⟩) (fails.length + 1) cap) (fails.length + 1) (natCells fails ++ [.int .i64 0])) :
    DuesNext base w9 w10 (w10.setCell ⟨p, 13, none⟩ (.slice (some ⟨g, 0, none⟩) (fails.length + 1) cap)) p 13 A (.slice (some ⟨g, 0, none⟩) (fails.length + 1) cap) vD (.slice (some ⟨g, 0, none⟩) (fails.length + 1) cap) due (fails ++ [0]) := by
  have h10 := post_block h.block h.fails hB hgrow
  have hS : Same p w10 (w10.setCell ⟨p, 13, none⟩ (.slice (some ⟨g, 0, none⟩) (fails.length + 1) cap)) := (Same.refl _ _).setCell _
  obtain ⟨ga, gb⟩ := grow_apart h.fails h.due (by
    rcases h.apart with e | e
    · cases hf : vF.ownBlock with
      | none => exact .inl rfl
      | some b => exact .inr (by rw [e]; simp)
    · exact .inr (Ne.symm e)) hB hgrow hat hH hown
  obtain ⟨t1, t2⟩ := post_touch (j := 13) (v := .slice (some ⟨g, 0, none⟩) (fails.length + 1) cap) h.low h.block h.fails hB hgrow
  have other : ∀ (v : Value) (n : Nat) (xs : List Value), w10.ownsRow base 3 1 v n xs → (w10.setCell ⟨p, 13, none⟩ (.slice (some ⟨g, 0, none⟩) (fails.length + 1) cap)).ownsRow base 3 1 v n xs := fun v n xs hv => by
    refine ⟨hv.1, ?_⟩
    rcases hv.2 with hv | ⟨g', cp, cur, e1, e2, e3, e4⟩
    · exact .inl hv
    · exact .inr ⟨g', cp, cur, e1, e2, (hS.2 g' (fun e => by subst e; exact tag_ne e3 h10 (by decide) rfl)).trans e3, e4⟩
  refine ⟨⟨vF, by rw [Lib.cell_of_heap h10]; exact h.atFails⟩, Lib.frozen_of_heap h10 13, ⟨h.low, ?_, by simp [h.size], ?_, ?_, other _ _ _ ga, ?_, ?_⟩, t1, t2⟩
  · exact heap_setCell_same w10 p 13 _ _ _ h10
  · rw [Array.getElem?_setIfInBounds_ne (by decide)]; exact h.atDue
  · rw [Array.getElem?_setIfInBounds]; simp [h.size]
  · rw [natCells_snoc, List.length_append]; exact other _ _ _ hown
  · cases hd : vD.ownBlock with
    | none => exact .inl rfl
    | some b => exact .inr (fun e => gb (by rw [hd]; exact e.symm))

set_option maxHeartbeats 1000000 in
set_option maxRecDepth 100000 in
theorem refDues_any (base p T : Nat) (A : Array Value) (all : List UInt8) (vD vF : Value) (due fails : List Nat) (w : World) (h : PostAt base w p A vD vF due fails) (hA : A[9]? = some (.string (bs all))) (hT : A[10]? = some (.int .i64 T)) (hl : all.length ≤ 1048576) (hd : due.length ≤ 1048576) (hf : fails.length = due.length) :
    Calls Tryz.prog 83 #[.pointer (some ⟨p, 0, none⟩)] w fun e w' => ∃ A' vD' vF' k, e = .returned (.tuple #[]) ∧ PostAt base w' p A' vD' vF' (due ++ List.replicate k T) (fails ++ List.replicate k 0) ∧ (∀ i, i ≠ 12 → i ≠ 13 → A'[i]? = A[i]?) ∧ Hid (k = (readS all).1.items.length - due.length) ∧ Below base w w' := by
  have hrd := fun w' => refRead_any all w' hl
  have hsz := readS_len all
  obtain ⟨S, eS⟩ : ∃ S, (readS all).1 = S := ⟨_, rfl⟩
  obtain ⟨M, eM⟩ : ∃ M, (readS all).2 = M := ⟨_, rfl⟩
  rw [eS, eM] at hrd hsz
  rw [eS]
  obtain ⟨ii, hii, hzi0, hzi1, hzi2⟩ := info_parts info_int'
  have k9 : w.cell? ⟨p, 9, none⟩ = some (.string (bs all)) := by rw [Lib.cell_of_heap h.block]; exact hA
  have hpl := heap_lt h.block
  have HRD := Lib.hid (hrd w)
  have HP := Lib.hid h
  clear eS eM hrd h
  go_enter Tryz.func83, Tryz.ntmps83
  go_wp2_with fail
  refine HRD.out.mono ?_
  rintro e w1 ⟨q, rfl, h1, h2⟩
  have HS1 := Lib.hid h1
  have HB1 := Lib.hid h2
  clear h1 h2 HRD k9
  go_wp2_with fail
  have hbw : base ≤ w.heap.size := by have := HP.out.low; omega
  have HP1 : Hid (PostAt base w1 p A vD vF due fails) := Lib.hid (HP.out.touch (ts := []) (Touch.below HB1.out) (by simp) (by simp))
  go_loopw [] (fun w' => ∃ (A' : Array Value) (vD' vF' : Value) (k : Nat), k ≤ S.items.length - due.length ∧ Hid (PostAt base w' p A' vD' vF' (due ++ List.replicate k T) (fails ++ List.replicate k 0)) ∧ Hid (∀ i, i ≠ 12 → i ≠ 13 → A'[i]? = A[i]?) ∧ Hid (Touch [3, 150] w1 w') ∧ Hid (Below base w w')) (fun w' => S.items.length - dueLen w' p)
  case atStart => exact ⟨A, vD, vF, 0, Nat.zero_le _, Lib.hid (by simpa using HP1.out), Lib.hid (fun _ _ _ => rfl), Lib.hid (Touch.refl _ _), Lib.hid (HB1.out.mono hbw)⟩
  case round =>
    clear HP1
    obtain ⟨A', vD', vF', k, hk, HP1, HAA, HTW, HBW⟩ := hrel
    obtain ⟨due', ed⟩ : ∃ due', due ++ List.replicate k T = due' := ⟨_, rfl⟩
    obtain ⟨fails', ef⟩ : ∃ fails', fails ++ List.replicate k 0 = fails' := ⟨_, rfl⟩
    have hdl : due'.length = due.length + k := by rw [← ed]; simp
    have hfl : fails'.length = due.length + k := by rw [← ef]; simp [hf]
    rw [ed, ef] at HP1
    have HSw : Hid (StoreIn w.heap.size wr q S) := Lib.hid (HS1.out.touch HTW.out (by decide) (by decide) (by decide) (by decide))
    obtain ⟨aL, capL, s0, _, _⟩ := HSw.out.head
    obtain ⟨aD, cD, rfl⟩ : ∃ a c, vD' = .slice a due'.length c := by
      rcases HP1.out.due.2 with ⟨e, h0⟩ | ⟨g, cap, cur, e, _⟩
      · exact ⟨_, _, by rw [h0]; exact e⟩
      · exact ⟨_, _, e⟩
    obtain ⟨aF, cF, rfl⟩ : ∃ a c, vF' = .slice a fails'.length c := by
      rcases HP1.out.fails.2 with ⟨e, h0⟩ | ⟨g, cap, cur, e, _⟩
      · exact ⟨_, _, by rw [h0]; exact e⟩
      · exact ⟨_, _, e⟩
    have d12 : wr.cell? ⟨p, 12, none⟩ = some (.slice aD due'.length cD) := by rw [Lib.cell_of_heap HP1.out.block]; exact HP1.out.atDue
    have d10 : wr.cell? ⟨p, 10, none⟩ = some (.int .i64 T) := by rw [Lib.cell_of_heap HP1.out.block, HAA.out 10 (by decide) (by decide)]; exact hT
    have HDL : Hid (dueLen wr p = due'.length) := Lib.hid (by unfold dueLen; rw [d12])
    have HED := Lib.hid ed
    have HEF := Lib.hid ef
    have HDN := Lib.hid hdl
    have HFN := Lib.hid hfl
    have hd2 : due'.length ≤ 2097152 := by omega
    have hf2 : fails'.length ≤ 2097152 := by omega
    clear ed ef hdl hfl
    by_cases hlt : due'.length < S.items.length
    · have hlti : (due'.length : Int) < (S.items.length : Int) := by omega
      go_wp2_with fail
      go_quiet (fail)
      go_wp2_with fail
      obtain ⟨W, hW⟩ : ∃ W, wr.drewN nq = W := ⟨_, rfl⟩
      have tW : Touch [] wr W := by rw [← hW]; exact (Touch.refl _ _).drewN nq
      have hP2 := HP1.out.touch tW (by simp) (by simp)
      have tW1 : Hid (Touch [3, 150] w1 W) := Lib.hid (HTW.out.trans (tW.mono (by simp)))
      have bW : Hid (Below base w W) := Lib.hid (by rw [← hW]; exact HBW.out.trans (Touch.toBelow ((Touch.refl [] wr).drewN nq) (by have := HBW.out.size; omega)))
      have x12 : W.cell? ⟨p, 12, none⟩ = some (.slice aD due'.length cD) := by rw [Lib.cell_of_heap hP2.block]; exact hP2.atDue
      have x10 : W.cell? ⟨p, 10, none⟩ = some (.int .i64 T) := by rw [Lib.cell_of_heap hP2.block, HAA.out 10 (by decide) (by decide)]; exact hT
      have up : ∀ (o : Obj) (b j : Nat) (v : Value), W.cell? ⟨b, j, none⟩ = some v → (W.alloc o).drew.cell? ⟨b, j, none⟩ = some v := fun o b j v h => (((Below.refl W.heap.size W).alloc (Nat.le_refl _) o).drew.cell (block_lt h)).trans h
      have u12 := fun o => up o _ _ _ x12
      have u10 := fun o => up o _ _ _ x10
      have hWs : base ≤ W.heap.size := by have := heap_lt hP2.block; have := hP2.low; omega
      have HP2 := Lib.hid hP2
      rw [hW]
      clear hW tW d12 d10 up hP2
      go_region_law ((refine step_append_lies _ (by rfl) _ _ _ (by rfl) base 3 ii _ 1 8 Tryz.underlying34 hii hzi0 hzi1 hzi2 rfl (by decide) (.slice aD due'.length cD) due'.length (natCells due') (by rfl) ((HP2.out.due.alloc _).drew) ⟨W.heap.size, 0, none⟩ 1 1 [.int .i64 (T : Int)] (by rfl) (by rfl) (World.news_of_block (cs := #[.int .i64 (T : Int)]) (t := 3) (fr := (0, 0)) (heap_alloc_new W _)) (by simp [Value.oneCell']) (by decide) (by unfold maxLen; omega) (by omega) (by simp; omega) (W.heap.size + 1) (by simp) ?_; intro ga capa w10 hown hgrow hat hlt10; have D := dues_step HP2.out (((Below.refl _ _).alloc (Nat.le_refl _) _).drew) hgrow hat (by omega) hown; obtain ⟨uu, m10⟩ := D.there; have f10 := D.soft))
      all_goals
        obtain ⟨W11, hW11⟩ : ∃ W11, w10.setCell ⟨p, 12, none⟩ (.slice (some ⟨ga, 0, none⟩) (due'.length + 1) capa) = W11 := ⟨_, rfl⟩
        rw [hW11] at D
        rw [hW11]
        obtain ⟨_, _, dp, dt, db⟩ := D
        have y13 : W11.cell? ⟨p, 13, none⟩ = some (.slice aF fails'.length cF) := by rw [Lib.cell_of_heap dp.block]; exact dp.atFails
        have hWs2 : base ≤ W11.heap.size := by have := heap_lt dp.block; have := dp.low; omega
        have HDP := Lib.hid dp
        have HDT := Lib.hid (tW1.out.trans dt)
        have HDB := Lib.hid (bW.out.trans db)
        clear dp dt db hown hgrow hat m10 f10 hW11 u12 u10 x12 x10
        go_wp2_with (first
          | (at_builtin; refine wpList_append_lies _ rfl _ _ 34 rfl base 3 ii (.int .i64 0) 1 8 Tryz.underlying34 hii hzi0 hzi1 hzi2 rfl (by decide) (.slice aF fails'.length cF) fails'.length (natCells fails') rfl (HDP.out.fails.alloc _) ⟨W11.heap.size, 0, none⟩ 1 1 [.int .i64 0] rfl rfl ?c1 ?c2 (by decide) ?c3 ?c4 ?c5 (W11.heap.size + 1) (by simp) ?_)
          | fail)
        case c1 => exact World.news_of_block (cs := #[.int .i64 0]) (t := 3) (fr := (0, 0)) (heap_alloc_new W11 _)
        case c2 => intro u hu; simp at hu; subst hu; rfl
        case c3 => unfold maxLen; omega
        case c4 => omega
        case c5 => simp; omega
        · intro gb capb w12 hown hgrow hat hlt12
          have D := fails_step HDP.out ((Below.refl _ _).alloc (Nat.le_refl _) _) hgrow hat (by omega) hown
          obtain ⟨uu, m10⟩ := D.there
          have f10 := D.soft
          have HD := Lib.hid D
          clear D hown hgrow hat
          go_wp2_with fail
          have d := HD.out
          refine ⟨⟨(A'.setIfInBounds 12 (.slice (some ⟨ga, 0, none⟩) (due'.length + 1) capa)).setIfInBounds 13 (.slice (some ⟨gb, 0, none⟩) (fails'.length + 1) capb), .slice (some ⟨ga, 0, none⟩) (due'.length + 1) capa, .slice (some ⟨gb, 0, none⟩) (fails'.length + 1) capb, k + 1, by have := HDN.out; omega, Lib.hid ?_, Lib.hid (fun i h1 h2 => ?_), Lib.hid (HDT.out.trans d.touch), Lib.hid (HDB.out.trans d.below)⟩, ?_⟩
          · have e1 : due ++ List.replicate (k + 1) T = due' ++ [T] := by rw [← HED.out, List.append_assoc, ← List.replicate_succ']
            have e2 : fails ++ List.replicate (k + 1) 0 = fails' ++ [0] := by rw [← HEF.out, List.append_assoc, ← List.replicate_succ']
            rw [e1, e2]
            exact d.post
          · rw [Array.getElem?_setIfInBounds_ne (Ne.symm h2), Array.getElem?_setIfInBounds_ne (Ne.symm h1)]
            exact HAA.out i h1 h2
          · rw [HDL.out]
            have : dueLen _ p = _ := d.post.len
            rw [this]
            simp
            omega
    · have hlti : ¬ (due'.length : Int) < (S.items.length : Int) := by omega
      go_wp2_with fail
      go_quiet (fail)
      go_wp2_with fail
      go_end0
      have hdn := HDN.out
      exact ⟨A', _, _, k, rfl, by rw [HED.out, HEF.out]; exact HP1.out.touch ((Touch.refl [] wr).drewN nq) (by simp) (by simp), HAA.out, Lib.hid (by omega), HBW.out.trans (Touch.toBelow ((Touch.refl [] wr).drewN nq) (by have := HBW.out.size; omega))⟩
end Go.Proofs.YtgjjjdccbpjnfaaGreatDoor

/- 'append' of a whole list to an empty one: the run. -/
namespace Go.Proofs.YtgjjjdccbpjnfaaGreatDoor
open Go.RowKit

section
variable {P : Program}
theorem append_none (W : World) (t ty e : TypeId) (i : TypeInfo) (ht : P.underlying t = some (.slice e)) (hi : P.info? e = some i) (b : Nat) (a : Option Addr) (c : Nat) :
    (Builtin.append_ #[t, t] ty #[.slice (some ⟨b, 0, none⟩) 0 0, .slice a 0 c]).run P W = .ok (.slice (some ⟨b, 0, none⟩) 0 0) W := by
  cases a <;> simp [Builtin.append_, run_underlying ht, sizeOf, typeInfo, hi, Builtin.lenOf, Builtin.firstCells, loadCells, loadCellsFrom, storeCells]
theorem append_all (W : World) (t ty e : TypeId) (z : Value) (sz bytes : Nat) (ht : P.underlying t = some (.slice e)) (hinf : (P.info? e).map (fun i => (i.zero, i.size, i.bytes)) = some (some z, sz, bytes)) (hzs : z.cells.size = sz) (hsz : 0 < sz) (b : Nat) (hb : W.heap[b]? = some (.cells #[] e (0, 0)))
    (v : Value) (n : Nat) (cs : List Value) (h : RowAt W v n sz cs) (h1 : ∀ u ∈ cs, u.oneCell' = true) (hn : n ≤ maxLen) (hby : n * bytes ≤ 140737488355328) :
    ∃ g cp W', (Builtin.append_ #[t, t] ty #[.slice (some ⟨b, 0, none⟩) 0 0, v]).run P W = .ok (.slice (some ⟨g, 0, none⟩) n cp) W' ∧ W'.ownsRow b e sz (.slice (some ⟨g, 0, none⟩) n cp) n cs ∧ W.grownBy W' (some b) ∧ (g = b ∨ g = W.heap.size) := by
  obtain ⟨i, hi, hz, hs, hy⟩ := info_parts hinf
  have h0 : W.ownsRow b e sz (.slice (some ⟨b, 0, none⟩) 0 0) 0 [] := ⟨by simp, .inr ⟨b, 0, #[], rfl, Nat.le_refl _, hb, Nat.le_refl _, by simp, by simp, by simp⟩⟩
  obtain ⟨hl, ⟨rfl, a, cap, rfl⟩ | ⟨b', off, cap, rfl, hcp, hc⟩⟩ := h
  · have hcs : cs = [] := List.length_eq_zero_iff.1 (by simpa using hl)
    subst hcs
    exact ⟨b, 0, W, append_none W t ty e i ht hi b a cap, h0, ⟨rfl, rfl, rfl, Nat.le_refl _, fun _ _ _ => rfl⟩, .inl rfl⟩
  · obtain ⟨v', W', hr, ho, hg, _, hat⟩ := run_append_own_at W b t ty e i z sz bytes ht hi hz hs hy hzs hsz (.slice (some ⟨b, 0, none⟩) 0 0) 0 [] h0 ⟨b', off, none⟩ n cap cs hl (fun j u hj => by
      have hj' : j < n * sz := by
        rw [← hl]
        exact (List.getElem?_eq_some_iff.1 hj).1
      rw [show (⟨b', off, none⟩ : Addr).add j = ⟨b', off + j, none⟩ by simp [Addr.add], hc j hj', hj]) h1 (by omega) (by simpa using hby) (by have := (Array.getElem?_eq_some_iff.1 hb).1; omega)
    rw [Nat.zero_add, List.nil_append] at ho
    rcases ho.2 with ⟨e0, _⟩ | ⟨g, cp, cur, e0, _⟩
    · rw [e0] at hat
      rcases hat with hat | hat <;> cases hat
    · subst e0
      refine ⟨g, cp, W', hr, ho, hg, ?_⟩
      rcases hat with hat | hat
      · injection hat with hat; exact .inl hat
      · injection hat with hat; exact .inr hat
theorem wpList_append_run {w : World} {ops : Array Oper} {rest : List Oper} {o : Oper} {a : Act} {Q : Exit → Act → World → Prop} (hgd : o.guard = none) (s x : Operand) (t : TypeId)
    (ho : o.op = .call { callee := .builtin .append, args := #[s, x], argTypes := #[t, t] }) (v u r : Value) (w' : World) (hs : a.eval s = v) (hx : a.eval x = u) (hr : (Builtin.append_ #[t, t] o.type #[v, u]).run P w = .ok r w') (h : wpList P ops Q rest (a.put o.dst r) w') : wpList P ops Q (o :: rest) a w :=
  wpList_plain hgd fun K hK => by
    unfold Oper.wp execOp
    simp only [ho, resolve, invoke, builtin, Sem.run_bind, Sem.run_pure, Result.andThen_ok, List.map_toArray, List.map_cons, List.map_nil, hs, hx, hr]
    exact hK _ _ h
end
end Go.Proofs.YtgjjjdccbpjnfaaGreatDoor

/- 'append' of a whole list to an empty one. -/
namespace Go.Proofs.YtgjjjdccbpjnfaaGreatDoor
open Go.RowKit

/-- blocks may be new; of the old ones only p has changed -/
structure But (p : Nat) (w w' : World) : Prop where
  size : w.heap.size ≤ w'.heap.size
  block : ∀ k, k < w.heap.size → k ≠ p → w'.heap[k]? = w.heap[k]?
  still : Still w w'
theorem But.refl (p : Nat) (w : World) : But p w w := ⟨Nat.le_refl _, fun _ _ _ => rfl, Still.refl w⟩
theorem But.trans {p : Nat} {a b c : World} (h : But p a b) (h' : But p b c) : But p a c := ⟨Nat.le_trans h.size h'.size, fun k hk hp => (h'.block k (Nat.lt_of_lt_of_le hk h.size) hp).trans (h.block k hk hp), h.still.trans h'.still⟩
theorem But.below {p B : Nat} {a b : World} (h : But p a b) (hB : B ≤ p) (hs : B ≤ a.heap.size) : Below B a b := ⟨h.still.1, h.still.2.1, h.still.2.2, h.size, fun k hk => h.block k (by omega) (by omega)⟩
/-- a list is made anew, and stored -/
theorem open_step {p j : Nat} {e : TypeId} {W W' : World} {A : Array Value} {v : Value} (hP : W.heap[p]? = some (.cells A 150 (0, 0))) (hgrow : (W.alloc (.cells #[] e)).grownBy W' (some W.heap.size)) :
    W'.heap[p]? = some (.cells A 150 (0, 0)) ∧ (W'.setCell ⟨p, j, none⟩ v).heap[p]? = some (.cells (A.setIfInBounds j v) 150 (0, 0)) ∧ But p W (W'.setCell ⟨p, j, none⟩ v) := by
  have hp := heap_lt hP
  have old : ∀ k, k < W.heap.size → W'.heap[k]? = W.heap[k]? := fun k hk => by
    rw [hgrow.block k (by simp; omega) (fun e => by injection e with e; omega), ((Below.refl W.heap.size W).alloc (Nat.le_refl _) _).block k hk]
  have h1 := (old p hp).trans hP
  refine ⟨h1, heap_setCell_same W' p j _ _ v h1, ?_, fun k hk hne => ?_, ?_⟩
  · have := hgrow.size; simp at this ⊢; omega
  · rw [heap_setCell_other W' ⟨p, j, none⟩ k v hne]; exact old k hk
  · exact (show Still W (W.alloc (.cells #[] e)) from ⟨rfl, rfl, rfl⟩).trans ((show Still _ W' from ⟨hgrow.os, hgrow.tape, hgrow.output⟩).trans ⟨rfl, rfl, rfl⟩)
end Go.Proofs.YtgjjjdccbpjnfaaGreatDoor

/- The program reads who leaves a mail. -/
namespace Go.Proofs.YtgjjjdccbpjnfaaGreatDoor
open Go.RowKit

def LvAt (w : World) (q : Nat) (I : Nat) (v : Value) : Prop := w.heap[q]? = some (.cells #[.int .i64 I, v] 127 (0, 0))
theorem LvAt.cell {w : World} {q I : Nat} {v : Value} (h : LvAt w q I v) (j : Nat) : w.cell? ⟨q, j, none⟩ = (#[.int .i64 I, v] : Array Value)[j]? ∧ w.frozen? ⟨q, j, none⟩ = false :=
  ⟨Lib.cell_of_heap h j, Lib.frozen_of_heap h j⟩
def leavingO (o : Option (List UInt8)) : Option (Nat × List Nat) := o.bind leavingS
/-- what leaving answers -/
def LeavingPost (b : Nat) (o : Option (List UInt8)) (w : World) (e : Ending) (w' : World) : Prop :=
  (leavingO o = none ∧ e = .returned (.tuple #[.agg #[.int .i64 0, .slice none 0 0], .bool false]) ∨ ∃ id ps v, leavingO o = some (id, ps) ∧ e = .returned (.tuple #[.agg #[.int .i64 (id : Nat), v], .bool true]) ∧ w'.ownsRow w.heap.size 3 1 v ps.length (natCells ps) ∧ id ≤ 4294967295 ∧ 1 ≤ ps.length ∧ ps.length ≤ 255 ∧ ∀ x ∈ ps, x ≤ 255) ∧ But b w w'
theorem leaving_steps (o : Option (List UInt8)) {o1 o2 o3 : Option (List UInt8)} {I N : Nat} {Ps : List Nat} (h1 : numO 4 o = (I, o1)) (h2 : numO 1 o1 = (N, o2)) (h3 : numsO N o2 = (Ps, o3)) : leavingO o = if o3 = some [] ∧ 1 ≤ Ps.length ∧ risingB Ps = true then some (I, Ps) else none := by
  cases o with
  | none =>
    rw [numO_none] at h1
    injection h1 with _ h1
    subst h1
    rw [numO_none] at h2
    injection h2 with _ h2
    subst h2
    have := numsO_none N
    rw [h3] at this
    simp only at this
    rw [if_neg (by rw [this]; rintro ⟨h, _⟩; cases h)]
    rfl
  | some r =>
    show leavingS r = _
    unfold leavingS
    rw [list_steps r h1 h2 h3]
    by_cases h : o3 = some []
    · rw [if_pos h, sb]
      by_cases hp : 1 ≤ Ps.length ∧ risingB Ps = true
      · rw [if_pos (by simp only [Bool.and_eq_true, decide_eq_true_eq]; exact hp), if_pos ⟨h, hp⟩]
      · rw [if_neg (by simp only [Bool.and_eq_true, decide_eq_true_eq]; exact hp), if_neg (fun k => hp k.2)]
    · rw [if_neg h, if_neg (fun k => h k.1)]; rfl

theorem But.drewN {b : Nat} {w w' : World} (h : But b w w') (n : Nat) : But b w (w'.drewN n) :=
  ⟨by simpa using h.size, fun k hk hne => by simpa using h.block k hk hne, h.still.trans (still_drewN n w')⟩
theorem But.setNew {b p : Nat} {w w' : World} (h : But b w w') (hp : w.heap.size ≤ p) {j : Nat} (v : Value) : But b w (w'.setCell ⟨p, j, none⟩ v) :=
  ⟨by simpa using h.size, fun k hk hne => (heap_setCell_other w' ⟨p, j, none⟩ k v (by show k ≠ p; omega)).trans (h.block k hk hne), h.still.trans ⟨rfl, rfl, rfl⟩⟩
structure LS (w wk : World) (s b : Nat) (o : Option (List UInt8)) (I : Nat) (v : Value) : Prop where
  fd : FdIn wk b o
  res : LvAt wk s 0 (.slice none 0 0)
  lv : LvAt wk (s + 1) I v
  but : But b w wk
  size : s + 2 ≤ wk.heap.size
theorem LS.fdStep {w wk wk' : World} {s b I : Nat} {o o' : Option (List UInt8)} {v : Value} (h : LS w wk s b o I v) (hb : b < s) (hs : Same b wk wk') (hf : FdIn wk' b o') : LS w wk' s b o' I v :=
  ⟨hf, (hs.2 s (by omega)).trans h.res, (hs.2 (s + 1) (by omega)).trans h.lv, h.but.trans ⟨by rw [hs.1]; exact Nat.le_refl _, fun k _ hk => hs.2 k hk, hs.3⟩, by rw [hs.1]; exact h.size⟩
theorem LS.keep {w wk wk' : World} {s b I : Nat} {o : Option (List UInt8)} {v : Value} (h : LS w wk s b o I v) (hb : b < s) (hk : Below wk.heap.size wk wk') : LS w wk' s b o I v := by
  have hz := h.size
  exact ⟨h.fd.blk (hk.block b (by omega)), (hk.block s (by omega)).trans h.res, (hk.block (s + 1) (by omega)).trans h.lv, h.but.trans ⟨hk.size, fun k hlt _ => hk.block k hlt, Still.of_below hk⟩, Nat.le_trans h.size hk.size⟩
theorem LS.set {w wk : World} {s b I I' j : Nat} {o : Option (List UInt8)} {v v' u : Value} (h : LS w wk s b o I v) (hw : w.heap.size ≤ s + 1) (hb : b < s) (e : (#[.int .i64 I, v] : Array Value).setIfInBounds j u = #[.int .i64 I', v']) : LS w (wk.setCell ⟨s + 1, j, none⟩ u) s b o I' v' := by
  have hs : Same (s + 1) wk (wk.setCell ⟨s + 1, j, none⟩ u) := (Same.refl _ _).setCell _
  refine ⟨h.fd.same hs (by omega), (hs.2 s (by omega)).trans h.res, ?_, ⟨by rw [hs.1]; exact h.but.size, fun k hk hne => (hs.2 k (by omega)).trans (h.but.block k hk hne), h.but.still.trans hs.3⟩, by rw [hs.1]; exact h.size⟩
  have := heap_setCell_same wk (s + 1) j _ _ u h.lv
  unfold LvAt
  rw [this, e]
theorem LS.ofGrown {w wk wa wg : World} {s b I n : Nat} {o : Option (List UInt8)} {v : Value} {xs : List Value} (h : LS w wk s b o I v) (hw : w.heap.size ≤ s) (hb : b < s) (hO : wk.ownsRow (s + 2) 3 1 v n xs) (hB : Below wk.heap.size wk wa) (hg : wa.grownBy wg v.ownBlock) : LS w wg s b o I v := by
  have hz := h.size
  have hrow : ∀ j, v.ownBlock = some j → s + 2 ≤ j := fun j hj => (hO.lt j hj).1
  have old : ∀ k, k < s + 2 → wg.heap[k]? = wk.heap[k]? := fun k hk => by
    rw [hg.block k (by have := hB.size; omega) (fun e => by have := hrow k e.symm; omega), hB.block k (by omega)]
  exact ⟨h.fd.blk (old _ (by omega)), (old s (by omega)).trans h.res, (old (s + 1) (by omega)).trans h.lv, ⟨by have := hB.size; have := hg.size; have := h.but.size; omega, fun k hk hne => (old k (by omega)).trans (h.but.block k hk hne), h.but.still.trans ((Still.of_below hB).trans ⟨hg.os, hg.tape, hg.output⟩)⟩, by have := hB.size; have := hg.size; omega⟩

set_option maxHeartbeats 2000000 in
set_option maxRecDepth 100000 in
theorem leaving_any (b : Nat) (o : Option (List UInt8)) (w : World) (h : FdIn w b o) (hb : b < w.heap.size) :
    Calls Tryz.prog 115 #[.pointer (some ⟨b, 0, none⟩)] w (LeavingPost b o w) := by
  obtain ⟨s, hs⟩ : ∃ s, w.heap.size = s := ⟨_, rfl⟩
  rw [hs] at hb
  have HH := Lib.hid h
  have HSS := Lib.hid hs
  clear h
  go_enter Tryz.func115, Tryz.ntmps115
  go_wp2_with fail
  obtain ⟨W0, hW0⟩ : ∃ W0 : World, (w.alloc (.cells #[.int .i64 0, .slice none 0 0] 127)).alloc (.cells #[.int .i64 0, .slice none 0 0] 127) = W0 := ⟨_, rfl⟩
  have S0 : LS w W0 s b o 0 (.slice none 0 0) := by
    have hbl : Below w.heap.size w W0 := by rw [← hW0]; exact ((Below.refl _ _).alloc (Nat.le_refl _) _).alloc (by simp) _
    refine ⟨HH.out.blk (hbl.block b (by omega)), ?_, ?_, ⟨hbl.size, fun k hk _ => hbl.block k hk, Still.of_below hbl⟩, by rw [← hW0]; simp; omega⟩
    · unfold LvAt
      rw [← hW0, ← hs, ((Below.refl (w.alloc (.cells #[.int .i64 0, .slice none 0 0] 127)).heap.size _).alloc (Nat.le_refl _) _).block w.heap.size (by simp)]
      exact heap_alloc_new w _
    · unfold LvAt
      rw [← hW0, ← hs]
      have := heap_alloc_new (w.alloc (.cells #[.int .i64 0, .slice none 0 0] 127)) (.cells #[.int .i64 0, .slice none 0 0] 127)
      simpa using this
  have HS0 := Lib.hid S0
  rw [hW0]
  obtain ⟨I, o1, hI⟩ : ∃ I o1, numO 4 o = (I, o1) := ⟨_, _, rfl⟩
  have hI4 : I ≤ 4294967295 := by have := numO_lt 4 o; rw [hI] at this; simp at this; omega
  have hc : Calls Tryz.prog 69 #[.pointer (some ⟨b, 0, none⟩), .int .i64 4] W0 fun e w' => e = .returned (.int .i64 (numO 4 o).1) ∧ FdIn w' b (numO 4 o).2 ∧ Same b W0 w' := fdNumber_any b 4 o W0 HS0.out.fd (by decide)
  rw [hI] at hc
  have HI := Lib.hid hI
  clear hI S0 hW0
  refine hc.mono ?_
  rintro e w3 ⟨rfl, h1, h2⟩
  have S3 := HS0.out.fdStep hb h2 h1
  obtain ⟨c0, f0⟩ := S3.lv.cell 0
  have S3' : LS w (w3.setCell ⟨s + 1, 0, none⟩ (.int .i64 I)) s b o1 I (.slice none 0 0) := S3.set (by omega) hb rfl
  obtain ⟨W3, hW3⟩ : ∃ W3 : World, w3.setCell ⟨s + 1, 0, none⟩ (.int .i64 I) = W3 := ⟨_, rfl⟩
  rw [hW3] at S3'
  have HS3 := Lib.hid S3'
  have HW3 := Lib.hid hW3
  clear h1 h2 S3 S3' hW3 hc HS0 HH
  obtain ⟨N, o2, hN⟩ : ∃ N o2, numO 1 o1 = (N, o2) := ⟨_, _, rfl⟩
  have hN4 : N ≤ 255 := by have := numO_lt 1 o1; rw [hN] at this; simp at this; omega
  have hc : Calls Tryz.prog 69 #[.pointer (some ⟨b, 0, none⟩), .int .i64 1] W3 fun e w' => e = .returned (.int .i64 (numO 1 o1).1) ∧ FdIn w' b (numO 1 o1).2 ∧ Same b W3 w' := fdNumber_any b 1 o1 W3 HS3.out.fd (by decide)
  rw [hN] at hc
  have HC := Lib.hid hc
  have HN := Lib.hid hN
  clear hc hN
  go_wp2_with fail
  rw [HW3.out]
  refine HC.out.mono ?_
  rintro e w7 ⟨rfl, h1, h2⟩
  have HS7 := Lib.hid (HS3.out.fdStep hb h2 h1)
  clear h1 h2 HC HS3 HW3 c0 f0
  go_wp2_with fail
  obtain ⟨ii, hii, hzi0, hzi1, hzi2⟩ := info_parts info_int'
  go_loopw [10] (fun i w' => ∃ (k : Nat) (v : Value) (Ps : List Nat) (p : Option (List UInt8)), k ≤ N ∧ i = .int .i64 k ∧ Hid (numsO k o2 = (Ps, p)) ∧ Hid (LS w w' s b p I v) ∧ Hid (w'.ownsRow (s + 2) 3 1 v k (natCells Ps))) (fun i _ => N - (intOf i).toNat)
  case atStart => exact ⟨0, _, [], o2, Nat.zero_le _, rfl, Lib.hid rfl, HS7, Lib.hid (World.ownsRow_nil _ _ _ _)⟩
  case round =>
    clear HS7
    obtain ⟨k, v, Ps, p, hk, rfl, HTS, HS, HO⟩ := hrel
    have hPl : Ps.length = k := by have := numsO_len k o2; rw [HTS.out] at this; exact this
    have HPL := Lib.hid hPl
    obtain ⟨av, cv, rfl⟩ : ∃ a c, v = .slice a k c := by
      rcases HO.out.2 with ⟨e, h0⟩ | ⟨g, cap, cur, e, _⟩
      · exact ⟨_, _, by rw [h0]; exact e⟩
      · exact ⟨_, _, e⟩
    clear hPl
    by_cases hlt : k < N
    · have hlti : (k : Int) < (N : Int) := by omega
      obtain ⟨x, p', hx⟩ : ∃ x p', numO 1 p = (x, p') := ⟨_, _, rfl⟩
      have HNX : Hid (numsO (k + 1) o2 = (Ps ++ [x], p')) := Lib.hid (by rw [numsO, HTS.out]; simp only [hx])
      have HTX : Hid (∀ w', FdIn w' b p → Calls Tryz.prog 69 #[.pointer (some ⟨b, 0, none⟩), .int .i64 1] w' fun e w'' => e = .returned (.int .i64 (x : Int)) ∧ FdIn w'' b p' ∧ Same b w' w'') := Lib.hid (fun w' h' => by
        have hc : Calls Tryz.prog 69 #[.pointer (some ⟨b, 0, none⟩), .int .i64 1] w' fun e w'' => e = .returned (.int .i64 (numO 1 p).1) ∧ FdIn w'' b (numO 1 p).2 ∧ Same b w' w'' := fdNumber_any b 1 p w' h' (by decide)
        rw [hx] at hc
        exact hc)
      have Sd : Hid (LS w wr.drew s b p I (.slice av k cv)) := Lib.hid (HS.out.keep hb ((Below.refl _ _).drew))
      have Od : Hid (wr.drew.ownsRow (s + 2) 3 1 (.slice av k cv) k (natCells Ps)) := Lib.hid HO.out.drew
      have c3 : wr.drew.cell? ⟨s + 1, 1, none⟩ = some (.slice av k cv) := (Sd.out.lv.cell 1).1
      clear hx
      go_wp2_with fail
      go_region_law (first
        | (refine step_append_lies _ (by rfl) _ _ _ (by rfl) (s + 2) 3 ii _ 1 8 Tryz.underlying34 hii hzi0 hzi1 hzi2 rfl (by decide) (.slice av k cv) k (natCells Ps) (by rfl) (O9.out.alloc _) ⟨w9.heap.size, 0, none⟩ 1 1 [.int .i64 (x : Int)] (by rfl) (by rfl) (World.news_of_block (cs := #[.int .i64 (x : Int)]) (t := 3) (fr := (0, 0)) (heap_alloc_new w9 _)) (by simp [Value.oneCell']) (by decide) (by unfold maxLen; omega) (by omega) (by simp; omega) (w9.heap.size + 1) (by simp) ?_; intro ga capa w11 hown hgrow hat hlt11; have S11 := Lib.hid (S9.out.ofGrown (by rw [HSS.out]; exact Nat.le_refl _) hb O9.out ((Below.refl _ _).alloc (Nat.le_refl _) _) hgrow); have m11 : w11.cell? ⟨s + 1, 1, none⟩ = some (.slice av k cv) := (S11.out.lv.cell 1).1; have f11 := (S11.out.lv.cell 1).2; have HOW := Lib.hid hown; clear hown hgrow hat)
        | (go_simp; go_at_call 69; refine (HTX.out _ Sd.out.fd).mono ?_; rintro e w9 ⟨rfl, h1, h2⟩; have S9 := Lib.hid (Sd.out.fdStep hb h2 h1); have O9 := Lib.hid (ownsRow_same Od.out h2 (by omega)); have c9 : w9.cell? ⟨s + 1, 1, none⟩ = some (.slice av k cv) := (S9.out.lv.cell 1).1; have z9 := S9.out.size; have c9' : ∀ o : Obj, (w9.alloc o).cell? ⟨s + 1, 1, none⟩ = some (.slice av k cv) := (fun o => (((Below.refl w9.heap.size w9).alloc (Nat.le_refl _) o).cell (block_lt c9)).trans c9); clear h1 h2; dsimp only))
      all_goals
        have S12 := Lib.hid (S11.out.set (j := 1) (u := .slice (some ⟨ga, 0, none⟩) (k + 1) capa) (I' := I) (v' := .slice (some ⟨ga, 0, none⟩) (k + 1) capa) (by rw [HSS.out]; omega) hb rfl)
        have O12 := Lib.hid (ownsRow_same HOW.out (show Same (s + 1) w11 (w11.setCell ⟨s + 1, 1, none⟩ (.slice (some ⟨ga, 0, none⟩) (k + 1) capa)) from (Same.refl _ _).setCell _) (by omega))
        clear m11 f11 HOW S11
        go_wp2_with fail
        exact ⟨⟨k + 1, _, Ps ++ [x], p', by omega, by go_num, HNX, S12, Lib.hid (by rw [natCells_snoc]; exact O12.out)⟩, by simp [intOf]; omega⟩
    · have hkN : k = N := by omega
      subst hkN
      have HLS : Hid (leavingO o = if p = some [] ∧ 1 ≤ Ps.length ∧ risingB Ps = true then some (I, Ps) else none) := Lib.hid (leaving_steps o HI.out HN.out HTS.out)
      have hPt : ∀ x ∈ Ps, x < 256 := by have := numsO_lt k o2; rw [HTS.out] at this; exact this
      have HPT := Lib.hid hPt
      have HDN := Lib.hid (fdDone_any b p wr HS.out.fd)
      have d0 : wr.cell? ⟨s + 1, 0, none⟩ = some (.int .i64 I) := (HS.out.lv.cell 0).1
      have d1 : wr.cell? ⟨s + 1, 1, none⟩ = some (.slice av k cv) := (HS.out.lv.cell 1).1
      have r0 : wr.cell? ⟨s, 0, none⟩ = some (.int .i64 0) := (HS.out.res.cell 0).1
      have g0 := (HS.out.res.cell 0).2
      have r1 : wr.cell? ⟨s, 1, none⟩ = some (.slice none 0 0) := (HS.out.res.cell 1).1
      have g1 := (HS.out.res.cell 1).2
      have HB := Lib.hid HS.out.but
      have HX := Lib.hid HS.out.lv
      clear hPt
      go_wp2_with fail
      refine HDN.out.mono ?_
      rintro e w10 ⟨rfl, rfl⟩
      cases hq : decide (p = some []) with
      | false =>
        have HRN : Hid (leavingO o = none) := Lib.hid (by rw [HLS.out, if_neg (by rintro ⟨h, _⟩; simp [h] at hq)])
        clear HLS hq HDN
        go_wp2_with fail
        refine bodyPost_ret (v := .tuple #[.agg #[.int .i64 0, .slice none 0 0], .bool false]) (by simp [results, Tryz.results115, go_sem, *]) rfl ?_
        exact ⟨.inl ⟨HRN.out, rfl⟩, (HB.out.setNew (by rw [HSS.out]; exact Nat.le_refl _) _).setNew (by rw [HSS.out]; exact Nat.le_refl _) _⟩
      | true =>
        by_cases hk0 : k = 0
        · have HRN : Hid (leavingO o = none) := Lib.hid (by rw [HLS.out, if_neg (by rintro ⟨_, h, _⟩; have := HPL.out; omega)])
          have hd0 : ((k : Int) == 0) = true := by rw [hk0]; rfl
          clear HLS hq HDN
          go_wp2_with fail
          refine bodyPost_ret (v := .tuple #[.agg #[.int .i64 0, .slice none 0 0], .bool false]) (by simp [results, Tryz.results115, go_sem, *]) rfl ?_
          exact ⟨.inl ⟨HRN.out, rfl⟩, (HB.out.setNew (by rw [HSS.out]; exact Nat.le_refl _) _).setNew (by rw [HSS.out]; exact Nat.le_refl _) _⟩
        · have hd0 : ((k : Int) == 0) = false := by rw [beq_eq_false_iff_ne]; omega
          have hrow : RowAt wr (.slice av k cv) Ps.length 1 (natCells Ps) := by rw [HPL.out]; exact row_of_own HO.out
          have HIR := Lib.hid (isRising_any (.slice av k cv) Ps wr hrow (by have := HPL.out; omega))
          have hk0' : ¬ k = 0 := hk0
          cases hR : risingB Ps with
          | false =>
            have HRN : Hid (leavingO o = none) := Lib.hid (by rw [HLS.out, if_neg (by rintro ⟨_, _, h⟩; rw [hR] at h; cases h)])
            rw [hR] at HIR
            clear HLS hq HDN hR hrow
            go_wp2_with fail
            refine HIR.out.mono ?_
            rintro e w11 ⟨rfl, n, rfl⟩
            go_wp2_with fail
            refine bodyPost_ret (v := .tuple #[.agg #[.int .i64 0, .slice none 0 0], .bool false]) (by simp [results, Tryz.results115, go_sem, *]) rfl ?_
            exact ⟨.inl ⟨HRN.out, rfl⟩, ((HB.out.drewN n).setNew (by rw [HSS.out]; exact Nat.le_refl _) _).setNew (by rw [HSS.out]; exact Nat.le_refl _) _⟩
          | true =>
            have HRN : Hid (leavingO o = some (I, Ps)) := Lib.hid (by rw [HLS.out, if_pos ⟨by simpa using hq, by have := HPL.out; omega, hR⟩])
            rw [hR] at HIR
            clear HLS hq HDN hR hrow
            go_wp2_with fail
            refine HIR.out.mono ?_
            rintro e w11 ⟨rfl, n, rfl⟩
            go_wp2_with fail
            refine bodyPost_ret (v := .tuple #[.agg #[.int .i64 I, .slice av k cv], .bool true]) (by simp [results, Tryz.results115, go_sem, *]) rfl ?_
            have hpl := HPL.out
            refine ⟨.inr ⟨I, Ps, .slice av k cv, HRN.out, rfl, ?_, hI4, by omega, by omega, fun x hx => by have := HPT.out x hx; omega⟩, ((HB.out.drewN n).setNew (by rw [HSS.out]; exact Nat.le_refl _) _).setNew (by rw [HSS.out]; exact Nat.le_refl _) _⟩
            rw [HSS.out, hpl]
            refine World.ownsRow.mono (base := s + 2) ?_ (by omega)
            have hS : ∀ (u : World) (j : Nat) (x : Value), u.ownsRow (s + 2) 3 1 (.slice av k cv) k (natCells Ps) → (u.setCell ⟨s, j, none⟩ x).ownsRow (s + 2) 3 1 (.slice av k cv) k (natCells Ps) := fun u j x h => ownsRow_same h (show Same s u _ from (Same.refl _ _).setCell _) (by omega)
            exact hS _ _ _ (hS _ _ _ (ownsRow_touch ((Touch.refl [] wr).drewN n) (by simp) HO.out))
end Go.Proofs.YtgjjjdccbpjnfaaGreatDoor
