import Derived.Test.YtgjjjdccbpjnfaaGreatDoorS08
import Derived.Deep.QuietTactic
import Derived.BigQuiet
import Derived.BigRegion

/- The document's question whether recipients may go out. -/
namespace Go.Proofs.YtgjjjdccbpjnfaaGreatDoor
open Go.RowKit

/-- may the i-th of these numbers go out? -/
def outOkB (out : List Bool) (l : List Nat) (i : Nat) : Bool := decide (l.getD i 0 < out.length) && !(out.getD (l.getD i 0) false) && (decide (i = 0) || decide (l.getD (i - 1) 0 < l.getD i 0))
def outsB (S : PStore) (id : Nat) (l : List Nat) : Bool := decide (1 ≤ id) && decide (id ≤ S.items.length) && decide (1 ≤ l.length) && (List.range l.length).all (outOkB ((S.items.map (·.out)).getD (id - 1) []) l)

set_option maxHeartbeats 1000000 in
set_option maxRecDepth 100000 in
theorem refOuts_any (base p id : Nat) (S : PStore) (v : Value) (ps : List Nat) (w : World) (h : StoreIn base w p S) (hn : S.items.length ≤ 1048576) (hid : id ≤ 4294967295) (hv : RowAt w v ps.length 1 (natCells ps)) (hps : ps.length ≤ 255) (hp256 : ∀ x ∈ ps, x ≤ 255) :
    Calls Tryz.prog 188 #[.pointer (some ⟨p, 0, none⟩), .int .i64 id, v] w fun e w' => e = .returned (.bool (outsB S id ps)) ∧ Below w.heap.size w w' := by
  obtain ⟨vL, l, hl, hp, hP, hrow, hnd, hit⟩ := h
  obtain ⟨a, cap, rfl, _⟩ := hv.one
  have hll : l.length = S.items.length := by rw [← hl, List.length_map]
  have hvs : ∃ aL cL, vL = .slice aL l.length cL := by
    rcases hrow.2 with ⟨e, h0⟩ | ⟨g, cp, cur, e, _⟩
    · exact ⟨_, _, by rw [h0]; exact e⟩
    · exact ⟨_, _, e⟩
  obtain ⟨aL, cL, rfl⟩ := hvs
  have P0 : w.cell? ⟨p, 0, none⟩ = some (.slice aL l.length cL) := by rw [Lib.cell_of_heap hP]; rfl
  have hps1 : (ps.length : Int) ≤ 255 := by omega
  have hl1 : (l.length : Int) ≤ 1048576 := by omega
  have HROW := Lib.hid hrow
  have HIT := Lib.hid hit
  have HL := Lib.hid hl
  have HLL := Lib.hid hll
  have HV := Lib.hid hv
  have H256 := Lib.hid hp256
  have HPB := Lib.hid hP
  clear hrow hit hl hll hv hp256 hP hnd hn
  go_enter Tryz.func188, Tryz.ntmps188
  cases c1 : decide ((id : Int) < 1) with
  | true =>
    have HF : Hid (outsB S id ps = false) := Lib.hid (by unfold outsB; rw [decide_eq_false (by simp at c1; omega)]; rfl)
    go_wp2_with fail
    go_ret
    exact ⟨by rw [HF.out]; rfl, Below.refl _ _⟩
  | false =>
    obtain ⟨K, rfl⟩ : ∃ K, id = K + 1 := ⟨id - 1, by simp at c1; omega⟩
    cases c2 : decide (l.length < K + 1) with
    | true =>
      have HF : Hid (outsB S (K + 1) ps = false) := Lib.hid (by unfold outsB; rw [decide_eq_false (show ¬ (K + 1 ≤ S.items.length) by rw [← HLL.out]; simp at c2; omega)]; simp)
      have c2' : (l.length : Int) < (K : Int) + 1 := by simp at c2; omega
      go_wp2_with fail
      go_ret
      exact ⟨by rw [HF.out]; rfl, Below.refl _ _⟩
    | false =>
      have hKl : K < l.length := by simp at c2; omega
      have hKi : (K : Int) < (l.length : Int) := by omega
      by_cases c3 : ps.length = 0
      · have HF : Hid (outsB S (K + 1) ps = false) := Lib.hid (by unfold outsB; rw [c3]; simp)
        go_wp2_with fail
        go_ret
        exact ⟨by rw [HF.out]; rfl, Below.refl _ _⟩
      · obtain ⟨g, rfl, hgl, hcell⟩ : ∃ g, aL = some ⟨g, 0, none⟩ ∧ g < w.heap.size ∧ ∀ i, i < 6 → w.cell? ⟨g, K * 6 + i, none⟩ = (itemCells l[K])[i]? := by
          rcases HROW.out.2 with ⟨_, h0⟩ | ⟨g, cp, cur, e, _, hg, _, _, hsz, htk⟩
          · omega
          · injection e with e1 _ _
            refine ⟨g, e1, heap_lt hg, fun i hi => ?_⟩
            rw [Lib.cell_of_heap hg, ← rowCells_at l K i hKl hi, ← htk, List.getElem?_take_of_lt (by omega), Array.getElem?_toList]
        obtain ⟨hI1, hI2, hI3, hI4, hI5, hI6⟩ := HIT.out l[K] (List.getElem_mem hKl)
        have g0 := hcell 0 (by decide)
        have g1 := hcell 1 (by decide)
        have g2 := hcell 2 (by decide)
        have g3 := hcell 3 (by decide)
        have g4 := hcell 4 (by decide)
        have g5 := hcell 5 (by decide)
        simp only [itemCells, List.getElem?_cons_zero, List.getElem?_cons_succ, Nat.add_zero] at g0 g1 g2 g3 g4 g5
        have HG : Hid (outsB S (K + 1) ps = (List.range ps.length).all (outOkB l[K].1.out ps)) := Lib.hid (by
          unfold outsB
          rw [← HL.out, List.length_map, decide_eq_true (show 1 ≤ K + 1 by omega), decide_eq_true (show K + 1 ≤ l.length by omega), decide_eq_true (show 1 ≤ ps.length by omega), List.map_map, show K + 1 - 1 = K by omega, List.getD_eq_getElem?_getD, List.getElem?_map, List.getElem?_eq_getElem hKl]
          rfl)
        obtain ⟨gt, ct, et⟩ : ∃ gt ct, l[K].2.1 = .slice (some ⟨gt, 0, none⟩) l[K].1.m.tos.length ct := by
          rcases hI1.2 with ⟨_, h0⟩ | ⟨g, cp, cur, e, _⟩
          · omega
          · exact ⟨g, cp, e⟩
        rw [et] at g3
        have HO := Lib.hid hI3
        have ho255 : (l[K].1.out.length : Int) ≤ 255 := by rw [hI4]; have := hI6.2.2.2.1; omega
        generalize l[K].1.out = out at *
        generalize l[K].1.m = mm at *
        generalize l[K].2.2 = bo at *
        have d1 : decide ((K : Int) + 1 < 1) = false := by simp; omega
        have d2 : decide ((l.length : Int) < (K : Int) + 1) = false := by simp; omega
        have d3 : ((ps.length : Int) == 0) = false := by rw [beq_eq_false_iff_ne]; omega
        clear hcell hI1 hI2 hI3 hI4 hI5 hI6 et c1 c2 c3
        obtain ⟨W1, hW1⟩ : ∃ W1 : World, w.alloc (.cells #[.int .i64 mm.id, .int .i64 mm.time, .string (bs mm.frm), .slice (some ⟨gt, 0, none⟩) mm.tos.length ct, .string (bs mm.body), .slice (some ⟨bo, 0, none⟩) out.length out.length] 168) = W1 := ⟨_, rfl⟩
        have hs1 : W1.heap.size = w.heap.size + 1 := by rw [← hW1]; simp
        have hb1 : Below w.heap.size w W1 := by rw [← hW1]; exact (Below.refl _ _).alloc (Nat.le_refl _) _
        have hx5 : W1.cell? ⟨w.heap.size, 5, none⟩ = some (.slice (some ⟨bo, 0, none⟩) out.length out.length) := by rw [← hW1]; exact World.cell?_alloc_mark w _ 168 (0, 0) 5
        have HX5 := Lib.hid hx5
        have HB1 := Lib.hid hb1
        have HS1 := Lib.hid hs1
        clear hb1 hs1 hx5
        go_wp2_with fail
        clear hW1 d1 d2 d3 g0 g1 g2 g3 g4 g5 P0
        go_loopw [8] (fun i w' => ∃ k : Nat, k ≤ ps.length ∧ i = .int .i64 k ∧ Hid ((List.range k).all (outOkB out ps) = true) ∧ Hid (Below (w.heap.size + 1) W1 w')) (fun i _ => ps.length - (intOf i).toNat)
        case atStart => exact ⟨0, Nat.zero_le _, rfl, Lib.hid rfl, Lib.hid (Below.refl _ _)⟩
        case round =>
          obtain ⟨k, hk, rfl, HA, HB⟩ := hrel
          by_cases hlt : k < ps.length
          · have hlti : (k : Int) < (ps.length : Int) := by omega
            have hbw : Below w.heap.size w wr := HB1.out.trans (HB.out.mono (by omega))
            obtain ⟨b, off, rfl, hbl, hc⟩ := (HV.out.below hbw).elem k hlt
            have ek : wr.cell? ⟨b, off + k, none⟩ = some (.int .i64 (ps[k] : Int)) := by rw [hc]; simp [natCells, hlt]
            have x5 : wr.cell? ⟨w.heap.size, 5, none⟩ = some (.slice (some ⟨bo, 0, none⟩) out.length out.length) := (HB.out.cell (show w.heap.size < w.heap.size + 1 by omega)).trans HX5.out
            have hle : (ps[k] : Int) ≤ 255 := by have := H256.out ps[k] (List.getElem_mem hlt); omega
            have HEK := Lib.hid (show ps.getD k 0 = ps[k] by rw [List.getD_eq_getElem?_getD, List.getElem?_eq_getElem hlt]; rfl)
            have HBO : Hid (∀ j, j < out.length → wr.cell? ⟨bo, j, none⟩ = some (.bool (out.getD j false))) := Lib.hid (fun j hj => by
              rw [hbw.cell (show bo < w.heap.size from heap_lt HO.out), Lib.cell_of_heap HO.out]
              simp [boolCells, List.getD_eq_getElem?_getD, hj])
            have HPREV : Hid (∀ j (hj : j < ps.length), wr.cell? ⟨b, off + j, none⟩ = some (.int .i64 (ps[j] : Int))) := Lib.hid (fun j hj => by
              obtain ⟨b', off', e, _, hc'⟩ := (HV.out.below hbw).elem j hj
              injection e with e; injection e with e1 e2; subst e1 e2
              rw [hc']; simp [natCells, hj])
            obtain ⟨x, hx⟩ : ∃ x, ps[k] = x := ⟨_, rfl⟩
            rw [hx] at ek hle HEK
            clear hc hbw
            cases t1 : decide (out.length ≤ x) with
            | true =>
              have hb1 : out.length ≤ x := by simpa using t1
              have HF : Hid (outsB S (K + 1) ps = false) := Lib.hid (by rw [HG.out]; exact all_false hlt (by unfold outOkB; rw [HEK.out, decide_eq_false (by omega)]; rfl))
              go_wp2_with fail
              go_quiet (fail)
              go_wp2_with fail
              go_ret
              exact ⟨by rw [HF.out]; rfl, HB1.out.trans ((HB.out.trans (below_drewN _ _ _)).mono (by omega))⟩
            | false =>
              have hxo : x < out.length := by simpa using t1
              have hxoi : (x : Int) < (out.length : Int) := by omega
              have ebv := HBO.out x hxo
              cases hbv : out.getD x false with
              | true =>
                have HF : Hid (outsB S (K + 1) ps = false) := Lib.hid (by rw [HG.out]; exact all_false hlt (by unfold outOkB; rw [HEK.out, hbv]; simp))
                rw [hbv] at ebv
                go_wp2_with fail
                go_quiet (fail)
                go_wp2_with fail
                go_ret
                exact ⟨by rw [HF.out]; rfl, HB1.out.trans ((HB.out.trans (below_drewN _ _ _)).mono (by omega))⟩
              | false =>
                rw [hbv] at ebv
                by_cases hk0 : k = 0
                · have z0 : decide ((0 : Int) < (k : Int)) = false := by simp; omega
                  have z2 : decide (0 < k) = false := by simp; omega
                  have HN : Hid ((List.range (k + 1)).all (outOkB out ps) = true) := Lib.hid (by
                    rw [all_succ, HA.out]; unfold outOkB; rw [HEK.out, hbv, decide_eq_true hxo, decide_eq_true hk0]; rfl)
                  clear hk0
                  go_wp2_with fail
                  go_quiet (fail)
                  go_wp2_with fail
                  exact ⟨⟨k + 1, by omega, by go_num, HN, Lib.hid (HB.out.trans (below_drewN _ _ _))⟩, by simp [intOf]; omega⟩
                · have z0 : decide ((0 : Int) < (k : Int)) = true := by simp; omega
                  have z2 : decide (0 < k) = true := by simp; omega
                  have z3 : 0 < k := by omega
                  have z1 : (0 : Int) < (k : Int) := by omega
                  obtain ⟨j, hj⟩ : ∃ j, k = j + 1 := ⟨k - 1, by omega⟩
                  have hjl : j < ps.length := by omega
                  have hjli : (j : Int) < (ps.length : Int) := by omega
                  have hwj : IntKind.i64.wrap ((k : Int) - 1) = (j : Int) := by rw [IntKind.wrap_i64]; omega
                  have ej := HPREV.out j hjl
                  have HEJ := Lib.hid (show ps.getD (k - 1) 0 = ps[j] by rw [hj, show j + 1 - 1 = j by omega, List.getD_eq_getElem?_getD, List.getElem?_eq_getElem hjl]; rfl)
                  obtain ⟨y, hy⟩ : ∃ y, ps[j] = y := ⟨_, rfl⟩
                  rw [hy] at ej HEJ
                  have HK0 := Lib.hid hk0
                  clear hk0 hj
                  cases t3 : decide (x ≤ y) with
                  | true =>
                    have hxy : x ≤ y := by simpa using t3
                    have HF : Hid (outsB S (K + 1) ps = false) := Lib.hid (by rw [HG.out]; exact all_false hlt (by unfold outOkB; rw [HEK.out, HEJ.out, decide_eq_false HK0.out, decide_eq_false (show ¬ y < x by omega)]; simp))
                    go_wp2_with fail
                    go_quiet (fail)
                    go_wp2_with fail
                    go_ret
                    exact ⟨by rw [HF.out]; rfl, HB1.out.trans ((HB.out.trans (below_drewN _ _ _)).mono (by omega))⟩
                  | false =>
                    have hxy : y < x := by simpa using t3
                    have HN : Hid ((List.range (k + 1)).all (outOkB out ps) = true) := Lib.hid (by
                      rw [all_succ, HA.out]; unfold outOkB; rw [HEK.out, HEJ.out, hbv, decide_eq_true hxo, decide_eq_true hxy]; simp)
                    go_wp2_with fail
                    go_quiet (fail)
                    go_wp2_with fail
                    exact ⟨⟨k + 1, by omega, by go_num, HN, Lib.hid (HB.out.trans (below_drewN _ _ _))⟩, by simp [intOf]; omega⟩
          · have hk9 : k = ps.length := by omega
            subst hk9
            have HF : Hid (outsB S (K + 1) ps = true) := Lib.hid (by rw [HG.out]; exact HA.out)
            go_wp2_with fail
            go_ret
            exact ⟨by rw [HF.out]; rfl, HB1.out.trans (HB.out.mono (by omega))⟩
end Go.Proofs.YtgjjjdccbpjnfaaGreatDoor

/- Recipients go out of the document's store. -/
namespace Go.Proofs.YtgjjjdccbpjnfaaGreatDoor
open Go.RowKit

theorem Same.drew {b : Nat} {w w' : World} (h : Same b w w') : Same b w w'.drew := ⟨h.1, h.2, h.3.trans ⟨rfl, rfl, rfl⟩⟩
theorem Touch.drew {ts : List TypeId} {w w' : World} (h : Touch ts w w') : Touch ts w w'.drew := ⟨h.1, h.2, h.3.trans ⟨rfl, rfl, rfl⟩⟩
theorem tag_ne {w : World} {a b : Nat} {A B : Array Value} {t u : TypeId} {y z : Nat × Nat} (ha : w.heap[a]? = some (.cells A t y)) (hb : w.heap[b]? = some (.cells B u z)) (h : t ≠ u) : a ≠ b := by
  intro e
  subst e
  rw [ha] at hb
  injection hb with hb
  injection hb with _ hb _
  exact h hb

def outSet (o : List Bool) (l : List Nat) : List Bool := l.foldl (fun o x => o.set x true) o
theorem outSet_len (o : List Bool) (l : List Nat) : (outSet o l).length = o.length := by
  induction l generalizing o with
  | nil => rfl
  | cons x l ih => show (outSet (o.set x true) l).length = _; rw [ih, List.length_set]
theorem outSet_take (o : List Bool) (l : List Nat) (k : Nat) (h : k < l.length) : outSet o (l.take (k + 1)) = (outSet o (l.take k)).set l[k] true := by
  unfold outSet; rw [List.take_succ_eq_append_getElem h, List.foldl_append]; rfl
def PStore.outs (S : PStore) (K : Nat) (ps : List Nat) : PStore := ⟨S.items.modify K (fun x => ⟨x.m, outSet x.out ps⟩), S.time⟩

theorem bools_set (o : List Bool) (x : Nat) : (boolCells o).toArray.setIfInBounds x (.bool true) = (boolCells (o.set x true)).toArray := by
  simp [boolCells, List.map_set]
theorem outs_lt {S : PStore} {K : Nat} {ps : List Nat} (h : outsB S (K + 1) ps = true) : K < S.items.length ∧ ∀ j, j < ps.length → ps.getD j 0 < ((S.items.map (·.out)).getD K []).length := by
  unfold outsB at h
  simp only [Bool.and_eq_true, decide_eq_true_eq] at h
  refine ⟨by omega, fun j hj => ?_⟩
  have := List.all_eq_true.1 h.2 j (List.mem_range.2 hj)
  unfold outOkB at this
  simp only [Bool.and_eq_true, decide_eq_true_eq] at this
  exact this.1.1

theorem modify_snd {l : List (PItem × Value × Nat)} {K : Nat} (f : PItem → PItem) : (l.modify K (fun x => (f x.1, x.2))).map (·.1) = (l.map (·.1)).modify K f ∧ (l.modify K (fun x => (f x.1, x.2))).map (·.2.2) = l.map (·.2.2) := by
  induction l generalizing K with
  | nil => cases K <;> exact ⟨rfl, rfl⟩
  | cons x l ih =>
    cases K with
    | zero => exact ⟨rfl, rfl⟩
    | succ K => exact ⟨by simpa using (ih (K := K)).1, by simpa using (ih (K := K)).2⟩
theorem rowCells_modify {l : List (PItem × Value × Nat)} {K : Nat} (ps : List Nat) : rowCells (l.modify K (fun x => (⟨x.1.m, outSet x.1.out ps⟩, x.2))) = rowCells l := by
  induction l generalizing K with
  | nil => cases K <;> rfl
  | cons x l ih =>
    cases K with
    | zero => show itemCells _ ++ rowCells l = itemCells x ++ rowCells l; simp [itemCells, outSet_len]
    | succ K => exact congrArg (itemCells x ++ ·) (ih (K := K))

theorem out_done {base p K : Nat} {S : PStore} {vL : Value} {l : List (PItem × Value × Nat)} {w w' : World} {ps : List Nat} (hK : K < l.length)
    (hl : l.map (·.1) = S.items) (hp : base ≤ p) (hP : w.heap[p]? = some (.cells #[vL, .int .i64 S.time] 146 (0, 0))) (hrow : w.ownsRow base 168 6 vL l.length (rowCells l)) (hnd : (l.map (·.2.2)).Nodup) (hit : ∀ x ∈ l, ItemIn base w x)
    (hb : w'.heap[l[K].2.2]? = some (.cells (boolCells (outSet l[K].1.out ps)).toArray 4 (0, 0))) (hs : Same l[K].2.2 w w') (hB : Below base w w') :
    StoreIn base w' p (S.outs K ps) ∧ Touch [4] w w' ∧ Below base w w' := by
  have hx := hit l[K] (List.getElem_mem hK)
  have hT : Touch [4] w w' := (Touch.refl _ w).same hx.2.2.1 (by simp) hs
  refine ⟨⟨vL, l.modify K (fun x => (⟨x.1.m, outSet x.1.out ps⟩, x.2)), ?_, hp, hT.cells hP (by decide), ?_, ?_, ?_⟩, hT, hB⟩
  · rw [(modify_snd (fun x => ⟨x.m, outSet x.out ps⟩)).1, hl]; rfl
  · rw [List.length_modify, rowCells_modify]
    exact ownsRow_touch hT (by decide) hrow
  · rw [(modify_snd (fun x => ⟨x.m, outSet x.out ps⟩)).2]; exact hnd
  · intro y hy
    obtain ⟨j, hj, rfl⟩ := List.mem_iff_getElem.1 hy
    rw [List.length_modify] at hj
    rw [List.getElem_modify]
    by_cases e : K = j
    · subst e
      rw [if_pos rfl]
      exact ⟨ownsRow_touch hT (by decide) hx.1, hx.2.1, hb, by show (outSet _ _).length = _; rw [outSet_len]; exact hx.2.2.2.1, hx.2.2.2.2⟩
    · rw [if_neg e]
      have hy' := hit l[j] (List.getElem_mem hj)
      refine ⟨ownsRow_touch hT (by decide) hy'.1, hy'.2.1, ?_, hy'.2.2.2⟩
      rw [hs.2 l[j].2.2 (fun eq => e ?_)]
      · exact hy'.2.2.1
      · have h1 : (l.map (·.2.2))[j]'(by simpa using hj) = (l.map (·.2.2))[K]'(by simpa using hK) := by simpa using eq
        exact ((List.getElem_inj hnd).1 h1).symm

set_option maxHeartbeats 1000000 in
set_option maxRecDepth 100000 in
theorem refOut_any (base base' p K : Nat) (S : PStore) (v : Value) (ps : List Nat) (w : World) (h : StoreIn base w p S) (hn : S.items.length ≤ 1048576) (hv : w.ownsRow base' 3 1 v ps.length (natCells ps)) (hps : ps.length ≤ 255) (_hp256 : ∀ x ∈ ps, x ≤ 255) (hok : outsB S (K + 1) ps = true) :
    Calls Tryz.prog 189 #[.pointer (some ⟨p, 0, none⟩), .int .i64 ((K + 1 : Nat) : Int), v] w fun e w' => e = .returned (.tuple #[]) ∧ StoreIn base w' p (S.outs K ps) ∧ Touch [4] w w' ∧ Below base w w' := by
  obtain ⟨vL, l, hl, hp, hP, hrow, hnd, hit⟩ := h
  have hll : l.length = S.items.length := by rw [← hl, List.length_map]
  obtain ⟨hKS, hps2⟩ := outs_lt hok
  have hKl : K < l.length := by omega
  have hKi : (K : Int) < (l.length : Int) := by omega
  have hl1 : (l.length : Int) ≤ 1048576 := by omega
  have hps1 : (ps.length : Int) ≤ 255 := by omega
  have hvs : ∃ a cap, v = .slice a ps.length cap := by
    rcases hv.2 with ⟨e, h0⟩ | ⟨g, cp, cur, e, _⟩
    · exact ⟨_, _, by rw [h0]; exact e⟩
    · exact ⟨_, _, e⟩
  obtain ⟨a, cap, rfl⟩ := hvs
  obtain ⟨g, cL, rfl, hg⟩ : ∃ g cL, vL = .slice (some ⟨g, 0, none⟩) l.length cL ∧ ∃ cur, w.heap[g]? = some (.cells cur 168 (0, 0)) ∧ cur.toList.take (l.length * 6) = rowCells l := by
    rcases hrow.2 with ⟨_, h0⟩ | ⟨g, cp, cur, e, _, hg, _, _, _, htk⟩
    · omega
    · exact ⟨g, cp, e, cur, hg, htk⟩
  obtain ⟨cur, hg, htk⟩ := hg
  have hx := hit l[K] (List.getElem_mem hKl)
  have hout : ((S.items.map (·.out)).getD K []) = l[K].1.out := by
    rw [← hl, List.map_map, List.getD_eq_getElem?_getD, List.getElem?_map, List.getElem?_eq_getElem hKl]; rfl
  rw [hout] at hps2
  have p0 : w.cell? ⟨p, 0, none⟩ = some (.slice (some ⟨g, 0, none⟩) l.length cL) := by rw [Lib.cell_of_heap hP]; rfl
  have g5 : w.cell? ⟨g, K * 6 + 5, none⟩ = some (.slice (some ⟨l[K].2.2, 0, none⟩) l[K].1.out.length l[K].1.out.length) := by
    rw [Lib.cell_of_heap hg, ← Array.getElem?_toList, ← List.getElem?_take_of_lt (show K * 6 + 5 < l.length * 6 by omega), htk, rowCells_at l K 5 hKl (by decide)]
    rfl
  have npb : p ≠ l[K].2.2 := tag_ne hP hx.2.2.1 (by decide)
  have ngb : g ≠ l[K].2.2 := tag_ne hg hx.2.2.1 (by decide)
  have HPS : Hid (∀ j (hj : j < ps.length), ∃ b, a = some ⟨b, 0, none⟩ ∧ b ≠ l[K].2.2 ∧ w.cell? ⟨b, j, none⟩ = some (.int .i64 (ps[j] : Int))) := Lib.hid (fun j hj => by
    rcases hv.2 with ⟨_, h0⟩ | ⟨b, cp, cur', e, _, hb, _, _, _, htk'⟩
    · omega
    · injection e with e1 _ _
      refine ⟨b, e1, tag_ne hb hx.2.2.1 (by decide), ?_⟩
      · rw [Lib.cell_of_heap hb, ← Array.getElem?_toList, ← List.getElem?_take_of_lt (show j < ps.length * 1 by omega), htk']
        simp [natCells, hj])
  have HD := Lib.hid (fun (w' : World) (h1 : w'.heap[l[K].2.2]? = some (.cells (boolCells (outSet l[K].1.out ps)).toArray 4 (0, 0))) (h2 : Same l[K].2.2 w w') (h3 : Below base w w') => out_done hKl hl hp hP hrow hnd hit h1 h2 h3)
  have HX := Lib.hid hx.2.2.1
  have HBO := Lib.hid hx.2.1
  have HPS2 := Lib.hid hps2
  have ho : (l[K].1.out.length : Int) ≤ 255 := by rw [hx.2.2.2.1]; have := hx.2.2.2.2.2.2.2.2.1; omega
  generalize l[K].1.out = out at *
  generalize l[K].2.2 = bo at *
  have HP0 := Lib.hid p0
  have HG5 := Lib.hid g5
  clear hit hnd hl hout hx hrow hP hg htk hv hok _hp256 hps2 p0 g5 hKS hll
  go_enter Tryz.func189, Tryz.ntmps189
  go_wp2_with fail
  go_loopw [6] (fun i w' => ∃ k : Nat, k ≤ ps.length ∧ i = .int .i64 k ∧ Hid (w'.heap[bo]? = some (.cells (boolCells (outSet out (ps.take k))).toArray 4 (0, 0))) ∧ Hid (Same bo w w') ∧ Hid (Below base w w')) (fun i _ => ps.length - (intOf i).toNat)
  case atStart => exact ⟨0, Nat.zero_le _, rfl, HX, Lib.hid (Same.refl _ _), Lib.hid (Below.refl _ _)⟩
  case round =>
    obtain ⟨k, hk, rfl, HO, HS, HB⟩ := hrel
    by_cases hlt : k < ps.length
    · have hlti : (k : Int) < (ps.length : Int) := by omega
      obtain ⟨b, rfl, hbb, hcb⟩ := HPS.out k hlt
      have ek : wr.cell? ⟨b, k, none⟩ = some (.int .i64 (ps[k] : Int)) := (World.cell?_of_block (HS.out.2 b hbb)).trans hcb
      have p0 : wr.cell? ⟨p, 0, none⟩ = some (.slice (some ⟨g, 0, none⟩) l.length cL) := (World.cell?_of_block (HS.out.2 p npb)).trans HP0.out
      have g5 : wr.cell? ⟨g, K * 6 + 5, none⟩ = some (.slice (some ⟨bo, 0, none⟩) out.length out.length) := (World.cell?_of_block (HS.out.2 g ngb)).trans HG5.out
      have hxo := HPS2.out k hlt
      rw [List.getD_eq_getElem?_getD, List.getElem?_eq_getElem hlt, Option.getD_some] at hxo
      obtain ⟨x, hx⟩ : ∃ x, ps[k] = x := ⟨_, rfl⟩
      have HXE := Lib.hid hx
      rw [hx] at hxo ek
      have hxoi : (x : Int) < (out.length : Int) := by omega
      have cx : ∃ v, wr.cell? ⟨bo, x, none⟩ = some v := ⟨_, by rw [Lib.cell_of_heap HO.out, Array.getElem?_eq_getElem (by simp [boolCells, outSet_len]; exact hxo)]⟩
      obtain ⟨vx, cx⟩ := cx
      have fx : wr.frozen? ⟨bo, x, none⟩ = false := Lib.frozen_of_heap HO.out x
      have hwK : IntKind.i64.wrap ((K : Int) + 1 - 1) = (K : Int) := by rw [IntKind.wrap_i64]; omega
      have hwK2 : IntKind.i64.wrap (K : Int) = (K : Int) := by rw [IntKind.wrap_i64]; omega
      clear hcb hx
      go_wp2_with fail
      go_region
      go_wp2_with fail
      have hO := heap_setCell_same wr bo x _ _ (.bool true) HO.out
      rw [bools_set] at hO
      refine ⟨⟨k + 1, by omega, by go_num, Lib.hid ?_, Lib.hid (HS.out.setCell (i := x) (.bool true)).drew, Lib.hid ((HB.out.setCell (p := ⟨bo, x, none⟩) HBO.out (.bool true)).drew)⟩, by simp [intOf]; omega⟩
      rw [outSet_take out ps k hlt, HXE.out]
      exact hO
    · have hk9 : k = ps.length := by omega
      subst hk9
      have hO := HO.out
      rw [List.take_length] at hO
      have D := Lib.hid (HD.out wr hO HS.out HB.out)
      clear hO
      go_wp2_with fail
      go_end0
      exact ⟨rfl, D.out⟩
end Go.Proofs.YtgjjjdccbpjnfaaGreatDoor
