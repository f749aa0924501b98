import Derived.Test.YtadcidbeealdpaaGreatDoorS15
import Derived.Test.YtadcidbeealdpaaGreatDoorS01
import Derived.Test.YtadcidbeealdpaaGreatDoorS03
import Derived.Deep.RegionLaw
import Derived.Test.YtadcidbeealdpaaGreatDoorS06

/- The program's settings, copied. -/
namespace Go.Proofs.YtadcidbeealdpaaGreatDoor
open Go.RowKit

theorem cp_lt {w : World} {k : Nat} {o : Obj} (h : w.heap[k]? = some o) : k < w.heap.size := (Array.getElem?_eq_some_iff.1 h).1
theorem cp_below {w w' : World} (hb : Below w.heap.size w w') {k : Nat} {o : Obj} (h : w.heap[k]? = some o) : w'.heap[k]? = some o := (hb.block k (cp_lt h)).trans h
theorem cp_same {p : Nat} {w w' : World} (hb : Same p w w') {k : Nat} {o : Obj} (h : w.heap[k]? = some o) (hne : k ≠ p) : w'.heap[k]? = some o := (hb.2 k hne).trans h
theorem cp_rows {w w' : World} {base sz n : Nat} {e : TypeId} {v : Value} {xs : List Value} (h : w.ownsRow base e sz v n xs) (hk : ∀ g cur, w.heap[g]? = some (.cells cur e (0, 0)) → base ≤ g → w'.heap[g]? = some (.cells cur e (0, 0))) : w'.ownsRow base e sz v n xs := by
  obtain ⟨h1, h2⟩ := h
  refine ⟨h1, ?_⟩
  rcases h2 with h2 | ⟨g, cap, cur, e1, e2, e3, r⟩
  · exact .inl h2
  · exact .inr ⟨g, cap, cur, e1, e2, hk g cur e3 e2, r⟩
theorem cp_mono {w : World} {base b' sz n : Nat} {e : TypeId} {v : Value} {xs : List Value} (h : w.ownsRow base e sz v n xs) (hb : b' ≤ base) : w.ownsRow b' e sz v n xs := by
  obtain ⟨h1, h2⟩ := h
  refine ⟨h1, ?_⟩
  rcases h2 with h2 | ⟨g, cap, cur, e1, e2, r⟩
  · exact .inl h2
  · exact .inr ⟨g, cap, cur, e1, Nat.le_trans hb e2, r⟩
theorem cp_row {w : World} {base n sz : Nat} {e : TypeId} {v : Value} {xs : List Value} (h : w.ownsRow base e sz v n xs) : RowAt w v n sz xs := by
  refine ⟨h.1, ?_⟩
  rcases h.2 with ⟨e1, h0⟩ | ⟨g, cp, cur, e1, _, hg, hle, _, _, htk⟩
  · exact .inl ⟨h0, none, 0, e1⟩
  · refine .inr ⟨g, 0, cp, e1, hle, fun j hj => ?_⟩
    rw [Nat.zero_add, Lib.cell_of_heap hg, ← Array.getElem?_toList, ← List.getElem?_take_of_lt hj, htk]
/-- settings of which little is written down -/
structure CfgSm (c : Cfg) : Prop where
  host : c.host.size ≤ 255
  doms : c.doms.length ≤ 5
  domz : ∀ s ∈ c.doms, s.size ≤ 255
  nets : c.nets.length ≤ 5
  users : c.users.length ≤ 5
  userz : ∀ x ∈ c.users, x.1.size ≤ 255 ∧ x.2.size ≤ 255
  waits : c.waits.length ≤ 5
theorem domB_small {s : ByteArray} (h : domB s.data.toList = true) : s.size ≤ 255 := by
  unfold domB at h
  simp only [Bool.and_eq_true, decide_eq_true_eq, Array.length_toList] at h
  have : s.size = s.data.size := rfl
  omega
theorem textB_small {s : ByteArray} (h : textB s.data.toList = true) : s.size ≤ 255 := by
  unfold textB within at h
  simp only [Bool.and_eq_true, decide_eq_true_eq, Array.length_toList] at h
  have : s.size = s.data.size := rfl
  omega
theorem may_small {c : Cfg} (h : mayB c = true) : CfgSm c := by
  unfold mayB domsB netsB usersB waitsB at h
  simp only [Bool.and_eq_true, decide_eq_true_eq, List.all_eq_true] at h
  obtain ⟨⟨⟨⟨⟨⟨⟨⟨h1, h2, h3⟩, h4, _⟩, h5, h6⟩, _⟩, _⟩, h7, _⟩, _⟩, _⟩ := h
  refine ⟨domB_small h1, h2, fun s hs => domB_small (h3 s hs), h4, h5, fun x hx => ?_, ?_⟩
  · obtain ⟨k, hk, rfl⟩ := List.getElem_of_mem hx
    have := h6 k (List.mem_range.2 hk)
    unfold userOk at this
    simp only [Bool.and_eq_true, List.getD_eq_getElem?_getD, List.getElem?_eq_getElem hk, Option.getD_some] at this
    exact ⟨textB_small this.1.1, textB_small this.1.2⟩
  · unfold within at h7
    simp only [Bool.and_eq_true, decide_eq_true_eq] at h7
    omega

theorem own_in {W : World} {base n sz : Nat} {e : TypeId} {v : Value} {xs : List Value} (h : W.ownsRow base e sz v n xs) {k : Nat} (hk : v.ownBlock = some k) : base ≤ k ∧ k < W.heap.size := by
  rcases h.2 with ⟨e1, _⟩ | ⟨g, cap, cur, e1, e2, e3, _⟩
  · rw [e1] at hk; cases hk
  · rw [e1] at hk
    injection hk with hk
    subst hk
    exact ⟨e2, (Array.getElem?_eq_some_iff.1 e3).1⟩
/-- what is written is what was there -/
theorem still_set {W : World} {g off : Nat} {A : Array Value} {t : TypeId} {v : Value} (h : W.heap[g]? = some (.cells A t (0, 0))) (hv : A[off]? = some v) : Below W.heap.size W (W.setCell ⟨g, off, none⟩ v) := by
  have S1 : Same g W (W.setCell ⟨g, off, none⟩ v) := (Same.refl _ _).setCell _
  have h1 := heap_setCell_same W g off _ _ v h
  have e : A.setIfInBounds off v = A := by
    apply Array.ext_getElem?
    intro i
    rw [Array.getElem?_setIfInBounds]
    split
    · rename_i hi
      subst hi
      rw [hv]
      simp [(Array.getElem?_eq_some_iff.1 hv).1]
    · rfl
  refine ⟨S1.3.1, S1.3.2.1, S1.3.2.2, by rw [S1.1]; exact Nat.le_refl _, fun k _ => ?_⟩
  by_cases hk : k = g
  · subst hk; rw [h, h1, e]
  · exact S1.2 k hk

/-- the settings in their box; the result's box -/
structure CpS (w W : World) (c : Cfg) (D N U V : Value) : Prop where
  box : W.heap[w.heap.size]? = some (.cells #[.string c.host, D, N, U, .int .i64 c.most, .int .i64 c.size, V, .int .i64 c.life, .int .i64 c.room] 27 (0, 0))
  out : W.heap[w.heap.size + 1]? = some (.cells #[.string ⟨#[]⟩, .slice none 0 0, .slice none 0 0, .slice none 0 0, .int .i64 0, .int .i64 0, .slice none 0 0, .int .i64 0, .int .i64 0] 27 (0, 0))
  below : Below w.heap.size w W
theorem CpS.keep {w W W' : World} {c : Cfg} {D N U V : Value} (h : CpS w W c D N U V) (hb : Below W.heap.size W W') : CpS w W' c D N U V :=
  ⟨cp_below hb h.box, cp_below hb h.out, h.below.trans (hb.mono h.below.size)⟩
theorem CpS.set {w W : World} {c : Cfg} {D N U V D' N' U' V' : Value} (h : CpS w W c D N U V) (j : Nat) (v : Value) (e : (#[.string c.host, D, N, U, .int .i64 c.most, .int .i64 c.size, V, .int .i64 c.life, .int .i64 c.room] : Array Value).setIfInBounds j v = #[.string c.host, D', N', U', .int .i64 c.most, .int .i64 c.size, V', .int .i64 c.life, .int .i64 c.room]) : CpS w (W.setCell ⟨w.heap.size, j, none⟩ v) c D' N' U' V' := by
  have S1 : Same w.heap.size W (W.setCell ⟨w.heap.size, j, none⟩ v) := (Same.refl _ _).setCell _
  refine ⟨?_, cp_same S1 h.out (by omega), h.below.trans (S1.below (Nat.le_refl _))⟩
  have h1 := heap_setCell_same W w.heap.size j _ _ v h.box
  rw [e] at h1
  exact h1
theorem CpS.big {w W : World} {c : Cfg} {D N U V : Value} (h : CpS w W c D N U V) : w.heap.size + 2 ≤ W.heap.size := cp_lt h.out
theorem CpS.cell {w W : World} {c : Cfg} {D N U V : Value} (h : CpS w W c D N U V) (j : Nat) : W.cell? ⟨w.heap.size, j, none⟩ = (#[.string c.host, D, N, U, .int .i64 c.most, .int .i64 c.size, V, .int .i64 c.life, .int .i64 c.room] : Array Value)[j]? := by rw [Lib.cell_of_heap h.box]
theorem CpS.frozen {w W : World} {c : Cfg} {D N U V : Value} (h : CpS w W c D N U V) (j : Nat) : W.frozen? ⟨w.heap.size, j, none⟩ = false := Lib.frozen_of_heap h.box j
theorem own_set {w W : World} {n sz j : Nat} {e : TypeId} {v x : Value} {xs : List Value} (h : W.ownsRow (w.heap.size + 2) e sz v n xs) : (W.setCell ⟨w.heap.size, j, none⟩ x).ownsRow (w.heap.size + 2) e sz v n xs :=
  cp_rows h fun _ _ e hg => cp_same ((Same.refl _ _).setCell _) e (by omega)
theorem own_keep {W W' : World} {base n sz : Nat} {e : TypeId} {v : Value} {xs : List Value} (h : W.ownsRow base e sz v n xs) (hb : Below W.heap.size W W') : W'.ownsRow base e sz v n xs := cp_rows h fun _ _ e _ => cp_below hb e

theorem cp_far {w W Wf : World} {n sz : Nat} {e : TypeId} {v : Value} {xs : List Value} (h : W.ownsRow (w.heap.size + 2) e sz v n xs) (hs : Same (w.heap.size + 1) W Wf) : RowAt Wf v n sz xs :=
  cp_row (cp_rows h fun _ _ e hg => cp_same hs e (by omega))
theorem cp_put {W : World} {b j : Nat} {A A' : Array Value} {t : TypeId} {v : Value} (h : W.heap[b]? = some (.cells A t (0, 0))) (e : A.setIfInBounds j v = A') : (W.setCell ⟨b, j, none⟩ v).heap[b]? = some (.cells A' t (0, 0)) := by
  rw [← e]
  exact heap_setCell_same W b j _ _ v h
/-- the whole is laid into the result's box -/
theorem cp_end {w W Wf : World} {c : Cfg} {D N U V : Value} (h : CpS w W c D N U V)
    (hf : (((((((((W.setCell ⟨w.heap.size + 1, 0, none⟩ (.string c.host)).setCell ⟨w.heap.size + 1, 1, none⟩ D).setCell ⟨w.heap.size + 1, 2, none⟩ N).setCell ⟨w.heap.size + 1, 3, none⟩ U).setCell ⟨w.heap.size + 1, 4, none⟩ (.int .i64 c.most)).setCell ⟨w.heap.size + 1, 5, none⟩ (.int .i64 c.size)).setCell ⟨w.heap.size + 1, 6, none⟩ V).setCell ⟨w.heap.size + 1, 7, none⟩ (.int .i64 c.life)).setCell ⟨w.heap.size + 1, 8, none⟩ (.int .i64 c.room)) = Wf) :
    (∀ j : Nat, Wf.cell? ⟨w.heap.size + 1, j, none⟩ = (#[.string c.host, D, N, U, .int .i64 c.most, .int .i64 c.size, V, .int .i64 c.life, .int .i64 c.room] : Array Value)[j]?) ∧ Same (w.heap.size + 1) W Wf := by
  have Sf : Same (w.heap.size + 1) W Wf := by rw [← hf]; exact (((((((((Same.refl _ _).setCell _).setCell _).setCell _).setCell _).setCell _).setCell _).setCell _).setCell _).setCell _
  refine ⟨fun j => ?_, Sf⟩
  have Xf : Wf.heap[w.heap.size + 1]? = some (.cells #[.string c.host, D, N, U, .int .i64 c.most, .int .i64 c.size, V, .int .i64 c.life, .int .i64 c.room] 27 (0, 0)) := by
    rw [← hf]
    have z0 := cp_put (j := 0) (v := .string c.host) h.out (A' := #[.string c.host, .slice none 0 0, .slice none 0 0, .slice none 0 0, .int .i64 0, .int .i64 0, .slice none 0 0, .int .i64 0, .int .i64 0]) rfl
    have z1 := cp_put (j := 1) (v := D) z0 (A' := #[.string c.host, D, .slice none 0 0, .slice none 0 0, .int .i64 0, .int .i64 0, .slice none 0 0, .int .i64 0, .int .i64 0]) rfl
    have z2 := cp_put (j := 2) (v := N) z1 (A' := #[.string c.host, D, N, .slice none 0 0, .int .i64 0, .int .i64 0, .slice none 0 0, .int .i64 0, .int .i64 0]) rfl
    have z3 := cp_put (j := 3) (v := U) z2 (A' := #[.string c.host, D, N, U, .int .i64 0, .int .i64 0, .slice none 0 0, .int .i64 0, .int .i64 0]) rfl
    have z4 := cp_put (j := 4) (v := .int .i64 c.most) z3 (A' := #[.string c.host, D, N, U, .int .i64 c.most, .int .i64 0, .slice none 0 0, .int .i64 0, .int .i64 0]) rfl
    have z5 := cp_put (j := 5) (v := .int .i64 c.size) z4 (A' := #[.string c.host, D, N, U, .int .i64 c.most, .int .i64 c.size, .slice none 0 0, .int .i64 0, .int .i64 0]) rfl
    have z6 := cp_put (j := 6) (v := V) z5 (A' := #[.string c.host, D, N, U, .int .i64 c.most, .int .i64 c.size, V, .int .i64 0, .int .i64 0]) rfl
    have z7 := cp_put (j := 7) (v := .int .i64 c.life) z6 (A' := #[.string c.host, D, N, U, .int .i64 c.most, .int .i64 c.size, V, .int .i64 c.life, .int .i64 0]) rfl
    exact cp_put (j := 8) (v := .int .i64 c.room) z7 (A' := #[.string c.host, D, N, U, .int .i64 c.most, .int .i64 c.size, V, .int .i64 c.life, .int .i64 c.room]) rfl
  rw [Lib.cell_of_heap Xf]

set_option maxHeartbeats 2000000 in
set_option maxRecDepth 100000 in
theorem copy_any (c : Cfg) (vD vN vU vW : Value) (w : World) (h : CfgAt w c vD vN vU vW) (hs : CfgSm c) :
    Calls Tryz.prog 19 #[.agg #[.string c.host, vD, vN, vU, .int .i64 c.most, .int .i64 c.size, vW, .int .i64 c.life, .int .i64 c.room]] w fun e w' => ∃ uD uN uU uW, e = .returned (.agg #[.string c.host, uD, uN, uU, .int .i64 c.most, .int .i64 c.size, uW, .int .i64 c.life, .int .i64 c.room]) ∧ CfgAt w' c uD uN uU uW ∧ Below w.heap.size w w' ∧ ∀ k, (uD.ownBlock = some k ∨ uN.ownBlock = some k ∨ uU.ownBlock = some k ∨ uW.ownBlock = some k) → w.heap.size ≤ k ∧ k < w'.heap.size := by
  obtain ⟨aD, cD, eD⟩ := slice_of h.1
  obtain ⟨aN, cN, eN⟩ := slice_of h.2.1
  obtain ⟨aU, cU, eU⟩ := slice_of h.2.2.1
  obtain ⟨aW, cW, eW⟩ := slice_of h.2.2.2
  subst eD eN eU eW
  obtain ⟨W0, hW0⟩ : ∃ W0 : World, (w.alloc (.cells #[.string c.host, .slice aD c.doms.length cD, .slice aN c.nets.length cN, .slice aU c.users.length cU, .int .i64 c.most, .int .i64 c.size, .slice aW c.waits.length cW, .int .i64 c.life, .int .i64 c.room] 27)).alloc (.cells #[.string ⟨#[]⟩, .slice none 0 0, .slice none 0 0, .slice none 0 0, .int .i64 0, .int .i64 0, .slice none 0 0, .int .i64 0, .int .i64 0] 27) = W0 := ⟨_, rfl⟩
  have C0 : CpS w W0 c (.slice aD c.doms.length cD) (.slice aN c.nets.length cN) (.slice aU c.users.length cU) (.slice aW c.waits.length cW) := by
    rw [← hW0]
    refine ⟨cp_below ((Below.refl _ _).alloc (Nat.le_refl _) _) (heap_alloc_new w _), ?_, ((Below.refl _ _).alloc (Nat.le_refl _) _).alloc (by simp) _⟩
    have := heap_alloc_new (w.alloc (.cells #[.string c.host, .slice aD c.doms.length cD, .slice aN c.nets.length cN, .slice aU c.users.length cU, .int .i64 c.most, .int .i64 c.size, .slice aW c.waits.length cW, .int .i64 c.life, .int .i64 c.room] 27)) (.cells #[.string ⟨#[]⟩, .slice none 0 0, .slice none 0 0, .slice none 0 0, .int .i64 0, .int .i64 0, .slice none 0 0, .int .i64 0, .int .i64 0] 27)
    simpa using this
  have HH := Lib.hid h
  have HS := Lib.hid hs
  have HC0 := Lib.hid C0
  have HW0 := Lib.hid hW0
  have y0 : W0.cell? ⟨w.heap.size, 0, none⟩ = some (.string c.host) := C0.cell 0
  clear h hs C0 hW0
  go_enter Tryz.func19, Tryz.ntmps19
  go_wp2_with fail
  rw [HW0.out]
  go_wp2_with fail
  refine (clone_any c.host W0 (by have := HS.out.host; omega)).mono ?_
  rintro e w1 ⟨rfl, hb1⟩
  have C1 := HC0.out.keep hb1
  have y1 : w1.cell? ⟨w.heap.size, 1, none⟩ = some (.slice aD c.doms.length cD) := C1.cell 1
  have z0 : w1.cell? ⟨w.heap.size, 0, none⟩ = some (.string c.host) := C1.cell 0
  have f0 := C1.frozen 0
  have HC2 := Lib.hid (C1.set (D' := .slice aD c.doms.length cD) (N' := .slice aN c.nets.length cN) (U' := .slice aU c.users.length cU) (V' := .slice aW c.waits.length cW) 0 (.string c.host) rfl)
  clear hb1 C1 y0 HC0
  go_wp2_with fail
  obtain ⟨W2, hW2⟩ : ∃ W2 : World, w1.setCell ⟨w.heap.size, 0, none⟩ (.string c.host) = W2 := ⟨_, rfl⟩
  rw [hW2] at HC2 ⊢
  clear hW2 y1 z0 f0
  refine (cloneD_any c.doms _ W2 (HH.out.1.below HC2.out.below) HS.out.doms).mono ?_
  rintro e w3 ⟨bD, eD, rfl, ho3, hb3⟩
  have C3 := HC2.out.keep hb3
  have y1 : w3.cell? ⟨w.heap.size, 1, none⟩ = some (.slice aD c.doms.length cD) := C3.cell 1
  have f1 := C3.frozen 1
  have HC4 := Lib.hid (C3.set (D' := .slice bD c.doms.length eD) (N' := .slice aN c.nets.length cN) (U' := .slice aU c.users.length cU) (V' := .slice aW c.waits.length cW) 1 (.slice bD c.doms.length eD) rfl)
  have HO4 := Lib.hid (own_set (w := w) (j := 1) (x := .slice bD c.doms.length eD) (cp_mono ho3 HC2.out.big))
  clear hb3 C3 ho3 HC2
  go_wp2_with fail
  obtain ⟨W4, hW4⟩ : ∃ W4 : World, w3.setCell ⟨w.heap.size, 1, none⟩ (.slice bD c.doms.length eD) = W4 := ⟨_, rfl⟩
  rw [hW4] at HC4 HO4 ⊢
  clear hW4 y1 f1
  go_loopw [3, 4, 18] (fun _ _ i w' => ∃ k : Nat, k ≤ c.doms.length ∧ i = .int .i64 k ∧ Hid (CpS w w' c (.slice bD c.doms.length eD) (.slice aN c.nets.length cN) (.slice aU c.users.length cU) (.slice aW c.waits.length cW)) ∧ Hid (w'.ownsRow (w.heap.size + 2) 9 1 (.slice bD c.doms.length eD) c.doms.length (strCellsOf c.doms))) (fun _ _ i _ => c.doms.length - (intOf i).toNat)
  case atStart => exact ⟨0, Nat.zero_le _, rfl, HC4, HO4⟩
  case round =>
    clear HC4 HO4
    obtain ⟨k, hk, rfl, HC, HO⟩ := hrel
    have hd5 : c.doms.length ≤ 5 := HS.out.doms
    by_cases hlt : k < c.doms.length
    · have hlti : (k : Int) < (c.doms.length : Int) := by omega
      obtain ⟨g, rfl, cur, hg, hcur⟩ : ∃ g, bD = some ⟨g, 0, none⟩ ∧ ∃ cur : Array Value, wr.heap[g]? = some (.cells cur 9 (0, 0)) ∧ cur[k]? = some (.string c.doms[k]) := by
        rcases HO.out.2 with ⟨_, h0⟩ | ⟨g, cp, cur, e, _, hg, _, _, _, htk⟩
        · omega
        · injection e with e1 _ _
          refine ⟨g, e1, cur, hg, ?_⟩
          rw [← Array.getElem?_toList, ← List.getElem?_take_of_lt (show k < c.doms.length * 1 by omega), htk]
          simp [strCellsOf, hlt]
      have htz := HS.out.domz c.doms[k] (List.getElem_mem hlt)
      obtain ⟨t, et⟩ : ∃ t, c.doms[k] = t := ⟨_, rfl⟩
      rw [et] at hcur htz
      clear et
      have d0 : wr.cell? ⟨g, k, none⟩ = some (.string t) := by rw [Lib.cell_of_heap hg]; exact hcur
      have y1 : wr.cell? ⟨w.heap.size, 1, none⟩ = some (.slice (some ⟨g, 0, none⟩) c.doms.length eD) := HC.out.cell 1
      have HCL := Lib.hid (clone_any t wr.drew (by omega))
      have HCC := Lib.hid hcur
      have HG : Hid (wr.drew.heap[g]? = some (.cells cur 9 (0, 0))) := Lib.hid hg
      have HCD : Hid (CpS w wr.drew c (.slice (some ⟨g, 0, none⟩) c.doms.length eD) (.slice aN c.nets.length cN) (.slice aU c.users.length cU) (.slice aW c.waits.length cW)) := Lib.hid (HC.out.keep ((Below.refl _ _).drew))
      have HOD : Hid (wr.drew.ownsRow (w.heap.size + 2) 9 1 (.slice (some ⟨g, 0, none⟩) c.doms.length eD) c.doms.length (strCellsOf c.doms)) := Lib.hid (own_keep HO.out ((Below.refl _ _).drew))
      have y1' : wr.drew.cell? ⟨w.heap.size, 1, none⟩ = some (.slice (some ⟨g, 0, none⟩) c.doms.length eD) := HCD.out.cell 1
      clear hcur hg HC HO htz
      go_wp2_with fail
      go_region_law (first
        | (go_simp; go_at_call 30; refine HCL.out.mono ?_; rintro e w9 ⟨rfl, hb9⟩; have C9 := HCD.out.keep hb9; have O9 := own_keep HOD.out hb9; have g9 := cp_below hb9 HG.out; have d9 : w9.cell? ⟨g, k, none⟩ = some (.string t) := (by rw [Lib.cell_of_heap g9]; exact HCC.out); have f9 := Lib.frozen_of_heap g9 k; have y19 : w9.cell? ⟨w.heap.size, 1, none⟩ = some (.slice (some ⟨g, 0, none⟩) c.doms.length eD) := C9.cell 1; have HC9 := Lib.hid C9; have HO9 := Lib.hid O9; have HG9 := Lib.hid g9; clear C9 O9 g9 hb9; dsimp only))
      all_goals
        go_wp2_with fail
        have hst := still_set HG9.out HCC.out
        exact ⟨⟨k + 1, by omega, by go_num, Lib.hid (HC9.out.keep hst), Lib.hid (own_keep HO9.out hst)⟩, by simp [intOf]; omega⟩
    · have hk9 : k = c.doms.length := by omega
      subst hk9
      have y2 : wr.cell? ⟨w.heap.size, 2, none⟩ = some (.slice aN c.nets.length cN) := HC.out.cell 2
      go_wp2_with fail
      refine (cloneN_any c.nets _ wr (HH.out.2.1.below HC.out.below) HS.out.nets).mono ?_
      rintro e w5 ⟨bN, eN, rfl, ho5, hb5⟩
      have C5 := HC.out.keep hb5
      have y2 : w5.cell? ⟨w.heap.size, 2, none⟩ = some (.slice aN c.nets.length cN) := C5.cell 2
      have y3 : w5.cell? ⟨w.heap.size, 3, none⟩ = some (.slice aU c.users.length cU) := C5.cell 3
      have f2 := C5.frozen 2
      have HC6 := Lib.hid (C5.set (D' := .slice bD c.doms.length eD) (N' := .slice bN c.nets.length eN) (U' := .slice aU c.users.length cU) (V' := .slice aW c.waits.length cW) 2 (.slice bN c.nets.length eN) rfl)
      have HO6 := Lib.hid (own_set (w := w) (j := 2) (x := .slice bN c.nets.length eN) (own_keep HO.out hb5))
      have HP6 := Lib.hid (own_set (w := w) (j := 2) (x := .slice bN c.nets.length eN) (cp_mono ho5 HC.out.big))
      clear hb5 C5 ho5 HC HO
      go_wp2_with fail
      obtain ⟨W6, hW6⟩ : ∃ W6 : World, w5.setCell ⟨w.heap.size, 2, none⟩ (.slice bN c.nets.length eN) = W6 := ⟨_, rfl⟩
      rw [hW6] at HC6 HO6 HP6 ⊢
      clear hW6 y2 y3 f2
      refine (cloneU_any c.users _ W6 (HH.out.2.2.1.below HC6.out.below) HS.out.users).mono ?_
      rintro e w7 ⟨bU, eU, rfl, ho7, hb7⟩
      have C7 := HC6.out.keep hb7
      have y3 : w7.cell? ⟨w.heap.size, 3, none⟩ = some (.slice aU c.users.length cU) := C7.cell 3
      have f3 := C7.frozen 3
      have HC8 := Lib.hid (C7.set (D' := .slice bD c.doms.length eD) (N' := .slice bN c.nets.length eN) (U' := .slice bU c.users.length eU) (V' := .slice aW c.waits.length cW) 3 (.slice bU c.users.length eU) rfl)
      have HO8 := Lib.hid (own_set (w := w) (j := 3) (x := .slice bU c.users.length eU) (own_keep HO6.out hb7))
      have HP8 := Lib.hid (own_set (w := w) (j := 3) (x := .slice bU c.users.length eU) (own_keep HP6.out hb7))
      have HQ8 := Lib.hid (own_set (w := w) (j := 3) (x := .slice bU c.users.length eU) (cp_mono ho7 HC6.out.big))
      clear hb7 C7 ho7 HC6 HO6 HP6
      go_wp2_with fail
      obtain ⟨W8, hW8⟩ : ∃ W8 : World, w7.setCell ⟨w.heap.size, 3, none⟩ (.slice bU c.users.length eU) = W8 := ⟨_, rfl⟩
      rw [hW8] at HC8 HO8 HP8 HQ8 ⊢
      clear hW8 y3 f3
      go_loopw [5, 6, 41] (fun _ _ i w' => ∃ k : Nat, k ≤ c.users.length ∧ i = .int .i64 k ∧ Hid (CpS w w' c (.slice bD c.doms.length eD) (.slice bN c.nets.length eN) (.slice bU c.users.length eU) (.slice aW c.waits.length cW)) ∧ Hid (w'.ownsRow (w.heap.size + 2) 9 1 (.slice bD c.doms.length eD) c.doms.length (strCellsOf c.doms)) ∧ Hid (w'.ownsRow (w.heap.size + 2) 46 2 (.slice bN c.nets.length eN) c.nets.length (netCells c.nets)) ∧ Hid (w'.ownsRow (w.heap.size + 2) 48 2 (.slice bU c.users.length eU) c.users.length (userCells c.users))) (fun _ _ i _ => c.users.length - (intOf i).toNat)
      case atStart => exact ⟨0, Nat.zero_le _, rfl, HC8, HO8, HP8, HQ8⟩
      case round =>
        clear HC8 HO8 HP8 HQ8
        obtain ⟨k, hk, rfl, HC, HO, HP, HQ⟩ := hrel
        have hu5 : c.users.length ≤ 5 := HS.out.users
        by_cases hlt : k < c.users.length
        · have hlti : (k : Int) < (c.users.length : Int) := by omega
          obtain ⟨g, rfl, cur, hg, hcur0, hcur1⟩ : ∃ g, bU = some ⟨g, 0, none⟩ ∧ ∃ cur : Array Value, wr.heap[g]? = some (.cells cur 48 (0, 0)) ∧ cur[k * 2]? = some (.string c.users[k].1) ∧ cur[k * 2 + 1]? = some (.string c.users[k].2) := by
            rcases HQ.out.2 with ⟨_, h0⟩ | ⟨g, cp, cur, e, _, hg, _, _, _, htk⟩
            · omega
            · injection e with e1 _ _
              refine ⟨g, e1, cur, hg, ?_, ?_⟩
              · rw [← Array.getElem?_toList, ← List.getElem?_take_of_lt (show k * 2 < c.users.length * 2 by omega), htk]; exact user_at _ k hlt
              · rw [← Array.getElem?_toList, ← List.getElem?_take_of_lt (show k * 2 + 1 < c.users.length * 2 by omega), htk]; exact user_at1 _ k hlt
          have htz := HS.out.userz c.users[k] (List.getElem_mem hlt)
          obtain ⟨t, et⟩ : ∃ t, c.users[k] = t := ⟨_, rfl⟩
          rw [et] at hcur0 hcur1 htz
          obtain ⟨t0, t1⟩ := t
          simp only at hcur0 hcur1 htz
          clear et
          have d0 : wr.cell? ⟨g, k * 2, none⟩ = some (.string t0) := by rw [Lib.cell_of_heap hg]; exact hcur0
          have d1 : wr.cell? ⟨g, k * 2 + 1, none⟩ = some (.string t1) := by rw [Lib.cell_of_heap hg]; exact hcur1
          obtain ⟨W1, hW1⟩ : ∃ W1 : World, wr.alloc (.cells #[.string t0, .string t1] 48) = W1 := ⟨_, rfl⟩
          have B1 : Below wr.heap.size wr W1 := by rw [← hW1]; exact (Below.refl _ _).alloc (Nat.le_refl _) _
          have X1 : W1.heap[wr.heap.size]? = some (.cells #[.string t0, .string t1] 48 (0, 0)) := by rw [← hW1]; exact heap_alloc_new wr _
          have D1 : Below wr.heap.size wr W1.drew := B1.drew
          have HCD := Lib.hid (HC.out.keep D1)
          have HOD := Lib.hid (own_keep HO.out D1)
          have HPD := Lib.hid (own_keep HP.out D1)
          have HQD := Lib.hid (own_keep HQ.out D1)
          have HG : Hid (W1.drew.heap[g]? = some (.cells cur 48 (0, 0))) := Lib.hid (cp_below D1 hg)
          have HX : Hid (W1.drew.heap[wr.heap.size]? = some (.cells #[.string t0, .string t1] 48 (0, 0))) := Lib.hid X1
          have y3 : W1.cell? ⟨w.heap.size, 3, none⟩ = some (.slice (some ⟨g, 0, none⟩) c.users.length eU) := (HC.out.keep B1).cell 3
          have y3' : W1.drew.cell? ⟨w.heap.size, 3, none⟩ = some (.slice (some ⟨g, 0, none⟩) c.users.length eU) := HCD.out.cell 3
          have x0 : W1.cell? ⟨wr.heap.size, 0, none⟩ = some (.string t0) := by rw [Lib.cell_of_heap X1]; rfl
          have x1 : W1.cell? ⟨wr.heap.size, 1, none⟩ = some (.string t1) := by rw [Lib.cell_of_heap X1]; rfl
          have x0' : W1.drew.cell? ⟨wr.heap.size, 0, none⟩ = some (.string t0) := x0
          have x1' : W1.drew.cell? ⟨wr.heap.size, 1, none⟩ = some (.string t1) := x1
          have HCA := Lib.hid (clone_any t0 W1.drew (by omega))
          have HCB : Hid (∀ W : World, Calls Tryz.prog 30 #[.string t1] W fun e w' => e = .returned (.string t1) ∧ Below W.heap.size W w') := Lib.hid (fun W => clone_any t1 W (by omega))
          have HU0 := Lib.hid hcur0
          have HU1 := Lib.hid hcur1
          have HW1 := Lib.hid hW1
          clear hcur0 hcur1 hg HC HO HP HQ htz hW1 B1 X1 D1
          go_wp2_with fail
          rw [HW1.out]
          go_region_law (first
            | (go_simp; go_at_call 30; refine HCA.out.mono ?_; rintro e w9 ⟨rfl, hb9⟩; have C9 := HCD.out.keep hb9; have X9 := cp_below hb9 HX.out; have y39 : w9.cell? ⟨w.heap.size, 3, none⟩ = some (.slice (some ⟨g, 0, none⟩) c.users.length eU) := C9.cell 3; have x19 : w9.cell? ⟨wr.heap.size, 1, none⟩ = some (.string t1) := (by rw [Lib.cell_of_heap X9]; rfl); have HC9 := Lib.hid C9; have HB9 := Lib.hid hb9; clear C9 X9 hb9; dsimp only)
            | (go_simp; go_at_call 30; refine (HCB.out w9).mono ?_; rintro e wa ⟨rfl, hba⟩; have HBa := Lib.hid (HB9.out.trans (hba.mono HB9.out.size)); have Ca := HCD.out.keep HBa.out; have ga := cp_below HBa.out HG.out; have da : wa.cell? ⟨g, k * 2, none⟩ = some (.string t0) := (by rw [Lib.cell_of_heap ga]; exact HU0.out); have da1 : wa.cell? ⟨g, k * 2 + 1, none⟩ = some (.string t1) := (by rw [Lib.cell_of_heap ga]; exact HU1.out); have fa := Lib.frozen_of_heap ga (k * 2); have fa1 := Lib.frozen_of_heap ga (k * 2 + 1); have y3a : wa.cell? ⟨w.heap.size, 3, none⟩ = some (.slice (some ⟨g, 0, none⟩) c.users.length eU) := Ca.cell 3; have HCa := Lib.hid Ca; have HGa := Lib.hid ga; clear Ca ga hba; dsimp only))
          all_goals
            go_wp2_with fail
            have s1 := still_set HGa.out HU0.out
            have s2 := s1.trans ((still_set (cp_below s1 HGa.out) HU1.out).mono s1.size)
            exact ⟨⟨k + 1, by omega, by go_num, Lib.hid (HCa.out.keep s2), Lib.hid (own_keep (own_keep HOD.out HBa.out) s2), Lib.hid (own_keep (own_keep HPD.out HBa.out) s2), Lib.hid (own_keep (own_keep HQD.out HBa.out) s2)⟩, by simp [intOf]; omega⟩
        · have hk9 : k = c.users.length := by omega
          subst hk9
          have y6 : wr.cell? ⟨w.heap.size, 6, none⟩ = some (.slice aW c.waits.length cW) := HC.out.cell 6
          go_wp2_with fail
          refine (cloneW_any c.waits _ wr (HH.out.2.2.2.below HC.out.below) HS.out.waits).mono ?_
          rintro e w9 ⟨bW, eW, rfl, ho9, hb9⟩
          have C9 := HC.out.keep hb9
          have y6 : w9.cell? ⟨w.heap.size, 6, none⟩ = some (.slice aW c.waits.length cW) := C9.cell 6
          have f6 := C9.frozen 6
          have HCa := Lib.hid (C9.set (D' := .slice bD c.doms.length eD) (N' := .slice bN c.nets.length eN) (U' := .slice bU c.users.length eU) (V' := .slice bW c.waits.length eW) 6 (.slice bW c.waits.length eW) rfl)
          have HOa := Lib.hid (own_set (w := w) (j := 6) (x := .slice bW c.waits.length eW) (own_keep HO.out hb9))
          have HPa := Lib.hid (own_set (w := w) (j := 6) (x := .slice bW c.waits.length eW) (own_keep HP.out hb9))
          have HQa := Lib.hid (own_set (w := w) (j := 6) (x := .slice bW c.waits.length eW) (own_keep HQ.out hb9))
          have HRa := Lib.hid (own_set (w := w) (j := 6) (x := .slice bW c.waits.length eW) (cp_mono ho9 HC.out.big))
          have cs := fun j => C9.cell j
          have k0 : w9.cell? ⟨w.heap.size, 0, none⟩ = some (.string c.host) := cs 0
          have k1 : w9.cell? ⟨w.heap.size, 1, none⟩ = some (.slice bD c.doms.length eD) := cs 1
          have k2 : w9.cell? ⟨w.heap.size, 2, none⟩ = some (.slice bN c.nets.length eN) := cs 2
          have k3 : w9.cell? ⟨w.heap.size, 3, none⟩ = some (.slice bU c.users.length eU) := cs 3
          have k4 : w9.cell? ⟨w.heap.size, 4, none⟩ = some (.int .i64 c.most) := cs 4
          have k5 : w9.cell? ⟨w.heap.size, 5, none⟩ = some (.int .i64 c.size) := cs 5
          have k7 : w9.cell? ⟨w.heap.size, 7, none⟩ = some (.int .i64 c.life) := cs 7
          have k8 : w9.cell? ⟨w.heap.size, 8, none⟩ = some (.int .i64 c.room) := cs 8
          have m0 : w9.cell? ⟨w.heap.size + 1, 0, none⟩ = some (.string ⟨#[]⟩) := by rw [Lib.cell_of_heap C9.out]; rfl
          have m1 : w9.cell? ⟨w.heap.size + 1, 1, none⟩ = some (.slice none 0 0) := by rw [Lib.cell_of_heap C9.out]; rfl
          have m2 : w9.cell? ⟨w.heap.size + 1, 2, none⟩ = some (.slice none 0 0) := by rw [Lib.cell_of_heap C9.out]; rfl
          have m3 : w9.cell? ⟨w.heap.size + 1, 3, none⟩ = some (.slice none 0 0) := by rw [Lib.cell_of_heap C9.out]; rfl
          have m4 : w9.cell? ⟨w.heap.size + 1, 4, none⟩ = some (.int .i64 0) := by rw [Lib.cell_of_heap C9.out]; rfl
          have m5 : w9.cell? ⟨w.heap.size + 1, 5, none⟩ = some (.int .i64 0) := by rw [Lib.cell_of_heap C9.out]; rfl
          have m6 : w9.cell? ⟨w.heap.size + 1, 6, none⟩ = some (.slice none 0 0) := by rw [Lib.cell_of_heap C9.out]; rfl
          have m7 : w9.cell? ⟨w.heap.size + 1, 7, none⟩ = some (.int .i64 0) := by rw [Lib.cell_of_heap C9.out]; rfl
          have m8 : w9.cell? ⟨w.heap.size + 1, 8, none⟩ = some (.int .i64 0) := by rw [Lib.cell_of_heap C9.out]; rfl
          have ff : ∀ j : Nat, w9.frozen? ⟨w.heap.size + 1, j, none⟩ = false := fun j => Lib.frozen_of_heap C9.out j
          clear cs hb9 C9 ho9 HC HO HP HQ
          go_wp2_with fail
          obtain ⟨Wa, hWa⟩ : ∃ Wa : World, w9.setCell ⟨w.heap.size, 6, none⟩ (.slice bW c.waits.length eW) = Wa := ⟨_, rfl⟩
          rw [hWa] at HCa HOa HPa HQa HRa ⊢
          obtain ⟨Wf, hWf⟩ : ∃ Wf : World, (((((((((Wa.setCell ⟨w.heap.size + 1, 0, none⟩ (.string c.host)).setCell ⟨w.heap.size + 1, 1, none⟩ (.slice bD c.doms.length eD)).setCell ⟨w.heap.size + 1, 2, none⟩ (.slice bN c.nets.length eN)).setCell ⟨w.heap.size + 1, 3, none⟩ (.slice bU c.users.length eU)).setCell ⟨w.heap.size + 1, 4, none⟩ (.int .i64 c.most)).setCell ⟨w.heap.size + 1, 5, none⟩ (.int .i64 c.size)).setCell ⟨w.heap.size + 1, 6, none⟩ (.slice bW c.waits.length eW)).setCell ⟨w.heap.size + 1, 7, none⟩ (.int .i64 c.life)).setCell ⟨w.heap.size + 1, 8, none⟩ (.int .i64 c.room)) = Wf := ⟨_, rfl⟩
          rw [hWf]
          obtain ⟨Xf, Sf⟩ := cp_end HCa.out hWf
          have HSf := Lib.hid Sf
          have e0 : Wf.cell? ⟨w.heap.size + 1, 0, none⟩ = some (.string c.host) := Xf 0
          have e1 : Wf.cell? ⟨w.heap.size + 1, 1, none⟩ = some (.slice bD c.doms.length eD) := Xf 1
          have e2 : Wf.cell? ⟨w.heap.size + 1, 2, none⟩ = some (.slice bN c.nets.length eN) := Xf 2
          have e3 : Wf.cell? ⟨w.heap.size + 1, 3, none⟩ = some (.slice bU c.users.length eU) := Xf 3
          have e4 : Wf.cell? ⟨w.heap.size + 1, 4, none⟩ = some (.int .i64 c.most) := Xf 4
          have e5 : Wf.cell? ⟨w.heap.size + 1, 5, none⟩ = some (.int .i64 c.size) := Xf 5
          have e6 : Wf.cell? ⟨w.heap.size + 1, 6, none⟩ = some (.slice bW c.waits.length eW) := Xf 6
          have e7 : Wf.cell? ⟨w.heap.size + 1, 7, none⟩ = some (.int .i64 c.life) := Xf 7
          have e8 : Wf.cell? ⟨w.heap.size + 1, 8, none⟩ = some (.int .i64 c.room) := Xf 8
          clear hWf hWa Xf Sf
          refine bodyPost_ret (v := .agg #[.string c.host, .slice bD c.doms.length eD, .slice bN c.nets.length eN, .slice bU c.users.length eU, .int .i64 c.most, .int .i64 c.size, .slice bW c.waits.length eW, .int .i64 c.life, .int .i64 c.room]) (by simp [results, Tryz.results19, go_sem, e0, e1, e2, e3, e4, e5, e6, e7, e8]) rfl ?_
          exact ⟨_, _, _, _, rfl, ⟨cp_far HOa.out HSf.out, cp_far HPa.out HSf.out, cp_far HQa.out HSf.out, cp_far HRa.out HSf.out⟩, HCa.out.below.trans (HSf.out.below (by omega)), fun k e => by
            have hsz : Wf.heap.size = Wa.heap.size := HSf.out.1
            rw [hsz]
            rcases e with e | e | e | e
            · have := own_in HOa.out e; omega
            · have := own_in HPa.out e; omega
            · have := own_in HQa.out e; omega
            · have := own_in HRa.out e; omega⟩
end Go.Proofs.YtadcidbeealdpaaGreatDoor

/- A post is opened. -/
namespace Go.Proofs.YtadcidbeealdpaaGreatDoor
open Go.RowKit

theorem BagIn.mono {base b' pb mb : Nat} {q : Nat → Nat} {vr : Value} {S : PStore} {w : World} (h : BagIn base w pb mb q vr S) (hb : b' ≤ base) : BagIn b' w pb mb q vr S :=
  ⟨h.bag, h.map, Nat.le_trans hb h.pbb, Nat.le_trans hb h.mbb, h.one, fun i hi => by
    obtain ⟨a, v, x, b, c⟩ := h.mail i hi
    exact ⟨Nat.le_trans hb a, v, x, b, c.mono hb⟩⟩
def OpenPost (c : Cfg) (l : List UInt8) (w : World) (e : Ending) (w' : World) : Prop :=
  ((mayB c = false ∧ e = .returned (.tuple #[.pointer none, .int .i64 2])) ∨ ∃ pp, mayB c = true ∧ e = .returned (.tuple #[.pointer (some ⟨pp, 0, none⟩), .int .i64 0]) ∧ PostIn w.heap.size w' pp l) ∧ Below w.heap.size w w'
set_option maxHeartbeats 1000000 in
set_option maxRecDepth 100000 in
theorem open_any (c : Cfg) (vD vN vU vW : Value) (l : List UInt8) (m : Int) (w : World) (h : CfgAt w c vD vN vU vW) (hz : CfgSz c) (hl : l.length ≤ 1048576) (hm : w.cell? ⟨0, 0, none⟩ = some (.int .i64 m)) :
    Calls Tryz.prog 11 #[.agg #[.string c.host, vD, vN, vU, .int .i64 c.most, .int .i64 c.size, vW, .int .i64 c.life, .int .i64 c.room], .string (bs l)] w (OpenPost c l w) := by
  obtain ⟨W0, hW0⟩ : ∃ W0 : World, w.alloc (.cells #[.string c.host, vD, vN, vU, .int .i64 c.most, .int .i64 c.size, vW, .int .i64 c.life, .int .i64 c.room] 27) = W0 := ⟨_, rfl⟩
  have B0 : Below w.heap.size w W0 := by rw [← hW0]; exact (Below.refl _ _).alloc (Nat.le_refl _) _
  have hgl := block_lt hm
  have m0 : W0.cell? ⟨0, 0, none⟩ = some (.int .i64 m) := (B0.cell (by exact hgl)).trans hm
  have HCK := Lib.hid (check_any c vD vN vU vW m W0 (h.below B0) hz m0)
  have HB0 := Lib.hid B0
  have HM := Lib.hid m0
  have HW0 := Lib.hid hW0
  have HX0 : Hid (W0.heap[w.heap.size]? = some (.cells #[.string c.host, vD, vN, vU, .int .i64 c.most, .int .i64 c.size, vW, .int .i64 c.life, .int .i64 c.room] 27 (0, 0))) := Lib.hid (by rw [← hW0]; exact heap_alloc_new w _)
  have HCF := Lib.hid (h.below B0)
  clear B0 m0 hW0 h hm
  go_enter Tryz.func11, Tryz.ntmps11
  go_wp2_with fail
  rw [HW0.out]
  refine HCK.out.mono ?_
  intro e w2 hE
  obtain ⟨he, hb2⟩ := hE
  subst he
  have B2 := Lib.hid (HB0.out.trans (hb2.mono HB0.out.size))
  cases hmay : mayB c with
  | false =>
    simp only [errB]
    have HMY := Lib.hid hmay
    clear hmay hb2
    go_wp2_with fail
    go_ret2
    exact ⟨.inl ⟨HMY.out, rfl⟩, B2.out⟩
  | true =>
    simp only [errB]
    have HMY := Lib.hid hmay
    have m2 : w2.cell? ⟨0, 0, none⟩ = some (.int .i64 m) := (hb2.cell (by exact block_lt HM.out)).trans HM.out
    have HM2 := Lib.hid m2
    have X2 := below_some hb2 HX0.out
    have y0 : w2.cell? ⟨w.heap.size, 0, none⟩ = some (.string c.host) := by rw [Lib.cell_of_heap X2]; rfl
    have y1 : w2.cell? ⟨w.heap.size, 1, none⟩ = some vD := by rw [Lib.cell_of_heap X2]; rfl
    have y2 : w2.cell? ⟨w.heap.size, 2, none⟩ = some vN := by rw [Lib.cell_of_heap X2]; rfl
    have y3 : w2.cell? ⟨w.heap.size, 3, none⟩ = some vU := by rw [Lib.cell_of_heap X2]; rfl
    have y4 : w2.cell? ⟨w.heap.size, 4, none⟩ = some (.int .i64 c.most) := by rw [Lib.cell_of_heap X2]; rfl
    have y5 : w2.cell? ⟨w.heap.size, 5, none⟩ = some (.int .i64 c.size) := by rw [Lib.cell_of_heap X2]; rfl
    have y6 : w2.cell? ⟨w.heap.size, 6, none⟩ = some vW := by rw [Lib.cell_of_heap X2]; rfl
    have y7 : w2.cell? ⟨w.heap.size, 7, none⟩ = some (.int .i64 c.life) := by rw [Lib.cell_of_heap X2]; rfl
    have y8 : w2.cell? ⟨w.heap.size, 8, none⟩ = some (.int .i64 c.room) := by rw [Lib.cell_of_heap X2]; rfl
    have HCP := Lib.hid (copy_any c vD vN vU vW w2 (HCF.out.below hb2) (may_small hmay))
    have hs2 : w.heap.size ≤ w2.heap.size := B2.out.size
    clear hmay hb2 m2 X2
    go_wp2_with fail
    refine HCP.out.mono ?_
    rintro e w3 ⟨uD, uN, uU, uW, rfl, hc3, hb3, _⟩
    obtain ⟨aD, cD, eD⟩ := slice_of hc3.1
    obtain ⟨aN, cN, eN⟩ := slice_of hc3.2.1
    obtain ⟨aU, cU, eU⟩ := slice_of hc3.2.2.1
    obtain ⟨aW, cW, eW⟩ := slice_of hc3.2.2.2
    subst eD eN eU eW
    have HRD := Lib.hid (bagRead_any l m w3 hl ((hb3.cell (by exact block_lt HM2.out)).trans HM2.out))
    have B3 := Lib.hid (B2.out.trans (hb3.mono hs2))
    have hs3 : w.heap.size ≤ w3.heap.size := B3.out.size
    clear hb3 hc3 HCP y0 y1 y2 y3 y4 y5 y6 y7 y8
    go_wp2_with fail
    refine HRD.out.mono ?_
    rintro e w4 ⟨pb, mb, q, vr, rfl, hA, hO, hR, hG, hb4⟩
    have HA := Lib.hid hA
    have HO := Lib.hid hO
    have HR := Lib.hid hR
    have HG := Lib.hid hG
    have HB4 := Lib.hid hb4
    clear hA hO hR hb4 hG
    go_wp2_with fail
    go_ret2
    have hn4 : Below w4.heap.size w4 (w4.alloc (.cells #[.string c.host, .slice aD c.doms.length cD, .slice aN c.nets.length cN, .slice aU c.users.length cU, .int .i64 c.most, .int .i64 c.size, .slice aW c.waits.length cW, .int .i64 c.life, .int .i64 c.room, .pointer (some ⟨pb, 0, none⟩), .slice none 0 0, .pointer none] 61)) := (Below.refl _ _).alloc (Nat.le_refl _) _
    have hs4 : w3.heap.size ≤ w4.heap.size := HB4.out.size
    exact ⟨.inr ⟨w4.heap.size, HMY.out, rfl, pb, mb, q, vr, ⟨_, heap_alloc_new w4 _, rfl⟩, (HA.out.keep hn4).mono hs3, HO.out, HR.out.keep hn4, by omega, fun g e => Nat.le_trans hs3 (HG.out g e)⟩, (B3.out.trans (HB4.out.mono hs3)).trans (hn4.mono (by omega))⟩
end Go.Proofs.YtadcidbeealdpaaGreatDoor
