import Derived.Test.YtgjjjdccbpjnfaaGreatDoorS26
import Derived.Test.YtgjjjdccbpjnfaaGreatDoorS22
import Derived.Test.YtgjjjdccbpjnfaaGreatDoorS14
import Derived.Test.YtgjjjdccbpjnfaaGreatDoorS16
import Derived.Deep.QuietTactic
import Derived.BigQuiet

/- The books: a list of texts is its owner's. -/
namespace Go.Proofs.YtgjjjdccbpjnfaaGreatDoor
open Go.RowKit

def OwnNew (w : World) (v v' : Value) : Prop := v'.ownBlock = v.ownBlock ∨ ∃ k, v'.ownBlock = some k ∧ w.heap.size ≤ k
theorem OwnNew.refl (w : World) (v : Value) : OwnNew w v v := .inl rfl
theorem OwnNew.trans {w w1 : World} {a b c : Value} (h : OwnNew w a b) (h' : OwnNew w1 b c) (hs : w.heap.size ≤ w1.heap.size) : OwnNew w a c := by
  rcases h' with h' | ⟨k, h', hk⟩
  · rcases h with h | ⟨k, h, hk⟩
    · exact .inl (h'.trans h)
    · exact .inr ⟨k, h'.trans h, hk⟩
  · exact .inr ⟨k, h', Nat.le_trans hs hk⟩
theorem app_new {w w2 : World} {o : Obj} {v v' : Value} {g : Nat} (hv : v'.ownBlock = some g) (hgr : (v.ownBlock = some g ∧ (w.alloc o).grownBy w2 (some g)) ∨ (g = (w.alloc o).heap.size ∧ (w.alloc o).grownBy w2 none)) : OwnNew w v v' := by
  rcases app_where hgr with h | h
  · exact .inl (hv.trans h.symm)
  · exact .inr ⟨g, hv, Nat.le_of_lt h⟩
theorem info_strs : (Tryz.prog.info? 24).map (fun i => (i.zero, i.size, i.bytes)) = some (some (.slice none 0 0), 1, 24) := by kernel_rfl
theorem one_set {D : Array Value} {k n : Nat} {x : Value} (hD : D.size = n) (hk : k < n) (h : ∀ j, j < k → D[j]? = some x) : ∀ j, j < k + 1 → (D.setIfInBounds k x)[j]? = some x := fun j hj => by
  rw [Array.getElem?_setIfInBounds]
  by_cases e : k = j
  · subst e; rw [if_pos rfl, if_pos (by omega)]
  · rw [if_neg e]; exact h j (by omega)
theorem full_row {w : World} {g n : Nat} {D : Array Value} {x : Value} (hD : D.size = n) (hn : n ≤ maxLen) (h : ∀ j, j < n → D[j]? = some x) (hg : w.heap[g]? = some (.cells D 9 (0, 0))) : w.ownsRow 0 9 1 (.slice (some ⟨g, 0, none⟩) n n) n (List.replicate n x) := by
  refine ⟨by simp, .inr ⟨g, n, D, rfl, Nat.zero_le _, hg, Nat.le_refl _, hn, by omega, ?_⟩⟩
  apply List.ext_getElem?
  intro j
  rw [List.getElem?_take, List.getElem?_replicate]
  by_cases hj : j < n
  · rw [if_pos (by omega), if_pos hj, Array.getElem?_toList, h j hj]
  · rw [if_neg (by omega), if_neg hj]
theorem row_full {w : World} {g n c : Nat} {s : List UInt8} (h : w.ownsRow 0 9 1 (.slice (some ⟨g, 0, none⟩) n c) n (List.replicate n (.string (bs s)))) (m : Nat) (hm : m ≤ n) (hm5 : m ≤ 1048576) (c' : Nat) : MarkT w ⟨g, m, c', s⟩ := by
  rcases h.2 with ⟨e, _⟩ | ⟨g', cap, cur, e, _, hg, _, _, _, ht⟩
  · cases e
  · injection e with e1 _ _
    injection e1 with e1
    injection e1 with e1 _
    subst e1
    refine ⟨hm5, cur, hg, fun j hj => ?_⟩
    simp only at hj
    rw [← Array.getElem?_toList, ← List.getElem?_take_of_lt (show j < n * 1 by omega), ht, List.getElem?_replicate, if_pos (by omega)]

theorem BkIn.opL {w w2 : World} {bb N came : Nat} {kv wv vM vO vT vS : Value} {ts : List TE} {ss : List (List UInt8)} {ms : List ME} {os : List Nat} {o : Obj} (h : BkIn w bb N came kv wv ts ss ms os vM vO vT vS) {m gk ck gL cL : Nat} {M : List UInt8} (hO : w.ownsRow 0 9 1 (.slice (some ⟨gk, 0, none⟩) m ck) m (List.replicate m (.string (bs M)))) (hown : w2.ownsRow 0 9 1 (.slice (some ⟨gL, 0, none⟩) (m + 1) cL) (m + 1) (List.replicate (m + 1) (.string (bs M))))
    (hgr : ((Value.slice (some ⟨gk, 0, none⟩) m ck).ownBlock = some gL ∧ (w.alloc o).grownBy w2 (some gL)) ∨ (gL = (w.alloc o).heap.size ∧ (w.alloc o).grownBy w2 none)) (hx : ∀ x ∈ ts, x.g ≠ gk ∨ (x.s = M ∧ x.n ≤ m + 1)) (hS : vS.ownBlock ≠ some gk) : BkIn w2 bb N came kv wv ts ss ms os vM vO vT vS ∧ Chg (fun k => k = gk) w w2 := by
  have hc : Chg (fun k => k = gk) w w2 := (app_chg hgr).mono (fun k _ e => by injection e with e; exact e.symm)
  obtain ⟨ck', ek⟩ := own_tag hO (show (Value.slice (some ⟨gk, 0, none⟩) m ck).ownBlock = some gk from rfl)
  have fb : ¬ bb = gk := fun e => by rw [← e, h.blk] at ek; simp at ek
  refine ⟨⟨hc.some_ h.blk fb, ownsRow_chg h.rT hc fun k cur e _ e' => by rw [e', ek] at e; simp at e, ownsRow_chg h.rS hc fun k cur e e9 e' => hS (by rw [← e']; exact e9), ownsRow_chg h.rM hc fun k cur e _ e' => by rw [e', ek] at e; simp at e, ownsRow_chg h.rO hc fun k cur e _ e' => by rw [e', ek] at e; simp at e, fun x hm => ⟨?_, (h.mt x hm).2⟩, fun x hm => ?_⟩, hc⟩
  · by_cases e : x.g = gk
    · obtain ⟨r1, r2⟩ := (hx x hm).resolve_left (fun f => f e)
      rcases hgr with ⟨g1, g2⟩ | ⟨g1, g2⟩
      · injection g1 with g1
        simp only at g1
        subst g1
        have := row_full hown x.n r2 (h.mt x hm).1.1 x.c
        obtain ⟨xg, xn, xc, xs⟩ := x
        simp only at e r1 this
        subst e r1
        exact this
      · have hc0 : Chg (fun _ => False) w w2 := (Chg.below (A := fun _ => False) ((Below.refl _ _).alloc (Nat.le_refl _) o)).trans (Chg.grown g2) (fun k _ e => by cases e)
        exact (h.mt x hm).1.chg hc0 id
    · exact (h.mt x hm).1.chg hc e
  · exact (h.mm x hm).chg hc fun g9 c9 e9 _ e => by rw [e, ek] at e9; simp at e9

set_option maxHeartbeats 4000000 in
set_option maxRecDepth 100000 in
theorem texts_any (bb N came g n : Nat) (kv wv vM vO vT vS : Value) (ts : List TE) (ss : List (List UInt8)) (ms : List ME) (os : List Nat) (w : World) (cur : Array Value) (h : BkIn w bb N came kv wv ts ss ms os vM vO vT vS) (hg : w.heap[g]? = some (.cells cur 9 (0, 0))) (hn : cur.size = n) (hts : ∀ x ∈ ts, x.g ≠ g) (hS : vS.ownBlock ≠ some g) (hn5 : n ≤ 255) (hN : N ≤ 1099511627776) (htl : ts.length ≤ 1099511627776) (hsl : ss.length ≤ 1099511627776) :
    Calls Tryz.prog 127 #[.pointer (some ⟨bb, 0, none⟩), .slice (some ⟨g, 0, none⟩) n n] w fun e w' => e = .returned (.tuple #[]) ∧ ∃ ts' vT' vS', BkIn w' bb (N + 1) came kv wv (ts ++ ts') (ss ++ ts'.map TE.s) ms os vM vO vT' vS' ∧ ts'.length = 4 ∧ (∀ x ∈ ts', x.g = g ∨ w.heap.size ≤ x.g) ∧ OwnNew w vT vT' ∧ OwnNew w vS vS' ∧ Chg (fun k => k = bb ∨ k = g ∨ vT.ownBlock = some k ∨ vS.ownBlock = some k) w w' := by
  have c0 : w.cell? ⟨bb, 0, none⟩ = some (.int .i64 N) := by rw [Lib.cell_of_heap h.blk]; rfl
  have f0 := Lib.frozen_of_heap h.blk 0
  have hwr : IntKind.i64.wrap ((N : Int) + 1) = (N : Int) + 1 := by rw [IntKind.wrap_i64]; omega
  have hgb : g ≠ bb := fun e => by rw [e, h.blk] at hg; simp at hg
  obtain ⟨W1, hW1⟩ : ∃ W1 : World, w.setCell ⟨bb, 0, none⟩ (.int .i64 ((N : Int) + 1)) = W1 := ⟨_, rfl⟩
  have S1 : Same bb w W1 := by rw [← hW1]; exact (Same.refl _ _).setCell _
  have A1 : BkIn W1 bb (N + 1) came kv wv ts ss ms os vM vO vT vS := h.reblk S1 (by rw [← hW1]; exact heap_setCell_same w bb 0 _ _ _ h.blk)
  have HA1 := Lib.hid A1
  have HG1 : Hid (W1.heap[g]? = some (.cells cur 9 (0, 0))) := Lib.hid (same_some S1 hg hgb)
  have HMK := Lib.hid (mark_any (N + 1) W1 (by unfold maxLen; omega))
  have HC1 := Lib.hid (Chg.same S1)
  have HW1 := Lib.hid hW1
  have HTS := Lib.hid hts
  have HSG := Lib.hid hS
  clear S1 A1 h hg hW1 hts hS
  go_enter Tryz.func127, Tryz.ntmps127
  go_wp2_with fail
  rw [HW1.out]
  refine HMK.out.mono ?_
  rintro e W2 ⟨rfl, hb2⟩
  obtain ⟨M, eM⟩ : ∃ M, markL (N + 1) = M := ⟨_, rfl⟩
  rw [eM]
  have HA2 := Lib.hid (HA1.out.keep hb2)
  have HG2 : Hid (W2.heap[g]? = some (.cells cur 9 (0, 0))) := Lib.hid (below_some hb2 HG1.out)
  have HC2 : Hid (Chg (fun k => k = bb) w W2) := Lib.hid (HC1.out.trans (Chg.below (A := fun _ => False) hb2) (fun _ _ f => f.elim))
  clear hb2 c0 f0 eM HMK HA1 HG1 HC1
  go_wp2_with fail
  go_loopw [5] (fun i w' => ∃ (k : Nat) (D : Array Value), k ≤ n ∧ i = .int .i64 k ∧ D.size = n ∧ Hid (∀ j, j < k → D[j]? = some (.string (bs M))) ∧ Hid (w'.heap[g]? = some (.cells D 9 (0, 0))) ∧ Hid (Same g W2 w')) (fun i _ => n - (intOf i).toNat)
  case atStart => exact ⟨0, cur, Nat.zero_le _, rfl, hn, Lib.hid (fun j hj => by omega), HG2, Lib.hid (Same.refl _ _)⟩
  case round =>
    obtain ⟨k, D, hk, rfl, hD, HD, HG, HS⟩ := hrel
    by_cases hlt : k < n
    · have hlti : (k : Int) < (n : Int) := by omega
      have x0 : ∃ u, wr.cell? ⟨g, k, none⟩ = some u := by rw [Lib.cell_of_heap HG.out]; exact ⟨_, Array.getElem?_eq_getElem (by omega)⟩
      obtain ⟨u0, x0⟩ := x0
      have y0 := Lib.frozen_of_heap HG.out k
      have HN := Lib.hid (one_set (x := .string (bs M)) hD hlt HD.out)
      go_wp2_with fail
      exact ⟨⟨k + 1, _, by omega, by go_num, by simp [hD], HN, Lib.hid (heap_setCell_same wr g k _ _ (.string (bs M)) HG.out), Lib.hid (HS.out.setCell _)⟩, by simp [intOf]; omega⟩
    · have hk9 : k = n := by omega
      subst hk9
      have A3 : Hid (BkIn wr bb (N + 1) came kv wv ts ss ms os vM vO vT vS) := Lib.hid (HA2.out.chg (Chg.same HS.out) (fun e => hgb e.symm) (fun x e e' => by rw [e'] at e; exact not_own HA2.out.rT HG2.out (by decide) e) (fun x e e' => HSG.out (by rw [← e']; exact e)) (fun x e e' => by rw [e'] at e; exact not_own HA2.out.rM HG2.out (by decide) e) (fun x e e' => by rw [e'] at e; exact not_own HA2.out.rO HG2.out (by decide) e) (fun x hx => HTS.out x hx) (fun x hx g9 c9 e9 _ e' => by
        rw [e', HG2.out] at e9; simp at e9))
      have O3 : Hid (wr.ownsRow 0 9 1 (.slice (some ⟨g, 0, none⟩) k k) k (List.replicate k (.string (bs M)))) := Lib.hid (full_row hD (by unfold maxLen; omega) HD.out HG.out)
      have C3 : Hid (Chg (fun k => k = bb ∨ k = g ∨ vT.ownBlock = some k ∨ vS.ownBlock = some k) w wr) := Lib.hid ((HC2.out.mono (fun _ _ e => .inl e)).trans (Chg.same HS.out) (fun _ _ e => .inr (.inl e)))
      obtain ⟨iT, hiT, hzT0, hzT1, hzT2⟩ := info_parts info_strs
      obtain ⟨is, his, hzs0, hzs1, hzs2⟩ := info_parts info_str'
      have HTSG := HTS
      clear HD HG HS HA2 HG2 HC2 HW1
      go_wp2_with fail
      go_loopw [1, 6] (fun l i w' => ∃ (j : Nat) (ts' : List TE) (gk ck : Nat) (vT' vS' : Value), j ≤ 4 ∧ i = .int .i64 j ∧ l = .slice (some ⟨gk, 0, none⟩) (k + j) ck ∧ ts'.length = j ∧ Hid (BkIn w' bb (N + 1) came kv wv (ts ++ ts') (ss ++ ts'.map TE.s) ms os vM vO vT' vS') ∧ Hid (w'.ownsRow 0 9 1 (.slice (some ⟨gk, 0, none⟩) (k + j) ck) (k + j) (List.replicate (k + j) (.string (bs M)))) ∧ Hid (vS'.ownBlock ≠ some gk) ∧ Hid (gk = g ∨ w.heap.size ≤ gk) ∧ Hid (∀ x ∈ ts', x.s = M ∧ (x.g = g ∨ w.heap.size ≤ x.g) ∧ x.n ≤ k + j) ∧ Hid (∀ x ∈ ts, x.g ≠ gk) ∧ Hid (OwnNew w vT vT') ∧ Hid (OwnNew w vS vS') ∧ Hid (Chg (fun k => k = bb ∨ k = g ∨ vT.ownBlock = some k ∨ vS.ownBlock = some k) w w')) (fun _ i _ => 4 - (intOf i).toNat)
      case atStart => exact ⟨0, [], g, k, vT, vS, by omega, rfl, rfl, rfl, by simpa using A3, O3, HSG, Lib.hid (.inl rfl), Lib.hid (fun x hx => by simp at hx), HTS, Lib.hid (OwnNew.refl _ _), Lib.hid (OwnNew.refl _ _), C3⟩
      case round =>
        clear A3 O3 C3
        obtain ⟨j, ts', gk, ck, vT', vS', hj, rfl, rfl, htl', HA, HO, HSK, HGK, HTN, HTK, HNT, HNS, HC⟩ := hrel
        by_cases hj4 : j < 4
        · have hj4i : (j : Int) < 4 := by omega
          have hlenT : (ts ++ ts').length ≤ 1099511627780 := by rw [List.length_append]; omega
          have hlenS : (ss ++ ts'.map TE.s).length ≤ 1099511627780 := by rw [List.length_append, List.length_map]; omega
          obtain ⟨TT, eTT⟩ : ∃ TT, ts ++ ts' = TT := ⟨_, rfl⟩
          obtain ⟨SS, eSS⟩ : ∃ SS, ss ++ ts'.map TE.s = SS := ⟨_, rfl⟩
          rw [eTT] at HA hlenT
          rw [eSS] at HA hlenS
          have q7 : wr.cell? ⟨bb, 7, none⟩ = some vT' := by rw [Lib.cell_of_heap HA.out.blk]; rfl
          have rT := HA.out.rT
          obtain ⟨aT, nT, cT, eT⟩ := own_slice rT
          subst eT
          have HEE := Lib.hid (And.intro eTT eSS)
          clear eTT eSS
          go_wp2_with (first
            | (at_builtin; refine wpList_append_sharp _ rfl _ _ 62 rfl 0 24 iT _ 1 24 Tryz.underlying62 hiT hzT0 hzT1 hzT2 rfl (by decide) _ _ _ rfl (rT.alloc _) ⟨wr.heap.size, 0, none⟩ 1 1 [.slice (some ⟨gk, 0, none⟩) (k + j) ck] rfl rfl ?c1 ?c2 (by decide) ?c3 ?c4 (Nat.zero_le _) ?_)
            | fail)
          case c1 => exact World.news_of_block (cs := #[.slice (some ⟨gk, 0, none⟩) (k + j) ck]) (t := 24) (fr := (0, 0)) (heap_alloc_new wr _)
          case c2 => intro u hu; simp at hu; subst hu; rfl
          case c3 => unfold maxLen; omega
          case c4 => omega
          intro gT capT w2 hownT hgrT
          have hgT : ((Value.slice aT nT cT).ownBlock = some gT ∧ (wr.alloc (.cells #[.slice (some ⟨gk, 0, none⟩) (k + j) ck] 24)).grownBy w2 (some gT)) ∨ (gT = (wr.alloc (.cells #[.slice (some ⟨gk, 0, none⟩) (k + j) ck] 24)).heap.size ∧ (wr.alloc (.cells #[.slice (some ⟨gk, 0, none⟩) (k + j) ck] 24)).grownBy w2 none) := hgrT.imp id (fun h => ⟨by simpa using h.1, h.2⟩)
          have hc2 := app_chg hgT
          have b2 := hc2.some_ HA.out.blk (not_own rT HA.out.blk (by decide))
          have q7' : w2.cell? ⟨bb, 7, none⟩ = some (.slice aT nT cT) := by rw [Lib.cell_of_heap b2]; rfl
          have f7' := Lib.frozen_of_heap b2 7
          obtain ⟨A3, C3⟩ := HA.out.opT (x := ⟨gk, k + j, ck, M⟩) (row_full HO.out (k + j) (Nat.le_refl _) (by omega) ck) HSK.out hownT hgT
          have O3 := ownsRow_chg HO.out C3 fun y cur9 e e' => by
            rintro (e9 | e9)
            · rw [e9, HA.out.blk] at e; simp at e
            · exact not_own rT e (by decide) e9
          obtain ⟨w3, hw3⟩ : ∃ w3, w2.setCell ⟨bb, 7, none⟩ (.slice (some ⟨gT, 0, none⟩) (TT.length + 1) capT) = w3 := ⟨_, rfl⟩
          rw [hw3] at A3 C3 O3
          have NT3 := Lib.hid (HNT.out.trans (app_new (v' := .slice (some ⟨gT, 0, none⟩) (TT.length + 1) capT) rfl hgT) HC.out.size)
          have q8 : w3.cell? ⟨bb, 8, none⟩ = some vS' := by rw [Lib.cell_of_heap A3.blk]; rfl
          have rS := A3.rS
          obtain ⟨aS, nS, cS, eS⟩ := own_slice rS
          subst eS
          have HA3 := Lib.hid A3
          have HC3 := Lib.hid C3
          have HO3 := Lib.hid O3
          clear A3 C3 O3 hgT hgrT hownT hc2 b2 rT q7
          go_wp2_with (first
            | (at_builtin; refine wpList_append_sharp _ rfl _ _ 24 rfl 0 9 is _ 1 16 Tryz.underlying24 his hzs0 hzs1 hzs2 rfl (by decide) _ _ _ rfl (rS.alloc _) ⟨w3.heap.size, 0, none⟩ 1 1 [.string (bs M)] rfl rfl ?d1 ?d2 (by decide) ?d3 ?d4 (Nat.zero_le _) ?_)
            | fail)
          case d1 => exact World.news_of_block (cs := #[.string (bs M)]) (t := 9) (fr := (0, 0)) (heap_alloc_new w3 _)
          case d2 => intro u hu; simp at hu; subst hu; rfl
          case d3 => unfold maxLen; omega
          case d4 => omega
          intro gS capS w4 hownS hgrS
          have hgS : ((Value.slice aS nS cS).ownBlock = some gS ∧ (w3.alloc (.cells #[.string (bs M)] 9)).grownBy w4 (some gS)) ∨ (gS = (w3.alloc (.cells #[.string (bs M)] 9)).heap.size ∧ (w3.alloc (.cells #[.string (bs M)] 9)).grownBy w4 none) := hgrS.imp id (fun h => ⟨by simpa using h.1, h.2⟩)
          have hc4 := app_chg hgS
          have b4 := hc4.some_ HA3.out.blk (not_own rS HA3.out.blk (by decide))
          have q8' : w4.cell? ⟨bb, 8, none⟩ = some (.slice aS nS cS) := by rw [Lib.cell_of_heap b4]; rfl
          have f8' := Lib.frozen_of_heap b4 8
          obtain ⟨A5, C5⟩ := HA3.out.opS (t := M) (v' := .slice (some ⟨gS, 0, none⟩) (SS.length + 1) capS) rfl hownS hgS
          have O5 := ownsRow_chg HO3.out C5 fun y cur9 e e' => by
            rintro (e9 | e9)
            · rw [e9, HA3.out.blk] at e; simp at e
            · injection e' with e'
              rw [← e'] at e9
              exact HSK.out e9
          have hgk3 : gk < w3.heap.size := by
            obtain ⟨c9, e9⟩ := own_tag HO3.out (show (Value.slice (some ⟨gk, 0, none⟩) (k + j) ck).ownBlock = some gk from rfl)
            exact heap_some_lt e9
          have SK5 : Hid ((Value.slice (some ⟨gS, 0, none⟩) (SS.length + 1) capS).ownBlock ≠ some gk) := Lib.hid (fun e => by
            injection e with e
            simp only at e
            rcases app_where hgS with h9 | h9
            · exact HSK.out (by rw [h9, e])
            · omega)
          obtain ⟨w5, hw5⟩ : ∃ w5, w4.setCell ⟨bb, 8, none⟩ (.slice (some ⟨gS, 0, none⟩) (SS.length + 1) capS) = w5 := ⟨_, rfl⟩
          rw [hw5] at A5 C5 O5
          have NS5 := Lib.hid (HNS.out.trans (app_new (v' := .slice (some ⟨gS, 0, none⟩) (SS.length + 1) capS) rfl hgS) (Nat.le_trans HC.out.size HC3.out.size))
          have HA5 := Lib.hid A5
          have HC5 := Lib.hid C5
          have HO5 := Lib.hid O5
          clear A5 C5 hgS hgrS hownS hc4 b4 rS q8 hw3 q7' f7'
          go_wp2_with (first
            | (at_builtin; refine wpList_append_sharp _ rfl _ _ 24 rfl 0 9 is _ 1 16 Tryz.underlying24 his hzs0 hzs1 hzs2 rfl (by decide) _ _ _ rfl (O5.alloc _) ⟨w5.heap.size, 0, none⟩ 1 1 [.string (bs M)] rfl rfl ?e1 ?e2 (by decide) ?e3 ?e4 (Nat.zero_le _) ?_)
            | fail)
          case e1 => exact World.news_of_block (cs := #[.string (bs M)]) (t := 9) (fr := (0, 0)) (heap_alloc_new w5 _)
          case e2 => intro u hu; simp at hu; subst hu; rfl
          case e3 => unfold maxLen; omega
          case e4 => omega
          intro gL capL w6 hownL hgrL
          have hgL : ((Value.slice (some ⟨gk, 0, none⟩) (k + j) ck).ownBlock = some gL ∧ (w5.alloc (.cells #[.string (bs M)] 9)).grownBy w6 (some gL)) ∨ (gL = (w5.alloc (.cells #[.string (bs M)] 9)).heap.size ∧ (w5.alloc (.cells #[.string (bs M)] 9)).grownBy w6 none) := hgrL.imp id (fun h => ⟨by simpa using h.1, h.2⟩)
          have hownR : w6.ownsRow 0 9 1 (.slice (some ⟨gL, 0, none⟩) (k + j + 1) capL) (k + j + 1) (List.replicate (k + j + 1) (.string (bs M))) := by
            rw [List.replicate_succ']; exact hownL
          obtain ⟨A6, C6⟩ := HA5.out.opL O5 hownR hgL (fun x hx => by
            rcases List.mem_append.1 hx with hx | hx
            · rw [← HEE.out.1] at hx
              rcases List.mem_append.1 hx with hx | hx
              · exact .inl (HTK.out x hx)
              · obtain ⟨r1, _, r3⟩ := HTN.out x hx
                exact .inr ⟨r1, by omega⟩
            · simp only [List.mem_singleton] at hx
              subst hx
              exact .inr ⟨rfl, by simp⟩) SK5.out
          have hgk5 : gk < w5.heap.size := Nat.lt_of_lt_of_le hgk3 HC5.out.size
          have wL : gL = gk ∨ w5.heap.size < gL := by
            rcases app_where hgL with h9 | h9
            · injection h9 with h9; exact .inl h9.symm
            · exact .inr h9
          have sz5 : w.heap.size ≤ w5.heap.size := Nat.le_trans (Nat.le_trans HC.out.size HC3.out.size) HC5.out.size
          have HA6 := Lib.hid A6
          have HO6 := Lib.hid hownR
          have HTK6 : Hid (∀ x ∈ ts, x.g ≠ gL) := Lib.hid (fun x hx => by
            rcases wL with h9 | h9
            · rw [h9]; exact HTK.out x hx
            · obtain ⟨_, c9, e9, _⟩ := (HA5.out.mt x (by rw [← HEE.out.1]; simp [hx])).1
              have := heap_some_lt e9
              omega)
          have SK6 : Hid ((Value.slice (some ⟨gS, 0, none⟩) (SS.length + 1) capS).ownBlock ≠ some gL) := Lib.hid (by
            rcases wL with h9 | h9
            · rw [h9]; exact SK5.out
            · intro e
              obtain ⟨c9, e9⟩ := own_tag HA5.out.rS e
              have := heap_some_lt e9
              omega)
          have HGK6 : Hid (gL = g ∨ w.heap.size ≤ gL) := Lib.hid (by
            rcases wL with h9 | h9
            · rw [h9]; exact HGK.out
            · right; omega)
          have HC6 : Hid (Chg (fun k => k = bb ∨ k = g ∨ vT.ownBlock = some k ∨ vS.ownBlock = some k) w w6) := Lib.hid (by
            refine ((HC.out.trans HC3.out ?_).trans HC5.out ?_).trans C6 ?_
            · rintro y hy (e9 | e9)
              · exact .inl e9
              · rcases HNT.out with h9 | ⟨y', h9, hk9⟩
                · exact .inr (.inr (.inl (by rw [← h9]; exact e9)))
                · rw [h9] at e9; injection e9 with e9; omega
            · rintro y hy (e9 | e9)
              · exact .inl e9
              · rcases HNS.out with h9 | ⟨y', h9, hk9⟩
                · exact .inr (.inr (.inr (by rw [← h9]; exact e9)))
                · rw [h9] at e9; injection e9 with e9; omega
            · intro y hy e9
              rcases HGK.out with h9 | h9
              · exact .inr (.inl (by rw [e9, h9]))
              · omega)
          have HTN6 : Hid (∀ x ∈ ts' ++ [(⟨gk, k + j, ck, M⟩ : TE)], x.s = M ∧ (x.g = g ∨ w.heap.size ≤ x.g) ∧ x.n ≤ k + (j + 1)) := Lib.hid (fun x hx => by
            rcases List.mem_append.1 hx with hx | hx
            · obtain ⟨r1, r2, r3⟩ := HTN.out x hx
              exact ⟨r1, r2, by omega⟩
            · simp only [List.mem_singleton] at hx
              subst hx
              exact ⟨rfl, HGK.out, by show k + j ≤ _; omega⟩)
          clear A6 C6 hgL hgrL hownL hownR O5 hw5 q8' f8' wL
          go_wp2_with fail
          refine ⟨⟨j + 1, ts' ++ [⟨gk, k + j, ck, M⟩], gL, capL, _, _, by omega, by go_num, rfl, by simp; omega, ?_, HO6, SK6, HGK6, HTN6, HTK6, NT3, NS5, HC6⟩, by simp [intOf]; omega⟩
          rw [← List.append_assoc, HEE.out.1, List.map_append, ← List.append_assoc, HEE.out.2]
          exact HA6
        · have hj9 : j = 4 := by omega
          subst hj9
          go_wp2_with fail
          refine bodyPost_end (results_none rfl _ _ _) rfl ?_
          exact ⟨rfl, ts', vT', vS', HA.out, htl', fun x hx => (HTN.out x hx).2.1, HNT.out, HNS.out, HC.out⟩
end Go.Proofs.YtgjjjdccbpjnfaaGreatDoor

/- The law: the same mail? -/
namespace Go.Proofs.YtgjjjdccbpjnfaaGreatDoor
open Go.RowKit

/-- the sizes that the law's comparison asks for -/
def MailsSz (l : List PMail) : Prop := l.length ≤ 1048576 ∧ ∀ m ∈ l, m.tos.length ≤ 255
theorem mailRow_at (l : List (PMail × Value)) (k i : Nat) (h : k < l.length) (hi : i < 5) : (mailRow l)[k * 5 + i]? = (mailCells l[k].1 l[k].2)[i]? := by
  induction l generalizing k with
  | nil => simp at h
  | cons x l ih =>
    show ((mailCells x.1 x.2).toList ++ mailRow l)[k * 5 + i]? = _
    have h5 : (mailCells x.1 x.2).toList.length = 5 := rfl
    cases k with
    | zero =>
      rw [List.getElem?_append_left (by rw [h5]; omega), Array.getElem?_toList]
      simp
    | succ k =>
      rw [List.getElem?_append_right (by rw [h5]; omega), h5, show (k + 1) * 5 + i - 5 = k * 5 + i by omega]
      exact ih k (by simpa using h)
theorem MailsAt.cells {w : World} {a : Option Addr} {n cap : Nat} {ms : List PMail} (h : MailsAt w (.slice a n cap) ms) : n = ms.length ∧ ∀ k (hk : k < ms.length), ∃ b off at_ ct, a = some ⟨b, off, none⟩ ∧ b < w.heap.size ∧
    w.cell? ⟨b, off + k * 5, none⟩ = some (.int .i64 ms[k].id) ∧ w.cell? ⟨b, off + k * 5 + 1, none⟩ = some (.int .i64 ms[k].time) ∧ w.cell? ⟨b, off + k * 5 + 2, none⟩ = some (.string (bs ms[k].frm)) ∧
    w.cell? ⟨b, off + k * 5 + 3, none⟩ = some (.slice at_ ms[k].tos.length ct) ∧ w.cell? ⟨b, off + k * 5 + 4, none⟩ = some (.string (bs ms[k].body)) ∧
    ∀ j (hj : j < ms[k].tos.length), ∃ c o, at_ = some ⟨c, o, none⟩ ∧ c < w.heap.size ∧ w.cell? ⟨c, o + j, none⟩ = some (.string (bs ms[k].tos[j])) := by
  obtain ⟨l, el, hr, ht⟩ := h
  subst el
  obtain ⟨a', cap', e, hc⟩ := hr.shape
  injection e with e1 e2 e3
  subst e1 e3
  refine ⟨by rw [e2, List.length_map], fun k hk => ?_⟩
  have hk' : k < l.length := by simpa using hk
  have eM : (l.map (·.1))[k] = l[k].1 := by simp
  rw [eM]
  obtain ⟨at', ct, et, htc⟩ := (ht l[k] (List.getElem_mem hk')).one
  have cell : ∀ i, i < 5 → ∃ b off, a = some ⟨b, off, none⟩ ∧ b < w.heap.size ∧ w.cell? ⟨b, off + k * 5 + i, none⟩ = (mailCells l[k].1 l[k].2)[i]? := fun i hi => by
    obtain ⟨b, off, e, hb, h⟩ := hc k i hk' hi
    exact ⟨b, off, e, hb, by rw [Nat.add_assoc, h, mailRow_at l k i hk' hi]⟩
  obtain ⟨b, off, ea, hb, c0⟩ := cell 0 (by omega)
  have cc : ∀ i, i < 5 → w.cell? ⟨b, off + k * 5 + i, none⟩ = (mailCells l[k].1 l[k].2)[i]? := fun i hi => by
    obtain ⟨b', off', ea', _, h⟩ := cell i hi
    rw [ea] at ea'
    injection ea' with e
    injection e with e1 e2
    subst e1 e2
    exact h
  refine ⟨b, off, at', ct, ea, hb, cc 0 (by omega), cc 1 (by omega), cc 2 (by omega), ?_, cc 4 (by omega), fun j hj => ?_⟩
  · rw [cc 3 (by omega), ← et]; rfl
  · obtain ⟨c, o, e, hl, h⟩ := htc j hj
    exact ⟨c, o, e, hl, by rw [h, textCells_get _ _ hj]⟩

set_option maxHeartbeats 2000000 in
set_option maxRecDepth 100000 in
theorem sameQ_any (x : List PMail) (vx vy : Value) (w : World) (hx : MailsAt w vx x) (hy : MailsAt w vy x) (sx : MailsSz x) :
    Calls Tryz.prog 10 #[vx, vy] w fun e w' => e = .returned (.bool true) ∧ Below w.heap.size w w' := by
  obtain ⟨ax, nx, cx, rfl⟩ : ∃ a n c, vx = .slice a n c := by obtain ⟨l, _, hr, _⟩ := hx; obtain ⟨a, c, e, _⟩ := hr.shape; exact ⟨_, _, _, e⟩
  obtain ⟨ay, ny, cy, rfl⟩ : ∃ a n c, vy = .slice a n c := by obtain ⟨l, _, hr, _⟩ := hy; obtain ⟨a, c, e, _⟩ := hr.shape; exact ⟨_, _, _, e⟩
  obtain ⟨ex, px⟩ := hx.cells
  obtain ⟨ey, py⟩ := hy.cells
  subst ex ey
  have hlen := sx.1
  have HPX := Lib.hid px
  have HPY := Lib.hid py
  have HSX := Lib.hid sx
  clear hx hy px py sx
  go_enter Tryz.func10, Tryz.ntmps10
  go_wp2_with fail
  go_loopw [5, 6] (fun i _ w' => ∃ k : Nat, k ≤ x.length ∧ i = .int .i64 k ∧ Hid (Below w.heap.size w w')) (fun i _ _ => x.length - (intOf i).toNat)
  case atStart => exact ⟨0, Nat.zero_le _, rfl, Lib.hid (Below.refl _ _)⟩
  case round =>
    obtain ⟨k, hk, rfl, HB⟩ := hrel
    by_cases hlt : k < x.length
    · have hlti : (k : Int) < (x.length : Int) := by omega
      obtain ⟨b, off, at_, ct, rfl, hb, p0, p1, p2, p3, p4, pt⟩ := HPX.out k hlt
      obtain ⟨b', off', at', ct', rfl, hb', p0', p1', p2', p3', p4', pt'⟩ := HPY.out k hlt
      have htl := HSX.out.2 x[k] (List.getElem_mem hlt)
      generalize x[k] = M at p0 p1 p2 p3 p4 pt p0' p1' p2' p3' p4' pt' htl
      obtain ⟨I, T, F, Ts, Bd⟩ := M
      simp only at p0 p1 p2 p3 p4 pt p0' p1' p2' p3' p4' pt' htl
      have HC : Hid (∀ W, Below w.heap.size w W → ∀ (c o : Nat) (u : Value), w.cell? ⟨c, o, none⟩ = some u → W.cell? ⟨c, o, none⟩ = some u) := Lib.hid (fun W hW c o u h => (hW.cell (p := ⟨c, o, none⟩) (by exact block_lt h)).trans h)
      have q0 := HC.out wr HB.out _ _ _ p0
      have q1 := HC.out wr HB.out _ _ _ p1
      have q2 := HC.out wr HB.out _ _ _ p2
      have q3 := HC.out wr HB.out _ _ _ p3
      have q4 := HC.out wr HB.out _ _ _ p4
      have q0' := HC.out wr HB.out _ _ _ p0'
      have q1' := HC.out wr HB.out _ _ _ p1'
      have q2' := HC.out wr HB.out _ _ _ p2'
      have q3' := HC.out wr HB.out _ _ _ p3'
      have q4' := HC.out wr HB.out _ _ _ p4'
      have H3 := Lib.hid p3
      have H3' := Lib.hid p3'
      have HPT := Lib.hid pt
      have HPT' := Lib.hid pt'
      clear p0 p1 p2 p3 p4 p0' p1' p2' p3' p4' pt pt'
      have tI : ((I : Int) != (I : Int)) = false := by simp
      have tT : ((T : Int) != (T : Int)) = false := by simp
      have tN : ((Ts.length : Int) != (Ts.length : Int)) = false := by simp
      have tF : ((bs F).toList == (bs F).toList) = true := by simp
      have tB : ((bs Bd).toList == (bs Bd).toList) = true := by simp
      go_wp2_with fail
      go_quiet (fail)
      clear q0 q1 q2 q3 q4 q0' q1' q2' q3' q4' tI tT tF tB tN
      go_wp2_with fail
      go_loopw [6] (fun j w' => ∃ n : Nat, n ≤ Ts.length ∧ j = .int .i64 n ∧ Hid (Below w.heap.size w w')) (fun j _ => Ts.length - (intOf j).toNat)
      case atStart => exact ⟨0, Nat.zero_le _, rfl, Lib.hid (HB.out.trans (below_drewN _ _ _))⟩
      case round =>
        obtain ⟨n, hn, rfl, HB2⟩ := hrel
        have r3 := HC.out wr HB2.out _ _ _ H3.out
        have r3' := HC.out wr HB2.out _ _ _ H3'.out
        by_cases hnl : n < Ts.length
        · have hnli : (n : Int) < (Ts.length : Int) := by omega
          obtain ⟨c, o, rfl, hc, y0⟩ := HPT.out n hnl
          obtain ⟨c', o', rfl, hc', y0'⟩ := HPT'.out n hnl
          have z0 := HC.out wr HB2.out _ _ _ y0
          have z0' := HC.out wr HB2.out _ _ _ y0'
          generalize Ts[n] = t at z0 z0'
          have tt : ((bs t).toList == (bs t).toList) = true := by simp
          clear y0 y0'
          go_wp2_with fail
          go_quiet (fail)
          go_wp2_with fail
          exact ⟨⟨n + 1, by omega, by go_num, Lib.hid (HB2.out.trans (below_drewN _ _ _))⟩, by simp [intOf]; omega⟩
        · have hn9 : n = Ts.length := by omega
          subst hn9
          go_wp2_with fail
          exact ⟨⟨k + 1, by omega, by go_num, HB2⟩, by simp [intOf]; omega⟩
    · have hk9 : k = x.length := by omega
      subst hk9
      go_wp2_with fail
      go_ret
      exact ⟨rfl, HB.out⟩
end Go.Proofs.YtgjjjdccbpjnfaaGreatDoor

/- The books: lists of mail that are full of a mark. -/
namespace Go.Proofs.YtgjjjdccbpjnfaaGreatDoor
open Go.RowKit

theorem To_block {s : Nat} {w : World} {v : Value} {rows : List (PMail × Nat)} (h : RowsIn s w v rows) {x : PMail × Nat} (hx : x ∈ rows) : ∃ cur, w.heap[x.2]? = some (.cells cur 9 (0, 0)) ∧ cur.size = x.1.tos.length := by
  rcases (h.tos x hx).2 with ⟨e, _⟩ | ⟨g, cap, cur, e, _, hg, _, _, hs, _⟩
  · cases e
  · injection e with e1 _ e3
    injection e1 with e1
    injection e1 with e1 _
    subst e1
    exact ⟨cur, hg, by rw [hs, ← e3]; omega⟩
/-- the mail cell of a row: where its recipients lie -/
theorem row_to {s : Nat} {w : World} {v : Value} {rows : List (PMail × Nat)} (h : w.ownsRow s 26 5 v rows.length (mailRow (rows.map rowVal))) {k : Nat} (hk : k < rows.length) : ∃ g cap, v = .slice (some ⟨g, 0, none⟩) rows.length cap ∧ w.cell? ⟨g, k * 5 + 3, none⟩ = some (rowVal rows[k]).2 := by
  rcases h.2 with ⟨_, h0⟩ | ⟨g, cap, cur, e, _, hg, _, _, hs, ht⟩
  · omega
  · refine ⟨g, cap, e, ?_⟩
    rw [Lib.cell_of_heap hg, ← Array.getElem?_toList, ← List.getElem?_take_of_lt (show k * 5 + 3 < rows.length * 5 by omega), ht, mailRow_at _ k 3 (by rw [List.length_map]; exact hk) (by omega), List.getElem_map]
    rfl
/-- while the recipients of a list are marked -/
structure M1 (w : World) (w' : World) (s bb N came : Nat) (kv wv v vM vO vT vS : Value) (rows : List (PMail × Nat)) (ts : List TE) (ss : List (List UInt8)) (ms : List ME) (os : List Nat) (k : Nat) (ts' : List TE) (vT' vS' : Value) : Prop where
  bk : BkIn w' bb (N + k) came kv wv (ts ++ ts') (ss ++ ts'.map TE.s) ms os vM vO vT' vS'
  len : ts'.length = 4 * k
  row : w'.ownsRow s 26 5 v rows.length (mailRow (rows.map rowVal))
  tos : ∀ j (h : j < rows.length), k ≤ j → ∃ cur, w'.heap[rows[j].2]? = some (.cells cur 9 (0, 0)) ∧ cur.size = rows[j].1.tos.length
  far : ∀ x ∈ ts ++ ts', ∀ j (h : j < rows.length), k ≤ j → x.g ≠ rows[j].2
  farS : ∀ j (h : j < rows.length), k ≤ j → vS'.ownBlock ≠ some rows[j].2
  news : ∀ x ∈ ts', (∃ r ∈ rows, x.g = r.2) ∨ w.heap.size ≤ x.g
  nT : OwnNew w vT vT'
  nS : OwnNew w vS vS'
  chg : Chg (fun k => k = bb ∨ (∃ r ∈ rows, k = r.2) ∨ vT.ownBlock = some k ∨ vS.ownBlock = some k) w w'
theorem M1.step {w wr w' : World} {s bb N came k : Nat} {kv wv v vM vO vT vS vT1 vS1 vT2 vS2 : Value} {rows : List (PMail × Nat)} {ts ts1 ts2 : List TE} {ss : List (List UInt8)} {ms : List ME} {os : List Nat} (h : M1 w wr s bb N came kv wv v vM vO vT vS rows ts ss ms os k ts1 vT1 vS1) (hk : k < rows.length) (hap : (rows.map (·.2)).Nodup)
    (hB : BkIn w' bb (N + k + 1) came kv wv (ts ++ ts1 ++ ts2) (ss ++ ts1.map TE.s ++ ts2.map TE.s) ms os vM vO vT2 vS2) (hl : ts2.length = 4) (hx : ∀ x ∈ ts2, x.g = rows[k].2 ∨ wr.heap.size ≤ x.g) (hT : OwnNew wr vT1 vT2) (hS : OwnNew wr vS1 vS2) (hC : Chg (fun j => j = bb ∨ j = rows[k].2 ∨ vT1.ownBlock = some j ∨ vS1.ownBlock = some j) wr w') :
    M1 w w' s bb N came kv wv v vM vO vT vS rows ts ss ms os (k + 1) (ts1 ++ ts2) vT2 vS2 := by
  have hne : ∀ j (hj : j < rows.length), k + 1 ≤ j → rows[j].2 ≠ rows[k].2 := fun j hj hkj e => by
    have := List.pairwise_iff_getElem.1 hap k j (by simpa using hk) (by simpa using hj) (by omega)
    simp only [List.getElem_map] at this
    exact this e.symm
  obtain ⟨ck, ek, _⟩ := h.tos k hk (Nat.le_refl _)
  have nA : ∀ j (hj : j < rows.length), k + 1 ≤ j → ∀ cur, wr.heap[rows[j].2]? = some (.cells cur 9 (0, 0)) → ¬ (rows[j].2 = bb ∨ rows[j].2 = rows[k].2 ∨ vT1.ownBlock = some rows[j].2 ∨ vS1.ownBlock = some rows[j].2) := fun j hj hkj cur e => by
    rintro (e9 | e9 | e9 | e9)
    · rw [e9, h.bk.blk] at e; simp at e
    · exact hne j hj hkj e9
    · exact not_own h.bk.rT e (by decide) e9
    · exact h.farS j hj (by omega) e9
  have szw := h.chg.size
  refine ⟨by rw [← List.append_assoc, List.map_append, ← List.append_assoc]; exact hB, by rw [List.length_append, h.len, hl]; omega, ?_, fun j hj hkj => ?_, fun x hx' j hj hkj => ?_, fun j hj hkj => ?_, fun x hx' => ?_, h.nT.trans hT szw, h.nS.trans hS szw, ?_⟩
  · refine ownsRow_chg h.row hC fun g cur e _ => ?_
    rintro (e9 | e9 | e9 | e9)
    · rw [e9, h.bk.blk] at e; simp at e
    · rw [e9, ek] at e; simp at e
    · exact not_own h.bk.rT e (by decide) e9
    · exact not_own h.bk.rS e (by decide) e9
  · obtain ⟨cur, e, hz⟩ := h.tos j hj (by omega)
    exact ⟨cur, hC.some_ e (nA j hj hkj cur e), hz⟩
  · rw [← List.append_assoc] at hx'
    rcases List.mem_append.1 hx' with hx' | hx'
    · exact h.far x hx' j hj (by omega)
    · obtain ⟨cur, e, _⟩ := h.tos j hj (by omega)
      have := heap_some_lt e
      rcases hx x hx' with e9 | e9
      · rw [e9]; exact fun e => hne j hj hkj e.symm
      · omega
  · obtain ⟨cur, e, _⟩ := h.tos j hj (by omega)
    have := heap_some_lt e
    rcases hS with e9 | ⟨y, e9, hy⟩
    · rw [e9]; exact h.farS j hj (by omega)
    · rw [e9]; intro e; injection e with e; omega
  · rcases List.mem_append.1 hx' with hx' | hx'
    · exact h.news x hx'
    · rcases hx x hx' with e9 | e9
      · exact .inl ⟨rows[k], List.getElem_mem hk, e9⟩
      · right; omega
  · refine h.chg.trans hC fun y hy => ?_
    rintro (e9 | e9 | e9 | e9)
    · exact .inl e9
    · exact .inr (.inl ⟨rows[k], List.getElem_mem hk, e9⟩)
    · rcases h.nT with h9 | ⟨y', h9, hk9⟩
      · exact .inr (.inr (.inl (by rw [← h9]; exact e9)))
      · rw [h9] at e9; injection e9 with e9; omega
    · rcases h.nS with h9 | ⟨y', h9, hk9⟩
      · exact .inr (.inr (.inr (by rw [← h9]; exact e9)))
      · rw [h9] at e9; injection e9 with e9; omega

/-- a list of mail that is full of a mark -/
def fullM (n k : Nat) : List Value := (List.replicate n (markM k)).flatten
theorem fullM_len (n k : Nat) : (fullM n k).length = n * 5 := by
  unfold fullM
  induction n with
  | zero => rfl
  | succ n ih => rw [List.replicate_succ, List.flatten_cons, List.length_append, ih]; simp [markM]; omega
theorem fullM_snoc (n k : Nat) : fullM (n + 1) k = fullM n k ++ markM k := by
  unfold fullM
  rw [List.replicate_succ', List.flatten_append]
  simp
theorem fullM_at (n k j i : Nat) (hj : j < n) (hi : i < 5) : (fullM n k)[j * 5 + i]? = (markM k)[i]? := by
  induction n with
  | zero => omega
  | succ n ih =>
    rw [fullM_snoc]
    by_cases h : j < n
    · rw [List.getElem?_append_left (by rw [fullM_len]; omega)]; exact ih h
    · obtain rfl : j = n := by omega
      rw [List.getElem?_append_right (by rw [fullM_len]; omega), fullM_len]
      congr 1; omega
theorem row_fullM {w : World} {g n c k : Nat} (h : w.ownsRow 0 26 5 (.slice (some ⟨g, 0, none⟩) n c) n (fullM n k)) {x : ME} {c' : Nat} (hx : x.v = .slice (some ⟨g, 0, none⟩) x.n c') (hn : x.n ≤ n) (hk : x.k = k) (hz : x.n ≤ 2097152 ∧ x.k ≤ 1099511627776) : MarkMl w x := by
  rcases h.2 with ⟨e, _⟩ | ⟨g', cap, cur, e, _, hg, _, _, _, ht⟩
  · cases e
  · injection e with e1 _ _
    injection e1 with e1
    injection e1 with e1 _
    subst e1
    refine ⟨hz, fun y ey => by rw [hx] at ey; injection ey with ey; simp only at ey; rw [← ey]; exact heap_some_lt hg, _, c', hx, .inr ⟨g, cur, rfl, hg, fun j i hj hi => ?_⟩⟩
    rw [← Array.getElem?_toList, ← List.getElem?_take_of_lt (show j * 5 + i < n * 5 by omega), ht, fullM_at n k j i (by omega) hi, hk]
/-- five cells more are written -/
theorem five_set {D : Array Value} {k cap : Nat} {a0 a1 a2 a3 a4 : Value} (hD : D.size = cap * 5) (hk : k < cap) (h : ∀ j i, j < k → i < 5 → D[j * 5 + i]? = [a0, a1, a2, a3, a4][i]?) :
    ∀ j i, j < k + 1 → i < 5 → (((((D.setIfInBounds (k * 5) a0).setIfInBounds (k * 5 + 1) a1).setIfInBounds (k * 5 + 2) a2).setIfInBounds (k * 5 + 3) a3).setIfInBounds (k * 5 + 4) a4)[j * 5 + i]? = [a0, a1, a2, a3, a4][i]? := by
  intro j i hj hi
  by_cases e : j = k
  · subst e
    have : i = 0 ∨ i = 1 ∨ i = 2 ∨ i = 3 ∨ i = 4 := by omega
    rcases this with rfl | rfl | rfl | rfl | rfl
    · rw [Array.getElem?_setIfInBounds_ne (by omega), Array.getElem?_setIfInBounds_ne (by omega), Array.getElem?_setIfInBounds_ne (by omega), Array.getElem?_setIfInBounds_ne (by omega), Array.getElem?_setIfInBounds, if_pos (by omega), if_pos (by omega)]; rfl
    · rw [Array.getElem?_setIfInBounds_ne (by omega), Array.getElem?_setIfInBounds_ne (by omega), Array.getElem?_setIfInBounds_ne (by omega), Array.getElem?_setIfInBounds, if_pos (by omega), if_pos (by simp; omega)]; rfl
    · rw [Array.getElem?_setIfInBounds_ne (by omega), Array.getElem?_setIfInBounds_ne (by omega), Array.getElem?_setIfInBounds, if_pos (by omega), if_pos (by simp; omega)]; rfl
    · rw [Array.getElem?_setIfInBounds_ne (by omega), Array.getElem?_setIfInBounds, if_pos (by omega), if_pos (by simp; omega)]; rfl
    · rw [Array.getElem?_setIfInBounds, if_pos (by omega), if_pos (by simp; omega)]; rfl
  · rw [Array.getElem?_setIfInBounds_ne (by omega), Array.getElem?_setIfInBounds_ne (by omega), Array.getElem?_setIfInBounds_ne (by omega), Array.getElem?_setIfInBounds_ne (by omega), Array.getElem?_setIfInBounds_ne (by omega)]
    exact h j i (by omega) hi
theorem BkIn.opLM {w w2 : World} {bb N came : Nat} {kv wv vM vO vT vS : Value} {ts : List TE} {ss : List (List UInt8)} {ms : List ME} {os : List Nat} {o : Obj} (h : BkIn w bb N came kv wv ts ss ms os vM vO vT vS) {lv : Value} {m gL cL k : Nat} (hO : w.ownsRow 0 26 5 lv m (fullM m k)) (hown : w2.ownsRow 0 26 5 (.slice (some ⟨gL, 0, none⟩) (m + 1) cL) (m + 1) (fullM (m + 1) k))
    (hgr : (lv.ownBlock = some gL ∧ (w.alloc o).grownBy w2 (some gL)) ∨ (gL = (w.alloc o).heap.size ∧ (w.alloc o).grownBy w2 none)) (hx : ∀ x ∈ ms, (∀ g, x.v.ownBlock = some g → lv.ownBlock ≠ some g) ∨ (x.k = k ∧ x.n ≤ m + 1)) : BkIn w2 bb N came kv wv ts ss ms os vM vO vT vS ∧ Chg (fun k => lv.ownBlock = some k) w w2 := by
  have hc := app_chg hgr
  have far : ∀ {g : Nat} {cur : Array Value} {e : TypeId}, 26 ≠ e → w.heap[g]? = some (.cells cur e (0, 0)) → ¬ lv.ownBlock = some g := fun he e e' => not_own hO e he e'
  refine ⟨⟨hc.some_ h.blk (far (by decide) h.blk), ownsRow_chg h.rT hc fun g cur e _ => far (by decide) e, ownsRow_chg h.rS hc fun g cur e _ => far (by decide) e, ownsRow_chg h.rM hc fun g cur e _ => far (by decide) e, ownsRow_chg h.rO hc fun g cur e _ => far (by decide) e, fun x hm => ⟨?_, (h.mt x hm).2⟩, fun x hm => ?_⟩, hc⟩
  · obtain ⟨_, cur, e, _⟩ := id (h.mt x hm).1
    exact (h.mt x hm).1.chg hc (far (by decide) e)
  · rcases hx x hm with hx | ⟨r1, r2⟩
    · exact (h.mm x hm).chg hc fun g cur e e' => hx g e'
    · rcases hgr with ⟨g1, g2⟩ | ⟨g1, g2⟩
      · obtain ⟨hz, hlt, a, c, e, r⟩ := id (h.mm x hm)
        rcases r with r | ⟨g, cur, ea, eg, r⟩
        · exact ⟨hz, fun y ey => Nat.lt_of_lt_of_le (hlt y ey) hc.size, a, c, e, .inl r⟩
        · by_cases e9 : g = gL
          · subst e9
            exact row_fullM hown (by rw [e, ea]) r2 r1 hz
          · refine (h.mm x hm).chg (Chg.trans (A := fun j => j = gL) (Chg.below ((Below.refl _ _).alloc (Nat.le_refl _) o)) (Chg.grown g2) (fun j _ e8 => by injection e8 with e8; exact e8.symm)) fun g8 c8 e8 e7 e6 => ?_
            rw [e, ea] at e7
            injection e7 with e7
            simp only at e7
            exact e9 (e7.trans e6)
      · have hc0 : Chg (fun _ => False) w w2 := (Chg.below (A := fun _ => False) ((Below.refl _ _).alloc (Nat.le_refl _) o)).trans (Chg.grown g2) (fun k _ e => by cases e)
        exact (h.mm x hm).chg hc0 fun _ _ _ _ => id

/-- the rest of the books, told as one -/
structure MPost (w w' : World) (bb N came : Nat) (kv wv v vM vO vT vS : Value) (rows : List (PMail × Nat)) (ts : List TE) (ss : List (List UInt8)) (ms : List ME) (os : List Nat) (ts' : List TE) (ms' : List ME) (vM' vO' vT' vS' : Value) : Prop where
  bk : BkIn w' bb (N + rows.length + 1) came kv wv (ts ++ ts') (ss ++ ts'.map TE.s) (ms ++ ms') (os ++ ms'.map ME.k) vM' vO' vT' vS'
  lenT : ts'.length = 4 * rows.length
  lenM : ms'.length = 4
  newT : ∀ x ∈ ts', (∃ r ∈ rows, x.g = r.2) ∨ w.heap.size ≤ x.g
  newM : ∀ x ∈ ms', ∀ g, x.v.ownBlock = some g → v.ownBlock = some g ∨ w.heap.size ≤ g
  nT : OwnNew w vT vT'
  nS : OwnNew w vS vS'
  nM : OwnNew w vM vM'
  nO : OwnNew w vO vO'
  chg : Chg (fun k => k = bb ∨ (∃ r ∈ rows, k = r.2) ∨ v.ownBlock = some k ∨ vT.ownBlock = some k ∨ vS.ownBlock = some k ∨ vM.ownBlock = some k ∨ vO.ownBlock = some k) w w'

end Go.Proofs.YtgjjjdccbpjnfaaGreatDoor
