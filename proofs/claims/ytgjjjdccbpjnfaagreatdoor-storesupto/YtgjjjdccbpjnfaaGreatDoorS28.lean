import Derived.Test.YtgjjjdccbpjnfaaGreatDoorS27
import Derived.Deep.RegionLaw

/- The books: a list of mail is its owner's. -/
namespace Go.Proofs.YtgjjjdccbpjnfaaGreatDoor
open Go.RowKit

theorem full_mark {w : World} {a : Option Addr} {n c k : Nat} (h : w.ownsRow 0 26 5 (.slice a n c) n (fullM n k)) (hz : n ≤ 2097152 ∧ k ≤ 1099511627776) : MarkMl w ⟨.slice a n c, n, k⟩ := by
  rcases h.2 with ⟨e, h0⟩ | ⟨g, cap, cur, e, _⟩
  · exact ⟨hz, fun y ey => (by rw [show (⟨.slice a n c, n, k⟩ : ME).v = _ from e] at ey; cases ey), a, c, rfl, .inl h0⟩
  · injection e with e1 _ e3
    subst e1 e3
    exact row_fullM h rfl (Nat.le_refl _) rfl hz
theorem ofDrew {w w2 : World} {o : Obj} {v : Value} {g : Nat} (h : (v.ownBlock = some g ∧ (w.alloc o).drew.grownBy w2 (some g)) ∨ (g = (w.alloc o).drew.heap.size ∧ (w.alloc o).drew.grownBy w2 none)) : (v.ownBlock = some g ∧ (w.alloc o).grownBy w2 (some g)) ∨ (g = (w.alloc o).heap.size ∧ (w.alloc o).grownBy w2 none) :=
  h.imp (fun h => ⟨h.1, ⟨h.2.os, h.2.tape, h.2.output, h.2.size, h.2.block⟩⟩) (fun h => ⟨h.1, ⟨h.2.os, h.2.tape, h.2.output, h.2.size, h.2.block⟩⟩)
theorem info_mails : (Tryz.prog.info? 40).map (fun i => (i.zero, i.size, i.bytes)) = some (some (.slice none 0 0), 1, 24) := by kernel_rfl

set_option maxHeartbeats 8000000 in
set_option maxRecDepth 100000 in
theorem marks_any (s bb N came : Nat) (kv wv v vM vO vT vS : Value) (rows : List (PMail × Nat)) (ts : List TE) (ss : List (List UInt8)) (ms : List ME) (os : List Nat) (w : World) (h : BkIn w bb N came kv wv ts ss ms os vM vO vT vS) (hr : RowsIn s w v rows) (hd1 : ∀ x ∈ ts, ∀ r ∈ rows, x.g ≠ r.2) (hd2 : ∀ r ∈ rows, vS.ownBlock ≠ some r.2) (hd3 : ∀ x ∈ ms, ∀ g, x.v.ownBlock = some g → v.ownBlock ≠ some g)
    (hz : ∀ r ∈ rows, r.1.tos.length ≤ 255) (hrl : rows.length ≤ 1048576) (hN : N ≤ 549755813888) (htl : ts.length ≤ 549755813888) (hsl : ss.length ≤ 549755813888) (hml : ms.length ≤ 549755813888) (hol : os.length ≤ 549755813888) :
    Calls Tryz.prog 86 #[.pointer (some ⟨bb, 0, none⟩), v] w fun e w' => e = .returned (.tuple #[]) ∧ ∃ ts' ms' vM' vO' vT' vS', MPost w w' bb N came kv wv v vM vO vT vS rows ts ss ms os ts' ms' vM' vO' vT' vS' := by
  have M0 : M1 w w s bb N came kv wv v vM vO vT vS rows ts ss ms os 0 [] vT vS :=
    ⟨by simpa using h, rfl, hr.row, fun j hj _ => To_block hr (List.getElem_mem hj), fun x hx j hj _ => hd1 x (by simpa using hx) _ (List.getElem_mem hj), fun j hj _ => hd2 _ (List.getElem_mem hj), fun x hx => by simp at hx, OwnNew.refl _ _, OwnNew.refl _ _, Chg.refl _ _⟩
  obtain ⟨av, cv, ev⟩ : ∃ a c, v = .slice a rows.length c := by
    rcases hr.row.2 with ⟨e, h0⟩ | ⟨g, cap, cur, e, _⟩
    · exact ⟨_, _, by rw [h0]; exact e⟩
    · exact ⟨_, _, e⟩
  have HM0 := Lib.hid M0
  have HAP := Lib.hid hr.apart
  have HD3 := Lib.hid hd3
  have HZ := Lib.hid hz
  have HEV := Lib.hid ev
  rw [ev]
  clear M0 h hr hd1 hd2 hd3 hz ev
  go_enter Tryz.func86, Tryz.ntmps86
  go_wp2_with fail
  go_loopw [4] (fun i w' => ∃ (k : Nat) (ts1 : List TE) (vT1 vS1 : Value), k ≤ rows.length ∧ i = .int .i64 k ∧ Hid (M1 w w' s bb N came kv wv v vM vO vT vS rows ts ss ms os k ts1 vT1 vS1)) (fun i _ => rows.length - (intOf i).toNat)
  case atStart => exact ⟨0, [], vT, vS, Nat.zero_le _, rfl, HM0⟩
  case round =>
    clear HM0
    obtain ⟨k, ts1, vT1, vS1, hk, rfl, HM⟩ := hrel
    by_cases hlt : k < rows.length
    · have hlti : (k : Int) < (rows.length : Int) := by omega
      obtain ⟨g, cap, eg, cg⟩ := row_to HM.out.row hlt
      rw [HEV.out] at eg
      injection eg with eg1 _ eg3
      subst eg1 eg3
      obtain ⟨cur, ec, hcz⟩ := HM.out.tos k hlt (Nat.le_refl _)
      have hz5 := HZ.out rows[k] (List.getElem_mem hlt)
      have hl1 := HM.out.len
      have HTX := Lib.hid (texts_any bb (N + k) came rows[k].2 rows[k].1.tos.length kv wv vM vO vT1 vS1 (ts ++ ts1) (ss ++ ts1.map TE.s) ms os wr cur HM.out.bk ec hcz (fun x hx => HM.out.far x hx k hlt (Nat.le_refl _)) (HM.out.farS k hlt (Nat.le_refl _)) hz5 (by omega) (by rw [List.length_append]; omega) (by rw [List.length_append, List.length_map]; omega))
      have cg' : wr.cell? ⟨g, k * 5 + 3, none⟩ = some (.slice (some ⟨rows[k].2, 0, none⟩) rows[k].1.tos.length rows[k].1.tos.length) := cg
      clear cg ec hcz hz5
      go_wp2_with fail
      refine HTX.out.mono ?_
      rintro e w2 ⟨rfl, ts2, vT2, vS2, hB, hl2, hx2, hT2, hS2, hC2⟩
      have HM2 := Lib.hid (HM.out.step hlt HAP.out hB hl2 hx2 hT2 hS2 hC2)
      clear hB hl2 hx2 hT2 hS2 hC2
      go_wp2_with fail
      exact ⟨⟨k + 1, _, _, _, by omega, by go_num, HM2⟩, by simp [intOf]; omega⟩
    · have hk9 : k = rows.length := by omega
      subst hk9
      have c0 : wr.cell? ⟨bb, 0, none⟩ = some (.int .i64 ((N + rows.length : Nat) : Int)) := by rw [Lib.cell_of_heap HM.out.bk.blk]; rfl
      have f0 := Lib.frozen_of_heap HM.out.bk.blk 0
      have hwr : IntKind.i64.wrap ((N : Int) + (rows.length : Int) + 1) = (N : Int) + (rows.length : Int) + 1 := by rw [IntKind.wrap_i64]; omega
      obtain ⟨N1, eN1⟩ : ∃ N1, N + rows.length + 1 = N1 := ⟨_, rfl⟩
      have hN1 : (N : Int) + (rows.length : Int) + 1 = (N1 : Int) := by omega
      rw [hN1] at hwr
      have hng : IntKind.i64.wrap (-(N1 : Int)) = -(N1 : Int) := by rw [IntKind.wrap_i64]; omega
      obtain ⟨W1, hW1⟩ : ∃ W1 : World, wr.setCell ⟨bb, 0, none⟩ (.int .i64 (N1 : Int)) = W1 := ⟨_, rfl⟩
      obtain ⟨W2, hW2⟩ : ∃ W2 : World, W1.alloc (.cells #[.int .i64 (-(N1 : Int)), .int .i64 0, .string ⟨#[]⟩, .slice none 0 0, .string ⟨#[]⟩] 26) = W2 := ⟨_, rfl⟩
      have S1 : Same bb wr W1 := by rw [← hW1]; exact (Same.refl _ _).setCell _
      have A1 : BkIn W1 bb N1 came kv wv (ts ++ ts1) (ss ++ ts1.map TE.s) ms os vM vO vT1 vS1 := HM.out.bk.reblk S1 (by rw [← hW1]; exact heap_setCell_same wr bb 0 _ _ _ HM.out.bk.blk)
      have B2 : Below W1.heap.size W1 W2 := by rw [← hW2]; exact (Below.refl _ _).alloc (Nat.le_refl _) _
      have HA2 := Lib.hid (A1.keep B2)
      have hmi : W2.heap[W1.heap.size]? = some (.cells #[.int .i64 (-(N1 : Int)), .int .i64 0, .string ⟨#[]⟩, .slice none 0 0, .string ⟨#[]⟩] 26 (0, 0)) := by rw [← hW2]; exact heap_alloc_new W1 _
      have hsz1 : W1.heap.size = wr.heap.size := S1.1
      have R2 : Hid (W2.ownsRow s 26 5 v rows.length (mailRow (rows.map rowVal))) := Lib.hid (ownsRow_keeps (ownsRow_chg HM.out.row (Chg.same S1) fun g cur e _ e' => by rw [e', HM.out.bk.blk] at e; simp at e) fun g cur e _ => below_some B2 e)
      have C2 : Hid (Chg (fun k => k = bb ∨ (∃ r ∈ rows, k = r.2) ∨ vT.ownBlock = some k ∨ vS.ownBlock = some k) w W2) := Lib.hid ((HM.out.chg.trans (Chg.same S1) (fun _ _ e => .inl e)).trans (Chg.below (A := fun _ => False) B2) (fun _ _ f => f.elim))
      have HMI := Lib.hid hmi
      have q0 : W1.cell? ⟨bb, 0, none⟩ = some (.int .i64 (N1 : Int)) := by rw [Lib.cell_of_heap A1.blk]; rfl
      have HNW := Lib.hid HM.out.news
      have HL1 := Lib.hid HM.out.len
      have HNT := Lib.hid HM.out.nT
      have HNS := Lib.hid HM.out.nS
      have hszw : w.heap.size ≤ W1.heap.size := by rw [hsz1]; exact HM.out.chg.size
      have HVL : Hid (∀ g, v.ownBlock = some g → g < W1.heap.size) := Lib.hid (fun g e => by
        obtain ⟨c9, e9⟩ := own_tag HM.out.row e
        rw [hsz1]
        exact heap_some_lt e9)
      have HEN := Lib.hid eN1
      have HW2 := Lib.hid hW2
      clear S1 A1 B2 hmi hsz1 HM eN1 hW2
      go_wp2_with fail
      rw [HW2.out]
      clear q0 c0 f0 hW1
      go_loopw [6] (fun i w' => ∃ k : Nat, k ≤ rows.length ∧ i = .int .i64 k ∧ Hid (Chg (fun k => v.ownBlock = some k) W2 w') ∧ Hid ((rows.length = 0 ∧ w' = W2) ∨ ∃ g cap D, v = .slice (some ⟨g, 0, none⟩) rows.length cap ∧ w'.heap[g]? = some (.cells D 26 (0, 0)) ∧ rows.length ≤ cap ∧ cap ≤ maxLen ∧ D.size = cap * 5 ∧ ∀ j i, j < k → i < 5 → D[j * 5 + i]? = (markM N1)[i]?)) (fun i _ => rows.length - (intOf i).toNat)
      case atStart =>
        refine ⟨0, Nat.zero_le _, rfl, Lib.hid (Chg.refl _ _), Lib.hid ?_⟩
        rcases R2.out.2 with ⟨_, h0⟩ | ⟨g, cap, D, e, _, hg, hle, hcm, hs, _⟩
        · exact .inl ⟨h0, rfl⟩
        · exact .inr ⟨g, cap, D, e, hg, hle, hcm, hs, fun j i hj => by omega⟩
      case round =>
        obtain ⟨k, hk, rfl, HC, HD⟩ := hrel
        by_cases hlt : k < rows.length
        · have hlti : (k : Int) < (rows.length : Int) := by omega
          obtain ⟨g, cap, D, eg, hg, hle, hcm, hDs, hDm⟩ := HD.out.resolve_left (by omega)
          have hev := HEV.out
          rw [eg] at hev
          injection hev with hev1 _ hev3
          subst hev1 hev3
          have mi : wr.heap[W1.heap.size]? = some (.cells #[.int .i64 (-(N1 : Int)), .int .i64 0, .string ⟨#[]⟩, .slice none 0 0, .string ⟨#[]⟩] 26 (0, 0)) := HC.out.some_ HMI.out (fun e => by have := HVL.out _ e; omega)
          have i0 : wr.cell? ⟨W1.heap.size, 0, none⟩ = some (.int .i64 (-(N1 : Int))) := by rw [Lib.cell_of_heap mi]; rfl
          have i1 : wr.cell? ⟨W1.heap.size, 1, none⟩ = some (.int .i64 0) := by rw [Lib.cell_of_heap mi]; rfl
          have i2 : wr.cell? ⟨W1.heap.size, 2, none⟩ = some (.string ⟨#[]⟩) := by rw [Lib.cell_of_heap mi]; rfl
          have i3 : wr.cell? ⟨W1.heap.size, 3, none⟩ = some (.slice none 0 0) := by rw [Lib.cell_of_heap mi]; rfl
          have i4 : wr.cell? ⟨W1.heap.size, 4, none⟩ = some (.string ⟨#[]⟩) := by rw [Lib.cell_of_heap mi]; rfl
          have ex : ∀ y, y < 5 → ∃ u, wr.cell? ⟨g, k * 5 + y, none⟩ = some u := fun y hy => by rw [Lib.cell_of_heap hg]; exact ⟨_, Array.getElem?_eq_getElem (by omega)⟩
          obtain ⟨u0, x0⟩ := ex 0 (by omega)
          rw [Nat.add_zero] at x0
          obtain ⟨u1, x1⟩ := ex 1 (by omega)
          obtain ⟨u2, x2⟩ := ex 2 (by omega)
          obtain ⟨u3, x3⟩ := ex 3 (by omega)
          obtain ⟨u4, x4⟩ := ex 4 (by omega)
          have y0 := Lib.frozen_of_heap hg (k * 5)
          have y1 := Lib.frozen_of_heap hg (k * 5 + 1)
          have y2 := Lib.frozen_of_heap hg (k * 5 + 2)
          have y3 := Lib.frozen_of_heap hg (k * 5 + 3)
          have y4 := Lib.frozen_of_heap hg (k * 5 + 4)
          have HG := Lib.hid hg
          have HF := Lib.hid (five_set (a0 := .int .i64 (-(N1 : Int))) (a1 := .int .i64 0) (a2 := .string (bs [])) (a3 := .slice none 0 0) (a4 := .string (bs [])) hDs (by omega : k < cap) hDm)
          have HVO : Hid (v.ownBlock = some g) := Lib.hid (by rw [eg]; rfl)
          have HEG := Lib.hid eg
          clear ex mi hg hDm eg
          go_wp2_with fail
          refine ⟨⟨k + 1, by omega, by go_num, Lib.hid (HC.out.trans (Chg.same (p := g) ?_) (fun y _ e => by rw [e]; exact HVO.out)), Lib.hid (.inr ⟨g, cap, _, HEG.out, heap_setCell_same _ g (k * 5 + 4) _ _ _ (heap_setCell_same _ g (k * 5 + 3) _ _ _ (heap_setCell_same _ g (k * 5 + 2) _ _ _ (heap_setCell_same _ g (k * 5 + 1) _ _ _ (heap_setCell_same _ g (k * 5) _ _ _ HG.out)))), hle, hcm, by simp [hDs], HF.out⟩)⟩, by simp [intOf]; omega⟩
          exact (((((Same.refl _ _).setCell _).setCell _).setCell _).setCell _).setCell _
        · have hk9 : k = rows.length := by omega
          subst hk9
          have A3 : Hid (BkIn wr bb N1 came kv wv (ts ++ ts1) (ss ++ ts1.map TE.s) (ms ++ []) (os ++ ([] : List ME).map ME.k) vM vO vT1 vS1) := Lib.hid (by
            simp only [List.map_nil, List.append_nil]
            refine HA2.out.chg HC.out (not_own R2.out HA2.out.blk (by decide)) (fun g e e' => ?_) (fun g e e' => ?_) (fun g e e' => ?_) (fun g e e' => ?_) (fun x hx e' => ?_) (fun x hx g cur e e1 e' => HD3.out x hx g e1 e')
            · obtain ⟨c9, e9⟩ := own_tag HA2.out.rT e
              exact not_own R2.out e9 (by decide) e'
            · obtain ⟨c9, e9⟩ := own_tag HA2.out.rS e
              exact not_own R2.out e9 (by decide) e'
            · obtain ⟨c9, e9⟩ := own_tag HA2.out.rM e
              exact not_own R2.out e9 (by decide) e'
            · obtain ⟨c9, e9⟩ := own_tag HA2.out.rO e
              exact not_own R2.out e9 (by decide) e'
            · obtain ⟨_, c9, e9, _⟩ := (HA2.out.mt x hx).1
              exact not_own R2.out e9 (by decide) e')
          have O3 : Hid (wr.ownsRow 0 26 5 v rows.length (fullM rows.length N1)) := Lib.hid (by
            rcases HD.out with ⟨h0, rfl⟩ | ⟨g, cap, D, eg, hg, hle, hcm, hDs, hDm⟩
            · have := (R2.out.mono (Nat.zero_le _)).2
              refine ⟨by rw [fullM_len], ?_⟩
              rcases this with r | ⟨g, cap, cur, e1, e2, e3, e4, e5, e6, e7⟩
              · exact .inl r
              · exact .inr ⟨g, cap, cur, e1, e2, e3, e4, e5, e6, by rw [h0]; rfl⟩
            · refine ⟨by rw [fullM_len], .inr ⟨g, cap, D, eg, Nat.zero_le _, hg, hle, hcm, hDs, ?_⟩⟩
              apply List.ext_getElem?
              intro y
              by_cases hy : y < rows.length * 5
              · rw [List.getElem?_take_of_lt hy, Array.getElem?_toList]
                have e1 := hDm (y / 5) (y % 5) (by omega) (by omega)
                have e2 := fullM_at rows.length N1 (y / 5) (y % 5) (by omega) (by omega)
                rw [show y / 5 * 5 + y % 5 = y by omega] at e1 e2
                rw [e1, e2]
              · rw [List.getElem?_eq_none (by rw [List.length_take]; omega), List.getElem?_eq_none (by rw [fullM_len]; omega)])
          have I3 : Hid (wr.heap[W1.heap.size]? = some (.cells #[.int .i64 (-(N1 : Int)), .int .i64 0, .string ⟨#[]⟩, .slice none 0 0, .string ⟨#[]⟩] 26 (0, 0))) := Lib.hid (HC.out.some_ HMI.out (fun e => by have := HVL.out _ e; omega))
          have C3 : Hid (Chg (fun k => k = bb ∨ (∃ r ∈ rows, k = r.2) ∨ v.ownBlock = some k ∨ vT.ownBlock = some k ∨ vS.ownBlock = some k ∨ vM.ownBlock = some k ∨ vO.ownBlock = some k) w wr) := Lib.hid ((C2.out.mono (fun y _ e => by
            rcases e with e | e | e | e
            · exact .inl e
            · exact .inr (.inl e)
            · exact .inr (.inr (.inr (.inl e)))
            · exact .inr (.inr (.inr (.inr (.inl e)))))).trans HC.out (fun y _ e => .inr (.inr (.inl e))))
          obtain ⟨im, him, hzm0, hzm1, hzm2⟩ := info_parts info_mails
          obtain ⟨ii, hii, hzi0, hzi1, hzi2⟩ := info_parts info_int'
          obtain ⟨il, hil, hzl0, hzl1, hzl2⟩ := info_parts info_mail
          clear HD HC HA2 R2 C2 HMI HW2
          go_wp2_with fail
          go_loopw [1, 7] (fun l i w' => ∃ (j : Nat) (ms' : List ME) (a : Option Addr) (c : Nat) (vM' vO' : Value), j ≤ 4 ∧ i = .int .i64 j ∧ l = .slice a (rows.length + j) c ∧ ms'.length = j ∧ Hid (BkIn w' bb N1 came kv wv (ts ++ ts1) (ss ++ ts1.map TE.s) (ms ++ ms') (os ++ ms'.map ME.k) vM' vO' vT1 vS1) ∧ Hid (w'.ownsRow 0 26 5 (.slice a (rows.length + j) c) (rows.length + j) (fullM (rows.length + j) N1)) ∧ Hid (∀ x ∈ ms', x.k = N1 ∧ x.n ≤ rows.length + j ∧ ∀ g, x.v.ownBlock = some g → v.ownBlock = some g ∨ w.heap.size ≤ g) ∧ Hid (∀ x ∈ ms, ∀ g, x.v.ownBlock = some g → (Value.slice a (rows.length + j) c).ownBlock ≠ some g) ∧ Hid (∀ g, (Value.slice a (rows.length + j) c).ownBlock = some g → v.ownBlock = some g ∨ W1.heap.size < g) ∧ Hid (w'.heap[W1.heap.size]? = some (.cells #[.int .i64 (-(N1 : Int)), .int .i64 0, .string ⟨#[]⟩, .slice none 0 0, .string ⟨#[]⟩] 26 (0, 0))) ∧ Hid (OwnNew w vM vM') ∧ Hid (OwnNew w vO vO') ∧ Hid (Chg (fun k => k = bb ∨ (∃ r ∈ rows, k = r.2) ∨ v.ownBlock = some k ∨ vT.ownBlock = some k ∨ vS.ownBlock = some k ∨ vM.ownBlock = some k ∨ vO.ownBlock = some k) w w')) (fun _ i _ => 4 - (intOf i).toNat)
          case atStart => exact ⟨0, [], av, cv, vM, vO, by omega, rfl, rfl, rfl, A3, Lib.hid (by rw [Nat.add_zero, ← HEV.out]; exact O3.out), Lib.hid (fun x hx => by simp at hx), Lib.hid (by rw [Nat.add_zero, ← HEV.out]; exact HD3.out), Lib.hid (by rw [Nat.add_zero, ← HEV.out]; exact fun g e => .inl e), I3, Lib.hid (OwnNew.refl _ _), Lib.hid (OwnNew.refl _ _), C3⟩
          case round =>
            clear A3 O3 I3 C3
            obtain ⟨j, ms', a, c, vM', vO', hj, rfl, rfl, hml', HA, HO, HX, HXM, HLV, HI, HNM, HNO, HC⟩ := hrel
            by_cases hj4 : j < 4
            · have hj4i : (j : Int) < 4 := by omega
              have hlenM : (ms ++ ms').length ≤ 549755813892 := by rw [List.length_append]; omega
              have hlenO : (os ++ ms'.map ME.k).length ≤ 549755813892 := by rw [List.length_append, List.length_map]; omega
              obtain ⟨MM, eMM⟩ : ∃ MM, ms ++ ms' = MM := ⟨_, rfl⟩
              obtain ⟨OO, eOO⟩ : ∃ OO, os ++ ms'.map ME.k = OO := ⟨_, rfl⟩
              rw [eMM] at HA hlenM
              rw [eOO] at HA hlenO
              have q5 : wr.cell? ⟨bb, 5, none⟩ = some vM' := by rw [Lib.cell_of_heap HA.out.blk]; rfl
              have rM := HA.out.rM
              obtain ⟨aM, nM, cM, eM⟩ := own_slice rM
              subst eM
              have HEE := Lib.hid (And.intro eMM eOO)
              clear eMM eOO
              go_wp2_with (first
                | (at_builtin; refine wpList_append_sharp _ rfl _ _ 61 rfl 0 40 im _ 1 24 Tryz.underlying61 him hzm0 hzm1 hzm2 rfl (by decide) _ _ _ rfl (rM.alloc _) ⟨wr.heap.size, 0, none⟩ 1 1 [.slice a (rows.length + j) c] rfl rfl ?c1 ?c2 (by decide) ?c3 ?c4 (Nat.zero_le _) ?_)
                | fail)
              case c1 => exact World.news_of_block (cs := #[.slice a (rows.length + j) c]) (t := 40) (fr := (0, 0)) (heap_alloc_new wr _)
              case c2 => intro u hu; simp at hu; subst hu; rfl
              case c3 => unfold maxLen; omega
              case c4 => omega
              intro gM capM w2 hownM hgrM
              have hgM : ((Value.slice aM nM cM).ownBlock = some gM ∧ (wr.alloc (.cells #[.slice a (rows.length + j) c] 40)).grownBy w2 (some gM)) ∨ (gM = (wr.alloc (.cells #[.slice a (rows.length + j) c] 40)).heap.size ∧ (wr.alloc (.cells #[.slice a (rows.length + j) c] 40)).grownBy w2 none) := hgrM.imp id (fun h => ⟨by simpa using h.1, h.2⟩)
              have hc2 := app_chg hgM
              have b2 := hc2.some_ HA.out.blk (not_own rM HA.out.blk (by decide))
              have q5' : w2.cell? ⟨bb, 5, none⟩ = some (.slice aM nM cM) := by rw [Lib.cell_of_heap b2]; rfl
              have f5' := Lib.frozen_of_heap b2 5
              obtain ⟨A3, C3⟩ := HA.out.opM (x := ⟨.slice a (rows.length + j) c, rows.length + j, N1⟩) (full_mark HO.out ⟨by omega, by have := HEN.out; omega⟩) hownM hgM
              have O3 := ownsRow_chg HO.out C3 fun y cur9 e e' => by
                rintro (e9 | e9)
                · rw [e9, HA.out.blk] at e; simp at e
                · exact not_own rM e (by decide) e9
              have I3 := C3.some_ HI.out (by
                rintro (e9 | e9)
                · have := HI.out; rw [e9, HA.out.blk] at this; simp at this
                · exact not_own rM HI.out (by decide) e9)
              obtain ⟨w3, hw3⟩ : ∃ w3, w2.setCell ⟨bb, 5, none⟩ (.slice (some ⟨gM, 0, none⟩) (MM.length + 1) capM) = w3 := ⟨_, rfl⟩
              rw [hw3] at A3 C3 O3 I3
              have NM3 := Lib.hid (HNM.out.trans (app_new (v' := .slice (some ⟨gM, 0, none⟩) (MM.length + 1) capM) rfl hgM) HC.out.size)
              have rO := A3.rO
              obtain ⟨aO, nO, cO, eO⟩ := own_slice rO
              subst eO
              have q6 : w3.drew.cell? ⟨bb, 6, none⟩ = some (.slice aO nO cO) := by show w3.cell? _ = _; rw [Lib.cell_of_heap A3.blk]; rfl
              have q0 : w3.drew.cell? ⟨bb, 0, none⟩ = some (.int .i64 (N1 : Int)) := by show w3.cell? _ = _; rw [Lib.cell_of_heap A3.blk]; rfl
              have q6a : ∀ o : Obj, (w3.alloc o).cell? ⟨bb, 6, none⟩ = some (.slice aO nO cO) := fun o => by rw [Lib.cell_of_heap (below_some ((Below.refl _ w3).alloc (Nat.le_refl _) o) A3.blk)]; rfl
              have HA3 := Lib.hid A3
              have HC3 := Lib.hid C3
              have HO3 := Lib.hid O3
              have HI3 := Lib.hid I3
              clear A3 C3 O3 I3 hgM hgrM hownM hc2 b2 rM q5
              go_wp2_with fail
              go_region_law (first
                | (refine step_append_sharp _ (by rfl) _ _ _ (by rfl) 0 3 ii _ 1 8 Tryz.underlying34 hii hzi0 hzi1 hzi2 rfl (by decide) (.slice aO nO cO) OO.length (natCells OO) (by rfl) ((rO.alloc _).drew) ⟨w3.heap.size, 0, none⟩ 1 1 [.int .i64 (N1 : Int)] (by rfl) (by rfl) (World.news_of_block (cs := #[.int .i64 (N1 : Int)]) (t := 3) (fr := (0, 0)) (heap_alloc_new w3 _)) (by simp [Value.oneCell']) (by decide) (by unfold maxLen; omega) (by omega) (Nat.zero_le _) ?_; intro gO capO w4 hownO hgrO; have hgO := ofDrew hgrO; have b4 := (app_chg hgO).some_ HA3.out.blk (not_own rO HA3.out.blk (by decide)); have q6' : w4.cell? ⟨bb, 6, none⟩ = some (.slice aO nO cO) := (by rw [Lib.cell_of_heap b4]; rfl); have f6' := Lib.frozen_of_heap b4 6; obtain ⟨A5, C5⟩ := HA3.out.opO (k0 := N1) hownO hgO; obtain ⟨w5, hw5⟩ : ∃ w5, w4.setCell ⟨bb, 6, none⟩ (.slice (some ⟨gO, 0, none⟩) (OO.length + 1) capO) = w5 := ⟨_, rfl⟩; rw [hw5] at A5 C5; have HA5 := Lib.hid A5; have HC5 := Lib.hid C5; have NO5 := Lib.hid (HNO.out.trans (app_new (v' := .slice (some ⟨gO, 0, none⟩) (OO.length + 1) capO) rfl hgO) (Nat.le_trans HC.out.size HC3.out.size)); clear A5 C5 hgO hgrO hownO b4))
              all_goals
                have O5 := ownsRow_chg HO3.out HC5.out fun y cur9 e e' => by
                  rintro (e9 | e9)
                  · rw [e9, HA3.out.blk] at e; simp at e
                  · exact not_own rO e (by decide) e9
                have I5 := HC5.out.some_ HI3.out (by
                  rintro (e9 | e9)
                  · have := HI3.out; rw [e9, HA3.out.blk] at this; simp at this
                  · exact not_own rO HI3.out (by decide) e9)
                have i0 : w5.cell? ⟨W1.heap.size, 0, none⟩ = some (.int .i64 (-(N1 : Int))) := by rw [Lib.cell_of_heap I5]; rfl
                have i1 : w5.cell? ⟨W1.heap.size, 1, none⟩ = some (.int .i64 0) := by rw [Lib.cell_of_heap I5]; rfl
                have i2 : w5.cell? ⟨W1.heap.size, 2, none⟩ = some (.string ⟨#[]⟩) := by rw [Lib.cell_of_heap I5]; rfl
                have i3 : w5.cell? ⟨W1.heap.size, 3, none⟩ = some (.slice none 0 0) := by rw [Lib.cell_of_heap I5]; rfl
                have i4 : w5.cell? ⟨W1.heap.size, 4, none⟩ = some (.string ⟨#[]⟩) := by rw [Lib.cell_of_heap I5]; rfl
                have HI5 := Lib.hid I5
                clear I5 rO q6 q0 q6a hw3 hw5 q5' f5' q6' f6'
                go_wp2_with (first
                  | (at_builtin; refine wpList_append_sharp _ rfl _ _ 40 rfl 0 26 il _ 5 72 Tryz.underlying40 hil hzl0 hzl1 hzl2 rfl (by decide) _ _ _ rfl (O5.alloc _) ⟨w5.heap.size, 0, none⟩ 1 1 [.int .i64 (-(N1 : Int)), .int .i64 0, .string ⟨#[]⟩, .slice none 0 0, .string ⟨#[]⟩] rfl rfl ?e1 ?e2 (by decide) ?e3 ?e4 (Nat.zero_le _) ?_)
                  | fail)
                case e1 => exact World.news_of_block (cs := #[.int .i64 (-(N1 : Int)), .int .i64 0, .string ⟨#[]⟩, .slice none 0 0, .string ⟨#[]⟩]) (t := 26) (fr := (0, 0)) (heap_alloc_new w5 _)
                case e2 => intro u hu; simp at hu; rcases hu with rfl | rfl | rfl | rfl | rfl <;> rfl
                case e3 => unfold maxLen; omega
                case e4 => omega
                intro gL capL w6 hownL hgrL
                have hgL : ((Value.slice a (rows.length + j) c).ownBlock = some gL ∧ (w5.alloc (.cells #[.int .i64 (-(N1 : Int)), .int .i64 0, .string ⟨#[]⟩, .slice none 0 0, .string ⟨#[]⟩] 26)).grownBy w6 (some gL)) ∨ (gL = (w5.alloc (.cells #[.int .i64 (-(N1 : Int)), .int .i64 0, .string ⟨#[]⟩, .slice none 0 0, .string ⟨#[]⟩] 26)).heap.size ∧ (w5.alloc (.cells #[.int .i64 (-(N1 : Int)), .int .i64 0, .string ⟨#[]⟩, .slice none 0 0, .string ⟨#[]⟩] 26)).grownBy w6 none) := hgrL.imp id (fun h => ⟨by simpa using h.1, h.2⟩)
                have hownR : w6.ownsRow 0 26 5 (.slice (some ⟨gL, 0, none⟩) (rows.length + j + 1) capL) (rows.length + j + 1) (fullM (rows.length + j + 1) N1) := by
                  rw [fullM_snoc]; exact hownL
                obtain ⟨A6, C6⟩ := HA5.out.opLM O5 hownR hgL (fun x hx => by
                  rcases List.mem_append.1 hx with hx | hx
                  · rw [← HEE.out.1] at hx
                    rcases List.mem_append.1 hx with hx | hx
                    · exact .inl (HXM.out x hx)
                    · obtain ⟨r1, r2, _⟩ := HX.out x hx
                      exact .inr ⟨r1, by omega⟩
                  · simp only [List.mem_singleton] at hx
                    subst hx
                    exact .inr ⟨rfl, by simp⟩)
                have wL := app_where hgL
                have sz5 : W1.heap.size < w5.heap.size := heap_some_lt HI5.out
                have HA6 := Lib.hid A6
                have HO6 := Lib.hid hownR
                have I6 := Lib.hid (C6.some_ HI5.out (fun e => by
                  rcases HLV.out _ e with h9 | h9
                  · have := HVL.out _ h9; omega
                  · omega))
                have HXM6 : Hid (∀ x ∈ ms, ∀ g, x.v.ownBlock = some g → (Value.slice (some ⟨gL, 0, none⟩) (rows.length + j + 1) capL).ownBlock ≠ some g) := Lib.hid (fun x hx g e e9 => by
                  injection e9 with e9
                  simp only at e9
                  subst e9
                  rcases wL with h9 | h9
                  · exact HXM.out x hx _ e h9
                  · have := (HA5.out.mm x (by rw [← HEE.out.1]; simp [hx])).2.1 _ e
                    omega)
                have HLV6 : Hid (∀ g, (Value.slice (some ⟨gL, 0, none⟩) (rows.length + j + 1) capL).ownBlock = some g → v.ownBlock = some g ∨ W1.heap.size < g) := Lib.hid (fun g e9 => by
                  injection e9 with e9
                  simp only at e9
                  subst e9
                  rcases wL with h9 | h9
                  · exact HLV.out _ h9
                  · right; omega)
                have HX6 : Hid (∀ x ∈ ms' ++ [(⟨.slice a (rows.length + j) c, rows.length + j, N1⟩ : ME)], x.k = N1 ∧ x.n ≤ rows.length + (j + 1) ∧ ∀ g, x.v.ownBlock = some g → v.ownBlock = some g ∨ w.heap.size ≤ g) := Lib.hid (fun x hx => by
                  rcases List.mem_append.1 hx with hx | hx
                  · obtain ⟨r1, r2, r3⟩ := HX.out x hx
                    exact ⟨r1, by omega, r3⟩
                  · simp only [List.mem_singleton] at hx
                    subst hx
                    refine ⟨rfl, by show rows.length + j ≤ _; omega, fun g e => ?_⟩
                    rcases HLV.out g e with h9 | h9
                    · exact .inl h9
                    · right; omega)
                have HC6 : Hid (Chg (fun k => k = bb ∨ (∃ r ∈ rows, k = r.2) ∨ v.ownBlock = some k ∨ vT.ownBlock = some k ∨ vS.ownBlock = some k ∨ vM.ownBlock = some k ∨ vO.ownBlock = some k) w w6) := Lib.hid (by
                  refine ((HC.out.trans HC3.out ?_).trans HC5.out ?_).trans C6 ?_
                  · rintro y hy (e9 | e9)
                    · exact .inl e9
                    · rcases HNM.out with h9 | ⟨y', h9, hk9⟩
                      · exact .inr (.inr (.inr (.inr (.inr (.inl (by rw [← h9]; exact e9))))))
                      · rw [h9] at e9; injection e9 with e9; omega
                  · rintro y hy (e9 | e9)
                    · exact .inl e9
                    · rcases HNO.out with h9 | ⟨y', h9, hk9⟩
                      · exact .inr (.inr (.inr (.inr (.inr (.inr (by rw [← h9]; exact e9))))))
                      · rw [h9] at e9; injection e9 with e9; omega
                  · intro y hy e9
                    rcases HLV.out _ e9 with h9 | h9
                    · exact .inr (.inr (.inl h9))
                    · omega)
                clear A6 C6 hgL hgrL hownL hownR O5 wL i0 i1 i2 i3 i4
                go_wp2_with fail
                refine ⟨⟨j + 1, ms' ++ [⟨.slice a (rows.length + j) c, rows.length + j, N1⟩], some ⟨gL, 0, none⟩, capL, _, _, by omega, by go_num, rfl, by simp; omega, ?_, HO6, HX6, HXM6, HLV6, I6, NM3, NO5, HC6⟩, by simp [intOf]; omega⟩
                rw [← List.append_assoc, HEE.out.1, List.map_append, ← List.append_assoc, HEE.out.2]
                exact HA6
            · have hj9 : j = 4 := by omega
              subst hj9
              go_wp2_with fail
              refine bodyPost_end (results_none rfl _ _ _) rfl ?_
              rw [← HEV.out]
              refine ⟨rfl, ts1, ms', vM', vO', vT1, vS1, ⟨?_, HL1.out, hml', HNW.out, fun x hx => (HX.out x hx).2.2, HNT.out, HNS.out, HNM.out, HNO.out, HC.out⟩⟩
              rw [HEN.out]
              exact HA.out
end Go.Proofs.YtgjjjdccbpjnfaaGreatDoor

/- The books: is every list as its owner made it, or as it came? -/
namespace Go.Proofs.YtgjjjdccbpjnfaaGreatDoor
open Go.RowKit

theorem own_row1 {w : World} {base n : Nat} {e : TypeId} {v : Value} {xs : List Value} (h : w.ownsRow base e 1 v n xs) : ∃ a c, v = .slice a n c ∧ ∀ i, i < n → ∃ g, a = some ⟨g, 0, none⟩ ∧ w.cell? ⟨g, i, none⟩ = xs[i]? := by
  rcases h.2 with ⟨e1, h0⟩ | ⟨g, cap, cur, e1, _, hg, _, _, _, ht⟩
  · exact ⟨none, 0, by rw [h0]; exact e1, fun i hi => by omega⟩
  · exact ⟨_, cap, e1, fun i hi => ⟨g, rfl, by rw [Lib.cell_of_heap hg, ← Array.getElem?_toList, ← List.getElem?_take_of_lt (show i < n * 1 by omega), ht]⟩⟩

set_option maxHeartbeats 4000000 in
set_option maxRecDepth 100000 in
theorem still_any (bb N came : Nat) (kv wv vM vO vT vS : Value) (ts : List TE) (ms : List ME) (K : List PMail) (w : World) (h : BkIn w bb N came kv wv ts (ts.map TE.s) ms (ms.map ME.k) vM vO vT vS) (hk : MailsAt w kv K) (hw : MailsAt w wv K) (hK : MailsSz K) (htl : ts.length ≤ 1099511627776) (hml : ms.length ≤ 1099511627776) :
    Calls Tryz.prog 25 #[.pointer (some ⟨bb, 0, none⟩)] w fun e w' => e = .returned (.bool true) ∧ Below w.heap.size w w' := by
  have c3 : w.drew.cell? ⟨bb, 3, none⟩ = some kv := by show w.cell? _ = _; rw [Lib.cell_of_heap h.blk]; rfl
  have c4 : w.drew.cell? ⟨bb, 4, none⟩ = some wv := by show w.cell? _ = _; rw [Lib.cell_of_heap h.blk]; rfl
  have c2 : w.cell? ⟨bb, 2, none⟩ = some (.bool false) := by rw [Lib.cell_of_heap h.blk]; rfl
  have c5 : w.cell? ⟨bb, 5, none⟩ = some vM := by rw [Lib.cell_of_heap h.blk]; rfl
  have c6 : w.cell? ⟨bb, 6, none⟩ = some vO := by rw [Lib.cell_of_heap h.blk]; rfl
  have c7 : w.cell? ⟨bb, 7, none⟩ = some vT := by rw [Lib.cell_of_heap h.blk]; rfl
  have c8 : w.cell? ⟨bb, 8, none⟩ = some vS := by rw [Lib.cell_of_heap h.blk]; rfl
  obtain ⟨ax, nx, cx, rfl⟩ : ∃ a n c, kv = .slice a n c := by obtain ⟨l, _, hr, _⟩ := hk; obtain ⟨a, c, e, _⟩ := hr.shape; exact ⟨_, _, _, e⟩
  obtain ⟨ay, ny, cy, rfl⟩ : ∃ a n c, wv = .slice a n c := by obtain ⟨l, _, hr, _⟩ := hw; obtain ⟨a, c, e, _⟩ := hr.shape; exact ⟨_, _, _, e⟩
  have HSQ := Lib.hid (sameQ_any K _ _ w.drew hk hw hK)
  obtain ⟨aT, cT, eT, hT⟩ := own_row1 h.rT
  obtain ⟨aS, cS, eS, hS⟩ := own_row1 h.rS
  obtain ⟨aM, cM, eM, hM⟩ := own_row1 h.rM
  obtain ⟨aO, cO, eO, hO⟩ := own_row1 h.rO
  subst eT eS eM eO
  have HT := Lib.hid hT
  have HS := Lib.hid hS
  have HM := Lib.hid hM
  have HO := Lib.hid hO
  have HH := Lib.hid h
  have HC : Hid (∀ W, Below w.heap.size w W → ∀ (c o : Nat) (u : Value), w.cell? ⟨c, o, none⟩ = some u → W.cell? ⟨c, o, none⟩ = some u) := Lib.hid (fun W hW c o u h => (hW.cell (p := ⟨c, o, none⟩) (by exact block_lt h)).trans h)
  have H2 := Lib.hid c2
  have H5 := Lib.hid c5
  have H6 := Lib.hid c6
  have H7 := Lib.hid c7
  have H8 := Lib.hid c8
  clear hk hw hK h hT hS hM hO c2 c5 c6 c7 c8
  go_enter Tryz.func25, Tryz.ntmps25
  go_wp2_with fail
  go_region_law (first
    | (go_simp; go_at_call 10; refine HSQ.out.mono ?_; rintro e w1 ⟨rfl, hb1⟩; have B1 := Lib.hid (show Below w.heap.size w w1 from ⟨hb1.os, hb1.tape, hb1.output, hb1.size, hb1.block⟩); clear hb1))
  all_goals
    have d2 := HC.out w1 B1.out _ _ _ H2.out
    clear c3 c4
    go_wp2_with fail
    clear d2
    go_loopw [4, 5] (fun i _ w' => ∃ k : Nat, k ≤ ts.length ∧ i = .int .i64 k ∧ Hid (Below w.heap.size w w')) (fun i _ _ => ts.length - (intOf i).toNat)
    case atStart => exact ⟨0, Nat.zero_le _, rfl, B1⟩
    case round =>
      clear B1
      obtain ⟨k, hk, rfl, HB⟩ := hrel
      have d7 := HC.out wr HB.out _ _ _ H7.out
      by_cases hlt : k < ts.length
      · have hlti : (k : Int) < (ts.length : Int) := by omega
        obtain ⟨gT, rfl, pT⟩ := HT.out k hlt
        obtain ⟨gS, rfl, pS⟩ := HS.out k (by rw [List.length_map]; exact hlt)
        rw [List.getElem?_map, List.getElem?_eq_getElem hlt] at pT
        have pS' : w.cell? ⟨gS, k, none⟩ = some (.string (bs ts[k].s)) := by rw [pS]; simp [textCells, hlt]
        have hmk := (HH.out.mt ts[k] (List.getElem_mem hlt)).1
        simp only [Option.map_some] at pT
        generalize ts[k] = x at pT pS' hmk
        obtain ⟨g, n, c, t⟩ := x
        obtain ⟨hnl, cur, eg, hcur⟩ := hmk
        simp only [TE.val] at pT pS' eg hcur hnl
        have HPT := Lib.hid pT
        have HPS := Lib.hid pS'
        have HEG := Lib.hid eg
        have HCU := Lib.hid hcur
        clear pT pS pS' eg hcur
        go_wp2_with fail
        clear d7
        go_loopw [5] (fun j w' => ∃ m : Nat, m ≤ n ∧ j = .int .i64 m ∧ Hid (Below w.heap.size w w')) (fun j _ => n - (intOf j).toNat)
        case atStart => exact ⟨0, Nat.zero_le _, rfl, HB⟩
        case round =>
          obtain ⟨m, hm, rfl, HB2⟩ := hrel
          have e7 := HC.out wr HB2.out _ _ _ H7.out
          have e8 := HC.out wr HB2.out _ _ _ H8.out
          have eT := HC.out wr HB2.out _ _ _ HPT.out
          have eS := HC.out wr HB2.out _ _ _ HPS.out
          rw [List.length_map] at e8
          by_cases hmn : m < n
          · have hmni : (m : Int) < (n : Int) := by omega
            have ec := HC.out wr HB2.out g m (.string (bs t)) (by rw [Lib.cell_of_heap HEG.out]; exact HCU.out m hmn)
            have tt : ((bs t).toList == (bs t).toList) = true := by simp
            go_wp2_with fail
            go_quiet (fail)
            go_wp2_with fail
            exact ⟨⟨m + 1, by omega, by go_num, Lib.hid (HB2.out.trans (below_drewN _ _ _))⟩, by simp [intOf]; omega⟩
          · have hm9 : m = n := by omega
            subst hm9
            go_wp2_with fail
            exact ⟨⟨k + 1, by omega, by go_num, HB2⟩, by simp [intOf]; omega⟩
      · have hk9 : k = ts.length := by omega
        subst hk9
        go_wp2_with fail
        clear d7
        go_loopw [6, 7, 8] (fun i _ _ w' => ∃ k : Nat, k ≤ ms.length ∧ i = .int .i64 k ∧ Hid (Below w.heap.size w w')) (fun i _ _ _ => ms.length - (intOf i).toNat)
        case atStart => exact ⟨0, Nat.zero_le _, rfl, HB⟩
        case round =>
          clear HB
          obtain ⟨k, hk, rfl, HB⟩ := hrel
          have d5 := HC.out wr HB.out _ _ _ H5.out
          by_cases hlt : k < ms.length
          · have hlti : (k : Int) < (ms.length : Int) := by omega
            obtain ⟨gM, rfl, pM⟩ := HM.out k hlt
            obtain ⟨gO, rfl, pO⟩ := HO.out k (by rw [List.length_map]; exact hlt)
            rw [List.getElem?_map, List.getElem?_eq_getElem hlt] at pM
            have pO' : w.cell? ⟨gO, k, none⟩ = some (.int .i64 (ms[k].k : Int)) := by rw [pO]; simp [natCells, hlt]
            have hmk := HH.out.mm ms[k] (List.getElem_mem hlt)
            simp only [Option.map_some] at pM
            generalize ms[k] = x at pM pO' hmk
            obtain ⟨xv, n, q⟩ := x
            obtain ⟨hnl, _, a, c, exv, hcur⟩ := hmk
            simp only at pM pO' exv hcur hnl
            subst exv
            have HPM := Lib.hid pM
            have HPO := Lib.hid pO'
            have HCU := Lib.hid hcur
            clear pM pO pO' hcur
            go_wp2_with fail
            clear d5
            go_loopw [7, 8] (fun j _ w' => ∃ m : Nat, m ≤ n ∧ j = .int .i64 m ∧ Hid (Below w.heap.size w w')) (fun j _ _ => n - (intOf j).toNat)
            case atStart => exact ⟨0, Nat.zero_le _, rfl, HB⟩
            case round =>
              obtain ⟨m, hm, rfl, HB2⟩ := hrel
              have e5 := HC.out wr HB2.out _ _ _ H5.out
              have eM := HC.out wr HB2.out _ _ _ HPM.out
              by_cases hmn : m < n
              · have hmni : (m : Int) < (n : Int) := by omega
                obtain ⟨g, cur, rfl, eg, hcu⟩ := HCU.out.resolve_left (by omega)
                have cc : ∀ i, i < 5 → wr.cell? ⟨g, m * 5 + i, none⟩ = (markM q)[i]? := fun i hi => by
                  have e1 := hcu m i hmn hi
                  have e2 : (markM q)[i]? = some ((markM q)[i]'(by simp [markM]; omega)) := List.getElem?_eq_getElem _
                  rw [e2] at e1 ⊢
                  exact HC.out wr HB2.out g (m * 5 + i) _ (by rw [Lib.cell_of_heap eg]; exact e1)
                have k0 : wr.cell? ⟨g, m * 5, none⟩ = some (.int .i64 (-(q : Int))) := cc 0 (by omega)
                have k1 : wr.cell? ⟨g, m * 5 + 1, none⟩ = some (.int .i64 0) := cc 1 (by omega)
                have k2 : wr.cell? ⟨g, m * 5 + 2, none⟩ = some (.string (bs [])) := cc 2 (by omega)
                have k3 : wr.cell? ⟨g, m * 5 + 3, none⟩ = some (.slice none 0 0) := cc 3 (by omega)
                have k4 : wr.cell? ⟨g, m * 5 + 4, none⟩ = some (.string (bs [])) := cc 4 (by omega)
                obtain ⟨W1, hW1⟩ : ∃ W1 : World, wr.alloc (.cells #[.int .i64 (-(q : Int)), .int .i64 0, .string (bs []), .slice none 0 0, .string (bs [])] 26) = W1 := ⟨_, rfl⟩
                have BW : Below w.heap.size w W1 := by rw [← hW1]; exact HB2.out.alloc HB2.out.size _
                have x1 : W1.heap[wr.heap.size]? = some (.cells #[.int .i64 (-(q : Int)), .int .i64 0, .string (bs []), .slice none 0 0, .string (bs [])] 26 (0, 0)) := by rw [← hW1]; exact heap_alloc_new wr _
                have i0 : W1.cell? ⟨wr.heap.size, 0, none⟩ = some (.int .i64 (-(q : Int))) := by rw [Lib.cell_of_heap x1]; rfl
                have i2 : W1.cell? ⟨wr.heap.size, 2, none⟩ = some (.string (bs [])) := by rw [Lib.cell_of_heap x1]; rfl
                have i3 : W1.cell? ⟨wr.heap.size, 3, none⟩ = some (.slice none 0 0) := by rw [Lib.cell_of_heap x1]; rfl
                have i4 : W1.cell? ⟨wr.heap.size, 4, none⟩ = some (.string (bs [])) := by rw [Lib.cell_of_heap x1]; rfl
                have e6 := HC.out W1 BW _ _ _ H6.out
                have eO := HC.out W1 BW _ _ _ HPO.out
                rw [List.length_map] at e6
                have HBW := Lib.hid BW
                have hng : IntKind.i64.wrap (-(q : Int)) = -(q : Int) := by rw [IntKind.wrap_i64]; omega
                have t1 : (-(q : Int) != -(q : Int)) = false := by simp
                have t2 : (bs []).toList.isEmpty = true := by rw [Lib.toList_data]; rfl
                have HW1 := Lib.hid hW1
                clear hW1 x1 cc hcu eg BW
                go_wp2_with fail
                rw [HW1.out]
                clear k0 k1 k2 k3 k4 e5 eM
                go_quiet (fail)
                go_wp2_with fail
                exact ⟨⟨m + 1, by omega, by go_num, Lib.hid (HBW.out.trans (below_drewN _ _ _))⟩, by simp [intOf]; omega⟩
              · have hm9 : m = n := by omega
                subst hm9
                go_wp2_with fail
                exact ⟨⟨k + 1, by omega, by go_num, HB2⟩, by simp [intOf]; omega⟩
          · have hk9 : k = ms.length := by omega
            subst hk9
            go_wp2_with fail
            go_ret
            exact ⟨rfl, HB.out⟩
end Go.Proofs.YtgjjjdccbpjnfaaGreatDoor
