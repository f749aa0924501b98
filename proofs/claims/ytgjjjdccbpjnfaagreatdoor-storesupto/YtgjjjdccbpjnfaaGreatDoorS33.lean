import Derived.Test.YtgjjjdccbpjnfaaGreatDoorS29
import Derived.Test.YtgjjjdccbpjnfaaGreatDoorS30
import Derived.Test.YtgjjjdccbpjnfaaGreatDoorS32
import Derived.Deep.RegionLaw

/- The books: a list of mail has come. -/
namespace Go.Proofs.YtgjjjdccbpjnfaaGreatDoor
open Go.RowKit

/-- all that the books know lies below z -/
structure Old (z bb : Nat) (kv vM vO vT vS : Value) (ts : List TE) (ms : List ME) (rows : List (PMail × Nat)) : Prop where
  b : bb < z
  k : ∀ g, kv.ownBlock = some g → g < z
  m : ∀ g, vM.ownBlock = some g → g < z
  o : ∀ g, vO.ownBlock = some g → g < z
  t : ∀ g, vT.ownBlock = some g → g < z
  s : ∀ g, vS.ownBlock = some g → g < z
  ts : ∀ x ∈ ts, x.g < z
  ms : ∀ x ∈ ms, ∀ g, x.v.ownBlock = some g → g < z
  r : ∀ r ∈ rows, r.2 < z
theorem BkS.old {lo : Nat} {w : World} {bb B N came s : Nat} {kv wv vM vO vT vS : Value} {ts : List TE} {ms : List ME} {rows : List (PMail × Nat)} (h : BkS lo w bb B N came kv wv vM vO vT vS ts ms s rows) : Old w.heap.size bb kv vM vO vT vS ts ms rows :=
  ⟨h.bk.lt, fun g e => own_lt h.kept.row e, fun g e => own_lt h.bk.rM e, fun g e => own_lt h.bk.rO e, fun g e => own_lt h.bk.rT e, fun g e => own_lt h.bk.rS e, fun x hx => by
    obtain ⟨_, cur, e, _⟩ := (h.bk.mt x hx).1
    exact heap_some_lt e, fun x hx => (h.bk.mm x hx).2.1, fun r hr => (h.kept.ge hr).2⟩
theorem tag_of {w : World} {k : Nat} {o : Obj} {cur : Array Value} {e : TypeId} (h : w.heap[k]? = some o) (h' : w.heap[k]? = some (.cells cur e (0, 0))) (hm : e ∈ bkTypes) : ∃ t ∈ bkTypes, tagOf o = some t := by
  rw [h] at h'
  injection h' with h'
  subst h'
  exact ⟨e, hm, rfl⟩
/-- what marks touches, by its types -/
theorem MPost.touch {w w' : World} {bb N came s : Nat} {kv wv v vM vO vT vS vM' vO' vT' vS' : Value} {rows : List (PMail × Nat)} {ts ts' : List TE} {ss : List (List UInt8)} {ms ms' : List ME} {os : List Nat} (h : MPost w w' bb N came kv wv v vM vO vT vS rows ts ss ms os ts' ms' vM' vO' vT' vS') (hb : BkIn w bb N came kv wv ts ss ms os vM vO vT vS) (hr : RowsIn s w v rows) : Touch bkTypes w w' := by
  refine h.chg.touch fun k hk o e => ?_
  rcases hk with rfl | ⟨r, hr', rfl⟩ | hk | hk | hk | hk | hk
  · exact tag_of e hb.blk (by decide)
  · obtain ⟨c, e1, _⟩ := To_block hr hr'
    exact tag_of e e1 (by decide)
  · obtain ⟨c, e1⟩ := own_tag hr.row hk
    exact tag_of e e1 (by decide)
  · obtain ⟨c, e1⟩ := own_tag hb.rT hk
    exact tag_of e e1 (by decide)
  · obtain ⟨c, e1⟩ := own_tag hb.rS hk
    exact tag_of e e1 (by decide)
  · obtain ⟨c, e1⟩ := own_tag hb.rM hk
    exact tag_of e e1 (by decide)
  · obtain ⟨c, e1⟩ := own_tag hb.rO hk
    exact tag_of e e1 (by decide)

theorem OwnNew.low {lo : Nat} {w : World} {v v' : Value} (h : OwnNew w v v') (hz : lo ≤ w.heap.size) (hv : ∀ g, v.ownBlock = some g → lo ≤ g) : ∀ g, v'.ownBlock = some g → lo ≤ g := fun g e => by
  rcases h with h | ⟨k, h, hk⟩
  · exact hv g (by rw [← h]; exact e)
  · rw [h] at e; injection e with e; omega
/-- what marks writes lies at lo or above it -/
theorem MPost.low {lo : Nat} {w w' : World} {bb N came : Nat} {kv wv v vM vO vT vS vM' vO' vT' vS' : Value} {rows : List (PMail × Nat)} {ts ts' : List TE} {ss : List (List UInt8)} {ms ms' : List ME} {os : List Nat} (h : MPost w w' bb N came kv wv v vM vO vT vS rows ts ss ms os ts' ms' vM' vO' vT' vS') (hl : Low lo bb v vM vO vT vS ts ms rows) (hz : lo ≤ w.heap.size) : Below lo w w' :=
  ⟨h.chg.still.1, h.chg.still.2.1, h.chg.still.2.2, h.chg.size, fun k hk => h.chg.block k (by omega) (fun a => by
    rcases a with rfl | ⟨r, hr, rfl⟩ | a | a | a | a | a
    · have := hl.b; omega
    · have := hl.r r hr; omega
    · have := hl.k k a; omega
    · have := hl.t k a; omega
    · have := hl.s k a; omega
    · have := hl.m k a; omega
    · have := hl.o k a; omega)⟩
theorem MPost.low5 {lo : Nat} {w w' : World} {bb N came : Nat} {kv wv v v2 vM vO vT vS vM' vO' vT' vS' : Value} {rows rows2 : List (PMail × Nat)} {ts ts' : List TE} {ss : List (List UInt8)} {ms ms' : List ME} {os : List Nat} (h : MPost w w' bb N came kv wv v vM vO vT vS rows ts ss ms os ts' ms' vM' vO' vT' vS') (hl : Low lo bb v vM vO vT vS ts ms rows) (hz : lo ≤ w.heap.size) (h2 : ∀ g, v2.ownBlock = some g → lo ≤ g) (hr2 : ∀ r ∈ rows2, lo ≤ r.2) : Low lo bb v2 vM' vO' vT' vS' (ts ++ ts') (ms ++ ms') rows2 :=
  ⟨hl.b, h2, h.nM.low hz hl.m, h.nO.low hz hl.o, h.nT.low hz hl.t, h.nS.low hz hl.s, fun x hx => by
    rcases List.mem_append.1 hx with hx | hx
    · exact hl.ts x hx
    · rcases h.newT x hx with ⟨r, hr, e⟩ | e
      · have := hl.r r hr; omega
      · omega, hr2⟩

set_option maxHeartbeats 4000000 in
set_option maxRecDepth 100000 in
theorem bkQueue_any (lo bb B : Nat) (w0 w : World) (v : Value) (rows2 : List (PMail × Nat)) (h : Bk lo w0 bb B) (hb : Below w0.heap.size w0 w) (hr : RowsIn w0.heap.size w v rows2) (z1 : rows2.length ≤ 131072) (z2 : ∀ r ∈ rows2, 1 ≤ r.1.tos.length ∧ r.1.tos.length ≤ 255) (hB : B ≤ 274877906944) :
    Calls Tryz.prog 46 #[.pointer (some ⟨bb, 0, none⟩), v] w fun e w' => e = .returned (.tuple #[]) ∧ Bk lo w' bb (B + 2097152) ∧ Touch bkTypes w w' ∧ Below lo w w' := by
  obtain ⟨N, came, kv, wv, vM, vO, vT, vS, ts, ms, s, rows, h0⟩ := h
  have HOLD := Lib.hid h0.old
  have HLOW := Lib.hid h0.low
  have hlz : lo ≤ w0.heap.size := by have := h0.low.b; have := h0.old.b; omega
  have h1 := h0.keep hb
  obtain ⟨n1, n2, n3, n4, zr⟩ := And.intro h1.n1 (And.intro h1.n2 (And.intro h1.n3 (And.intro h1.n4 h1.z1)))
  have hzw : w0.heap.size ≤ w.heap.size := hb.size
  have TO2 : TosOk (rows2.map (·.1)) := fun m hm => by
    obtain ⟨r, hr', rfl⟩ := List.mem_map.1 hm
    exact z2 r hr'
  have HSZ2 : Hid (MailsSz (rows2.map (·.1))) := Lib.hid ⟨by rw [List.length_map]; omega, fun m hm => (TO2 m hm).2⟩
  have HSZ1 : Hid (MailsSz (rows.map (·.1))) := Lib.hid ⟨by rw [List.length_map]; omega, fun m hm => by
    obtain ⟨r, hr', rfl⟩ := List.mem_map.1 hm
    exact (h1.z2 r hr').2⟩
  have HCP := Lib.hid (copied_any (rows2.map (·.1)) v w hr.at (by rw [List.length_map]; omega) TO2)
  have HH := Lib.hid h1
  have HR := Lib.hid hr
  have HZ2 := Lib.hid z2
  clear h0 h1 hr TO2 hb z2
  go_enter Tryz.func46, Tryz.ntmps46
  go_wp2_with fail
  refine HCP.out.mono ?_
  rintro e w1 ⟨vw, rowsW, rfl, hW, heW, hb1⟩
  have HH1 := Lib.hid (HH.out.keep hb1)
  have HR1 := Lib.hid (HR.out.keep hb1)
  have HW1 := Lib.hid hW
  have HEW := Lib.hid heW
  have HB1 := Lib.hid hb1
  have c3 : w1.drew.cell? ⟨bb, 3, none⟩ = some kv := by show w1.cell? _ = _; rw [Lib.cell_of_heap HH1.out.bk.blk]; rfl
  have c4 : w1.drew.cell? ⟨bb, 4, none⟩ = some wv := by show w1.cell? _ = _; rw [Lib.cell_of_heap HH1.out.bk.blk]; rfl
  obtain ⟨ax, nx, cx, ek⟩ := own_slice HH1.out.kept.row
  obtain ⟨ay, ny, cy, ew⟩ : ∃ a n c, wv = .slice a n c := by obtain ⟨l, _, hr, _⟩ := HH1.out.wereAt; obtain ⟨a, c, e, _⟩ := hr.shape; exact ⟨_, _, _, e⟩
  obtain ⟨av, nv, cv, ev⟩ := own_slice HR1.out.row
  subst ek ew ev
  have HSQ := Lib.hid (sameQ_any _ _ _ w1.drew HH1.out.kept.at HH1.out.wereAt HSZ1.out)
  clear hW heW hb1 HCP HH HR
  go_wp2_with fail
  go_region_law (first
    | (go_simp; go_at_call 10; refine HSQ.out.mono ?_; rintro e w2 ⟨rfl, hb2⟩; have B2 := Lib.hid (show Below w1.heap.size w1 w2 from ⟨hb2.os, hb2.tape, hb2.output, hb2.size, hb2.block⟩); clear hb2))
  all_goals
    have HH2 := Lib.hid (HH1.out.keep B2.out)
    have HR2 := Lib.hid (HR1.out.keep B2.out)
    have HW2 := Lib.hid (show MailsIn w.heap.size w2 vw rowsW from ⟨ownsRow_keeps HW1.out.1 fun g cur e _ => below_some B2.out e, fun x hx => ownsRow_keeps (HW1.out.2 x hx) fun g cur e _ => below_some B2.out e⟩)
    have d3 : w2.cell? ⟨bb, 3, none⟩ = some (.slice ax nx cx) := by rw [Lib.cell_of_heap HH2.out.bk.blk]; rfl
    have HMK := Lib.hid (marks_any s bb N came _ _ _ vM vO vT vS rows ts _ ms _ w2 HH2.out.bk HH2.out.kept HH2.out.f1 HH2.out.f2 HH2.out.f3 (fun r hr => (HH2.out.z2 r hr).2) (by omega) (by omega) (by omega) (by rw [List.length_map]; omega) (by omega) (by rw [List.length_map]; omega))
    clear c3 c4
    go_wp2_with fail
    refine HMK.out.mono ?_
    rintro e w3 ⟨rfl, ts1, ms1, vM1, vO1, vT1, vS1, hP⟩
    have hA : ∀ k, (k = bb ∨ (∃ r ∈ rows, k = r.2) ∨ (Value.slice ax nx cx).ownBlock = some k ∨ vT.ownBlock = some k ∨ vS.ownBlock = some k ∨ vM.ownBlock = some k ∨ vO.ownBlock = some k) → k < w0.heap.size := fun k hk => by
      rcases hk with rfl | ⟨r, hr, rfl⟩ | hk | hk | hk | hk | hk
      · exact HOLD.out.b
      · exact HOLD.out.r r hr
      · exact HOLD.out.k k hk
      · exact HOLD.out.t k hk
      · exact HOLD.out.s k hk
      · exact HOLD.out.m k hk
      · exact HOLD.out.o k hk
    have L3 := HR2.out.chg hP.chg hA
    have W3 := HW2.out.chg hP.chg (fun k hk => by have := hA k hk; omega)
    have TCH := Lib.hid (hP.touch HH2.out.bk HH2.out.kept)
    have BL3 : Hid (Below lo w2 w3) := Lib.hid (hP.low HLOW.out (by have := HB1.out.size; have := B2.out.size; omega))
    have HP := Lib.hid hP
    have at3 : MailsAt w3 vw (rows2.map (·.1)) := by rw [← HEW.out]; exact W3.at
    have HSQ2 := Lib.hid (sameQ_any _ _ _ w3 L3.at at3 HSZ2.out)
    have HL3 := Lib.hid L3
    have HW3 := Lib.hid W3
    obtain ⟨aw, nw, cw, evw⟩ := own_slice W3.1
    subst evw
    clear hP L3 W3 at3 hA d3 HMK
    go_wp2_with fail
    refine HSQ2.out.mono ?_
    rintro e w4 ⟨rfl, hb4⟩
    have A4 : BkIn w4 bb (N + rows.length + 1) came (.slice ax nx cx) (.slice ay ny cy) (ts ++ ts1) ((ts ++ ts1).map TE.s) (ms ++ ms1) ((ms ++ ms1).map ME.k) vM1 vO1 vT1 vS1 := by
      have := HP.out.bk.keep hb4
      rw [← List.map_append, ← List.map_append] at this
      exact this
    have L4 := Lib.hid (HL3.out.keep hb4)
    have W4 : Hid (MailsIn w.heap.size w4 (.slice aw nw cw) rowsW) := Lib.hid (HW3.out.chg (Chg.below (A := fun _ => False) hb4) (fun _ f => f.elim))
    have T4 : Hid (Touch bkTypes w w4) := Lib.hid ((((Touch.below (HB1.out)).trans (Touch.below B2.out)).trans TCH.out).trans (Touch.below hb4))
    have BL4 : Hid (Below lo w w4) := Lib.hid ((((HB1.out.mono (by omega)).trans (B2.out.mono (by have := HB1.out.size; omega))).trans BL3.out).trans (hb4.mono (by have := HB1.out.size; have := B2.out.size; have := BL3.out.size; omega)))
    have k1 : w4.cell? ⟨bb, 1, none⟩ = some (.int .i64 came) := by rw [Lib.cell_of_heap A4.blk]; rfl
    have k2 : w4.cell? ⟨bb, 2, none⟩ = some (.bool false) := by rw [Lib.cell_of_heap A4.blk]; rfl
    have k3 : w4.cell? ⟨bb, 3, none⟩ = some (.slice ax nx cx) := by rw [Lib.cell_of_heap A4.blk]; rfl
    have k4 : w4.cell? ⟨bb, 4, none⟩ = some (.slice ay ny cy) := by rw [Lib.cell_of_heap A4.blk]; rfl
    have f1 := Lib.frozen_of_heap A4.blk 1
    have f2 := Lib.frozen_of_heap A4.blk 2
    have f3 := Lib.frozen_of_heap A4.blk 3
    have f4 := Lib.frozen_of_heap A4.blk 4
    have hwr : IntKind.i64.wrap ((came : Int) + 1) = (came : Int) + 1 := by rw [IntKind.wrap_i64]; omega
    have HA4 := Lib.hid A4
    have hs24 : w2.heap.size ≤ w4.heap.size := Nat.le_trans HP.out.chg.size hb4.size
    clear A4 hb4 HSQ2
    go_wp2_with fail
    · obtain ⟨W5, hW5⟩ : ∃ W5 : World, (((w4.setCell ⟨bb, 2, none⟩ (.bool false)).setCell ⟨bb, 3, none⟩ (.slice none 0 0)).setCell ⟨bb, 4, none⟩ (.slice none 0 0)).setCell ⟨bb, 1, none⟩ (.int .i64 ((came : Int) + 1)) = W5 := ⟨_, rfl⟩
      rw [hW5]
      have S5 : Same bb w4 W5 := by rw [← hW5]; exact ((((Same.refl _ _).setCell _).setCell _).setCell _).setCell _
      have A5 : BkIn W5 bb (N + rows.length + 1) (came + 1) (.slice none 0 0) (.slice none 0 0) (ts ++ ts1) ((ts ++ ts1).map TE.s) (ms ++ ms1) ((ms ++ ms1).map ME.k) vM1 vO1 vT1 vS1 := HA4.out.reblk S5 (by
        rw [← hW5]
        exact heap_setCell_same _ bb 1 _ _ _ (heap_setCell_same _ bb 4 _ _ _ (heap_setCell_same _ bb 3 _ _ _ (heap_setCell_same w4 bb 2 _ _ _ HA4.out.blk))))
      have hbz := HOLD.out.b
      have L5 := L4.out.chg (Chg.same S5) (fun k hk => by rw [hk]; exact hbz)
      have rb : ∀ r ∈ rows2, w0.heap.size ≤ r.2 ∧ r.2 < w2.heap.size := fun r hr => HR2.out.ge hr
      have hlT := HP.out.lenT
      have hlM := HP.out.lenM
      have HMK2 := Lib.hid (marks_any w0.heap.size bb (N + rows.length + 1) (came + 1) _ _ (.slice av nv cv) vM1 vO1 vT1 vS1 rows2 (ts ++ ts1) _ (ms ++ ms1) _ W5 A5 L5 (fun x hx r hr => by
        have h9 := rb r hr
        rcases List.mem_append.1 hx with hx | hx
        · have := HOLD.out.ts x hx; omega
        · rcases HP.out.newT x hx with ⟨r', hr', e'⟩ | e'
          · have := HOLD.out.r r' hr'; omega
          · omega) (fun r hr e => by
        have h9 := rb r hr
        rcases HP.out.nS with e' | ⟨y, e', hy⟩
        · have := HOLD.out.s r.2 (by rw [← e']; exact e); omega
        · rw [e'] at e; injection e with e; omega) (fun x hx g e e' => by
        have h9 := (HR2.out.row.lt g e').1
        have h8 := (HR2.out.row.lt g e').2
        rcases List.mem_append.1 hx with hx | hx
        · have := HOLD.out.ms x hx g e; omega
        · rcases HP.out.newM x hx g e with e9 | e9
          · have := HOLD.out.k g e9; omega
          · omega) (fun r hr => (HZ2.out r hr).2) (by omega) (by omega) (by rw [List.length_append]; omega) (by rw [List.length_map, List.length_append]; omega) (by rw [List.length_append]; omega) (by rw [List.length_map, List.length_append]; omega))
      have T5 := Lib.hid (T4.out.trans ((Touch.refl bkTypes w4).same HA4.out.blk (by decide) S5))
      have BL5 := Lib.hid (BL4.out.trans (S5.below HLOW.out.b))
      have LOW5 : Hid (Low lo bb (.slice av nv cv) vM1 vO1 vT1 vS1 (ts ++ ts1) (ms ++ ms1) rows2) := Lib.hid (HP.out.low5 HLOW.out (by have := HB1.out.size; have := B2.out.size; omega) (fun g e => by have := (HR2.out.row.lt g e).1; omega) (fun r hr => by have := (rb r hr).1; omega))
      have hs5 : lo ≤ W5.heap.size := by rw [S5.1]; have := BL4.out.size; omega
      have HA5 := Lib.hid A5
      have HL5 := Lib.hid L5
      clear S5 A5 L5 hW5
      refine HMK2.out.mono ?_
      rintro e w6 ⟨rfl, ts2, ms2, vM2, vO2, vT2, vS2, hP2⟩
      have T6 := Lib.hid (T5.out.trans (hP2.touch HA5.out HL5.out))
      have BL6 := Lib.hid (BL5.out.trans (hP2.low LOW5.out hs5))
      have LOW6 := Lib.hid (hP2.low5 LOW5.out hs5 (v2 := .slice none 0 0) (rows2 := []) (fun g e => (by cases e)) (fun r hr => by simp at hr))
      have A6 : BkIn w6 bb (N + rows.length + 1 + rows2.length + 1) (came + 1) (.slice none 0 0) (.slice none 0 0) (ts ++ ts1 ++ ts2) ((ts ++ ts1 ++ ts2).map TE.s) (ms ++ ms1 ++ ms2) ((ms ++ ms1 ++ ms2).map ME.k) vM2 vO2 vT2 vS2 := by
        have := hP2.bk
        rw [← List.map_append, ← List.map_append] at this
        exact this
      have l2 := hP2.lenT
      have l3 := hP2.lenM
      have HA6 := Lib.hid A6
      clear hP2 A6
      go_wp2_with fail
      refine bodyPost_end (results_none rfl _ _ _) rfl ?_
      refine ⟨rfl, ⟨_, _, _, _, _, _, _, _, _, _, 0, [], ⟨HA6.out, ⟨World.ownsRow_nil _ _ _ _, fun x hx => by simp at hx, by simp⟩, ⟨0, [], ⟨World.ownsRow_nil _ _ _ _, fun x hx => by simp at hx⟩, rfl⟩, fun x _ r hr => by simp at hr, fun r hr => by simp at hr, fun x _ g _ e => (by cases e), by simp, fun r hr => by simp at hr, by omega, by omega, ?_, ?_, LOW6.out⟩⟩, T6.out, BL6.out⟩
      · rw [List.length_append, List.length_append]; omega
      · rw [List.length_append, List.length_append]; omega
    · obtain ⟨W5, hW5⟩ : ∃ W5 : World, (((((w4.setCell ⟨bb, 2, none⟩ (.bool false)).setCell ⟨bb, 3, none⟩ (.slice none 0 0)).setCell ⟨bb, 4, none⟩ (.slice none 0 0)).setCell ⟨bb, 1, none⟩ (.int .i64 ((came : Int) + 1))).setCell ⟨bb, 3, none⟩ (.slice av nv cv)).setCell ⟨bb, 4, none⟩ (.slice aw nw cw) = W5 := ⟨_, rfl⟩
      rw [hW5]
      have S5 : Same bb w4 W5 := by rw [← hW5]; exact ((((((Same.refl _ _).setCell _).setCell _).setCell _).setCell _).setCell _).setCell _
      have A5 : BkIn W5 bb (N + rows.length + 1) (came + 1) (.slice av nv cv) (.slice aw nw cw) (ts ++ ts1) ((ts ++ ts1).map TE.s) (ms ++ ms1) ((ms ++ ms1).map ME.k) vM1 vO1 vT1 vS1 := HA4.out.reblk S5 (by
        rw [← hW5]
        exact heap_setCell_same _ bb 4 _ _ _ (heap_setCell_same _ bb 3 _ _ _ (heap_setCell_same _ bb 1 _ _ _ (heap_setCell_same _ bb 4 _ _ _ (heap_setCell_same _ bb 3 _ _ _ (heap_setCell_same w4 bb 2 _ _ _ HA4.out.blk))))))
      have hbz := HOLD.out.b
      have L5 := L4.out.chg (Chg.same S5) (fun k hk => by rw [hk]; exact hbz)
      have V5 := W4.out.chg (Chg.same S5) (fun k hk => by rw [hk]; omega)
      have rb : ∀ r ∈ rows2, w0.heap.size ≤ r.2 ∧ r.2 < w2.heap.size := fun r hr => HR2.out.ge hr
      have hlT := HP.out.lenT
      have hlM := HP.out.lenM
      have T5 := T4.out.trans ((Touch.refl bkTypes w4).same HA4.out.blk (by decide) S5)
      refine bodyPost_end (results_none rfl _ _ _) rfl ?_
      refine ⟨rfl, ⟨_, _, _, _, _, _, _, _, _, _, w0.heap.size, rows2, ⟨A5, L5, ⟨_, rowsW, V5, HEW.out⟩, fun x hx r hr => ?_, fun r hr e => ?_, fun x hx g e e' => ?_, by omega, HZ2.out, by omega, by omega, ?_, ?_, HP.out.low5 HLOW.out (by have := HB1.out.size; have := B2.out.size; omega) (fun g e => by have := (HR2.out.row.lt g e).1; omega) (fun r hr => by have := (rb r hr).1; omega)⟩⟩, T5, BL4.out.trans (S5.below HLOW.out.b)⟩
      · have h9 := rb r hr
        rcases List.mem_append.1 hx with hx | hx
        · have := HOLD.out.ts x hx; omega
        · rcases HP.out.newT x hx with ⟨r', hr', e'⟩ | e'
          · have := HOLD.out.r r' hr'; omega
          · omega
      · have h9 := rb r hr
        rcases HP.out.nS with e' | ⟨y, e', hy⟩
        · have := HOLD.out.s r.2 (by rw [← e']; exact e); omega
        · rw [e'] at e; injection e with e; omega
      · have h9 := (HR2.out.row.lt g e').1
        have h8 := (HR2.out.row.lt g e').2
        rcases List.mem_append.1 hx with hx | hx
        · have := HOLD.out.ms x hx g e; omega
        · rcases HP.out.newM x hx g e with e9 | e9
          · have := HOLD.out.k g e9; omega
          · omega
      · rw [List.length_append]; omega
      · rw [List.length_append]; omega
end Go.Proofs.YtgjjjdccbpjnfaaGreatDoor

/- The law: Kept, Queue. -/
namespace Go.Proofs.YtgjjjdccbpjnfaaGreatDoor
open Go.RowKit

theorem queueL_sz {S : PStore} (hok : S.Ok) : (queueL S.items).length ≤ S.items.length ∧ ∀ m ∈ queueL S.items, 1 ≤ m.tos.length ∧ m.tos.length ≤ 255 := by
  rw [queueL_live hok]
  refine ⟨by rw [List.length_map]; exact live_len S, fun m hm => ?_⟩
  obtain ⟨i, hi, rfl⟩ := List.mem_map.1 hm
  have h1 := (mem_live.1 hi).2
  have h2 := stayOf_le hok i
  have h3 : (S.toldOf i).tos.length = (S.stayOf i).length := by simp [PStore.toldOf, namesL]
  rw [h3]
  refine ⟨?_, by omega⟩
  cases h : S.stayOf i with
  | nil => exact absurd h h1
  | cons a b => simp
theorem PostIn.ok {base pp : Nat} {w : World} {l : List UInt8} (h : PostIn base w pp l) : (readS l).1.Ok := by
  obtain ⟨_, _, _, _, _, _, c, _⟩ := h
  exact c
/-- a step's cells -/
def opCells (kind p n : Int) (odd : Bool) (S : List UInt8) (c : Cfg) (vD vN vU vW : Value) : Array Value := #[.int .i64 kind, .int .i64 p, .int .i64 n, .bool odd, .string (bs S), .string c.host, vD, vN, vU, .int .i64 c.most, .int .i64 c.size, vW, .int .i64 c.life, .int .i64 c.room]

set_option maxHeartbeats 4000000 in
set_option maxRecDepth 100000 in
theorem looks_any (lo bb B : Nat) (vx vw : Value) (kind p n : Int) (odd : Bool) (S : List UInt8) (c : Cfg) (vD vN vU vW : Value) (w : World) (h : TwinIn w vx vw) (hk : Bk lo w bb B) (hlo : lo ≤ w.heap.size) (hB : B ≤ 274877906944) :
    Calls Tryz.prog 21 #[.agg #[vx, vw], .pointer (some ⟨bb, 0, none⟩), .agg (opCells kind p n odd S c vD vN vU vW)] w fun e w' => e = .returned (.bool true) ∧ Bk lo w' bb (B + 2097152) ∧ Touch bkTypes w w' ∧ Below lo w w' := by
  obtain ⟨W0, hW0⟩ : ∃ W0 : World, (w.alloc (.cells #[vx, vw] 69)).alloc (.cells (opCells kind p n odd S c vD vN vU vW) 66) = W0 := ⟨_, rfl⟩
  have B0 : Below w.heap.size w W0 := by rw [← hW0]; exact ((Below.refl _ _).alloc (Nat.le_refl _) _).alloc (by simp) _
  have X0 : W0.heap[w.heap.size]? = some (.cells #[vx, vw] 69 (0, 0)) := by rw [← hW0]; exact below_some ((Below.refl _ _).alloc (Nat.le_refl _) _) (heap_alloc_new w _)
  have Y0 : W0.heap[w.heap.size + 1]? = some (.cells (opCells kind p n odd S c vD vN vU vW) 66 (0, 0)) := by
    rw [← hW0]
    have := heap_alloc_new (w.alloc (.cells #[vx, vw] 69)) (.cells (opCells kind p n odd S c vD vN vU vW) 66)
    simpa using this
  have a0 : W0.cell? ⟨w.heap.size, 0, none⟩ = some vx := by rw [Lib.cell_of_heap X0]; rfl
  have a1 : W0.cell? ⟨w.heap.size, 1, none⟩ = some vw := by rw [Lib.cell_of_heap X0]; rfl
  have o0 : W0.cell? ⟨w.heap.size + 1, 0, none⟩ = some (.int .i64 kind) := by rw [Lib.cell_of_heap Y0]; rfl
  have HT0 := Lib.hid (h.below B0)
  have HK0 := Lib.hid (hk.keep B0)
  have HB0 := Lib.hid B0
  have HX0 := Lib.hid X0
  have HW0 := Lib.hid hW0
  have hxl : w.heap.size < W0.heap.size := heap_some_lt X0
  have HXL := Lib.hid hxl
  clear h hk B0 X0 Y0 hW0 hxl
  by_cases hkd : kind = 3
  · subst hkd
    go_enter Tryz.func21, Tryz.ntmps21
    simp only [opCells]
    simp only [opCells] at HW0
    go_wp2_with fail
    rw [HW0.out]
    rcases HT0.out with ⟨rfl, rfl⟩ | ⟨base, pp, q, l, rfl, rfl, hP, hR, hl⟩
    · refine (postKept_nil _).mono ?_
      rintro e w1 ⟨rfl, rfl⟩
      go_wp2_with fail
      refine (refPostKept_nil _).mono ?_
      rintro e w2 ⟨rfl, hb2⟩
      have t1 : ((bs []).toList == (bs []).toList) = true := by simp
      go_wp2_with fail
      go_ret
      exact ⟨rfl, ((HK0.out.keep hb2).mono (by omega)), (Touch.below HB0.out).trans (Touch.below hb2), (HB0.out.mono hlo).trans (hb2.mono (by have := HB0.out.size; omega))⟩
    · have HP := Lib.hid hP
      have HR := Lib.hid hR
      clear hP hR
      refine (postKept_any base pp l _ HP.out).mono ?_
      rintro e w1 ⟨rfl, rfl⟩
      go_wp2_with fail
      refine (refPostKept_any q _ _ HR.out).mono ?_
      rintro e w2 ⟨rfl, hb2⟩
      obtain ⟨K, eK⟩ : ∃ K, l.take (readS l).2 = K := ⟨_, rfl⟩
      rw [eK]
      have t1 : ((bs K).toList == (bs K).toList) = true := by simp
      go_wp2_with fail
      go_ret
      exact ⟨rfl, ((HK0.out.keep hb2).mono (by omega)), (Touch.below HB0.out).trans (Touch.below hb2), (HB0.out.mono hlo).trans (hb2.mono (by have := HB0.out.size; omega))⟩
  · have hkq : (kind == 3) = false := by rw [beq_eq_false_iff_ne]; exact hkd
    clear hkd
    go_enter Tryz.func21, Tryz.ntmps21
    simp only [opCells]
    simp only [opCells] at HW0
    go_wp2_with fail
    rw [HW0.out]
    rcases HT0.out with ⟨rfl, rfl⟩ | ⟨base, pp, q, l, rfl, rfl, hP, hR, hl⟩
    · refine (postQueue_nil _).mono ?_
      rintro e w1 ⟨rfl, rfl⟩
      go_wp2_with fail
      refine (refPostQueue_nil _).mono ?_
      rintro e w2 ⟨rfl, hb2⟩
      have nilAt : ∀ W : World, MailsAt W (.slice none 0 0) [] := fun W => ⟨[], rfl, row_of_own' (World.ownsRow_nil W 0 26 5), fun x hx => by simp at hx⟩
      have HN := Lib.hid nilAt
      have HB2 := Lib.hid hb2
      clear nilAt hb2
      go_wp2_with fail
      refine (sameQ_any [] _ _ w2 (HN.out w2) (HN.out w2) ⟨by simp, fun m hm => by simp at hm⟩).mono ?_
      rintro e w3 ⟨rfl, hb3⟩
      have HB3 := Lib.hid (HB2.out.trans (hb3.mono HB2.out.size))
      clear hb3
      go_wp2_with fail
      refine (bkQueue_any lo bb B W0 w3 (.slice none 0 0) [] HK0.out HB3.out ⟨World.ownsRow_nil _ _ _ _, fun x hx => by simp at hx, by simp⟩ (by simp) (fun r hr => by simp at hr) hB).mono ?_
      rintro e w4 ⟨rfl, hk4, ht4, hl4⟩
      go_wp2_with fail
      go_ret
      exact ⟨rfl, hk4, ((Touch.below HB0.out).trans (Touch.below HB3.out)).trans ht4, ((HB0.out.mono hlo).trans (HB3.out.mono (by have := HB0.out.size; omega))).trans hl4⟩
    · have hsz := queueL_sz hP.ok
      have hrl := readS_len l
      have HP := Lib.hid hP
      have HR := Lib.hid hR
      have HSZ := Lib.hid hsz
      have hil : (readS l).1.items.length ≤ 131072 := by omega
      clear hP hR hsz hrl
      refine (postQueue_any base pp l _ HP.out hl).mono ?_
      rintro e w1 ⟨v1, rows, rfl, hr1, he1, hb1⟩
      have b1 : w1.cell? ⟨w.heap.size, 1, none⟩ = some (.pointer (some ⟨q, 0, none⟩)) := (hb1.cell (by exact HXL.out)).trans a1
      obtain ⟨ar, nr, cr, er⟩ := own_slice hr1.row
      subst er
      have HR1 := Lib.hid hr1
      have HE1 := Lib.hid he1
      have HB1 := Lib.hid hb1
      clear hr1 he1 hb1
      go_wp2_with fail
      refine (refPostQueue_any q _ w1 (HR.out.below HB1.out) (by rw [List.length_take]; omega)).mono ?_
      rintro e w2 ⟨v2, rfl, hm2, hb2⟩
      rw [readS_take] at hm2
      obtain ⟨a2, n2, c2, e2⟩ : ∃ a n c, v2 = .slice a n c := by obtain ⟨l', _, hr, _⟩ := hm2; obtain ⟨a, c, e, _⟩ := hr.shape; exact ⟨_, _, _, e⟩
      subst e2
      have HM2 := Lib.hid hm2
      have HR2 := Lib.hid (HR1.out.keep hb2)
      have HB2 := Lib.hid (HB1.out.trans (hb2.mono HB1.out.size))
      clear hm2 hb2
      go_wp2_with fail
      refine (sameQ_any (queueL (readS l).1.items) _ _ w2 (by rw [← HE1.out]; exact HR2.out.at) HM2.out ⟨by have := HSZ.out.1; omega, fun m hm => (HSZ.out.2 m hm).2⟩).mono ?_
      rintro e w3 ⟨rfl, hb3⟩
      have HR3 := Lib.hid (HR2.out.keep hb3)
      have HB3 := Lib.hid (HB2.out.trans (hb3.mono HB2.out.size))
      have hrn : rows.length ≤ 131072 := by have := HSZ.out.1; rw [← HE1.out, List.length_map] at this; omega
      have HZR : Hid (∀ r ∈ rows, 1 ≤ r.1.tos.length ∧ r.1.tos.length ≤ 255) := Lib.hid (fun r hr => HSZ.out.2 r.1 (by rw [← HE1.out]; exact List.mem_map.2 ⟨r, hr, rfl⟩))
      clear hb3
      go_wp2_with fail
      refine (bkQueue_any lo bb B W0 w3 _ rows HK0.out HB3.out HR3.out hrn HZR.out hB).mono ?_
      rintro e w4 ⟨rfl, hk4, ht4, hl4⟩
      go_wp2_with fail
      go_ret
      exact ⟨rfl, hk4, ((Touch.below HB0.out).trans (Touch.below HB3.out)).trans ht4, ((HB0.out.mono hlo).trans (HB3.out.mono (by have := HB0.out.size; omega))).trans hl4⟩
end Go.Proofs.YtgjjjdccbpjnfaaGreatDoor

/- The law's choice among n things. -/
namespace Go.Proofs.YtgjjjdccbpjnfaaGreatDoor
open Go.RowKit

def pickN (c : Int) (n : Nat) : Nat := (if c < 0 then -(c + 1) else c).toNat % n
theorem pickN_lt (c : Int) {n : Nat} (h : 0 < n) : pickN c n < n := Nat.mod_lt _ h

set_option maxHeartbeats 400000 in
set_option maxRecDepth 100000 in
theorem pick_any (c : Int) (n : Nat) (w : World) (hc : -9223372036854775808 ≤ c ∧ c ≤ 9223372036854775807) (hn : 0 < n) (hn2 : n ≤ 4294967296) :
    Calls Tryz.prog 20 #[.int .i64 c, .int .i64 n] w fun e w' => e = .returned (.int .i64 (pickN c n)) ∧ w = w' := by
  obtain ⟨h1, h2⟩ := hc
  by_cases h0 : c < 0
  · have hd : decide (c < 0) = true := decide_eq_true h0
    have HP : Hid ((pickN c n : Int) = (-(c + 1)).tmod (n : Int)) := Lib.hid (by
      unfold pickN
      rw [if_pos h0, Int.natCast_emod, Int.toNat_of_nonneg (by omega), Int.tmod_eq_emod_of_nonneg (by omega)])
    have hnz : ¬ (n : Int) = 0 := by omega
    go_enter Tryz.func20, Tryz.ntmps20
    go_wp2_with fail
    go_ret
    exact ⟨congrArg (fun x : Int => Ending.returned (.int .i64 x)) (by rw [HP.out, Int.neg_tmod]), rfl⟩
  · have hd : decide (c < 0) = false := decide_eq_false h0
    have HP : Hid ((pickN c n : Int) = c.tmod (n : Int)) := Lib.hid (by
      unfold pickN
      rw [if_neg h0, Int.natCast_emod, Int.toNat_of_nonneg (by omega), Int.tmod_eq_emod_of_nonneg (by omega)])
    have hnz : ¬ (n : Int) = 0 := by omega
    go_enter Tryz.func20, Tryz.ntmps20
    go_wp2_with fail
    go_ret
    exact ⟨congrArg (fun x : Int => Ending.returned (.int .i64 x)) (by rw [HP.out, Int.tmod_eq_emod_of_nonneg (by omega)]), rfl⟩
end Go.Proofs.YtgjjjdccbpjnfaaGreatDoor

/- The law: what is kept, cut somewhere, is opened. -/
namespace Go.Proofs.YtgjjjdccbpjnfaaGreatDoor
open Go.RowKit

theorem TwinIn.ptr {w : World} {vx vw : Value} (h : TwinIn w vx vw) : ∃ x y, vx = .pointer x ∧ vw = .pointer y := by
  rcases h with ⟨a, b⟩ | ⟨_, _, _, _, a, b, _⟩
  · exact ⟨_, _, a, b⟩
  · exact ⟨_, _, a, b⟩
theorem op_cells {w : World} {b : Nat} {kind p n : Int} {odd : Bool} {S : List UInt8} {c : Cfg} {vD vN vU vW : Value} {T : TypeId} {z : Nat × Nat} (h : w.heap[b]? = some (.cells (opCells kind p n odd S c vD vN vU vW) T z)) :
    w.cell? ⟨b, 0, none⟩ = some (.int .i64 kind) ∧ w.cell? ⟨b, 1, none⟩ = some (.int .i64 p) ∧ w.cell? ⟨b, 2, none⟩ = some (.int .i64 n) ∧ w.cell? ⟨b, 3, none⟩ = some (.bool odd) ∧ w.cell? ⟨b, 4, none⟩ = some (.string (bs S)) ∧ w.cell? ⟨b, 5, none⟩ = some (.string c.host) ∧ w.cell? ⟨b, 6, none⟩ = some vD ∧ w.cell? ⟨b, 7, none⟩ = some vN ∧ w.cell? ⟨b, 8, none⟩ = some vU ∧ w.cell? ⟨b, 9, none⟩ = some (.int .i64 c.most) ∧ w.cell? ⟨b, 10, none⟩ = some (.int .i64 c.size) ∧ w.cell? ⟨b, 11, none⟩ = some vW ∧ w.cell? ⟨b, 12, none⟩ = some (.int .i64 c.life) ∧ w.cell? ⟨b, 13, none⟩ = some (.int .i64 c.room) := by
  refine ⟨?_, ?_, ?_, ?_, ?_, ?_, ?_, ?_, ?_, ?_, ?_, ?_, ?_, ?_⟩ <;> (rw [Lib.cell_of_heap h]; rfl)

set_option maxHeartbeats 4000000 in
set_option maxRecDepth 100000 in
theorem reopened_any (vx vw : Value) (kind p n : Int) (odd : Bool) (S : List UInt8) (c : Cfg) (vD vN vU vW : Value) (m : Int) (w : World) (h : TwinIn w vx vw) (hc : CfgAt w c vD vN vU vW) (hz : CfgSz c) (hr : CfgRm c) (hl : S.length ≤ 1048576) (hm : w.cell? ⟨0, 0, none⟩ = some (.int .i64 m)) (hn : -9223372036854775808 ≤ n ∧ n ≤ 9223372036854775807) :
    Calls Tryz.prog 24 #[.agg #[vx, vw], .agg (opCells kind p n odd S c vD vN vU vW)] w fun e w' => ∃ vx' vw', e = .returned (.tuple #[.agg #[vx', vw'], .bool true]) ∧ TwinIn w' vx' vw' ∧ Below w.heap.size w w' := by
  obtain ⟨W0, hW0⟩ : ∃ W0 : World, ((w.alloc (.cells #[vx, vw] 69)).alloc (.cells (opCells kind p n odd S c vD vN vU vW) 66)).alloc (.cells #[.pointer none, .pointer none] 69) = W0 := ⟨_, rfl⟩
  have B0 : Below w.heap.size w W0 := by rw [← hW0]; exact (((Below.refl _ _).alloc (Nat.le_refl _) _).alloc (by simp) _).alloc (by simp; omega) _
  have X0 : W0.heap[w.heap.size]? = some (.cells #[vx, vw] 69 (0, 0)) := by rw [← hW0]; exact below_some ((Below.refl _ _).alloc (Nat.le_refl _) _) (below_some ((Below.refl _ _).alloc (Nat.le_refl _) _) (heap_alloc_new w _))
  have Y0 : W0.heap[w.heap.size + 1]? = some (.cells (opCells kind p n odd S c vD vN vU vW) 66 (0, 0)) := by
    rw [← hW0]
    refine below_some ((Below.refl _ _).alloc (Nat.le_refl _) _) ?_
    have := heap_alloc_new (w.alloc (.cells #[vx, vw] 69)) (.cells (opCells kind p n odd S c vD vN vU vW) 66)
    simpa using this
  have Z0 : W0.heap[w.heap.size + 2]? = some (.cells #[.pointer none, .pointer none] 69 (0, 0)) := by
    rw [← hW0]
    have := heap_alloc_new ((w.alloc (.cells #[vx, vw] 69)).alloc (.cells (opCells kind p n odd S c vD vN vU vW) 66)) (.cells #[.pointer none, .pointer none] 69)
    simpa using this
  have a1 : W0.cell? ⟨w.heap.size, 1, none⟩ = some vw := by rw [Lib.cell_of_heap X0]; rfl
  have HT0 := Lib.hid (h.below B0)
  have HC0 := Lib.hid (hc.below B0)
  have HB0 := Lib.hid B0
  have HY0 := Lib.hid Y0
  have HZ0 := Lib.hid Z0
  have HW0 := Lib.hid hW0
  have m0 : W0.cell? ⟨0, 0, none⟩ = some (.int .i64 m) := (B0.cell (by exact block_lt hm)).trans hm
  have HM0 := Lib.hid m0
  obtain ⟨aD, cD, eD⟩ := slice_of hc.1
  obtain ⟨aN, cN, eN⟩ := slice_of hc.2.1
  obtain ⟨aU, cU, eU⟩ := slice_of hc.2.2.1
  obtain ⟨aW, cW, eW⟩ := slice_of hc.2.2.2
  subst eD eN eU eW
  clear h hc B0 X0 Y0 Z0 hW0 hm m0
  go_enter Tryz.func24, Tryz.ntmps24
  simp only [opCells]
  simp only [opCells] at HW0
  go_wp2_with fail
  rw [HW0.out]
  rcases HT0.out with ⟨rfl, rfl⟩ | ⟨base, pp, q, l, rfl, rfl, hP, hR, hll⟩
  · refine (refPostKept_nil _).mono ?_
    rintro e w1 ⟨rfl, hb1⟩
    obtain ⟨o0, o1, o2, o3, o4, o5, o6, o7, o8, o9, o10, o11, o12, o13⟩ := op_cells (below_some hb1 HY0.out)
    have HOP := Lib.hid (opened_any c _ _ _ _ S m w1 (HC0.out.below hb1) hz hr hl ((hb1.cell (by exact block_lt HM0.out)).trans HM0.out))
    have HZ1 := Lib.hid (below_some hb1 HZ0.out)
    have HB1 := Lib.hid (HB0.out.trans (hb1.mono HB0.out.size))
    clear hb1
    go_wp2_with fail
    refine HOP.out.mono ?_
    rintro e w2 ⟨vx2, vw2, rfl, hT2, hb2⟩
    obtain ⟨x2, y2, rfl, rfl⟩ := hT2.ptr
    have t2 := below_some hb2 HZ1.out
    have r0 : w2.cell? ⟨w.heap.size + 2, 0, none⟩ = some (.pointer none) := by rw [Lib.cell_of_heap t2]; rfl
    have r1 : w2.cell? ⟨w.heap.size + 2, 1, none⟩ = some (.pointer none) := by rw [Lib.cell_of_heap t2]; rfl
    have f0 := Lib.frozen_of_heap t2 0
    have f1 := Lib.frozen_of_heap t2 1
    have HT2 := Lib.hid hT2
    have H2 := Lib.hid t2
    have HB2 := Lib.hid (HB1.out.trans (hb2.mono HB1.out.size))
    clear hT2 t2 hb2 o0 o1 o2 o3 o4 o5 o6 o7 o8 o9 o10 o11 o12 o13
    go_wp2_with fail
    obtain ⟨W5, hW5⟩ : ∃ W5 : World, (w2.setCell ⟨w.heap.size + 2, 0, none⟩ (.pointer x2)).setCell ⟨w.heap.size + 2, 1, none⟩ (.pointer y2) = W5 := ⟨_, rfl⟩
    rw [hW5]
    obtain ⟨c0, c1, S5⟩ := twin_set H2.out hW5
    have T5 : Touch [69] w2 W5 := (Touch.refl _ w2).same H2.out (by decide) S5
    refine bodyPost_ret (v := .tuple #[.agg #[.pointer x2, .pointer y2], .bool true]) (by simp [results, Tryz.results24, go_sem, c0, c1]) rfl ?_
    exact ⟨_, _, rfl, HT2.out.touch T5 (by decide) (by decide), HB2.out.trans (S5.below (by omega))⟩
  · have HP := Lib.hid hP
    have HR := Lib.hid hR
    clear hP hR
    refine (refPostKept_any q _ _ HR.out).mono ?_
    rintro e w1 ⟨rfl, hb1⟩
    obtain ⟨K, eK⟩ : ∃ K, l.take (readS l).2 = K := ⟨_, rfl⟩
    rw [eK]
    have hKl : K.length ≤ 1048576 := by rw [← eK, List.length_take]; omega
    have sK := bs_size K
    have hpl := pickN_lt n (show 0 < K.length + 1 by omega)
    have HPK := Lib.hid (pick_any n (K.length + 1) w1.drew hn (by omega) (by omega))
    obtain ⟨k, ek⟩ : ∃ k, pickN n (K.length + 1) = k := ⟨_, rfl⟩
    rw [ek] at HPK hpl
    have hkl : k ≤ K.length := by omega
    have HEX : Hid ((bs K).extract 0 k = bs (K.take k)) := Lib.hid (by rw [bs_extract, List.drop_zero])
    have hwr : IntKind.i64.wrap ((K.length : Int) + 1) = (K.length : Int) + 1 := by rw [IntKind.wrap_i64]; omega
    have Y1 : w1.drew.heap[w.heap.size + 1]? = some (.cells (opCells kind p n odd S c (.slice aD c.doms.length cD) (.slice aN c.nets.length cN) (.slice aU c.users.length cU) (.slice aW c.waits.length cW)) 66 (0, 0)) := below_some hb1 HY0.out
    obtain ⟨o0, o1, o2, o3, o4, o5, o6, o7, o8, o9, o10, o11, o12, o13⟩ := op_cells Y1
    have HOP := Lib.hid (opened_any c _ _ _ _ (K.take k) m w1.drew ((HC0.out.below hb1).below ((Below.refl _ _).drew)) hz hr (by rw [List.length_take]; omega) (show w1.cell? _ = _ from (hb1.cell (by exact block_lt HM0.out)).trans HM0.out))
    have HZ1 : Hid (w1.drew.heap[w.heap.size + 2]? = some (.cells #[.pointer none, .pointer none] 69 (0, 0))) := Lib.hid (below_some hb1 HZ0.out)
    have HB1 : Hid (Below w.heap.size w w1.drew) := Lib.hid ((HB0.out.trans (hb1.mono HB0.out.size)).drew)
    clear hb1 Y1 ek eK
    go_wp2_with fail
    go_region_law (first
      | (go_simp; go_at_call 20; refine HPK.out.mono ?_; rintro e w2 ⟨rfl, rfl⟩)
      | (go_simp; go_at_call 19; rw [HEX.out]; refine HOP.out.mono ?_; rintro e w2 ⟨vx2, vw2, rfl, hT2, hb2⟩; obtain ⟨x2, y2, rfl, rfl⟩ := hT2.ptr; have t2 := below_some hb2 HZ1.out; have r0 : w2.cell? ⟨w.heap.size + 2, 0, none⟩ = some (.pointer none) := (by rw [Lib.cell_of_heap t2]; rfl); have r1 : w2.cell? ⟨w.heap.size + 2, 1, none⟩ = some (.pointer none) := (by rw [Lib.cell_of_heap t2]; rfl); have f0 := Lib.frozen_of_heap t2 0; have f1 := Lib.frozen_of_heap t2 1; have HT2 := Lib.hid hT2; have H2 := Lib.hid t2; have HB2 := Lib.hid (HB1.out.trans (hb2.mono HB1.out.size)); clear hT2 t2 hb2))
    all_goals
      go_wp2_with fail
      obtain ⟨W5, hW5⟩ : ∃ W5 : World, (w2.setCell ⟨w.heap.size + 2, 0, none⟩ (.pointer x2)).setCell ⟨w.heap.size + 2, 1, none⟩ (.pointer y2) = W5 := ⟨_, rfl⟩
      rw [hW5]
      obtain ⟨c0, c1, S5⟩ := twin_set H2.out hW5
      have T5 : Touch [69] w2 W5 := (Touch.refl _ w2).same H2.out (by decide) S5
      refine bodyPost_ret (v := .tuple #[.agg #[.pointer x2, .pointer y2], .bool true]) (by simp [results, Tryz.results24, go_sem, c0, c1]) rfl ?_
      exact ⟨_, _, rfl, HT2.out.touch T5 (by decide) (by decide), HB2.out.trans (S5.below (by omega))⟩
end Go.Proofs.YtgjjjdccbpjnfaaGreatDoor
