import Derived.Test.YtgjjjdccbpjnfaaGreatDoorS20
import Derived.BigQuiet
import Derived.Deep.RegionLaw

/- A mail more in the bag. -/
namespace Go.Proofs.YtgjjjdccbpjnfaaGreatDoor
open Go.RowKit

theorem und_int : Tryz.prog.underlying 3 = some (.int .i64) := Tryz.underlying3
theorem zero_pmail (w : World) : (zeroValue 96).run Tryz.prog w = .ok (.pointer none) w := by kernel_rfl

theorem add_run {base pb mb Q : Nat} {q : Nat → Nat} {vr : Value} {S : PStore} {m : PMail} {W0 W1 w2 : World} (h : BagIn base W0 pb mb q vr S) (h1 : Same pb W0 W1) (_hp1 : W1.heap[pb]? = some (.cells #[vr, .int .i64 m.time, .int .i64 ((S.items.length : Int) + 1), .map (some mb)] 88 (0, 0))) (h2 : Below W1.heap.size W1 w2) (hid : m.id = S.items.length + 1) (hn : S.items.length < 4294967295) :
    (Instr.mapUpdate 85 (.map (some mb)) (.int .i64 m.id) (.pointer (some ⟨Q, 0, none⟩))).run Tryz.prog w2 = .ok () (ChangeMaps.setBlock w2 mb (.map (ents (fun i => if i = S.items.length then Q else q i) (S.live ++ [S.items.length])) (S.items.length + 1))) := by
  have hmb1 : W1.heap[mb]? = some (.map (ents q S.live) S.items.length) := same_some h1 h.map (fun e => by have := h.map; unfold MapIn at this; rw [e, h.bag] at this; simp at this)
  have hmb2 : MapIn w2 mb q S.live S.items.length := below_some h2 hmb1
  have := map_add (t := 85) (e := 96) und_int Tryz.underlying85 hmb2 (fun i hi => live_lt hi) hn Q (fun i => if i = S.items.length then Q else q i) (fun i hi => if_neg (by have := live_lt hi; omega)) (if_pos rfl)
  rw [hid]
  exact this
theorem added_below {base pb mb : Nat} {q : Nat → Nat} {vr : Value} {S : PStore} {W0 W1 w2 : World} (h : BagIn base W0 pb mb q vr S) (h1 : Same pb W0 W1) (h2 : Below W1.heap.size W1 w2) (o : Obj) : Below base W0 (ChangeMaps.setBlock w2 mb o) := by
  have hmb1 : W1.heap[mb]? = some (.map (ents q S.live) S.items.length) := same_some h1 h.map (fun e => by have := h.map; unfold MapIn at this; rw [e, h.bag] at this; simp at this)
  have hle : base ≤ W1.heap.size := by rw [h1.1]; exact h.le
  exact ((h1.below h.pbb).trans (h2.mono hle)).trans ((same_setBlock (below_some h2 hmb1) o).below h.mbb)

set_option maxHeartbeats 1000000 in
set_option maxRecDepth 100000 in
theorem bagAdd_any (base pb mb : Nat) (q : Nat → Nat) (vr : Value) (S : PStore) (m : PMail) (v : Value) (w : World) (h : BagIn base w pb mb q vr S) (B : Nat) (hv : w.ownsRow B 9 1 v m.tos.length (textCells m.tos)) (hz : MailSz m) (hid : m.id = S.items.length + 1) (ht : 1 ≤ m.tos.length) (hn : S.items.length < 4294967295) :
    Calls Tryz.prog 114 #[.pointer (some ⟨pb, 0, none⟩), .agg (mailCells m v)] w fun e w' => e = .returned (.tuple #[]) ∧ ∃ q', BagIn base w' pb mb q' vr (S.plus m) ∧ Below base w w' := by
  have HH := Lib.hid h
  have HV := Lib.hid hv
  have HZ := Lib.hid hz
  have hpb : ∀ o : Obj, (w.alloc o).heap[pb]? = some (.cells #[vr, .int .i64 S.time, .int .i64 S.items.length, .map (some mb)] 88 (0, 0)) := fun o => below_some ((Below.refl _ w).alloc (Nat.le_refl _) o) h.bag
  have c1 : ∀ o : Obj, (w.alloc o).cell? ⟨pb, 1, none⟩ = some (.int .i64 S.time) := fun o => by rw [Lib.cell_of_heap (hpb o)]; rfl
  have c2 : ∀ o : Obj, (w.alloc o).cell? ⟨pb, 2, none⟩ = some (.int .i64 S.items.length) := fun o => by rw [Lib.cell_of_heap (hpb o)]; rfl
  have c3 : ∀ o : Obj, (w.alloc o).cell? ⟨pb, 3, none⟩ = some (.map (some mb)) := fun o => by rw [Lib.cell_of_heap (hpb o)]; rfl
  have f1 : ∀ o : Obj, (w.alloc o).frozen? ⟨pb, 1, none⟩ = false := fun o => Lib.frozen_of_heap (hpb o) 1
  have f2 : ∀ o : Obj, (w.alloc o).frozen? ⟨pb, 2, none⟩ = false := fun o => Lib.frozen_of_heap (hpb o) 2
  have HPB := Lib.hid hpb
  obtain ⟨s, hs⟩ : ∃ s, w.heap.size = s := ⟨_, rfl⟩
  have hps : pb ≠ s := by have := h.pblt; omega
  have HSS := Lib.hid hs
  unfold mailCells
  have HID := Lib.hid hid
  clear h hv hz hpb hs hid
  go_enter Tryz.func114, Tryz.ntmps114
  go_wp2_with fail
  obtain ⟨W1, hW1⟩ : ∃ W1 : World, (((w.alloc (.cells #[.int .i64 m.id, .int .i64 m.time, .string (bs m.frm), v, .string (bs m.body)] 26)).setCell ⟨pb, 2, none⟩ (.int .i64 m.id)).setCell ⟨pb, 1, none⟩ (.int .i64 m.time)) = W1 := ⟨_, rfl⟩
  rw [hW1]
  obtain ⟨W0, hW0⟩ : ∃ W0 : World, w.alloc (.cells #[.int .i64 m.id, .int .i64 m.time, .string (bs m.frm), v, .string (bs m.body)] 26) = W0 := ⟨_, rfl⟩
  have B0 : Below w.heap.size w W0 := by rw [← hW0]; exact (Below.refl _ _).alloc (Nat.le_refl _) _
  have A0 : BagIn base W0 pb mb q vr S := HH.out.keep B0
  have X0 : W0.heap[w.heap.size]? = some (.cells #[.int .i64 m.id, .int .i64 m.time, .string (bs m.frm), v, .string (bs m.body)] 26 (0, 0)) := by rw [← hW0]; exact heap_alloc_new w _
  have S1 : Same pb W0 W1 := by rw [← hW1, hW0]; exact ((Same.refl pb W0).setCell _).setCell _
  have P1 : W1.heap[pb]? = some (.cells #[vr, .int .i64 m.time, .int .i64 ((S.items.length : Int) + 1), .map (some mb)] 88 (0, 0)) := by
    rw [← hW1, hW0]
    have := heap_setCell_same _ pb 1 _ _ (.int .i64 m.time) (heap_setCell_same W0 pb 2 _ _ (.int .i64 m.id) A0.bag)
    refine Eq.trans this ?_
    rw [HID.out]
    rfl
  have X1 : W1.heap[w.heap.size]? = some (.cells #[.int .i64 m.id, .int .i64 m.time, .string (bs m.frm), v, .string (bs m.body)] 26 (0, 0)) := same_some S1 X0 (by rw [HSS.out]; exact fun e => hps e.symm)
  have d3 : W1.drew.cell? ⟨pb, 3, none⟩ = some (.map (some mb)) := by show W1.cell? _ = _; rw [Lib.cell_of_heap P1]; rfl
  have e0 : W1.drew.cell? ⟨w.heap.size, 0, none⟩ = some (.int .i64 m.id) := by show W1.cell? _ = _; rw [Lib.cell_of_heap X1]; rfl
  have e1 : W1.drew.cell? ⟨w.heap.size, 1, none⟩ = some (.int .i64 m.time) := by show W1.cell? _ = _; rw [Lib.cell_of_heap X1]; rfl
  have e2 : W1.drew.cell? ⟨w.heap.size, 2, none⟩ = some (.string (bs m.frm)) := by show W1.cell? _ = _; rw [Lib.cell_of_heap X1]; rfl
  have e3 : W1.drew.cell? ⟨w.heap.size, 3, none⟩ = some v := by show W1.cell? _ = _; rw [Lib.cell_of_heap X1]; rfl
  have e4 : W1.drew.cell? ⟨w.heap.size, 4, none⟩ = some (.string (bs m.body)) := by show W1.cell? _ = _; rw [Lib.cell_of_heap X1]; rfl
  have hv1 : RowAt W1.drew v m.tos.length 1 (textCells m.tos) := row_of_own' (ownsRow_keeps HV.out fun g cur e _ => same_some (S1.drew) (below_some B0 e) (fun e' => by rw [e', HH.out.bag] at e; simp at e))
  have HNM := Lib.hid (newMail_any m v W1.drew hv1 HZ.out)
  have HW1 := Lib.hid (show W1.drew.heap[pb]? = _ from P1)
  have HS1 := Lib.hid S1.drew
  have HA0 := Lib.hid A0
  have HX1 := Lib.hid (show W1.drew.heap[w.heap.size]? = _ from X1)
  have HLW := Lib.hid (B0.mono HH.out.le)
  clear c1 c2 c3 f1 f2 hW1 hW0 P1 S1 A0 X1 X0 B0 hv1
  go_region_law (first
    | (go_simp; go_at_call 167; refine HNM.out.mono ?_; rintro e w2 ⟨Q, g, rfl, hm, hq, hr, hb⟩; have d3' : w2.cell? ⟨pb, 3, none⟩ = some (.map (some mb)) := (by rw [Lib.cell_of_heap (below_some hb HW1.out)]; rfl); have e0' : w2.cell? ⟨w.heap.size, 0, none⟩ = some (.int .i64 m.id) := (by rw [Lib.cell_of_heap (below_some hb HX1.out)]; rfl); have hmu := add_run (Q := Q) HA0.out HS1.out HW1.out hb HID.out hn; have HR := Lib.hid (HA0.out.added HS1.out HW1.out hb hq hm hr ht); have HL := Lib.hid (added_below HA0.out HS1.out hb); clear hm hq hr hb))
  all_goals
    refine bodyPost_end (results_none rfl _ _ _) rfl ?_
    exact ⟨rfl, _, HR.out, (HLW.out).trans (HL.out _)⟩
end Go.Proofs.YtgjjjdccbpjnfaaGreatDoor

/- May they leave? -/
namespace Go.Proofs.YtgjjjdccbpjnfaaGreatDoor
open Go.RowKit

set_option maxHeartbeats 1000000 in
set_option maxRecDepth 100000 in
theorem mayLeave_any (base pb mb : Nat) (q : Nat → Nat) (vr vp : Value) (S : PStore) (id : Nat) (ps : List Nat) (w : World) (h : BagIn base w pb mb q vr S) (hok : S.Ok) (hp : RowAt w vp ps.length 1 (natCells ps)) (hid : id ≤ 4294967295) (h1 : 1 ≤ ps.length) (hpl : ps.length ≤ 255) (hn : S.items.length ≤ 4294967295) :
    Calls Tryz.prog 116 #[.pointer (some ⟨pb, 0, none⟩), .agg #[.int .i64 id, vp]] w fun e w' => e = .returned (.bool (mayLeaveB S id ps)) ∧ Below w.heap.size w w' := by
  rw [mayLeave_live h1]
  obtain ⟨W0, hW0⟩ : ∃ W0 : World, w.alloc (.cells #[.int .i64 id, vp] 127) = W0 := ⟨_, rfl⟩
  have B0 : Below w.heap.size w W0 := by rw [← hW0]; exact (Below.refl _ _).alloc (Nat.le_refl _) _
  have A0 : BagIn base W0 pb mb q vr S := h.keep B0
  have X0 : W0.heap[w.heap.size]? = some (.cells #[.int .i64 id, vp] 127 (0, 0)) := by rw [← hW0]; exact heap_alloc_new w _
  have c3 : W0.drew.cell? ⟨pb, 3, none⟩ = some (.map (some mb)) := by show W0.cell? _ = _; rw [Lib.cell_of_heap A0.bag]; rfl
  have e0 : W0.drew.cell? ⟨w.heap.size, 0, none⟩ = some (.int .i64 id) := by show W0.cell? _ = _; rw [Lib.cell_of_heap X0]; rfl
  have e1 : W0.drew.cell? ⟨w.heap.size, 1, none⟩ = some vp := by show W0.cell? _ = _; rw [Lib.cell_of_heap X0]; rfl
  have hl32 : ∀ i ∈ S.live, i < 4294967296 := fun i hi => by have := live_lt hi; omega
  have hM : MapIn W0.drew mb q S.live S.items.length := A0.map
  have HW0 := Lib.hid hW0
  have HB0 := Lib.hid B0
  by_cases hm : 1 ≤ id ∧ id - 1 ∈ S.live
  · have hlk : (Instr.lookup 85 (.map (some mb)) (.int .i64 id) true).run Tryz.prog W0.drew = .ok (.tuple #[.pointer (some ⟨q (id - 1), 0, none⟩), .bool true]) W0.drew := by
      have := map_look (t := 85) (e := 96) und_int Tryz.underlying85 hM hl32 (id - 1) (by omega) hm.2 true
      rw [show ((id - 1 : Nat) : Int) + 1 = (id : Int) by omega] at this
      exact this
    rw [decide_eq_true hm, Bool.true_and]
    obtain ⟨_, v, x, hb, hr⟩ := A0.mail (id - 1) hm.2
    have HHA := Lib.hid (hasAll_any base (q (id - 1)) _ _ _ v vp (S.stayOf (id - 1)) ps x W0.drew hb hr (hp.below B0.drew) (by have := stayOf_le hok (id - 1); omega) hpl)
    clear hb hr A0 X0 B0 hM hl32 hp h hW0
    go_enter Tryz.func116, Tryz.ntmps116
    go_wp2_with fail
    rw [HW0.out]
    go_region
    all_goals
      go_wp2_with fail
      refine HHA.out.mono ?_
      rintro e w2 ⟨rfl, hb2⟩
      go_wp2_with fail
      go_ret
      exact ⟨rfl, HB0.out.trans ((show Below W0.heap.size W0 w2 from ⟨hb2.os, hb2.tape, hb2.output, hb2.size, hb2.block⟩).mono HB0.out.size)⟩
  · have hno : id = 0 ∨ id - 1 ∉ S.live := by
      by_cases e : id = 0
      · exact .inl e
      · exact .inr fun h => hm ⟨by omega, h⟩
    have hlk : (Instr.lookup 85 (.map (some mb)) (.int .i64 id) true).run Tryz.prog W0.drew = .ok (.tuple #[.pointer none, .bool false]) W0.drew := by
      by_cases e : id = 0
      · subst e
        exact map_look_zero (t := 85) (e := 96) und_int Tryz.underlying85 (zero_pmail _) hM hl32 true
      · have := map_look_no (t := 85) (e := 96) und_int Tryz.underlying85 (zero_pmail _) hM hl32 (id - 1) (by omega) (hno.resolve_left e) true
        rw [show ((id - 1 : Nat) : Int) + 1 = (id : Int) by omega] at this
        exact this
    rw [decide_eq_false hm, Bool.false_and]
    clear A0 X0 B0 hM hl32 hp h hW0 hno hm
    go_enter Tryz.func116, Tryz.ntmps116
    go_wp2_with fail
    rw [HW0.out]
    go_region
    all_goals
      go_wp2_with fail
      go_ret
      exact ⟨rfl, HB0.out.drew⟩
end Go.Proofs.YtgjjjdccbpjnfaaGreatDoor

/- They leave. -/
namespace Go.Proofs.YtgjjjdccbpjnfaaGreatDoor
open Go.RowKit

theorem but_drew {p : Nat} {w w' : World} (h : But p w.drew w') : But p w w' := ⟨h.size, h.block, h.still⟩
set_option maxHeartbeats 1000000 in
set_option maxRecDepth 100000 in
theorem bagLeave_any (base pb mb : Nat) (q : Nat → Nat) (vr vp : Value) (S : PStore) (K : Nat) (ps : List Nat) (w : World) (h : BagIn base w pb mb q vr S) (hok : S.Ok) (hp : RowAt w vp ps.length 1 (natCells ps)) (hK : K ∈ S.live) (hpl : ps.length ≤ 255) (hn : S.items.length ≤ 4294967295) :
    Calls Tryz.prog 117 #[.pointer (some ⟨pb, 0, none⟩), .agg #[.int .i64 ((K : Int) + 1), vp]] w fun e w' => ∃ vn, e = .returned vn ∧ w'.ownsRow w.heap.size 9 1 vn (gonesOf (S.stayOf K) ps).length (textCells (gonesOf (S.stayOf K) ps)) ∧ BagIn base w' pb mb q vr (S.outs K ps) ∧ Below base w w' := by
  have hle := h.le
  obtain ⟨W0, hW0⟩ : ∃ W0 : World, w.alloc (.cells #[.int .i64 ((K : Int) + 1), vp] 127) = W0 := ⟨_, rfl⟩
  have B0 : Below w.heap.size w W0 := by rw [← hW0]; exact (Below.refl _ _).alloc (Nat.le_refl _) _
  have A0 : BagIn base W0 pb mb q vr S := h.keep B0
  have X0 : W0.heap[w.heap.size]? = some (.cells #[.int .i64 ((K : Int) + 1), vp] 127 (0, 0)) := by rw [← hW0]; exact heap_alloc_new w _
  have c3 : W0.drew.cell? ⟨pb, 3, none⟩ = some (.map (some mb)) := by show W0.cell? _ = _; rw [Lib.cell_of_heap A0.bag]; rfl
  have e0 : W0.drew.cell? ⟨w.heap.size, 0, none⟩ = some (.int .i64 ((K : Int) + 1)) := by show W0.cell? _ = _; rw [Lib.cell_of_heap X0]; rfl
  have e1 : W0.drew.cell? ⟨w.heap.size, 1, none⟩ = some vp := by show W0.cell? _ = _; rw [Lib.cell_of_heap X0]; rfl
  have hl32 : ∀ i ∈ S.live, i < 4294967296 := fun i hi => by have := live_lt hi; omega
  have hM : MapIn W0.drew mb q S.live S.items.length := A0.map
  have hKn := live_lt hK
  have hlk : (Instr.lookup 85 (.map (some mb)) (.int .i64 ((K : Int) + 1)) false).run Tryz.prog W0.drew = .ok (.pointer (some ⟨q K, 0, none⟩)) W0.drew :=
    map_look (t := 85) (e := 96) und_int Tryz.underlying85 hM hl32 K (by omega) hK false
  obtain ⟨hqb, v, x, hb, hr⟩ := A0.mail K hK
  have HLV := Lib.hid (mailLeave_any base (q K) _ _ _ v vp (S.stayOf K) ps x W0.drew hb hqb hr (hp.below B0.drew) (by have := stayOf_le hok K; omega) hpl)
  have HA0 := Lib.hid A0
  have HB0 := Lib.hid B0
  have HW0 := Lib.hid hW0
  have HX0 := Lib.hid X0
  have HHB := Lib.hid hb
  have HL := Lib.hid hl32
  have hne : q K ≠ w.heap.size := fun e => by unfold BmAt at hb; rw [e, X0] at hb; simp at hb
  clear hb hr A0 X0 B0 hM hl32 hp h hW0
  go_enter Tryz.func117, Tryz.ntmps117
  go_wp2_with fail
  rw [HW0.out]
  go_region
  all_goals
    go_wp2_with fail
    refine HLV.out.mono ?_
    rintro e w2 ⟨vn, vs, rfl, hvn, hbm, hvs, hbut⟩
    obtain ⟨gs, cs, es⟩ : ∃ a c, vs = .slice a (staysOf (S.stayOf K) ps).length c := by
      rcases hvs.2 with ⟨e, h0⟩ | ⟨g, cap, cur, e, _⟩
      · exact ⟨_, _, by rw [h0]; exact e⟩
      · exact ⟨_, _, e⟩
    subst es
    have hbut0 : But (q K) W0 w2 := but_drew hbut
    have f2 : w2.cell? ⟨q K, 2, none⟩ = some (.slice gs (staysOf (S.stayOf K) ps).length cs) := by rw [Lib.cell_of_heap hbm]; rfl
    have HB2 : Hid (Below base w w2) := Lib.hid ((HB0.out.mono hle).trans (hbut0.below hqb HA0.out.le))
    by_cases hs : staysOf (S.stayOf K) ps = []
    · obtain ⟨m1, A2⟩ := HA0.out.emptied hK hbut0 hs
      have hlen : (staysOf (S.stayOf K) ps).length = 0 := by rw [hs]; rfl
      have hdel0 : ∀ ty : TypeId, (Builtin.delete_ #[85, 3] ty #[.map (some mb), .int .i64 ((K : Int) + 1)]).run Tryz.prog w2.drew = .ok (.tuple #[]) (ChangeMaps.setBlock w2.drew mb (.map (ents q (S.live.filter fun i => decide (i ≠ K))) S.items.length)) := fun ty =>
        map_drop (t := 85) (e := 96) und_int Tryz.underlying85 (w := w2.drew) (c := S.items.length) m1 HL.out (live_nodup S) K (by omega) hK
      have A3 : Hid (BagIn base (ChangeMaps.setBlock w2.drew mb (.map (ents q (S.live.filter fun i => decide (i ≠ K))) S.items.length)) pb mb q vr (S.outs K ps)) := Lib.hid ⟨A2.bag, A2.map, A2.pbb, A2.mbb, A2.one, A2.mail⟩
      have S3 := same_setBlock (w := w2.drew) m1 (.map (ents q (S.live.filter fun i => decide (i ≠ K))) S.items.length)
      have hvn3 := Lib.hid (ownsRow_keeps (w := w2.drew) hvn.drew fun g cur e _ => same_some S3 e fun e' => by rw [e'] at e; rw [show w2.drew.heap[mb]? = _ from m1] at e; simp at e)
      have HB3 := Lib.hid (HB2.out.drew.trans (S3.below HA0.out.mbb))
      obtain ⟨w3, hw3⟩ : ∃ w3, ChangeMaps.setBlock w2.drew mb (.map (ents q (S.live.filter fun i => decide (i ≠ K))) S.items.length) = w3 := ⟨_, rfl⟩
      rw [hw3] at A3 hvn3 HB3
      have hdel : ∀ ty : TypeId, (Builtin.delete_ #[85, 3] ty #[.map (some mb), .int .i64 ((K : Int) + 1)]).run Tryz.prog w2.drew = .ok (.tuple #[]) w3 := fun ty => by rw [hdel0 ty, hw3]
      have c3' : w2.drew.cell? ⟨pb, 3, none⟩ = some (.map (some mb)) := by
        show w2.cell? _ = _
        rw [Lib.cell_of_heap (but_some hbut0 HA0.out.bag (fun e => by have := HHB.out; unfold BmAt at this; rw [← e, HA0.out.bag] at this; simp at this))]; rfl
      have e0' : w2.drew.cell? ⟨w.heap.size, 0, none⟩ = some (.int .i64 ((K : Int) + 1)) := by
        show w2.cell? _ = _
        rw [Lib.cell_of_heap (but_some hbut0 HX0.out (fun e => hne e.symm))]; rfl
      rw [hlen] at f2
      clear hbut hbut0 hbm hvs hvn A2 m1 S3 HB2 hlen hw3 hdel0
      go_wp2_with fail
      go_region
      all_goals
        go_wp2_with fail
        go_ret
        exact ⟨vn, rfl, hvn3.out.mono (by have := HB0.out.size; exact this), A3.out, HB3.out⟩
    · have A2 := Lib.hid (HA0.out.left hK hbut0 hbm hvs hs)
      have hlen : (((staysOf (S.stayOf K) ps).length : Int) == 0) = false := by
        rw [beq_eq_false_iff_ne]
        intro e
        exact hs (List.eq_nil_of_length_eq_zero (by omega))
      have HVN := Lib.hid hvn
      clear hbut hbut0 hbm hvs hvn
      go_wp2_with fail
      go_ret
      exact ⟨vn, rfl, HVN.out.mono (by have := HB0.out.size; exact this), A2.out, HB2.out⟩
end Go.Proofs.YtgjjjdccbpjnfaaGreatDoor

/- A mail's record is taken. -/
namespace Go.Proofs.YtgjjjdccbpjnfaaGreatDoor
open Go.RowKit

def TakePost (base pb mb : Nat) (q : Nat → Nat) (vr : Value) (S : PStore) (o : Option PStore) (w : World) (e : Ending) (w' : World) : Prop :=
  ((o = none ∧ e = .returned (.bool false) ∧ BagIn base w' pb mb q vr S) ∨ ∃ S' q', o = some S' ∧ e = .returned (.bool true) ∧ BagIn base w' pb mb q' vr S') ∧ Below base w w'
theorem BagIn.drewN {base pb mb : Nat} {q : Nat → Nat} {vr : Value} {S : PStore} {w : World} (h : BagIn base w pb mb q vr S) (n : Nat) : BagIn base (w.drewN n) pb mb q vr S := h.keep (below_drewN n _ _)
set_option maxHeartbeats 1000000 in
set_option maxRecDepth 100000 in
theorem takeMail_any (base pb mb : Nat) (q : Nat → Nat) (vr : Value) (S : PStore) (m : PMail) (v : Value) (w : World) (h : BagIn base w pb mb q vr S) (B : Nat) (hv : w.ownsRow B 9 1 v m.tos.length (textCells m.tos)) (hz : MailSz m) (ht : 1 ≤ m.tos.length) (hn : S.items.length < 4294967295) :
    Calls Tryz.prog 73 #[.pointer (some ⟨pb, 0, none⟩), .agg (mailCells m v)] w (TakePost base pb mb q vr S (S.takesM m) w) := by
  have hle := h.le
  obtain ⟨W0, hW0⟩ : ∃ W0 : World, w.alloc (.cells #[.int .i64 m.id, .int .i64 m.time, .string (bs m.frm), v, .string (bs m.body)] 26) = W0 := ⟨_, rfl⟩
  have B0 : Below w.heap.size w W0 := by rw [← hW0]; exact (Below.refl _ _).alloc (Nat.le_refl _) _
  have A0 : BagIn base W0 pb mb q vr S := h.keep B0
  have X0 : W0.heap[w.heap.size]? = some (.cells #[.int .i64 m.id, .int .i64 m.time, .string (bs m.frm), v, .string (bs m.body)] 26 (0, 0)) := by rw [← hW0]; exact heap_alloc_new w _
  have c1 : W0.cell? ⟨pb, 1, none⟩ = some (.int .i64 S.time) := by rw [Lib.cell_of_heap A0.bag]; rfl
  have c2 : W0.cell? ⟨pb, 2, none⟩ = some (.int .i64 S.items.length) := by rw [Lib.cell_of_heap A0.bag]; rfl
  have e0 : W0.cell? ⟨w.heap.size, 0, none⟩ = some (.int .i64 m.id) := by rw [Lib.cell_of_heap X0]; rfl
  have e1 : W0.cell? ⟨w.heap.size, 1, none⟩ = some (.int .i64 m.time) := by rw [Lib.cell_of_heap X0]; rfl
  have e2 : W0.cell? ⟨w.heap.size, 2, none⟩ = some (.string (bs m.frm)) := by rw [Lib.cell_of_heap X0]; rfl
  have e3 : W0.cell? ⟨w.heap.size, 3, none⟩ = some v := by rw [Lib.cell_of_heap X0]; rfl
  have e4 : W0.cell? ⟨w.heap.size, 4, none⟩ = some (.string (bs m.body)) := by rw [Lib.cell_of_heap X0]; rfl
  have HA0 := Lib.hid A0
  have HB0 := Lib.hid B0
  have HW0 := Lib.hid hW0
  have HV := Lib.hid (ownsRow_keeps hv fun g cur e _ => below_some B0 e)
  have HZ := Lib.hid hz
  unfold mailCells
  clear A0 X0 B0 h hW0 hv
  have hw : IntKind.i64.wrap ((S.items.length : Int) + 1) = (S.items.length : Int) + 1 := by rw [IntKind.wrap_i64]; omega
  by_cases h1 : m.id = S.items.length + 1
  · by_cases h2 : S.time ≤ m.time
    · have HT : Hid (S.takesM m = some (S.plus m)) := Lib.hid (by unfold PStore.takesM PStore.plus; rw [decide_eq_true h1, decide_eq_true h2]; rfl)
      have t1 : ((m.id : Int) != (S.items.length : Int) + 1) = false := by rw [h1]; simp
      have t2 : ¬ m.time < S.time := by omega
      have H1 := Lib.hid h1
      clear h1 h2
      go_enter Tryz.func73, Tryz.ntmps73
      go_wp2_with fail
      rw [HW0.out]
      go_quiet (fail)
      go_wp2_with fail
      refine (bagAdd_any base pb mb q vr S m v _ (HA0.out.drewN _) B (ownsRow_keeps HV.out fun g cur e _ => below_some (below_drewN _ _ _) e) HZ.out H1.out ht hn).mono ?_
      rintro e w2 ⟨rfl, q', A2, B2⟩
      go_wp2_with fail
      go_ret
      exact ⟨.inr ⟨_, q', HT.out, rfl, A2⟩, ((HB0.out.mono hle).trans (below_drewN _ _ _)).trans B2⟩
    · have HT : Hid (S.takesM m = none) := Lib.hid (by unfold PStore.takesM; rw [decide_eq_false h2, Bool.and_false]; rfl)
      have t1 : ((m.id : Int) != (S.items.length : Int) + 1) = false := by rw [h1]; simp
      have t2 : m.time < S.time := by omega
      clear h1 h2
      go_enter Tryz.func73, Tryz.ntmps73
      go_wp2_with fail
      rw [HW0.out]
      go_quiet (fail)
      go_wp2_with fail
      go_ret
      exact ⟨.inl ⟨HT.out, rfl, HA0.out.drewN _⟩, (HB0.out.mono hle).trans (below_drewN _ _ _)⟩
  · have HT : Hid (S.takesM m = none) := Lib.hid (by unfold PStore.takesM; rw [decide_eq_false h1, Bool.false_and]; rfl)
    have t1 : ((m.id : Int) != (S.items.length : Int) + 1) = true := by rw [bne_iff_ne]; omega
    clear h1
    go_enter Tryz.func73, Tryz.ntmps73
    go_wp2_with fail
    rw [HW0.out]
    go_quiet (fail)
    go_wp2_with fail
    go_ret
    exact ⟨.inl ⟨HT.out, rfl, HA0.out.drewN _⟩, (HB0.out.mono hle).trans (below_drewN _ _ _)⟩
end Go.Proofs.YtgjjjdccbpjnfaaGreatDoor

/- Those who are gone. -/
namespace Go.Proofs.YtgjjjdccbpjnfaaGreatDoor
open Go.RowKit

set_option maxHeartbeats 1000000 in
set_option maxRecDepth 100000 in
theorem takeGone_any (base pb mb : Nat) (q : Nat → Nat) (vr vp : Value) (S : PStore) (id : Nat) (ps : List Nat) (w : World) (h : BagIn base w pb mb q vr S) (hok : S.Ok) (hp : RowAt w vp ps.length 1 (natCells ps)) (hid : id ≤ 4294967295) (h1 : 1 ≤ ps.length) (hpl : ps.length ≤ 255) (hn : S.items.length ≤ 4294967295) :
    Calls Tryz.prog 75 #[.pointer (some ⟨pb, 0, none⟩), .agg #[.int .i64 id, vp]] w (TakePost base pb mb q vr S (S.takesG id ps) w) := by
  have hle := h.le
  obtain ⟨W0, hW0⟩ : ∃ W0 : World, w.alloc (.cells #[.int .i64 id, vp] 127) = W0 := ⟨_, rfl⟩
  have B0 : Below w.heap.size w W0 := by rw [← hW0]; exact (Below.refl _ _).alloc (Nat.le_refl _) _
  have A0 : BagIn base W0 pb mb q vr S := h.keep B0
  have X0 : W0.heap[w.heap.size]? = some (.cells #[.int .i64 id, vp] 127 (0, 0)) := by rw [← hW0]; exact heap_alloc_new w _
  have e0 : ∀ o : Obj, o = .cells #[.int .i64 id, vp] 127 → (w.alloc o).cell? ⟨w.heap.size, 0, none⟩ = some (.int .i64 id) := fun o ho => by rw [ho, hW0, Lib.cell_of_heap X0]; rfl
  have HM := Lib.hid (mayLeave_any base pb mb q vr vp S id ps W0 A0 hok (hp.below B0) hid h1 hpl hn)
  have HA0 := Lib.hid A0
  have HB0 := Lib.hid B0
  have HW0 := Lib.hid hW0
  have HX0 := Lib.hid X0
  have HP0 := Lib.hid (hp.below B0)
  clear A0 B0 hW0 X0 hp h e0
  go_enter Tryz.func75, Tryz.ntmps75
  go_wp2_with fail
  rw [HW0.out]
  refine HM.out.mono ?_
  rintro e w2 ⟨rfl, hb2⟩
  have x0 := below_some hb2 HX0.out
  have y0 : w2.cell? ⟨w.heap.size, 0, none⟩ = some (.int .i64 id) := by rw [Lib.cell_of_heap x0]; rfl
  have y1 : w2.cell? ⟨w.heap.size, 1, none⟩ = some vp := by rw [Lib.cell_of_heap x0]; rfl
  have A2 := Lib.hid (HA0.out.keep hb2)
  have P2 := Lib.hid (HP0.out.below hb2)
  have B2 := Lib.hid (((HB0.out.mono hle)).trans (hb2.mono HA0.out.le))
  clear x0 hb2
  cases hm : mayLeaveB S id ps with
  | false =>
    have HT : Hid (S.takesG id ps = none) := Lib.hid (by unfold PStore.takesG; rw [hm]; rfl)
    clear hm
    go_wp2_with fail
    go_ret
    exact ⟨.inl ⟨HT.out, rfl, A2.out⟩, B2.out⟩
  | true =>
    have HT : Hid (S.takesG id ps = some (S.outs (id - 1) ps)) := Lib.hid (by unfold PStore.takesG; rw [hm]; rfl)
    rw [mayLeave_live h1, Bool.and_eq_true, decide_eq_true_eq] at hm
    obtain ⟨⟨hi1, hi2⟩, _⟩ := hm
    have HL := Lib.hid (bagLeave_any base pb mb q vr vp S (id - 1) ps w2 A2.out hok P2.out hi2 hpl hn)
    rw [show ((id - 1 : Nat) : Int) + 1 = (id : Int) by omega] at HL
    clear hi1 hi2
    go_wp2_with fail
    refine HL.out.mono ?_
    rintro e w3 ⟨vn, rfl, _, A3, B3⟩
    go_wp2_with fail
    go_ret
    exact ⟨.inr ⟨_, q, HT.out, rfl, A3⟩, B2.out.trans B3⟩
end Go.Proofs.YtgjjjdccbpjnfaaGreatDoor

/- Those who failed. -/
namespace Go.Proofs.YtgjjjdccbpjnfaaGreatDoor
open Go.RowKit

theorem namesE_len (l : List (List UInt8)) (hs : ∀ t ∈ l, t.length ≤ 255) : (namesE l).length ≤ 14 + 257 * l.length := by
  unfold namesE
  rw [List.length_append, show notE.length = 14 from rfl]
  have : (l.flatMap fun t => [13, 10] ++ t).length ≤ 257 * l.length := by
    induction l with
    | nil => simp
    | cons x l ih =>
      have h1 := ih fun t ht => hs t (by simp [ht])
      have h2 := hs x (by simp)
      rw [List.flatMap_cons, List.length_append, List.length_append]
      simp only [List.length_cons, List.length_nil]
      omega
  omega
theorem getD_le {tos : List (List UInt8)} (hs : ∀ t ∈ tos, t.length ≤ 255) (i : Nat) : (tos.getD i []).length ≤ 255 := by
  rw [List.getD_eq_getElem?_getD]
  cases h : tos[i]? with
  | none => simp
  | some x => exact hs x (List.mem_of_getElem? h)
/-- the names of those who fail -/
theorem gones_names {S : PStore} {id : Nat} {ps : List Nat} (hr : risingB ps = true) (hm : mayLeaveB S id ps = true) : gonesOf (S.stayOf (id - 1)) ps = ps.map fun i => (S.mailOf (id - 1)).tos.getD i [] := by
  unfold mayLeaveB at hm
  rw [Bool.and_eq_true, List.all_eq_true] at hm
  unfold gonesOf PStore.stayOf
  refine stay_leave _ _ _ hr fun x hx => ?_
  have := hm.2 x hx
  simpa using this
theorem takesF_plain {S : PStore} {T id : Nat} {ps : List Nat} (hr : risingB ps = true) (hm : mayLeaveB S id ps = true) (hT : S.time ≤ T) :
    ((S.mailOf (id - 1)).frm = [] → S.takesF T id ps = some (PStore.outs ⟨S.items, T⟩ (id - 1) ps)) ∧
    ((S.mailOf (id - 1)).frm ≠ [] → S.takesF T id ps = some ((PStore.outs ⟨S.items, T⟩ (id - 1) ps).plus ⟨S.items.length + 1, T, [], [(S.mailOf (id - 1)).frm], namesE (gonesOf (S.stayOf (id - 1)) ps)⟩)) := by
  unfold PStore.takesF
  rw [hm, decide_eq_true hT]
  simp only [Bool.and_true, if_true, PStore.failed]
  constructor
  · intro h
    rw [if_pos h]; rfl
  · intro h
    rw [if_neg h, gones_names hr hm, namesE_body]
    simp [PStore.plus, PStore.outs]

set_option maxHeartbeats 1000000 in
set_option maxRecDepth 100000 in
theorem takeFailed_any (base pb mb : Nat) (q : Nat → Nat) (vr vp : Value) (S : PStore) (T id : Nat) (ps : List Nat) (w : World) (h : BagIn base w pb mb q vr S) (hok : S.Ok) (B : Nat) (hp : w.ownsRow B 3 1 vp ps.length (natCells ps)) (hid : id ≤ 4294967295) (h1 : 1 ≤ ps.length) (hpl : ps.length ≤ 255) (hr : risingB ps = true) (hT : T ≤ 1000000000) (hn : S.items.length < 4294967295) :
    Calls Tryz.prog 77 #[.pointer (some ⟨pb, 0, none⟩), .int .i64 T, .agg #[.int .i64 id, vp]] w (TakePost base pb mb q vr S (S.takesF T id ps) w) := by
  have hle := h.le
  obtain ⟨W0, hW0⟩ : ∃ W0 : World, w.alloc (.cells #[.int .i64 id, vp] 127) = W0 := ⟨_, rfl⟩
  have B0 : Below w.heap.size w W0 := by rw [← hW0]; exact (Below.refl _ _).alloc (Nat.le_refl _) _
  have A0 : BagIn base W0 pb mb q vr S := h.keep B0
  have X0 : W0.heap[w.heap.size]? = some (.cells #[.int .i64 id, vp] 127 (0, 0)) := by rw [← hW0]; exact heap_alloc_new w _
  have O0 := ownsRow_keeps hp fun g cur e _ => below_some B0 e
  have HM := Lib.hid (mayLeave_any base pb mb q vr vp S id ps W0 A0 hok (row_of_own' O0) hid h1 hpl (by omega))
  have HA0 := Lib.hid A0
  have HB0 := Lib.hid B0
  have HW0 := Lib.hid hW0
  have HX0 := Lib.hid X0
  have HO0 := Lib.hid O0
  have hpbs : pb < w.heap.size := h.pblt
  clear A0 B0 hW0 X0 hp h O0
  go_enter Tryz.func77, Tryz.ntmps77
  go_wp2_with fail
  rw [HW0.out]
  refine HM.out.mono ?_
  rintro e w2 ⟨rfl, hb2⟩
  have x0 := below_some hb2 HX0.out
  have y0 : w2.cell? ⟨w.heap.size, 0, none⟩ = some (.int .i64 id) := by rw [Lib.cell_of_heap x0]; rfl
  have y1 : w2.cell? ⟨w.heap.size, 1, none⟩ = some vp := by rw [Lib.cell_of_heap x0]; rfl
  have HX2 := Lib.hid x0
  have A2 := HA0.out.keep hb2
  have c1 : w2.cell? ⟨pb, 1, none⟩ = some (.int .i64 S.time) := by rw [Lib.cell_of_heap A2.bag]; rfl
  have g1 : w2.frozen? ⟨pb, 1, none⟩ = false := Lib.frozen_of_heap A2.bag 1
  have HA2 := Lib.hid A2
  have O2 := Lib.hid (ownsRow_keeps HO0.out fun g cur e _ => below_some hb2 e)
  have B2 := Lib.hid (((HB0.out.mono hle)).trans (hb2.mono HA0.out.le))
  clear x0 hb2 A2
  cases hm : mayLeaveB S id ps with
  | false =>
    have HT : Hid (S.takesF T id ps = none) := Lib.hid (by unfold PStore.takesF; rw [hm]; rfl)
    clear hm
    go_wp2_with fail
    go_ret
    exact ⟨.inl ⟨HT.out, rfl, HA2.out⟩, B2.out⟩
  | true =>
    by_cases hTT : S.time ≤ T
    · have HPL := Lib.hid (takesF_plain hr hm hTT)
      have HGN := Lib.hid (gones_names hr hm)
      rw [mayLeave_live h1, Bool.and_eq_true, decide_eq_true_eq] at hm
      obtain ⟨⟨hi1, hi2⟩, _⟩ := hm
      obtain ⟨K, rfl⟩ : ∃ K, id = K + 1 := ⟨id - 1, by omega⟩
      rw [Nat.add_sub_cancel] at HPL HGN hi2
      have ht2 : ¬ T < S.time := by omega
      clear hTT
      go_wp2_with fail
      obtain ⟨w3, hw3⟩ : ∃ w3 : World, w2.setCell ⟨pb, 1, none⟩ (.int .i64 T) = w3 := ⟨_, rfl⟩
      rw [hw3]
      have S3 : Same pb w2 w3 := by rw [← hw3]; exact (Same.refl _ _).setCell _
      have P3 : w3.heap[pb]? = some (.cells #[vr, .int .i64 T, .int .i64 S.items.length, .map (some mb)] 88 (0, 0)) := by
        rw [← hw3]; exact heap_setCell_same w2 pb 1 _ _ (.int .i64 T) HA2.out.bag
      have A3 : BagIn base w3.drew pb mb q vr ⟨S.items, T⟩ := (HA2.out.timed S3 P3).keep ((Below.refl _ _).drew)
      have X3 : w3.drew.heap[w.heap.size]? = some (.cells #[.int .i64 ((K : Int) + 1), vp] 127 (0, 0)) := same_some S3 HX2.out (by omega)
      have O3 : w3.drew.ownsRow B 3 1 vp ps.length (natCells ps) := ownsRow_keeps O2.out fun g cur e _ => same_some S3 e fun e' => by rw [e', HA2.out.bag] at e; simp at e
      have c3 : w3.drew.cell? ⟨pb, 3, none⟩ = some (.map (some mb)) := by rw [Lib.cell_of_heap A3.bag]; rfl
      have z0 : w3.drew.cell? ⟨w.heap.size, 0, none⟩ = some (.int .i64 ((K : Int) + 1)) := by rw [Lib.cell_of_heap X3]; rfl
      have z1 : w3.drew.cell? ⟨w.heap.size, 1, none⟩ = some vp := by rw [Lib.cell_of_heap X3]; rfl
      have hKn := live_lt hi2
      have hlk : (Instr.lookup 85 (.map (some mb)) (.int .i64 ((K : Int) + 1)) false).run Tryz.prog w3.drew = .ok (.pointer (some ⟨q K, 0, none⟩)) w3.drew :=
        map_look (t := 85) (e := 96) und_int Tryz.underlying85 A3.map (fun i hi => by have := live_lt hi; simp only at this; omega) K (by omega) hi2 false
      obtain ⟨_, v, _, hb, _⟩ := A3.mail K hi2
      have m1 : w3.drew.cell? ⟨q K, 1, none⟩ = some (.string (bs (S.mailOf K).frm)) := by rw [Lib.cell_of_heap hb]; rfl
      have HLV := Lib.hid (bagLeave_any base pb mb q vr vp ⟨S.items, T⟩ K ps w3.drew A3 (hok.time T) (row_of_own' O3) hi2 hpl (by show S.items.length ≤ _; omega))
      have hB3 := Lib.hid (B2.out.trans ((S3.below HA2.out.pbb).drew))
      have HMZ : Hid (MailSz (S.mailOf K)) := Lib.hid (by rw [mailOf_lt hKn]; exact (hok.sz _ (List.getElem_mem hKn)).1)
      have HSL := Lib.hid (stayOf_le hok K)
      clear hw3 S3 P3 A3 X3 O3 hb y0 y1 c1 g1 hi1 hi2
      obtain ⟨F, eF⟩ : ∃ F, (S.mailOf K).frm = F := ⟨_, rfl⟩
      rw [eF] at m1 HPL
      go_region
      all_goals
        go_wp2_with fail
        refine HLV.out.mono ?_
        rintro e w4 ⟨vn, rfl, hvn, A4, B4⟩
        have hA4 := A4.le
        have c4 : w4.drew.cell? ⟨pb, 2, none⟩ = some (.int .i64 (S.items.length : Int)) := by
          show w4.cell? _ = _
          rw [Lib.cell_of_heap A4.bag, outs_len]; rfl
        have c5 : ∀ o : Obj, (w4.alloc o).cell? ⟨pb, 2, none⟩ = some (.int .i64 (S.items.length : Int)) := fun o => by
          have := below_some ((Below.refl _ w4).alloc (Nat.le_refl _) o) A4.bag
          rw [Lib.cell_of_heap this, outs_len]; rfl
        have HVN := Lib.hid hvn
        have HA4 := Lib.hid A4
        have HB4 := Lib.hid (hB3.out.trans B4)
        clear hvn A4 B4
        by_cases hF : F = []
        · have tF : (bs F).toList.isEmpty = true := by rw [Lib.toList_data, hF]; rfl
          have HR := Lib.hid (HPL.out.1 hF)
          clear hF
          go_wp2_with fail
          go_ret
          exact ⟨.inr ⟨_, q, HR.out, rfl, HA4.out⟩, HB4.out⟩
        · have tF : (bs F).toList.isEmpty = false := by
            rw [Lib.toList_data]
            cases F with
            | nil => exact absurd rfl hF
            | cons x l => rfl
          have HR := Lib.hid (HPL.out.2 hF)
          have hwr : IntKind.i64.wrap ((S.items.length : Int) + 1) = (S.items.length : Int) + 1 := by rw [IntKind.wrap_i64]; omega
          obtain ⟨N, eN⟩ : ∃ N, gonesOf (S.stayOf K) ps = N := ⟨_, rfl⟩
          have hNl : N.length ≤ 10 := by rw [← eN]; have := gones_le (S.stayOf K) ps; have := HSL.out; omega
          have hNs : ∀ t ∈ N, t.length ≤ 255 := by
            intro t ht
            rw [← eN, HGN.out, List.mem_map] at ht
            obtain ⟨i, _, rfl⟩ := ht
            exact getD_le HMZ.out.2.2.2.2.1 i
          have hbl := namesE_len N hNs
          have hvn4 : w4.ownsRow w3.drew.heap.size 9 1 vn N.length (textCells N) := by rw [← eN]; exact HVN.out
          have HRB : Hid (∀ W : World, Below w4.heap.size w4 W → Calls Tryz.prog 118 #[vn] W fun e w' => e = .returned (.string (bs (namesE N))) ∧ W = w') := Lib.hid (fun W hW => returnBody_any N vn W (row_of_own' (ownsRow_keeps hvn4 fun g cur e _ => below_some hW e)) (by omega) hNs)
          obtain ⟨W5, hW5⟩ : ∃ W5 : World, (w4.alloc (.cells #[.string (bs F)] 9)).drew = W5 := ⟨_, rfl⟩
          have B5 : Below w4.heap.size w4 W5 := by rw [← hW5]; exact ((Below.refl _ _).alloc (Nat.le_refl _) _).drew
          have X5 : W5.heap[w4.heap.size]? = some (.cells #[.string (bs F)] 9 (0, 0)) := by rw [← hW5]; exact heap_alloc_new w4 _
          have O5 : W5.ownsRow w4.heap.size 9 1 (.slice (some ⟨w4.heap.size, 0, none⟩) 1 1) 1 (textCells [F]) :=
            ⟨rfl, .inr ⟨w4.heap.size, 1, _, rfl, Nat.le_refl _, X5, Nat.le_refl _, by unfold maxLen; omega, rfl, rfl⟩⟩
          have HAD := Lib.hid (bagAdd_any base pb mb q vr (PStore.outs ⟨S.items, T⟩ K ps) ⟨S.items.length + 1, T, [], [F], namesE N⟩ (.slice (some ⟨w4.heap.size, 0, none⟩) 1 1) W5 (HA4.out.keep B5) w4.heap.size O5
            ⟨by show S.items.length + 1 ≤ _; omega, by show T ≤ _; omega, by simp, by simp, fun t ht => by simp at ht; subst ht; rw [← eF]; exact HMZ.out.2.2.1, by show (namesE N).length ≤ _; omega⟩ (by rw [outs_len]) (by simp) (by rw [outs_len]; exact hn))
          have HB5 := Lib.hid (HB4.out.trans (B5.mono hA4))
          have HW5 := Lib.hid hW5
          have HF := Lib.hid hF
          rw [eN] at HR
          clear hF eF B5 X5 O5 hvn4 hW5 eN
          go_wp2_with fail
          go_region_law (first
            | (go_simp; go_at_call 118; refine (HRB.out _ (by first | exact (Below.refl _ _).drew | exact ((Below.refl _ _).alloc (Nat.le_refl _) _).drew | exact ((Below.refl _ _).drew).alloc (Nat.le_refl _) _)).mono ?_; rintro e w5 ⟨rfl, rfl⟩)
            | (go_simp; go_at_call 114; rw [HW5.out]; refine HAD.out.mono ?_; rintro e w6 ⟨rfl, q', A6, B6⟩; have HA6 := Lib.hid A6; have HB6 := Lib.hid B6; clear A6 B6))
          all_goals
            go_wp2_with fail
            go_ret
            exact ⟨.inr ⟨_, _, HR.out, rfl, HA6.out⟩, HB5.out.trans HB6.out⟩
    · have HT : Hid (S.takesF T id ps = none) := Lib.hid (by unfold PStore.takesF; rw [decide_eq_false hTT, Bool.and_false]; rfl)
      have ht2 : T < S.time := by omega
      clear hTT
      go_wp2_with fail
      go_ret
      exact ⟨.inl ⟨HT.out, rfl, HA2.out⟩, B2.out⟩
end Go.Proofs.YtgjjjdccbpjnfaaGreatDoor
