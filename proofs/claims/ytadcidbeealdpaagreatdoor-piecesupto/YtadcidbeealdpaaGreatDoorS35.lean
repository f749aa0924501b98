import Derived.Test.YtadcidbeealdpaaGreatDoorS34
import Derived.Deep.RegionLaw
import Derived.Test.YtadcidbeealdpaaGreatDoorS33
import Derived.Test.YtadcidbeealdpaaGreatDoorChecked
import Derived.WalkKit
import Derived.Lib.Hide
import Derived.Test.YtadcidbeealdpaaGreatDoorS16
import Derived.Test.YtadcidbeealdpaaGreatDoorS01

/- A connection begins. -/
namespace Go.Proofs.YtadcidbeealdpaaGreatDoor
open Go.RowKit

theorem info_psession : (Tryz.prog.info? 62).map (fun i => (i.zero, i.size, i.bytes)) = some (some (.pointer none), 1, 8) := by kernel_rfl
section
variable {E B : Nat → Prop} {pp pb mb : Nat} {c : Cfg} {w w1 w' : World} {q : Nat → Nat} {vr : Value} {S S' : PStore} {recs recs' : List UInt8} {vs vs' : Value} {ps ps' : List Value} {sb ch : Nat} {A : Nat → Prop} {vw : Value} {s s' : PSes}
theorem PostW.conn (h : PostW E pp pb mb c w q vr S recs vs ps) (hc : Chg (fun k => vs.ownBlock = some k) w w1) (hrow : w1.ownsRow 0 62 1 vs' ps'.length ps') (hv : ∀ g, vs'.ownBlock = some g → vs.ownBlock = some g ∨ w.heap.size ≤ g) : PostW E pp pb mb c (w1.setCell ⟨pp, 10, none⟩ vs') q vr S recs vs' ps' ∧ (∀ k, bagOwn (w1.setCell ⟨pp, 10, none⟩ vs') pb mb q vr S k → bagOwn w pb mb q vr S k) ∧ Chg (fun k => k = pp ∨ vs.ownBlock = some k) w (w1.setCell ⟨pp, 10, none⟩ vs') := by
  have S1 : Same pp w1 (w1.setCell ⟨pp, 10, none⟩ vs') := (Same.refl _ _).setCell _
  have K : Chg (fun k => k = pp ∨ vs.ownBlock = some k) w (w1.setCell ⟨pp, 10, none⟩ vs') := (hc.mono (fun k _ e => .inr e)).trans (Chg.same S1) (fun k _ e => .inl e)
  have hpl := h.lt pp h.epp
  have hvp : vs.ownBlock ≠ some pp := fun e => (h.sd pp e).1 h.epp
  obtain ⟨vD, vN, vU, vW, s1, s2⟩ := h.set
  obtain ⟨D, t1, t2⟩ := s1.blk
  obtain ⟨C, b1, b2, b3, b4⟩ := h.blk
  have b1' := hc.some_ b1 hvp
  have b5 := heap_setCell_same w1 pp 10 _ _ vs' b1'
  have hDC : D = C := by rw [t1] at b1; injection b1 with b1; injection b1
  subst hDC
  have nE : ∀ k, E k → k ≠ pp → ¬ (k = pp ∨ vs.ownBlock = some k) := fun k e n x => x.elim n (fun x => (h.sd k x).1 e)
  obtain ⟨p1, p2⟩ := h.bag.chg K (fun k e x => x.elim (fun x => h.eb pp h.epp (by rw [← x]; exact e)) (fun x => (h.sd k x).2 e))
  have hvb : ∀ g, vs'.ownBlock = some g → ¬ E g ∧ ¬ bagOwn w pb mb q vr S g := fun g e => (hv g e).elim (h.sd g) (fun e => ⟨fun x => by have := h.lt g x; omega, fun x => by have := bagOwn.lt h.bag x; omega⟩)
  refine ⟨⟨⟨vD, vN, vU, vW, ⟨⟨_, b5, ?_⟩, ⟨s1.rows.1.chg K (fun g e => nE g (s2 g (.inl e)).1 (s2 g (.inl e)).2), s1.rows.2.1.chg K (fun g e => nE g (s2 g (.inr (.inl e))).1 (s2 g (.inr (.inl e))).2), s1.rows.2.2.1.chg K (fun g e => nE g (s2 g (.inr (.inr (.inl e)))).1 (s2 g (.inr (.inr (.inl e)))).2), s1.rows.2.2.2.chg K (fun g e => nE g (s2 g (.inr (.inr (.inr e)))).1 (s2 g (.inr (.inr (.inr e)))).2)⟩, s1.may⟩, s2⟩, h.glo.chg K (fun k e => nE k (h.egl k e) (fun x => h.gpp (by rw [← x]; exact e))), h.egl, h.gpp, h.epp, fun k e => Nat.lt_of_lt_of_le (h.lt k e) K.size, ⟨_, b5, by simpa using b2, by rw [Array.getElem?_setIfInBounds_ne (by decide)]; exact b3, by rw [Array.getElem?_setIfInBounds_self_of_lt (by omega)]⟩, p1, own_chg hrow (Chg.same S1) (fun g e x => (hvb g e).1 (by rw [x]; exact h.epp)), fun k e x => h.eb k e (p2 k x), fun g e => ⟨(hvb g e).1, fun x => (hvb g e).2 (p2 g x)⟩⟩, p2, K⟩
  rw [Array.toList_setIfInBounds, List.take_set_of_le (by decide)]
  exact t2
/-- a new connection's session -/
def ConnPost (E : Nat → Prop) (pp pb mb : Nat) (c : Cfg) (w : World) (q : Nat → Nat) (vr : Value) (S : PStore) (recs : List UInt8) (vs : Value) (ps : List Value) (addr : Int) (w' : World) : Prop :=
  ∃ sb ch vs', PostS E pp pb mb c w' q vr S recs vs' (ps ++ [.pointer (some ⟨sb, 0, none⟩)]) sb ch (fun k => k = sb ∨ k = ch) (.slice none 0 0) (newSes c addr) ∧ w.heap.size ≤ sb ∧ w.heap.size ≤ ch ∧ (∀ g, vs'.ownBlock = some g → vs.ownBlock = some g ∨ w.heap.size ≤ g) ∧ (∀ k, bagOwn w' pb mb q vr S k → bagOwn w pb mb q vr S k) ∧ Chg (fun k => k = pp ∨ vs.ownBlock = some k) w w'
set_option maxHeartbeats 400000 in
set_option maxRecDepth 100000 in
theorem connect_any (h : PostW E pp pb mb c w q vr S recs vs ps) (addr : Int) (h0 : 0 ≤ addr) (h1 : addr ≤ 4294967295) (hl : ps.length < 100) :
    Calls Tryz.prog 6 #[.pointer (some ⟨pp, 0, none⟩), .int .i64 addr] w fun e w' => e = .returned (.tuple #[.int .i64 (ps.length : Int), .string (bs (greetS c)), .int .i64 0]) ∧ ConnPost E pp pb mb c w q vr S recs vs ps addr w' := by
  have c10 := h.cell10
  have c9 := h.cell9
  have HB := Lib.hid (begin_any (pb := pb) (w := w.drew) (h.env.below ((Below.refl _ _).drew)) addr)
  have HH := Lib.hid h
  obtain ⟨av, cv, ev⟩ := slice_of (row_of_own' h.row)
  rw [ev] at c10
  have HEV := Lib.hid ev
  have n0 : ¬ addr < 0 := by omega
  have n1 : ¬ (4294967295 : Int) < addr := by omega
  have n2 : ¬ ((ps.length : Int) = 100) := by omega
  clear h ev
  go_enter Tryz.func6, Tryz.ntmps6
  go_wp2_with fail
  go_region_law (first
    | (go_simp; go_at_call 13; refine HB.out.mono ?_; rintro e w1 ⟨sb, ch, rfl, hS, hsb, hch, hb1⟩; have HS := Lib.hid hS; have HB1 := Lib.hid hb1; have HSB := Lib.hid hsb; have HCH := Lib.hid hch; clear hS hsb hch hb1; dsimp only))
  all_goals
    have B1 : Below w.heap.size w w1 := ((Below.refl _ w).drew).trans (HB1.out.mono (Nat.le_refl _))
    have P1 := (HH.out.below B1).1
    have d10 := P1.cell10
    rw [HEV.out] at d10
    have d10' : ∀ o : Obj, (w1.alloc o).cell? ⟨pp, 10, none⟩ = some (.slice av ps.length cv) := fun o => (World.cell?_of_block (((Below.refl _ w1).alloc (Nat.le_refl _) o).block pp (P1.lt pp P1.epp))).trans d10
    obtain ⟨i, hi, hz0, hz1, hz2⟩ := info_parts info_psession
    have hown := P1.row
    rw [HEV.out] at hown
    obtain ⟨g, cap, W2, hr2, ho2, K2, O2⟩ := app_one (P := Tryz.prog) Tryz.underlying58 hi hz0 hz1 hz2 rfl w1 (w1.alloc (.cells #[.pointer (some ⟨sb, 0, none⟩)] 62)) (.slice av ps.length cv) (.pointer (some ⟨sb, 0, none⟩)) ps.length ps hown rfl ((Below.refl _ _).alloc (Nat.le_refl _) _) (heap_alloc_new w1 _) (by unfold maxLen; omega) (by omega)
    have HR2 := Lib.hid hr2
    have HO2 := Lib.hid ho2
    have HK2 := Lib.hid K2
    have HOO := Lib.hid O2
    have K2p := K2.some_ P1.blk.choose_spec.1 (fun e => (P1.sd pp (by rw [HEV.out]; exact e)).1 P1.epp)
    have e10 : W2.cell? ⟨pp, 10, none⟩ = some (.slice av ps.length cv) := by
      rw [← d10]
      exact World.cell?_of_block (K2.block pp (P1.lt pp P1.epp) (fun e => (P1.sd pp (by rw [HEV.out]; exact e)).1 P1.epp))
    have f10 := Lib.frozen_of_heap K2p 10
    have HP1 := Lib.hid P1
    have HBW := Lib.hid B1
    clear P1 B1 hown hr2 ho2 K2 O2 K2p hi hz0 hz1 hz2
    go_wp2_with (first
      | (at_builtin; refine wpList_append_run rfl _ _ 58 rfl _ _ (.slice (some ⟨g, 0, none⟩) (ps.length + 1) cap) W2 rfl rfl HR2.out ?_)
      | fail)
    refine bodyPost_ret (v := .tuple #[.int .i64 (ps.length : Int), .string (bs (greetS c)), .int .i64 0]) (by simp [results, Tryz.results6, go_sem]) rfl ⟨rfl, ?_⟩
    have hvo : ∀ k, (Value.slice av ps.length cv).ownBlock = some k → vs.ownBlock = some k := fun k e => by rw [HEV.out]; exact e
    have Kw : Chg (fun k => vs.ownBlock = some k) w W2 := (Chg.below HBW.out).trans HK2.out (fun k _ e => hvo k e)
    have hlen : (ps ++ [Value.pointer (some ⟨sb, 0, none⟩)]).length = ps.length + 1 := by simp
    have hz1 : w.heap.size ≤ w1.heap.size := HBW.out.size
    have hsb : w.heap.size ≤ sb := HSB.out
    have hch : w.heap.size ≤ ch := HCH.out
    have hg9 : vs.ownBlock = some g ∨ w1.heap.size ≤ g := HOO.out.imp (hvo g) id
    have hv' : ∀ k, (Value.slice (some ⟨g, 0, none⟩) (ps.length + 1) cap).ownBlock = some k → vs.ownBlock = some k ∨ w1.heap.size ≤ k := fun k e => by
      injection e with e
      have e : g = k := e
      rw [← e]
      exact hg9
    obtain ⟨p1, p2, p3⟩ := HH.out.conn (vs' := .slice (some ⟨g, 0, none⟩) (ps.length + 1) cap) (ps' := ps ++ [Value.pointer (some ⟨sb, 0, none⟩)]) Kw (by rw [hlen]; exact HO2.out) (fun k e => (hv' k e).imp id (fun e => by omega))
    have hpp : pp < w.heap.size := HH.out.lt pp HH.out.epp
    have K3 : Chg (fun k => k < w.heap.size) w1 (W2.setCell ⟨pp, 10, none⟩ (.slice (some ⟨g, 0, none⟩) (ps.length + 1) cap)) := (HK2.out.mono (fun k _ e => HH.out.slt (hvo k e))).trans (Chg.same ((Same.refl pp W2).setCell _)) (fun k _ e => by rw [e]; exact hpp)
    have l1 : sb < w1.heap.size := heap_some_lt HS.out.blk
    have l2 : ch < w1.heap.size := heap_some_lt HS.out.chan.choose_spec.choose_spec
    refine ⟨sb, ch, _, ⟨p1, ⟨⟨.pointer none, HS.out.chg K3 (by omega) (by omega), rfl⟩, .inl rfl, .inr rfl, fun k e => ?_⟩, World.ownsRow_nil _ _ _ _, fun k e x => ?_, fun k e x => ?_, (by intro g e; cases e), fun k e => ⟨fun x => ?_, (by intro x; cases x)⟩⟩, hsb, hch, fun k e => (hv' k e).imp id (fun e => by omega), p2, p3⟩
    · have := K3.size
      rcases e with e | e <;> omega
    · have := HH.out.lt k e
      rcases x with x | x <;> omega
    · have := bagOwn.lt HH.out.bag (p2 k x)
      rcases e with e | e <;> omega
    · have : k < w.heap.size ∨ w1.heap.size ≤ k := (hv' k e).imp (fun e => HH.out.slt e) id
      rcases x with x | x <;> omega
end
end Go.Proofs.YtadcidbeealdpaaGreatDoor

/- A post is opened of nothing, with all that it has. -/
namespace Go.Proofs.YtadcidbeealdpaaGreatDoor
open Go.RowKit

theorem readS_nil : readS [] = (⟨[], 0⟩, 0) := by kernel_rfl
theorem RecsAt.rowM {w : World} {v : Value} {l : List UInt8} (h : RecsAt w v l) : RowM w v l := by
  obtain ⟨g, cap, cur, z, e, hg, _, h1, h2, h3, h4, h5⟩ := h
  exact .inr ⟨g, cap, cur, z, e, hg, .inr h1, h2, h3, h4, h5⟩
/-- a new post: nothing of it but the package-level variables was there -/
def NewPost (c : Cfg) (w : World) (e : Ending) (w' : World) : Prop :=
  ∃ E pp pb mb q vr, e = .returned (.tuple #[.pointer (some ⟨pp, 0, none⟩), .int .i64 0]) ∧ PostW E pp pb mb c w' q vr ⟨[], 0⟩ [] (.slice none 0 0) [] ∧ (∀ k, E k → glob k ∨ w.heap.size ≤ k) ∧ (∀ k, bagOwn w' pb mb q vr ⟨[], 0⟩ k → w.heap.size ≤ k) ∧ Below w.heap.size w w'

set_option maxHeartbeats 1000000 in
set_option maxRecDepth 100000 in
theorem open_new (c : Cfg) (vD vN vU vW : Value) (w : World) (h : CfgAt w c vD vN vU vW) (hz : CfgSz c) (hmay : mayB c = true) (hg : GlobAt w) :
    Calls Tryz.prog 11 #[.agg #[.string c.host, vD, vN, vU, .int .i64 c.most, .int .i64 c.size, vW, .int .i64 c.life, .int .i64 c.room], .string (bs [])] w (NewPost c w) := by
  obtain ⟨W0, hW0⟩ : ∃ W0 : World, w.alloc (.cells #[.string c.host, vD, vN, vU, .int .i64 c.most, .int .i64 c.size, vW, .int .i64 c.life, .int .i64 c.room] 27) = W0 := ⟨_, rfl⟩
  have B0 : Below w.heap.size w W0 := by rw [← hW0]; exact (Below.refl _ _).alloc (Nat.le_refl _) _
  obtain ⟨m, hm⟩ := hg.len
  have hgl := block_lt hm
  have m0 : W0.cell? ⟨0, 0, none⟩ = some (.int .i64 m) := (B0.cell (by exact hgl)).trans hm
  have HCK := Lib.hid (check_any c vD vN vU vW m W0 (h.below B0) hz m0)
  have HB0 := Lib.hid B0
  have HM := Lib.hid m0
  have HG := Lib.hid hg
  have HW0 := Lib.hid hW0
  have HX0 : Hid (W0.heap[w.heap.size]? = some (.cells #[.string c.host, vD, vN, vU, .int .i64 c.most, .int .i64 c.size, vW, .int .i64 c.life, .int .i64 c.room] 27 (0, 0))) := Lib.hid (by rw [← hW0]; exact heap_alloc_new w _)
  have HCF := Lib.hid (h.below B0)
  have HMY := Lib.hid hmay
  clear B0 m0 hW0 h hm hg
  go_enter Tryz.func11, Tryz.ntmps11
  go_wp2_with fail
  rw [HW0.out]
  refine HCK.out.mono ?_
  intro e w2 hE
  obtain ⟨he, hb2⟩ := hE
  subst he
  have B2 := Lib.hid (HB0.out.trans (hb2.mono HB0.out.size))
  rw [hmay]
  simp only [errB]
  have m2 : w2.cell? ⟨0, 0, none⟩ = some (.int .i64 m) := (hb2.cell (by exact block_lt HM.out)).trans HM.out
  have HM2 := Lib.hid m2
  have X2 := below_some hb2 HX0.out
  have y0 : w2.cell? ⟨w.heap.size, 0, none⟩ = some (.string c.host) := by rw [Lib.cell_of_heap X2]; rfl
  have y1 : w2.cell? ⟨w.heap.size, 1, none⟩ = some vD := by rw [Lib.cell_of_heap X2]; rfl
  have y2 : w2.cell? ⟨w.heap.size, 2, none⟩ = some vN := by rw [Lib.cell_of_heap X2]; rfl
  have y3 : w2.cell? ⟨w.heap.size, 3, none⟩ = some vU := by rw [Lib.cell_of_heap X2]; rfl
  have y4 : w2.cell? ⟨w.heap.size, 4, none⟩ = some (.int .i64 c.most) := by rw [Lib.cell_of_heap X2]; rfl
  have y5 : w2.cell? ⟨w.heap.size, 5, none⟩ = some (.int .i64 c.size) := by rw [Lib.cell_of_heap X2]; rfl
  have y6 : w2.cell? ⟨w.heap.size, 6, none⟩ = some vW := by rw [Lib.cell_of_heap X2]; rfl
  have y7 : w2.cell? ⟨w.heap.size, 7, none⟩ = some (.int .i64 c.life) := by rw [Lib.cell_of_heap X2]; rfl
  have y8 : w2.cell? ⟨w.heap.size, 8, none⟩ = some (.int .i64 c.room) := by rw [Lib.cell_of_heap X2]; rfl
  have HCP := Lib.hid (copy_any c vD vN vU vW w2 (HCF.out.below hb2) (may_small hmay))
  have hs2 : w.heap.size ≤ w2.heap.size := B2.out.size
  clear hmay hb2 m2 X2
  go_wp2_with fail
  refine HCP.out.mono ?_
  rintro e w3 ⟨uD, uN, uU, uW, rfl, hc3, hb3, hn3⟩
  obtain ⟨aD, cD, eD⟩ := slice_of hc3.1
  obtain ⟨aN, cN, eN⟩ := slice_of hc3.2.1
  obtain ⟨aU, cU, eU⟩ := slice_of hc3.2.2.1
  obtain ⟨aW, cW, eW⟩ := slice_of hc3.2.2.2
  subst eD eN eU eW
  have HRD := Lib.hid (bagRead_any [] m w3 (by simp) ((hb3.cell (by exact block_lt HM2.out)).trans HM2.out))
  have B3 := Lib.hid (B2.out.trans (hb3.mono hs2))
  have hs3 : w.heap.size ≤ w3.heap.size := B3.out.size
  have HC3 := Lib.hid hc3
  have HN3 := Lib.hid hn3
  clear hb3 hc3 HCP y0 y1 y2 y3 y4 y5 y6 y7 y8 hn3
  go_wp2_with fail
  refine HRD.out.mono ?_
  rintro e w4 ⟨pb, mb, q, vr, rfl, hA, hO, hR, hG, hb4⟩
  rw [readS_nil] at hA
  have HA := Lib.hid hA
  have HR := Lib.hid hR.rowM
  have HGF := Lib.hid hG
  have HB4 := Lib.hid hb4
  clear hA hO hR hb4 hG
  go_wp2_with fail
  go_ret2
  obtain ⟨C, eC⟩ : ∃ C : Array Value, #[.string c.host, .slice aD c.doms.length cD, .slice aN c.nets.length cN, .slice aU c.users.length cU, .int .i64 c.most, .int .i64 c.size, .slice aW c.waits.length cW, .int .i64 c.life, .int .i64 c.room, .pointer (some ⟨pb, 0, none⟩), .slice none 0 0, .pointer none] = C := ⟨_, rfl⟩
  rw [eC]
  have X5 := heap_alloc_new w4 (.cells C 61)
  have hn4 : Below w4.heap.size w4 (w4.alloc (.cells C 61)) := (Below.refl _ _).alloc (Nat.le_refl _) _
  have hz5 : (w4.alloc (.cells C 61)).heap.size = w4.heap.size + 1 := by simp
  obtain ⟨W5, hW5⟩ : ∃ W5 : World, w4.alloc (.cells C 61) = W5 := ⟨_, rfl⟩
  rw [hW5] at X5 hn4 hz5 ⊢
  have hs4 : w3.heap.size ≤ w4.heap.size := HB4.out.size
  have B5 : Below w.heap.size w W5 := (B3.out.trans (HB4.out.mono hs3)).trans (hn4.mono (by omega))
  have hb35 : Below w3.heap.size w3 W5 := HB4.out.trans (hn4.mono hs4)
  have hbag : BagR w4 pb mb q vr ⟨[], 0⟩ [] := ⟨HA.out.mono (Nat.zero_le _), HR.out⟩
  have hown : ∀ k, bagOwn w4 pb mb q vr ⟨[], 0⟩ k → w3.heap.size ≤ k ∧ k < w4.heap.size := fun k e => ⟨by
    rcases e with (e | e | ⟨i, hi, _⟩) | e
    · rw [e]; exact HA.out.pbb
    · rw [e]; exact HA.out.mbb
    · have := live_lt hi; simp at this
    · exact HGF.out k e, bagOwn.lt hbag e⟩
  obtain ⟨b1, b2⟩ := hbag.chg (Chg.below hn4 : Chg (fun _ => False) w4 W5) (fun _ _ e => e)
  have hglo : ∀ k, glob k → k < w.heap.size := fun k e => HG.out.lt e
  refine ⟨fun k => glob k ∨ k = w4.heap.size ∨ (Value.slice aD c.doms.length cD).ownBlock = some k ∨ (Value.slice aN c.nets.length cN).ownBlock = some k ∨ (Value.slice aU c.users.length cU).ownBlock = some k ∨ (Value.slice aW c.waits.length cW).ownBlock = some k, w4.heap.size, pb, mb, q, vr, rfl, ⟨⟨_, _, _, _, ⟨⟨C, X5, by rw [← eC]; rfl⟩, HC3.out.below hb35, HMY.out⟩, fun k e => ⟨.inr (.inr e), by have := HN3.out k e; omega⟩⟩, HG.out.below B5, fun k e => .inl e, fun e => by have := hglo _ e; omega, .inr (.inl rfl), fun k e => ?_, ⟨C, X5, by rw [← eC]; rfl, by rw [← eC]; rfl, by rw [← eC]; rfl⟩, b1, World.ownsRow_nil _ _ _ _, fun k e x => ?_, fun g e => by cases e⟩, fun k e => ?_, fun k e => by have := hown k (b2 k e); omega, B5⟩
  · rcases e with e | e | e
    · have := hglo k e; omega
    · omega
    · have := HN3.out k e; omega
  · have hk := hown k (b2 k x)
    rcases e with e | e | e
    · have := hglo k e; omega
    · omega
    · have := HN3.out k e; omega
  · rcases e with e | e | e
    · exact .inl e
    · exact .inr (by omega)
    · exact .inr (by have := HN3.out k e; omega)
end Go.Proofs.YtadcidbeealdpaaGreatDoor

/- Which of n things a raw number speaks of. -/
namespace Go.Proofs.YtadcidbeealdpaaGreatDoor
open Go.RowKit

def pickI (c n : Int) : Int := (if c < 0 then -(c + 1) else c) % n
theorem pickI_lt (c : Int) {n : Int} (hn : 0 < n) : 0 ≤ pickI c n ∧ pickI c n < n := ⟨Int.emod_nonneg _ (by omega), Int.emod_lt_of_pos _ hn⟩

set_option maxHeartbeats 400000 in
theorem keepPick_any (c n : Int) (w : World) (h1 : -9223372036854775808 ≤ c) (h2 : c ≤ 9223372036854775807) (hn : 0 < n) (hn2 : n ≤ 9223372036854775807) :
    Calls Tryz.prog 7 #[.int .i64 c, .int .i64 n] w fun e w' => e = .returned (.int .i64 (pickI c n)) ∧ w = w' := by
  have hne : ¬ n = 0 := by omega
  have HP : ∀ x : Int, 0 ≤ x → x.tmod n = x % n := fun x hx => Int.tmod_eq_emod_of_nonneg hx
  by_cases hc : c < 0
  · have e1 : IntKind.i64.wrap (c + 1) = c + 1 := by rw [IntKind.wrap_i64]; omega
    have e2 : IntKind.i64.wrap (-(c + 1)) = -(c + 1) := by rw [IntKind.wrap_i64]; omega
    have e3 : pickI c n = -(c + 1).tmod n := by rw [← Int.neg_tmod]; unfold pickI; rw [if_pos hc, HP _ (by omega)]
    have hb := pickI_lt c hn
    rw [e3] at hb ⊢
    have e4 : IntKind.i64.wrap (-(c + 1).tmod n) = -(c + 1).tmod n := by rw [IntKind.wrap_i64]; omega
    go_enter Tryz.func7, Tryz.ntmps7
    go_wp2_with fail
    go_ret
    exact ⟨rfl, rfl⟩
  · have e3 : pickI c n = c.tmod n := by unfold pickI; rw [if_neg hc, HP _ (by omega)]
    have hb := pickI_lt c hn
    rw [e3] at hb ⊢
    have e4 : IntKind.i64.wrap (c.tmod n) = c.tmod n := by rw [IntKind.wrap_i64]; omega
    go_enter Tryz.func7, Tryz.ntmps7
    go_wp2_with fail
    go_ret
    exact ⟨rfl, rfl⟩
end Go.Proofs.YtadcidbeealdpaaGreatDoor

/- The settings of a post of its own. -/
namespace Go.Proofs.YtadcidbeealdpaaGreatDoor
open Go.RowKit

def keepC : Cfg where
  host := bs [109, 120, 46, 111, 114, 103]
  doms := [bs [97, 46, 111, 114, 103], bs [66, 46, 110, 101, 116]]
  nets := [(256, 24)]
  users := [(bs [117], bs [119]), (bs [118], bs [108, 111, 110, 103, 32, 119, 111, 114, 100])]
  most := 4
  size := 301
  waits := [1, 5, 2]
  life := 41
  room := 1000000
def setZ : Array Value := #[.string ⟨#[]⟩, .slice none 0 0, .slice none 0 0, .slice none 0 0, .int .i64 0, .int .i64 0, .slice none 0 0, .int .i64 0, .int .i64 0]
theorem row_at {w : World} {b n sz : Nat} {cs : Array Value} {t : TypeId} {z : Nat × Nat} (h : w.heap[b]? = some (.cells cs t z)) (hs : cs.size = n * sz) : RowAt w (.slice (some ⟨b, 0, none⟩) n n) n sz cs.toList := by
  refine ⟨by simpa using hs, .inr ⟨b, 0, n, rfl, Nat.le_refl _, fun j hj => ?_⟩⟩
  rw [Nat.zero_add, Lib.cell_of_heap h, Array.getElem?_toList]
set_option maxHeartbeats 1000000 in
set_option maxRecDepth 100000 in
theorem keepSet_any (w : World) :
    Calls Tryz.prog 4 #[.int .i64 3, .int .i64 300, .int .i64 40] w fun e w' => ∃ vD vN vU vW, e = .returned (.agg #[.string keepC.host, vD, vN, vU, .int .i64 keepC.most, .int .i64 keepC.size, vW, .int .i64 keepC.life, .int .i64 keepC.room]) ∧ CfgAt w' keepC vD vN vU vW ∧ Below w.heap.size w w' := by
  go_enter Tryz.func4, Tryz.ntmps4
  go_wp2_with fail
  obtain ⟨Wa, hWa⟩ : ∃ W : World, w.alloc (.cells #[.string ⟨#[]⟩, .slice none 0 0, .slice none 0 0, .slice none 0 0, .int .i64 0, .int .i64 0, .slice none 0 0, .int .i64 0, .int .i64 0] 27) = W := ⟨_, rfl⟩
  have za : Wa.heap.size = w.heap.size + 1 := by rw [← hWa]; simp
  have xa : Wa.heap[w.heap.size]? = some (.cells setZ 27 (0, 0)) := by rw [← hWa]; exact heap_alloc_new w _
  have ba : Below w.heap.size w Wa := by rw [← hWa]; exact (Below.refl _ _).alloc (Nat.le_refl _) _
  rw [hWa]
  obtain ⟨Wb, hWb⟩ : ∃ W : World, Wa.alloc (.cells #[.string ⟨#[97, 46, 111, 114, 103]⟩, .string ⟨#[66, 46, 110, 101, 116]⟩] 9) = W := ⟨_, rfl⟩
  have zb : Wb.heap.size = w.heap.size + 2 := by rw [← hWb]; simp [za]
  have bb : Below Wa.heap.size Wa Wb := by rw [← hWb]; exact (Below.refl _ _).alloc (Nat.le_refl _) _
  have xb : Wb.heap[w.heap.size + 1]? = some (.cells #[.string ⟨#[97, 46, 111, 114, 103]⟩, .string ⟨#[66, 46, 110, 101, 116]⟩] 9 (0, 0)) := by rw [← hWb, ← za]; exact heap_alloc_new Wa _
  rw [hWb]
  obtain ⟨Wc, hWc⟩ : ∃ W : World, Wb.alloc (.cells #[.int .i64 256, .int .i64 24] 46) = W := ⟨_, rfl⟩
  have zc : Wc.heap.size = w.heap.size + 3 := by rw [← hWc]; simp [zb]
  have bc : Below Wb.heap.size Wb Wc := by rw [← hWc]; exact (Below.refl _ _).alloc (Nat.le_refl _) _
  have xc : Wc.heap[w.heap.size + 1 + 1]? = some (.cells #[.int .i64 256, .int .i64 24] 46 (0, 0)) := by rw [← hWc, show w.heap.size + 1 + 1 = Wb.heap.size by omega]; exact heap_alloc_new Wb _
  rw [hWc]
  obtain ⟨Wd, hWd⟩ : ∃ W : World, Wc.alloc (.cells #[.string ⟨#[117]⟩, .string ⟨#[119]⟩, .string ⟨#[118]⟩, .string ⟨#[108, 111, 110, 103, 32, 119, 111, 114, 100]⟩] 48) = W := ⟨_, rfl⟩
  have zd : Wd.heap.size = w.heap.size + 4 := by rw [← hWd]; simp [zc]
  have bd : Below Wc.heap.size Wc Wd := by rw [← hWd]; exact (Below.refl _ _).alloc (Nat.le_refl _) _
  have xd : Wd.heap[w.heap.size + 1 + 1 + 1]? = some (.cells #[.string ⟨#[117]⟩, .string ⟨#[119]⟩, .string ⟨#[118]⟩, .string ⟨#[108, 111, 110, 103, 32, 119, 111, 114, 100]⟩] 48 (0, 0)) := by rw [← hWd, show w.heap.size + 1 + 1 + 1 = Wc.heap.size by omega]; exact heap_alloc_new Wc _
  rw [hWd]
  have bad : Below Wa.heap.size Wa Wd := (bb.trans (bc.mono (by omega))).trans (bd.mono (by omega))
  have bbd : Below Wb.heap.size Wb Wd := bc.trans (bd.mono (by omega))
  have HXA := Lib.hid (cp_below bad xa)
  have HXB := Lib.hid (cp_below bbd xb)
  have HXC := Lib.hid (cp_below bd xc)
  have HXD := Lib.hid xd
  have HBD := Lib.hid (ba.trans (bad.mono (by omega)))
  clear hWa hWb hWc hWd za xa ba zb xb bb zc bc xc bd xd bad bbd
  have P1 := keepPick_any 3 10 Wd (by decide) (by decide) (by decide) (by decide)
  have P2 := keepPick_any 300 1000 Wd (by decide) (by decide) (by decide) (by decide)
  rw [show pickI 3 10 = 3 by decide] at P1
  rw [show pickI 300 1000 = 300 by decide] at P2
  refine P1.mono ?_
  rintro e w1 ⟨rfl, rfl⟩
  have H2 := Lib.hid P2
  clear P1 P2
  go_wp2_with fail
  refine H2.out.mono ?_
  rintro e w1 ⟨rfl, rfl⟩
  go_wp2_with fail
  obtain ⟨We, hWe⟩ : ∃ W : World, Wd.alloc (.cells #[.int .i64 1, .int .i64 5, .int .i64 2] 3) = W := ⟨_, rfl⟩
  have be : Below Wd.heap.size Wd We := by rw [← hWe]; exact (Below.refl _ _).alloc (Nat.le_refl _) _
  have xe : We.heap[Wd.heap.size]? = some (.cells #[.int .i64 1, .int .i64 5, .int .i64 2] 3 (0, 0)) := by rw [← hWe]; exact heap_alloc_new Wd _
  rw [hWe]
  have P3 := keepPick_any 40 60 We (by decide) (by decide) (by decide) (by decide)
  rw [show pickI 40 60 = 40 by decide] at P3
  refine P3.mono ?_
  rintro e w1 ⟨rfl, rfl⟩
  have XA := cp_below be HXA.out
  have HXA' := Lib.hid XA
  have HXB' := Lib.hid (cp_below be HXB.out)
  have HXC' := Lib.hid (cp_below be HXC.out)
  have HXD' := Lib.hid (cp_below be HXD.out)
  have HXE := Lib.hid xe
  have HBE := Lib.hid (HBD.out.trans (be.mono (by omega)))
  have m0 : We.cell? ⟨w.heap.size, 0, none⟩ = some (.string ⟨#[]⟩) := by rw [Lib.cell_of_heap XA]; rfl
  have m1 : We.cell? ⟨w.heap.size, 1, none⟩ = some (.slice none 0 0) := by rw [Lib.cell_of_heap XA]; rfl
  have m2 : We.cell? ⟨w.heap.size, 2, none⟩ = some (.slice none 0 0) := by rw [Lib.cell_of_heap XA]; rfl
  have m3 : We.cell? ⟨w.heap.size, 3, none⟩ = some (.slice none 0 0) := by rw [Lib.cell_of_heap XA]; rfl
  have m4 : We.cell? ⟨w.heap.size, 4, none⟩ = some (.int .i64 0) := by rw [Lib.cell_of_heap XA]; rfl
  have m5 : We.cell? ⟨w.heap.size, 5, none⟩ = some (.int .i64 0) := by rw [Lib.cell_of_heap XA]; rfl
  have m6 : We.cell? ⟨w.heap.size, 6, none⟩ = some (.slice none 0 0) := by rw [Lib.cell_of_heap XA]; rfl
  have m7 : We.cell? ⟨w.heap.size, 7, none⟩ = some (.int .i64 0) := by rw [Lib.cell_of_heap XA]; rfl
  have m8 : We.cell? ⟨w.heap.size, 8, none⟩ = some (.int .i64 0) := by rw [Lib.cell_of_heap XA]; rfl
  have ff : ∀ j : Nat, We.frozen? ⟨w.heap.size, j, none⟩ = false := fun j => Lib.frozen_of_heap XA j
  clear be xe hWe P3 XA HXA HXB HXC HXD HBD
  go_wp2_with fail
  obtain ⟨Wf, hWf⟩ : ∃ W : World, (((((((((We.setCell ⟨w.heap.size, 0, none⟩ (.string ⟨#[109, 120, 46, 111, 114, 103]⟩)).setCell ⟨w.heap.size, 1, none⟩ (.slice (some ⟨w.heap.size + 1, 0, none⟩) 2 2)).setCell ⟨w.heap.size, 2, none⟩ (.slice (some ⟨w.heap.size + 1 + 1, 0, none⟩) 1 1)).setCell ⟨w.heap.size, 3, none⟩ (.slice (some ⟨w.heap.size + 1 + 1 + 1, 0, none⟩) 2 2)).setCell ⟨w.heap.size, 4, none⟩ (.int .i64 4)).setCell ⟨w.heap.size, 5, none⟩ (.int .i64 301)).setCell ⟨w.heap.size, 6, none⟩ (.slice (some ⟨w.heap.size + 4, 0, none⟩) 3 3)).setCell ⟨w.heap.size, 7, none⟩ (.int .i64 41)).setCell ⟨w.heap.size, 8, none⟩ (.int .i64 1000000)) = W := ⟨_, rfl⟩
  rw [hWf]
  have Sf : Same w.heap.size We Wf := by rw [← hWf]; exact ((((((((((Same.refl _ _).setCell _).setCell _).setCell _).setCell _).setCell _).setCell _).setCell _).setCell _).setCell _)
  have Xf : Wf.heap[w.heap.size]? = some (.cells #[.string ⟨#[109, 120, 46, 111, 114, 103]⟩, .slice (some ⟨w.heap.size + 1, 0, none⟩) 2 2, .slice (some ⟨w.heap.size + 1 + 1, 0, none⟩) 1 1, .slice (some ⟨w.heap.size + 1 + 1 + 1, 0, none⟩) 2 2, .int .i64 4, .int .i64 301, .slice (some ⟨w.heap.size + 4, 0, none⟩) 3 3, .int .i64 41, .int .i64 1000000] 27 (0, 0)) := by
    rw [← hWf]
    have z0 := cp_put (j := 0) (v := .string ⟨#[109, 120, 46, 111, 114, 103]⟩) HXA'.out (A' := #[.string ⟨#[109, 120, 46, 111, 114, 103]⟩, .slice none 0 0, .slice none 0 0, .slice none 0 0, .int .i64 0, .int .i64 0, .slice none 0 0, .int .i64 0, .int .i64 0]) rfl
    have z1 := cp_put (j := 1) (v := .slice (some ⟨w.heap.size + 1, 0, none⟩) 2 2) z0 (A' := #[.string ⟨#[109, 120, 46, 111, 114, 103]⟩, .slice (some ⟨w.heap.size + 1, 0, none⟩) 2 2, .slice none 0 0, .slice none 0 0, .int .i64 0, .int .i64 0, .slice none 0 0, .int .i64 0, .int .i64 0]) rfl
    have z2 := cp_put (j := 2) (v := .slice (some ⟨w.heap.size + 1 + 1, 0, none⟩) 1 1) z1 (A' := #[.string ⟨#[109, 120, 46, 111, 114, 103]⟩, .slice (some ⟨w.heap.size + 1, 0, none⟩) 2 2, .slice (some ⟨w.heap.size + 1 + 1, 0, none⟩) 1 1, .slice none 0 0, .int .i64 0, .int .i64 0, .slice none 0 0, .int .i64 0, .int .i64 0]) rfl
    have z3 := cp_put (j := 3) (v := .slice (some ⟨w.heap.size + 1 + 1 + 1, 0, none⟩) 2 2) z2 (A' := #[.string ⟨#[109, 120, 46, 111, 114, 103]⟩, .slice (some ⟨w.heap.size + 1, 0, none⟩) 2 2, .slice (some ⟨w.heap.size + 1 + 1, 0, none⟩) 1 1, .slice (some ⟨w.heap.size + 1 + 1 + 1, 0, none⟩) 2 2, .int .i64 0, .int .i64 0, .slice none 0 0, .int .i64 0, .int .i64 0]) rfl
    have z4 := cp_put (j := 4) (v := .int .i64 4) z3 (A' := #[.string ⟨#[109, 120, 46, 111, 114, 103]⟩, .slice (some ⟨w.heap.size + 1, 0, none⟩) 2 2, .slice (some ⟨w.heap.size + 1 + 1, 0, none⟩) 1 1, .slice (some ⟨w.heap.size + 1 + 1 + 1, 0, none⟩) 2 2, .int .i64 4, .int .i64 0, .slice none 0 0, .int .i64 0, .int .i64 0]) rfl
    have z5 := cp_put (j := 5) (v := .int .i64 301) z4 (A' := #[.string ⟨#[109, 120, 46, 111, 114, 103]⟩, .slice (some ⟨w.heap.size + 1, 0, none⟩) 2 2, .slice (some ⟨w.heap.size + 1 + 1, 0, none⟩) 1 1, .slice (some ⟨w.heap.size + 1 + 1 + 1, 0, none⟩) 2 2, .int .i64 4, .int .i64 301, .slice none 0 0, .int .i64 0, .int .i64 0]) rfl
    have z6 := cp_put (j := 6) (v := .slice (some ⟨w.heap.size + 4, 0, none⟩) 3 3) z5 (A' := #[.string ⟨#[109, 120, 46, 111, 114, 103]⟩, .slice (some ⟨w.heap.size + 1, 0, none⟩) 2 2, .slice (some ⟨w.heap.size + 1 + 1, 0, none⟩) 1 1, .slice (some ⟨w.heap.size + 1 + 1 + 1, 0, none⟩) 2 2, .int .i64 4, .int .i64 301, .slice (some ⟨w.heap.size + 4, 0, none⟩) 3 3, .int .i64 0, .int .i64 0]) rfl
    have z7 := cp_put (j := 7) (v := .int .i64 41) z6 (A' := #[.string ⟨#[109, 120, 46, 111, 114, 103]⟩, .slice (some ⟨w.heap.size + 1, 0, none⟩) 2 2, .slice (some ⟨w.heap.size + 1 + 1, 0, none⟩) 1 1, .slice (some ⟨w.heap.size + 1 + 1 + 1, 0, none⟩) 2 2, .int .i64 4, .int .i64 301, .slice (some ⟨w.heap.size + 4, 0, none⟩) 3 3, .int .i64 41, .int .i64 0]) rfl
    exact cp_put (j := 8) (v := .int .i64 1000000) z7 (A' := #[.string ⟨#[109, 120, 46, 111, 114, 103]⟩, .slice (some ⟨w.heap.size + 1, 0, none⟩) 2 2, .slice (some ⟨w.heap.size + 1 + 1, 0, none⟩) 1 1, .slice (some ⟨w.heap.size + 1 + 1 + 1, 0, none⟩) 2 2, .int .i64 4, .int .i64 301, .slice (some ⟨w.heap.size + 4, 0, none⟩) 3 3, .int .i64 41, .int .i64 1000000]) rfl
  have e0 : Wf.cell? ⟨w.heap.size, 0, none⟩ = some (.string ⟨#[109, 120, 46, 111, 114, 103]⟩) := by rw [Lib.cell_of_heap Xf]; rfl
  have e1 : Wf.cell? ⟨w.heap.size, 1, none⟩ = some (.slice (some ⟨w.heap.size + 1, 0, none⟩) 2 2) := by rw [Lib.cell_of_heap Xf]; rfl
  have e2 : Wf.cell? ⟨w.heap.size, 2, none⟩ = some (.slice (some ⟨w.heap.size + 1 + 1, 0, none⟩) 1 1) := by rw [Lib.cell_of_heap Xf]; rfl
  have e3 : Wf.cell? ⟨w.heap.size, 3, none⟩ = some (.slice (some ⟨w.heap.size + 1 + 1 + 1, 0, none⟩) 2 2) := by rw [Lib.cell_of_heap Xf]; rfl
  have e4 : Wf.cell? ⟨w.heap.size, 4, none⟩ = some (.int .i64 4) := by rw [Lib.cell_of_heap Xf]; rfl
  have e5 : Wf.cell? ⟨w.heap.size, 5, none⟩ = some (.int .i64 301) := by rw [Lib.cell_of_heap Xf]; rfl
  have e6 : Wf.cell? ⟨w.heap.size, 6, none⟩ = some (.slice (some ⟨w.heap.size + 4, 0, none⟩) 3 3) := by rw [Lib.cell_of_heap Xf]; rfl
  have e7 : Wf.cell? ⟨w.heap.size, 7, none⟩ = some (.int .i64 41) := by rw [Lib.cell_of_heap Xf]; rfl
  have e8 : Wf.cell? ⟨w.heap.size, 8, none⟩ = some (.int .i64 1000000) := by rw [Lib.cell_of_heap Xf]; rfl
  clear hWf Xf
  refine bodyPost_ret (v := .agg #[.string ⟨#[109, 120, 46, 111, 114, 103]⟩, .slice (some ⟨w.heap.size + 1, 0, none⟩) 2 2, .slice (some ⟨w.heap.size + 1 + 1, 0, none⟩) 1 1, .slice (some ⟨w.heap.size + 1 + 1 + 1, 0, none⟩) 2 2, .int .i64 4, .int .i64 301, .slice (some ⟨w.heap.size + 4, 0, none⟩) 3 3, .int .i64 41, .int .i64 1000000]) (by simp [results, Tryz.results4, go_sem, e0, e1, e2, e3, e4, e5, e6, e7, e8]) rfl ?_
  exact ⟨_, _, _, _, rfl, ⟨row_at (cp_same Sf HXB'.out (by omega)) rfl, row_at (cp_same Sf HXC'.out (by omega)) rfl, row_at (cp_same Sf HXD'.out (by omega)) rfl, row_at (cp_same Sf (by rw [← zd]; exact HXE.out) (by omega)) rfl⟩, HBE.out.trans (Sf.below (Nat.le_refl _))⟩
end Go.Proofs.YtadcidbeealdpaaGreatDoor

/- What comes first on a post of its own. -/
namespace Go.Proofs.YtadcidbeealdpaaGreatDoor

def beganL : List UInt8 := [72, 69, 76, 79, 32, 120, 13, 10, 77, 65, 73, 76, 32, 70, 82, 79, 77, 58, 60, 62, 13, 10, 82, 67, 80, 84, 32, 84, 79, 58, 60, 98, 64, 97, 46, 111, 114, 103, 62, 13, 10, 68, 65, 84, 65, 13, 10, 46, 13, 10]
def saidL : List UInt8 := [50, 53, 48, 32, 109, 120, 46, 111, 114, 103, 13, 10, 50, 53, 48, 32, 111, 107, 13, 10, 50, 53, 48, 32, 111, 107, 13, 10, 51, 53, 52, 32, 103, 111, 13, 10, 50, 53, 48, 32, 107, 101, 112, 116, 32, 49, 13, 10]
def keptM : PMail := ⟨1, 0, [], [[98, 64, 97, 46, 111, 114, 103]], []⟩
theorem keepC_may : mayB keepC = true := by kernel_rfl
theorem greet_keep : greetS keepC = [50, 50, 48, 32, 109, 120, 46, 111, 114, 103, 13, 10] := by kernel_rfl
theorem began_said : (hearS keepC (newSes keepC 1, ⟨[], 0⟩, [], []) beganL).2.2.2 = saidL := by kernel_rfl
theorem began_store : (hearS keepC (newSes keepC 1, ⟨[], 0⟩, [], []) beganL).2.1 = PStore.plus ⟨[], 0⟩ keptM := by kernel_rfl
theorem began_over : (hearS keepC (newSes keepC 1, ⟨[], 0⟩, [], []) beganL).1.over = false := by kernel_rfl
theorem kept_queue : queueL (PStore.plus ⟨[], 0⟩ keptM).items = [keptM] := by kernel_rfl
end Go.Proofs.YtadcidbeealdpaaGreatDoor
