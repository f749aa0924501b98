import Derived.Test.YtadcidbeealdpaaGreatDoorS36
import Derived.Deep.RegionLaw

/- Pieces: whatever comes, in whatever pieces. -/
namespace Go.Proofs.YtadcidbeealdpaaGreatDoor
open Go.RowKit

theorem settings_below {w w' : World} {vD vN vU vW : Value} (h : CfgAt w keepC vD vN vU vW) (hb : Below w.heap.size w w') : CfgAt w' keepC vD vN vU vW := h.below hb
/-- two games lie apart -/
structure Apart (E1 E2 o1 o2 : Nat → Prop) : Prop where
  a : ∀ k, E1 k → ¬ o2 k
  b : ∀ k, E2 k → ¬ o1 k
  c : ∀ k, o1 k → ¬ o2 k
theorem Apart.second {E1 E2 o1 o2 o2' : Nat → Prop} {w : World} (h : Apart E1 E2 o1 o2) (hl : ∀ k, E1 k → k < w.heap.size) (ho : ∀ k, o1 k → k < w.heap.size) (hn : ∀ k, o2' k → o2 k ∨ w.heap.size ≤ k) : Apart E1 E2 o1 o2' :=
  ⟨fun k e x => (hn k x).elim (h.a k e) (fun y => by have := hl k e; omega), h.b, fun k e x => (hn k x).elim (h.c k e) (fun y => by have := ho k e; omega)⟩
theorem Apart.first {E1 E2 o1 o2 o1' : Nat → Prop} {w : World} (h : Apart E1 E2 o1 o2) (hl : ∀ k, E2 k → k < w.heap.size) (ho : ∀ k, o2 k → k < w.heap.size) (hn : ∀ k, o1' k → o1 k ∨ w.heap.size ≤ k) : Apart E1 E2 o1' o2 :=
  ⟨h.a, fun k e x => (hn k x).elim (h.b k e) (fun y => by have := hl k e; omega), fun k e x => (hn k e).elim (fun y => h.c k y x) (fun y => by have := ho k x; omega)⟩

/-- what was heard of the first m bytes -/
def heardTo (x0 : PSes × PStore × List UInt8) (came : List UInt8) (m : Nat) : PSes × PStore × List UInt8 × List UInt8 := hearS keepC (x0.1, x0.2.1, x0.2.2, []) (came.take m)
theorem heardTo_step (x0 : PSes × PStore × List UInt8) (came : List UInt8) {m t : Nat} (hmt : m ≤ t) : heardTo x0 came t = ((hearS keepC ((heardTo x0 came m).1, (heardTo x0 came m).2.1, (heardTo x0 came m).2.2.1, []) ((came.take t).drop m)).1, (hearS keepC ((heardTo x0 came m).1, (heardTo x0 came m).2.1, (heardTo x0 came m).2.2.1, []) ((came.take t).drop m)).2.1, (hearS keepC ((heardTo x0 came m).1, (heardTo x0 came m).2.1, (heardTo x0 came m).2.2.1, []) ((came.take t).drop m)).2.2.1, (heardTo x0 came m).2.2.2 ++ (hearS keepC ((heardTo x0 came m).1, (heardTo x0 came m).2.1, (heardTo x0 came m).2.2.1, []) ((came.take t).drop m)).2.2.2) := by
  have e1 : came.take t = came.take m ++ (came.take t).drop m := by
    have := List.take_append_drop m (came.take t)
    rw [List.take_take, Nat.min_eq_left hmt] at this
    exact this.symm
  have e2 : heardTo x0 came t = hearS keepC (heardTo x0 came m) ((came.take t).drop m) := by
    unfold heardTo
    rw [← hearS_more, ← e1]
  rw [e2]
  obtain ⟨a, b, c, d⟩ := heardTo x0 came m
  exact hearS_acc keepC a b c _ d
theorem heardTo_over (x0 : PSes × PStore × List UInt8) (came : List UInt8) {m : Nat} (h : (heardTo x0 came m).1.over = true) : heardTo x0 came m = hearS keepC (x0.1, x0.2.1, x0.2.2, []) came := by
  have e : hearS keepC (x0.1, x0.2.1, x0.2.2, []) came = hearS keepC (heardTo x0 came m) (came.drop m) := by
    unfold heardTo
    rw [← hearS_more, List.take_append_drop]
  rw [e, hearS_over h]
theorem heardTo_len {x0 : PSes × PStore × List UInt8} {came : List UInt8} (hI : PInv keepC x0.1 x0.2.1 x0.2.2) (hl : came.length ≤ 1048576) (m : Nat) : (heardTo x0 came m).2.2.2.length ≤ 3145728000 := by
  have h1 := (hearS_inv keepC_may (came.take m) (x0.1, x0.2.1, x0.2.2, []) hI).2
  have h2 : (came.take m).length ≤ came.length := by rw [List.length_take]; omega
  have h3 : ([] : List UInt8).length = 0 := rfl
  unfold heardTo
  simp only at h1
  omega
theorem GP.inv {E own : Nat → Prop} {gb pp : Nat} {w : World} {x : PSes × PStore × List UInt8} (h : GP E gb pp w x own) : PInv keepC x.1 x.2.1 x.2.2 := by
  obtain ⟨pb, mb, q, vr, vs, p0, sb, ch, A, vw, h1, h2, h3, h4, h5, h6⟩ := h
  exact h2

set_option maxHeartbeats 20000000 in
set_option maxRecDepth 100000 in
theorem pieces_any (addr : Int) (came : List UInt8) (cuts : List Int) (vc : Value) (w : World) (hg : GlobAt w) (ha1 : -9223372036854775808 ≤ addr) (ha2 : addr ≤ 9223372036854775807) (hcl : came.length ≤ 1048576) (hc : RowAt w vc cuts.length 1 (intCells cuts)) (hcz : cuts.length ≤ 1048576) (hci : ∀ x ∈ cuts, -9223372036854775808 ≤ x ∧ x ≤ 9223372036854775807) :
    Calls Tryz.prog 3 #[.int .i64 addr, .string (bs came), vc] w fun e w' => e = .returned (.bool true) ∧ Below w.heap.size w w' := by
  have H1 := Lib.hid (keepSet_any w)
  have HG := Lib.hid hg
  obtain ⟨av, cv, rfl, hone⟩ := hc.one
  have HC := Lib.hid hone
  have HCI := Lib.hid hci
  have hcs := bs_size came
  clear hg hc hci hone
  go_enter Tryz.func3, Tryz.ntmps3
  go_wp2_with fail
  refine H1.out.mono ?_
  rintro e w1 ⟨vD, vN, vU, vW, rfl, hC1, hb1⟩
  obtain ⟨aD, cD, eD⟩ := slice_of hC1.1
  obtain ⟨aN, cN, eN⟩ := slice_of hC1.2.1
  obtain ⟨aU, cU, eU⟩ := slice_of hC1.2.2.1
  obtain ⟨aW, cW, eW⟩ := slice_of hC1.2.2.2
  subst eD eN eU eW
  have HC1 := Lib.hid hC1
  have HB1 := Lib.hid hb1
  clear hC1 hb1
  go_wp2_with fail
  have xa := heap_alloc_new w1 (.cells #[.string keepC.host, .slice aD keepC.doms.length cD, .slice aN keepC.nets.length cN, .slice aU keepC.users.length cU, .int .i64 keepC.most, .int .i64 keepC.size, .slice aW keepC.waits.length cW, .int .i64 keepC.life, .int .i64 keepC.room] 27)
  have ba : Below w1.heap.size w1 (w1.alloc (.cells #[.string keepC.host, .slice aD keepC.doms.length cD, .slice aN keepC.nets.length cN, .slice aU keepC.users.length cU, .int .i64 keepC.most, .int .i64 keepC.size, .slice aW keepC.waits.length cW, .int .i64 keepC.life, .int .i64 keepC.room] 27)) := (Below.refl _ _).alloc (Nat.le_refl _) _
  obtain ⟨Wa, hWa⟩ : ∃ W : World, w1.alloc (.cells #[.string keepC.host, .slice aD keepC.doms.length cD, .slice aN keepC.nets.length cN, .slice aU keepC.users.length cU, .int .i64 keepC.most, .int .i64 keepC.size, .slice aW keepC.waits.length cW, .int .i64 keepC.life, .int .i64 keepC.room] 27) = W := ⟨_, rfl⟩
  rw [hWa] at xa ba ⊢
  have hza : w1.heap.size < Wa.heap.size := heap_some_lt xa
  have HBA := Lib.hid (HB1.out.trans (ba.mono HB1.out.size))
  have HCA := Lib.hid (HC1.out.below ba)
  have HXA := Lib.hid xa
  have H2 := begun_any _ _ _ _ Wa HCA.out (HG.out.below HBA.out)
  clear xa ba hWa
  refine H2.mono ?_
  rintro e w2 ⟨g1, E1, p1, b1, m1, q1, r1, s1, z1, rfl, hcell1, hE1, hne1, hP1, hfE1, hfO1, hb2⟩
  have H3 := Lib.hid (begun_any _ _ _ _ w2 (HCA.out.below hb2) ((HG.out.below HBA.out).below hb2))
  have X2 := below_some hb2 HXA.out
  have y0 : w2.cell? ⟨w1.heap.size, 0, none⟩ = some (.string keepC.host) := by rw [Lib.cell_of_heap X2]; rfl
  have y1 : w2.cell? ⟨w1.heap.size, 1, none⟩ = some (.slice aD keepC.doms.length cD) := by rw [Lib.cell_of_heap X2]; rfl
  have y2 : w2.cell? ⟨w1.heap.size, 2, none⟩ = some (.slice aN keepC.nets.length cN) := by rw [Lib.cell_of_heap X2]; rfl
  have y3 : w2.cell? ⟨w1.heap.size, 3, none⟩ = some (.slice aU keepC.users.length cU) := by rw [Lib.cell_of_heap X2]; rfl
  have y4 : w2.cell? ⟨w1.heap.size, 4, none⟩ = some (.int .i64 keepC.most) := by rw [Lib.cell_of_heap X2]; rfl
  have y5 : w2.cell? ⟨w1.heap.size, 5, none⟩ = some (.int .i64 keepC.size) := by rw [Lib.cell_of_heap X2]; rfl
  have y6 : w2.cell? ⟨w1.heap.size, 6, none⟩ = some (.slice aW keepC.waits.length cW) := by rw [Lib.cell_of_heap X2]; rfl
  have y7 : w2.cell? ⟨w1.heap.size, 7, none⟩ = some (.int .i64 keepC.life) := by rw [Lib.cell_of_heap X2]; rfl
  have y8 : w2.cell? ⟨w1.heap.size, 8, none⟩ = some (.int .i64 keepC.room) := by rw [Lib.cell_of_heap X2]; rfl
  have HP1 := Lib.hid hP1
  have HCE1 := Lib.hid hcell1
  have HEE1 := Lib.hid hE1
  have HNE1 := Lib.hid hne1
  have HFE1 := Lib.hid hfE1
  have HFO1 := Lib.hid hfO1
  have HB2 := Lib.hid hb2
  clear hcell1 hE1 hne1 hP1 hfE1 hfO1 hb2 H2 X2
  go_wp2_with fail
  refine H3.out.mono ?_
  rintro e w3 ⟨g2, E2, p2, b2, m2, q2, r2, s2, z2, rfl, hcell2, hE2, hne2, hP2, hfE2, hfO2, hb3⟩
  have HP2 := Lib.hid hP2
  have HCE2 := Lib.hid hcell2
  have HEE2 := Lib.hid hE2
  have HNE2 := Lib.hid hne2
  have HFE2 := Lib.hid hfE2
  have HFO2 := Lib.hid hfO2
  have HB3 := Lib.hid hb3
  clear hE2 hne2 hP2 hfE2 hfO2 hb3 H3 y0 y1 y2 y3 y4 y5 y6 y7 y8
  have hcell1 : w3.cell? ⟨g1, 0, none⟩ = some (.pointer (some ⟨p1, 0, none⟩)) := (HB3.out.cell (by exact HP1.out.lt g1 HEE1.out)).trans HCE1.out
  go_wp2_with fail
  obtain ⟨a0, ha0⟩ : ∃ a, pickI addr 1000 = a := ⟨_, rfl⟩
  have hab := pickI_lt addr (n := 1000) (by decide)
  rw [ha0] at hab
  have HPK : Hid (∀ W : World, Calls Tryz.prog 7 #[.int .i64 addr, .int .i64 1000] W fun e w' => e = .returned (.int .i64 a0) ∧ W = w') := Lib.hid (fun W => by have := keepPick_any addr 1000 W ha1 ha2 (by decide) (by decide); rw [ha0] at this; exact this)
  have hzw : w.heap.size ≤ Wa.heap.size := HBA.out.size
  have hz2 : Wa.heap.size ≤ w2.heap.size := HB2.out.size
  have hz3 : w2.heap.size ≤ w3.heap.size := HB3.out.size
  have hgl : ∀ k, glob k → k < Wa.heap.size := fun k e => by have := HG.out.lt e; omega
  have he1 : ∀ k, E1 k → (glob k ∨ Wa.heap.size ≤ k) ∧ k < w2.heap.size := fun k e => ⟨HFE1.out k e, HP1.out.lt k e⟩
  have he2 : ∀ k, E2 k → (glob k ∨ w2.heap.size ≤ k) ∧ k < w3.heap.size := fun k e => ⟨HFE2.out k e, HP2.out.lt k e⟩
  have hp1 : Wa.heap.size ≤ p1 ∧ p1 < w2.heap.size := ⟨(he1 p1 HP1.out.epp).1.elim (fun e => absurd e HP1.out.gpp) id, (he1 p1 HP1.out.epp).2⟩
  have hp2 : w2.heap.size ≤ p2 ∧ p2 < w3.heap.size := ⟨(he2 p2 HP2.out.epp).1.elim (fun e => absurd e HP2.out.gpp) id, (he2 p2 HP2.out.epp).2⟩
  have hs1 : ∀ k, s1.ownBlock = some k → Wa.heap.size ≤ k ∧ k < w2.heap.size := fun k e => ⟨HFO1.out k (.inr e), HP1.out.slt e⟩
  have hs2 : ∀ k, s2.ownBlock = some k → w2.heap.size ≤ k ∧ k < w3.heap.size := fun k e => ⟨HFO2.out k (.inr e), HP2.out.slt e⟩
  have B3d : Below w2.heap.size w2 w3.drew := HB3.out.drew
  obtain ⟨P1d, o1d⟩ := HP1.out.below B3d
  have hcd : w3.drew.cell? ⟨g1, 0, none⟩ = some (.pointer (some ⟨p1, 0, none⟩)) := hcell1
  have HCN1 := Lib.hid (GP.start begX_inv P1d HEE1.out HNE1.out hcd a0 (by omega) (by omega))
  have HO1D : Hid (∀ k, bagOwn w3.drew b1 m1 q1 r1 begX.2.1 k → Wa.heap.size ≤ k ∧ k < w2.heap.size) := Lib.hid (fun k e => ⟨HFO1.out k (.inl (o1d k e)), bagOwn.lt HP1.out.bag (o1d k e)⟩)
  have HE1 := Lib.hid he1
  have HE2 := Lib.hid he2
  have HS1 := Lib.hid hs1
  have HS2 := Lib.hid hs2
  have HGL := Lib.hid hgl
  clear hgl he1 he2 hs1 hs2 P1d o1d B3d hcd ha0
  go_region_law (first
    | (go_simp; go_at_call 7; refine (HPK.out _).mono ?_; rintro e wx ⟨rfl, rfl⟩; dsimp only)
    | (go_simp; go_at_call 6; refine HCN1.out.mono ?_; rintro e w4 ⟨rfl, own1, hG1, hO1, hK1⟩; have HG1 := Lib.hid hG1; have HO1 := Lib.hid hO1; have HK1 := Lib.hid hK1; clear hG1 hO1 hK1; dsimp only))
  all_goals
    have hw4 : w3.heap.size ≤ w4.heap.size := HK1.out.size
    have hB : ∀ k, k = p1 ∨ s1.ownBlock = some k → Wa.heap.size ≤ k ∧ k < w2.heap.size := fun k e => e.elim (fun e => by rw [e]; exact hp1) (HS1.out k)
    have P23 := HP2.out.below ((Below.refl _ w3).drew)
    obtain ⟨P24, o24⟩ := P23.1.chg HK1.out (fun k e x => by
      have := hB k x
      rcases (HE2.out k e).1 with y | y
      · have := HGL.out k y; omega
      · omega) (fun k e x => by
      have := hB k x
      have := HFO2.out k (.inl (P23.2 k e))
      omega) (fun k e x => by
      have := hB k x
      have := (HS2.out k e).1
      omega)
    have hcell24 : w4.cell? ⟨g2, 0, none⟩ = some (.pointer (some ⟨p2, 0, none⟩)) := (cell_chg HK1.out (HP2.out.lt g2 HEE2.out) (fun x => by
      have := hB g2 x
      rcases (HE2.out g2 HEE2.out).1 with y | y
      · have := HGL.out g2 y; omega
      · omega) 0).trans hcell2
    obtain ⟨P24d, o24d⟩ := P24.below ((Below.refl _ w4).drew)
    have hcd2 : w4.drew.cell? ⟨g2, 0, none⟩ = some (.pointer (some ⟨p2, 0, none⟩)) := hcell24
    have HCN2 := Lib.hid (GP.start begX_inv P24d HEE2.out HNE2.out hcd2 a0 (by omega) (by omega))
    have HO2D : Hid (∀ k, bagOwn w4.drew b2 m2 q2 r2 begX.2.1 k → w2.heap.size ≤ k ∧ k < w3.heap.size) := Lib.hid (fun k e => ⟨HFO2.out k (.inl (P23.2 k (o24 k (o24d k e)))), bagOwn.lt HP2.out.bag (P23.2 k (o24 k (o24d k e)))⟩)
    have HA1 : Hid (∀ k, own1 k → (Wa.heap.size ≤ k ∧ k < w2.heap.size) ∨ (w3.heap.size ≤ k ∧ k < w4.heap.size)) := Lib.hid (fun k e => by
      have hlt := HG1.out.olt e
      rcases HO1.out k e with y | y | y
      · exact .inl (HO1D.out k y)
      · exact .inl (HS1.out k y)
      · exact .inr ⟨y, hlt⟩)
    have HB4 : Hid (Below w.heap.size w w4) := Lib.hid ((((HBA.out.trans (HB2.out.mono hzw)).trans (HB3.out.mono (by omega))).drew).trans (HK1.out.toBelow (fun k e => by have := hB k e; omega) (by show w.heap.size ≤ w3.heap.size; omega)))
    clear hB P23 P24 o24 P24d o24d hcd2 hcell2 HCN1
    go_wp2_with fail
    go_region_law (first
      | (go_simp; go_at_call 7; refine (HPK.out _).mono ?_; rintro e wx ⟨rfl, rfl⟩; dsimp only)
      | (go_simp; go_at_call 6; refine HCN2.out.mono ?_; rintro e w5 ⟨rfl, own2, hG2, hO2, hK2⟩; have HG2 := Lib.hid hG2; have HO2 := Lib.hid hO2; have HK2 := Lib.hid hK2; clear hG2 hO2 hK2; dsimp only))
    all_goals
      have hw5 : w4.heap.size ≤ w5.heap.size := HK2.out.size
      have hB : ∀ k, k = p2 ∨ s2.ownBlock = some k → w2.heap.size ≤ k ∧ k < w3.heap.size := fun k e => e.elim (fun e => by rw [e]; exact hp2) (HS2.out k)
      have HA2 : Hid (∀ k, own2 k → (w2.heap.size ≤ k ∧ k < w3.heap.size) ∨ w4.heap.size ≤ k) := Lib.hid (fun k e => by
        rcases HO2.out k e with y | y | y
        · exact .inl (HO2D.out k y)
        · exact .inl (HS2.out k y)
        · exact .inr y)
      have G15 := (HG1.out.below ((Below.refl _ w4).drew)).chg HK2.out (fun k e x => by
        have := hB k x
        have := (HE1.out k e).2
        omega) (fun k e x => by
        have := hB k x
        have := HA1.out k e
        omega)
      have AP : Apart E1 E2 own1 own2 := ⟨fun k e x => by
        have := (HE1.out k e).2
        have := HA2.out k x
        omega, fun k e x => by
        have := (HE2.out k e).2
        have := HA1.out k x
        rcases (HE2.out k e).1 with y | y
        · have := HGL.out k y; omega
        · omega, fun k e x => by
        have := HA1.out k e
        have := HA2.out k x
        omega⟩
      have HB5 : Hid (Below w.heap.size w w5) := Lib.hid (HB4.out.drew.trans (HK2.out.toBelow (fun k e => by have := hB k e; omega) HB4.out.size))
      have HG15 := Lib.hid G15
      have HAP := Lib.hid AP
      have HOW : Hid (∀ k, own1 k ∨ own2 k → w.heap.size ≤ k) := Lib.hid (fun k e => by
        rcases e with e | e
        · have := HA1.out k e; omega
        · have := HA2.out k e; omega)
      have c15 := G15.cell
      have c25 := HG2.out.cell
      obtain ⟨x0, ex0⟩ : ∃ x, ((newSes keepC a0, begX.2.1, begX.2.2.1) : PSes × PStore × List UInt8) = x := ⟨_, rfl⟩
      have hov : x0.1.over = false := by rw [← ex0]; rfl
      rw [ex0] at HG15 HG2
      have HRC := Lib.hid (HG15.out.recv came hcl)
      rw [show codeOf x0.1.over = 0 by rw [hov]; rfl] at HRC
      have HOV := Lib.hid hov
      clear hB G15 AP HCN2 HA1 HA2 HO1 HO2 HO1D HO2D HK1 HK2 ex0 hov HG1 hcell24 hcell1
      go_wp2_with fail
      refine HRC.out.mono ?_
      rintro e w6 ⟨rfl, own1', hG16, hO16, hK16⟩
      obtain ⟨Y, eY⟩ : ∃ Y, hearS keepC (x0.1, x0.2.1, x0.2.2, []) came = Y := ⟨_, rfl⟩
      rw [eY] at hG16 ⊢
      have G26 := HG2.out.chg hK16 HAP.out.b (fun k e x => HAP.out.c k x e)
      have AP6 := HAP.out.first (w := w5) (fun k e => HG2.out.elt e) (fun k e => HG2.out.olt e) hO16
      have HB6 : Hid (Below w.heap.size w w6) := Lib.hid (HB5.out.trans (hK16.toBelow (fun k e => HOW.out k (.inl e)) HB5.out.size))
      have HOW6 : Hid (∀ k, own1' k ∨ own2 k → w.heap.size ≤ k) := Lib.hid (fun k e => by
        rcases e with e | e
        · rcases hO16 k e with e | e
          · exact HOW.out k (.inl e)
          · have := HB5.out.size; omega
        · exact HOW.out k (.inr e))
      have HG16 := Lib.hid hG16
      have HG26 := Lib.hid G26
      have HAP6 := Lib.hid AP6
      have HEY := Lib.hid eY
      have c16 := hG16.cell
      have c26 := G26.cell
      clear hG16 hO16 hK16 G26 AP6 eY HRC HG15 HG2 HAP HOW c15 c25
      go_wp2_with fail
      have hIN : PInv keepC x0.1 x0.2.1 x0.2.2 := HG26.out.inv
      have HHL : Hid (∀ m, (heardTo x0 came m).2.2.2.length ≤ 3145728000) := Lib.hid (fun m => heardTo_len hIN hcl m)
      obtain ⟨Hh, eHh⟩ : ∃ Hh, heardTo x0 came = Hh := ⟨_, rfl⟩
      have HH0 : Hh 0 = (x0.1, x0.2.1, x0.2.2, []) := by rw [← eHh]; rfl
      have HHE : Hid (Hh came.length = Y) := Lib.hid (by rw [← eHh]; unfold heardTo; rw [List.take_length]; exact HEY.out)
      have HHS : Hid (∀ m t, m ≤ t → Hh t = ((hearS keepC ((Hh m).1, (Hh m).2.1, (Hh m).2.2.1, []) ((came.take t).drop m)).1, (hearS keepC ((Hh m).1, (Hh m).2.1, (Hh m).2.2.1, []) ((came.take t).drop m)).2.1, (hearS keepC ((Hh m).1, (Hh m).2.1, (Hh m).2.2.1, []) ((came.take t).drop m)).2.2.1, (Hh m).2.2.2 ++ (hearS keepC ((Hh m).1, (Hh m).2.1, (Hh m).2.2.1, []) ((came.take t).drop m)).2.2.2)) := Lib.hid (fun m t hmt => by rw [← eHh]; exact heardTo_step x0 came hmt)
      have HHO : Hid (∀ m, (Hh m).1.over = true → Hh m = Y) := Lib.hid (fun m ho => by rw [← eHh] at ho ⊢; rw [← HEY.out]; exact heardTo_over x0 came ho)
      rw [eHh] at HHL
      clear eHh hIN
      go_loopw [18, 19, 20, 21, 22, 23, 24] (fun pv tv cl iv _ _ _ w' => ∃ (m i : Nat) (c : Bool) (own2 : Nat → Prop), m ≤ came.length ∧ i ≤ cuts.length + 1 ∧ pv = .string (bs (Hh m).2.2.2) ∧ tv = .int .i64 (m : Int) ∧ cl = .bool c ∧ iv = .int .i64 (i : Int) ∧ Hid (GP E2 g2 p2 w' ((Hh m).1, (Hh m).2.1, (Hh m).2.2.1) own2) ∧ Hid (GP E1 g1 p1 w' (Y.1, Y.2.1, Y.2.2.1) own1') ∧ Hid (Apart E1 E2 own1' own2) ∧ Hid (c = true → (Hh m).1.over = true) ∧ Hid (i = cuts.length + 1 → m = came.length) ∧ Hid (∀ k, own1' k ∨ own2 k → w.heap.size ≤ k) ∧ Hid (Below w.heap.size w w')) (fun _ _ _ iv _ _ _ _ => cuts.length + 2 - (intOf iv).toNat)
      case atStart => exact ⟨0, 0, false, own2, Nat.zero_le _, by omega, by rw [HH0]; rfl, rfl, rfl, rfl, Lib.hid (by rw [HH0]; exact HG26.out), HG16, HAP6, Lib.hid (fun e => by cases e), Lib.hid (fun e => by omega), HOW6, HB6⟩
      case round =>
        obtain ⟨m, i, c, own2, hm, hi, rfl, rfl, rfl, rfl, HGh, HGg, HAp, HCl, HEnd, HOw, HBl⟩ := hrel
        by_cases hile : i ≤ cuts.length
        case neg =>
          have hii : ¬ (i : Int) ≤ (cuts.length : Int) := by omega
          have hHm : Hh m = Y := by
            have := HEnd.out (by omega)
            rw [this]
            exact HHE.out
          rw [hHm] at HGh ⊢
          have k1 := HGg.out.cell
          have k2 := HGh.out.cell
          have HK1 := Lib.hid HGg.out.kept
          have HK2 := Lib.hid HGh.out.kept
          have HL1 := Lib.hid HGg.out.close
          clear HHS HHO HHL HHE hHm
          go_wp2_with fail
          refine HK1.out.mono ?_
          rintro e w7 ⟨rfl, rfl⟩
          go_wp2_with fail
          refine HK2.out.mono ?_
          rintro e w7 ⟨rfl, rfl⟩
          go_wp2_with fail
          refine HL1.out.mono ?_
          rintro e w7 ⟨rfl, hc7⟩
          have G7 := HGh.out.chg hc7 HAp.out.b (fun k e x => HAp.out.c k x e)
          have k7 := G7.cell
          have HL2 := Lib.hid G7.close
          have HB7 := Lib.hid (HBl.out.trans (hc7.toBelow (fun k e => HOw.out k (.inl e)) HBl.out.size))
          clear G7 hc7
          go_wp2_with fail
          refine HL2.out.mono ?_
          rintro e w8 ⟨rfl, hc8⟩
          have HB8 := Lib.hid (HB7.out.trans (hc8.toBelow (fun k e => HOw.out k (.inr e)) HB7.out.size))
          clear hc8
          go_wp2_with fail
          go_ret
          exact ⟨rfl, HB8.out⟩
        case pos =>
        have hii : (i : Int) ≤ (cuts.length : Int) := by omega
        cases c with
        | true =>
          have hHm : Hh m = Y := HHO.out m (HCl.out rfl)
          rw [hHm] at HGh ⊢
          have k1 := HGg.out.cell
          have k2 := HGh.out.cell
          have HK1 := Lib.hid HGg.out.kept
          have HK2 := Lib.hid HGh.out.kept
          have HL1 := Lib.hid HGg.out.close
          clear HHS HHO HHL HHE hHm
          go_wp2_with fail
          refine HK1.out.mono ?_
          rintro e w7 ⟨rfl, rfl⟩
          go_wp2_with fail
          refine HK2.out.mono ?_
          rintro e w7 ⟨rfl, rfl⟩
          go_wp2_with fail
          refine HL1.out.mono ?_
          rintro e w7 ⟨rfl, hc7⟩
          have G7 := HGh.out.chg hc7 HAp.out.b (fun k e x => HAp.out.c k x e)
          have k7 := G7.cell
          have HL2 := Lib.hid G7.close
          have HB7 := Lib.hid (HBl.out.trans (hc7.toBelow (fun k e => HOw.out k (.inl e)) HBl.out.size))
          clear G7 hc7
          go_wp2_with fail
          refine HL2.out.mono ?_
          rintro e w8 ⟨rfl, hc8⟩
          have HB8 := Lib.hid (HB7.out.trans (hc8.toBelow (fun k e => HOw.out k (.inr e)) HB7.out.size))
          clear hc8
          go_wp2_with fail
          go_ret
          exact ⟨rfl, HB8.out⟩
        | false =>
          by_cases hlt : i < cuts.length
          · have hlti : (i : Int) < (cuts.length : Int) := by omega
            obtain ⟨b, off, rfl, hbl, hck⟩ := HC.out i hlt
            obtain ⟨x, hx⟩ : ∃ x, cuts[i] = x := ⟨_, rfl⟩
            have hxr := HCI.out cuts[i] (List.getElem_mem hlt)
            rw [hx] at hxr
            have hckr : wr.cell? ⟨b, off + i, none⟩ = some (.int .i64 x) := by
              rw [← hx]
              refine (HBl.out.cell (by exact hbl)).trans ?_
              rw [hck, intCells, List.getElem?_map, List.getElem?_eq_getElem hlt]
              rfl
            have hpk := pickI_lt x (n := (came.length : Int) - m + 1) (by omega)
            obtain ⟨pn, hpn⟩ : ∃ pn : Nat, pickI x ((came.length : Int) - m + 1) = (pn : Int) := ⟨(pickI x ((came.length : Int) - m + 1)).toNat, by omega⟩
            have HP2 := keepPick_any x ((came.length : Int) - m + 1) wr hxr.1 hxr.2 (by omega) (by omega)
            rw [hpn] at HP2 hpk
            have e1 : IntKind.i64.wrap ((came.length : Int) - m) = (came.length : Int) - m := by rw [IntKind.wrap_i64]; omega
            have e2 : IntKind.i64.wrap ((came.length : Int) - m + 1) = (came.length : Int) - m + 1 := by rw [IntKind.wrap_i64]; omega
            have e3 : IntKind.i64.wrap ((m : Int) + (pn : Int)) = (m : Int) + (pn : Int) := by rw [IntKind.wrap_i64]; omega
            have HPP := Lib.hid HP2
            clear HP2 hck hx
            go_wp2_with fail
            refine HPP.out.mono ?_
            rintro e w7 ⟨rfl, rfl⟩
            have k2 := HGh.out.cell
            have hsl1 : (m : Int) ≤ (m : Int) + (pn : Int) := by omega
            have hsl2 : (m : Int) + (pn : Int) ≤ (came.length : Int) := by omega
            have hex : (bs came).extract m ((m : Int) + (pn : Int)).toNat = bs ((came.take (m + pn)).drop m) := by rw [show ((m : Int) + (pn : Int)).toNat = m + pn by omega, bs_extract]
            obtain ⟨t, ht⟩ : ∃ t, m + pn = t := ⟨_, rfl⟩
            have hmt : m ≤ t := by omega
            have htl : t ≤ came.length := by omega
            rw [ht] at hex
            have HStp := Lib.hid (HHS.out m t hmt)
            have HRV := (HGh.out.below ((Below.refl _ wr).drew)).recv ((came.take t).drop m) (by rw [List.length_drop, List.length_take]; omega)
            simp only at HRV
            have HLn : Hid ((Hh t).2.2.2.length ≤ 3145728000) := Lib.hid (HHL.out t)
            have HOv : Hid ((Hh m).1.over = true → (Hh t).1.over = true) := Lib.hid (fun ho => by
              rw [HStp.out, hearS_over (x := ((Hh m).1, (Hh m).2.1, (Hh m).2.2.1, [])) ho]
              exact ho)
            rw [← hex] at HRV
            obtain ⟨y, ey⟩ : ∃ y, hearS keepC ((Hh m).1, (Hh m).2.1, (Hh m).2.2.1, []) ((came.take t).drop m) = y := ⟨_, rfl⟩
            rw [ey] at HRV HStp
            have hsa := bs_size (Hh m).2.2.2
            have hsb := bs_size y.2.2.2
            have hlen : (Hh m).2.2.2.length + y.2.2.2.length ≤ 3145728000 := by
              have := HLn.out
              rw [HStp.out] at this
              simpa using this
            have hlim : ¬ 9223372036854775807 < (Hh m).2.2.2.length + y.2.2.2.length := by omega
            have HRR := Lib.hid HRV
            have HHX := Lib.hid hex
            clear HRV ey hex
            go_wp2_with fail
            go_region_law (first
              | (go_simp; go_at_call 8; refine HRR.out.mono ?_; rintro e w8 ⟨rfl, own2', hG8, hO8, hK8⟩; have HG8 := Lib.hid hG8; have HO8 := Lib.hid hO8; have HK8 := Lib.hid hK8; clear hG8 hO8 hK8; dsimp only))
            all_goals
              go_wp2_with fail
              refine ⟨⟨t, i + 1, codeOf (Hh m).1.over != 0, own2', htl, by omega, by rw [HStp.out, ← bs_append], by rw [← ht, Int.natCast_add], rfl, by rw [Int.natCast_add]; rfl, Lib.hid (by rw [HStp.out]; exact HG8.out), Lib.hid ((HGg.out.below ((Below.refl _ wr).drew)).chg HK8.out HAp.out.a HAp.out.c), Lib.hid (HAp.out.second (w := wr) (fun k e => HGg.out.elt e) (fun k e => HGg.out.olt e) HO8.out), Lib.hid (fun e => ?_), Lib.hid (fun e => by omega), Lib.hid (fun k e => ?_), Lib.hid (HBl.out.drew.trans (HK8.out.toBelow (fun k e => HOw.out k (.inr e)) HBl.out.size))⟩, by simp [intOf]; omega⟩
              · cases ho : (Hh m).1.over with
                | true => exact HOv.out ho
                | false => rw [ho] at e; cases e
              · rcases e with e | e
                · exact HOw.out k (.inl e)
                · rcases HO8.out k e with e | e
                  · exact HOw.out k (.inr e)
                  · exact Nat.le_trans HBl.out.size e
          · have hnlt : ¬ (i : Int) < (cuts.length : Int) := by omega
            have k2 := HGh.out.cell
            have hsl1 : (m : Int) ≤ (came.length : Int) := by omega
            have hex : (bs came).extract m came.length = bs ((came.take came.length).drop m) := by rw [bs_extract]
            obtain ⟨t, ht⟩ : ∃ t, came.length = t := ⟨_, rfl⟩
            have hmt : m ≤ t := by omega
            have htl : t ≤ came.length := by omega
            rw [show (came.take came.length).drop m = (came.take t).drop m by rw [ht]] at hex
            have HT := Lib.hid ht
            clear ht
            have HStp := Lib.hid (HHS.out m t hmt)
            have HRV := (HGh.out.below ((Below.refl _ wr).drew)).recv ((came.take t).drop m) (by rw [List.length_drop, List.length_take]; omega)
            simp only at HRV
            have HLn : Hid ((Hh t).2.2.2.length ≤ 3145728000) := Lib.hid (HHL.out t)
            have HOv : Hid ((Hh m).1.over = true → (Hh t).1.over = true) := Lib.hid (fun ho => by
              rw [HStp.out, hearS_over (x := ((Hh m).1, (Hh m).2.1, (Hh m).2.2.1, [])) ho]
              exact ho)
            rw [← hex] at HRV
            obtain ⟨y, ey⟩ : ∃ y, hearS keepC ((Hh m).1, (Hh m).2.1, (Hh m).2.2.1, []) ((came.take t).drop m) = y := ⟨_, rfl⟩
            rw [ey] at HRV HStp
            have hsa := bs_size (Hh m).2.2.2
            have hsb := bs_size y.2.2.2
            have hlen : (Hh m).2.2.2.length + y.2.2.2.length ≤ 3145728000 := by
              have := HLn.out
              rw [HStp.out] at this
              simpa using this
            have hlim : ¬ 9223372036854775807 < (Hh m).2.2.2.length + y.2.2.2.length := by omega
            have HRR := Lib.hid HRV
            have HHX := Lib.hid hex
            clear HRV ey hex
            go_wp2_with fail
            go_region_law (first
              | (go_simp; go_at_call 8; refine HRR.out.mono ?_; rintro e w8 ⟨rfl, own2', hG8, hO8, hK8⟩; have HG8 := Lib.hid hG8; have HO8 := Lib.hid hO8; have HK8 := Lib.hid hK8; clear hG8 hO8 hK8; dsimp only))
            all_goals
              go_wp2_with fail
              refine ⟨⟨t, i + 1, codeOf (Hh m).1.over != 0, own2', htl, by omega, by rw [HStp.out, ← bs_append], by rw [← HT.out], rfl, by rw [Int.natCast_add]; rfl, Lib.hid (by rw [HStp.out]; exact HG8.out), Lib.hid ((HGg.out.below ((Below.refl _ wr).drew)).chg HK8.out HAp.out.a HAp.out.c), Lib.hid (HAp.out.second (w := wr) (fun k e => HGg.out.elt e) (fun k e => HGg.out.olt e) HO8.out), Lib.hid (fun e => ?_), Lib.hid (fun e => HT.out.symm), Lib.hid (fun k e => ?_), Lib.hid (HBl.out.drew.trans (HK8.out.toBelow (fun k e => HOw.out k (.inr e)) HBl.out.size))⟩, by simp [intOf]; omega⟩
              · cases ho : (Hh m).1.over with
                | true => exact HOv.out ho
                | false => rw [ho] at e; cases e
              · rcases e with e | e
                · exact HOw.out k (.inl e)
                · rcases HO8.out k e with e | e
                  · exact HOw.out k (.inr e)
                  · exact Nat.le_trans HBl.out.size e
end Go.Proofs.YtadcidbeealdpaaGreatDoor
