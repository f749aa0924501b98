import Derived.Test.YtadcidbeealdpaaGreatDoorS33
import Derived.Deep.RegionLaw
import Derived.Conc.SmallLaws

/- A session begins. -/
namespace Go.Proofs.YtadcidbeealdpaaGreatDoor
open Go.RowKit

/-- a connection from addr, when it begins -/
def newSes (c : Cfg) (addr : Int) : PSes := ⟨c.nets.any (inNet addr), false, false, false, [], none⟩
def greetS (c : Cfg) : List UInt8 := [50, 50, 48, 32] ++ hostOf c ++ [13, 10]
theorem may_nets {c : Cfg} (h : mayB c = true) : ∀ x ∈ c.nets, 0 ≤ x.2 ∧ x.2 ≤ 32 := by
  unfold mayB netsB at h
  simp only [Bool.and_eq_true] at h
  obtain ⟨⟨⟨⟨⟨⟨⟨⟨_, _⟩, ⟨_, h1⟩⟩, _⟩, _⟩, _⟩, _⟩, _⟩, _⟩ := h
  intro x hx
  have := List.all_eq_true.1 h1 x hx
  unfold netB within at this
  simp only [Bool.and_eq_true, decide_eq_true_eq] at this
  exact this.1.1
theorem Chg.toBelow {B : Nat → Prop} {a b : World} {s : Nat} (h : Chg B a b) (hB : ∀ k, B k → s ≤ k) (hs : s ≤ a.heap.size) : Below s a b := ⟨h.still.1, h.still.2.1, h.still.2.2, h.size, fun k hk => h.block k (by omega) (fun e => by have := hB k e; omega)⟩
/-- what was told is taken, by whoever has the Builder -/
theorem take_told {w : World} {sb ch bl : Nat} {C : Array Value} {ls : List (List UInt8)} {v : Value} {acc : List UInt8} (hA : SesAt w sb ch C ls) (hB : BldAt 0 w bl v acc) (h1 : sb ≠ bl) (h2 : ch ≠ bl) (h3 : v.ownBlock ≠ some sb) (hl : ∀ l ∈ ls, l.length ≤ 1048576) (hal : acc.length + ls.flatten.length ≤ 140737488355328) :
    Calls Tryz.prog 24 #[.pointer (some ⟨sb, 0, none⟩), .pointer (some ⟨bl, 0, none⟩)] w fun e w' => e = .returned (.tuple #[]) ∧ ∃ v', SesAt w' sb ch C [] ∧ BldAt 0 w' bl v' (acc ++ ls.flatten) ∧ (∀ g, v'.ownBlock = some g → v.ownBlock = some g ∨ w.heap.size ≤ g) ∧ Chg (fun k => k = ch ∨ k = bl ∨ v.ownBlock = some k) w w' := by
  obtain ⟨sq, r, hch⟩ := hA.chan
  have hsb : ¬ (sb = ch ∨ sb = bl ∨ v.ownBlock = some sb) := fun x => by
    rcases x with x | x | x
    · exact hA.ne x
    · exact h1 x
    · exact h3 x
  let Bd : List UInt8 → World → Prop := fun a w' => ∃ v', BldAt 0 w' bl v' a ∧ (∀ g, v'.ownBlock = some g → v.ownBlock = some g ∨ w.heap.size ≤ g) ∧ Chg (fun k => k = ch ∨ k = bl ∨ v.ownBlock = some k) w w' ∧ ∃ buf s' r', w'.heap[ch]? = some (.chan 3 buf false s' r' false)
  have key := takeTold_any Bd sb ch sq r false (.pointer (some ⟨bl, 0, none⟩)) ls acc w ?_ ?_ ?_ ⟨v, hB, fun g e => .inl e, Chg.refl _ _, _, _, _, hch⟩ hch hl hal
  · refine key.mono ?_
    rintro e w' ⟨rfl, s', r', ⟨v', b1, b2, b3, _⟩, hc'⟩
    exact ⟨rfl, v', ⟨b3.some_ hA.blk hsb, hA.size, hA.told, s', r', hc'⟩, b1, b2, b3⟩
  · rintro a l W ⟨v', b1, b2, b3, buf, s', r', hc'⟩ _ hlen
    have hvc : v'.ownBlock ≠ some ch := fun e => by
      obtain ⟨cur, z, h1⟩ := rowF_tag b1.row e
      rw [hc'] at h1; cases h1
    refine (writeTo_any 0 bl v' a l W b1 (Nat.zero_le _) hlen).mono ?_
    rintro e w'' ⟨⟨rv, rfl⟩, ⟨v2, d1, d2⟩, d3, d4, hsz⟩
    have hc2 : Chg (fun k => k = bl ∨ v'.ownBlock = some k) W w'' := ⟨hsz, fun k hk hn => by
      rw [Array.getElem?_eq_getElem hk]
      exact d3 k _ (Array.getElem?_eq_getElem hk) (fun e => hn (.inl e)) (fun e => hn (.inr e)), d4⟩
    refine ⟨⟨rv, rfl⟩, ⟨v2, d1, fun g hg => (d2 g hg).elim (b2 g) (fun e => .inr (Nat.le_trans b3.size e)), b3.trans hc2 (fun k hk e => e.elim (fun e => .inr (.inl e)) (fun e => (b2 k e).elim (fun e => .inr (.inr e)) (fun e => absurd hk (by omega)))), buf, s', r', d3 ch _ hc' h2 hvc⟩, fun o ho => d3 ch o ho h2 hvc⟩
  · rintro a W ⟨v', b1, b2, b3, _⟩
    rw [Lib.cell_of_heap (b3.some_ hA.blk hsb)]
    exact hA.told
  · rintro a W buf buf' s' r' ⟨v', b1, b2, b3, _⟩ hc'
    have hlt : ch < W.heap.size := heap_some_lt hc'
    have S1 : Same ch W (W.setChan ch 3 buf' false s' (r' + 1) false) := ⟨by simp [World.setChan], fun k hk => by simp [World.setChan, Array.getElem?_setIfInBounds_ne (Ne.symm hk)], ⟨rfl, rfl, rfl⟩⟩
    have hvc : v'.ownBlock ≠ some ch := fun e => by
      obtain ⟨cur, z, h1⟩ := rowF_tag b1.row e
      rw [hc'] at h1; cases h1
    refine ⟨v', bld_chg b1 (Chg.same S1) (fun e => h2 e.symm) (fun g hg e => hvc (by rw [← e]; exact hg)), b2, b3.trans (Chg.same S1) (fun k _ e => .inl e), buf', s', r' + 1, Conc.heap_setChan W ch 3 buf' false s' (r' + 1) false hlt⟩
/-- the session's block and its channel are laid -/
structure BegW (w W : World) (pp pb sb ch : Nat) (c : Cfg) (addr : Int) : Prop where
  ses : SesAt W sb ch (sesCells pp pb ch (.slice none 0 0) (.pointer none) (newSes c addr)) []
  sb : w.heap.size ≤ sb
  ch : w.heap.size ≤ ch
  below : Below w.heap.size w W
theorem BegW.first {w w1 : World} {pp pb : Nat} {c : Cfg} {addr : Int} (hb : Below (w.alloc (.chan 3 #[] false 0 0 false)).drew.heap.size (w.alloc (.chan 3 #[] false 0 0 false)).drew w1) : BegW w (w1.alloc (.cells #[.pointer (some ⟨pp, 0, none⟩), .pointer (some ⟨pb, 0, none⟩), .slice none 0 0, .chan (some w.heap.size), .bool (c.nets.any (inNet addr)), .bool false, .bool false, .bool false, .pointer none] 81)) pp pb w1.heap.size w.heap.size c addr := by
  have hx : (w.alloc (.chan 3 #[] false 0 0 false)).drew.heap[w.heap.size]? = some (.chan 3 #[] false 0 0 false) := heap_alloc_new w _
  have hn : Below w1.heap.size w1 (w1.alloc (.cells #[.pointer (some ⟨pp, 0, none⟩), .pointer (some ⟨pb, 0, none⟩), .slice none 0 0, .chan (some w.heap.size), .bool (c.nets.any (inNet addr)), .bool false, .bool false, .bool false, .pointer none] 81)) := (Below.refl _ _).alloc (Nat.le_refl _) _
  have hsz : w.heap.size + 1 ≤ w1.heap.size := by have := hb.size; simpa using this
  have b0 : Below w.heap.size w (w.alloc (.chan 3 #[] false 0 0 false)).drew := ((Below.refl _ _).alloc (Nat.le_refl _) _).drew
  exact ⟨⟨heap_alloc_new w1 _, rfl, rfl, 0, 0, below_some hn (below_some hb hx)⟩, by omega, Nat.le_refl _, (b0.trans (hb.mono (by simp))).trans (hn.mono (by omega))⟩
theorem BegW.later {w w1 : World} {pp pb : Nat} {c : Cfg} {addr : Int} (hb : Below w.drew.heap.size w.drew w1) : BegW w ((w1.alloc (.chan 3 #[] false 0 0 false)).alloc (.cells #[.pointer (some ⟨pp, 0, none⟩), .pointer (some ⟨pb, 0, none⟩), .slice none 0 0, .chan (some w1.heap.size), .bool (c.nets.any (inNet addr)), .bool false, .bool false, .bool false, .pointer none] 81)) pp pb (w1.heap.size + 1) w1.heap.size c addr := by
  have hx : (w1.alloc (.chan 3 #[] false 0 0 false)).heap[w1.heap.size]? = some (.chan 3 #[] false 0 0 false) := heap_alloc_new w1 _
  have hs : (w1.alloc (.chan 3 #[] false 0 0 false)).heap.size = w1.heap.size + 1 := by simp
  have b1 : Below w1.heap.size w1 (w1.alloc (.chan 3 #[] false 0 0 false)) := (Below.refl _ _).alloc (Nat.le_refl _) _
  obtain ⟨W, hW⟩ : ∃ W : World, w1.alloc (.chan 3 #[] false 0 0 false) = W := ⟨_, rfl⟩
  rw [hW] at hx hs b1 ⊢
  have hn : Below W.heap.size W (W.alloc (.cells #[.pointer (some ⟨pp, 0, none⟩), .pointer (some ⟨pb, 0, none⟩), .slice none 0 0, .chan (some w1.heap.size), .bool (c.nets.any (inNet addr)), .bool false, .bool false, .bool false, .pointer none] 81)) := (Below.refl _ _).alloc (Nat.le_refl _) _
  have hsz : w.heap.size ≤ w1.heap.size := hb.size
  have b0 : Below w.heap.size w w.drew := (Below.refl _ _).drew
  exact ⟨⟨by rw [← hs]; exact heap_alloc_new W _, rfl, rfl, 0, 0, below_some hn hx⟩, by omega, hsz, ((b0.trans (hb.mono (Nat.le_refl _))).trans (b1.mono hsz)).trans (hn.mono (by omega))⟩
def BeginPost (pp pb : Nat) (c : Cfg) (addr : Int) (w : World) (e : Ending) (w' : World) : Prop :=
  ∃ sb ch, e = .returned (.tuple #[.pointer (some ⟨sb, 0, none⟩), .string (bs (greetS c))]) ∧ SesAt w' sb ch (sesCells pp pb ch (.slice none 0 0) (.pointer none) (newSes c addr)) [] ∧ w.heap.size ≤ sb ∧ w.heap.size ≤ ch ∧ Below w.heap.size w w'

set_option maxHeartbeats 1000000 in
set_option maxRecDepth 100000 in
theorem begin_any {E : Nat → Prop} {pp pb : Nat} {c : Cfg} {w : World} (he : EnvAt E w pp c) (addr : Int) :
    Calls Tryz.prog 13 #[.pointer (some ⟨pp, 0, none⟩), .pointer (some ⟨pb, 0, none⟩), .int .i64 addr] w (BeginPost pp pb c addr w) := by
  obtain ⟨vD, vN, vU, vW, hS, _⟩ := he.set
  have y0 : w.cell? ⟨pp, 0, none⟩ = some (.string c.host) := hS.cell 0 (by decide)
  have y1 : w.cell? ⟨pp, 1, none⟩ = some vD := hS.cell 1 (by decide)
  have y2 : w.cell? ⟨pp, 2, none⟩ = some vN := hS.cell 2 (by decide)
  have y3 : w.cell? ⟨pp, 3, none⟩ = some vU := hS.cell 3 (by decide)
  have y4 : w.cell? ⟨pp, 4, none⟩ = some (.int .i64 c.most) := hS.cell 4 (by decide)
  have y5 : w.cell? ⟨pp, 5, none⟩ = some (.int .i64 c.size) := hS.cell 5 (by decide)
  have y6 : w.cell? ⟨pp, 6, none⟩ = some vW := hS.cell 6 (by decide)
  have y7 : w.cell? ⟨pp, 7, none⟩ = some (.int .i64 c.life) := hS.cell 7 (by decide)
  have y8 : w.cell? ⟨pp, 8, none⟩ = some (.int .i64 c.room) := hS.cell 8 (by decide)
  have hal : ∀ (o : Obj) (j : Nat), (w.alloc o).cell? ⟨pp, j, none⟩ = w.cell? ⟨pp, j, none⟩ := fun o j => World.cell?_of_block (((Below.refl _ w).alloc (Nat.le_refl _) o).block pp (he.lt pp he.epp))
  have a0 : ∀ o : Obj, (w.alloc o).cell? ⟨pp, 0, none⟩ = some (.string c.host) := fun o => (hal o 0).trans y0
  have a1 : ∀ o : Obj, (w.alloc o).cell? ⟨pp, 1, none⟩ = some (vD) := fun o => (hal o 1).trans y1
  have a2 : ∀ o : Obj, (w.alloc o).cell? ⟨pp, 2, none⟩ = some (vN) := fun o => (hal o 2).trans y2
  have a3 : ∀ o : Obj, (w.alloc o).cell? ⟨pp, 3, none⟩ = some (vU) := fun o => (hal o 3).trans y3
  have a4 : ∀ o : Obj, (w.alloc o).cell? ⟨pp, 4, none⟩ = some (.int .i64 c.most) := fun o => (hal o 4).trans y4
  have a5 : ∀ o : Obj, (w.alloc o).cell? ⟨pp, 5, none⟩ = some (.int .i64 c.size) := fun o => (hal o 5).trans y5
  have a6 : ∀ o : Obj, (w.alloc o).cell? ⟨pp, 6, none⟩ = some (vW) := fun o => (hal o 6).trans y6
  have a7 : ∀ o : Obj, (w.alloc o).cell? ⟨pp, 7, none⟩ = some (.int .i64 c.life) := fun o => (hal o 7).trans y7
  have a8 : ∀ o : Obj, (w.alloc o).cell? ⟨pp, 8, none⟩ = some (.int .i64 c.room) := fun o => (hal o 8).trans y8
  have HHA : Hid (∀ W : World, Below w.heap.size w W → Calls Tryz.prog 22 #[.agg #[.string c.host, vD, vN, vU, .int .i64 c.most, .int .i64 c.size, vW, .int .i64 c.life, .int .i64 c.room], .int .i64 addr] W fun e w' => e = .returned (.bool (c.nets.any (inNet addr))) ∧ Below W.heap.size W w') := Lib.hid (fun W hb => hasAddr_any c vD vN vU vW addr W (hS.rows.below hb) hS.small.nets (fun x hx => may_nets hS.may x hx))
  obtain ⟨i, hi, hz0, hz1, hz2⟩ := info_parts info_str
  have hMC : ∀ W : World, (Instr.makeChan 74 (.int .i64 3)).run Tryz.prog W = .ok (.chan (some W.heap.size)) (W.alloc (.chan 3 #[] false 0 0 false)) := fun W => Conc.run_makeChan (n := 3) Tryz.underlying74 hi .i64 (by decide) (by rw [hz2]; decide)
  clear hS hal
  have hpl : pp < w.heap.size := he.lt pp he.epp
  have hhl := he.host.2
  have HADD : Hid ((⟨#[50, 50, 48, 32]⟩ : ByteArray) ++ c.host = bs ([50, 50, 48, 32] ++ hostOf c)) := Lib.hid (bs_append [50, 50, 48, 32] (hostOf c)).symm
  have hhs : c.host.size = (hostOf c).length := by rw [← bs_host c, bs_size]
  go_enter Tryz.func13, Tryz.ntmps13
  go_wp2_with fail
  go_region_law (first
    | (go_simp; go_at_call 22; refine (HHA.out _ (by first | exact (Below.refl _ _).drew | exact ((Below.refl _ _).alloc (Nat.le_refl _) _).drew)).mono ?_; rintro e w1 ⟨rfl, hb1⟩; dsimp only))
  all_goals
    have HW : Hid (BegW w _ pp pb _ _ c addr) := Lib.hid (by first | exact BegW.first hb1 | exact BegW.later hb1)
    clear hb1 HHA
  ·
    obtain ⟨W2, hW2⟩ : ∃ W : World, w1.alloc (.cells #[.pointer (some ⟨pp, 0, none⟩), .pointer (some ⟨pb, 0, none⟩), .slice none 0 0, .chan (some w.heap.size), .bool (c.nets.any (inNet addr)), .bool false, .bool false, .bool false, .pointer none] 81) = W := ⟨_, rfl⟩
    rw [hW2] at HW ⊢
    have hbel := HW.out.below
    have x3 := heap_alloc_new W2 (.cells #[.pointer none, .slice none 0 0] 84)
    have b3 : Below W2.heap.size W2 (W2.alloc (.cells #[.pointer none, .slice none 0 0] 84)) := (Below.refl _ _).alloc (Nat.le_refl _) _
    obtain ⟨W3, hW3⟩ : ∃ W : World, W2.alloc (.cells #[.pointer none, .slice none 0 0] 84) = W := ⟨_, rfl⟩
    rw [hW3] at x3 b3
    have y3 : W3.cell? ⟨pp, 0, none⟩ = some (.string c.host) := ((hbel.trans (b3.mono hbel.size)).cell (by exact hpl)).trans y0
    have s3 := HW.out.ses.chg (Chg.below b3 : Chg (fun _ => False) W2 W3) (fun e => e) (fun e => e)
    have l1 := heap_some_lt HW.out.ses.blk
    have l2 : _ < W2.heap.size := heap_some_lt HW.out.ses.chan.choose_spec.choose_spec
    have HT := Lib.hid (s3.tell (by simp) ([50, 50, 48, 32] ++ hostOf c) (by rw [List.length_append]; simp; omega))
    have HB3 : Hid (BldAt 0 W3 W2.heap.size (.slice none 0 0) []) := Lib.hid ⟨⟨none, .inl rfl, x3⟩, ⟨rfl, .inl ⟨rfl, rfl⟩⟩, (by intro e; cases e)⟩
    have HBB := Lib.hid (hbel.trans (b3.mono hbel.size))
    have hW23 : W2.heap.size ≤ W3.heap.size := b3.size
    have HL1 := Lib.hid l1
    have HL2 := Lib.hid l2
    clear hbel x3 b3 s3 l1 l2 hW2
    go_wp2_with fail
    rw [HADD.out]
    refine HT.out.mono ?_
    rintro e w4 ⟨rfl, h4, hS4⟩
    have B4 : BldAt 0 w4 W2.heap.size (.slice none 0 0) [] := bld_chg HB3.out (Chg.same hS4) (fun e => by have := HL2.out; omega) (by intro g e; cases e)
    have HTK := Lib.hid (take_told h4 B4 (by have := HL1.out; omega) (by have := HL2.out; omega) (by intro e; cases e) (by intro l hl; simp at hl; rw [hl]; simp; omega) (by simp; omega))
    have HB4 := Lib.hid (HBB.out.trans (hS4.below HW.out.ch))
    have hz4 : w4.heap.size = W3.heap.size := hS4.1
    clear h4 hS4 B4
    go_wp2_with fail
    refine HTK.out.mono ?_
    rintro e w5 ⟨rfl, v5, h5, hB5, hv5, hc5⟩
    have hs2 : w.heap.size ≤ W2.heap.size := HW.out.below.size
    have B5 := HB4.out.trans (hc5.toBelow (s := w.heap.size) (fun k e => by
      rcases e with e | e | e
      · rw [e]; exact HW.out.ch
      · rw [e]; exact hs2
      · cases e) HB4.out.size)
    have HSS := Lib.hid (string_any 0 W2.heap.size v5 _ w5 hB5)
    have HV5 := Lib.hid hv5
    have HH5 := Lib.hid h5
    have HB5 := Lib.hid B5
    have HBL := Lib.hid hB5
    clear h5 hB5 hv5 hc5 B5 HTK
    go_wp2_with fail
    refine HSS.out.mono ?_
    rintro e w6 ⟨rfl, hc6⟩
    have HC6 := Lib.hid hc6
    clear hc6
    go_wp2_with fail
    go_ret2
    have hg : ∀ g, v5.ownBlock = some g → w4.heap.size ≤ g := fun g e => (HV5.out g e).elim (fun e => by cases e) id
    refine ⟨_, _, rfl, HH5.out.chg HC6.out (fun e => ?_) (fun e => ?_), HW.out.sb, HW.out.ch, HB5.out.trans (HC6.out.toBelow (fun k e => Nat.le_trans HB4.out.size (hg k e)) HB5.out.size)⟩
    · have := hg _ e; have := HL1.out; have := hW23; omega
    · have := hg _ e; have := HL2.out; have := hW23; omega
  ·
    obtain ⟨W2, hW2⟩ : ∃ W : World, w1.alloc (.cells #[.pointer (some ⟨pp, 0, none⟩), .pointer (some ⟨pb, 0, none⟩), .slice none 0 0, .chan (some w.heap.size), .bool (c.nets.any (inNet addr)), .bool false, .bool false, .bool false, .pointer none] 81) = W := ⟨_, rfl⟩
    rw [hW2] at HW ⊢
    have hbel := HW.out.below
    have x3 := heap_alloc_new W2 (.cells #[.pointer none, .slice none 0 0] 84)
    have b3 : Below W2.heap.size W2 (W2.alloc (.cells #[.pointer none, .slice none 0 0] 84)) := (Below.refl _ _).alloc (Nat.le_refl _) _
    obtain ⟨W3, hW3⟩ : ∃ W : World, W2.alloc (.cells #[.pointer none, .slice none 0 0] 84) = W := ⟨_, rfl⟩
    rw [hW3] at x3 b3
    have y3 : W3.cell? ⟨pp, 0, none⟩ = some (.string c.host) := ((hbel.trans (b3.mono hbel.size)).cell (by exact hpl)).trans y0
    have s3 := HW.out.ses.chg (Chg.below b3 : Chg (fun _ => False) W2 W3) (fun e => e) (fun e => e)
    have l1 := heap_some_lt HW.out.ses.blk
    have l2 : _ < W2.heap.size := heap_some_lt HW.out.ses.chan.choose_spec.choose_spec
    have HT := Lib.hid (s3.tell (by simp) ([50, 50, 48, 32] ++ hostOf c) (by rw [List.length_append]; simp; omega))
    have HB3 : Hid (BldAt 0 W3 W2.heap.size (.slice none 0 0) []) := Lib.hid ⟨⟨none, .inl rfl, x3⟩, ⟨rfl, .inl ⟨rfl, rfl⟩⟩, (by intro e; cases e)⟩
    have HBB := Lib.hid (hbel.trans (b3.mono hbel.size))
    have hW23 : W2.heap.size ≤ W3.heap.size := b3.size
    have HL1 := Lib.hid l1
    have HL2 := Lib.hid l2
    clear hbel x3 b3 s3 l1 l2 hW2
    go_wp2_with fail
    rw [HADD.out]
    refine HT.out.mono ?_
    rintro e w4 ⟨rfl, h4, hS4⟩
    have B4 : BldAt 0 w4 W2.heap.size (.slice none 0 0) [] := bld_chg HB3.out (Chg.same hS4) (fun e => by have := HL2.out; omega) (by intro g e; cases e)
    have HTK := Lib.hid (take_told h4 B4 (by have := HL1.out; omega) (by have := HL2.out; omega) (by intro e; cases e) (by intro l hl; simp at hl; rw [hl]; simp; omega) (by simp; omega))
    have HB4 := Lib.hid (HBB.out.trans (hS4.below HW.out.ch))
    have hz4 : w4.heap.size = W3.heap.size := hS4.1
    clear h4 hS4 B4
    go_wp2_with fail
    refine HTK.out.mono ?_
    rintro e w5 ⟨rfl, v5, h5, hB5, hv5, hc5⟩
    have hs2 : w.heap.size ≤ W2.heap.size := HW.out.below.size
    have B5 := HB4.out.trans (hc5.toBelow (s := w.heap.size) (fun k e => by
      rcases e with e | e | e
      · rw [e]; exact HW.out.ch
      · rw [e]; exact hs2
      · cases e) HB4.out.size)
    have HSS := Lib.hid (string_any 0 W2.heap.size v5 _ w5 hB5)
    have HV5 := Lib.hid hv5
    have HH5 := Lib.hid h5
    have HB5 := Lib.hid B5
    have HBL := Lib.hid hB5
    clear h5 hB5 hv5 hc5 B5 HTK
    go_wp2_with fail
    refine HSS.out.mono ?_
    rintro e w6 ⟨rfl, hc6⟩
    have HC6 := Lib.hid hc6
    clear hc6
    go_wp2_with fail
    go_ret2
    have hg : ∀ g, v5.ownBlock = some g → w4.heap.size ≤ g := fun g e => (HV5.out g e).elim (fun e => by cases e) id
    refine ⟨_, _, rfl, HH5.out.chg HC6.out (fun e => ?_) (fun e => ?_), HW.out.sb, HW.out.ch, HB5.out.trans (HC6.out.toBelow (fun k e => Nat.le_trans HB4.out.size (hg k e)) HB5.out.size)⟩
    · have := hg _ e; have := HL1.out; have := hW23; omega
    · have := hg _ e; have := HL2.out; have := hW23; omega
  ·
    obtain ⟨W2, hW2⟩ : ∃ W : World, (w1.alloc (.chan 3 #[] false 0 0 false)).alloc (.cells #[.pointer (some ⟨pp, 0, none⟩), .pointer (some ⟨pb, 0, none⟩), .slice none 0 0, .chan (some w1.heap.size), .bool (c.nets.any (inNet addr)), .bool false, .bool false, .bool false, .pointer none] 81) = W := ⟨_, rfl⟩
    rw [hW2] at HW ⊢
    have hbel := HW.out.below
    have x3 := heap_alloc_new W2 (.cells #[.pointer none, .slice none 0 0] 84)
    have b3 : Below W2.heap.size W2 (W2.alloc (.cells #[.pointer none, .slice none 0 0] 84)) := (Below.refl _ _).alloc (Nat.le_refl _) _
    obtain ⟨W3, hW3⟩ : ∃ W : World, W2.alloc (.cells #[.pointer none, .slice none 0 0] 84) = W := ⟨_, rfl⟩
    rw [hW3] at x3 b3
    have y3 : W3.cell? ⟨pp, 0, none⟩ = some (.string c.host) := ((hbel.trans (b3.mono hbel.size)).cell (by exact hpl)).trans y0
    have s3 := HW.out.ses.chg (Chg.below b3 : Chg (fun _ => False) W2 W3) (fun e => e) (fun e => e)
    have l1 := heap_some_lt HW.out.ses.blk
    have l2 : _ < W2.heap.size := heap_some_lt HW.out.ses.chan.choose_spec.choose_spec
    have HT := Lib.hid (s3.tell (by simp) ([50, 50, 48, 32] ++ hostOf c) (by rw [List.length_append]; simp; omega))
    have HB3 : Hid (BldAt 0 W3 W2.heap.size (.slice none 0 0) []) := Lib.hid ⟨⟨none, .inl rfl, x3⟩, ⟨rfl, .inl ⟨rfl, rfl⟩⟩, (by intro e; cases e)⟩
    have HBB := Lib.hid (hbel.trans (b3.mono hbel.size))
    have hW23 : W2.heap.size ≤ W3.heap.size := b3.size
    have HL1 := Lib.hid l1
    have HL2 := Lib.hid l2
    clear hbel x3 b3 s3 l1 l2 hW2
    go_wp2_with fail
    rw [HADD.out]
    refine HT.out.mono ?_
    rintro e w4 ⟨rfl, h4, hS4⟩
    have B4 : BldAt 0 w4 W2.heap.size (.slice none 0 0) [] := bld_chg HB3.out (Chg.same hS4) (fun e => by have := HL2.out; omega) (by intro g e; cases e)
    have HTK := Lib.hid (take_told h4 B4 (by have := HL1.out; omega) (by have := HL2.out; omega) (by intro e; cases e) (by intro l hl; simp at hl; rw [hl]; simp; omega) (by simp; omega))
    have HB4 := Lib.hid (HBB.out.trans (hS4.below HW.out.ch))
    have hz4 : w4.heap.size = W3.heap.size := hS4.1
    clear h4 hS4 B4
    go_wp2_with fail
    refine HTK.out.mono ?_
    rintro e w5 ⟨rfl, v5, h5, hB5, hv5, hc5⟩
    have hs2 : w.heap.size ≤ W2.heap.size := HW.out.below.size
    have B5 := HB4.out.trans (hc5.toBelow (s := w.heap.size) (fun k e => by
      rcases e with e | e | e
      · rw [e]; exact HW.out.ch
      · rw [e]; exact hs2
      · cases e) HB4.out.size)
    have HSS := Lib.hid (string_any 0 W2.heap.size v5 _ w5 hB5)
    have HV5 := Lib.hid hv5
    have HH5 := Lib.hid h5
    have HB5 := Lib.hid B5
    have HBL := Lib.hid hB5
    clear h5 hB5 hv5 hc5 B5 HTK
    go_wp2_with fail
    refine HSS.out.mono ?_
    rintro e w6 ⟨rfl, hc6⟩
    have HC6 := Lib.hid hc6
    clear hc6
    go_wp2_with fail
    go_ret2
    have hg : ∀ g, v5.ownBlock = some g → w4.heap.size ≤ g := fun g e => (HV5.out g e).elim (fun e => by cases e) id
    refine ⟨_, _, rfl, HH5.out.chg HC6.out (fun e => ?_) (fun e => ?_), HW.out.sb, HW.out.ch, HB5.out.trans (HC6.out.toBelow (fun k e => Nat.le_trans HB4.out.size (hg k e)) HB5.out.size)⟩
    · have := hg _ e; have := HL1.out; have := hW23; omega
    · have := hg _ e; have := HL2.out; have := hW23; omega
end Go.Proofs.YtadcidbeealdpaaGreatDoor

/- A post with a session of it at rest. -/
namespace Go.Proofs.YtadcidbeealdpaaGreatDoor
open Go.RowKit

structure PostS (E : Nat → Prop) (pp pb mb : Nat) (c : Cfg) (w : World) (q : Nat → Nat) (vr : Value) (S : PStore) (recs : List UInt8) (vs : Value) (ps : List Value) (sb ch : Nat) (A : Nat → Prop) (vw : Value) (s : PSes) : Prop where
  post : PostW E pp pb mb c w q vr S recs vs ps
  ses : SesIn w A pp pb sb ch vw [] s
  wrow : RowZ w vw s.wait
  ea : ∀ k, E k → ¬ A k
  ab : ∀ k, A k → ¬ bagOwn w pb mb q vr S k
  wd : ∀ g, vw.ownBlock = some g → ¬ E g ∧ ¬ A g ∧ ¬ bagOwn w pb mb q vr S g
  sa : ∀ g, vs.ownBlock = some g → ¬ A g ∧ vw.ownBlock ≠ some g
/-- all that turns of it -/
def sOwn (w : World) (pb mb : Nat) (A : Nat → Prop) (q : Nat → Nat) (vr : Value) (S : PStore) (vw vs : Value) (k : Nat) : Prop := rOwn w pb mb A q vr S vw k ∨ vs.ownBlock = some k
section
variable {E B : Nat → Prop} {pp pb mb : Nat} {c : Cfg} {w w' : World} {q : Nat → Nat} {vr : Value} {S S' : PStore} {recs recs' : List UInt8} {vs : Value} {ps : List Value} {sb ch : Nat} {A : Nat → Prop} {vw : Value} {s s' : PSes}
theorem PostS.rest (h : PostS E pp pb mb c w q vr S recs vs ps sb ch A vw s) : RestW E pp pb mb sb ch c w A q vr S recs vw s := ⟨h.post.env, h.ses, h.wrow, h.post.bag, h.ea, h.post.eb, h.ab, h.wd⟩
theorem PostS.wlt (h : PostS E pp pb mb c w q vr S recs vs ps sb ch A vw s) {g : Nat} (hg : vw.ownBlock = some g) : g < w.heap.size := (own_in h.wrow hg).2
theorem PostS.olt (h : PostS E pp pb mb c w q vr S recs vs ps sb ch A vw s) {k : Nat} (hk : sOwn w pb mb A q vr S vw vs k) : k < w.heap.size := by
  rcases hk with (e | e | e) | e
  · exact h.ses.lt k e
  · exact bagOwn.lt h.post.bag e
  · exact h.wlt e
  · exact h.post.slt e
/-- whatever turns elsewhere -/
theorem PostS.chg (h : PostS E pp pb mb c w q vr S recs vs ps sb ch A vw s) (hc : Chg B w w') (hE : ∀ k, E k → ¬ B k) (hO : ∀ k, sOwn w pb mb A q vr S vw vs k → ¬ B k) : PostS E pp pb mb c w' q vr S recs vs ps sb ch A vw s ∧ ∀ k, sOwn w' pb mb A q vr S vw vs k → sOwn w pb mb A q vr S vw vs k := by
  obtain ⟨p1, p2⟩ := h.post.chg hc hE (fun k e => hO k (.inl (.inr (.inl e)))) (fun k e => hO k (.inr e))
  refine ⟨⟨p1, h.ses.chg hc (fun k e => hO k (.inl (.inl e))), own_chg h.wrow hc (fun g e => hO g (.inl (.inr (.inr e)))), h.ea, fun k e x => h.ab k e (p2 k x), fun g e => ⟨(h.wd g e).1, (h.wd g e).2.1, fun x => (h.wd g e).2.2 (p2 g x)⟩, h.sa⟩, fun k e => ?_⟩
  rcases e with (e | e | e) | e
  · exact .inl (.inl e)
  · exact .inl (.inr (.inl (p2 k e)))
  · exact .inl (.inr (.inr e))
  · exact .inr e
theorem PostS.below (h : PostS E pp pb mb c w q vr S recs vs ps sb ch A vw s) (hb : Below w.heap.size w w') : PostS E pp pb mb c w' q vr S recs vs ps sb ch A vw s ∧ ∀ k, sOwn w' pb mb A q vr S vw vs k → sOwn w pb mb A q vr S vw vs k :=
  h.chg (Chg.below hb : Chg (fun _ => False) w w') (fun _ _ e => e) (fun _ _ e => e)
/-- a piece was heard -/
theorem PostS.heard (h : PostS E pp pb mb c w q vr S recs vs ps sb ch A vw s) (hp : HearPost E A pp pb mb sb ch c q vr S vw w s' S' recs' w') : ∃ A' q' vr' vw', PostS E pp pb mb c w' q' vr' S' recs' vs ps sb ch A' vw' s' ∧ (∀ k, sOwn w' pb mb A' q' vr' S' vw' vs k → sOwn w pb mb A q vr S vw vs k ∨ w.heap.size ≤ k) ∧ Chg (sOwn w pb mb A q vr S vw vs) w w' := by
  obtain ⟨A', q', vr', vw', h1, h2, h3⟩ := hp
  obtain ⟨vD, vN, vU, vW, s1, s2⟩ := h.post.set
  obtain ⟨C, b1, b2⟩ := h.post.blk
  have dE : ∀ k, E k → ¬ rOwn w pb mb A q vr S vw k := fun k e x => by
    rcases x with x | x | x
    · exact h.ea k e x
    · exact h.post.eb k e x
    · exact (h.wd k x).1 e
  have dS : ∀ g, vs.ownBlock = some g → ¬ rOwn w pb mb A q vr S vw g := fun g e x => by
    rcases x with x | x | x
    · exact (h.sa g e).1 x
    · exact (h.post.sd g e).2 x
    · exact (h.sa g e).2 x
  have nS : ∀ g, vs.ownBlock = some g → ¬ rOwn w' pb mb A' q' vr' S' vw' g := fun g e x => (h2 g x).elim (dS g e) (fun y => by have := h.post.slt e; omega)
  refine ⟨A', q', vr', vw', ⟨⟨⟨vD, vN, vU, vW, s1.chg h3 (fun k e => dE k (s2 k e).1) (dE pp h.post.epp), s2⟩, h.post.glo.chg h3 (fun k e => dE k (h.post.egl k e)), h.post.egl, h.post.gpp, h.post.epp, fun k e => Nat.lt_of_lt_of_le (h.post.lt k e) h3.size, ⟨C, h3.some_ b1 (dE pp h.post.epp), b2⟩, h1.bag, own_chg h.post.row h3 dS, h1.eb, fun g e => ⟨(h.post.sd g e).1, fun x => nS g e (.inr (.inl x))⟩⟩, h1.ses, h1.row, h1.ea, h1.ab, h1.wd, fun g e => ⟨fun x => nS g e (.inl x), fun x => nS g e (.inr (.inr x))⟩⟩, fun k e => ?_, h3.mono (fun k _ e => .inl e)⟩
  rcases e with e | e
  · exact (h2 k e).imp .inl id
  · exact .inl (.inr e)
/-- where a session's pointer lies -/
theorem PostW.at (h : PostW E pp pb mb c w q vr S recs vs ps) {n : Nat} (hn : n < ps.length) : ∃ g cap cur, vs = .slice (some ⟨g, 0, none⟩) ps.length cap ∧ w.heap[g]? = some (.cells cur 62 (0, 0)) ∧ cur[n]? = some ps[n] := by
  rcases h.row.2 with ⟨_, h0⟩ | ⟨g, cp, cur, e, _, hg, _, _, _, htk⟩
  · omega
  · refine ⟨g, cp, cur, e, hg, ?_⟩
    rw [← Array.getElem?_toList, ← List.getElem?_take_of_lt (show n < ps.length * 1 by omega), htk, List.getElem?_eq_getElem hn]
/-- a session is forgotten -/
theorem own_put {w : World} {g cap n : Nat} {x : Value} {ps : List Value} (h : w.ownsRow 0 62 1 (.slice (some ⟨g, 0, none⟩) ps.length cap) ps.length ps) (_hn : n < ps.length) : (w.setCell ⟨g, n, none⟩ x).ownsRow 0 62 1 (.slice (some ⟨g, 0, none⟩) ps.length cap) ps.length (ps.set n x) := by
  refine ⟨by simp, ?_⟩
  rcases h.2 with ⟨e, _⟩ | ⟨g', cp, cur, e, hb, hg, r1, r2, r3, htk⟩
  · cases e
  · injection e with e1 _ e3
    injection e1 with e1
    injection e1 with e1
    subst e1 e3
    refine .inr ⟨g, cap, cur.setIfInBounds n x, rfl, hb, heap_setCell_same w g n _ _ x hg, r1, r2, by simp [r3], ?_⟩
    rw [Array.toList_setIfInBounds, List.take_set, htk]
theorem PostW.put (h : PostW E pp pb mb c w q vr S recs vs ps) {g cap n : Nat} {x : Value} (hv : vs = .slice (some ⟨g, 0, none⟩) ps.length cap) (hn : n < ps.length) : PostW E pp pb mb c (w.setCell ⟨g, n, none⟩ x) q vr S recs vs (ps.set n x) ∧ (∀ k, bagOwn (w.setCell ⟨g, n, none⟩ x) pb mb q vr S k → bagOwn w pb mb q vr S k) ∧ Chg (fun k => k = g) w (w.setCell ⟨g, n, none⟩ x) := by
  have hc : Chg (fun k => k = g) w (w.setCell ⟨g, n, none⟩ x) := Chg.same ((Same.refl _ _).setCell _)
  have hvg : vs.ownBlock = some g := by rw [hv]; rfl
  have dE : ∀ k, E k → ¬ k = g := fun k e x => (h.sd g hvg).1 (by rw [← x]; exact e)
  obtain ⟨vD, vN, vU, vW, s1, s2⟩ := h.set
  obtain ⟨C, b1, b2⟩ := h.blk
  obtain ⟨p1, p2⟩ := h.bag.chg hc (fun k e x => (h.sd g hvg).2 (by rw [← x]; exact e))
  have hr := h.row
  rw [hv] at hr
  have hr' := own_put (x := x) hr hn
  refine ⟨⟨⟨vD, vN, vU, vW, s1.chg hc (fun k e => dE k (s2 k e).1) (dE pp h.epp), s2⟩, h.glo.chg hc (fun k e => dE k (h.egl k e)), h.egl, h.gpp, h.epp, fun k e => Nat.lt_of_lt_of_le (h.lt k e) hc.size, ⟨C, hc.some_ b1 (dE pp h.epp), b2⟩, p1, ?_, fun k e x => h.eb k e (p2 k x), fun g e => ⟨(h.sd g e).1, fun x => (h.sd g e).2 (p2 g x)⟩⟩, p2, hc⟩
  rw [hv, List.length_set]
  exact hr'
theorem PostS.put (h : PostS E pp pb mb c w q vr S recs vs ps sb ch A vw s) {g cap n : Nat} {x : Value} (hv : vs = .slice (some ⟨g, 0, none⟩) ps.length cap) (hn : n < ps.length) : PostS E pp pb mb c (w.setCell ⟨g, n, none⟩ x) q vr S recs vs (ps.set n x) sb ch A vw s ∧ (∀ k, sOwn (w.setCell ⟨g, n, none⟩ x) pb mb A q vr S vw vs k → sOwn w pb mb A q vr S vw vs k) ∧ Chg (sOwn w pb mb A q vr S vw vs) w (w.setCell ⟨g, n, none⟩ x) := by
  obtain ⟨p1, p2, hc⟩ := h.post.put (x := x) hv hn
  have hvg : vs.ownBlock = some g := by rw [hv]; rfl
  refine ⟨⟨p1, h.ses.chg hc (fun k e x => (h.sa g hvg).1 (by rw [← x]; exact e)), own_chg h.wrow hc (fun k e x => (h.sa g hvg).2 (by rw [← x]; exact e)), h.ea, fun k e x => h.ab k e (p2 k x), fun g e => ⟨(h.wd g e).1, (h.wd g e).2.1, fun x => (h.wd g e).2.2 (p2 g x)⟩, h.sa⟩, fun k e => ?_, hc.mono (fun k _ e => .inr (by rw [e]; exact hvg))⟩
  rcases e with (e | e | e) | e
  · exact .inl (.inl e)
  · exact .inl (.inr (.inl (p2 k e)))
  · exact .inl (.inr (.inr e))
  · exact .inr e
end
end Go.Proofs.YtadcidbeealdpaaGreatDoor

/- Connections of a post: is one open? What comes on it. It is closed. -/
namespace Go.Proofs.YtadcidbeealdpaaGreatDoor
open Go.RowKit

section
variable {E B : Nat → Prop} {pp pb mb : Nat} {c : Cfg} {w w' : World} {q : Nat → Nat} {vr : Value} {S S' : PStore} {recs recs' : List UInt8} {vs : Value} {ps : List Value} {sb ch : Nat} {A : Nat → Prop} {vw : Value} {s s' : PSes}
set_option maxHeartbeats 400000 in
theorem isOver_any (sb : Nat) (b : Bool) (w : World) (h : w.cell? ⟨sb, 7, none⟩ = some (.bool b)) : Calls Tryz.prog 26 #[.pointer (some ⟨sb, 0, none⟩)] w fun e w' => e = .returned (.bool b) ∧ w = w' := by
  go_enter Tryz.func26, Tryz.ntmps26
  go_wp2_with fail
  go_ret
  exact ⟨rfl, rfl⟩
set_option maxHeartbeats 400000 in
set_option maxRecDepth 100000 in
theorem isOpen_any (h : PostW E pp pb mb c w q vr S recs vs ps) (n : Nat) (hn : n < ps.length) (_hl : ps.length ≤ 100) (p : Option Addr) (hp : ps[n] = .pointer p) :
    Calls Tryz.prog 14 #[.pointer (some ⟨pp, 0, none⟩), .int .i64 (n : Int)] w fun e w' => e = .returned (.bool p.isSome) ∧ w = w' := by
  have c10 := h.cell10
  obtain ⟨g, cap, cur, ev, hg, hcur⟩ := h.at hn
  have cn : w.cell? ⟨g, n, none⟩ = some (.pointer p) := by rw [Lib.cell_of_heap hg, hcur, hp]
  rw [ev] at c10
  have h1 : (n : Int) < (ps.length : Int) := by omega
  have h0 : (0 : Int) ≤ (n : Int) := by omega
  clear h ev hg hcur hp
  cases p with
  | none =>
    go_enter Tryz.func14, Tryz.ntmps14
    go_wp2_with fail
    go_ret
    exact ⟨rfl, rfl⟩
  | some a =>
    go_enter Tryz.func14, Tryz.ntmps14
    go_wp2_with fail
    go_ret
    exact ⟨rfl, rfl⟩
set_option maxHeartbeats 400000 in
set_option maxRecDepth 100000 in
theorem close_no (h : PostW E pp pb mb c w q vr S recs vs ps) (n : Nat) (hn : n < ps.length) (hl : ps.length ≤ 100) (hp : ps[n] = .pointer none) :
    Calls Tryz.prog 10 #[.pointer (some ⟨pp, 0, none⟩), .int .i64 (n : Int)] w fun e w' => e = .returned (.int .i64 4) ∧ w = w' := by
  have HO := Lib.hid (isOpen_any h n hn hl none hp)
  clear h hp
  go_enter Tryz.func10, Tryz.ntmps10
  go_wp2_with fail
  refine HO.out.mono ?_
  rintro e w' ⟨rfl, rfl⟩
  go_wp2_with fail
  go_ret
  exact ⟨rfl, rfl⟩
set_option maxHeartbeats 400000 in
set_option maxRecDepth 100000 in
theorem close_yes (h : PostW E pp pb mb c w q vr S recs vs ps) (n : Nat) (hn : n < ps.length) (hl : ps.length ≤ 100) (a : Addr) (hp : ps[n] = .pointer (some a)) :
    Calls Tryz.prog 10 #[.pointer (some ⟨pp, 0, none⟩), .int .i64 (n : Int)] w fun e w' => e = .returned (.int .i64 0) ∧ Chg (fun k => vs.ownBlock = some k) w w' := by
  have HO := Lib.hid (isOpen_any h n hn hl (some a) hp)
  have c10 := h.cell10
  obtain ⟨g, cap, cur, ev, hg, hcur⟩ := h.at hn
  have cn : w.cell? ⟨g, n, none⟩ = some (.pointer (some a)) := by rw [Lib.cell_of_heap hg, hcur, hp]
  have fn := Lib.frozen_of_heap hg n
  have h1 : (n : Int) < (ps.length : Int) := by omega
  rw [ev] at c10 ⊢
  clear h hp ev hg hcur
  go_enter Tryz.func10, Tryz.ntmps10
  go_wp2_with fail
  refine HO.out.mono ?_
  rintro e w' ⟨rfl, rfl⟩
  go_wp2_with fail
  go_ret
  exact ⟨rfl, (Chg.same ((Same.refl _ _).setCell _)).mono (fun k _ e => by rw [e]; rfl)⟩
set_option maxHeartbeats 400000 in
set_option maxRecDepth 100000 in
theorem forget_d (h : PostW E pp pb mb c w q vr S recs vs ps) (n : Nat) (hn : n < ps.length) (_hl : ps.length ≤ 100) (hp : ps[n] = .pointer (some ⟨sb, 0, none⟩)) (b : Bool) (ho : w.cell? ⟨sb, 7, none⟩ = some (.bool b)) (u : FrameMode) :
    CallsD Tryz.prog 15 #[.pointer (some ⟨pp, 0, none⟩), .int .i64 (n : Int)] u w fun e u' w' => u' = u ∧ e = .returned (.tuple #[]) ∧ ∃ g cap, vs = .slice (some ⟨g, 0, none⟩) ps.length cap ∧ w' = if b then w.setCell ⟨g, n, none⟩ (.pointer none) else w := by
  have HO := Lib.hid (isOver_any sb b w ho)
  have c10 := h.cell10
  obtain ⟨g, cap, cur, ev, hg, hcur⟩ := h.at hn
  have cn : w.cell? ⟨g, n, none⟩ = some (.pointer (some ⟨sb, 0, none⟩)) := by rw [Lib.cell_of_heap hg, hcur, hp]
  have fn := Lib.frozen_of_heap hg n
  have h1 : (n : Int) < (ps.length : Int) := by omega
  rw [ev] at c10
  have HEV := Lib.hid ev
  clear h hp ev hg hcur
  go_enter_d Tryz.func15, Tryz.ntmps15
  go_wp2_with fail
  refine HO.out.mono ?_
  rintro e w' ⟨rfl, rfl⟩
  cases b with
  | true =>
    go_wp2_with fail
    go_end0
    exact ⟨rfl, g, ⟨cap, HEV.out⟩, rfl⟩
  | false =>
    go_wp2_with fail
    go_end0
    exact ⟨rfl, ⟨g, cap, HEV.out⟩, rfl⟩
set_option maxHeartbeats 400000 in
set_option maxRecDepth 100000 in
theorem receive_no (h : PostW E pp pb mb c w q vr S recs vs ps) (n : Nat) (hn : n < ps.length) (hl : ps.length ≤ 100) (hp : ps[n] = .pointer none) (piece : ByteArray) :
    Calls Tryz.prog 8 #[.pointer (some ⟨pp, 0, none⟩), .int .i64 (n : Int), .string piece] w fun e w' => e = .returned (.tuple #[.string ⟨#[]⟩, .int .i64 4]) ∧ w = w' := by
  have HO := Lib.hid (isOpen_any h n hn hl none hp)
  clear h hp
  go_enter_defers Tryz.func8, Tryz.ntmps8
  go_wp2_with fail
  refine HO.out.mono ?_
  rintro e w' ⟨rfl, rfl⟩
  go_wp2_with fail
  exact ⟨.tuple #[.string ⟨#[]⟩, .int .i64 4], by simp [results, Tryz.results8, go_sem], rfl, rfl⟩
/-- behind a piece -/
def RecvPost (E : Nat → Prop) (pp pb mb : Nat) (c : Cfg) (w : World) (q : Nat → Nat) (vr : Value) (S : PStore) (vs : Value) (ps : List Value) (sb ch : Nat) (A : Nat → Prop) (vw : Value) (n : Nat) (s' : PSes) (S' : PStore) (recs' : List UInt8) (w' : World) : Prop :=
  ∃ A' q' vr' vw', PostS E pp pb mb c w' q' vr' S' recs' vs (if s'.over then ps.set n (.pointer none) else ps) sb ch A' vw' s' ∧ (∀ k, sOwn w' pb mb A' q' vr' S' vw' vs k → sOwn w pb mb A q vr S vw vs k ∨ w.heap.size ≤ k) ∧ Chg (sOwn w pb mb A q vr S vw vs) w w'
set_option maxHeartbeats 400000 in
set_option maxRecDepth 100000 in
theorem receive_any (h : PostS E pp pb mb c w q vr S recs vs ps sb ch A vw s) (hi : PInv c s S recs) (n : Nat) (hn : n < ps.length) (hl : ps.length ≤ 100) (hp : ps[n] = .pointer (some ⟨sb, 0, none⟩)) (piece : List UInt8) (hpl : piece.length ≤ 1048576) :
    Calls Tryz.prog 8 #[.pointer (some ⟨pp, 0, none⟩), .int .i64 (n : Int), .string (bs piece)] w fun e w' => e = .returned (.tuple #[.string (bs (hearS c (s, S, recs, []) piece).2.2.2), .int .i64 0]) ∧ RecvPost E pp pb mb c w q vr S vs ps sb ch A vw n (hearS c (s, S, recs, []) piece).1 (hearS c (s, S, recs, []) piece).2.1 (hearS c (s, S, recs, []) piece).2.2.1 w' := by
  have HO := Lib.hid (isOpen_any h.post n hn hl _ hp)
  have c10 := h.post.cell10
  obtain ⟨g, cap, cur, ev, hg, hcur⟩ := h.post.at hn
  have cn : w.cell? ⟨g, n, none⟩ = some (.pointer (some ⟨sb, 0, none⟩)) := by rw [Lib.cell_of_heap hg, hcur, hp]
  have h1 : (n : Int) < (ps.length : Int) := by omega
  rw [ev] at c10
  have HH := Lib.hid (hear_any h.rest hi piece hpl)
  have HS := Lib.hid h
  have HPN := Lib.hid hp
  obtain ⟨x, ex⟩ : ∃ x, hearS c (s, S, recs, []) piece = x := ⟨_, rfl⟩
  rw [ex] at HH ⊢
  clear h hp ev hg hcur hi ex
  go_enter_defers Tryz.func8, Tryz.ntmps8
  go_wp2_with fail
  refine HO.out.mono ?_
  rintro e w' ⟨rfl, rfl⟩
  go_wp2_with fail
  refine HH.out.mono ?_
  rintro e w1 ⟨rfl, hP⟩
  obtain ⟨A', q', vr', vw', k1, k2, k3⟩ := HS.out.heard hP
  have HK1 := Lib.hid k1
  have HK2 := Lib.hid k2
  have HK3 := Lib.hid k3
  clear k1 k2 k3 hP
  go_wp2_with fail
  obtain ⟨vx, hA, _⟩ := HK1.out.ses.ex
  have hc7 : w1.cell? ⟨sb, 7, none⟩ = some (.bool x.1.over) := hA.cell 7
  refine leaves_cons (f := 15) (args := #[.pointer (some ⟨pp, 0, none⟩), .int .i64 (n : Int)]) (by simp) (by simp [go_sem]) ?_
  refine (forget_d HK1.out.post n hn hl HPN.out x.1.over hc7 .returning).mono ?_
  rintro e u' w2 ⟨rfl, rfl, g', cap', hv, rfl⟩
  refine ⟨.tuple #[.string (bs x.2.2.2), .int .i64 0], by simp [results, Tryz.results8, go_sem], rfl, ?_⟩
  unfold RecvPost
  cases x.1.over with
  | false => exact ⟨A', q', vr', vw', HK1.out, HK2.out, HK3.out⟩
  | true =>
    obtain ⟨p1, p2, p3⟩ := HK1.out.put (x := .pointer none) hv hn
    exact ⟨A', q', vr', vw', p1, fun k e => HK2.out k (p2 k e), HK3.out.trans p3 (fun k hk e => (HK2.out k e).elim id (fun e => by omega))⟩
end
end Go.Proofs.YtadcidbeealdpaaGreatDoor
