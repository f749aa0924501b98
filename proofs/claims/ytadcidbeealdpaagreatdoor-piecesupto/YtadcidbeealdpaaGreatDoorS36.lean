import Derived.Test.YtadcidbeealdpaaGreatDoorS35

/- A post that greets, and takes one mail in. -/
namespace Go.Proofs.YtadcidbeealdpaaGreatDoor
open Go.RowKit

def begX : PSes × PStore × List UInt8 × List UInt8 := hearS keepC (newSes keepC 1, ⟨[], 0⟩, [], []) beganL
/-- a game: a post with one connection, that has one mail; nothing of it but the package-level variables was there -/
def BegunPost (w : World) (e : Ending) (w' : World) : Prop :=
  ∃ gb E pp pb mb q vr vs p0, e = .returned (.pointer (some ⟨gb, 0, none⟩)) ∧ w'.cell? ⟨gb, 0, none⟩ = some (.pointer (some ⟨pp, 0, none⟩)) ∧ E gb ∧ gb ≠ pp ∧ PostW E pp pb mb keepC w' q vr begX.2.1 begX.2.2.1 vs [p0] ∧ (∀ k, E k → glob k ∨ w.heap.size ≤ k) ∧ (∀ k, bagOwn w' pb mb q vr begX.2.1 k ∨ vs.ownBlock = some k → w.heap.size ≤ k) ∧ Below w.heap.size w w'
theorem keepC_sz : CfgSz keepC := by
  have h := may_small keepC_may
  unfold CfgSz
  exact ⟨by have := h.host; unfold maxLen; omega, by have := h.doms; omega, fun x hx => by have := h.domz x hx; unfold maxLen; omega, by have := h.nets; omega, by have := h.users; omega, fun x hx => by have := h.userz x hx; unfold maxLen; omega, by have := h.waits; omega⟩
theorem new_inv (addr : Int) {S : PStore} {recs : List UInt8} (h1 : S.time ≤ 1000000000) (h2 : S.items.length ≤ recs.length) (h3 : recs.length ≤ 1048576) : PInv keepC (newSes keepC addr) S recs := ⟨(fun t e => by cases e), h1, h2, h3, Nat.zero_le _⟩
theorem begX_ok : begX.2.1.Ok := by
  unfold begX
  rw [began_store]
  exact PStore.Ok.plus (PStore.Ok.nil 0) rfl (by simp [MailSz, keptM]) (by decide) (by decide)
theorem begX_inv : PInv keepC begX.1 begX.2.1 begX.2.2.1 := by
  unfold begX
  exact (hearS_inv keepC_may beganL (newSes keepC 1, ⟨[], 0⟩, [], []) (new_inv 1 (by decide) (by decide) (by decide))).1
theorem begX_len : begX.2.1.items.length = 1 := by unfold begX; rw [began_store]; rfl
theorem begX_queue : queueL begX.2.1.items = [keptM] := by unfold begX; rw [began_store]; exact kept_queue

theorem PostW.more {E : Nat → Prop} {pp pb mb : Nat} {c : Cfg} {w : World} {q : Nat → Nat} {vr : Value} {S : PStore} {recs : List UInt8} {vs : Value} {ps : List Value} (h : PostW E pp pb mb c w q vr S recs vs ps) {gb : Nat} (hl : gb < w.heap.size) (h1 : ¬ bagOwn w pb mb q vr S gb) (h2 : vs.ownBlock ≠ some gb) : PostW (fun k => E k ∨ k = gb) pp pb mb c w q vr S recs vs ps := by
  obtain ⟨vD, vN, vU, vW, s1, s2⟩ := h.set
  exact ⟨⟨vD, vN, vU, vW, s1, fun k e => ⟨.inl (s2 k e).1, (s2 k e).2⟩⟩, h.glo, fun k e => .inl (h.egl k e), h.gpp, .inl h.epp, fun k e => e.elim (h.lt k) (fun e => by rw [e]; exact hl), h.blk, h.bag, h.row, fun k e x => e.elim (fun e => h.eb k e x) (fun e => h1 (by rw [← e]; exact x)), fun g e => ⟨fun x => x.elim (h.sd g e).1 (fun x => h2 (by rw [← x]; exact e)), (h.sd g e).2⟩⟩
set_option maxHeartbeats 1000000 in
set_option maxRecDepth 100000 in
theorem begun_any (vD vN vU vW : Value) (w : World) (h : CfgAt w keepC vD vN vU vW) (hg : GlobAt w) :
    Calls Tryz.prog 5 #[.agg #[.string keepC.host, vD, vN, vU, .int .i64 keepC.most, .int .i64 keepC.size, vW, .int .i64 keepC.life, .int .i64 keepC.room]] w (BegunPost w) := by
  have X0 := heap_alloc_new w (.cells #[.string keepC.host, vD, vN, vU, .int .i64 keepC.most, .int .i64 keepC.size, vW, .int .i64 keepC.life, .int .i64 keepC.room] 27)
  have b0 : Below w.heap.size w (w.alloc (.cells #[.string keepC.host, vD, vN, vU, .int .i64 keepC.most, .int .i64 keepC.size, vW, .int .i64 keepC.life, .int .i64 keepC.room] 27)) := (Below.refl _ _).alloc (Nat.le_refl _) _
  obtain ⟨W0, hW0⟩ : ∃ W : World, w.alloc (.cells #[.string keepC.host, vD, vN, vU, .int .i64 keepC.most, .int .i64 keepC.size, vW, .int .i64 keepC.life, .int .i64 keepC.room] 27) = W := ⟨_, rfl⟩
  rw [hW0] at X0 b0
  have HO := Lib.hid (open_new keepC vD vN vU vW W0 (h.below b0) keepC_sz keepC_may (hg.below b0))
  have HX0 := Lib.hid X0
  have HB0 := Lib.hid b0
  have HW0 := Lib.hid hW0
  have hs0 : w.heap.size < W0.heap.size := heap_some_lt X0
  clear h X0 b0 hW0
  go_enter Tryz.func5, Tryz.ntmps5
  go_wp2_with fail
  rw [HW0.out]
  refine HO.out.mono ?_
  rintro e w1 ⟨E, pp, pb, mb, q, vr, rfl, hP, hE, hB, hb1⟩
  have X1 := below_some hb1 HX0.out
  have y0 : w1.cell? ⟨w.heap.size, 0, none⟩ = some (.string keepC.host) := by rw [Lib.cell_of_heap X1]; rfl
  have y1 : w1.cell? ⟨w.heap.size, 1, none⟩ = some (vD) := by rw [Lib.cell_of_heap X1]; rfl
  have y2 : w1.cell? ⟨w.heap.size, 2, none⟩ = some (vN) := by rw [Lib.cell_of_heap X1]; rfl
  have y3 : w1.cell? ⟨w.heap.size, 3, none⟩ = some (vU) := by rw [Lib.cell_of_heap X1]; rfl
  have y4 : w1.cell? ⟨w.heap.size, 4, none⟩ = some (.int .i64 keepC.most) := by rw [Lib.cell_of_heap X1]; rfl
  have y5 : w1.cell? ⟨w.heap.size, 5, none⟩ = some (.int .i64 keepC.size) := by rw [Lib.cell_of_heap X1]; rfl
  have y6 : w1.cell? ⟨w.heap.size, 6, none⟩ = some (vW) := by rw [Lib.cell_of_heap X1]; rfl
  have y7 : w1.cell? ⟨w.heap.size, 7, none⟩ = some (.int .i64 keepC.life) := by rw [Lib.cell_of_heap X1]; rfl
  have y8 : w1.cell? ⟨w.heap.size, 8, none⟩ = some (.int .i64 keepC.room) := by rw [Lib.cell_of_heap X1]; rfl
  have HP := Lib.hid hP
  have HE := Lib.hid hE
  have HB := Lib.hid hB
  have HB1 := Lib.hid hb1
  clear hP hE hB hb1 X1
  go_wp2_with fail
  have x2 := heap_alloc_new w1 (.cells #[.pointer (some ⟨pp, 0, none⟩), .string keepC.host, vD, vN, vU, .int .i64 keepC.most, .int .i64 keepC.size, vW, .int .i64 keepC.life, .int .i64 keepC.room, .slice none 0 0, .slice none 0 0, .int .i64 0, .bool false] 37)
  have b2 : Below w1.heap.size w1 (w1.alloc (.cells #[.pointer (some ⟨pp, 0, none⟩), .string keepC.host, vD, vN, vU, .int .i64 keepC.most, .int .i64 keepC.size, vW, .int .i64 keepC.life, .int .i64 keepC.room, .slice none 0 0, .slice none 0 0, .int .i64 0, .bool false] 37)) := (Below.refl _ _).alloc (Nat.le_refl _) _
  have z2 : (w1.alloc (.cells #[.pointer (some ⟨pp, 0, none⟩), .string keepC.host, vD, vN, vU, .int .i64 keepC.most, .int .i64 keepC.size, vW, .int .i64 keepC.life, .int .i64 keepC.room, .slice none 0 0, .slice none 0 0, .int .i64 0, .bool false] 37)).heap.size = w1.heap.size + 1 := by simp
  obtain ⟨C2, hC2⟩ : ∃ C : Array Value, #[.pointer (some ⟨pp, 0, none⟩), .string keepC.host, vD, vN, vU, .int .i64 keepC.most, .int .i64 keepC.size, vW, .int .i64 keepC.life, .int .i64 keepC.room, .slice none 0 0, .slice none 0 0, .int .i64 0, .bool false] = C := ⟨_, rfl⟩
  rw [hC2] at x2 b2 z2 ⊢
  obtain ⟨W2, hW2⟩ : ∃ W : World, w1.alloc (.cells C2 37) = W := ⟨_, rfl⟩
  rw [hW2] at x2 b2 z2 ⊢
  clear hW2
  obtain ⟨P2, o2⟩ := HP.out.below b2
  have hbo2 : ∀ k, bagOwn W2 pb mb q vr ⟨[], 0⟩ k → W0.heap.size ≤ k ∧ k < w1.heap.size := fun k e => ⟨HB.out k (o2 k e), bagOwn.lt HP.out.bag (o2 k e)⟩
  have HC3 := connect_any P2 1 (by decide) (by decide) (by decide)
  rw [greet_keep, show bs [50, 50, 48, 32, 109, 120, 46, 111, 114, 103, 13, 10] = ⟨#[50, 50, 48, 32, 109, 120, 46, 111, 114, 103, 13, 10]⟩ from rfl] at HC3
  refine HC3.mono ?_
  rintro e w3 ⟨rfl, sb, ch, vs, hS3, hsb, hch, hvs, hbo, hK3⟩
  have how : ∀ k, sOwn w3 pb mb (fun k => k = sb ∨ k = ch) q vr ⟨[], 0⟩ (.slice none 0 0) vs k → W0.heap.size ≤ k ∧ k ≠ w1.heap.size := fun k e => by
    have hz := HB1.out.size
    rcases e with (e | e | e) | e
    · rcases e with e | e <;> omega
    · have := hbo2 k (hbo k e); omega
    · cases e
    · rcases hvs k e with e | e
      · cases e
      · omega
  have hpne : pp ≠ w1.heap.size := by have := HP.out.lt pp HP.out.epp; omega
  have x3 := hK3.some_ x2 (fun e => e.elim (fun e => hpne e.symm) (fun e => by cases e))
  have B3 : Below w.heap.size w w3 := ((HB0.out.trans (HB1.out.mono HB0.out.size)).trans (b2.mono (by have := HB1.out.size; omega))).trans (hK3.toBelow (fun k e => e.elim (fun e => by
    rw [e]
    rcases HE.out pp HP.out.epp with e | e
    · exact absurd e HP.out.gpp
    · omega) (fun e => by cases e)) (by have := HB1.out.size; omega))
  have HR := receive_any hS3 (new_inv 1 (by decide) (by decide) (by decide)) 0 (by simp) (by simp) rfl beganL (by decide)
  rw [show hearS keepC (newSes keepC 1, ⟨[], 0⟩, [], []) beganL = begX from rfl, show begX.2.2.2 = saidL from began_said, show bs saidL = ⟨#[50, 53, 48, 32, 109, 120, 46, 111, 114, 103, 13, 10, 50, 53, 48, 32, 111, 107, 13, 10, 50, 53, 48, 32, 111, 107, 13, 10, 51, 53, 52, 32, 103, 111, 13, 10, 50, 53, 48, 32, 107, 101, 112, 116, 32, 49, 13, 10]⟩ from rfl] at HR
  have HRR := Lib.hid HR
  have HX3 := Lib.hid x3
  have HB3 := Lib.hid B3
  have HOW := Lib.hid how
  clear HR x3 B3 how hK3 hbo hvs hS3 HC3 hbo2 P2 o2 x2 b2
  go_wp2_with fail
  refine HRR.out.mono ?_
  rintro e w4 ⟨rfl, A4, q4, vr4, vw4, hS4, hO4, hK4⟩
  rw [show begX.1.over = false from began_over] at hS4
  simp only [Bool.false_eq_true, if_false] at hS4
  have x4 := hK4.some_ HX3.out (fun e => (HOW.out _ e).2 rfl)
  have B4 : Below w.heap.size w w4 := HB3.out.trans (hK4.toBelow (fun k e => by have := (HOW.out k e).1; omega) HB3.out.size)
  have hz3 : w1.heap.size < w3.heap.size := heap_some_lt HX3.out
  have how4 : ∀ k, sOwn w4 pb mb A4 q4 vr4 begX.2.1 vw4 vs k → w.heap.size ≤ k ∧ k ≠ w1.heap.size := fun k e => by
    have := HB3.out.size
    rcases hO4 k e with e | e
    · have := HOW.out k e; omega
    · omega
  have HQ := Lib.hid (queue_row hS4.post begX_ok (by rw [begX_len]; decide))
  have HX4 := Lib.hid x4
  have HB4 := Lib.hid B4
  have HOW4 := Lib.hid how4
  have HS4 := Lib.hid hS4
  clear x4 B4 how4 hS4 hO4 hK4 HRR
  go_wp2_with fail
  refine HQ.out.mono ?_
  rintro e w5 ⟨v, rows, rfl, hr, he, hb5⟩
  rw [begX_queue] at he
  obtain ⟨⟨m0, g2⟩, rfl⟩ : ∃ x, rows = [x] := by
    cases rows with
    | nil => cases he
    | cons x r => cases r with
      | nil => exact ⟨x, rfl⟩
      | cons y r => simp at he
  have em : m0 = keptM := by simpa using he
  subst em
  obtain ⟨g, cap, cur, ev, hcur⟩ : ∃ g cap cur, v = .slice (some ⟨g, 0, none⟩) 1 cap ∧ w5.heap[g]? = some (.cells cur 54 (0, 0)) ∧ cur.toList.take 5 = (mailCells keptM (rowVal (keptM, g2)).2).toList := by
    rcases hr.row.2 with ⟨_, h0⟩ | ⟨g, cp, cur, e, _, hg, _, _, _, htk⟩
    · cases h0
    · exact ⟨g, cp, cur, e, hg, by simpa [mailRow, show (rowVal (keptM, g2)).1 = keptM from rfl] using htk⟩
  have hce : ∀ j, j < 5 → w5.cell? ⟨g, j, none⟩ = (mailCells keptM (rowVal (keptM, g2)).2).toList[j]? := fun j hj => by
    rw [Lib.cell_of_heap hcur.1, ← Array.getElem?_toList, ← List.getElem?_take_of_lt hj, hcur.2]
  have t0 : w5.cell? ⟨g, 0, none⟩ = some (.int .i64 1) := hce 0 (by decide)
  have t1 : w5.cell? ⟨g, 1, none⟩ = some (.int .i64 0) := hce 1 (by decide)
  have t2 : w5.cell? ⟨g, 2, none⟩ = some (.string ⟨#[]⟩) := hce 2 (by decide)
  have t3 : w5.cell? ⟨g, 3, none⟩ = some (.slice (some ⟨g2, 0, none⟩) 1 1) := hce 3 (by decide)
  have t4 : w5.cell? ⟨g, 4, none⟩ = some (.string ⟨#[]⟩) := hce 4 (by decide)
  subst ev
  have x5 := below_some hb5 HX4.out
  have HX5 := Lib.hid x5
  have x6 : ∀ o : Obj, (w5.alloc o).heap[w1.heap.size]? = some (.cells C2 37 (0, 0)) := fun o => below_some ((Below.refl _ w5).alloc (Nat.le_refl _) o) x5
  have u10 : ∀ o : Obj, (w5.alloc o).cell? ⟨w1.heap.size, 10, none⟩ = some (.slice none 0 0) := fun o => by rw [Lib.cell_of_heap (x6 o), ← hC2]; rfl
  have x7 : ∀ (V : Value) (o1 o2 o3 : Obj), ((((w5.alloc o1).setCell ⟨w1.heap.size, 10, none⟩ V).alloc o2).alloc o3).heap[w1.heap.size]? = some (.cells (C2.setIfInBounds 10 V) 37 (0, 0)) := fun V o1 o2 o3 => below_some ((Below.refl _ _).alloc (Nat.le_refl _) o3) (below_some ((Below.refl _ _).alloc (Nat.le_refl _) o2) (heap_setCell_same _ w1.heap.size 10 _ _ V (x6 o1)))
  have u11 : ∀ (V : Value) (o1 o2 o3 : Obj), ((((w5.alloc o1).setCell ⟨w1.heap.size, 10, none⟩ V).alloc o2).alloc o3).cell? ⟨w1.heap.size, 11, none⟩ = some (.slice none 0 0) := fun V o1 o2 o3 => by rw [Lib.cell_of_heap (x7 V o1 o2 o3), ← hC2]; rfl
  have v11 : ∀ (V : Value) (o1 o2 o3 : Obj), ((((w5.alloc o1).setCell ⟨w1.heap.size, 10, none⟩ V).alloc o2).alloc o3).frozen? ⟨w1.heap.size, 11, none⟩ = false := fun V o1 o2 o3 => Lib.frozen_of_heap (x7 V o1 o2 o3) 11
  have HX7 := Lib.hid x7
  have v10 : ∀ o : Obj, (w5.alloc o).frozen? ⟨w1.heap.size, 10, none⟩ = false := fun o => Lib.frozen_of_heap (x6 o) 10
  have HB5 := Lib.hid hb5
  clear hr he hcur hce x5 hb5 HQ x6 x7
  go_wp2_with fail
  obtain ⟨o1, ho1⟩ : ∃ o : Obj, .cells #[.int .i64 1, .bool false, .bool false, .bool false, .slice none 0 0] 56 = o := ⟨_, rfl⟩
  obtain ⟨o2, ho2⟩ : ∃ o : Obj, .cells #[.string ⟨#[98, 64, 97, 46, 111, 114, 103]⟩] 9 = o := ⟨_, rfl⟩
  obtain ⟨o3, ho3⟩ : ∃ o : Obj, .cells #[.int .i64 1, .int .i64 0, .string ⟨#[]⟩, .slice (some ⟨w5.heap.size + 1, 0, none⟩) 1 1, .string ⟨#[]⟩] 54 = o := ⟨_, rfl⟩
  rw [ho1, ho2, ho3]
  go_ret
  obtain ⟨V1, hV1⟩ : ∃ V : Value, .slice (some ⟨w5.heap.size, 0, none⟩) 1 1 = V := ⟨_, rfl⟩
  obtain ⟨V2, hV2⟩ : ∃ V : Value, .slice (some ⟨w5.heap.size + 1 + 1, 0, none⟩) 1 1 = V := ⟨_, rfl⟩
  rw [hV1, hV2]
  have x8 := heap_setCell_same _ w1.heap.size 11 _ _ V2 (HX7.out V1 o1 o2 o3)
  have hc8 : Chg (fun k => k = w1.heap.size) w5 (((((w5.alloc o1).setCell ⟨w1.heap.size, 10, none⟩ V1).alloc o2).alloc o3).setCell ⟨w1.heap.size, 11, none⟩ V2) := ((((Chg.below ((Below.refl _ w5).alloc (Nat.le_refl _) o1) : Chg (fun k => k = w1.heap.size) w5 (w5.alloc o1)).trans (Chg.same ((Same.refl _ _).setCell _)) (fun k _ e => e)).trans (Chg.below ((Below.refl _ _).alloc (Nat.le_refl _) o2) : Chg (fun _ => False) _ _) (fun k _ e => e.elim)).trans (Chg.below ((Below.refl _ _).alloc (Nat.le_refl _) o3) : Chg (fun _ => False) _ _) (fun k _ e => e.elim)).trans (Chg.same ((Same.refl _ _).setCell _)) (fun k _ e => e)
  obtain ⟨W8, hW8⟩ : ∃ W : World, ((((w5.alloc o1).setCell ⟨w1.heap.size, 10, none⟩ V1).alloc o2).alloc o3).setCell ⟨w1.heap.size, 11, none⟩ V2 = W := ⟨_, rfl⟩
  rw [hW8] at x8 hc8 ⊢
  obtain ⟨p5, k5⟩ := HS4.out.post.below HB5.out
  have hz1 : w.heap.size ≤ w1.heap.size := by have := HB0.out.size; have := HB1.out.size; omega
  obtain ⟨p8, k8⟩ := p5.chg hc8 (fun k e x => by have := HP.out.lt k e; omega) (fun k e x => (HOW4.out k (.inl (.inr (.inl (k5 k e))))).2 x) (fun k e x => (HOW4.out k (.inr e)).2 x)
  refine ⟨w1.heap.size, fun k => E k ∨ k = w1.heap.size, pp, pb, mb, q4, vr4, vs, _, rfl, ?_, .inr rfl, Ne.symm hpne, p8.more (heap_some_lt x8) (fun e => (HOW4.out _ (.inl (.inr (.inl (k5 _ (k8 _ e)))))).2 rfl) (fun e => (HOW4.out _ (.inr e)).2 rfl), fun k e => ?_, fun k e => ?_, ?_⟩
  · rw [Lib.cell_of_heap x8, ← hC2]
    rfl
  · rcases e with e | e
    · rcases HE.out k e with e | e
      · exact .inl e
      · exact .inr (by omega)
    · exact .inr (by omega)
  · rcases e with e | e
    · exact (HOW4.out k (.inl (.inr (.inl (k5 k (k8 k e)))))).1
    · exact (HOW4.out k (.inr e)).1
  · exact (HB4.out.trans (HB5.out.mono HB4.out.size)).trans (hc8.toBelow (fun k e => by omega) (by have := HB4.out.size; have := HB5.out.size; omega))
end Go.Proofs.YtadcidbeealdpaaGreatDoor

/- A game: a post of which one connection is worked on. -/
namespace Go.Proofs.YtadcidbeealdpaaGreatDoor
open Go.RowKit

theorem PostS.eo {E : Nat → Prop} {pp pb mb : Nat} {c : Cfg} {w : World} {q : Nat → Nat} {vr : Value} {S : PStore} {recs : List UInt8} {vs : Value} {ps : List Value} {sb ch : Nat} {A : Nat → Prop} {vw : Value} {s : PSes} (h : PostS E pp pb mb c w q vr S recs vs ps sb ch A vw s) {k : Nat} (e : E k) : ¬ sOwn w pb mb A q vr S vw vs k := fun x => by
  rcases x with (x | x | x) | x
  · exact h.ea k e x
  · exact h.post.eb k e x
  · exact (h.wd k x).1 e
  · exact (h.post.sd k x).1 e
/-- the pointer to a connection's session: nil where it is over -/
def conP (over : Bool) (sb : Nat) : Value := if over then .pointer none else .pointer (some ⟨sb, 0, none⟩)
/-- E: what stays; own: what turns -/
def GP (E : Nat → Prop) (gb pp : Nat) (w : World) (x : PSes × PStore × List UInt8) (own : Nat → Prop) : Prop :=
  ∃ pb mb q vr vs p0 sb ch A vw, PostS E pp pb mb keepC w q vr x.2.1 x.2.2 vs [p0, conP x.1.over sb] sb ch A vw x.1 ∧ PInv keepC x.1 x.2.1 x.2.2 ∧ (∀ k, sOwn w pb mb A q vr x.2.1 vw vs k → own k) ∧ (∀ k, own k → k < w.heap.size ∧ ¬ E k) ∧ E gb ∧ w.cell? ⟨gb, 0, none⟩ = some (.pointer (some ⟨pp, 0, none⟩))
section
variable {E B own : Nat → Prop} {gb pp : Nat} {w w' : World} {x : PSes × PStore × List UInt8}
theorem cell_chg (hc : Chg B w w') {g : Nat} (hl : g < w.heap.size) (hB : ¬ B g) (j : Nat) : w'.cell? ⟨g, j, none⟩ = w.cell? ⟨g, j, none⟩ := World.cell?_of_block (hc.block g hl hB)
theorem GP.cell (h : GP E gb pp w x own) : w.cell? ⟨gb, 0, none⟩ = some (.pointer (some ⟨pp, 0, none⟩)) := by
  obtain ⟨pb, mb, q, vr, vs, p0, sb, ch, A, vw, h1, h2, h3, h4, h5, h6⟩ := h
  exact h6
theorem GP.elt (h : GP E gb pp w x own) {k : Nat} (e : E k) : k < w.heap.size := by
  obtain ⟨pb, mb, q, vr, vs, p0, sb, ch, A, vw, h1, h2, h3, h4, h5, h6⟩ := h
  exact h1.post.lt k e
theorem GP.olt (h : GP E gb pp w x own) {k : Nat} (e : own k) : k < w.heap.size := by
  obtain ⟨pb, mb, q, vr, vs, p0, sb, ch, A, vw, h1, h2, h3, h4, h5, h6⟩ := h
  exact (h4 k e).1
theorem GP.chg (h : GP E gb pp w x own) (hc : Chg B w w') (hE : ∀ k, E k → ¬ B k) (hO : ∀ k, own k → ¬ B k) : GP E gb pp w' x own := by
  obtain ⟨pb, mb, q, vr, vs, p0, sb, ch, A, vw, h1, h2, h3, h4, h5, h6⟩ := h
  obtain ⟨p1, p2⟩ := h1.chg hc hE (fun k e => hO k (h3 k e))
  exact ⟨pb, mb, q, vr, vs, p0, sb, ch, A, vw, p1, h2, fun k e => h3 k (p2 k e), fun k e => ⟨Nat.lt_of_lt_of_le (h4 k e).1 hc.size, (h4 k e).2⟩, h5, (cell_chg hc (h1.post.lt gb h5) (hE gb h5) 0).trans h6⟩
theorem GP.below (h : GP E gb pp w x own) (hb : Below w.heap.size w w') : GP E gb pp w' x own := h.chg (Chg.below hb : Chg (fun _ => False) w w') (fun _ _ e => e) (fun _ _ e => e)
theorem GP.kept (h : GP E gb pp w x own) : Calls Tryz.prog 9 #[.pointer (some ⟨pp, 0, none⟩)] w fun e w' => e = .returned (.tuple #[.string (bs x.2.2), .int .i64 0]) ∧ w = w' := by
  obtain ⟨pb, mb, q, vr, vs, p0, sb, ch, A, vw, h1, h2, h3, h4, h5, h6⟩ := h
  exact kept_row h1.post
def codeOf (over : Bool) : Int := if over then 4 else 0
theorem GP.close (h : GP E gb pp w x own) : Calls Tryz.prog 10 #[.pointer (some ⟨pp, 0, none⟩), .int .i64 1] w fun e w' => e = .returned (.int .i64 (codeOf x.1.over)) ∧ Chg own w w' := by
  obtain ⟨pb, mb, q, vr, vs, p0, sb, ch, A, vw, h1, h2, h3, h4, h5, h6⟩ := h
  cases ho : x.1.over with
  | true =>
    rw [ho] at h1
    refine (close_no h1.post 1 (by simp) (by simp) rfl).mono ?_
    rintro e w1 ⟨rfl, rfl⟩
    exact ⟨rfl, Chg.refl _ _⟩
  | false =>
    rw [ho] at h1
    refine (close_yes h1.post 1 (by simp) (by simp) ⟨sb, 0, none⟩ rfl).mono ?_
    rintro e w1 ⟨rfl, hc⟩
    exact ⟨rfl, hc.mono (fun k _ e => h3 k (.inr e))⟩
theorem GP.recv (h : GP E gb pp w x own) (piece : List UInt8) (hpl : piece.length ≤ 1048576) :
    Calls Tryz.prog 8 #[.pointer (some ⟨pp, 0, none⟩), .int .i64 1, .string (bs piece)] w fun e w' => e = .returned (.tuple #[.string (bs (hearS keepC (x.1, x.2.1, x.2.2, []) piece).2.2.2), .int .i64 (codeOf x.1.over)]) ∧ ∃ own', GP E gb pp w' ((hearS keepC (x.1, x.2.1, x.2.2, []) piece).1, (hearS keepC (x.1, x.2.1, x.2.2, []) piece).2.1, (hearS keepC (x.1, x.2.1, x.2.2, []) piece).2.2.1) own' ∧ (∀ k, own' k → own k ∨ w.heap.size ≤ k) ∧ Chg own w w' := by
  have h0 := h
  obtain ⟨pb, mb, q, vr, vs, p0, sb, ch, A, vw, h1, h2, h3, h4, h5, h6⟩ := h
  cases ho : x.1.over with
  | true =>
    rw [hearS_over (x := (x.1, x.2.1, x.2.2, [])) ho]
    rw [ho] at h1
    refine (receive_no h1.post 1 (by simp) (by simp) rfl (bs piece)).mono ?_
    rintro e w1 ⟨rfl, rfl⟩
    exact ⟨rfl, own, h0, fun k e => .inl e, Chg.refl _ _⟩
  | false =>
    rw [ho] at h1
    have hI := (hearS_inv keepC_may piece (x.1, x.2.1, x.2.2, []) h2).1
    refine (receive_any h1 h2 1 (by simp) (by simp) rfl piece hpl).mono ?_
    rintro e w1 ⟨rfl, A', q', vr', vw', k1, k2, k3⟩
    obtain ⟨y, ey⟩ : ∃ y, hearS keepC (x.1, x.2.1, x.2.2, []) piece = y := ⟨_, rfl⟩
    rw [ey] at k1 k2 hI ⊢
    have K : Chg own w w1 := k3.mono (fun k _ e => h3 k e)
    refine ⟨rfl, sOwn w1 pb mb A' q' vr' y.2.1 vw' vs, ⟨pb, mb, q', vr', vs, p0, sb, ch, A', vw', ?_, hI, fun k e => e, fun k e => ⟨k1.olt e, fun y => k1.eo y e⟩, h5, (cell_chg K (h1.post.lt gb h5) (fun e => (h4 gb e).2 h5) 0).trans h6⟩, fun k e => (k2 k e).imp (h3 k) id, K⟩
    cases hy : y.1.over with
    | true => rw [hy] at k1; exact k1
    | false => rw [hy] at k1; exact k1
/-- a connection begins -/
theorem GP.start {pb mb : Nat} {q : Nat → Nat} {vr vs p0 : Value} {s0 : PSes} {S : PStore} {recs : List UInt8} (hI : PInv keepC s0 S recs) (h : PostW E pp pb mb keepC w q vr S recs vs [p0]) (hg : E gb) (hne : gb ≠ pp) (hc : w.cell? ⟨gb, 0, none⟩ = some (.pointer (some ⟨pp, 0, none⟩))) (addr : Int) (h0 : 0 ≤ addr) (h1 : addr ≤ 4294967295) :
    Calls Tryz.prog 6 #[.pointer (some ⟨pp, 0, none⟩), .int .i64 addr] w fun e w' => e = .returned (.tuple #[.int .i64 1, .string (bs (greetS keepC)), .int .i64 0]) ∧ ∃ own', GP E gb pp w' (newSes keepC addr, S, recs) own' ∧ (∀ k, own' k → bagOwn w pb mb q vr S k ∨ vs.ownBlock = some k ∨ w.heap.size ≤ k) ∧ Chg (fun k => k = pp ∨ vs.ownBlock = some k) w w' := by
  refine (connect_any h addr h0 h1 (by simp)).mono ?_
  rintro e w1 ⟨rfl, sb, ch, vs', k1, k2, k3, k4, k5, k6⟩
  refine ⟨rfl, sOwn w1 pb mb (fun k => k = sb ∨ k = ch) q vr S (.slice none 0 0) vs', ⟨pb, mb, q, vr, vs', p0, sb, ch, _, _, k1, new_inv addr hI.time hI.len hI.recs, fun k e => e, fun k e => ⟨k1.olt e, fun y => k1.eo y e⟩, hg, (cell_chg k6 (h.lt gb hg) (fun e => e.elim hne (fun e => (h.sd gb e).1 hg)) 0).trans hc⟩, fun k e => ?_, k6⟩
  rcases e with (e | e | e) | e
  · rcases e with e | e
    · exact .inr (.inr (by omega))
    · exact .inr (.inr (by omega))
  · exact .inl (k5 k e)
  · cases e
  · rcases k4 k e with e | e
    · exact .inr (.inl e)
    · exact .inr (.inr e)
end
/-- what was said ahead changes nothing of what is said behind -/
theorem hearS_acc (c : Cfg) (s : PSes) (S : PStore) (recs : List UInt8) : ∀ (piece acc : List UInt8), hearS c (s, S, recs, acc) piece = ((hearS c (s, S, recs, []) piece).1, (hearS c (s, S, recs, []) piece).2.1, (hearS c (s, S, recs, []) piece).2.2.1, acc ++ (hearS c (s, S, recs, []) piece).2.2.2) := by
  intro piece
  induction piece generalizing s S recs with
  | nil => intro acc; simp [hearS]
  | cons b r ih =>
    intro acc
    have step : ∃ (s' : PSes) (S' : PStore) (recs' m : List UInt8), ∀ a : List UInt8, stepB c (s, S, recs, a) b = (s', S', recs', a ++ m) := by
      unfold stepB
      simp only
      split
      · exact ⟨s, S, recs, [], fun a => by simp⟩
      · rcases takeS s.wait b with ⟨wt, o⟩
        cases o with
        | none => exact ⟨{ s with wait := wt }, S, recs, [], fun a => by simp⟩
        | some l => exact ⟨_, _, _, _, fun a => rfl⟩
    obtain ⟨s', S', recs', m, hm⟩ := step
    show hearS c (stepB c (s, S, recs, acc) b) r = _
    have e2 : hearS c (s, S, recs, []) (b :: r) = hearS c (stepB c (s, S, recs, []) b) r := rfl
    rw [e2, hm acc, hm [], ih s' S' recs' (acc ++ m), ih s' S' recs' ([] ++ m)]
    simp
theorem hearS_more (c : Cfg) (x : PSes × PStore × List UInt8 × List UInt8) (a b : List UInt8) : hearS c x (a ++ b) = hearS c (hearS c x a) b := by
  unfold hearS
  rw [List.foldl_append]
end Go.Proofs.YtadcidbeealdpaaGreatDoor
