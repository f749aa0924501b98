import Derived.Test.YtadcidbeealdpaaGreatDoorS21
import Derived.Test.YtadcidbeealdpaaGreatDoorS12
import Derived.Lib.UnsafeStr
import Derived.Test.YtadcidbeealdpaaGreatDoorS32
import Derived.Test.YtadcidbeealdpaaGreatDoorS16
import Derived.Test.YtadcidbeealdpaaGreatDoorS19
import Derived.Deep.QuietTactic
import Derived.BigQuiet

/- What a Builder holds is read: nothing but a mark on its own row turns. -/
namespace Go.Proofs.YtadcidbeealdpaaGreatDoor
open Go.RowKit

theorem chg_freeze {w : World} {g : Nat} (n : Nat) : Chg (fun k => k = g) w (w.freeze ⟨g, 0, none⟩ n) := by
  obtain ⟨f1, f2, f3⟩ : (∀ k, k ≠ g → (w.freeze ⟨g, 0, none⟩ n).heap[k]? = w.heap[k]?) ∧ (w.freeze ⟨g, 0, none⟩ n).heap.size = w.heap.size ∧ Still w (w.freeze ⟨g, 0, none⟩ n) := by
    unfold World.freeze
    split
    · exact ⟨fun _ _ => rfl, rfl, Still.refl w⟩
    · refine ⟨fun k hk => ?_, by simp, ⟨rfl, rfl, rfl⟩⟩
      show (w.heap.modify g _)[k]? = _
      rw [Array.getElem?_modify, if_neg (fun e => hk e.symm)]
  exact ⟨by rw [f2]; exact Nat.le_refl _, fun k _ hn => f1 k hn, f3⟩

set_option maxHeartbeats 2000000 in
set_option maxRecDepth 100000 in
theorem string_some (b g cap : Nat) (cur : Array Value) (fz : Nat × Nat) (p : Option Addr) (l : List UInt8) (w : World) (h0 : l ≠ []) (hb : w.heap[b]? = some (.cells #[.pointer p, .slice (some ⟨g, 0, none⟩) l.length cap] 84 (0, 0))) (hg : w.heap[g]? = some (.cells cur 5 fz)) (hlc : l.length ≤ cap) (hcm : cap ≤ maxLen) (hcs : cur.size = cap) (hcell : ∀ j x, l[j]? = some x → w.cell? ((⟨g, 0, none⟩ : Addr).add j) = some (.int .u8 x.toNat)) :
    Calls Tryz.prog 25 #[.pointer (some ⟨b, 0, none⟩)] w fun e w' => e = .returned (.string (bs l)) ∧ w.drew.freeze ⟨g, 0, none⟩ l.length = w' := by
  have hl0 : l.length ≠ 0 := by simpa using h0
  have c1 : w.drew.cell? ⟨b, 1, none⟩ = some (.slice (some ⟨g, 0, none⟩) l.length cap) := by
    have : w.drew.heap[b]? = some (.cells #[.pointer p, .slice (some ⟨g, 0, none⟩) l.length cap] 84 (0, 0)) := hb
    rw [Lib.cell_of_heap this]; rfl
  have hSD : (Builtin.unsafeSliceData_ #[76] (Tryz.lays169_ren.t 127) #[.slice (some ⟨g, 0, none⟩) l.length cap]).run Tryz.prog w.drew = .ok (.pointer (some ⟨g, 0, none⟩)) w.drew :=
    Lib.run_unsafeSliceData_row _ _ _ _ _ _ (by omega)
  have hUS : (Builtin.unsafeString_ #[(Tryz.lays169_ren.t 127), 3] 9 #[.pointer (some ⟨g, 0, none⟩), .int .i64 l.length]).run Tryz.prog w.drew = .ok (.string ⟨l.toArray⟩) (w.drew.freeze ⟨g, 0, none⟩ l.length) := by
    refine Lib.run_unsafeString_row w.drew _ 3 9 5 Tryz.lays169.t127 Tryz.Builder_Extra_169.cellsByte g cur.size (by have hg' : w.drew.heap[g]? = some (.cells cur 5 fz) := hg; simp [World.shape?, hg']) l h0 (by omega) (by unfold maxLen at hcm; omega) ?_
    exact fun j x hx => hcell j x hx
  simp only [Tryz.lays169_ren] at hSD hUS
  clear hb hg hlc hcm hcs hcell h0 hl0
  have mixed := Tryz.lays169.mixed
  go_enter Tryz.func25, Tryz.ntmps25
  go_wp2_with fail
  go_region_o
  all_goals (go_wp2; go_ret; exact ⟨rfl, rfl⟩)

set_option maxHeartbeats 2000000 in
set_option maxRecDepth 100000 in
theorem string_nil (b : Nat) (p : Option Addr) (w : World) (hb : w.heap[b]? = some (.cells #[.pointer p, .slice none 0 0] 84 (0, 0))) :
    Calls Tryz.prog 25 #[.pointer (some ⟨b, 0, none⟩)] w fun e w' => e = .returned (.string (bs [])) ∧ w.drew = w' := by
  have hUS := Any.unsafeString_none Tryz.lays169 Tryz.Builder_Extra_169
  have c1 : w.drew.cell? ⟨b, 1, none⟩ = some (.slice none 0 0) := by
    have : w.drew.heap[b]? = some (.cells #[.pointer p, .slice none 0 0] 84 (0, 0)) := hb
    rw [Lib.cell_of_heap this]; rfl
  have hSD : (Builtin.unsafeSliceData_ #[76] (Tryz.lays169_ren.t 127) #[.slice none 0 0]).run Tryz.prog w.drew = .ok (.pointer none) w.drew := rfl
  simp only [Tryz.lays169_ren] at hSD hUS
  clear hb
  have mixed := Tryz.lays169.mixed
  go_enter Tryz.func25, Tryz.ntmps25
  go_wp2_with fail
  go_region_o
  all_goals (go_wp2; go_ret; exact ⟨rfl, rfl⟩)

set_option maxHeartbeats 2000000 in
set_option maxRecDepth 100000 in
theorem string_room (b g cap : Nat) (p : Option Addr) (w : World) (hc0 : cap ≠ 0) (hb : w.heap[b]? = some (.cells #[.pointer p, .slice (some ⟨g, 0, none⟩) 0 cap] 84 (0, 0))) :
    Calls Tryz.prog 25 #[.pointer (some ⟨b, 0, none⟩)] w fun e w' => e = .returned (.string (bs [])) ∧ w.drew = w' := by
  have hUS := Any.unsafeString_none Tryz.lays169 Tryz.Builder_Extra_169
  have c1 : w.drew.cell? ⟨b, 1, none⟩ = some (.slice (some ⟨g, 0, none⟩) 0 cap) := by
    have : w.drew.heap[b]? = some (.cells #[.pointer p, .slice (some ⟨g, 0, none⟩) 0 cap] 84 (0, 0)) := hb
    rw [Lib.cell_of_heap this]; rfl
  have hSD : (Builtin.unsafeSliceData_ #[76] (Tryz.lays169_ren.t 127) #[.slice (some ⟨g, 0, none⟩) 0 cap]).run Tryz.prog w.drew = .ok (.pointer (some ⟨g, 0, none⟩)) w.drew :=
    Lib.run_unsafeSliceData_row _ _ _ _ _ _ hc0
  simp only [Tryz.lays169_ren] at hSD hUS
  clear hb hc0
  have mixed := Tryz.lays169.mixed
  go_enter Tryz.func25, Tryz.ntmps25
  go_wp2_with fail
  go_region_o
  all_goals (go_wp2; go_ret; exact ⟨rfl, rfl⟩)

set_option maxHeartbeats 2000000 in
set_option maxRecDepth 100000 in
theorem string_noroom (b g : Nat) (p : Option Addr) (cur : Array Value) (fz : Nat × Nat) (w : World) (hb : w.heap[b]? = some (.cells #[.pointer p, .slice (some ⟨g, 0, none⟩) 0 0] 84 (0, 0))) (hg : w.heap[g]? = some (.cells cur 5 fz)) :
    Calls Tryz.prog 25 #[.pointer (some ⟨b, 0, none⟩)] w fun e w' => e = .returned (.string (bs [])) ∧ Below w.heap.size w w' := by
  have hUS := Any.unsafeString_none Tryz.lays169 Tryz.Builder_Extra_169
  have hlt := heap_some_lt hb
  have c1 : w.drew.cell? ⟨b, 1, none⟩ = some (.slice (some ⟨g, 0, none⟩) 0 0) := by
    have : w.drew.heap[b]? = some (.cells #[.pointer p, .slice (some ⟨g, 0, none⟩) 0 0] 84 (0, 0)) := hb
    rw [Lib.cell_of_heap this]; rfl
  have hSD : (Builtin.unsafeSliceData_ #[76] (Tryz.lays169_ren.t 127) #[.slice (some ⟨g, 0, none⟩) 0 0]).run Tryz.prog w.drew = .ok (.pointer (some ⟨w.drew.heap.size, 0, none⟩)) (w.drew.alloc (.view ⟨g, 0, none⟩ 5)) :=
    Lib.run_unsafeSliceData_zero w.drew _ _ 5 Tryz.lays169.t127 ⟨g, 0, none⟩ 0 (5, cur.size) (by have hg' : w.drew.heap[g]? = some (.cells cur 5 fz) := hg; simp [World.shape?, hg'])
  have c2 : (w.drew.alloc (.view ⟨g, 0, none⟩ 5)).cell? ⟨b, 1, none⟩ = some (.slice (some ⟨g, 0, none⟩) 0 0) := by
    have : (w.drew.alloc (.view ⟨g, 0, none⟩ 5)).heap[b]? = _ := (Lib.alloc_old w.drew _ b hlt).trans hb
    rw [Lib.cell_of_heap this]; rfl
  have c3 : (w.alloc (.view ⟨g, 0, none⟩ 5)).drew.cell? ⟨b, 1, none⟩ = some (.slice (some ⟨g, 0, none⟩) 0 0) := c2
  have c0 : w.cell? ⟨b, 1, none⟩ = some (.slice (some ⟨g, 0, none⟩) 0 0) := c1
  have HB : Hid (Below w.heap.size w (w.drew.alloc (.view ⟨g, 0, none⟩ 5))) := Lib.hid ((Below.drew (Below.refl _ w)).alloc (Nat.le_refl _) _)
  simp only [Tryz.lays169_ren] at hSD hUS
  clear hb hg
  have mixed := Tryz.lays169.mixed
  go_enter Tryz.func25, Tryz.ntmps25
  go_wp2_with fail
  go_region_o
  all_goals (go_wp2; go_ret; exact ⟨rfl, HB.out⟩)

/-- a Builder is read -/
theorem string_any (base b : Nat) (v : Value) (acc : List UInt8) (w : World) (h : BldAt base w b v acc) :
    Calls Tryz.prog 25 #[.pointer (some ⟨b, 0, none⟩)] w fun e w' => e = .returned (.string (bs acc)) ∧ Chg (fun k => v.ownBlock = some k) w w' := by
  obtain ⟨p, _, hb⟩ := h.blk
  rcases h.row.2 with ⟨e, hz⟩ | ⟨g, cap, cur, fz, e, hbg, hg, hfz, hnc, hcm, hcs, htake⟩
  · obtain rfl : acc = [] := List.length_eq_zero_iff.1 hz
    subst e
    refine (string_nil b p w hb).mono ?_
    rintro e w' ⟨rfl, rfl⟩
    exact ⟨rfl, Chg.below (Below.drew (Below.refl _ w))⟩
  · subst e
    by_cases h0 : acc = []
    · subst h0
      by_cases hc : cap = 0
      · subst hc
        refine (string_noroom b g p cur fz w hb hg).mono ?_
        rintro e w' ⟨rfl, hB⟩
        exact ⟨rfl, Chg.below hB⟩
      · refine (string_room b g cap p w hc hb).mono ?_
        rintro e w' ⟨rfl, rfl⟩
        exact ⟨rfl, Chg.below (Below.drew (Below.refl _ w))⟩
    · refine (string_some b g cap cur fz p acc w h0 hb hg hnc hcm (by simpa using hcs) ?_).mono ?_
      · intro j x hx
        have := h.row.cells (g := g) rfl j (.int .u8 x.toNat) (by simp [Lib.byteCells, hx])
        exact this
      · rintro e w' ⟨rfl, rfl⟩
        refine ⟨rfl, ?_⟩
        have h1 : Chg (fun k => k = g) w w.drew := Chg.below (Below.drew (Below.refl _ w))
        exact (h1.trans (chg_freeze acc.length) (fun _ _ e => e)).mono (fun k _ e => by rw [e]; rfl)
end Go.Proofs.YtadcidbeealdpaaGreatDoor

/- A piece is heard: the walk. -/
namespace Go.Proofs.YtadcidbeealdpaaGreatDoor
open Go.RowKit

/-- a session with what it stands on, while nobody works on it -/
structure RestW (E : Nat → Prop) (pp pb mb sb ch : Nat) (c : Cfg) (w : World) (A : Nat → Prop) (q : Nat → Nat) (vr : Value) (S : PStore) (recs : List UInt8) (vw : Value) (s : PSes) : Prop where
  env : EnvAt E w pp c
  ses : SesIn w A pp pb sb ch vw [] s
  row : RowZ w vw s.wait
  bag : BagR w pb mb q vr S recs
  ea : ∀ k, E k → ¬ A k
  eb : ∀ k, E k → ¬ bagOwn w pb mb q vr S k
  ab : ∀ k, A k → ¬ bagOwn w pb mb q vr S k
  wd : ∀ g, vw.ownBlock = some g → ¬ E g ∧ ¬ A g ∧ ¬ bagOwn w pb mb q vr S g
/-- what a session and its bag own -/
def rOwn (w : World) (pb mb : Nat) (A : Nat → Prop) (q : Nat → Nat) (vr : Value) (S : PStore) (vw : Value) (k : Nat) : Prop := A k ∨ bagOwn w pb mb q vr S k ∨ vw.ownBlock = some k
/-- behind a piece -/
def HearPost (E A : Nat → Prop) (pp pb mb sb ch : Nat) (c : Cfg) (q : Nat → Nat) (vr : Value) (S : PStore) (vw : Value) (w : World) (s' : PSes) (S' : PStore) (recs' : List UInt8) (w' : World) : Prop :=
  ∃ A' q' vr' vw', RestW E pp pb mb sb ch c w' A' q' vr' S' recs' vw' s' ∧ (∀ k, rOwn w' pb mb A' q' vr' S' vw' k → rOwn w pb mb A q vr S vw k ∨ w.heap.size ≤ k) ∧ Chg (rOwn w pb mb A q vr S vw) w w'
/-- in the loop -/
def HLoop (E : Nat → Prop) (pp pb mb sb ch : Nat) (c : Cfg) (R : Nat → Prop) (w : World) (x : PSes × PStore × List UInt8 × List UInt8) (wr : World) : Prop :=
  ∃ A q vr vw v, HearW E pp pb mb sb ch w.heap.size c wr A q vr x.2.1 x.2.2.1 vw v x.2.2.2 [] x.1 ∧ (∀ k, hOwn wr pb mb w.heap.size A q vr x.2.1 vw v k → R k ∨ w.heap.size ≤ k) ∧ Chg R w wr ∧ PInv c x.1 x.2.1 x.2.2.1
section
variable {E R : Nat → Prop} {pp pb mb sb ch : Nat} {c : Cfg} {w wr w' : World} {A : Nat → Prop} {q : Nat → Nat} {vr : Value} {S : PStore} {recs : List UInt8} {vw : Value} {s : PSes} {x : PSes × PStore × List UInt8 × List UInt8}
theorem hOwn_back {bl : Nat} {v : Value} (hb : ∀ k, bagOwn w' pb mb q vr S k → bagOwn wr pb mb q vr S k) {k : Nat} (h : hOwn w' pb mb bl A q vr S vw v k) : hOwn wr pb mb bl A q vr S vw v k := by
  rcases h with h | h | h
  · exact .inl h
  · exact .inr (.inl (hb k h))
  · exact .inr (.inr h)
theorem HLoop.below (h : HLoop E pp pb mb sb ch c R w x wr) (hb : Below wr.heap.size wr w') : HLoop E pp pb mb sb ch c R w x w' := by
  obtain ⟨A, q, vr, vw, v, h1, h2, h3, h4⟩ := h
  have back : ∀ k, bagOwn w' pb mb q vr x.2.1 k → bagOwn wr pb mb q vr x.2.1 k := fun k e => e.imp (fun e => bagBlk_below h1.bag.inn hb e) id
  exact ⟨A, q, vr, vw, v, h1.below hb, fun k hk => h2 k (hOwn_back back hk), h3.trans (Chg.below hb) (fun _ _ e => e), h4⟩
theorem HLoop.over (h : HLoop E pp pb mb sb ch c R w x wr) : wr.cell? ⟨sb, 7, none⟩ = some (.bool x.1.over) := by
  obtain ⟨A, q, vr, vw, v, h1, h2, h3, h4⟩ := h
  obtain ⟨vx, a1, a2⟩ := h1.ses.ex
  exact a1.cell 7
theorem HLoop.start (h : RestW E pp pb mb sb ch c w A q vr S recs vw s) (hp : PInv c s S recs) : HLoop E pp pb mb sb ch c (rOwn w pb mb A q vr S vw) w (s, S, recs, []) (w.alloc (.cells #[.pointer none, .slice none 0 0] 84)) := by
  have hb : Below w.heap.size w (w.alloc (.cells #[.pointer none, .slice none 0 0] 84)) := (Below.refl _ _).alloc (Nat.le_refl _) _
  have hx := heap_alloc_new w (.cells #[.pointer none, .slice none 0 0] 84)
  obtain ⟨W, hW⟩ : ∃ W, w.alloc (.cells #[.pointer none, .slice none 0 0] 84) = W := ⟨_, rfl⟩
  rw [hW] at hb hx ⊢
  have back : ∀ k, bagOwn W pb mb q vr S k → bagOwn w pb mb q vr S k := fun k e => e.imp (fun e => bagBlk_below h.bag.inn hb e) id
  obtain ⟨b1, _⟩ := h.bag.chg (Chg.below hb : Chg (fun _ => False) w W) (fun _ _ e => e)
  have hbl : ∀ k, bagOwn w pb mb q vr S k → k < w.heap.size := fun k e => bagOwn.lt h.bag e
  refine ⟨A, q, vr, vw, .slice none 0 0, ⟨h.env.below hb, h.ses.below hb, own_chg h.row (Chg.below hb : Chg (fun _ => False) w W) (fun _ _ e => e), b1, ⟨⟨none, .inl rfl, hx⟩, ⟨rfl, .inl ⟨rfl, rfl⟩⟩, (by intro e; cases e)⟩, h.ea, fun k e y => h.eb k e (back k y), fun k e y => h.ab k e (back k y), ?_, ?_, (by intro g e; cases e)⟩, ?_, Chg.below hb, hp⟩
  · intro g hg
    obtain ⟨cur, h1⟩ := own_tag' h.row hg
    have := heap_some_lt h1
    exact ⟨(h.wd g hg).1, (h.wd g hg).2.1, fun y => (h.wd g hg).2.2 (back g y), by omega, (by intro e; cases e)⟩
  · exact ⟨fun y => by have := h.env.lt _ y; omega, fun y => by have := h.ses.lt _ y; omega, fun y => by have := hbl _ (back _ y); omega⟩
  · intro k hk
    rcases hk with e | e | e | e | e
    · exact .inl (.inl e)
    · exact .inl (.inr (.inl (back k e)))
    · exact .inr (Nat.le_of_eq e.symm)
    · cases e
    · exact .inl (.inr (.inr e))
theorem HearW.chg {B : Nat → Prop} {bl : Nat} {v : Value} {acc : List UInt8} {ls : List (List UInt8)} (h : HearW E pp pb mb sb ch bl c w A q vr S recs vw v acc ls s) (hc : Chg B w w') (hE : ∀ k, E k → ¬ B k) (hO : ∀ k, hOwn w pb mb bl A q vr S vw v k → ¬ B k) : HearW E pp pb mb sb ch bl c w' A q vr S recs vw v acc ls s ∧ ∀ k, bagOwn w' pb mb q vr S k → bagOwn w pb mb q vr S k := by
  obtain ⟨b1, b2⟩ := h.bag.chg hc (fun k e => hO k (.inr (.inl e)))
  exact ⟨⟨h.env.chg hc hE, h.ses.chg hc (fun k e => hO k (.inl e)), own_chg h.row hc (fun g e => hO g (.inr (.inr (.inr (.inr e))))), b1, bld_chg h.bld hc (hO bl (.inr (.inr (.inl rfl)))) (fun g e => hO g (.inr (.inr (.inr (.inl e))))), h.ea, fun k e x => h.eb k e (b2 k x), fun k e x => h.ab k e (b2 k x), fun g hg => ⟨(h.wd g hg).1, (h.wd g hg).2.1, fun x => (h.wd g hg).2.2.1 (b2 g x), (h.wd g hg).2.2.2⟩, ⟨h.ld.1, h.ld.2.1, fun x => h.ld.2.2 (b2 _ x)⟩, fun g hg => ⟨(h.vd g hg).1, (h.vd g hg).2.1, fun x => (h.vd g hg).2.2 (b2 g x)⟩⟩, b2⟩
/-- a byte is taken; W: what was laid ahead of the call may be turned behind it -/
theorem HLoop.take {W : World} (h : HLoop E pp pb mb sb ch c R w x wr) (hb : Below wr.heap.size wr W) (b : UInt8) :
    Calls Tryz.prog 27 #[.pointer (some ⟨sb, 2, none⟩), .int .u8 (b.toNat : Int)] W fun e w' => e = .returned (takeRet (takeS x.1.wait b).2) ∧ (∀ w'', Chg (fun k => wr.heap.size ≤ k ∧ k < W.heap.size) w' w'' → HLoop E pp pb mb sb ch c R w ({ x.1 with wait := (takeS x.1.wait b).1 }, x.2) w'') ∧ W.heap.size ≤ w'.heap.size ∧ ∀ (k : Nat) (C : Array Value) (z : Nat × Nat), W.heap[k]? = some (Obj.cells C 89 z) → w'.heap[k]? = some (Obj.cells C 89 z) := by
  obtain ⟨A, q, vr, vw, v, h1, h2, h3, h4⟩ := h
  have hW := h1.below hb
  have back : ∀ k, bagOwn W pb mb q vr x.2.1 k → bagOwn wr pb mb q vr x.2.1 k := fun k e => e.imp (fun e => bagBlk_below h1.bag.inn hb e) id
  have h2W : ∀ k, hOwn W pb mb w.heap.size A q vr x.2.1 vw v k → R k ∨ w.heap.size ≤ k := fun k hk => h2 k (hOwn_back back hk)
  have h3W : Chg R w W := h3.trans (Chg.below hb) (fun _ _ e => e)
  obtain ⟨vx, a1, a2⟩ := hW.ses.ex
  refine (take_any sb (sesCells pp pb ch vw vx x.1) vw x.1.wait b W ⟨a1.blk, a1.size, rfl, hW.row⟩ h4.wait hW.env.utf (fun e => ?_) (fun e => ?_)).mono ?_
  · rcases e with e | e
    · exact h1.ea _ h1.env.efir (by rw [e]; exact h1.ses.asb)
    · exact (h1.wd _ e).1 h1.env.efir
  · rcases e with e | e
    · exact h1.ea _ h1.env.eacc (by rw [e]; exact h1.ses.asb)
    · exact (h1.wd _ e).1 h1.env.eacc
  · rintro e w1 ⟨rfl, hP⟩
    obtain ⟨vw', c1, c2, c3, c4⟩ := hW.cut rfl a1 a2 hP
    have hO1 : ∀ k, hOwn w1 pb mb w.heap.size A q vr x.2.1 vw' v k → ¬ (wr.heap.size ≤ k ∧ k < W.heap.size) := fun k hk => by
      rcases hk with e | e | e | e | e
      · have := h1.ses.lt k e; omega
      · have := bagOwn.lt h1.bag (back k (c4 k e)); omega
      · have := h1.blLt; omega
      · have := h1.vLt e; omega
      · rcases c3 k e with e | e
        · have := h1.rowLt e; omega
        · omega
    refine ⟨rfl, fun w'' hc => ?_, c2.size, fun k C z e => c2.some_ e (fun y => ?_)⟩
    · obtain ⟨d1, d2⟩ := c1.chg hc (fun k e => by have := h1.env.lt k e; omega) hO1
      refine ⟨A, q, vr, vw', v, d1, fun k hk => ?_, (h3W.trans c2 (fun k hk e => ?_)).trans hc (fun k hk e => ?_), ⟨h4.tx, h4.time, h4.len, h4.recs, (takeS_ok _ _).1⟩⟩
      · rcases hk with e | e | e | e | e
        · exact h2W k (.inl e)
        · exact h2W k (.inr (.inl (c4 k (d2 k e))))
        · exact h2W k (.inr (.inr (.inl e)))
        · exact h2W k (.inr (.inr (.inr (.inl e))))
        · rcases c3 k e with e | e
          · exact h2W k (.inr (.inr (.inr (.inr e))))
          · exact .inr (Nat.le_trans h3W.size e)
      · have hh : hOwn W pb mb w.heap.size A q vr x.2.1 vw v k := by
          rcases e with e | e
          · exact .inl (by rw [e]; exact h1.ses.asb)
          · exact .inr (.inr (.inr (.inr e)))
        exact (h2W k hh).elim id (fun e => by omega)
      · have := h3.size; omega
    · rcases y with y | y
      · rw [y, a1.blk] at e
        simp at e
      · obtain ⟨cur, h5⟩ := own_tag' hW.row y
        rw [e] at h5
        simp at h5
theorem chg_box {w1 : World} {bx lo hi : Nat} {x y : Value} (h : lo ≤ bx ∧ bx < hi) : Chg (fun k => lo ≤ k ∧ k < hi) w1 ((w1.setCell ⟨bx, 0, none⟩ x).setCell ⟨bx, 1, none⟩ y) := (Chg.same (((Same.refl _ _).setCell _).setCell _)).mono (fun k _ e => by rw [e]; exact h)
/-- a line is heard -/
theorem HLoop.line (h : HLoop E pp pb mb sb ch c R w x wr) (l : List UInt8 × Bool) (hl : l.1.length ≤ 100 ∧ (l.2 = false → asciiL l.1)) (hal : x.2.2.2.length ≤ 1099511627776) :
    Calls Tryz.prog 28 #[.pointer (some ⟨sb, 0, none⟩), .agg #[.string (bs l.1), .bool l.2], .pointer (some ⟨w.heap.size, 0, none⟩)] wr fun e w' => e = .returned (.tuple #[]) ∧ HLoop E pp pb mb sb ch c R w ((hearLS c x.1 x.2.1 x.2.2.1 l.1 l.2).1, (hearLS c x.1 x.2.1 x.2.2.1 l.1 l.2).2.1, (hearLS c x.1 x.2.1 x.2.2.1 l.1 l.2).2.2.1, x.2.2.2 ++ (hearLS c x.1 x.2.1 x.2.2.1 l.1 l.2).2.2.2.flatten) w' := by
  obtain ⟨A, q, vr, vw, v, h1, h2, h3, h4⟩ := h
  refine (hearL_any h1 h4 l.1 l.2 hl.1 hl.2 hal).mono ?_
  rintro e w1 ⟨rfl, A', q', vr', vw', v', k1, k2, k3⟩
  obtain ⟨i1, _, _⟩ := hearLS_inv h1.env.may h4 l.1 l.2 hl.1
  refine ⟨rfl, A', q', vr', vw', v', k1, fun k hk => (k2 k hk).elim (h2 k) (fun e => .inr (Nat.le_trans h3.size e)), h3.trans k3 (fun k hk e => (h2 k e).elim id (fun e => by omega)), i1⟩
/-- at the end -/
theorem HLoop.done (_h : RestW E pp pb mb sb ch c w A q vr S recs vw s) (hL : HLoop E pp pb mb sb ch c (rOwn w pb mb A q vr S vw) w x wr) :
    Calls Tryz.prog 25 #[.pointer (some ⟨w.heap.size, 0, none⟩)] wr fun e w' => e = .returned (.string (bs x.2.2.2)) ∧ HearPost E A pp pb mb sb ch c q vr S vw w x.1 x.2.1 x.2.2.1 w' := by
  obtain ⟨A', q', vr', vw', v', h1, h2, h3, h4⟩ := hL
  refine (string_any 0 w.heap.size v' x.2.2.2 wr h1.bld).mono ?_
  rintro e w1 ⟨rfl, hc⟩
  have dB : ∀ k, bagOwn wr pb mb q' vr' x.2.1 k → ¬ v'.ownBlock = some k := fun k e y => (h1.vd k y).2.2 e
  obtain ⟨b1, b2⟩ := h1.bag.chg hc dB
  refine ⟨rfl, A', q', vr', vw', ⟨h1.env.chg hc (fun k e y => (h1.vd k y).1 e), h1.ses.chg hc (fun k e y => (h1.vd k y).2.1 e), own_chg h1.row hc (fun g hg y => (h1.wd g hg).2.2.2.2 y), b1, h1.ea, fun k e y => h1.eb k e (b2 k y), fun k e y => h1.ab k e (b2 k y), fun g hg => ⟨(h1.wd g hg).1, (h1.wd g hg).2.1, fun y => (h1.wd g hg).2.2.1 (b2 g y)⟩⟩, fun k hk => ?_, h3.trans hc (fun k hk e => ?_)⟩
  · rcases hk with e | e | e
    · exact h2 k (.inl e)
    · exact h2 k (.inr (.inl (b2 k e)))
    · exact h2 k (.inr (.inr (.inr (.inr e))))
  · exact (h2 k (.inr (.inr (.inr (.inl e))))).elim id (fun e => by omega)

set_option maxHeartbeats 1000000 in
set_option maxRecDepth 100000 in
theorem hear_any (h : RestW E pp pb mb sb ch c w A q vr S recs vw s) (hp : PInv c s S recs) (piece : List UInt8) (hl : piece.length ≤ 1048576) :
    Calls Tryz.prog 16 #[.pointer (some ⟨sb, 0, none⟩), .string (bs piece)] w fun e w' => e = .returned (.string (bs (hearS c (s, S, recs, []) piece).2.2.2)) ∧ HearPost E A pp pb mb sb ch c q vr S vw w (hearS c (s, S, recs, []) piece).1 (hearS c (s, S, recs, []) piece).2.1 (hearS c (s, S, recs, []) piece).2.2.1 w' := by
  have hps := bs_size piece
  have HH := Lib.hid h
  have HS := Lib.hid (HLoop.start h hp)
  obtain ⟨W0, hW0⟩ : ∃ W0 : World, w.alloc (.cells #[.pointer none, .slice none 0 0] 84) = W0 := ⟨_, rfl⟩
  rw [hW0] at HS
  have HIV : Hid (∀ k, (hearS c (s, S, recs, []) (piece.take k)).2.2.2.length ≤ 1099511627776) := Lib.hid (fun k => by
    have := (hearS_inv h.env.may (piece.take k) (s, S, recs, []) hp).2
    have h2 : (piece.take k).length ≤ piece.length := by rw [List.length_take]; omega
    have h3 : ([] : List UInt8).length = 0 := rfl
    simp only at this
    omega)
  clear h hp
  go_enter Tryz.func16, Tryz.ntmps16
  go_wp2_with fail
  go_loopw [6, 7, 8, 11] (fun _ _ _ i w' => ∃ k : Nat, k ≤ piece.length ∧ i = .int .i64 k ∧ Hid (HLoop E pp pb mb sb ch c (rOwn w pb mb A q vr S vw) w (hearS c (s, S, recs, []) (piece.take k)) w')) (fun _ _ _ i _ => piece.length - (intOf i).toNat)
  case atStart => exact ⟨0, Nat.zero_le _, rfl, HS⟩
  case round =>
    clear HS
    obtain ⟨k, hk, rfl, HL⟩ := hrel
    have ho := HL.out.over
    obtain ⟨x, ex⟩ : ∃ x, hearS c (s, S, recs, []) (piece.take k) = x := ⟨_, rfl⟩
    rw [ex] at HL ho
    have HEX := Lib.hid ex
    clear ex
    by_cases hkl : k < piece.length
    case neg =>
      have HFIN : Hid (hearS c (s, S, recs, []) piece = x) := Lib.hid (by rw [← HEX.out, List.take_of_length_le (by omega)])
      have HD := Lib.hid (HLoop.done HH.out HL.out)
      go_wp2_with fail
      refine HD.out.mono ?_
      rintro e w1 ⟨rfl, hP⟩
      have HP := Lib.hid hP
      clear hP
      go_wp2_with fail
      go_ret
      rw [HFIN.out]
      exact ⟨rfl, HP.out⟩
    case pos =>
      obtain ⟨ov, eo⟩ : ∃ b, x.1.over = b := ⟨_, rfl⟩
      rw [eo] at ho
      have HOV := Lib.hid eo
      clear eo
      cases ov with
      | true =>
        have HFIN : Hid (hearS c (s, S, recs, []) piece = x) := Lib.hid (by
          have e1 : hearS c (s, S, recs, []) piece = hearS c x (piece.drop k) := by
            rw [← HEX.out]
            unfold hearS
            rw [← List.foldl_append, List.take_append_drop]
          rw [e1]
          exact hearS_over HOV.out _)
        have HD := Lib.hid (HLoop.done HH.out HL.out)
        go_wp2_with fail
        refine HD.out.mono ?_
        rintro e w1 ⟨rfl, hP⟩
        have HP := Lib.hid hP
        clear hP
        go_wp2_with fail
        go_ret
        rw [HFIN.out]
        exact ⟨rfl, HP.out⟩
      | false =>
        obtain ⟨b, eb⟩ : ∃ b, piece[k] = b := ⟨_, rfl⟩
        have hget := bs_get piece k (by omega)
        rw [eb] at hget
        have HST : Hid (hearS c (s, S, recs, []) (piece.take (k + 1)) = stepB c x b) := Lib.hid (by rw [hearS_take c _ piece k hkl, HEX.out, eb])
        have HTO := Lib.hid (takeS_ok x.1.wait b)
        have HT0 := Lib.hid (HL.out.take (W := wr.drew) ((Below.refl _ _).drew) b)
        have HT1 := Lib.hid (HL.out.take (W := (wr.alloc (.cells #[.string ⟨#[]⟩, .bool false] 89)).drew) (((Below.refl _ _).alloc (Nat.le_refl _) _).drew) b)
        have HX0 : Hid ((wr.alloc (.cells #[.string ⟨#[]⟩, .bool false] 89)).drew.heap[wr.heap.size]? = some (.cells #[.string ⟨#[]⟩, .bool false] 89 (0, 0))) := Lib.hid (heap_alloc_new wr _)
        obtain ⟨y, ey⟩ : ∃ y, takeS x.1.wait b = y := ⟨_, rfl⟩
        have HTY := Lib.hid ey
        rw [ey] at HTO HT0 HT1
        clear ey eb
        obtain ⟨wt, o⟩ := y
        cases o with
        | none =>
          have HSB : Hid (stepB c x b = ({ x.1 with wait := wt }, x.2)) := Lib.hid (by
            unfold stepB
            rw [HOV.out, HTY.out]
            rfl)
          simp only [takeRet] at HTO HT0 HT1
          go_wp2_with fail
          go_region_law (first
            | (go_simp; go_at_call 27; refine HT0.out.mono ?_; rintro e w1 ⟨rfl, hP, hs, hk⟩; have HP := Lib.hid hP; clear hP hk; dsimp only)
            | (go_simp; go_at_call 27; refine HT1.out.mono ?_; rintro e w1 ⟨rfl, hP, hs, hk⟩; have HP := Lib.hid hP; have X1 := hk _ _ _ HX0.out; have q0 : w1.cell? ⟨wr.heap.size, 0, none⟩ = some (.string ⟨#[]⟩) := (by rw [Lib.cell_of_heap X1]; rfl); have q1 : w1.cell? ⟨wr.heap.size, 1, none⟩ = some (.bool false) := (by rw [Lib.cell_of_heap X1]; rfl); have qf := fun j => Lib.frozen_of_heap X1 j; have HX1 := Lib.hid X1; clear hP X1 hk; dsimp only))
          · have H9 := Lib.hid (HP.out _ (Chg.below ((Below.refl _ w1).alloc (Nat.le_refl _) (.cells #[.string ⟨#[]⟩, .bool false] 89))))
            go_wp2_with fail
            exact ⟨⟨k + 1, by omega, by go_num, Lib.hid (by rw [HST.out, HSB.out]; exact H9.out)⟩, by simp [intOf]; omega⟩
          all_goals
            have H9 := Lib.hid (HP.out _ (chg_box (x := .string ⟨#[]⟩) (y := .bool false) (bx := wr.heap.size) ⟨Nat.le_refl _, by simp⟩))
            go_wp2_with fail
            exact ⟨⟨k + 1, by omega, by go_num, Lib.hid (by rw [HST.out, HSB.out]; exact H9.out)⟩, by simp [intOf]; omega⟩
        | some l =>
          obtain ⟨lt, lb⟩ := l
          have HSB : Hid (stepB c x b = ((hearLS c { x.1 with wait := wt } x.2.1 x.2.2.1 lt lb).1, (hearLS c { x.1 with wait := wt } x.2.1 x.2.2.1 lt lb).2.1, (hearLS c { x.1 with wait := wt } x.2.1 x.2.2.1 lt lb).2.2.1, x.2.2.2 ++ (hearLS c { x.1 with wait := wt } x.2.1 x.2.2.1 lt lb).2.2.2.flatten)) := Lib.hid (by
            unfold stepB
            rw [HOV.out, HTY.out]
            rfl)
          have HAL : Hid (x.2.2.2.length ≤ 1099511627776) := Lib.hid (by have := HIV.out k; rw [HEX.out] at this; exact this)
          have HLB := Lib.hid (HTO.out.2 (lt, lb) rfl)
          simp only [takeRet] at HTO HT0 HT1
          go_wp2_with fail
          go_region_law (first
            | (go_simp; go_at_call 27; refine HT0.out.mono ?_; rintro e w1 ⟨rfl, hP, hs, hk⟩; have HP := Lib.hid hP; clear hP hk; dsimp only)
            | (go_simp; go_at_call 27; refine HT1.out.mono ?_; rintro e w1 ⟨rfl, hP, hs, hk⟩; have HP := Lib.hid hP; have X1 := hk _ _ _ HX0.out; have q0 : w1.cell? ⟨wr.heap.size, 0, none⟩ = some (.string ⟨#[]⟩) := (by rw [Lib.cell_of_heap X1]; rfl); have q1 : w1.cell? ⟨wr.heap.size, 1, none⟩ = some (.bool false) := (by rw [Lib.cell_of_heap X1]; rfl); have qf := fun j => Lib.frozen_of_heap X1 j; have HX1 := Lib.hid X1; clear hP X1 hk; dsimp only))
          · have hB9 : Below w1.heap.size w1 (w1.alloc (.cells #[.string (bs lt), .bool lb] 89)) := (Below.refl _ w1).alloc (Nat.le_refl _) _
            have X9 := heap_alloc_new w1 (.cells #[.string (bs lt), .bool lb] 89)
            have H9 := HP.out _ (Chg.below hB9)
            obtain ⟨W9, hW9⟩ : ∃ W : World, w1.alloc (.cells #[.string (bs lt), .bool lb] 89) = W := ⟨_, rfl⟩
            rw [hW9] at H9 X9 ⊢
            have c0 : W9.cell? ⟨w1.heap.size, 0, none⟩ = some (.string (bs lt)) := by rw [Lib.cell_of_heap X9]; rfl
            have c1 : W9.cell? ⟨w1.heap.size, 1, none⟩ = some (.bool lb) := by rw [Lib.cell_of_heap X9]; rfl
            have HC := Lib.hid (H9.line (lt, lb) HLB.out HAL.out)
            clear hB9 X9 H9 hW9 HT0 HT1
            go_wp2_with fail
            refine HC.out.mono ?_
            rintro e w2 ⟨rfl, hL2⟩
            have HL2 := Lib.hid hL2
            clear hL2
            go_wp2_with fail
            exact ⟨⟨k + 1, by omega, by go_num, Lib.hid (by rw [HST.out, HSB.out]; exact HL2.out)⟩, by simp [intOf]; omega⟩
          all_goals
            have S9 : Same wr.heap.size w1 ((w1.setCell ⟨wr.heap.size, 0, none⟩ (.string (bs lt))).setCell ⟨wr.heap.size, 1, none⟩ (.bool lb)) := ((Same.refl _ _).setCell _).setCell _
            obtain ⟨c0, c1, _⟩ := two_put (x := .string (bs lt)) (y := .bool lb) HX1.out
            have H9 := HP.out _ (chg_box (x := .string (bs lt)) (y := .bool lb) (bx := wr.heap.size) ⟨Nat.le_refl _, by simp⟩)
            obtain ⟨W9, hW9⟩ : ∃ W : World, (w1.setCell ⟨wr.heap.size, 0, none⟩ (.string (bs lt))).setCell ⟨wr.heap.size, 1, none⟩ (.bool lb) = W := ⟨_, rfl⟩
            rw [hW9] at H9 c0 c1 ⊢
            have HC := Lib.hid (H9.line (lt, lb) HLB.out HAL.out)
            clear S9 H9 hW9 HT0 HT1 q0 q1 qf
            go_wp2_with fail
            refine HC.out.mono ?_
            rintro e w2 ⟨rfl, hL2⟩
            have HL2 := Lib.hid hL2
            clear hL2
            go_wp2_with fail
            exact ⟨⟨k + 1, by omega, by go_num, Lib.hid (by rw [HST.out, HSB.out]; exact HL2.out)⟩, by simp [intOf]; omega⟩
end
end Go.Proofs.YtadcidbeealdpaaGreatDoor

/- A post, with all that it has. -/
namespace Go.Proofs.YtadcidbeealdpaaGreatDoor
open Go.RowKit

/-- the package-level variables that are looked at -/
def glob (k : Nat) : Prop := k = 0 ∨ k = 6 ∨ k = 2 ∨ k = 3
structure GlobAt (w : World) : Prop where
  len : ∃ n, w.cell? ⟨0, 0, none⟩ = some (.int .i64 n)
  pow : Pow w
  utf : Lib.Utf8Tabs 2 3 w
theorem GlobAt.lt {w : World} (h : GlobAt w) {k : Nat} (hk : glob k) : k < w.heap.size := by
  obtain ⟨n, hn⟩ := h.len
  rcases hk with rfl | rfl | rfl | rfl
  · exact block_lt hn
  · exact h.pow.lt
  · exact block_lt (h.utf.1 0 (by decide))
  · exact block_lt (h.utf.2 0 (by decide)).1
theorem GlobAt.chg {B : Nat → Prop} {w w' : World} (h : GlobAt w) (hc : Chg B w w') (hB : ∀ k, glob k → ¬ B k) : GlobAt w' := by
  obtain ⟨n, hn⟩ := h.len
  have l1 := h.lt (k := 0) (.inl rfl)
  refine ⟨⟨n, ?_⟩, h.pow.chg hc (hB _ (.inr (.inl rfl))), utf_chg2 h.utf hc (hB _ (.inr (.inr (.inl rfl)))) (hB _ (.inr (.inr (.inr rfl))))⟩
  rw [← hn]
  exact World.cell?_of_block (hc.block _ l1 (hB _ (.inl rfl)))
theorem GlobAt.below {w w' : World} (h : GlobAt w) (hb : Below w.heap.size w w') : GlobAt w' := h.chg (Chg.below hb : Chg (fun _ => False) w w') (fun _ _ e => e)

/-- E: what stays of it; vs: the row of its sessions, ps: what is in it -/
structure PostW (E : Nat → Prop) (pp pb mb : Nat) (c : Cfg) (w : World) (q : Nat → Nat) (vr : Value) (S : PStore) (recs : List UInt8) (vs : Value) (ps : List Value) : Prop where
  set : ∃ vD vN vU vW, SetAt w pp c vD vN vU vW ∧ ∀ k, (vD.ownBlock = some k ∨ vN.ownBlock = some k ∨ vU.ownBlock = some k ∨ vW.ownBlock = some k) → E k ∧ k ≠ pp
  glo : GlobAt w
  egl : ∀ k, glob k → E k
  gpp : ¬ glob pp
  epp : E pp
  lt : ∀ k, E k → k < w.heap.size
  blk : ∃ C : Array Value, w.heap[pp]? = some (.cells C 61 (0, 0)) ∧ C.size = 12 ∧ C[9]? = some (.pointer (some ⟨pb, 0, none⟩)) ∧ C[10]? = some vs
  bag : BagR w pb mb q vr S recs
  row : w.ownsRow 0 62 1 vs ps.length ps
  eb : ∀ k, E k → ¬ bagOwn w pb mb q vr S k
  sd : ∀ g, vs.ownBlock = some g → ¬ E g ∧ ¬ bagOwn w pb mb q vr S g
section
variable {E B : Nat → Prop} {pp pb mb : Nat} {c : Cfg} {w w' : World} {q : Nat → Nat} {vr : Value} {S : PStore} {recs : List UInt8} {vs : Value} {ps : List Value}
theorem PostW.env (h : PostW E pp pb mb c w q vr S recs vs ps) : EnvAt E w pp c := by
  obtain ⟨vD, vN, vU, vW, h1, h2⟩ := h.set
  exact ⟨⟨vD, vN, vU, vW, h1, fun k e => (h2 k e).1⟩, h.epp, h.glo.len, h.egl _ (.inl rfl), h.glo.pow, h.egl _ (.inr (.inl rfl)), h.glo.utf, h.egl _ (.inr (.inr (.inl rfl))), h.egl _ (.inr (.inr (.inr rfl))), h.lt⟩
theorem SetAt.chg {vD vN vU vW : Value} (h1 : SetAt w pp c vD vN vU vW) (hc : Chg B w w') (hA : ∀ k, (vD.ownBlock = some k ∨ vN.ownBlock = some k ∨ vU.ownBlock = some k ∨ vW.ownBlock = some k) → ¬ B k) (hp : ¬ B pp) : SetAt w' pp c vD vN vU vW := by
  obtain ⟨D, h3, h4⟩ := h1.blk
  exact ⟨⟨D, hc.some_ h3 hp, h4⟩, ⟨h1.rows.1.chg hc (fun g e => hA g (.inl e)), h1.rows.2.1.chg hc (fun g e => hA g (.inr (.inl e))), h1.rows.2.2.1.chg hc (fun g e => hA g (.inr (.inr (.inl e)))), h1.rows.2.2.2.chg hc (fun g e => hA g (.inr (.inr (.inr e))))⟩, h1.may⟩
/-- whatever turns elsewhere -/
theorem PostW.chg (h : PostW E pp pb mb c w q vr S recs vs ps) (hc : Chg B w w') (hE : ∀ k, E k → ¬ B k) (hB : ∀ k, bagOwn w pb mb q vr S k → ¬ B k) (hS : ∀ k, vs.ownBlock = some k → ¬ B k) : PostW E pp pb mb c w' q vr S recs vs ps ∧ ∀ k, bagOwn w' pb mb q vr S k → bagOwn w pb mb q vr S k := by
  obtain ⟨vD, vN, vU, vW, h1, h2⟩ := h.set
  obtain ⟨C, h3, h4⟩ := h.blk
  obtain ⟨b1, b2⟩ := h.bag.chg hc hB
  exact ⟨⟨⟨vD, vN, vU, vW, h1.chg hc (fun k e => hE k (h2 k e).1) (hE pp h.epp), h2⟩, h.glo.chg hc (fun k e => hE k (h.egl k e)), h.egl, h.gpp, h.epp, fun k e => Nat.lt_of_lt_of_le (h.lt k e) hc.size, ⟨C, hc.some_ h3 (hE pp h.epp), h4⟩, b1, own_chg h.row hc hS, fun k e x => h.eb k e (b2 k x), fun g e => ⟨(h.sd g e).1, fun x => (h.sd g e).2 (b2 g x)⟩⟩, b2⟩
theorem PostW.below (h : PostW E pp pb mb c w q vr S recs vs ps) (hb : Below w.heap.size w w') : PostW E pp pb mb c w' q vr S recs vs ps ∧ ∀ k, bagOwn w' pb mb q vr S k → bagOwn w pb mb q vr S k :=
  h.chg (Chg.below hb : Chg (fun _ => False) w w') (fun _ _ e => e) (fun _ _ e => e) (fun _ _ e => e)
theorem PostW.cell9 (h : PostW E pp pb mb c w q vr S recs vs ps) : w.cell? ⟨pp, 9, none⟩ = some (.pointer (some ⟨pb, 0, none⟩)) := by
  obtain ⟨C, h3, _, h4, _⟩ := h.blk
  rw [Lib.cell_of_heap h3]; exact h4
theorem PostW.cell10 (h : PostW E pp pb mb c w q vr S recs vs ps) : w.cell? ⟨pp, 10, none⟩ = some vs := by
  obtain ⟨C, h3, _, _, h4⟩ := h.blk
  rw [Lib.cell_of_heap h3]; exact h4
theorem PostW.froz (h : PostW E pp pb mb c w q vr S recs vs ps) (j : Nat) : w.frozen? ⟨pp, j, none⟩ = false := by
  obtain ⟨C, h3, _⟩ := h.blk
  exact Lib.frozen_of_heap h3 j
theorem PostW.slt (h : PostW E pp pb mb c w q vr S recs vs ps) {g : Nat} (hg : vs.ownBlock = some g) : g < w.heap.size := (own_in h.row hg).2
end

set_option maxHeartbeats 400000 in
theorem bagKept_row {pb mb : Nat} {q : Nat → Nat} {vr : Value} {S : PStore} {recs : List UInt8} {w : World} (h : BagR w pb mb q vr S recs) :
    Calls Tryz.prog 17 #[.pointer (some ⟨pb, 0, none⟩)] w fun e w' => e = .returned (.string (bs recs)) ∧ w = w' := by
  have c0 : w.cell? ⟨pb, 0, none⟩ = some vr := by rw [Lib.cell_of_heap h.inn.bag]; rfl
  have hcv := h.row.string
  clear h
  go_enter Tryz.func17, Tryz.ntmps17
  go_wp2_with fail
  go_ret
  exact ⟨rfl, rfl⟩
set_option maxHeartbeats 400000 in
theorem kept_row {E : Nat → Prop} {pp pb mb : Nat} {c : Cfg} {w : World} {q : Nat → Nat} {vr : Value} {S : PStore} {recs : List UInt8} {vs : Value} {ps : List Value} (h : PostW E pp pb mb c w q vr S recs vs ps) :
    Calls Tryz.prog 9 #[.pointer (some ⟨pp, 0, none⟩)] w fun e w' => e = .returned (.tuple #[.string (bs recs), .int .i64 0]) ∧ w = w' := by
  have c9 := h.cell9
  have HK := Lib.hid (bagKept_row h.bag)
  clear h
  go_enter Tryz.func9, Tryz.ntmps9
  go_wp2_with fail
  refine HK.out.mono ?_
  rintro e w' ⟨rfl, rfl⟩
  go_wp2_with fail
  go_ret2
  exact ⟨rfl, rfl⟩
set_option maxHeartbeats 400000 in
theorem queue_row {E : Nat → Prop} {pp pb mb : Nat} {c : Cfg} {w : World} {q : Nat → Nat} {vr : Value} {S : PStore} {recs : List UInt8} {vs : Value} {ps : List Value} (h : PostW E pp pb mb c w q vr S recs vs ps) (hO : S.Ok) (hl : S.items.length ≤ 1048576) :
    Calls Tryz.prog 12 #[.pointer (some ⟨pp, 0, none⟩)] w fun e w' => ∃ v rows, e = .returned (.tuple #[v, .int .i64 0]) ∧ RowsIn w.heap.size w' v rows ∧ rows.map (·.1) = queueL S.items ∧ Below w.heap.size w w' := by
  have c9 := h.cell9
  have HK := Lib.hid (bagQueue_any 0 pb mb q vr _ w h.bag.inn hO (by omega))
  clear h hO
  go_enter Tryz.func12, Tryz.ntmps12
  go_wp2_with fail
  refine HK.out.mono ?_
  rintro e w' ⟨v, rows, rfl, hr, he, hb⟩
  have HR := Lib.hid hr
  have HE := Lib.hid he
  have HB := Lib.hid hb
  clear hr he hb
  go_wp2_with fail
  go_ret2
  exact ⟨v, rows, rfl, HR.out, HE.out, HB.out⟩
end Go.Proofs.YtadcidbeealdpaaGreatDoor

/- Is an address in one of the nets? -/
namespace Go.Proofs.YtadcidbeealdpaaGreatDoor
open Go.RowKit

def inNet (addr : Int) (x : Int × Int) : Bool := decide (addr / 2 ^ (32 - x.2).toNat = x.1 / 2 ^ (32 - x.2).toNat)

set_option maxHeartbeats 1000000 in
set_option maxRecDepth 100000 in
theorem hasAddr_any (c : Cfg) (vD vN vU vW : Value) (addr : Int) (w : World) (h : CfgAt w c vD vN vU vW) (hn : c.nets.length ≤ 5) (hl : ∀ x ∈ c.nets, 0 ≤ x.2 ∧ x.2 ≤ 32) :
    Calls Tryz.prog 22 #[.agg #[.string c.host, vD, vN, vU, .int .i64 c.most, .int .i64 c.size, vW, .int .i64 c.life, .int .i64 c.room], .int .i64 addr] w fun e w' => e = .returned (.bool (c.nets.any (inNet addr))) ∧ Below w.heap.size w w' := by
  obtain ⟨aD, cD, eD⟩ := slice_of h.1
  obtain ⟨aU, cU, eU⟩ := slice_of h.2.2.1
  obtain ⟨aW, cW, eW⟩ := slice_of h.2.2.2
  obtain ⟨aN, cN, eN, hc⟩ := h.2.1.shape
  subst eD eN eU eW
  obtain ⟨W0, hW0⟩ : ∃ W0 : World, w.alloc (.cells #[.string c.host, .slice aD c.doms.length cD, .slice aN c.nets.length cN, .slice aU c.users.length cU, .int .i64 c.most, .int .i64 c.size, .slice aW c.waits.length cW, .int .i64 c.life, .int .i64 c.room] 27) = W0 := ⟨_, rfl⟩
  have B0 : Below w.heap.size w W0 := by rw [← hW0]; exact (Below.refl _ _).alloc (Nat.le_refl _) _
  have HC := Lib.hid hc
  have HL := Lib.hid hl
  have HB0 := Lib.hid B0
  have HW0 := Lib.hid hW0
  clear h hc hl B0 hW0
  go_enter Tryz.func22, Tryz.ntmps22
  go_wp2_with fail
  rw [HW0.out]
  go_loopw [6, 7, 11] (fun _ _ i w' => ∃ k : Nat, k ≤ c.nets.length ∧ i = .int .i64 k ∧ Hid ((c.nets.take k).any (inNet addr) = false) ∧ Hid (Below w.heap.size w w')) (fun _ _ i _ => c.nets.length - (intOf i).toNat)
  case atStart => exact ⟨0, Nat.zero_le _, rfl, Lib.hid rfl, HB0⟩
  case round =>
    obtain ⟨k, hk, rfl, HN, HB⟩ := hrel
    by_cases hlt : k < c.nets.length
    · have hlti : (k : Int) < (c.nets.length : Int) := by omega
      obtain ⟨b, off, rfl, hbw, hcell⟩ := HC.out k 0 hlt (by omega)
      obtain ⟨b', off', eb, _, hcell'⟩ := HC.out k 1 hlt (by omega)
      injection eb with eb
      injection eb with e1 e2 _
      subst e1 e2
      rw [Nat.add_zero, net_at c.nets k hlt] at hcell
      rw [net_at1 c.nets k hlt] at hcell'
      have hxl := HL.out c.nets[k] (List.getElem_mem hlt)
      have HT : Hid ((c.nets.take (k + 1)).any (inNet addr) = inNet addr c.nets[k]) := Lib.hid (by rw [List.take_succ_eq_append_getElem hlt, List.any_append, HN.out]; simp)
      have HA : Hid (inNet addr c.nets[k] = true → c.nets.any (inNet addr) = true) := Lib.hid (fun e => List.any_eq_true.2 ⟨_, List.getElem_mem hlt, e⟩)
      obtain ⟨x, ex⟩ : ∃ x, c.nets[k] = x := ⟨_, rfl⟩
      rw [ex] at hcell hcell' hxl HT HA
      obtain ⟨xa, xl⟩ := x
      simp only at hcell hcell' hxl
      have d0 : wr.cell? ⟨b, off + k * 2, none⟩ = some (.int .i64 xa) := (HB.out.cell (by exact hbw)).trans hcell
      have d1 : wr.cell? ⟨b, off + k * 2 + 1, none⟩ = some (.int .i64 xl) := (HB.out.cell (by exact hbw)).trans hcell'
      have hw1 : IntKind.i64.wrap (32 - xl) = 32 - xl := by rw [IntKind.wrap_i64]; omega
      have hnn : ¬ (32 - xl < 0) := by omega
      have hnn2 : (0 : Int) ≤ 32 - xl := by omega
      clear ex hcell hcell'
      go_wp2_with fail
      go_quiet (fail)
      have B9 := Lib.hid ((HB.out.alloc HB.out.size (.cells #[.int .i64 xa, .int .i64 xl] 46)).trans (below_drewN nq _ _))
      by_cases heq : addr / 2 ^ (32 - xl).toNat = xa / 2 ^ (32 - xl).toNat
      · have hb : (addr / 2 ^ (32 - xl).toNat == xa / 2 ^ (32 - xl).toNat) = true := by rw [beq_iff_eq]; exact heq
        have HR := Lib.hid (HA.out (by unfold inNet; simpa using heq))
        clear heq
        go_wp2_with fail
        go_ret
        exact ⟨by rw [HR.out]; rfl, B9.out⟩
      · have hb : (addr / 2 ^ (32 - xl).toNat == xa / 2 ^ (32 - xl).toNat) = false := by rw [beq_eq_false_iff_ne]; exact heq
        have hN := HT.out.trans (show inNet addr (xa, xl) = false by unfold inNet; simpa using heq)
        have HN9 := Lib.hid hN
        clear heq hN
        go_wp2_with fail
        exact ⟨⟨k + 1, by omega, by go_num, HN9, B9⟩, by simp [intOf]; omega⟩
    · have hk9 : k = c.nets.length := by omega
      subst hk9
      rw [List.take_length] at HN
      go_wp2_with fail
      go_ret
      exact ⟨by rw [HN.out]; rfl, HB.out⟩
end Go.Proofs.YtadcidbeealdpaaGreatDoor
