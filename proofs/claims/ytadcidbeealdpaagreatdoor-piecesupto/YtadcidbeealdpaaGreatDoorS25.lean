import Derived.Test.YtadcidbeealdpaaGreatDoorS24
import Derived.Deep.QuietTactic
import Derived.BigQuiet
import Derived.Deep.RegionHeld3
import Derived.Test.YtadcidbeealdpaaGreatDoorS07
import Derived.Shelf.Spec.BytesIndexFunc
import Derived.Test.YtadcidbeealdpaaGreatDoorProg
import Derived.Test.YtadcidbeealdpaaGreatDoorS01
import Derived.Test.YtadcidbeealdpaaGreatDoorS22
import Derived.Lib.DecodeN

/- A body ends. -/
namespace Go.Proofs.YtadcidbeealdpaaGreatDoor
open Go.RowKit

theorem bagOwn.lt {w : World} {pb mb : Nat} {q : Nat → Nat} {vr : Value} {S : PStore} {recs : List UInt8} (h : BagR w pb mb q vr S recs) {k : Nat} (hk : bagOwn w pb mb q vr S k) : k < w.heap.size := by
  rcases hk with (e | e | ⟨i, hi, e | ⟨C, z, e1, e2⟩⟩) | e
  · rw [e]; exact h.inn.pblt
  · rw [e]; exact h.inn.mblt
  · obtain ⟨_, v, x, b, _⟩ := h.inn.mail i hi
    rw [e]; exact heap_some_lt b
  · obtain ⟨_, v, x, b, cc⟩ := h.inn.mail i hi
    unfold BmAt at b
    rw [b] at e1
    injection e1 with e1
    injection e1 with e1 _ _
    rw [← e1] at e2
    exact (cc.lt k e2).2
  · exact h.row.lt e
theorem BagR.chg {B : Nat → Prop} {w w' : World} {pb mb : Nat} {q : Nat → Nat} {vr : Value} {S : PStore} {recs : List UInt8} (h : BagR w pb mb q vr S recs) (hc : Chg B w w') (hB : ∀ k, bagOwn w pb mb q vr S k → ¬ B k) : BagR w' pb mb q vr S recs ∧ ∀ k, bagOwn w' pb mb q vr S k → bagOwn w pb mb q vr S k := by
  have hq : ∀ i ∈ S.live, w'.heap[q i]? = w.heap[q i]? := fun i hi => by
    obtain ⟨_, v, x, b, _⟩ := h.inn.mail i hi
    exact hc.block _ (heap_some_lt b) (hB _ (.inl (.inr (.inr ⟨i, hi, .inl rfl⟩))))
  refine ⟨⟨⟨hc.some_ h.inn.bag (hB _ (.inl (.inl rfl))), hc.some_ h.inn.map (hB _ (.inl (.inr (.inl rfl)))), h.inn.pbb, h.inn.mbb, h.inn.one, fun i hi => ?_⟩, h.row.chg hc (fun g hg => hB g (.inr hg))⟩, fun k hk => hk.imp (fun e => bagBlk.keep hq e) id⟩
  obtain ⟨a, v, x, b, cc⟩ := h.inn.mail i hi
  refine ⟨a, v, x, hc.some_ b (hB _ (.inl (.inr (.inr ⟨i, hi, .inl rfl⟩)))), own_chg cc hc (fun g hg => hB g (.inl (.inr (.inr ⟨i, hi, .inr ⟨_, _, b, hg⟩⟩))))⟩

/-- what a line leaves -/
def LinePost (A : Nat → Prop) (pp pb mb sb ch : Nat) (vw : Value) (q : Nat → Nat) (vr : Value) (S : PStore) (w : World) (s' : PSes) (S' : PStore) (recs' : List UInt8) (ls' : List (List UInt8)) (w' : World) : Prop :=
  ∃ A' q' vr', SesIn w' A' pp pb sb ch vw ls' s' ∧ BagR w' pb mb q' vr' S' recs' ∧ (∀ k, A k → A' k) ∧ (∀ k, A' k → A k ∨ w.heap.size ≤ k) ∧ (∀ k, bagOwn w' pb mb q' vr' S' k → bagOwn w pb mb q vr S k ∨ w.heap.size ≤ k) ∧ (∀ k, A' k → ¬ bagOwn w' pb mb q' vr' S' k) ∧ Chg (fun k => A k ∨ bagOwn w pb mb q vr S k) w w'
section
variable {A : Nat → Prop} {pp pb mb sb ch : Nat} {vw : Value} {q : Nat → Nat} {vr : Value} {S : PStore} {recs : List UInt8} {w : World} {s : PSes} {E : Nat → Prop} {c : Cfg}
theorem LinePost.step {w' : World} {s' : PSes} {ls' : List (List UInt8)} {e : Ending} (hb : BagR w pb mb q vr S recs) (hd : ∀ k, A k → ¬ bagOwn w pb mb q vr S k) (h : StepPost A pp pb sb ch vw w s' ls' e w') : LinePost A pp pb mb sb ch vw q vr S w s' S recs ls' w' := by
  obtain ⟨_, A', h1, h2, h3, h4⟩ := h
  obtain ⟨b1, b2⟩ := hb.chg h4 (fun k hk a => hd k a hk)
  exact ⟨A', q, vr, h1, b1, h2, h3, fun k hk => .inl (b2 k hk), fun k ha hk => (h3 k ha).elim (fun e => hd k e (b2 k hk)) (fun e => by have := bagOwn.lt hb (b2 k hk); omega), h4.mono (fun k _ e => .inl e)⟩

/-- the transaction is dropped -/
theorem SesIn.drop_d {ls : List (List UInt8)} (h : SesIn w A pp pb sb ch vw ls s) (u : FrameMode) : CallsD Tryz.prog 110 #[.pointer (some ⟨sb, 0, none⟩)] u w fun e u' w' => u' = u ∧ e = .returned (.tuple #[]) ∧ SesIn w' A pp pb sb ch vw ls { s with tx := none } ∧ Chg A w w' := by
  obtain ⟨vx, h1, h2⟩ := h.ex
  refine (sesDrop_d sb vx u w (h1.cell 8) (h1.frozen 8)).mono ?_
  rintro e u' w' ⟨rfl, rfl, rfl⟩
  have S1 : Same sb w (w.setCell ⟨sb, 8, none⟩ (.pointer none)) := (Same.refl _ _).setCell _
  exact ⟨rfl, rfl, ⟨⟨.pointer none, h1.set 8 (by decide) (.pointer none), rfl⟩, h.asb, h.ach, fun k hk => Nat.lt_of_lt_of_le (h.lt k hk) (Chg.same S1).size⟩, (Chg.same S1).mono (fun k _ e => by rw [e]; exact h.asb)⟩

set_option maxHeartbeats 1000000 in
set_option maxRecDepth 100000 in
theorem end_bad (h : SesIn w A pp pb sb ch vw [] s) {t : PTx} (ht : s.tx = some t) {b : PBody} (hb : t.body = some b) (hbad : b.bad = true) :
    Calls Tryz.prog 72 #[.pointer (some ⟨sb, 0, none⟩)] w (StepPost A pp pb sb ch vw w { s with tx := none } [l500]) := by
  obtain ⟨vx, h1, h2⟩ := h.ex
  rw [ht] at h2
  obtain ⟨tb, vt, vb, rfl, ha, hT, hO, hB⟩ := h2
  rw [hb] at hB
  obtain ⟨bb, vy, rfl, hba, hBA, hBO⟩ := hB
  have c8 : w.cell? ⟨sb, 8, none⟩ = some (.pointer (some ⟨tb, 0, none⟩)) := h1.cell 8
  have t2 : w.cell? ⟨tb, 2, none⟩ = some (.pointer (some ⟨bb, 0, none⟩)) := hT.cell 2
  have b2 : w.cell? ⟨bb, 2, none⟩ = some (.bool true) := by rw [Lib.cell_of_heap hBA.blk, ← hbad]; rfl
  have HT := Lib.hid (h.tell (by simp) [53, 48, 48, 32, 119, 104, 97, 116] (by decide))
  clear h h1 hT hBA
  go_enter_defers Tryz.func72, Tryz.ntmps72
  go_wp2_with fail
  refine HT.out.mono ?_
  rintro e w1 ⟨rfl, h1, hK1⟩
  have HH1 := Lib.hid h1
  have HK1 := Lib.hid hK1
  clear h1 hK1
  go_wp2_with fail
  refine leaves_cons (f := 110) (args := #[.pointer (some ⟨sb, 0, none⟩)]) (by simp) (by simp [go_sem]) ?_
  refine (HH1.out.drop_d .returning).mono ?_
  rintro e u' w2 ⟨rfl, rfl, h2, hK2⟩
  exact ⟨_, results_none rfl _ _ _, rfl, A, h2, fun _ a => a, fun _ a => .inl a, HK1.out.trans hK2 (fun _ _ e => e)⟩
end
end Go.Proofs.YtadcidbeealdpaaGreatDoor

/- A body ends: it is too long, there is no room, it is kept. -/
namespace Go.Proofs.YtadcidbeealdpaaGreatDoor
open Go.RowKit

def onlyN (Q : Exit → Act → World → Prop) : Exit → Act → World → Prop
  | .normal, a, w => Q .normal a w
  | _, _, _ => False
theorem wp_onlyN {P : Program} {c : Code} {Q : Exit → Act → World → Prop} {a : Act} {w : World} (h : c.wp P (onlyN Q) a w) : c.wp P Q a w := Code.wp_mono (fun e a w h => by cases e <;> first | exact h | exact False.elim h) h
section
variable {A : Nat → Prop} {pp pb mb sb ch : Nat} {vw : Value} {q : Nat → Nat} {vr : Value} {S : PStore} {recs : List UInt8} {w : World} {s : PSes} {E : Nat → Prop} {c : Cfg}
set_option maxHeartbeats 1000000 in
set_option maxRecDepth 100000 in
theorem end_long (h : SesIn w A pp pb sb ch vw [] s) (he : EnvAt E w pp c) {t : PTx} (ht : s.tx = some t) {b : PBody} (hb : t.body = some b) (hbad : b.bad = false) (hlen : c.size < (b.text.length : Int)) :
    Calls Tryz.prog 72 #[.pointer (some ⟨sb, 0, none⟩)] w (StepPost A pp pb sb ch vw w { s with tx := none } [l552]) := by
  obtain ⟨vx, h1, h2⟩ := h.ex
  obtain ⟨vD, vN, vU, vW, hs, _⟩ := he.set
  rw [ht] at h2
  obtain ⟨tb, vt, vb, rfl, ha, hT, hO, hB⟩ := h2
  rw [hb] at hB
  obtain ⟨bb, vy, rfl, hba, hBA, hBO⟩ := hB
  obtain ⟨ay, cy, ey⟩ := rowF_len hBA.row
  subst ey
  have c0 : w.cell? ⟨sb, 0, none⟩ = some (.pointer (some ⟨pp, 0, none⟩)) := h1.cell 0
  have c8 : w.cell? ⟨sb, 8, none⟩ = some (.pointer (some ⟨tb, 0, none⟩)) := h1.cell 8
  have t2 : w.cell? ⟨tb, 2, none⟩ = some (.pointer (some ⟨bb, 0, none⟩)) := hT.cell 2
  have b0 : w.cell? ⟨bb, 0, none⟩ = some (.slice ay b.text.length cy) := by rw [Lib.cell_of_heap hBA.blk]; rfl
  have b2 : w.cell? ⟨bb, 2, none⟩ = some (.bool false) := by rw [Lib.cell_of_heap hBA.blk, ← hbad]; rfl
  have y5 : w.cell? ⟨pp, 5, none⟩ = some (.int .i64 c.size) := (hs.cell 5 (by decide)).trans rfl
  have HH := Lib.hid h
  clear h h1 hT hBA hs he
  go_enter_defers Tryz.func72, Tryz.ntmps72
  go_wp2_with fail
  go_quiet (fail)
  have hb0 := below_drewN nq w w.heap.size
  obtain ⟨w0, hw0⟩ : ∃ w0, w.drewN nq = w0 := ⟨_, rfl⟩
  rw [hw0] at hb0 ⊢
  have HT := Lib.hid ((HH.out.below hb0).tell (by simp) [53, 53, 50, 32, 115, 105, 122, 101] (by decide))
  have HB0 := Lib.hid hb0
  clear hb0 hw0
  go_wp2_with fail
  refine HT.out.mono ?_
  rintro e w1 ⟨rfl, h1, hK1⟩
  have HH1 := Lib.hid h1
  have HK1 := Lib.hid hK1
  clear h1 hK1
  go_wp2_with fail
  refine leaves_cons (f := 110) (args := #[.pointer (some ⟨sb, 0, none⟩)]) (by simp) (by simp [go_sem]) ?_
  refine (HH1.out.drop_d .returning).mono ?_
  rintro e u' w2 ⟨rfl, rfl, h2, hK2⟩
  exact ⟨_, results_none rfl _ _ _, rfl, A, h2, fun _ a => a, fun _ a => .inl a, ((Chg.below HB0.out : Chg A _ _).trans HK1.out (fun _ _ e => e)).trans hK2 (fun _ _ e => e)⟩

/-- Keep, both ways -/
def keepR (S : PStore) (recs : List UInt8) (pb mb : Nat) (q : Nat → Nat) (vr : Value) (m : PMail) (W : World) (id : Int) (ok : Bool) (w' : World) : Prop :=
  (ok = false ∧ Below W.heap.size W w') ∨ (ok = true ∧ id = (S.items.length : Int) + 1 ∧ KeptPost pb mb q vr S recs m W w')
theorem KeptPost.from {m : PMail} {W w' : World} (h : BagR w pb mb q vr S recs) (hb : Below w.heap.size w W) (hk : KeptPost pb mb q vr S recs m W w') : KeptPost pb mb q vr S recs m w w' := by
  obtain ⟨q', vr', R5, K5, O5⟩ := hk
  have back : ∀ k, bagOwn W pb mb q vr S k → bagOwn w pb mb q vr S k := fun k hk => hk.imp (fun e => bagBlk_below h.inn hb e) id
  exact ⟨q', vr', R5, (Chg.below hb : Chg _ _ _).trans K5 (fun k _ e => back k e), fun k hk => (O5 k hk).imp (back k) (fun e => Nat.le_trans hb.size e)⟩
theorem keepR.chg {m : PMail} {w' : World} {id : Int} {ok : Bool} (h : keepR S recs pb mb q vr m w id ok w') : Chg (bagOwn w pb mb q vr S) w w' := by
  rcases h with ⟨_, h⟩ | ⟨_, _, _, _, _, h, _⟩
  · exact Chg.below h
  · exact h
def keepB (c : Cfg) (recs : List UInt8) (m : PMail) : Bool := !decide (c.room < ((recs.length + (8 + (mailE m).length) : Nat) : Int))

set_option maxHeartbeats 4000000 in
set_option maxRecDepth 100000 in
theorem end_keep (h : SesIn w A pp pb sb ch vw [] s) (he : EnvAt E w pp c) (hbg : BagR w pb mb q vr S recs) {t : PTx} (ht : s.tx = some t) {b : PBody} (hb : t.body = some b) (hbad : b.bad = false) (hlen : ¬ c.size < (b.text.length : Int)) (hz : MailSz (newM S t.frm t.tos b.text)) (hrl : recs.length ≤ 1073741824) (hr0 : readMailS (mailE (newM S t.frm t.tos b.text)) = some (newM S t.frm t.tos b.text)) (hdA : ∀ k, A k → ¬ bagOwn w pb mb q vr S k) (hdE : ∀ k, E k → ¬ bagOwn w pb mb q vr S k) (hdEA : ∀ k, E k → ¬ A k) :
    Calls Tryz.prog 72 #[.pointer (some ⟨sb, 0, none⟩)] w fun e w' => e = .returned (.tuple #[]) ∧
      (if keepB c recs (newM S t.frm t.tos b.text) then LinePost A pp pb mb sb ch vw q vr S w { s with tx := none } (S.plus (newM S t.frm t.tos b.text)) (recs ++ frameE (mailE (newM S t.frm t.tos b.text))) [[50, 53, 48, 32, 107, 101, 112, 116, 32] ++ Lib.itoa ((S.items.length : Int) + 1) ++ [13, 10]] w' else LinePost A pp pb mb sb ch vw q vr S w { s with tx := none } S recs [l452] w') := by
  obtain ⟨vx, h1, h2⟩ := h.ex
  obtain ⟨vD, vN, vU, vW, hs, _⟩ := he.set
  obtain ⟨m, hm⟩ := he.len
  rw [ht] at h2
  obtain ⟨tb, vt, vb, rfl, ha, hT, hO, hB⟩ := h2
  rw [hb] at hB
  obtain ⟨bb, vy, rfl, hba, hBA, hBO⟩ := hB
  obtain ⟨ay, cy, ey⟩ := rowF_len hBA.row
  have hRM := RowM.ofF hBA.row
  subst ey
  obtain ⟨at_, ct, et⟩ := slice_of (row_of_own' hT.row)
  subst et
  have c0 : w.cell? ⟨sb, 0, none⟩ = some (.pointer (some ⟨pp, 0, none⟩)) := h1.cell 0
  have c1 : w.cell? ⟨sb, 1, none⟩ = some (.pointer (some ⟨pb, 0, none⟩)) := h1.cell 1
  have c8 : w.cell? ⟨sb, 8, none⟩ = some (.pointer (some ⟨tb, 0, none⟩)) := h1.cell 8
  have t0 : w.cell? ⟨tb, 0, none⟩ = some (.string (bs t.frm)) := hT.cell 0
  have t1 : w.cell? ⟨tb, 1, none⟩ = some (.slice at_ t.tos.length ct) := hT.cell 1
  have t2 : w.cell? ⟨tb, 2, none⟩ = some (.pointer (some ⟨bb, 0, none⟩)) := hT.cell 2
  have b0 : w.cell? ⟨bb, 0, none⟩ = some (.slice ay b.text.length cy) := by rw [Lib.cell_of_heap hBA.blk]; rfl
  have b2 : w.cell? ⟨bb, 2, none⟩ = some (.bool false) := by rw [Lib.cell_of_heap hBA.blk, ← hbad]; rfl
  have y5 : w.cell? ⟨pp, 5, none⟩ = some (.int .i64 c.size) := (hs.cell 5 (by decide)).trans rfl
  have y8 : w.cell? ⟨pp, 8, none⟩ = some (.int .i64 c.room) := (hs.cell 8 (by decide)).trans rfl
  have hro := (may_nums he.may).2.2.2
  obtain ⟨kb, ekb⟩ : ∃ kb, keepB c recs (newM S t.frm t.tos b.text) = kb := ⟨_, rfl⟩
  have hid : S.items.length + 1 ≤ 4294967295 := hz.1
  have HKN : Hid (∀ W : World, Below w.heap.size w W → Calls Tryz.prog 111 #[.pointer (some ⟨pb, 0, none⟩), .string (bs t.frm), .slice at_ t.tos.length ct, .string (bs b.text), .int .i64 c.room] W fun e w' => ∃ id, e = .returned (.tuple #[.int .i64 id, .bool kb]) ∧ keepR S recs pb mb q vr (newM S t.frm t.tos b.text) w id kb w') := Lib.hid (fun W hbw => by
    have hbgW : BagR W pb mb q vr S recs := ⟨hbg.inn.keep hbw, hbg.row.below hbw⟩
    have hTW := (row_of_own' hT.row).below hbw
    by_cases hroom : c.room < ((recs.length + (8 + (mailE (newM S t.frm t.tos b.text)).length) : Nat) : Int)
    · have hk : kb = false := by rw [← ekb]; unfold keepB; rw [decide_eq_true hroom]; rfl
      subst hk
      refine (keep_no pb mb q vr _ S recs t.frm b.text t.tos c.room W hbgW hTW hz hrl hroom).mono ?_
      rintro e w' ⟨rfl, hb'⟩
      exact ⟨0, rfl, .inl ⟨rfl, hbw.trans (hb'.mono hbw.size)⟩⟩
    · have hk : kb = true := by rw [← ekb]; unfold keepB; rw [decide_eq_false hroom]; rfl
      subst hk
      refine (keep_yes pb mb q vr _ S recs t.frm b.text t.tos c.room m W hbgW hTW hz hrl hroom hro ((hbw.cell (block_lt hm)).trans hm) hr0).mono ?_
      rintro e w' ⟨rfl, hb'⟩
      exact ⟨_, rfl, .inr ⟨rfl, rfl, KeptPost.from hbg hbw hb'⟩⟩)
  have HS : Hid (∀ W : World, Chg (bagOwn w pb mb q vr S) w W → W.cell? ⟨sb, 0, none⟩ = some (.pointer (some ⟨pp, 0, none⟩)) ∧ W.cell? ⟨sb, 1, none⟩ = some (.pointer (some ⟨pb, 0, none⟩)) ∧ W.cell? ⟨tb, 0, none⟩ = some (.string (bs t.frm)) ∧ W.cell? ⟨tb, 1, none⟩ = some (.slice at_ t.tos.length ct) ∧ W.cell? ⟨tb, 2, none⟩ = some (.pointer (some ⟨bb, 0, none⟩)) ∧ W.cell? ⟨bb, 0, none⟩ = some (.slice ay b.text.length cy) ∧ W.cell? ⟨pp, 8, none⟩ = some (.int .i64 c.room) ∧ (convert 76 9 (.slice ay b.text.length cy)).run Tryz.prog W = .ok (.string (bs b.text)) W) := Lib.hid (fun W hK => by
    have mv : ∀ {x o : Nat} {v : Value}, w.cell? ⟨x, o, none⟩ = some v → ¬ bagOwn w pb mb q vr S x → W.cell? ⟨x, o, none⟩ = some v := fun e hn => (World.cell?_of_block (hK.block _ (block_lt e) hn)).trans e
    exact ⟨mv c0 (hdA _ h.asb), mv c1 (hdA _ h.asb), mv t0 (hdA _ ha), mv t1 (hdA _ ha), mv t2 (hdA _ ha), mv b0 (hdA _ hba), mv y8 (hdE _ he.epp), (hRM.chg hK (fun g hg => hdA g (hBO g hg))).string⟩)
  have HH := Lib.hid h
  have HE := Lib.hid he
  have HBG := Lib.hid hbg
  have HdA := Lib.hid hdA
  have HdE := Lib.hid hdE
  have HdEA := Lib.hid hdEA
  rw [ekb]
  clear h h1 hT hBA hs he hbg hz hrl hRM hr0 hdA hdE hdEA hm ekb
  go_enter_defers Tryz.func72, Tryz.ntmps72
  go_wp2_with fail
  go_quiet (fail)
  have hb0 := below_drewN nq w w.heap.size
  obtain ⟨w0, hw0⟩ : ∃ w0, w.drewN nq = w0 := ⟨_, rfl⟩
  rw [hw0] at hb0 ⊢
  have hKN := HKN.out _ (hb0.trans ((Below.refl w.heap.size w0).drew))
  have HK0 := Lib.hid hKN
  have C0 : Hid (Chg (bagOwn w pb mb q vr S) w w0) := Lib.hid (Chg.below hb0)
  have C1 : Hid (Chg (bagOwn w pb mb q vr S) w w0.drew) := Lib.hid (Chg.below (hb0.trans ((Below.refl w.heap.size w0).drew)))
  obtain ⟨s0, s1, s2, s3, s4, s5, s6, s7⟩ := HS.out _ C0.out
  clear hb0 hw0 c0 c1 c8 t0 t1 t2 b0 b2 y5 y8 hKN HKN
  go_wp2_with fail
  go_region_held3 (fun w' => w'.cell? ⟨sb, 0, none⟩ = some (.pointer (some ⟨pp, 0, none⟩)) ∧ w'.cell? ⟨sb, 1, none⟩ = some (.pointer (some ⟨pb, 0, none⟩)) ∧ w'.cell? ⟨tb, 0, none⟩ = some (.string (bs t.frm)) ∧ w'.cell? ⟨tb, 1, none⟩ = some (.slice at_ t.tos.length ct) ∧ w'.cell? ⟨tb, 2, none⟩ = some (.pointer (some ⟨bb, 0, none⟩)) ∧ w'.cell? ⟨bb, 0, none⟩ = some (.slice ay b.text.length cy) ∧ w'.cell? ⟨pp, 8, none⟩ = some (.int .i64 c.room) ∧ (convert 76 9 (.slice ay b.text.length cy)).run Tryz.prog w' = .ok (.string (bs b.text)) w')
    (first | exact HS.out _ C5.out | exact HS.out _ C1.out | exact HS.out _ C0.out)
    (first
      | (go_at_call 111; refine HK0.out.mono ?_; rintro e w5 ⟨id, rfl, hk5⟩; have C5 := Lib.hid hk5.chg; have HK5 := Lib.hid hk5; clear hk5))
  have HH5 := Lib.hid (HH.out.chg C5.out HdA.out)
  have HE5 := Lib.hid (HE.out.chg C5.out HdE.out)
  clear HS C0 C1 HK0 s0 s1 s2 s3 s4 s5 s6 s7
  cases kb with
  | false =>
    have HB5 : Hid (Below w.heap.size w w5) := Lib.hid (by
      rcases HK5.out with ⟨_, h⟩ | ⟨h, _⟩
      · exact h
      · cases h)
    have HT := Lib.hid ((HH.out.below HB5.out).tell (by simp) [52, 53, 50, 32, 114, 111, 111, 109] (by decide))
    go_wp2_with fail
    refine HT.out.mono ?_
    rintro e w6 ⟨rfl, h6, hK6⟩
    have HH6 := Lib.hid h6
    have HK6 := Lib.hid hK6
    clear h6 hK6
    go_wp2_with fail
    refine leaves_cons (f := 110) (args := #[.pointer (some ⟨sb, 0, none⟩)]) (by simp) (by simp [go_sem]) ?_
    refine (HH6.out.drop_d .returning).mono ?_
    rintro e u' w7 ⟨rfl, rfl, h7, hK7⟩
    refine ⟨_, results_none rfl _ _ _, rfl, ?_⟩
    exact LinePost.step (e := .returned (.tuple #[])) HBG.out HdA.out ⟨rfl, A, h7, fun _ a => a, fun _ a => .inl a, ((Chg.below HB5.out : Chg A _ _).trans HK6.out (fun _ _ e => e)).trans hK7 (fun _ _ e => e)⟩
  | true =>
    obtain ⟨hid5, HKP⟩ : id = (S.items.length : Int) + 1 ∧ Hid (KeptPost pb mb q vr S recs (newM S t.frm t.tos b.text) w w5) := by
      rcases HK5.out with ⟨h, _⟩ | ⟨_, h1, h2⟩
      · cases h
      · exact ⟨h1, Lib.hid h2⟩
    subst hid5
    have hil : (Lib.itoa ((S.items.length : Int) + 1)).length ≤ 10 := by
      unfold Lib.itoa
      rw [if_neg (by omega)]
      exact decDigits_len _ 9 (by omega)
    have HIT := Lib.hid (itoa_any ((S.items.length : Int) + 1) (by omega) (by omega) w5 HE5.out.pow)
    have hadd : (⟨#[50, 53, 48, 32, 107, 101, 112, 116, 32]⟩ : ByteArray) ++ bs (Lib.itoa ((S.items.length : Int) + 1)) = bs ([50, 53, 48, 32, 107, 101, 112, 116, 32] ++ Lib.itoa ((S.items.length : Int) + 1)) := bs_append [50, 53, 48, 32, 107, 101, 112, 116, 32] _
    have HAD := Lib.hid hadd
    have hsi := bs_size (Lib.itoa ((S.items.length : Int) + 1))
    obtain ⟨it, eit⟩ : ∃ it, Lib.itoa ((S.items.length : Int) + 1) = it := ⟨_, rfl⟩
    rw [eit] at hil HIT HAD hsi
    have HEIT := Lib.hid eit
    clear hadd eit HK5
    go_wp2_with fail
    refine HIT.out.mono ?_
    rintro e w6 ⟨rfl, hb6⟩
    have HB6 := Lib.hid hb6
    have HT := Lib.hid ((HH5.out.below hb6).tell (by simp) ([50, 53, 48, 32, 107, 101, 112, 116, 32] ++ it) (by rw [List.length_append]; simp; omega))
    clear hb6
    go_wp2_with fail
    rw [HAD.out]
    refine HT.out.mono ?_
    rintro e w7 ⟨rfl, h7, hK7⟩
    have HH7 := Lib.hid h7
    have HK7 := Lib.hid hK7
    clear h7 hK7
    go_wp2_with fail
    refine leaves_cons (f := 110) (args := #[.pointer (some ⟨sb, 0, none⟩)]) (by simp) (by simp [go_sem]) ?_
    refine (HH7.out.drop_d .returning).mono ?_
    rintro e u' w8 ⟨rfl, rfl, h8, hK8⟩
    refine ⟨_, results_none rfl _ _ _, rfl, ?_⟩
    obtain ⟨q', vr', R5, K5, O5⟩ := HKP.out
    have K58 : Chg A w5 w8 := ((Chg.below HB6.out : Chg A _ _).trans HK7.out (fun _ _ e => e)).trans hK8 (fun _ _ e => e)
    have hd5 : ∀ k, bagOwn w5 pb mb q' vr' (S.plus (newM S t.frm t.tos b.text)) k → ¬ A k := fun k hk a => (O5 k hk).elim (fun e => HdA.out k a e) (fun e => by have := HH.out.lt k a; omega)
    obtain ⟨R8, O8⟩ := R5.chg K58 hd5
    rw [HEIT.out]
    exact ⟨A, q', vr', h8, R8, fun _ a => a, fun _ a => .inl a, fun k hk => O5 k (O8 k hk), fun k a hk => hd5 k (O8 k hk) a, (K5.mono (fun k _ e => .inr e)).trans K58 (fun k _ e => .inl e)⟩
end
end Go.Proofs.YtadcidbeealdpaaGreatDoor

/- A line of a body is heard. -/
namespace Go.Proofs.YtadcidbeealdpaaGreatDoor
open Go.RowKit

/-- what holds of each transaction -/
structure TxOk (t : PTx) : Prop where
  frm : t.frm = [] ∨ isKeptB t.frm = true
  tos : ∀ x ∈ t.tos, isKeptB x = true
  one : t.tos.Nodup
  most : t.tos.length ≤ 10
  body : ∀ b, t.body = some b → 1 ≤ t.tos.length ∧ b.text.length ≤ 1102
/-- what holds of what is kept -/
structure KeepOk (S : PStore) (recs : List UInt8) : Prop where
  time : S.time ≤ 1000000000
  len : S.items.length + 1 ≤ 4294967295
  recs : recs.length ≤ 1073741824
theorem isKeptB_len {l : List UInt8} (h : isKeptB l = true) : l.length ≤ 61 := by
  unfold isKeptB at h
  rw [Bool.and_eq_true, beq_iff_eq] at h
  have := addrR_len l
  rw [← h.2]
  unfold keptR
  simp only [List.length_append, List.length_cons]
  omega
theorem recipB_of {tos : List (List UInt8)} (h1 : 1 ≤ tos.length) (h2 : tos.length ≤ 10) (h3 : ∀ x ∈ tos, isKeptB x = true) (h4 : tos.Nodup) : recipB tos = true := by
  unfold recipB
  rw [decide_eq_true h1, decide_eq_true h2]
  simp only [Bool.true_and, List.all_eq_true, List.mem_range]
  intro k hk
  have e : ∀ j (hj : j < tos.length), tos.getD j [] = tos[j] := fun j hj => by rw [List.getD_eq_getElem?_getD, List.getElem?_eq_getElem hj]; rfl
  unfold toOkB freshB
  rw [Bool.and_eq_true]
  refine ⟨by rw [e k hk]; exact h3 _ (List.getElem_mem hk), ?_⟩
  simp only [List.all_eq_true, List.mem_range, Bool.not_eq_true', beq_eq_false_iff_ne]
  intro j hj
  rw [e j (by omega), e k hk]
  intro e'
  have := (List.nodup_iff_pairwise_ne.1 h4)
  rw [List.pairwise_iff_getElem] at this
  exact this j k (by omega) hk hj e'
section
variable {S : PStore} {recs : List UInt8} {t : PTx} {b : PBody}
theorem newM_sz (hk : KeepOk S recs) (ht : TxOk t) (hb : t.body = some b) : MailSz (newM S t.frm t.tos b.text) := by
  have hf : t.frm.length ≤ 255 := by
    rcases ht.frm with e | e
    · rw [e]; simp
    · have := isKeptB_len e; omega
  have h1 := ht.most
  have h2 := (ht.body b hb).2
  have h3 := hk.time
  exact ⟨hk.len, by show S.time ≤ _; omega, hf, by show t.tos.length ≤ _; omega, fun x hx => by have := isKeptB_len (ht.tos x hx); omega, by show b.text.length ≤ _; omega⟩
theorem newM_may (hk : KeepOk S recs) (ht : TxOk t) (hb : t.body = some b) (hl : b.text.length ≤ 1000) : readMailS (mailE (newM S t.frm t.tos b.text)) = some (newM S t.frm t.tos b.text) := by
  have hz := newM_sz hk ht hb
  obtain ⟨z1, z2, z3, z4, z5, z6⟩ := hz
  have hb1 := ht.body b hb
  have hfit : MailFits (newM S t.frm t.tos b.text) := ⟨by omega, by omega, by omega, by omega, fun x hx => by have := z5 x hx; omega, by show b.text.length < _; omega⟩
  have hmay : mailMayB (newM S t.frm t.tos b.text) = true := by
    unfold mailMayB
    have e1 : decide ((newM S t.frm t.tos b.text).time ≤ 1000000000) = true := decide_eq_true hk.time
    have e2 : ((newM S t.frm t.tos b.text).frm.isEmpty || isKeptB (newM S t.frm t.tos b.text).frm) = true := by
      show (t.frm.isEmpty || isKeptB t.frm) = true
      rcases ht.frm with e | e
      · rw [e]; rfl
      · rw [e, Bool.or_true]
    have e3 : recipB (newM S t.frm t.tos b.text).tos = true := recipB_of hb1.1 ht.most ht.tos ht.one
    have e4 : decide ((newM S t.frm t.tos b.text).body.length ≤ 1000) = true := decide_eq_true hl
    rw [e1, e2, e3, e4]; rfl
  obtain ⟨l, hE⟩ : ∃ l, mailE (newM S t.frm t.tos b.text) = 77 :: l := ⟨_, rfl⟩
  rw [hE]
  unfold readMailS
  simp only [if_true]
  rw [mailS_enc hfit hE]
  simp [hmay]
end
/-- a body ends: what is said, what is kept -/
def endS (c : Cfg) (s : PSes) (S : PStore) (recs : List UInt8) (t : PTx) (b : PBody) : PSes × PStore × List UInt8 × List (List UInt8) :=
  if b.bad then ({ s with tx := none }, S, recs, [l500])
  else if c.size < (b.text.length : Int) then ({ s with tx := none }, S, recs, [l552])
  else if keepB c recs (newM S t.frm t.tos b.text) then ({ s with tx := none }, S.plus (newM S t.frm t.tos b.text), recs ++ frameE (mailE (newM S t.frm t.tos b.text)), [[50, 53, 48, 32, 107, 101, 112, 116, 32] ++ Lib.itoa ((S.items.length : Int) + 1) ++ [13, 10]])
  else ({ s with tx := none }, S, recs, [l452])
def hearBS (c : Cfg) (s : PSes) (S : PStore) (recs : List UInt8) (t : PTx) (b : PBody) (text : List UInt8) (bad : Bool) : PSes × PStore × List UInt8 × List (List UInt8) :=
  if text = [46] then endS c s S recs t b else ({ s with tx := some { t with body := some (b.add text bad c.size) } }, S, recs, [])
section
variable {A : Nat → Prop} {pp pb mb sb ch : Nat} {vw : Value} {q : Nat → Nat} {vr : Value} {S : PStore} {recs : List UInt8} {w : World} {s : PSes} {E : Nat → Prop} {c : Cfg}
theorem end_any (h : SesIn w A pp pb sb ch vw [] s) (he : EnvAt E w pp c) (hbg : BagR w pb mb q vr S recs) (hk : KeepOk S recs) {t : PTx} (ht : s.tx = some t) (hto : TxOk t) {b : PBody} (hb : t.body = some b) (hdA : ∀ k, A k → ¬ bagOwn w pb mb q vr S k) (hdE : ∀ k, E k → ¬ bagOwn w pb mb q vr S k) (hdEA : ∀ k, E k → ¬ A k) :
    Calls Tryz.prog 72 #[.pointer (some ⟨sb, 0, none⟩)] w fun e w' => e = .returned (.tuple #[]) ∧ LinePost A pp pb mb sb ch vw q vr S w (endS c s S recs t b).1 (endS c s S recs t b).2.1 (endS c s S recs t b).2.2.1 (endS c s S recs t b).2.2.2 w' := by
  unfold endS
  cases hbad : b.bad with
  | true =>
    refine (end_bad h ht hb hbad).mono ?_
    intro e w' hP
    exact ⟨hP.1, LinePost.step hbg hdA hP⟩
  | false =>
    by_cases hlen : c.size < (b.text.length : Int)
    · simp only [hlen, if_true]
      refine (end_long h he ht hb hbad hlen).mono ?_
      intro e w' hP
      exact ⟨hP.1, LinePost.step hbg hdA hP⟩
    · simp only [hlen, if_false]
      have hl : b.text.length ≤ 1000 := by have := (may_nums he.may).2.1; omega
      refine (end_keep h he hbg ht hb hbad hlen (newM_sz hk hto hb) hk.recs (newM_may hk hto hb hl) hdA hdE hdEA).mono ?_
      rintro e w' ⟨rfl, hP⟩
      refine ⟨rfl, ?_⟩
      cases hkb : keepB c recs (newM S t.frm t.tos b.text) with
      | true => rw [hkb] at hP; exact hP
      | false => rw [hkb] at hP; exact hP

set_option maxHeartbeats 1000000 in
set_option maxRecDepth 100000 in
theorem hearB_end (h : SesIn w A pp pb sb ch vw [] s) (he : EnvAt E w pp c) (hbg : BagR w pb mb q vr S recs) (hk : KeepOk S recs) {t : PTx} (ht : s.tx = some t) (hto : TxOk t) {b : PBody} (hb : t.body = some b) (hdA : ∀ k, A k → ¬ bagOwn w pb mb q vr S k) (hdE : ∀ k, E k → ¬ bagOwn w pb mb q vr S k) (hdEA : ∀ k, E k → ¬ A k) (bad : Bool) :
    Calls Tryz.prog 46 #[.pointer (some ⟨sb, 0, none⟩), .agg #[.string (bs [46]), .bool bad]] w fun e w' => e = .returned (.tuple #[]) ∧ LinePost A pp pb mb sb ch vw q vr S w (endS c s S recs t b).1 (endS c s S recs t b).2.1 (endS c s S recs t b).2.2.1 (endS c s S recs t b).2.2.2 w' := by
  obtain ⟨W0, hW0⟩ : ∃ W0 : World, w.alloc (.cells #[.string (bs [46]), .bool bad] 89) = W0 := ⟨_, rfl⟩
  have B0 : Below w.heap.size w W0 := by rw [← hW0]; exact (Below.refl _ _).alloc (Nat.le_refl _) _
  have X0 : W0.heap[w.heap.size]? = some (.cells #[.string (bs [46]), .bool bad] 89 (0, 0)) := by rw [← hW0]; exact heap_alloc_new w _
  have e0 : W0.cell? ⟨w.heap.size, 0, none⟩ = some (.string ⟨#[46]⟩) := by rw [Lib.cell_of_heap X0]; rfl
  have back : ∀ k, bagOwn W0 pb mb q vr S k → bagOwn w pb mb q vr S k := fun k hk => hk.imp (fun e => bagBlk_below hbg.inn B0 e) id
  have HT := Lib.hid (end_any (h.below B0) (he.below B0) ⟨hbg.inn.keep B0, hbg.row.below B0⟩ hk ht hto hb (fun k a e => hdA k a (back k e)) (fun k a e => hdE k a (back k e)) hdEA)
  have HB0 := Lib.hid B0
  have HBK := Lib.hid back
  clear h he hbg B0 X0 hdA hdE hdEA back
  go_enter Tryz.func46, Tryz.ntmps46
  go_wp2_with fail
  refine HT.out.mono ?_
  rintro e w1 ⟨rfl, hP⟩
  have HP := Lib.hid hP
  clear hP
  go_wp2_with fail
  refine bodyPost_ret (v := .tuple #[]) (by simp [results, Tryz.results46, go_sem]) rfl ?_
  obtain ⟨A', q', vr', p1, p2, p3, p4, p5, p6, p7⟩ := HP.out
  exact ⟨rfl, A', q', vr', p1, p2, p3, fun k hk => (p4 k hk).imp id (fun e => Nat.le_trans HB0.out.size e), fun k hk => (p5 k hk).imp (HBK.out k) (fun e => Nat.le_trans HB0.out.size e), p6, (Chg.below HB0.out : Chg _ _ _).trans p7 (fun k _ e => e.imp id (HBK.out k))⟩

set_option maxHeartbeats 1000000 in
set_option maxRecDepth 100000 in
theorem hearB_add (h : SesIn w A pp pb sb ch vw [] s) (he : EnvAt E w pp c) {t : PTx} (ht : s.tx = some t) (hto : TxOk t) {b : PBody} (hb : t.body = some b) (text : List UInt8) (bad : Bool) (hne : text ≠ [46]) (htl : text.length ≤ 1048576) :
    Calls Tryz.prog 46 #[.pointer (some ⟨sb, 0, none⟩), .agg #[.string (bs text), .bool bad]] w (StepPost A pp pb sb ch vw w { s with tx := some { t with body := some (b.add text bad c.size) } } []) := by
  obtain ⟨vx, h1, h2⟩ := h.ex
  obtain ⟨vD, vN, vU, vW, hs, _⟩ := he.set
  rw [ht] at h2
  obtain ⟨tb, vt, vb, rfl, ha, hT, hO, hB⟩ := h2
  rw [hb] at hB
  obtain ⟨bb, vy, rfl, hba, hBA, hBO⟩ := hB
  have hbl := (hto.body b hb).2
  obtain ⟨W0, hW0⟩ : ∃ W0 : World, w.alloc (.cells #[.string (bs text), .bool bad] 89) = W0 := ⟨_, rfl⟩
  have B0 : Below w.heap.size w W0 := by rw [← hW0]; exact (Below.refl _ _).alloc (Nat.le_refl _) _
  have X0 : W0.heap[w.heap.size]? = some (.cells #[.string (bs text), .bool bad] 89 (0, 0)) := by rw [← hW0]; exact heap_alloc_new w _
  have e0 : W0.cell? ⟨w.heap.size, 0, none⟩ = some (.string (bs text)) := by rw [Lib.cell_of_heap X0]; rfl
  have e1 : W0.cell? ⟨w.heap.size, 1, none⟩ = some (.bool bad) := by rw [Lib.cell_of_heap X0]; rfl
  have c0 : W0.cell? ⟨sb, 0, none⟩ = some (.pointer (some ⟨pp, 0, none⟩)) := (h1.below B0).cell 0
  have c8 : W0.cell? ⟨sb, 8, none⟩ = some (.pointer (some ⟨tb, 0, none⟩)) := (h1.below B0).cell 8
  have t2 : W0.cell? ⟨tb, 2, none⟩ = some (.pointer (some ⟨bb, 0, none⟩)) := by rw [Lib.cell_of_heap (below_some B0 hT.blk)]; rfl
  have y5 : W0.cell? ⟨pp, 5, none⟩ = some (.int .i64 c.size) := (B0.cell (by exact he.lt _ he.epp)).trans ((hs.cell 5 (by decide)).trans rfl)
  have HH := Lib.hid h
  have hnb : ((bs text).toList == [46]) = false := by rw [beq_eq_false_iff_ne, ByteArray.toList_eq, bs_toList]; exact hne
  have HADD : Hid (∀ W : World, Below W0.heap.size W0 W → Calls Tryz.prog 73 #[.pointer (some ⟨bb, 0, none⟩), .agg #[.string (bs text), .bool bad], .int .i64 c.size] W fun e w' => e = .returned (.tuple #[]) ∧ ∃ vt', BodyAt w' bb vt' (b.add text bad c.size) ∧ Chg (fun k => k = bb ∨ vy.ownBlock = some k) W w' ∧ ∀ k, vt'.ownBlock = some k → vy.ownBlock = some k ∨ W.heap.size ≤ k) := Lib.hid (fun W hbw => bodyAdd_any bb vy b text bad c.size W (hBA.chg (A := fun _ => False) (Chg.below (B0.trans (hbw.mono B0.size))) (fun e => e) (fun _ _ e => e)) (by omega) htl)
  have HB0 := Lib.hid B0
  have H1 := Lib.hid h1
  have HT := Lib.hid hT
  have HBA := Lib.hid hBA
  have HBO := Lib.hid hBO
  have HX0 := Lib.hid X0
  have HPP : Hid (∃ D : Array Value, W0.heap[pp]? = some (.cells D 61 (0, 0)) ∧ True) := Lib.hid (by obtain ⟨D, hD, _⟩ := hs.blk; exact ⟨D, below_some B0 hD, trivial⟩)
  clear h h1 hT hBA hs he B0 X0 hBO
  go_enter Tryz.func46, Tryz.ntmps46
  go_wp2_with fail
  have B1 : Below W0.heap.size W0 W0.drew := (Below.refl _ _).drew
  have HK1 := Lib.hid (HADD.out _ B1)
  have HB1 := Lib.hid B1
  have HSS : Hid (∀ W : World, Chg (fun k => k = bb ∨ vy.ownBlock = some k) W0 W → W.cell? ⟨w.heap.size, 0, none⟩ = some (.string (bs text)) ∧ W.cell? ⟨w.heap.size, 1, none⟩ = some (.bool bad) ∧ W.cell? ⟨sb, 0, none⟩ = some (.pointer (some ⟨pp, 0, none⟩)) ∧ W.cell? ⟨sb, 8, none⟩ = some (.pointer (some ⟨tb, 0, none⟩)) ∧ W.cell? ⟨tb, 2, none⟩ = some (.pointer (some ⟨bb, 0, none⟩)) ∧ W.cell? ⟨pp, 5, none⟩ = some (.int .i64 c.size)) := Lib.hid (fun W hK => by
    have mv : ∀ {x o : Nat} {v : Value}, W0.cell? ⟨x, o, none⟩ = some v → (∀ C z, W0.heap[x]? ≠ some (.cells C 183 z)) → (∀ C z, W0.heap[x]? ≠ some (.cells C 5 z)) → W.cell? ⟨x, o, none⟩ = some v := fun e n1 n2 => (World.cell?_of_block (hK.block _ (block_lt e) (fun e' => by
      rcases e' with e' | e'
      · subst e'; exact n1 _ _ (below_some HB0.out HBA.out.blk)
      · obtain ⟨cur, z, h3⟩ := rowF_tag HBA.out.row e'
        exact n2 _ _ (below_some HB0.out h3)))).trans e
    have no : ∀ {x : Nat} {C : Array Value} {t t' : TypeId} {z : Nat × Nat}, W0.heap[x]? = some (.cells C t z) → t ≠ t' → ∀ C' z', W0.heap[x]? ≠ some (.cells C' t' z') := fun e hn C' z' e' => by
      rw [e] at e'
      injection e' with e'
      injection e' with _ e' _
      exact hn e'
    obtain ⟨D, hD, _⟩ := HPP.out
    have hx := HX0.out
    have hsb := below_some HB0.out H1.out.blk
    have htb := below_some HB0.out HT.out.blk
    exact ⟨mv e0 (no hx (by decide)) (no hx (by decide)), mv e1 (no hx (by decide)) (no hx (by decide)), mv c0 (no hsb (by decide)) (no hsb (by decide)), mv c8 (no hsb (by decide)) (no hsb (by decide)), mv t2 (no htb (by decide)) (no htb (by decide)), mv y5 (no hD (by decide)) (no hD (by decide))⟩)
  have C0 : Hid (Chg (fun k => k = bb ∨ vy.ownBlock = some k) W0 W0) := Lib.hid (Chg.refl _ _)
  have C1 : Hid (Chg (fun k => k = bb ∨ vy.ownBlock = some k) W0 W0.drew) := Lib.hid (Chg.below B1)
  clear B1 hnb hW0
  go_region_held3 (fun w' => w'.cell? ⟨w.heap.size, 0, none⟩ = some (.string (bs text)) ∧ w'.cell? ⟨w.heap.size, 1, none⟩ = some (.bool bad) ∧ w'.cell? ⟨sb, 0, none⟩ = some (.pointer (some ⟨pp, 0, none⟩)) ∧ w'.cell? ⟨sb, 8, none⟩ = some (.pointer (some ⟨tb, 0, none⟩)) ∧ w'.cell? ⟨tb, 2, none⟩ = some (.pointer (some ⟨bb, 0, none⟩)) ∧ w'.cell? ⟨pp, 5, none⟩ = some (.int .i64 c.size))
    (first | exact HSS.out _ C5.out | exact HSS.out _ C1.out | exact HSS.out _ C0.out)
    (first
      | (go_at_call 73; refine HK1.out.mono ?_; rintro e w5 ⟨rfl, vt', p1, p2, p3⟩; have C5 : Hid (Chg (fun k => k = bb ∨ vy.ownBlock = some k) W0 w5) := Lib.hid (C1.out.trans p2 (fun _ _ e => e)); have HP1 := Lib.hid p1; have HP3 := Lib.hid p3; clear p1 p2 p3))
  go_wp2_with fail
  refine bodyPost_end (results_none rfl _ _ _) rfl ?_
  have C6 : Chg (fun k => k = bb ∨ vy.ownBlock = some k) w w5 := (Chg.below HB0.out : Chg _ _ _).trans C5.out (fun _ _ e => e)
  have hsub : ∀ k, (k = bb ∨ vy.ownBlock = some k) → A k := fun k e => e.elim (fun e => by rw [e]; exact hba) (HBO.out k)
  have hoff : ∀ {k : Nat} {C : Array Value} {t : TypeId} {z : Nat × Nat}, w.heap[k]? = some (.cells C t z) → t ≠ 183 → t ≠ 5 → ¬ (k = bb ∨ vy.ownBlock = some k) := fun e n1 n2 e' => by
    rcases e' with e' | e'
    · rw [e', HBA.out.blk] at e
      injection e with e
      injection e with _ e _
      exact n1 e.symm
    · obtain ⟨cur, z, h3⟩ := rowF_tag HBA.out.row e'
      rw [h3] at e
      injection e with e
      injection e with _ e _
      exact n2 e.symm
  obtain ⟨sq, r, hch⟩ := H1.out.chan
  have hS5 : SesAt w5 sb ch (sesCells pp pb ch vw (.pointer (some ⟨tb, 0, none⟩)) s) [] := H1.out.chg C6 (hoff H1.out.blk (by decide) (by decide)) (fun e => by
    rcases e with e | e
    · have := HBA.out.blk; rw [← e, hch] at this; cases this
    · obtain ⟨cur, z, h3⟩ := rowF_tag HBA.out.row e
      rw [hch] at h3; cases h3)
  have hT5 : TxAt w5 tb vt (.pointer (some ⟨bb, 0, none⟩)) t.frm t.tos := HT.out.chg C6 (hoff HT.out.blk (by decide) (by decide)) (fun g hg => by
    obtain ⟨cur, h3⟩ := own_tag' HT.out.row hg
    exact hoff h3 (by decide) (by decide))
  refine ⟨rfl, fun k => A k ∨ vt'.ownBlock = some k, ⟨⟨_, hS5, tb, vt, _, rfl, .inl ha, hT5, fun g hg => .inl (hO g hg), bb, vt', rfl, .inl hba, HP1.out, fun g hg => .inr hg⟩, .inl HH.out.asb, .inl HH.out.ach, fun k hk => ?_⟩, fun _ a => .inl a, fun k hk => ?_, C6.mono (fun k _ e => hsub k e)⟩
  · rcases hk with hk | hk
    · exact Nat.lt_of_lt_of_le (HH.out.lt k hk) C6.size
    · obtain ⟨cur, z, h3⟩ := rowF_tag HP1.out.row hk
      exact heap_some_lt h3
  · rcases hk with hk | hk
    · exact .inl hk
    · exact (HP3.out k hk).imp (HBO.out k) (fun e => Nat.le_trans HB0.out.size e)
end
end Go.Proofs.YtadcidbeealdpaaGreatDoor

/-
  DERIVED: THE SHELF's CONTRACTS AT THIS DUMP, IN PLAIN WORDS (tools/lay-plain.mjs out of 'TryzDec.lean', which tools/lay-shelf.mjs wrote): THE SAME DECLARATIONS UNDER THE SAME NAMES: 'import', 'namespace', 'open', 'def', 'theorem' AND NOTHING ELSE: no command of the shelf's: FOR A HAND-IN. Each laying: the table of numbers ('.._ren') and one theorem, a field a fact of the dump's own or the kernel's comparison; each contract: ONE APPLICATION.
-/
namespace Go.Proofs
open Go.Shelf
def Tryz.lays755_ren : Go.Shelf.Ren := ⟨fun | 55 => 152 | 32 => 189 | 49 => 216 | n => n, fun | 30 => 76 | 48 => 155 | 4 => 4 | 3 => 3 | 33 => 218 | 21 => 21 | 0 => 0 | 5 => 5 | 66 => 261 | 25 => 170 | 69 => 264 | 68 => 263 | n => n, fun | 2 => 2 | 3 => 3 | n => n⟩
theorem Tryz.lays755 : Go.Proofs.Lays7.n55 Tryz.prog Tryz.lays755_ren := {
  mixed := by kernel_rfl
  f32 := Tryz.func189.trans (congrArg some (by kernel_rfl))
  f49 := Tryz.func216.trans (congrArg some (by kernel_rfl))
  f55 := Tryz.func152.trans (congrArg some (by kernel_rfl))
  t0 := Tryz.underlying0
  a0 := Tryz.isAgg0
  z0 := Tryz.sizeOf0
  v0 := Tryz.zeroValue0
  i0 := by kernel_rfl
  t3 := Tryz.underlying3
  a3 := Tryz.isAgg3
  z3 := Tryz.sizeOf3
  v3 := Tryz.zeroValue3
  i3 := by kernel_rfl
  t4 := Tryz.underlying4
  a4 := Tryz.isAgg4
  z4 := Tryz.sizeOf4
  v4 := Tryz.zeroValue4
  i4 := by kernel_rfl
  t5 := Tryz.underlying5
  a5 := Tryz.isAgg5
  z5 := Tryz.sizeOf5
  v5 := Tryz.zeroValue5
  i5 := by kernel_rfl
  t21 := Tryz.underlying21
  a21 := Tryz.isAgg21
  z21 := Tryz.sizeOf21
  v21 := Tryz.zeroValue21
  i21 := by kernel_rfl
  t25 := Tryz.underlying170
  a25 := Tryz.isAgg170
  z25 := Tryz.sizeOf170
  v25 := Tryz.zeroValue170
  i25 := by kernel_rfl
  t30 := Tryz.underlying76
  a30 := Tryz.isAgg76
  z30 := Tryz.sizeOf76
  v30 := Tryz.zeroValue76
  i30 := by kernel_rfl
  t33 := Tryz.underlying218
  a33 := Tryz.isAgg218
  z33 := Tryz.sizeOf218
  v33 := Tryz.zeroValue218
  i33 := by kernel_rfl
  t48 := Tryz.underlying155
  a48 := Tryz.isAgg155
  z48 := Tryz.sizeOf155
  v48 := Tryz.zeroValue155
  i48 := by kernel_rfl
  t66 := Tryz.underlying261
  a66 := Tryz.isAgg261
  z66 := Tryz.sizeOf261
  t68 := Tryz.underlying263
  a68 := Tryz.isAgg263
  z68 := Tryz.sizeOf263
  v68 := Tryz.zeroValue263
  i68 := by kernel_rfl
  t69 := Tryz.underlying264
  a69 := Tryz.isAgg264
  z69 := Tryz.sizeOf264
  v69 := Tryz.zeroValue264
  i69 := by kernel_rfl
  g2 := by kernel_rfl
  g3 := by kernel_rfl }
end Go.Proofs

/- Is a byte bad? -/
namespace Go.Proofs.YtadcidbeealdpaaGreatDoor
open Go.RowKit

def badB (b : UInt8) : Bool := decide (b.toNat = 0) || decide (b.toNat = 10) || decide (b.toNat = 13) || decide (126 < b.toNat)
def badR (x : Nat) : Bool := decide (x = 0) || decide (x = 10) || decide (x = 13) || decide (126 < x)
theorem decodeN_high (n b0 b1 b2 b3 : Nat) (h : 128 ≤ b0) : 126 < (Lib.decodeN n b0 b1 b2 b3).1 := by
  unfold Lib.decodeN
  rw [if_neg (by omega)]
  split
  · split <;> simp only [] <;> omega
  · split
    · split <;> simp only [] <;> omega
    · split
      · split <;> simp only [] <;> omega
      · simp
theorem decode_low (s : ByteArray) (i : Nat) (h : (s.get! i).toNat < 128) : Utf8.decode s i = ((s.get! i).toNat, 1) := by
  rw [Lib.decode_at]
  unfold Lib.decodeN
  rw [if_pos h]
theorem decode_high (s : ByteArray) (i : Nat) (h : 128 ≤ (s.get! i).toNat) : badR (Utf8.decode s i).1 = true := by
  rw [Lib.decode_at]
  have := decodeN_high (s.size - i) (s.get! i).toNat (s.get! (i + 1)).toNat (s.get! (i + 2)).toNat (s.get! (i + 3)).toNat h
  unfold badR
  rw [decide_eq_true this, Bool.or_true]
theorem get_list (l : List UInt8) (j : Nat) (h : j < l.length) : (bs l).get! j = l[j] := by
  show (bs l).data[j]! = _
  have : j < (bs l).data.size := by have := bs_size l; exact (by show j < (bs l).size; omega)
  rw [getElem!_pos (bs l).data j this]
  simp [bs]
theorem idx_bad (l : List UInt8) : ∀ (f pos : Nat), pos ≤ l.length → l.length ≤ pos + f → (0 ≤ Lib.idxFuncFrom badR true (bs l) f pos ↔ (l.drop pos).any badB = true)
  | 0, pos, h1, h2 => by
    have : pos = l.length := by omega
    subst this
    simp [Lib.idxFuncFrom]
  | f + 1, pos, h1, h2 => by
    have hs := bs_size l
    unfold Lib.idxFuncFrom
    by_cases hp : pos < l.length
    · rw [if_pos (by omega)]
      have hd : l.drop pos = l[pos] :: l.drop (pos + 1) := List.drop_eq_getElem_cons hp
      have hg := get_list l pos hp
      by_cases hlow : ((bs l).get! pos).toNat < 128
      · rw [decode_low _ _ hlow, hg]
        have hbb : badR l[pos].toNat = badB l[pos] := rfl
        simp only []
        rw [hd, List.any_cons, hbb]
        cases hb : badB l[pos] with
        | true => simp
        | false =>
          rw [if_neg (by simp), Bool.false_or]
          exact idx_bad l f (pos + 1) (by omega) (by omega)
      · have := decode_high (bs l) pos (by omega)
        rw [if_pos this, hd, List.any_cons]
        have hb : badB l[pos] = true := by
          rw [hg] at hlow
          unfold badB
          rw [decide_eq_true (show 126 < l[pos].toNat by omega), Bool.or_true]
        rw [hb, Bool.true_or]
        exact ⟨fun _ => rfl, fun _ => by omega⟩
    · have : pos = l.length := by omega
      subst this
      rw [if_neg (by omega)]
      simp

set_option maxHeartbeats 1000000 in
theorem isBad_any (x : Nat) (w : World) (hx : x ≤ 1114111) : Calls Tryz.prog 71 #[.int .i32 (x : Int)] w fun e w' => e = .returned (.bool (badR x)) ∧ Below w.heap.size w w' := by
  unfold badR
  by_cases h0 : x = 0
  · subst h0
    go_enter Tryz.func71, Tryz.ntmps71
    go_wp2_with fail
    go_ret
    exact ⟨rfl, Below.refl _ _⟩
  · by_cases h1 : x = 10
    · subst h1
      go_enter Tryz.func71, Tryz.ntmps71
      go_wp2_with fail
      go_ret
      exact ⟨rfl, Below.refl _ _⟩
    · by_cases h2 : x = 13
      · subst h2
        go_enter Tryz.func71, Tryz.ntmps71
        go_wp2_with fail
        go_ret
        exact ⟨rfl, Below.refl _ _⟩
      · rw [decide_eq_false h0, decide_eq_false h1, decide_eq_false h2]
        have e0 : ((x : Int) == 0) = false := by rw [beq_eq_false_iff_ne]; omega
        have e1 : ((x : Int) == 10) = false := by rw [beq_eq_false_iff_ne]; omega
        have e2 : ((x : Int) == 13) = false := by rw [beq_eq_false_iff_ne]; omega
        have e3 : decide (126 < x) = decide ((126 : Int) < (x : Int)) := by
          rw [Bool.eq_iff_iff, decide_eq_true_eq, decide_eq_true_eq]; omega
        rw [e3]
        clear h0 h1 h2 e3
        go_enter Tryz.func71, Tryz.ntmps71
        go_wp2_with fail
        go_ret
        exact ⟨rfl, Below.refl _ _⟩
end Go.Proofs.YtadcidbeealdpaaGreatDoor
