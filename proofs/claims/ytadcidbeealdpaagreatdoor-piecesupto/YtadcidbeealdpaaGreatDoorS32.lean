import Derived.Test.YtadcidbeealdpaaGreatDoorS07
import Derived.Test.YtadcidbeealdpaaGreatDoorS06
import Derived.Test.YtadcidbeealdpaaGreatDoorS27
import Derived.Test.YtadcidbeealdpaaGreatDoorS31

/- An address as it is kept is one, and is kept as it is. -/
namespace Go.Proofs.YtadcidbeealdpaaGreatDoor

theorem lower_cases (c : UInt8) : (65 ≤ c.toNat ∧ c.toNat ≤ 90 ∧ (Lib.lowerB c).toNat = c.toNat + 32) ∨ (¬ (65 ≤ c.toNat ∧ c.toNat ≤ 90) ∧ Lib.lowerB c = c) := by
  unfold Lib.lowerB Lib.isUpperB
  by_cases h : 65 ≤ c.toNat ∧ c.toNat ≤ 90
  · left
    have h1 : (decide ((65 : UInt8) ≤ c) && decide (c ≤ 90)) = true := by
      simp only [Bool.and_eq_true, decide_eq_true_eq, UInt8.le_iff_toNat_le, UInt8.reduceToNat]
      exact h
    rw [if_pos h1, UInt8.toNat_add]
    simp only [UInt8.reduceToNat]
    omega
  · right
    have h1 : ¬ (decide ((65 : UInt8) ≤ c) && decide (c ≤ 90)) = true := by
      simp only [Bool.and_eq_true, decide_eq_true_eq, UInt8.le_iff_toNat_le, UInt8.reduceToNat]
      exact h
    rw [if_neg h1]
    exact ⟨h, rfl⟩
theorem lower_al (c : UInt8) : alB (Lib.lowerB c) = alB c := by
  rcases lower_cases c with ⟨h1, h2, h3⟩ | ⟨_, h⟩
  · unfold alB letB digB
    rw [h3]
    rw [Bool.eq_iff_iff]
    simp only [Bool.or_eq_true, Bool.and_eq_true, decide_eq_true_eq]
    omega
  · rw [h]
theorem lower_is (c d : UInt8) (hd : d.toNat < 65) : (Lib.lowerB c == d) = (c == d) := by
  rcases lower_cases c with ⟨h1, h2, h3⟩ | ⟨_, h⟩
  · have n1 : (Lib.lowerB c == d) = false := by rw [beq_eq_false_iff_ne]; intro e; rw [e] at h3; omega
    have n2 : (c == d) = false := by rw [beq_eq_false_iff_ne]; intro e; rw [e] at h1; omega
    rw [n1, n2]
  · rw [h]
theorem lower_idem (c : UInt8) : Lib.lowerB (Lib.lowerB c) = Lib.lowerB c := by
  rcases lower_cases c with ⟨h1, h2, h3⟩ | ⟨_, h⟩
  · rcases lower_cases (Lib.lowerB c) with ⟨g1, g2, _⟩ | ⟨_, g⟩
    · omega
    · exact g
  · rw [h, h]
theorem lowerA_idem (l : List UInt8) : Lib.toLowerA (Lib.toLowerA l) = Lib.toLowerA l := by
  unfold Lib.toLowerA
  rw [List.map_map]
  apply List.map_congr_left
  intro c _
  exact lower_idem c
theorem lowerA_len (l : List UInt8) : (Lib.toLowerA l).length = l.length := by simp [Lib.toLowerA]
theorem lowerA_getD (l : List UInt8) (i : Nat) (d : UInt8) (hd : d.toNat < 65) (_h0 : d ≠ 0) : ((Lib.toLowerA l).getD i 0 == d) = (l.getD i 0 == d) := by
  unfold Lib.toLowerA
  rw [List.getD_eq_getElem?_getD, List.getD_eq_getElem?_getD, List.getElem?_map]
  cases l[i]? with
  | none => rfl
  | some c => exact lower_is c d hd
theorem labR_lower (l : List UInt8) : labR (Lib.toLowerA l) = labR l := by
  unfold labR
  rw [lowerA_len, lowerA_getD l 0 45 (by decide) (by decide), lowerA_getD l (l.length - 1) 45 (by decide) (by decide)]
  congr 1
  unfold Lib.toLowerA
  rw [List.all_map]
  congr 1
  funext c
  simp only [Function.comp]
  rw [lower_al, lower_is c 45 (by decide)]
theorem pieces_ne (c : UInt8) (l : List UInt8) : pieces c l ≠ [] := by
  cases l with
  | nil => simp [pieces]
  | cons b r => unfold pieces; split <;> simp
theorem pieces_lower : ∀ l : List UInt8, pieces 46 (Lib.toLowerA l) = (pieces 46 l).map Lib.toLowerA
  | [] => rfl
  | b :: r => by
    have ih := pieces_lower r
    have e : Lib.toLowerA (b :: r) = Lib.lowerB b :: Lib.toLowerA r := rfl
    have hb : Lib.lowerB b = 46 ↔ b = 46 := by
      have := lower_is b 46 (by decide)
      rw [Bool.eq_iff_iff, beq_iff_eq, beq_iff_eq] at this
      exact this
    rw [e]
    unfold pieces
    by_cases h : b = 46
    · rw [if_pos (hb.2 h), if_pos h, ih]
      rfl
    · rw [if_neg (fun x => h (hb.1 x)), if_neg h, ih]
      obtain ⟨p, ps, hp⟩ := List.exists_cons_of_ne_nil (pieces_ne 46 r)
      rw [hp]
      rfl
theorem domR_lower (l : List UInt8) : domR (Lib.toLowerA l) = domR l := by
  unfold domR
  rw [pieces_lower, lowerA_len, List.all_map]
  congr 1
  · congr 2
    cases l <;> rfl
  · congr 1
    funext p
    exact labR_lower p
theorem cut_at {l x : List UInt8} (hx : ∀ a ∈ x, a ≠ 64) : cutR 64 (x ++ 64 :: l) = (x, l, true) := by
  induction x with
  | nil => simp [cutR]
  | cons a x ih =>
    have ha := hx a (List.mem_cons_self ..)
    have := ih (fun b hb => hx b (List.mem_cons_of_mem _ hb))
    simp only [List.cons_append]
    unfold cutR
    rw [this]
    simp [ha]
theorem asKept_ok {l : List UInt8} (h : (keptR l).2 = true) : isKeptB (asKeptR l) = true := by
  have e1 : asKeptR l = (addrR l).1 ++ 64 :: (addrR l).2.1 := by unfold asKeptR; rw [h]; rfl
  have h2 : (addrR l).2.2 = true := h
  have e2 : locB (cutR 64 l).1 = true ∧ domB (cutR 64 l).2.1 = true ∧ addrR l = ((cutR 64 l).1, Lib.toLowerA (cutR 64 l).2.1, true) := by
    unfold addrR at h2 ⊢
    split at h2
    · rename_i hc
      rw [Bool.and_eq_true] at hc
      exact ⟨hc.1, hc.2, by rw [if_pos (by rw [hc.1, hc.2]; rfl)]⟩
    · cases h2
  obtain ⟨hl, hd, ha⟩ := e2
  have hno : ∀ a ∈ (cutR 64 l).1, a ≠ 64 := by
    intro a hm e
    subst e
    unfold locB at hl
    rw [Bool.and_eq_true] at hl
    have := List.all_eq_true.1 hl.2 64 hm
    revert this
    decide
  have hA : addrR (asKeptR l) = ((cutR 64 l).1, Lib.toLowerA (cutR 64 l).2.1, true) := by
    rw [e1, ha]
    simp only
    unfold addrR
    rw [cut_at hno]
    simp only
    rw [hl, domB_eq, domR_lower, ← domB_eq, hd, lowerA_idem]
    rfl
  unfold isKeptB keptR
  rw [hA, e1, ha]
  simp
end Go.Proofs.YtadcidbeealdpaaGreatDoor

/- A line is heard. -/
namespace Go.Proofs.YtadcidbeealdpaaGreatDoor
open Go.RowKit

theorem cmdRead_any (text : List UInt8) (bad : Bool) (m : Int) (w : World) (hl : text.length ≤ 1048576) (ha : bad = false → asciiL text) (hm : w.cell? ⟨0, 0, none⟩ = some (.int .i64 m)) :
    Calls Tryz.prog 48 #[.agg #[.string (bs text), .bool bad]] w fun e w' => e = .returned (cmdVal (readC text bad)) ∧ Below w.heap.size w w' := by
  cases bad with
  | true => exact cmdRead_bad text w
  | false =>
    have ha := ha rfl
    have e : readC text false = cmdOf (Lib.toUpperA (cutR 32 text).1) (cutR 32 text).2.1 (cutR 32 text).2.2 := rfl
    rw [e]
    unfold cmdOf
    by_cases h1 : Lib.toUpperA (cutR 32 text).1 = [81, 85, 73, 84]
    · rw [if_pos h1]; exact cmdRead_quit text m w hl ha hm h1
    rw [if_neg h1]
    by_cases h2 : Lib.toUpperA (cutR 32 text).1 = [78, 79, 79, 80]
    · rw [if_pos h2]; exact cmdRead_noop text m w hl ha hm h2
    rw [if_neg h2]
    by_cases h3 : Lib.toUpperA (cutR 32 text).1 = [82, 83, 69, 84]
    · rw [if_pos h3]; exact cmdRead_rset text m w hl ha hm h3
    rw [if_neg h3]
    by_cases h4 : Lib.toUpperA (cutR 32 text).1 = [68, 65, 84, 65]
    · rw [if_pos h4]; exact cmdRead_data text m w hl ha hm h4
    rw [if_neg h4]
    by_cases h5 : Lib.toUpperA (cutR 32 text).1 = [72, 69, 76, 79]
    · rw [if_pos h5]; exact cmdRead_helo text m w hl ha hm h5
    rw [if_neg h5]
    by_cases h6 : Lib.toUpperA (cutR 32 text).1 = [69, 72, 76, 79]
    · rw [if_pos h6]; exact cmdRead_ehlo text m w hl ha hm h6
    rw [if_neg h6]
    by_cases h7 : Lib.toUpperA (cutR 32 text).1 = [65, 85, 84, 72]
    · rw [if_pos h7]; exact cmdRead_auth text m w hl ha hm h7
    rw [if_neg h7]
    by_cases h8 : Lib.toUpperA (cutR 32 text).1 = [77, 65, 73, 76]
    · rw [if_pos h8]; exact cmdRead_mail text m w hl ha hm h8
    rw [if_neg h8]
    by_cases h9 : Lib.toUpperA (cutR 32 text).1 = [82, 67, 80, 84]
    · rw [if_pos h9]; exact cmdRead_rcpt text m w hl ha hm h9
    rw [if_neg h9]
    exact cmdRead_else text m w hl ha hm (by unfold verbs; simp [h1, h2, h3, h4, h5, h6, h7, h8, h9])
/-- what may come of a line -/
structure CmdOk (k : PCmd) : Prop where
  verb : k.verb ≤ 10
  name : k.name = [] ∨ isKeptB k.name = true
  rcpt : k.verb = 10 → isKeptB k.name = true
theorem lone_ok (v : Nat) (h : v ≤ 9) : CmdOk (loneC v) := ⟨by show v ≤ 10; omega, .inl rfl, fun e => by have e : v = 10 := e; omega⟩
theorem asKept_or (l : List UInt8) : asKeptR l = [] ∨ isKeptB (asKeptR l) = true := by
  cases h : (keptR l).2 with
  | true => exact .inr (asKept_ok h)
  | false => left; unfold asKeptR; rw [h]; rfl
theorem readC_ok (text : List UInt8) (bad : Bool) : CmdOk (readC text bad) := by
  unfold readC
  cases bad with
  | true => exact lone_ok 0 (by decide)
  | false =>
    simp only [Bool.false_eq_true, if_false]
    unfold cmdOf loneOr greetC
    have w1 : CmdOk wrongC := lone_ok 1 (by decide)
    repeat' split
    all_goals first
      | exact w1
      | exact lone_ok _ (by decide)
      | skip
    · unfold authC
      split
      · split
        · exact ⟨show (8 : Nat) ≤ 10 by omega, .inl rfl, fun e => by cases e⟩
        · exact w1
      · exact w1
    · unfold mailC
      simp only
      split
      · exact ⟨show (9 : Nat) ≤ 10 by omega, asKept_or _, fun e => by cases e⟩
      · exact w1
    · unfold rcptC
      simp only
      split
      · rename_i hh
        rw [Bool.and_eq_true] at hh
        exact ⟨Nat.le_refl 10, .inr (asKept_ok hh.2), fun _ => asKept_ok hh.2⟩
      · exact w1
section
variable {A : Nat → Prop} {pp pb mb sb ch : Nat} {vw : Value} {q : Nat → Nat} {vr : Value} {S : PStore} {recs : List UInt8} {w : World} {s : PSes} {E : Nat → Prop} {c : Cfg}
theorem obey_any (h : SesIn w A pp pb sb ch vw [] s) (he : EnvAt E w pp c) (hd : ∀ k, E k → ¬ A k) (k : PCmd) (hk : k.verb ≤ 10) (hn : k.name.length ≤ 1048576) (hnb : ∀ t, s.tx = some t → t.body = none ∧ t.tos.length ≤ 10) :
    Calls Tryz.prog 47 #[.pointer (some ⟨sb, 0, none⟩), cmdVal k] w (StepPost A pp pb sb ch vw w (obeyS c s k).1 (obeyS c s k).2) := by
  obtain ⟨v, name, size, shown⟩ := k
  simp only at hk hn
  unfold cmdVal obeyS
  simp only
  cases hr : readyS s v with
  | false =>
    simp only [if_true]
    exact obey_first h he hd name shown size v hr
  | true =>
    simp only [Bool.true_eq_false, if_false]
    have hvs : v = 0 ∨ v = 1 ∨ v = 2 ∨ v = 3 ∨ v = 4 ∨ v = 5 ∨ v = 6 ∨ v = 7 ∨ v = 8 ∨ v = 9 ∨ v = 10 := by omega
    rcases hvs with rfl | rfl | rfl | rfl | rfl | rfl | rfl | rfl | rfl | rfl | rfl
    · exact obey_v0 h he hd name shown size hr
    · exact obey_v1 h he hd name shown size hr
    · exact obey_v2 h he hd name shown size hr
    · exact obey_v3 h he hd name shown size hr
    · exact obey_v4 h he hd name shown size hr
    · cases ht : s.tx with
      | none => rw [show readyS s 5 = false by unfold readyS readyB; rw [ht]; rfl] at hr; cases hr
      | some t => exact obey_v5 h he hd name shown size ht hr
    · exact obey_v6 h he hd name shown size hr
    · exact obey_v7 h he hd name shown size hr
    · exact obey_v8 h he hd name shown size hr
    · exact obey_v9 h he hd name shown size hr
    · cases ht : s.tx with
      | none => rw [show readyS s 10 = false by unfold readyS readyB; rw [ht]; rfl] at hr; cases hr
      | some t => exact obey_v10 h he hd name shown size ht (hnb t ht).1 hn (hnb t ht).2 hr
theorem hearB_any (h : SesIn w A pp pb sb ch vw [] s) (he : EnvAt E w pp c) (hbg : BagR w pb mb q vr S recs) (hk : KeepOk S recs) {t : PTx} (ht : s.tx = some t) (hto : TxOk t) {b : PBody} (hb : t.body = some b) (hdA : ∀ k, A k → ¬ bagOwn w pb mb q vr S k) (hdE : ∀ k, E k → ¬ bagOwn w pb mb q vr S k) (hdEA : ∀ k, E k → ¬ A k) (text : List UInt8) (bad : Bool) (htl : text.length ≤ 1048576) :
    Calls Tryz.prog 46 #[.pointer (some ⟨sb, 0, none⟩), .agg #[.string (bs text), .bool bad]] w fun e w' => e = .returned (.tuple #[]) ∧ LinePost A pp pb mb sb ch vw q vr S w (hearBS c s S recs t b text bad).1 (hearBS c s S recs t b text bad).2.1 (hearBS c s S recs t b text bad).2.2.1 (hearBS c s S recs t b text bad).2.2.2 w' := by
  unfold hearBS
  by_cases hd : text = [46]
  · subst hd
    simp only [if_true]
    exact hearB_end h he hbg hk ht hto hb hdA hdE hdEA bad
  · simp only [hd, if_false]
    refine (hearB_add h he ht hto hb text bad hd htl).mono ?_
    intro e w' hP
    exact ⟨hP.1, LinePost.step hbg hdA hP⟩
end
/-- a line is heard: what is said, what is kept -/
def hearLS (c : Cfg) (s : PSes) (S : PStore) (recs : List UInt8) (text : List UInt8) (bad : Bool) : PSes × PStore × List UInt8 × List (List UInt8) :=
  match s.tx with
  | some t => (match t.body with
    | some b => hearBS c s S recs t b text bad
    | none => ((obeyS c s (readC text bad)).1, S, recs, (obeyS c s (readC text bad)).2))
  | none => ((obeyS c s (readC text bad)).1, S, recs, (obeyS c s (readC text bad)).2)
end Go.Proofs.YtadcidbeealdpaaGreatDoor

/- A line is heard: the walk. -/
namespace Go.Proofs.YtadcidbeealdpaaGreatDoor
open Go.RowKit

section
variable {E : Nat → Prop} {pp pb mb sb ch bl : Nat} {c : Cfg} {w : World} {A : Nat → Prop} {q : Nat → Nat} {vr : Value} {S : PStore} {recs : List UInt8} {vw v : Value} {acc : List UInt8} {ls : List (List UInt8)} {s : PSes}
/-- what was told is taken, on the way out -/
theorem HearW.take_d (h : HearW E pp pb mb sb ch bl c w A q vr S recs vw v acc ls s) (hl : ∀ l ∈ ls, l.length ≤ 1048576) (u : FrameMode) (hal : acc.length + ls.flatten.length ≤ 140737488355328) :
    CallsD Tryz.prog 24 #[.pointer (some ⟨sb, 0, none⟩), .pointer (some ⟨bl, 0, none⟩)] u w fun e u' w' => u' = u ∧ e = .returned (.tuple #[]) ∧ ∃ v', HearW E pp pb mb sb ch bl c w' A q vr S recs vw v' (acc ++ ls.flatten) [] s ∧ Chg (fun k => k = ch ∨ k = bl ∨ v.ownBlock = some k) w w' ∧ (∀ k, bagOwn w' pb mb q vr S k → bagOwn w pb mb q vr S k) ∧ ∀ g, v'.ownBlock = some g → v.ownBlock = some g ∨ w.heap.size ≤ g := by
  obtain ⟨vx, hA, hx⟩ := h.ses.ex
  obtain ⟨sq, r, hch⟩ := hA.chan
  have hbl : ch ≠ bl := fun e => h.ld.2.1 (by rw [← e]; exact h.ses.ach)
  have hsb : ¬ (sb = ch ∨ sb = bl ∨ v.ownBlock = some sb) := fun x => by
    rcases x with x | x | x
    · exact hA.ne x
    · exact h.ld.2.1 (by rw [← x]; exact h.ses.asb)
    · exact (h.vd sb x).2.1 h.ses.asb
  let Bd : List UInt8 → World → Prop := fun a w' => ∃ v', BldAt 0 w' bl v' a ∧ (∀ g, v'.ownBlock = some g → v.ownBlock = some g ∨ w.heap.size ≤ g) ∧ Chg (fun k => k = ch ∨ k = bl ∨ v.ownBlock = some k) w w' ∧ ∃ buf s' r', w'.heap[ch]? = some (.chan 3 buf false s' r' false)
  have key := takeTold_defer Bd sb ch sq r false (.pointer (some ⟨bl, 0, none⟩)) ls acc u w ?_ ?_ ?_ ⟨v, h.bld, fun g e => .inl e, Chg.refl _ _, _, _, _, hch⟩ hch hl hal
  · refine key.mono ?_
    rintro e u' w' ⟨rfl, rfl, s', r', ⟨v', b1, b2, b3, _⟩, hc'⟩
    obtain ⟨x1, x2⟩ := h.told b3 b2 b1 hc'
    exact ⟨rfl, rfl, v', x1, b3, x2, b2⟩
  · rintro a l W ⟨v', b1, b2, b3, buf, s', r', hc'⟩ _ hlen
    have hvc : v'.ownBlock ≠ some ch := fun e => by
      obtain ⟨cur, z, h1⟩ := rowF_tag b1.row e
      rw [hc'] at h1; cases h1
    refine (writeTo_any 0 bl v' a l W b1 (Nat.zero_le _) hlen).mono ?_
    rintro e w'' ⟨⟨rv, rfl⟩, ⟨v2, d1, d2⟩, d3, d4, hsz⟩
    have hc2 : Chg (fun k => k = bl ∨ v'.ownBlock = some k) W w'' := ⟨hsz, fun k hk hn => by
      rw [Array.getElem?_eq_getElem hk]
      exact d3 k _ (Array.getElem?_eq_getElem hk) (fun e => hn (.inl e)) (fun e => hn (.inr e)), d4⟩
    refine ⟨⟨rv, rfl⟩, ⟨v2, d1, fun g hg => (d2 g hg).elim (b2 g) (fun e => .inr (Nat.le_trans b3.size e)), b3.trans hc2 (fun k hk e => e.elim (fun e => .inr (.inl e)) (fun e => (b2 k e).elim (fun e => .inr (.inr e)) (fun e => absurd hk (by omega)))), buf, s', r', d3 ch _ hc' hbl hvc⟩, fun o ho => d3 ch o ho hbl hvc⟩
  · rintro a W ⟨v', b1, b2, b3, _⟩
    rw [Lib.cell_of_heap (b3.some_ hA.blk hsb)]
    exact hA.told
  · rintro a W buf buf' s' r' ⟨v', b1, b2, b3, _⟩ hc'
    have hlt : ch < W.heap.size := heap_some_lt hc'
    have S1 : Same ch W (W.setChan ch 3 buf' false s' (r' + 1) false) := ⟨by simp [World.setChan], fun k hk => by simp [World.setChan, Array.getElem?_setIfInBounds_ne (Ne.symm hk)], ⟨rfl, rfl, rfl⟩⟩
    have hvc : v'.ownBlock ≠ some ch := fun e => by
      obtain ⟨cur, z, h1⟩ := rowF_tag b1.row e
      rw [hc'] at h1; cases h1
    refine ⟨v', bld_chg b1 (Chg.same S1) (fun e => hbl e.symm) (fun g hg e => hvc (by rw [← e]; exact hg)), b2, b3.trans (Chg.same S1) (fun k _ e => .inl e), buf', s', r' + 1, Conc.heap_setChan W ch 3 buf' false s' (r' + 1) false hlt⟩
/-- behind a line -/
def HeardPost (E A : Nat → Prop) (pp pb mb sb ch bl : Nat) (c : Cfg) (q : Nat → Nat) (vr : Value) (S : PStore) (vw v : Value) (w : World) (s' : PSes) (S' : PStore) (recs' acc' : List UInt8) (w' : World) : Prop :=
  ∃ A' q' vr' vw' v', HearW E pp pb mb sb ch bl c w' A' q' vr' S' recs' vw' v' acc' [] s' ∧ (∀ k, hOwn w' pb mb bl A' q' vr' S' vw' v' k → hOwn w pb mb bl A q vr S vw v k ∨ w.heap.size ≤ k) ∧ Chg (hOwn w pb mb bl A q vr S vw v) w w'
theorem hearL_fin {w0 w1 w2 : World} {A1 : Nat → Prop} {q1 : Nat → Nat} {vr1 v2 : Value} {S1 : PStore} {recs1 acc2 : List UInt8} {s1 : PSes} (h : HearW E pp pb mb sb ch bl c w A q vr S recs vw v acc [] s) (hb : Below w.heap.size w w0)
    (p1 : Chg (fun k => A k ∨ bagOwn w0 pb mb q vr S k) w0 w1) (p2 : ∀ k, A1 k → A k ∨ w0.heap.size ≤ k) (pb1 : ∀ k, bagOwn w1 pb mb q1 vr1 S1 k → bagOwn w0 pb mb q vr S k ∨ w0.heap.size ≤ k) (p4 : HearW E pp pb mb sb ch bl c w2 A1 q1 vr1 S1 recs1 vw v2 acc2 [] s1) (p5 : Chg (fun k => k = ch ∨ k = bl ∨ v.ownBlock = some k) w1 w2) (p6 : ∀ k, bagOwn w2 pb mb q1 vr1 S1 k → bagOwn w1 pb mb q1 vr1 S1 k) (p7 : ∀ g, v2.ownBlock = some g → v.ownBlock = some g ∨ w1.heap.size ≤ g) : HeardPost E A pp pb mb sb ch bl c q vr S vw v w s1 S1 recs1 acc2 w2 := by
  have back : ∀ k, bagOwn w0 pb mb q vr S k → bagOwn w pb mb q vr S k := fun k e => e.imp (fun e => bagBlk_below h.bag.inn hb e) id
  refine ⟨A1, q1, vr1, vw, v2, p4, fun k hk => ?_, (((Chg.below hb : Chg (hOwn w pb mb bl A q vr S vw v) w w0)).trans p1 (fun k _ e => e.imp id (fun e => .inl (back k e)))).trans p5 (fun k _ e => ?_)⟩
  · rcases hk with hk | hk | hk | hk | hk
    · exact (p2 k hk).imp .inl (fun e => Nat.le_trans hb.size e)
    · exact (pb1 k (p6 k hk)).imp (fun e => .inr (.inl (back k e))) (fun e => Nat.le_trans hb.size e)
    · exact .inl (.inr (.inr (.inl hk)))
    · exact (p7 k hk).imp (fun e => .inr (.inr (.inr (.inl e)))) (fun e => Nat.le_trans (Nat.le_trans hb.size p1.size) e)
    · exact .inl (.inr (.inr (.inr (.inr hk))))
  · rcases e with e | e | e
    · exact .inl (by rw [e]; exact h.ses.ach)
    · exact .inr (.inr (.inl e))
    · exact .inr (.inr (.inr (.inl e)))

set_option maxHeartbeats 1000000 in
set_option maxRecDepth 100000 in
theorem hearL_body (h : HearW E pp pb mb sb ch bl c w A q vr S recs vw v acc [] s) (hk : KeepOk S recs) {t : PTx} (ht : s.tx = some t) (hto : TxOk t) {b : PBody} (hb : t.body = some b) (text : List UInt8) (bad : Bool) (htl : text.length ≤ 1048576) (hsl : ∀ l ∈ (hearBS c s S recs t b text bad).2.2.2, l.length ≤ 1000) (hsn : (hearBS c s S recs t b text bad).2.2.2.flatten.length ≤ 3000) (hal : acc.length ≤ 1099511627776) (hwt : (hearBS c s S recs t b text bad).1.wait = s.wait) :
    Calls Tryz.prog 28 #[.pointer (some ⟨sb, 0, none⟩), .agg #[.string (bs text), .bool bad], .pointer (some ⟨bl, 0, none⟩)] w fun e w' => e = .returned (.tuple #[]) ∧ HeardPost E A pp pb mb sb ch bl c q vr S vw v w (hearBS c s S recs t b text bad).1 (hearBS c s S recs t b text bad).2.1 (hearBS c s S recs t b text bad).2.2.1 (acc ++ (hearBS c s S recs t b text bad).2.2.2.flatten) w' := by
  obtain ⟨vx, h1, h2⟩ := h.ses.ex
  rw [ht] at h2
  obtain ⟨tb, vt, vb, rfl, ha, hT, hO, hB⟩ := h2
  rw [hb] at hB
  obtain ⟨bb, vy, rfl, hba, hBA, hBO⟩ := hB
  obtain ⟨W0, hW0⟩ : ∃ W0 : World, w.alloc (.cells #[.string (bs text), .bool bad] 89) = W0 := ⟨_, rfl⟩
  have B0 : Below w.heap.size w W0 := by rw [← hW0]; exact (Below.refl _ _).alloc (Nat.le_refl _) _
  have X0 : W0.heap[w.heap.size]? = some (.cells #[.string (bs text), .bool bad] 89 (0, 0)) := by rw [← hW0]; exact heap_alloc_new w _
  have l0 : W0.cell? ⟨w.heap.size, 0, none⟩ = some (.string (bs text)) := by rw [Lib.cell_of_heap X0]; rfl
  have l1 : W0.cell? ⟨w.heap.size, 1, none⟩ = some (.bool bad) := by rw [Lib.cell_of_heap X0]; rfl
  have c8 : W0.cell? ⟨sb, 8, none⟩ = some (.pointer (some ⟨tb, 0, none⟩)) := (h1.below B0).cell 8
  have t2 : W0.cell? ⟨tb, 2, none⟩ = some (.pointer (some ⟨bb, 0, none⟩)) := by rw [Lib.cell_of_heap (below_some B0 hT.blk)]; rfl
  have h0 := h.below B0
  have HHB := Lib.hid (hasBody_yes tb bb W0 t2)
  have HHE := Lib.hid (hearB_any h0.ses h0.env h0.bag hk ht hto hb h0.ab h0.eb h0.ea text bad htl)
  have HH := Lib.hid h
  have HH0 := Lib.hid h0
  have HB0 := Lib.hid B0
  have HSL := Lib.hid hsl
  have HWT := Lib.hid hwt
  clear h h1 hT hBA h0 B0 X0 hsl hwt
  go_enter_defers Tryz.func28, Tryz.ntmps28
  go_wp2_with fail
  refine HHB.out.mono ?_
  rintro e w1 ⟨rfl, rfl⟩
  go_wp2_with fail
  refine HHE.out.mono ?_
  rintro e w2 ⟨rfl, hP⟩
  have HP := Lib.hid hP
  clear hP
  go_wp2_with fail
  refine leaves_cons (f := 24) (args := #[.pointer (some ⟨sb, 0, none⟩), .pointer (some ⟨bl, 0, none⟩)]) (by simp) (by simp [go_sem]) ?_
  obtain ⟨A1, q1, vr1, hW1, g1, g2, g3⟩ := HH0.out.line HP.out HWT.out
  refine (hW1.take_d (fun l hl => by have := HSL.out l hl; omega) .returning (by omega)).mono ?_
  rintro e u' w3 ⟨rfl, rfl, v3, hW3, g4, g5, g6⟩
  exact ⟨_, results_none rfl _ _ _, rfl, hearL_fin HH.out HB0.out g3 g1 g2 hW3 g4 g5 g6⟩

set_option maxHeartbeats 1000000 in
set_option maxRecDepth 100000 in
theorem hearL_cmd (h : HearW E pp pb mb sb ch bl c w A q vr S recs vw v acc [] s) (hnb : ∀ t, s.tx = some t → t.body = none ∧ t.tos.length ≤ 10) (text : List UInt8) (bad : Bool) (htl : text.length ≤ 1048576) (hta : bad = false → asciiL text) (hsl : ∀ l ∈ (obeyS c s (readC text bad)).2, l.length ≤ 1000) (hsn : (obeyS c s (readC text bad)).2.flatten.length ≤ 3000) (hal : acc.length ≤ 1099511627776) (hwt : (obeyS c s (readC text bad)).1.wait = s.wait) :
    Calls Tryz.prog 28 #[.pointer (some ⟨sb, 0, none⟩), .agg #[.string (bs text), .bool bad], .pointer (some ⟨bl, 0, none⟩)] w fun e w' => e = .returned (.tuple #[]) ∧ HeardPost E A pp pb mb sb ch bl c q vr S vw v w (obeyS c s (readC text bad)).1 S recs (acc ++ (obeyS c s (readC text bad)).2.flatten) w' := by
  obtain ⟨W0, hW0⟩ : ∃ W0 : World, w.alloc (.cells #[.string (bs text), .bool bad] 89) = W0 := ⟨_, rfl⟩
  have B0 : Below w.heap.size w W0 := by rw [← hW0]; exact (Below.refl _ _).alloc (Nat.le_refl _) _
  have X0 : W0.heap[w.heap.size]? = some (.cells #[.string (bs text), .bool bad] 89 (0, 0)) := by rw [← hW0]; exact heap_alloc_new w _
  have l0 : W0.cell? ⟨w.heap.size, 0, none⟩ = some (.string (bs text)) := by rw [Lib.cell_of_heap X0]; rfl
  have l1 : W0.cell? ⟨w.heap.size, 1, none⟩ = some (.bool bad) := by rw [Lib.cell_of_heap X0]; rfl
  have h0 := h.below B0
  obtain ⟨vx, h1, h2⟩ := h0.ses.ex
  have c8 : W0.cell? ⟨sb, 8, none⟩ = some vx := h1.cell 8
  obtain ⟨m, hm⟩ := h0.env.len
  have HHB : Hid (Calls Tryz.prog 45 #[vx] W0 fun e w' => e = .returned (.bool false) ∧ W0 = w') := Lib.hid (by
    cases ht : s.tx with
    | none =>
      rw [ht] at h2
      have h2 : vx = .pointer none := h2
      subst h2
      exact hasBody_none W0
    | some t =>
      rw [ht] at h2
      obtain ⟨tb, vt, vb, rfl, ha, hT, hO, hB⟩ := h2
      rw [(hnb t ht).1] at hB
      have hB : vb = .pointer none := hB
      subst hB
      exact hasBody_no tb W0 (by rw [Lib.cell_of_heap hT.blk]; rfl))
  obtain ⟨px, epx⟩ : ∃ p, vx = .pointer p := by
    cases ht : s.tx with
    | none => rw [ht] at h2; exact ⟨none, h2⟩
    | some t => rw [ht] at h2; obtain ⟨tb, vt, vb, e, _⟩ := h2; exact ⟨_, e⟩
  subst epx
  have HRD := Lib.hid (cmdRead_any text bad m W0 htl hta hm)
  have hko := readC_ok text bad
  have hkn : (readC text bad).name.length ≤ 1048576 := by
    rcases hko.name with e | e
    · rw [e]; simp
    · have := isKeptB_len e; omega
  have HOB : Hid (∀ W : World, Below W0.heap.size W0 W → Calls Tryz.prog 47 #[.pointer (some ⟨sb, 0, none⟩), cmdVal (readC text bad)] W (StepPost A pp pb sb ch vw W (obeyS c s (readC text bad)).1 (obeyS c s (readC text bad)).2)) := Lib.hid (fun W hb => obey_any (h0.ses.below hb) (h0.env.below hb) h0.ea (readC text bad) hko.verb hkn hnb)
  have HH := Lib.hid h
  have HH0 := Lib.hid h0
  have HB0 := Lib.hid B0
  have HSL := Lib.hid hsl
  have HWT := Lib.hid hwt
  obtain ⟨kx, ekx⟩ : ∃ k, readC text bad = k := ⟨_, rfl⟩
  rw [ekx] at HRD HOB HSL HWT hsn ⊢
  simp only [cmdVal] at HRD HOB
  clear h h1 h2 h0 B0 X0 hsl hwt hm hko hkn hta hnb ekx
  go_enter_defers Tryz.func28, Tryz.ntmps28
  go_wp2_with fail
  refine HHB.out.mono ?_
  rintro e w1 ⟨rfl, rfl⟩
  go_wp2_with fail
  refine HRD.out.mono ?_
  rintro e w2 ⟨rfl, hb2⟩
  have HB2 := Lib.hid hb2
  have HO2 := Lib.hid (HOB.out w2 hb2)
  clear hb2 HOB
  go_wp2_with fail
  refine HO2.out.mono ?_
  rintro e w3 hP
  have hr := hP.ret
  subst hr
  have HP := Lib.hid hP
  clear hP HO2
  go_wp2_with fail
  refine leaves_cons (f := 24) (args := #[.pointer (some ⟨sb, 0, none⟩), .pointer (some ⟨bl, 0, none⟩)]) (by simp) (by simp [go_sem]) ?_
  have h2 := HH0.out.below HB2.out
  obtain ⟨A1, q1, vr1, hW1, g1, g2, g3⟩ := h2.line (LinePost.step h2.bag h2.ab HP.out) HWT.out
  refine (hW1.take_d (fun l hl => by have := HSL.out l hl; omega) .returning (by omega)).mono ?_
  rintro e u' w4 ⟨rfl, rfl, v4, hW4, g4, g5, g6⟩
  have hb02 : Below w.heap.size w w2 := HB0.out.trans (HB2.out.mono HB0.out.size)
  exact ⟨_, results_none rfl _ _ _, rfl, hearL_fin HH.out hb02 g3 g1 g2 hW4 g4 g5 g6⟩
end
end Go.Proofs.YtadcidbeealdpaaGreatDoor

/- What holds of a session, behind each line. -/
namespace Go.Proofs.YtadcidbeealdpaaGreatDoor

structure PInv (c : Cfg) (s : PSes) (S : PStore) (recs : List UInt8) : Prop where
  tx : ∀ t, s.tx = some t → TxOk t ∧ (t.tos.length : Int) ≤ c.most
  time : S.time ≤ 1000000000
  len : S.items.length ≤ recs.length
  recs : recs.length ≤ 1048576
  wait : s.wait.length ≤ 102
theorem PInv.keep {c : Cfg} {s : PSes} {S : PStore} {recs : List UInt8} (h : PInv c s S recs) : KeepOk S recs := ⟨h.time, by have := h.len; have := h.recs; omega, by have := h.recs; omega⟩
theorem PInv.none {c : Cfg} {s s' : PSes} {S : PStore} {recs : List UInt8} (h : PInv c s S recs) (ht : s'.tx = none) (hw : s'.wait = s.wait) : PInv c s' S recs := ⟨(fun t e => by rw [ht] at e; cases e), h.time, h.len, h.recs, by rw [hw]; exact h.wait⟩
theorem PInv.same {c : Cfg} {s s' : PSes} {S : PStore} {recs : List UInt8} (h : PInv c s S recs) (ht : s'.tx = s.tx) (hw : s'.wait = s.wait) : PInv c s' S recs := ⟨fun t e => h.tx t (by rw [← ht]; exact e), h.time, h.len, h.recs, by rw [hw]; exact h.wait⟩
/-- what is said is short -/
def Short (ls : List (List UInt8)) : Prop := (∀ l ∈ ls, l.length ≤ 1000) ∧ ls.flatten.length ≤ 3000
theorem short_one {l : List UInt8} (h : l.length ≤ 1000) : Short [l] := ⟨fun x hx => by simp at hx; rw [hx]; exact h, by simp; omega⟩
theorem short_nil : Short [] := ⟨(fun x hx => by cases hx), by simp⟩
theorem itoa_len {n : Int} (h0 : 0 ≤ n) (h : n ≤ 4294967295) : (Lib.itoa n).length ≤ 10 := by
  unfold Lib.itoa
  rw [if_neg (by omega)]
  exact decDigits_len _ 9 (by omega)
theorem host_len {c : Cfg} (h : mayB c = true) : (hostOf c).length ≤ 255 := by
  have := (may_small h).host
  have e := bs_size (hostOf c)
  rw [bs_host] at e
  omega
theorem nodup_snoc {l : List (List UInt8)} {x : List UInt8} (h : l.Nodup) (hx : l.contains x = false) : (l ++ [x]).Nodup := by
  rw [List.nodup_append]
  refine ⟨h, by simp, fun a ha b hb e => ?_⟩
  simp at hb
  subst hb
  subst e
  have := List.contains_iff_mem.2 ha
  rw [this] at hx
  cases hx
theorem rcpt_short (tos : List (List UInt8)) (most : Int) (may : Bool) (name : List UInt8) : Short [rcptSays tos most may name] := by
  apply short_one
  unfold rcptSays
  split
  · decide
  · split
    · decide
    · split <;> decide
theorem rcpt_ok {t : PTx} {most : Int} (hm : most ≤ 10) (may : Bool) {name : List UInt8} (h : TxOk t) (hl : (t.tos.length : Int) ≤ most) (hn : isKeptB name = true) (hb : t.body = none) : TxOk { t with tos := rcptTos t.tos most may name } ∧ ((rcptTos t.tos most may name).length : Int) ≤ most := by
  unfold rcptTos
  split
  · exact ⟨⟨h.frm, h.tos, h.one, h.most, fun b e => by rw [show ({ t with tos := t.tos } : PTx).body = t.body from rfl, hb] at e; cases e⟩, hl⟩
  · rename_i hc
    split
    · exact ⟨⟨h.frm, h.tos, h.one, h.most, fun b e => by rw [show ({ t with tos := t.tos } : PTx).body = t.body from rfl, hb] at e; cases e⟩, hl⟩
    · rename_i hne
      split
      · refine ⟨⟨h.frm, fun x hx => ?_, nodup_snoc h.one (by simpa using hc), ?_, fun b e => by rw [show ({ t with tos := t.tos ++ [name] } : PTx).body = t.body from rfl, hb] at e; cases e⟩, ?_⟩
        · have hx : x ∈ t.tos ++ [name] := hx
          rw [List.mem_append] at hx
          rcases hx with hx | hx
          · exact h.tos x hx
          · simp at hx; rw [hx]; exact hn
        · show (t.tos ++ [name]).length ≤ 10
          rw [List.length_append]
          simp only [List.length_cons, List.length_nil]
          omega
        · rw [List.length_append]
          simp only [List.length_cons, List.length_nil]
          omega
      · exact ⟨⟨h.frm, h.tos, h.one, h.most, fun b e => by rw [show ({ t with tos := t.tos } : PTx).body = t.body from rfl, hb] at e; cases e⟩, hl⟩

theorem obeyS_inv {c : Cfg} {s : PSes} {S : PStore} {recs : List UInt8} (hc : mayB c = true) (h : PInv c s S recs) (k : PCmd) (hk : CmdOk k) (hnb : ∀ t, s.tx = some t → t.body = none) : PInv c (obeyS c s k).1 S recs ∧ (obeyS c s k).1.wait = s.wait ∧ Short (obeyS c s k).2 := by
  have hn := may_nums hc
  have hh := host_len hc
  have hi := itoa_len (n := c.size) (by omega) (by omega)
  obtain ⟨v, name, size, shown⟩ := k
  have hvs : v = 0 ∨ v = 1 ∨ v = 2 ∨ v = 3 ∨ v = 4 ∨ v = 5 ∨ v = 6 ∨ v = 7 ∨ v = 8 ∨ v = 9 ∨ v = 10 := by have := hk.verb; simp only at this; omega
  unfold obeyS
  simp only
  cases hr : readyS s v with
  | false => exact ⟨h, rfl, short_one (by decide)⟩
  | true =>
    simp only [Bool.true_eq_false, if_false]
    rcases hvs with rfl | rfl | rfl | rfl | rfl | rfl | rfl | rfl | rfl | rfl | rfl
    · exact ⟨h, rfl, short_one (by decide)⟩
    · exact ⟨h, rfl, short_one (by decide)⟩
    · exact ⟨h.same rfl rfl, rfl, short_one (by decide)⟩
    · exact ⟨h, rfl, short_one (by decide)⟩
    · exact ⟨h.none rfl rfl, rfl, short_one (by decide)⟩
    · cases ht : s.tx with
      | none => rw [show readyS s 5 = false by unfold readyS readyB; rw [ht]; rfl] at hr; cases hr
      | some t =>
        obtain ⟨ho, hm⟩ := h.tx t ht
        have h1 : 0 < t.tos.length := by
          unfold readyS readyB at hr
          rw [ht] at hr
          simp at hr
          exact hr.1
        refine ⟨⟨fun t' e => ?_, h.time, h.len, h.recs, h.wait⟩, rfl, short_one (by decide)⟩
        injection e with e
        subst e
        exact ⟨⟨ho.frm, ho.tos, ho.one, ho.most, fun b e => by injection e with e; subst e; exact ⟨h1, by simp⟩⟩, hm⟩
    · exact ⟨h.none rfl rfl, rfl, short_one (by simp only [List.length_append, List.length_cons, List.length_nil]; omega)⟩
    · refine ⟨h.none rfl rfl, rfl, fun l hl => ?_, ?_⟩
      · simp only [List.mem_cons, List.not_mem_nil, or_false] at hl
        rcases hl with rfl | rfl | rfl
        · simp only [List.length_append, List.length_cons, List.length_nil]; omega
        · simp only [List.length_append, List.length_cons, List.length_nil]; omega
        · decide
      · simp only [List.flatten_cons, List.flatten_nil, List.length_append, List.length_cons, List.length_nil]; omega
    · change PInv c (knowS c s shown).1 S recs ∧ (knowS c s shown).1.wait = s.wait ∧ Short (knowS c s shown).2
      unfold knowS
      split
      · exact ⟨h, rfl, short_one (by decide)⟩
      · split
        · exact ⟨h.same rfl rfl, rfl, short_one (by decide)⟩
        · exact ⟨h, rfl, short_one (by decide)⟩
    · change PInv c (mailS1 c s name (size : Int)).1 S recs ∧ (mailS1 c s name (size : Int)).1.wait = s.wait ∧ Short (mailS1 c s name (size : Int)).2
      unfold mailS1
      split
      · exact ⟨h, rfl, short_one (by decide)⟩
      · split
        · exact ⟨h, rfl, short_one (by decide)⟩
        · refine ⟨⟨fun t e => ?_, h.time, h.len, h.recs, h.wait⟩, rfl, short_one (by decide)⟩
          injection e with e
          subst e
          exact ⟨⟨hk.name, (fun x hx => by cases hx), List.nodup_nil, Nat.zero_le _, (fun b e => by cases e)⟩, by show (0 : Int) ≤ _; omega⟩
    · cases ht : s.tx with
      | none => rw [show readyS s 10 = false by unfold readyS readyB; rw [ht]; rfl] at hr; cases hr
      | some t =>
        obtain ⟨ho, hm⟩ := h.tx t ht
        refine ⟨⟨fun t' e => ?_, h.time, h.len, h.recs, h.wait⟩, rfl, rcpt_short _ _ _ _⟩
        injection e with e
        subst e
        exact rcpt_ok (by omega) _ ho hm (hk.rcpt rfl) (hnb t ht)

theorem add_len {b : PBody} {text : List UInt8} {bad : Bool} {size : Int} (h : b.text.length ≤ 1102) (hs : size ≤ 1000) (ht : text.length ≤ 100) : (b.add text bad size).text.length ≤ 1102 := by
  unfold PBody.add
  have := trimDot_le text
  split
  · exact h
  · rename_i hlt
    show ((if b.has then b.text ++ [13, 10] else b.text) ++ trimDot text).length ≤ 1102
    rw [List.length_append]
    split
    · rw [List.length_append]; simp only [List.length_cons, List.length_nil]; omega
    · omega
theorem frameE_len (l : List UInt8) : (frameE l).length = 8 + l.length := by unfold frameE; simp only [List.length_append, beBytes_len]; omega
theorem hearBS_inv {c : Cfg} {s : PSes} {S : PStore} {recs : List UInt8} (hc : mayB c = true) (h : PInv c s S recs) {t : PTx} (ht : s.tx = some t) {b : PBody} (hb : t.body = some b) (text : List UInt8) (bad : Bool) (htl : text.length ≤ 100) :
    PInv c (hearBS c s S recs t b text bad).1 (hearBS c s S recs t b text bad).2.1 (hearBS c s S recs t b text bad).2.2.1 ∧ (hearBS c s S recs t b text bad).1.wait = s.wait ∧ Short (hearBS c s S recs t b text bad).2.2.2 := by
  have hn := may_nums hc
  obtain ⟨ho, hm⟩ := h.tx t ht
  have hbl := (ho.body b hb)
  unfold hearBS
  split
  · unfold endS
    split
    · exact ⟨h.none rfl rfl, rfl, short_one (by decide)⟩
    · split
      · exact ⟨h.none rfl rfl, rfl, short_one (by decide)⟩
      · split
        · rename_i hkb
          have hroom : ((recs.length + (8 + (mailE (newM S t.frm t.tos b.text)).length) : Nat) : Int) ≤ c.room := by
            unfold keepB at hkb
            simp only [Bool.not_eq_true', decide_eq_false_iff_not] at hkb
            omega
          have hfl := frameE_len (mailE (newM S t.frm t.tos b.text))
          have hlen := h.len
          have hrec := h.recs
          refine ⟨⟨(fun t' e => by cases e), h.time, ?_, ?_, h.wait⟩, rfl, short_one ?_⟩
          · show (S.plus _).items.length ≤ (recs ++ frameE _).length
            rw [plus_len, List.length_append, hfl]; omega
          · show (recs ++ frameE _).length ≤ 1048576
            rw [List.length_append, hfl]; omega
          · have := itoa_len (n := (S.items.length : Int) + 1) (by omega) (by omega)
            simp only [List.length_append, List.length_cons, List.length_nil]; omega
        · exact ⟨h.none rfl rfl, rfl, short_one (by decide)⟩
  · refine ⟨⟨fun t' e => ?_, h.time, h.len, h.recs, h.wait⟩, rfl, short_nil⟩
    injection e with e
    subst e
    exact ⟨⟨ho.frm, ho.tos, ho.one, ho.most, fun b' e => by injection e with e; subst e; exact ⟨hbl.1, add_len hbl.2 (by omega) htl⟩⟩, hm⟩
theorem hearLS_inv {c : Cfg} {s : PSes} {S : PStore} {recs : List UInt8} (hc : mayB c = true) (h : PInv c s S recs) (text : List UInt8) (bad : Bool) (htl : text.length ≤ 100) :
    PInv c (hearLS c s S recs text bad).1 (hearLS c s S recs text bad).2.1 (hearLS c s S recs text bad).2.2.1 ∧ (hearLS c s S recs text bad).1.wait = s.wait ∧ Short (hearLS c s S recs text bad).2.2.2 := by
  have cmd : (∀ t, s.tx = some t → t.body = none) → _ := fun hnb => obeyS_inv hc h (readC text bad) (readC_ok text bad) hnb
  cases ht : s.tx with
  | none =>
    have e : hearLS c s S recs text bad = ((obeyS c s (readC text bad)).1, S, recs, (obeyS c s (readC text bad)).2) := by unfold hearLS; rw [ht]
    rw [e]
    exact cmd (fun t e => by rw [ht] at e; cases e)
  | some t =>
    cases hb : t.body with
    | none =>
      have e : hearLS c s S recs text bad = ((obeyS c s (readC text bad)).1, S, recs, (obeyS c s (readC text bad)).2) := by unfold hearLS; rw [ht]; simp only; rw [hb]
      rw [e]
      exact cmd (fun t' e => by rw [ht] at e; injection e with e; subst e; exact hb)
    | some b =>
      have e : hearLS c s S recs text bad = hearBS c s S recs t b text bad := by unfold hearLS; rw [ht]; simp only; rw [hb]
      rw [e]
      exact hearBS_inv hc h ht hb text bad htl
end Go.Proofs.YtadcidbeealdpaaGreatDoor

/- A piece is heard. -/
namespace Go.Proofs.YtadcidbeealdpaaGreatDoor
open Go.RowKit

theorem lineS_ok (l : List UInt8) : (lineS l).1.length ≤ 100 ∧ ((lineS l).2 = false → asciiL (lineS l).1) := by
  unfold lineS
  split
  · exact ⟨by simp, fun e => by cases e⟩
  · rename_i h
    simp only [Bool.or_eq_true, decide_eq_true_eq, List.any_eq_true, not_or, not_exists, not_and] at h
    refine ⟨by show l.length ≤ 100; omega, fun _ x hx => ?_⟩
    have := h.2 x hx
    unfold badB at this
    simp only [Bool.or_eq_true, decide_eq_true_eq, not_or] at this
    omega
section
variable {E : Nat → Prop} {pp pb mb sb ch bl : Nat} {c : Cfg} {w : World} {A : Nat → Prop} {q : Nat → Nat} {vr : Value} {S : PStore} {recs : List UInt8} {vw v : Value} {acc : List UInt8} {ls : List (List UInt8)} {s : PSes}
theorem hearL_any (h : HearW E pp pb mb sb ch bl c w A q vr S recs vw v acc [] s) (hp : PInv c s S recs) (text : List UInt8) (bad : Bool) (htl : text.length ≤ 100) (hta : bad = false → asciiL text) (hal : acc.length ≤ 1099511627776) :
    Calls Tryz.prog 28 #[.pointer (some ⟨sb, 0, none⟩), .agg #[.string (bs text), .bool bad], .pointer (some ⟨bl, 0, none⟩)] w fun e w' => e = .returned (.tuple #[]) ∧ HeardPost E A pp pb mb sb ch bl c q vr S vw v w (hearLS c s S recs text bad).1 (hearLS c s S recs text bad).2.1 (hearLS c s S recs text bad).2.2.1 (acc ++ (hearLS c s S recs text bad).2.2.2.flatten) w' := by
  obtain ⟨_, i2, i3⟩ := hearLS_inv h.env.may hp text bad htl
  cases ht : s.tx with
  | none =>
    have e : hearLS c s S recs text bad = ((obeyS c s (readC text bad)).1, S, recs, (obeyS c s (readC text bad)).2) := by unfold hearLS; rw [ht]
    rw [e] at i2 i3 ⊢
    exact hearL_cmd h (fun t e => by rw [ht] at e; cases e) text bad (by omega) hta i3.1 i3.2 hal i2
  | some t =>
    cases hb : t.body with
    | none =>
      have e : hearLS c s S recs text bad = ((obeyS c s (readC text bad)).1, S, recs, (obeyS c s (readC text bad)).2) := by unfold hearLS; rw [ht]; simp only; rw [hb]
      rw [e] at i2 i3 ⊢
      exact hearL_cmd h (fun t' e => by rw [ht] at e; injection e with e; subst e; exact ⟨hb, (hp.tx t ht).1.most⟩) text bad (by omega) hta i3.1 i3.2 hal i2
    | some b =>
      have e : hearLS c s S recs text bad = hearBS c s S recs t b text bad := by unfold hearLS; rw [ht]; simp only; rw [hb]
      rw [e] at i2 i3 ⊢
      exact hearL_body h hp.keep ht (hp.tx t ht).1 hb text bad (by omega) i3.1 i3.2 hal i2
end
/-- one byte more -/
def stepB (c : Cfg) (x : PSes × PStore × List UInt8 × List UInt8) (b : UInt8) : PSes × PStore × List UInt8 × List UInt8 :=
  if x.1.over then x else
  match takeS x.1.wait b with
  | (wt, none) => ({ x.1 with wait := wt }, x.2.1, x.2.2.1, x.2.2.2)
  | (wt, some l) => ((hearLS c { x.1 with wait := wt } x.2.1 x.2.2.1 l.1 l.2).1, (hearLS c { x.1 with wait := wt } x.2.1 x.2.2.1 l.1 l.2).2.1, (hearLS c { x.1 with wait := wt } x.2.1 x.2.2.1 l.1 l.2).2.2.1, x.2.2.2 ++ (hearLS c { x.1 with wait := wt } x.2.1 x.2.2.1 l.1 l.2).2.2.2.flatten)
def hearS (c : Cfg) (x : PSes × PStore × List UInt8 × List UInt8) (piece : List UInt8) : PSes × PStore × List UInt8 × List UInt8 := piece.foldl (stepB c) x
theorem takeS_ok (wait : List UInt8) (b : UInt8) : (takeS wait b).1.length ≤ 102 ∧ ∀ l, (takeS wait b).2 = some l → l.1.length ≤ 100 ∧ (l.2 = false → asciiL l.1) := by
  unfold takeS
  split
  · refine ⟨by simp, fun l e => ?_⟩
    injection e with e
    rw [← e]
    exact lineS_ok _
  · exact ⟨shortS_len _, fun l e => by cases e⟩
theorem stepB_inv {c : Cfg} (hc : mayB c = true) {x : PSes × PStore × List UInt8 × List UInt8} (h : PInv c x.1 x.2.1 x.2.2.1) (b : UInt8) : PInv c (stepB c x b).1 (stepB c x b).2.1 (stepB c x b).2.2.1 ∧ (stepB c x b).2.2.2.length ≤ x.2.2.2.length + 3000 := by
  unfold stepB
  split
  · exact ⟨h, by omega⟩
  · have ht := takeS_ok x.1.wait b
    rcases hx : takeS x.1.wait b with ⟨wt, o⟩
    rw [hx] at ht
    have hw : PInv c { x.1 with wait := wt } x.2.1 x.2.2.1 := ⟨h.tx, h.time, h.len, h.recs, ht.1⟩
    cases o with
    | none => exact ⟨hw, Nat.le_add_right _ _⟩
    | some l =>
      obtain ⟨i1, _, i3⟩ := hearLS_inv hc hw l.1 l.2 (ht.2 l rfl).1
      refine ⟨i1, ?_⟩
      show (x.2.2.2 ++ (hearLS c { x.1 with wait := wt } x.2.1 x.2.2.1 l.1 l.2).2.2.2.flatten).length ≤ _
      rw [List.length_append]
      exact Nat.add_le_add_left i3.2 _
theorem hearS_inv {c : Cfg} (hc : mayB c = true) : ∀ (piece : List UInt8) (x : PSes × PStore × List UInt8 × List UInt8), PInv c x.1 x.2.1 x.2.2.1 → PInv c (hearS c x piece).1 (hearS c x piece).2.1 (hearS c x piece).2.2.1 ∧ (hearS c x piece).2.2.2.length ≤ x.2.2.2.length + 3000 * piece.length
  | [], x, h => ⟨h, by show x.2.2.2.length ≤ _; omega⟩
  | b :: r, x, h => by
    obtain ⟨i1, i2⟩ := stepB_inv hc h b
    obtain ⟨j1, j2⟩ := hearS_inv hc r (stepB c x b) i1
    refine ⟨j1, ?_⟩
    show (hearS c (stepB c x b) r).2.2.2.length ≤ _
    rw [List.length_cons]
    omega
theorem hearS_over {c : Cfg} {x : PSes × PStore × List UInt8 × List UInt8} (h : x.1.over = true) : ∀ piece, hearS c x piece = x
  | [] => rfl
  | b :: r => by
    show hearS c (stepB c x b) r = x
    have : stepB c x b = x := by unfold stepB; rw [h]; rfl
    rw [this]
    exact hearS_over h r
theorem hearS_take (c : Cfg) (x : PSes × PStore × List UInt8 × List UInt8) (piece : List UInt8) (k : Nat) (h : k < piece.length) : hearS c x (piece.take (k + 1)) = stepB c (hearS c x (piece.take k)) piece[k] := by
  unfold hearS
  rw [List.take_succ_eq_append_getElem h, List.foldl_append]
  rfl
end Go.Proofs.YtadcidbeealdpaaGreatDoor
